import PyProof.Rows.All
import Wide.All
import Wide.FinOn
import OpenK.XOpen
import OpenK.KWalk
import OpenK.KMake
import OpenK.KOwn
import OpenK.KRaiseN
import OpenK.Peek
import OpenK.KCall
import OpenK.KGet
import KE.KIsAll
import KE.KBytesAny
import KE.BytesK
import KE.KxBytes
import KE.KDictOf
import KE.KItem
import Lean
import PyProof.EqAt
import PyProof.EqKinds
import PyProof.TupleCall
import KE.KLam
import KE.KMinKey
import KE.KDictList
import KE.KRevIter
import PyProof.WalksMore
import PyProof.Rows.SetFrom
import KE.KSortTup
import KE.KDictSum
import PyProof.DictUpdate
import PyProof.FString
import PyProof.StrCalls
import PyProof.StrCalls2
import PyProof.StrCalls3
import PyProof.SliceStr2
import KE.KIntText
import PyProof.StrWalks
import PyProof.StrBlock2
import Open.Tops
import PySem.Challenge.RW_heraldways_k09_read_or_refused
set_option Elab.async false
set_option linter.all false
set_option maxRecDepth 100000
abbrev L:=@List
abbrev j0:PySem.Obj:={cls:=.type "list",dict:=none,data:=.seq ([]:List PySem.Value).toArray}
abbrev L0:=PySem.W.Frag
abbrev L1:=L (PySem.Addr×PySem.Obj)
abbrev L3:=PySem.Value->PySem.Shared->Prop
abbrev L4:=L (Int×Int)
local macro_rules|`(tactic|ac_rfl)=>`(tactic|(constructor<;>first|rfl|decide +kernel))
local macro_rules|`(command|def $i:declId $s:optDeclSig $v:declVal)=>`(command|noncomputable def $i:declId $s:optDeclSig $v:declVal)
local macro_rules|`(command|@[simp]def $i:declId $s:optDeclSig $v:declVal)=>`(command|@[simp]noncomputable def $i:declId $s:optDeclSig $v:declVal)
local macro_rules|`(command|abbrev $i:declId $s:optDeclSig $v:declVal)=>`(command|noncomputable abbrev $i:declId $s:optDeclSig $v:declVal)
open Prod renaming mk→J9
open Option renaming some→J,none→G
open Unit renaming unit→j2
local macro_rules|`(command|def $i:declId $s:optDeclSig:=by $t)=>`(command|theorem $i:declId $(⟨.node .none ``Lean.Parser.Command.declSig #[s.raw[0],s.raw[1][0]]⟩):declSig:=by $t)
local macro_rules|`(tactic|ext $x:rintroPat*)=>do{let l:=x.map λx=>(⟨x.raw[0][0]⟩:Lean.Ident);`(tactic|unfold $l*)}
local macro_rules|`(())=>`(by first|(simp;done)|decide)
local macro_rules|`(∅)=>`(by omega)
local macro_rules|`(($a,$b))=>`(⟨$a,$b⟩)|`(($a,$b,$c,*))=>`(⟨$a,$b,$c,*⟩)
local macro_rules|`(tactic|let $d:letDecl)=>do{let s:=d.raw[0];let p<-s[0].rewriteBottomUpM λs=>match s.getKind with|`ident=>`(rcasesPat|$(⟨s⟩):ident)|``Lean.Parser.Term.hole=>`(rcasesPat|_)|``Lean.Parser.Term.tuple=>do{let l<-(#[s[1][0]]++s[1][2].getSepArgs).mapM λx=>`(Lean.Parser.Tactic.rcasesPatLo|$(⟨x⟩):rcasesPat);`(rcasesPat|⟨$l,*⟩)}|_=>pure s;if s.isOfKind ``Lean.Parser.Term.letPatDecl then`(tactic|obtain $(⟨p⟩):rcasesPat:=$(⟨s[4]⟩)) else Lean.Macro.throwUnsupported}
def on:=@List.mem_cons_of_mem
def Xv:=@List.length_map
def Xw:=@List.mem_cons_self
def Xx:=@if_pos
def Xy:=@if_neg
def Xz:=@List.map_cons
def XA:=@PySem.wpAny_bind
def XB:=@PySem.Heap.get?_push_of_some
def XC:=@List.mem_cons
def XD:=@List.length_cons
def XE:=@List.mem_append_right
def XF:=@List.length_append
def XG:=@List.mem_map
def XH:=@Nat.le_refl
def XI:=@PySem.Heap.lt_size
def XJ:=@List.mem_append
def XM:=@List.mem_singleton
def XN:=@List.size_toArray
def XO:=@Bool.false_ne_true
def XQ:=@PySem.wpAny_pure
def XR:=@PySem.W.mg_of
def XS:=@List.getElem?_eq_getElem
def XT:=@PySem.F.plainAttrs_list
def XU:=@PySem.Heap.get?_push_size
def XV:=@List.getD_eq_getElem?_getD
def XW:=@PySem.F.plainAttrs_str
def XX:=@PySem.Str.length_append
def XY:=@List.append_nil
def XZ:=@List.getElem?_eq_some_iff
def X0:=@Nat.lt_of_lt_of_le
def X3:=@PySem.Heap.get?_update_other
def X4:=@Nat.ne_of_lt
def X5:=@List.getElem?_eq_none
def X6:=@decide_eq_false
def X7:=@List.map_map
def X8:=@List.map_append
def X9:=@Option.map_eq_some_iff
def Yb:=@Int.emod_lt_of_pos
def Yc:=@Option.some.inj
def Yd:=@Bool.and_eq_true_iff
def Ye:=@List.getElem?_map
def Yg:=@List.append_assoc
def Yh:=@PySem.W.mg_none_of
def Yi:=@Int.emod_nonneg
def Yj:=@PySem.F.slot_list_append
def Yk:=@PySem.F.type_list_append
def Yl:=@List.mem_append_left
def Ym:=@PySem.StrLaws.glued_eq_join
def Yn:=@decide_eq_true
def Yo:=@Array.getD_eq_getD_getElem?
def Yp:=@PySem.F.slot_str_join
def Yq:=@PySem.F.type_str_join
def Yr:=@List.nodup_cons
def Yt:=@Nat.lt_of_le_of_lt
def Yu:=@List.length_filter_le
def Yv:=@beq_eq_false_iff_ne
def Yw:=@Nat.le_trans
def Yx:=@List.lookup_cons
def Yy:=@Array.getElem?_eq_getElem
def Yz:=@Nat.le_of_lt
def YA:=@List.map_nil
def YB:=@List.mem_filter
def YC:=@PySem.W.hideAll_get
def YD:=@Array.length_toList
def YE:=@of_decide_eq_true
def YF:=@List.nodup_nil
def YG:=@List.getElem?_eq_none_iff
def YH:=@PySem.wpAny_loadPart_at
def YI:=@Prod.mk.inj
def YJ:=@Array.getElem?_toList
def YK:=@PySem.F.slot_list_extend
def YL:=@PySem.F.type_list_extend
def YM:=@Nat.zero_le
def YN:=@List.all_eq_true
def YO:=@PySem.wpAny_mono
def YQ:=@List.map_congr_left
def YR:=@List.length_set
def YS:=@Ne.symm
def YT:=@beq_self_eq_true
def YU:=@List.getElem_mem
def YV:=@decide_eq_true_iff
def YW:=@Nat.lt_irrefl
def YX:=@PySem.wpAny_typeNameOfWhole_keyiter
def YY:=@List.length_eq_zero_iff
def YZ:=@List.eraseIdx_cons_succ
def Y0:=@PySem.mem_of_lookup
def Y1:=@List.getElem?_set_self
def Y2:=@PySem.wpAny_Call_Name_kw
def Y3:=@PySem.Obj.data_mapFields
def Y4:=@List.length_singleton
def Y5:=@PySem.Heap.get?_update_self
def Y6:=@PySem.wpAny_execs_nil
def Y7:=@PySem.wpAny_passesOwn
def Y8:=@List.nodup_append
def Y9:=@PySem.wpAny_comprehension_free
def Za:=@PySem.wpAny_typeNameOf_keyiter
def Zb:=@PySem.wpAny_isSubtype_exc
def Zc:=@List.filterMap_cons
def Zd:=@Bool.and_eq_true
def Ze:=@List.filter_cons
def Zf:=@PySem.W.of_hideAll
def Zg:=@Bool.false_eq_true
def Zh:=@Bool.eq_iff_iff
def Zi:=@List.find?_cons
def Zj:=@PySem.wpAny_truthy_bool
def Zk:=@PyProof.Rows.callWith_type1
def Zl:=@List.mem_range
def Zm:=@PySem.Heap.get?_none_of_le
def Zn:=@List.getElem?_set_ne
def Zo:=@PySem.sizeLine_eq
def Zp:=@List.getElem?_append_right
def Zq:=@PySem.Calls.evalArgs_plain
def Zr:=@Array.getElem?_eq_some_iff
def Zs:=@List.cons_append
def Zt:=@List.getElem?_append_left
def Zu:=@List.pairwise_iff_getElem
def Zv:=@PySem.Heap.SameBut.update
def Zw:=@List.getD_cons_succ
def Zx:=@Option.isSome_iff_exists
def Zy:=@PySem.wpAny_holding
def Zz:=@List.mem_filterMap
def ZA:=@PySem.W.callWith_K
def ZB:=@PySem.tupleKind_room_in1
def ZC:=@List.pairwise_cons
def ZD:=@List.filter_append
def ZE:=@List.getElem?_replicate
def ZF:=@List.getElem?_cons_succ
def ZG:=@PySem.Heap.size_push
def ZH:=@PySem.codeAny_mono
def ZI:=@PySem.wpAny_tryCatch
def ZJ:=@List.length_range
def ZK:=@PySem.F.slot_str_split
def ZL:=@PySem.F.type_str_split
def ZM:=@List.flatMap_cons
def ZN:=@Array.getElem?_setIfInBounds_ne
def ZO:=@PySem.F.slot_dict_get
def ZP:=@PySem.Obj.isFreed_of_fields
def ZQ:=@PySem.wpAny_execs_cons
def ZR:=@beq_iff_eq
def ZS:=@Nat.lt_succ_self
def ZT:=@List.length_take
def ZU:=@List.drop_length
def ZV:=@List.length_drop
def ZW:=@List.mem_flatMap
def ZX:=@PySem.Paired.length
def ZY:=@PySem.wpAny_standAt
def ZZ:=@List.any_cons
def Z0:=@List.mem_of_getElem?
def Z1:=@if_false
def Z2:=@PySem.Around.under_plainId
def Z3:=@PySem.StrLaws.strSliceIndices_plain
def Z4:=@List.mem_of_mem_take
def Z5:=@List.mem_of_mem_drop
def Z6:=@List.length_nil
def Z7:=@Option.map_some
def Z8:=@PySem.W.plainGet_of
def Z9:=@List.getElem?_range
def Aa0:=@ne_true_of_eq_false
def Aa1:=@PyProof.Rows.signs_ofString
def Aa2:=@PySem.wpAny_Name
def Aa4:=@Int.fdiv_eq_ediv_of_nonneg
def Aa5:=@PySem.Calls.spliced_cons
def Aa6:=@PySem.typeIs_str
def Aa7:=@PySem.call_meets
def Aa8:=@PySem.wpAny_setField
def Aa9:=@List.contains_cons
def Ab0:=@List.zip_cons_cons
def Ab1:=@PySem.F.args_str_split_2
def Ab2:=@PySem.F.excBase_ValueError
def Ab3:=@List.perm_ext_iff_of_nodup
def Ab5:=@PySem.wpAny_pyIter_list
def Ab6:=@Nat.lt_succ_of_lt
def Ab7:=@PySem.wpAny_newObj_type
def Ab8:=@List.ext_getElem?
def Ab9:=@PySem.F.entry_str_split
def Ac0:=@PySem.plainId_quiet
def Ac1:=@List.set_eq_of_length_le
def Ac2:=@List.map_take
def Ac3:=@PySem.F.args_dict_get_3
def Ac4:=@Option.bind_eq_some_iff
def Ac5:=@PySem.F.slot_str_split
def Ac6:=@PySem.W.cellsFrom_some
def Ac7:=@PySem.F.entry_dict_get
def Ad1:=@Array.getElem?_eq_none
def Ad2:=@List.range_succ_eq_map
def Ad3:=@Nat.succ.inj
def Ad4:=@List.take_of_length_le
def Ad5:=@PySem.W.funFrames_hide
def Ad6:=@PySem.codeAny_builtin
def Ad7:=@PySem.wpAny_updateSeq
def Ad8:=@Array.Perm.refl
def Ad9:=@List.filter_nil
def Ae1:=@PySem.W.methodCall_KW
def Ae4:=@List.length_replicate
def Ae6:=@List.contains_iff_mem
def Ae7:=@Bool.beq_eq_decide_eq
def Ae8:=@List.Perm.append_left
def Ae9:=@congrFun
def Af3:=@PySem.wpAny_letGo
def Af4:=@List.take_zero
def Ag5:=@Prod.mk.injEq
def Ag6:=@List.all_cons
def Ag7:=@List.map_drop
namespace HD
open PySem PySem.W PyProof.Rows
def top(p:Program)(i:Nat):Stmt:=p.main.body.getD i (.Pass (0,0,0,0))
def iC(s:Stmt)(j:Nat):Stmt:=match s with
 |.ClassDef _ _ _ body _ _ _ _ _ _ _=>body.getD j (.Pass (0,0,0,0))
 |_=> .Pass (0,0,0,0)
def dA(s:Stmt):Arguments:=match s with
 |.FunctionDef _ a _ _ _ _ _ _ _ _=>a
 |_=>{posonlyargs:=[],args:=[],vararg:=G,kwonlyargs:=[],kw_defaults:=[],kwarg:=G,defaults:=[]}
def dB(s:Stmt):L Stmt:=match s with
 |.FunctionDef _ _ b _ _ _ _ _ _ _=>b
 |_=>[]
def dS(s:Stmt):Scope:=match s with
 |.FunctionDef _ _ _ _ _ _ sc _ _ _=>sc
 |_=>{kind:=.function,names:=[],isGenerator:=false,isCoroutine:=false}
def Nu(b:L Addr)(h:Heap):Frag:=b.filterMap λa=>(h.get? a).map λo=>(a,o)
def Nr(c:L Addr)(h:Heap):(Nu c h).In h:=by
 intro a o e
 induction c with
 |nil=>cases e
 |cons b c d=>
   unfold Nu at e;rw[List.filterMap_cons]at e;cases q:h.get? b with
   |none=>
     rw[q]at e;exact d e
   |some x=>
     rw[q]at e;replace e:List.lookup a ((b,x)::Nu c h)=J o:=e;rw[Yx]at e;by_cases z:a=b
     .subst z;rw[YT a]at e;cases e;exact q
     .rw[Yv.mpr z]at e;exact d e
abbrev Xr:=Str×Str×Arguments×FuncBody×Scope×Addr×L (Str×Addr)×Value×Addr×Bool
def fnO(K:Frag)(f:Addr)(q:Str):Option Xr:=match K.lookup f with
 |some (_,_,.func fd,_)=>J (fd.name,fd.qualname,fd.params,fd.body,fd.scope,fd.globals,fd.closure,fd.defaults,fd.builtins,codeIn K fd.code q)
 |_=>G
def fnE(x q:Str)(st:Stmt):Option Xr:=J (x,q,dA st,.stmts (dB st),dS st,mainGlobals,[],.none,builtinsNs,true)
def fn_of{K:Frag}{f:Addr}{x q:Str}{st:Stmt}(h:fnO K f q=fnE x q st):∃(oc:Value) (c:Option Addr) (kV d pm:Value) (an:Option Addr) (b ct:Value) (a:Array (Option Value)),
 K.lookup f=J (oc,c,.func (fnOf x q (dA st) (dB st) (dS st) .none kV d pm an b ct),a)/\codeIn K b q=true:=by
 unfold fnO at h;split at h
 · next oc c fd a e=>
   let(n,k,pr,bd,sc,l,cl,m,g,j,pm,an,cd,ct,o):=fd;unfold fnE at h;simp only[Option.some.injEq,Prod.mk.injEq]at h;let(rfl,rfl,rfl,rfl,rfl,rfl,rfl,rfl,rfl,i):=h;exact(oc,c,g,j,pm,an,cd,ct,a,e,i)
 .exact nomatch h
def fn_keep{K:Frag}{f:Addr}{x q:Str}{st:Stmt}(h:fnO K f q=fnE x q st):keepIn K (.ref f)=true:=by
 let(oc,d,kV,b,pm,an,c,ct,a,e,_):=fn_of h;show(match K.lookup f with|some (_,_,.func _,_)=>true|some (_,_,.cls _,_)=>specialIn K (.ref f) "__call__" == J (J (.builtin "type.__call__"))|_=>false)=true;rw[e]
def jb(K:Frag)(C:Addr):L Value:=match K.lookup C with
 |some (_,_,.cls cd,_)=>cd.mro
 |_=>[]
def gC(K:Frag)(C:Addr):Bool:=excIn K C [.type "ValueError",.type "Exception",.type "BaseException",.type "object"] "ValueError.__new__"
def excAt(K:Frag)(D:Addr):Bool:=findIn K (.ref D) "__getattribute__" == J (J (.builtin "BaseException.__getattribute__"))&&(findIn K (.ref D) "__getattr__" == J G&&(findIn K (.ref D) "__class__" == J (J (.builtin "object.__class__")) &&
 (specialIn K (.builtin "object.__class__") "__get__" == J (J (.builtin "getset_descriptor.__get__"))&&(takesIn K (.builtin "object.__class__")==J true&&(mroIn K D (.type "object")==J true&&(mroIn K D (.type "BaseException")==J true&&(clsIn K D).isSome))))))
abbrev Ob:=L (Option (Option Value))×L (Option (Option Value))×L Bool×L (Option Xr)×L (Bool×L Value)×L (Option Bool)
def cls(K:Frag)(C:Addr):Bool:=plainGet K C Str.empty&&(hasDictIn K C&&(plainOver K C&&(makesIn K C&&keepIn K (.ref C))))
def obK(ns:L Str)(M:L (Addr×Str))(fs a:L Addr)(ds:L (Addr×Str))(es:L Addr)(ks:L (Addr×Value))(K:Frag):Ob:=
 (ns.map (nsIn K mainGlobals),M.map (λp=>findIn K (.ref p.1) p.2),(fs.map λf=>isFn K (.ref f))++a.map (cls K),ds.map (λp=>fnO K p.1 p.2),es.map (λC=>(gC K C&&excAt K C,jb K C)),ks.map λp=>kitOne K (.ref p.1) p.2)
def ob(n:L Addr)(ns:L Str)(M:L (Addr×Str))(fs a:L Addr)(ds:L (Addr×Str))(es:L Addr)(ks:L (Addr×Value))(s:Shared):Ob:=obK ns M fs a ds es ks (Nu n s.heap)
def two{W X O:Type}{o:Option W}{f:W->X}{g:W->O}{a:X}{b:O}(c:o.map f=J a)(d:o.map g=J b):o.map (λs=>(J9 (f s) (g s)))=J (J9 a b):=by
 cases o with
 |none=>cases c
 |some s=>cases c;cases d;rfl
def nth{W:Type}{l m:L W}(h:l=m)(i:Nat){a b:W}(d:l[i]?=J a)(c:m[i]?=J b):a=b:=by
 subst h;rw[d]at c;exact Yc c
def cls_of{K:Frag}(h:cls K C=true):plainGet K C Str.empty=true/\hasDictIn K C=true/\plainOver K C=true/\makesIn K C=true/\keepIn K (.ref C)=true:=by
 unfold cls at h;simpa only[Bool.and_eq_true] using h
theorem walkX{XP:(Str->Option Value)->Heap->Prop}{run:Value->L Value->Sem Value}
 (W:∀K:Frag,obK ns M fs g ds es ks K=E->WalkO q loose XP (λ_ h=>K.In h) r d c run):WalkX q loose XP (ob n ns M fs g ds es ks) (λ_=>E) r d c run:=
 λw s0 i mg j Cv y a o pm cd e u kV t s p m l k args b f I0 B A z x v=>W _ y w s0 i mg j Cv ((Nr _ _).keeps I0.keeps) a o pm cd e u kV t s p m l k args b f B A z x v
end HD
namespace HS
open PySem PySem.W PyProof.Rows
noncomputable def s0(w:World)(os:OsState):Shared:=(boot_heap w.params,Array.mk [],boot_drawn,boot_toks,os)
def mid(x:Shared):Option (Shared×Thread)->Shared
 |some (s,_)=>s
 |none=>x
def lz(x:SharedT):Option (Flow×SharedT×Code×Pos)->SharedT
 |some (_,s,_)=>s
 |none=>x
noncomputable def look{W:Type}(p:Program)(w:World)(f:Shared->W)(o:Option Shared):Option W:=o.bind λa=>match staticsOk (importedModules p.main.body) (boot_heap w.params) a.heap&&namesBound p a.heap&&gensDone a&&laidKept (boot_heap w.params) a.heap with
 |true=>J (f a)
 |false=>G
section
variable{p:Program}{w:World}{os:OsState}{m0:Nat}{ann:Option Value}{env:PySem.Env}{q posA posB pos1 pos2:Pos}{b l1 l2:L Stmt}{sA:Shared}{sB s1 s2:SharedT}{k0 kb k1 k2:Nat}
theorem first(pre:topGo treeTable p w m0 ann k0 (s0 w os) (topStub p)=J (sA,(denote treeTable (.body b env),.body b env,posA,[topFrame q])))
 (Ph:segRun treeTable p w m0 ann 1 kb sA (blockOf b env (.body b env) posA [topFrame q])=J (.next,sB.abs,.body b env,posB))   (h:topRun treeTable p w m0 ann N sB.abs (restOf b env (.body b env) posB [topFrame q])=J r):
 topRun treeTable p w m0 ann (k0+(kb+N)) (s0 w os) (topStub p)=J r:=go_top pre (piece_block Ph h)
theorem Ug(g:segRunT treeTable p w m0 ann 1 k1 s1 (piecesOf l1 env c pos1 [topFrame q])=J (.next,s2,c,pos2))(h:topRun treeTable p w m0 ann N s2.abs (restOf l2 env c pos2 [topFrame q])=J r):
 topRun treeTable p w m0 ann (k1+N) s1.abs (restOf (l1++l2) env c pos1 [topFrame q])=J r:=piece_app (segRun_of g) h
end
theorem ends{good:World->W}
 (b:∀w:World,(fencedOpening treeTable p w N).map (λs=>(J9 s.heap (J9 s.gens (J9 s.drawn s.toks))))=J (J9 (boot_heap w.params) (J9 (Array.mk []) (J9 boot_drawn boot_toks))))
 (size:∀w:World,(J9 ((boot_heap w.params).isNs mainGlobals && (Array.mk []:Array GenState).size == 0) (J9 ((boot_heap w.params).objs.size) ((boot_heap w.params).nsMap mainGlobals "__annotations__")))=(J9 true (J9 i g)))
 (run:∀(w:World) (os:OsState),∃a,topRun treeTable p w i g M (s0 w os) (topStub p)=J a/\look p w f (J a)=J (good w)) (q:M<=N):∀w:World,(openEnds treeTable p w N).map f=J (good w):=λw=>by
 let((h,n,d,k,os),e,o):=X9.mp (b w);obtain⟨rfl,rfl,rfl,rfl⟩:h=boot_heap w.params/\n=Array.mk []/\d=boot_drawn/\k=boot_toks:=by simpa using o
 obtain⟨m,l,j⟩:_/\_/\_:=by simpa only[Ag5] using size w
 let(a,r,lk):=run w os;have r:=topRun_mono (N-M) _ _ _ _ r;rw[show M+(N-M)=N by omega]at r;ext openEnds;rw[e];show(topFrom treeTable p w N _).map f=_;ext topFrom;dsimp only;rw[m,l,j];show((topRun treeTable p w i g N (s0 w os) (topStub p)).bind _).map f=_;rw[r];unfold look at lk;dsimp only[Option.bind]at lk ⊢;cases c:staticsOk (importedModules p.main.body) (boot_heap w.params) a.heap&&namesBound p a.heap&&gensDone a&&laidKept (boot_heap w.params) a.heap with
 |true=>rw[c]at lk;exact lk
 |false=>rw[c]at lk;cases lk
def run{W X:Type}{LL:World->OsState->Shared}{Oi LJ fz:World->OsState->SharedT}{f:Shared->W}{g:Shared->X}{good:World->W}{k:World->X}
 (pre:∀w:World,(λos=>topGo treeTable p w d a k0 (s0 w os) (topStub p))=λos=>J (LL w os,(denote treeTable (.body b env),.body b env,j,[topFrame q])))
 (Ph:∀w:World,(λos=>segRun treeTable p w d a 1 s (LL w os) (blockOf b env (.body b env) j [topFrame q]))=λos=>J (.next,(Oi w os).abs,.body b env,i))
 (ch:∀(w:World) (os:OsState) (r:Shared),topRun treeTable p w d a (o+m) (LJ w os).abs (restOf rest env (.body b env) h [topFrame q])=J r->topRun treeTable p w d a M (Oi w os).abs (restOf b env (.body b env) i [topFrame q])=J r)
 (v:∀w:World,(λos=>(J9 (segRunT treeTable p w d a 1 o (LJ w os) (piecesOf rest env (.body b env) h [topFrame q])) (J9 (look p w f (topRun treeTable p w d a m (fz w os).abs (doneF .next,.body b env,c,[topFrame q]))) (look p w g (topRun treeTable p w d a m (fz w os).abs (doneF .next,.body b env,c,[topFrame q]))))))=λos=>(J9 (J (.next,fz w os,.body b env,c)) (J9 (J (good w)) (J (k w))))) (w:World) (os:OsState):
 ∃l,topRun treeTable p w d a (k0+(s+M)) (s0 w os) (topStub p)=J l/\look p w f (J l)=J (good w)/\look p w g (J l)=J (k w):=by
 obtain⟨u,n,t⟩:_/\_/\_:=by simpa only[Ag5] using Ae9 (v w) os
 cases e:topRun treeTable p w d a m (fz w os).abs (doneF .next,.body b env,c,[topFrame q]) with
 |none=>rw[e]at n;cases n
 |some l=>
   rw[e]at n t;refine(l,first (Ae9 (pre w) os) (Ae9 (Ph w) os) (ch w os l ?_),n,t)
   have:=Ug (l2:=[]) u (piece_nil e)
   rw[XY]at this;exact this
def run1{LL:World->OsState->Shared}{Oi LJ fz:World->OsState->SharedT}{good:World->W}
 (pre:∀w:World,(λos=>topGo treeTable p w i a k0 (s0 w os) (topStub p))=λos=>J (LL w os,(denote treeTable (.body b env),.body b env,h,[topFrame q])))
 (Ph:∀w:World,(λos=>segRun treeTable p w i a 1 n (LL w os) (blockOf b env (.body b env) h [topFrame q]))=λos=>J (.next,(Oi w os).abs,.body b env,g))
 (ch:∀(w:World) (os:OsState) (r:Shared),topRun treeTable p w i a (m+l) (LJ w os).abs (restOf rest env (.body b env) d [topFrame q])=J r->topRun treeTable p w i a M (Oi w os).abs (restOf b env (.body b env) g [topFrame q])=J r)
 (s:∀w:World,(λos=>(J9 (segRunT treeTable p w i a 1 m (LJ w os) (piecesOf rest env (.body b env) d [topFrame q])) (look p w f (topRun treeTable p w i a l (fz w os).abs (doneF .next,.body b env,c,[topFrame q])))))=λos=>(J9 (J (.next,fz w os,.body b env,c)) (J (good w)))) (w:World) (os:OsState):
 ∃j,topRun treeTable p w i a (k0+(n+M)) (s0 w os) (topStub p)=J j/\look p w f (J j)=J (good w):=by
 obtain⟨o,k⟩:_/\_:=by simpa only[Ag5] using Ae9 (s w) os
 cases e:topRun treeTable p w i a l (fz w os).abs (doneF .next,.body b env,c,[topFrame q]) with
 |none=>rw[e]at k;cases k
 |some j=>
   rw[e]at k;refine(j,first (Ae9 (pre w) os) (Ae9 (Ph w) os) (ch w os j ?_),k)
   have:=Ug (l2:=[]) o (piece_nil e)
   rw[XY]at this;exact this
end HS
set_option maxHeartbeats 4000000
namespace K09
open PySem PySem.W PyProof.Rows
def hd0(h:PySem.Challenge.rw_heraldways_k09_read_or_refused.row.wellSaid=true->PySem.Challenge.rw_heraldways_k09_read_or_refused.row.Holds):PySem.Challenge.rw_heraldways_k09_read_or_refused.Holds:=by
 w_on;o_law;exact h (by assumption)
abbrev qP(p:Program):Program:=view p [0,2,3,4,5,6,8,9,10,11,13,14,15,16,17,18,19,20,21,22,23,24,26,27,28,29,30,31,32,33,34,35,36,37,38,39]
def Xj:L Addr:=List.range 381
def UM:L Str := "Guild"::"_law_bad_first"::"_law_bad_line"::"_law_cell_at"::"_law_fond_by"::"_law_line"::"_law_road_by"::"_law_shy_by"::"_law_ways_by"::"number_of"::"require_within"::"rows_of"::"_law_dear_by"::"_law_lines"::"_law_other_order"::"_law_spoiled"::"wish_lines"::"guild_of"::"like_lines"::"shun_lines"::"way_lines"::"shown"::"take_row"::"read"::"_law_refused"::"law"::"SEAT"::"MOST_HOUSES"::"FIGURES"::"MOST_FIGURES"::"len"::"range"::"min"::"max"::"set"::"list"::"tuple"::"isinstance"::"bool"::"int"::"str"::"sorted"::"any"::"ValueError"::"GuildError"::"NoHouse"::"WayThere"::"NoRoad"::"BadNote" :: []
def UO:L (Addr×Str):=(228,"__init__")::(228,"houses_paired")::(228,"size")::(228,"wishes")::(228,"require_houses")::(228,"like")::(228,"liking")::(228,"neighbours")::(228,"require_long_road")::(228,"require_two_houses")::(228,"shunned")::(228,"lay_way")::(228,"shun")::(228,"wish")::(228,"__setattr__")::(228,"house_count")::(228,"ways")::(228,"likings")::(228,"shuns")::(228,"wish_ranks")::[]
def VA:L Addr:=[103,190,110,178,211,145,152,117,225,218,166,131,159,173]
def Wa:L Addr:=[228]
def VG:L (Addr×Str):=(103,"Guild.__init__")::(190,"Guild.houses_paired")::(110,"Guild.size")::(178,"Guild.wishes")::(352,"_law_bad_first")::(345,"_law_bad_line")::(295,"_law_cell_at")::(314,"_law_fond_by")::(333,"_law_line")::(300,"_law_road_by")::(328,"_law_shy_by")::(307,"_law_ways_by")::(288,"number_of")::(89,"require_within")::(271,"rows_of")::(211,"Guild.require_houses")::(321,"_law_dear_by")::(338,"_law_lines")::(366,"_law_other_order")::(359,"_law_spoiled")::(259,"wish_lines")::(145,"Guild.like")::(152,"Guild.liking")::(117,"Guild.neighbours")::(225,"Guild.require_long_road")::(218,"Guild.require_two_houses")::(166,"Guild.shunned")::(278,"guild_of")::(131,"Guild.lay_way")::(159,"Guild.shun")::(173,"Guild.wish")::(249,"like_lines")::(254,"shun_lines")::(242,"way_lines")::(237,"shown")::(283,"take_row")::(266,"read")::(373,"_law_refused")::(380,"law")::[]
def VD:L Addr:=[31,44,56,68,80]
def Vr:L (Addr×Value):=(31,.ref 80)::(31,.type "ValueError")::(31,.ref 44)::(31,.ref 56)::(31,.ref 68)::(44,.ref 80)::(44,.type "ValueError")::(44,.ref 44)::(44,.ref 56)::(44,.ref 68)::(56,.ref 80)::(56,.type "ValueError")::(56,.ref 44)::(56,.ref 56)::(56,.ref 68)::(68,.ref 80)::(68,.type "ValueError")::(68,.ref 44)::(68,.ref 56)::(68,.ref 68)::(80,.ref 80)::(80,.type "ValueError")::(80,.ref 44)::(80,.ref 56)::(80,.ref 68)::[]
abbrev rf(n:Nat):Option (Option Value):=J (J (.ref n))
def Tn(p:Program):HD.Ob:=(rf 228::rf 352::rf 345::rf 295::rf 314::rf 333::rf 300::rf 328::rf 307::rf 288::rf 89::rf 271::rf 321::rf 338::rf 366::rf 359::rf 259::rf 278::rf 249::rf 254::rf 242::rf 237::rf 283::rf 266::rf 373::rf 380::J (J (.int 0 280))::J (J (.int 60 282))::J (J (.str "0123456789" 475))::J (J (.int 60 477))::J none::J none::J none::J none::J none::J none::J none::J none::J none::J none::J none::J none::J none::J none::rf 31::rf 44::rf 56::rf 68::rf 80::[],rf 103::rf 190::rf 110::rf 178::rf 211::rf 145::rf 152::rf 117::rf 225::rf 218::rf 166::rf 131::rf 159::rf 173::J (J (.builtin "object.__setattr__"))::J none::J none::J none::J none::J none::[],true::true::true::true::true::true::true::true::true::true::true::true::true::true::true::[],HD.fnE "__init__" "Guild.__init__" (HD.iC (HD.top p 11) 0)::HD.fnE "houses_paired" "Guild.houses_paired" (HD.iC (HD.top p 11) 13)::HD.fnE "size" "Guild.size" (HD.iC (HD.top p 11) 1)::HD.fnE "wishes" "Guild.wishes" (HD.iC (HD.top p 11) 11)::HD.fnE "_law_bad_first" "_law_bad_first" (HD.top p 35)::HD.fnE "_law_bad_line" "_law_bad_line" (HD.top p 34)::HD.fnE "_law_cell_at" "_law_cell_at" (HD.top p 26)::HD.fnE "_law_fond_by" "_law_fond_by" (HD.top p 29)::HD.fnE "_law_line" "_law_line" (HD.top p 32)::HD.fnE "_law_road_by" "_law_road_by" (HD.top p 27)::HD.fnE "_law_shy_by" "_law_shy_by" (HD.top p 31)::HD.fnE "_law_ways_by" "_law_ways_by" (HD.top p 28)::HD.fnE "number_of" "number_of" (HD.top p 24)::HD.fnE "require_within" "require_within" (HD.top p 10)::HD.fnE "rows_of" "rows_of" (HD.top p 21)::HD.fnE "require_houses" "Guild.require_houses" (HD.iC (HD.top p 11) 16)::HD.fnE "_law_dear_by" "_law_dear_by" (HD.top p 30)::HD.fnE "_law_lines" "_law_lines" (HD.top p 33)::HD.fnE "_law_other_order" "_law_other_order" (HD.top p 37)::HD.fnE "_law_spoiled" "_law_spoiled" (HD.top p 36)::HD.fnE "wish_lines" "wish_lines" (HD.top p 19)::HD.fnE "like" "Guild.like" (HD.iC (HD.top p 11) 6)::HD.fnE "liking" "Guild.liking" (HD.iC (HD.top p 11) 7)::HD.fnE "neighbours" "Guild.neighbours" (HD.iC (HD.top p 11) 2)::HD.fnE "require_long_road" "Guild.require_long_road" (HD.iC (HD.top p 11) 18)::HD.fnE "require_two_houses" "Guild.require_two_houses" (HD.iC (HD.top p 11) 17)::HD.fnE "shunned" "Guild.shunned" (HD.iC (HD.top p 11) 9)::HD.fnE "guild_of" "guild_of" (HD.top p 22)::HD.fnE "lay_way" "Guild.lay_way" (HD.iC (HD.top p 11) 4)::HD.fnE "shun" "Guild.shun" (HD.iC (HD.top p 11) 8)::HD.fnE "wish" "Guild.wish" (HD.iC (HD.top p 11) 10)::HD.fnE "like_lines" "like_lines" (HD.top p 17)::HD.fnE "shun_lines" "shun_lines" (HD.top p 18)::HD.fnE "way_lines" "way_lines" (HD.top p 16)::HD.fnE "shown" "shown" (HD.top p 15)::HD.fnE "take_row" "take_row" (HD.top p 23)::HD.fnE "read" "read" (HD.top p 20)::HD.fnE "_law_refused" "_law_refused" (HD.top p 38)::HD.fnE "law" "law" (HD.top p 39)::[],(true,[.ref 31,.type "ValueError",.type "Exception",.type "BaseException",.type "object"])::(true,[.ref 44,.ref 31,.type "ValueError",.type "Exception",.type "BaseException",.type "object"])::(true,[.ref 56,.ref 31,.type "ValueError",.type "Exception",.type "BaseException",.type "object"])::(true,[.ref 68,.ref 31,.type "ValueError",.type "Exception",.type "BaseException",.type "object"])::(true,[.ref 80,.ref 31,.type "ValueError",.type "Exception",.type "BaseException",.type "object"])::[],J false::J true::J false::J false::J false::J false::J true::J true::J false::J false::J false::J true::J false::J true::J false::J false::J true::J false::J false::J true::J true::J true::J false::J false::J false::[])
open_shared sh for PySem.Challenge.pw_heraldways_k09_read_or_refused leaving 32
noncomputable section
noncomputable abbrev pg:Program:=PySem.Challenge.pw_heraldways_k09_read_or_refused
noncomputable abbrev bd:L Stmt:=behindTheImports pg
noncomputable abbrev cE:Code:=.body bd sh.env_1
noncomputable abbrev BB:L Frame:=[topFrame (0,0,0,0)]
abbrev nK:Nat:=1608+2
noncomputable def LL(w:World)(os:OsState):Shared:=HS.mid (HS.s0 w os) (topGo treeTable pg w 11 (J (.ref 6)) 12 (HS.s0 w os) (topStub pg))
noncomputable abbrev Oi(w:World)(os:OsState):SharedT:=({tree:=sh.tree_4 w.params,n:=15,life:={},gens:={toList:=[]},drawn:={},toks:=187,os:=os}:SharedT)
noncomputable abbrev LJ(w:World)(os:OsState):SharedT:=({tree:=sh.tree_90 w.params,n:=83,life:={},gens:={toList:=[]},drawn:={},toks:=280,os:=os}:SharedT)
def pre(w:World):(λos=>topGo treeTable pg w 11 (J (.ref 6)) 12 (HS.s0 w os) (topStub pg))=λos=>J (LL w os,(denote treeTable cE,cE,(0,0,0,0),BB)):=by
 ext LL cE bd pg;rw[Fast.te14364793385576792824,Fast.te15434714760180777866]
 kernel_rfl
def Ph(w:World):(λos=>segRun treeTable pg w 11 (J (.ref 6)) 1 1 (LL w os) (blockOf bd sh.env_1 cE (0,0,0,0) BB))=λos=>J (.next,(Oi w os).abs,cE,(0,0,0,0)):=by
 ext LL cE bd pg;rw[Fast.te14364793385576792824,Fast.te15434714760180777866]
 kernel_rfl
def bdE:sh.sts_4++(sh.sts_28++(sh.sts_44++(sh.sts_60++(sh.sts_76++bd.drop 8))))=bd:=by
 ext bd pg;rw[Fast.te15434714760180777866]
 kernel_rfl
def chn(w:World)(os:OsState)(r:Shared)(h:topRun treeTable pg w 11 (J (.ref 6)) nK (LJ w os).abs (restOf (bd.drop 8) sh.env_1 cE (15,0,15,8) BB)=J r):topRun treeTable pg w 11 (J (.ref 6)) (Nat.add 225 (Nat.add 214 (Nat.add 214 (Nat.add 214 (Nat.add 223 nK))))) (Oi w os).abs (restOf bd sh.env_1 cE (0,0,0,0) BB)=J r:=by
 have h:=sh.chain pg bd w os (bd.drop 8) nK r h;rw[bdE]at h;exact h
noncomputable def fz(w:World)(os:OsState):SharedT:=HS.lz (LJ w os) (segRunT treeTable pg w 11 (J (.ref 6)) 1 1608 (LJ w os) (piecesOf (bd.drop 8) sh.env_1 cE (15,0,15,8) BB))
noncomputable abbrev gQ{W:Type}(f:Shared->W)(g:W):Prop:=∀w:World,(λos=>(J9 (segRunT treeTable pg w 11 (J (.ref 6)) 1 1608 (LJ w os) (piecesOf (bd.drop 8) sh.env_1 cE (15,0,15,8) BB)) (HS.look pg w f (topRun treeTable pg w 11 (J (.ref 6)) 2 (fz w os).abs (doneF .next,cE,(292,0,306,55),BB)))))=λos=>(J9 (J (.next,fz w os,cE,(292,0,306,55))) (J g))
def gZ1:gQ (openSeen (qP pg) [] (importedModules pg.main.body) (λs=>xlAt (qP pg) [] s&&recOk (RowW.records PySem.Challenge.rw_heraldways_k09_read_or_refused.row.toRowW) s) true) (openGood (qP pg) []):=by
 intro w;ext fz cE bd pg;rw[Fast.te10110043849684766642,Fast.te14082659384304107361,Fast.te14364793385576792824,Fast.te4187177175401517315,Fast.te5923862056798008813,Fast.te15434714760180777866]
 kernel_rfl
def gZ2:gQ (HD.ob Xj UM UO VA Wa VG VD Vr) (Tn pg):=by
 intro w;ext fz cE bd pg;rw[Fast.te10110043849684766642,Fast.te14082659384304107361,Fast.te14364793385576792824]
 kernel_rfl
def opn(w:World):(fencedOpening treeTable pg w 5510).map (λs=>(J9 s.heap (J9 s.gens (J9 s.drawn s.toks))))=J (J9 (boot_heap w.params) (J9 (Array.mk []) (J9 boot_drawn boot_toks))):=by
 ext pg;rw[Fast.te14364793385576792824,Fast.te15434714760180777866]
 kernel_rfl
def siz(w:World):(J9 ((boot_heap w.params).isNs mainGlobals && (Array.mk []:Array GenState).size == 0) (J9 ((boot_heap w.params).objs.size) ((boot_heap w.params).nsMap mainGlobals "__annotations__")))=(J9 true (J9 11 ((J (.ref 6))))):=by
 kernel_rfl
theorem Vq(w:World):(openEnds treeTable PySem.Challenge.pw_heraldways_k09_read_or_refused w 5510).map (openSeen (qP PySem.Challenge.pw_heraldways_k09_read_or_refused) [] (importedModules PySem.Challenge.pw_heraldways_k09_read_or_refused.main.body) (λs=>xlAt (qP PySem.Challenge.pw_heraldways_k09_read_or_refused) [] s&&recOk (RowW.records PySem.Challenge.rw_heraldways_k09_read_or_refused.row.toRowW) s) true)=J (openGood (qP PySem.Challenge.pw_heraldways_k09_read_or_refused) []):=HS.ends (good:=λ_=>_) opn siz (HS.run1 pre Ph chn gZ1) (by decide +kernel) w
theorem Vp(w:World):(openEnds treeTable PySem.Challenge.pw_heraldways_k09_read_or_refused w 5510).map (HD.ob Xj UM UO VA Wa VG VD Vr)=J (Tn PySem.Challenge.pw_heraldways_k09_read_or_refused):=HS.ends (good:=λ_=>_) opn siz (HS.run1 pre Ph chn gZ2) (by decide +kernel) w
end
end K09
namespace L2
open PySem PySem.Spec PyProof.Rows
abbrev cL:=Sum Int Str
def vW:cL->Value->Bool
 |.inl k,v=>Value.isInt k v
 |.inr x,v=>Value.isStrOf x v
def Xc(w:World):cL->Int
 |.inl k=>hashInt k
 |.inr x=>hashStr w x
theorem cW:∀{k:cL} {v:Value},vW k v=true->(∃i t,k=Sum.inl i/\v=Value.int i t)\/(∃x t,k=Sum.inr x/\v=Value.str x t)
 | .inl i,v,h=>by
   let(t,e):=Value.isInt_shape (k:=i) (v:=v) h;exact .inl (i,t,rfl,e)
 | .inr x,v,h=>by
   let(t,e):=Value.isStrOf_shape (x:=x) (v:=v) h;exact .inr (x,t,rfl,e)
def FR(i:Int)(t:Tok):vW (.inl i) (.int i t)=true:=by simp[vW,Value.isInt]
def FQ(x:Str)(t:Tok):vW (.inr x) (.str x t)=true:=by simp[vW,Value.isStrOf]
def RM(a b:Int):decide ((Sum.inl a:cL)=Sum.inl b)=(a==b):=by
 by_cases e:a=b
 .subst e;simp
 .have h:¬ (Sum.inl a:cL)=Sum.inl b:=λq=>e (Sum.inl.inj q);rw[X6 h];exact(Yv.mpr e).symm
def RJ(a b:Str):decide ((Sum.inr a:cL)=Sum.inr b)=decide (a=b):=by
 by_cases e:a=b
 .subst e;simp
 .have h:¬ (Sum.inr a:cL)=Sum.inr b:=λq=>e (Sum.inr.inj q);rw[X6 h,X6 e]
theorem RL(a:Int)(b:Str):decide ((Sum.inl a:cL)=Sum.inr b)=false:=X6 (λq=>nomatch q)
theorem RK(a:Str)(b:Int):decide ((Sum.inr a:cL)=Sum.inl b)=false:=X6 (λq=>nomatch q)
def cN(prog:Program)(w:World):PySem.KeyKind prog w cL where
 is:=vW
 hash:=Xc w
 inj:=λv a b l f=>by
  rcases cW l with ⟨i,t,rfl,rfl⟩|⟨x,t,rfl,rfl⟩
  · rcases cW f with ⟨j,u,rfl,e⟩|⟨y,u,rfl,e⟩
    .injection e with c _;rw[c]
    .exact nomatch e
  · rcases cW f with ⟨j,u,rfl,e⟩|⟨y,u,rfl,e⟩
    .exact nomatch e
    .injection e with c _;rw[c]
 byValue:=λk v h=>by
  rcases cW h with ⟨i,t,rfl,rfl⟩|⟨x,t,rfl,rfl⟩<;>rfl
 pyHash:=λd h=>by
  rcases cW d with ⟨i,t,rfl,rfl⟩|⟨x,t,rfl,rfl⟩
  .exact wpAny_pyHash_int h
  .exact wpAny_pyHash_str h
 eqBool:=λg d h=>by
  rcases cW g with ⟨i,t,rfl,rfl⟩|⟨x,t,rfl,rfl⟩
  · rcases cW d with ⟨j,u,rfl,rfl⟩|⟨y,u,rfl,rfl⟩
    .rw[RM]at h;exact wpAny_eqBool_int h
    .rw[RL]at h;exact SeqAt.EqAt.int_str i t y u _ _ _ _ h
  · rcases cW d with ⟨j,u,rfl,rfl⟩|⟨y,u,rfl,rfl⟩
    .rw[RK]at h;exact SeqAt.EqAt.str_int x t j u _ _ _ _ h
    .rw[RJ]at h;exact wpAny_eqBool_str h
 «strs»:=λk x t v h=>by
  rcases cW h with ⟨i,u,rfl,e⟩|⟨y,u,rfl,e⟩
  .exact nomatch e
  · injection e with c _
    subst c;cases v<;>rfl
theorem zA(prog:Program)(w:World)(i:Int)(t:Tok):(cN prog w).is (.inl i) (.int i t)=true:=FR i t
theorem zz(prog:Program)(w:World)(x:Str)(t:Tok):(cN prog w).is (.inr x) (.str x t)=true:=FQ x t
inductive V where
 |non|bl (b:Bool)|int (i:Int)|str (x:Str)|byt (b:Array UInt8)|flt (b:UInt64)|ref (a:Addr)|ty (n:String)
 deriving DecidableEq
def RelV:V->Value->Prop
 |.non,u=>u=Value.none
 |.bl b,u=>u=Value.bool b
 |.int i,u=>∃t,u=Value.int i t
 |.str x,u=>∃t,u=Value.str x t
 |.byt b,u=>∃t,u=Value.bytes b t
 |.flt b,u=>∃t,u=Value.float b t
 |.ref a,u=>u=Value.ref a
 |.ty n,u=>u=Value.type n
abbrev Vals:L V->L Value->Prop:=Paired RelV
theorem Vals.length{xs:L V}{us:L Value}(r:Vals xs us):xs.length=us.length:=ZX r
theorem Vals.get:∀{xs:L V} {us:L Value} {i:Nat} {x:V},Vals xs us->xs[i]?=J x->∃u,us[i]?=J u/\RelV x u
 |_,_,_,_,.nil,e=>by simp at e
 |_,_,0,_,.cons r _,e=>by simp at e;subst e;exact(_,rfl,r)
 | _,_,i+1,x,.cons _ t,e=>by
   let(u,b,a):=Vals.get (i:=i) (x:=x) t (by simpa using e);exact(u,by simpa using b,a)
theorem Vals.append:∀{xs ys:L V} {us ws:L Value},Vals xs us->Vals ys ws->Vals (xs++ys) (us++ws)
 |_,_,_,_,.nil,s=>s
 |_,_,_,_,.cons r t,s=>.cons r (Vals.append t s)
theorem Vals.take:∀{xs:L V} {us:L Value} (n:Nat),Vals xs us->Vals (xs.take n) (us.take n)
 |_,_,0,_=>.nil
 |_,_,_+1,.nil=>.nil
 |_,_,n+1,.cons r t=>.cons r (Vals.take n t)
theorem Vals.drop:∀{xs:L V} {us:L Value} (n:Nat),Vals xs us->Vals (xs.drop n) (us.drop n)
 |_,_,0,r=>r
 |_,_,_+1,.nil=>.nil
 |_,_,n+1,.cons _ t=>Vals.drop n t
def RelO:Option V->Option Value->Prop
 |some v,J u=>RelV v u
 |none,G=>True
 |_,_=>False
def KV{X:Type}:L (X×V)->L (X×Value)->Prop:=Paired λ(p:X×V) (q:X×Value)=>p.1=q.1/\RelV p.2 q.2
def kV:cL->V
 |.inl i=>.int i
 |.inr x=>.str x
inductive HO where
 /-- a list -/
 |lst (xs:List V)
 /-- a tuple (never changes) -/
 |tup (xs:List V)
 /-- a dict whose keys are ints and texts;one whose keys are tuples of ints and texts (the empty one is both) -/
 |dK (kvs:List (cL×V))|dT (kvs:List (List cL×V))
 /-- a set of ints: its members,its size -/
 |set (S:Int->Bool) (n:Nat)
 /-- an instance of the class at C,its dict at dx,its attributes -/
 |ins (C dx:Addr) (fs:List (Str×V))
 /-- the dict of the instance at x -/
 |own (x:Addr)
 /-- the dict of an exception -/
 |xd (fs:List (Str×V))
 /-- a bound method,f of x -/
 |met (f x:Addr)
 /-- a range object lo,lo+1,.. below hi -/
 |rng (lo hi:Int)
 /-- a thing that is known to the object (the script;a dict while a loop walks it): read,never written while it is so -/
 |frz (o:Obj) (u:HO)
 /-- a code object's table: at each of these places nothing,or a code of that name -/
 |tbl (l:List (Pos×Str))
 /-- any other thing,by what is true of its one object (a def of one's own: SetO a S n:=HO.ext λh=> ..) -/
 |ext (φ:Heap->Prop)
abbrev Hp:=Addr->Option HO
def upd(H:Hp)(a:Addr)(o:HO):Hp:=λb=>if b=a then J o else H b
def bE:upd H a o a=J o:=by ext upd;rw[if_pos rfl]
def bq{H:Hp}(h:b≠a):upd H a o b=H b:=by ext upd;rw[if_neg h]
def UN{H:Hp}(h:H a=J o)(h':H b=J u)(d:o≠u):a≠b:=by
 intro e;subst e;rw[h]at h';exact d (Yc h')
def bD{H:Hp}(h:H a=J o)(h':H b=G):a≠b:=by
 intro e;subst e;rw[h]at h';cases h'
section
variable(P:Program)(w:World)
def ObjOk(H:Hp)(h:Heap)(a:Addr):HO->Prop
 |.lst xs=>xs.length<=sizeLine/\∃(its:L Value) (n:Nat),Vals xs its/\h.get? a=J {cls:=.type "list",data:=.seq its.toArray n}
 |.tup xs=>xs.length<=sizeLine/\∃its:L Value,Vals xs its/\IsTup h a its.toArray
 |.dK b=>b.length<=sizeLine/\(a==sysModules)=false/\∃vs,KV b vs/\h.DictOf (cN P w) a vs
 | .dT b=>b.length<=sizeLine/\(a==sysModules)=false/\∃xs:L (L cL×Addr×Value),
    Paired (λ(p:L cL×V) (q:L cL×Addr×Value)=>p.1=q.1/\H q.2.1=J (.tup (p.1.map kV))/\RelV p.2 q.2.2) b xs/\
    ∃o es ep,h.get? a=J o/\o.ExactDict/\o.data=.dict es ep/\es.toList=xs.map (entryOfKey (tupleKind (cN P w)))/\(xs.map (·.1)).Nodup
 |.set S n=>h.SetOf (intKind P w) a S n
 | .ins C dx fs=>H dx=J (.own a)/\fs.length<=1000/\dx≠a/\h.get? a=J (PySem.W.instObj C dx)/\
    ∃d,h.Ns1 dx d/\(∀f,RelO (fs.lookup f) (d f))/\PySem.Within d (fs.map (·.1))
 |.own _=>∃o,h.get? a=J o
 |.xd fs=>∃d,h.Ns1 a d/\∀f,RelO (fs.lookup f) (d f)
 |.rng lo hi=>∃t u v,h.get? a=J {cls:=.type "range",data:=.fields #[.int lo t,.int hi u,.int 1 v]}
 |.frz o u=>h.get? a=J o/\ObjOk H h a u
 |.tbl l=>(∀y∈l,∀z∈l,y.1.line=z.1.line->y.1.col=z.1.col->y.2=z.2)/\∃ps:Array Value,h.get? a=J {cls:=.none,data:=.fields ps}/\TriplesOk ps.toList/\∀x∈l,codeAmong x.1 ps.toList=G\/∃c,codeAmong x.1 ps.toList=J (.ref c)/\H c=J (.own a)/\h.CodeRec (.ref c) x.2
 |.met f x=>h.get? a=J (PySem.W.methodObj (.ref f) (.ref x))
 |.ext e=>e h/\(∃o,h.get? a=J o)/\∀i g:Heap,e i->(∀o,i.get? a=J o->g.get? a=J o)->e g
def HOk(H:Hp)(h:Heap):Prop:=∀a o,H a=J o->ObjOk P w H h a o
end
section
variable{P:Program}{w:World}{H H':Hp}{h h':Heap}{a:Addr}{o:HO}
def ObjOk.lt(x:ObjOk P w H h a o):a<h.objs.size:=by
 cases o with
 |lst xs=>let(_,_,_,_,e):=x;exact XI e
 |tup xs=>let(_,_,_,p):=x;exact p.lt
 |dK b=>let(_,_,_,_,o,_,_,e,_):=x;exact XI e
 |dT b=>let(_,_,_,_,o,_,_,e,_):=x;exact XI e
 |set S n=>let(o,_,_,_,e,_):=x;exact XI e
 |ins C dx fs=>let(_,_,_,e,_):=x;exact XI e
 |own y=>let(_,e):=x;exact XI e
 |xd fs=>let(_,(_,_,_,e,_),_):=x;exact XI e
 |rng lo hi=>let(_,_,_,e):=x;exact XI e
 |frz ob u=>let(e,_):=x;exact XI e
 |tbl l=>let(_,_,e,_):=x;exact XI e
 |met f y=>exact XI (show h.get? a=J _ from x)
 |ext c=>let(_,(_,e),_):=x;exact XI e
theorem Paired.mapP{X:Type}{F Cv:W->X->Prop}:∀{d:L W} {c:L X},Paired F d c->(∀a b,F a b->Cv a b)->Paired Cv d c
 |_,_,.nil,_=>.nil
 |_,_,.cons r t,f=>.cons (f _ _ r) (Paired.mapP t f)
def ObjOk.stay(x:ObjOk P w H h a o)(k:∀b u,(b=a\/H b=J (.own a))->h.get? b=J u->h'.get? b=J u)
 (s:∀b,H b=J (.own a)->H' b=J (.own a)) (F:∀b xs,H b=J (.tup xs)->H' b=J (.tup xs)):ObjOk P w H' h' a o:=by
 induction o with
 |lst xs=>let(z,its,n,r,e):=x;exact(z,its,n,r,k _ _ (.inl rfl) e)
 |tup xs=>let(z,its,r,ob,e,c):=x;exact(z,its,r,ob,k _ _ (.inl rfl) e,c)
 |dK m=>let(z,y,vs,r,ob,es,ep,e,c):=x;exact(z,y,vs,r,ob,es,ep,k _ _ (.inl rfl) e,c)
 |dT m=>
   let(z,y,xs,r,ob,es,ep,e,c):=x;exact(z,y,xs,Paired.mapP r λp q z=>(z.1,F _ _ z.2.1,z.2.2),ob,es,ep,k _ _ (.inl rfl) e,c)
 |set S n=>let(ob,es,ep,t,e,c):=x;exact(ob,es,ep,t,k _ _ (.inl rfl) e,c)
 |ins C dx fs=>
   let(d,z,ne,e,j,(i,es,ep,I,c),r):=x;exact(s _ d,z,ne,k _ _ (.inl rfl) e,j,(i,es,ep,k _ _ (.inr d) I,c),r)
 |own y=>let(ob,e):=x;exact(ob,k _ _ (.inl rfl) e)
 |xd fs=>let(j,(i,es,ep,e,c),r):=x;exact(j,(i,es,ep,k _ _ (.inl rfl) e,c),r)
 |rng lo hi=>let(t,u,v,e):=x;exact(t,u,v,k _ _ (.inl rfl) e)
 |frz ob u D=>let(e,q):=x;exact(k _ _ (.inl rfl) e,D q)
 |tbl l=>
   let(cl,ps,e,t,q):=x;refine(cl,ps,k _ _ (.inl rfl) e,t,λy E=>?_);rcases q y E with z|⟨c,z,A,⟨c',o,vs,B,Cv,g,r⟩⟩
   .exact .inl z
   .cases Cv;exact .inr (c,z,s _ A,(c,o,vs,B,rfl,k _ _ (.inr A) g,r))
 |met f y=>
   have e:h.get? a=J (PySem.W.methodObj (.ref f) (.ref y)):=x;show h'.get? a=J (PySem.W.methodObj (.ref f) (.ref y));exact k a _ (.inl rfl) e
 |ext B1=>let(p,(o,e),st):=x;exact(st _ _ p λo q=>k _ _ (.inl rfl) q,(o,k _ _ (.inl rfl) e),st)
theorem HOk.lt(x:HOk P w H h)(e:H a=J o):a<h.objs.size:=(x a o e).lt
def HOk.fresh(x:HOk P w H h)(e:h.objs.size<=a):H a=none:=by
 cases q:H a with
 |none=>rfl
 |some u=>exact absurd (X0 (x.lt q) e) (YW _)
theorem HOk.kept(x:HOk P w H h)(k:∀b u,h.get? b=J u->h'.get? b=J u):HOk P w H h':=λa o e=>
 (x a o e).stay (λb u _ q=>k b u q) (λ_ q=>q) λ_ _ q=>q
theorem HOk.laid(x:HOk P w H h)(k:∀b u,h.get? b=J u->h'.get? b=J u)(hp:h.objs.size<=a)(new:ObjOk P w (upd H a o) h' a o):HOk P w (upd H a o) h':=λb u e=>by
 have d:=x.fresh hp;by_cases f:b=a
 .subst f;rw[bE]at e;cases e;exact new
 .rw[bq f]at e;exact(x b u e).stay (λc v _ q=>k c v q) (λc q=>by rw[bq (bD q d)];exact q) λc xs q=>by rw[bq (bD q d)];exact q
end
def Rd(H:Hp)(a:Addr)(u:HO):Prop:=H a=J u\/∃o,H a=J (.frz o u)
def Rd.ok(r:Rd H a u)(x:HOk P w H h):ObjOk P w H h a u:=by
 rcases r with r|⟨o,r⟩
 .exact x a u r
 .let(_,q):=x a _ r;exact q
def WF:Option HO->Prop
 |some (.lst _)=>True
 |some (.dK _)=>True
 |some (.dT _)=>True
 |some (.set _ _)=>True
 |some (.ins _ _ _)=>True
 |some (.ext _)=>True
 |_=>False
section
variable{P:Program}{w:World}{H:Hp}{h h':Heap}{x e:Addr}{o':HO}
theorem HOk.write(ok:HOk P w H h)(g:WF (H x))(n:e=x\/H e=J (.own x))(k:∀b u,b≠e->h.get? b=J u->h'.get? b=J u)(l:∃u,h'.get? e=J u)
 (new:ObjOk P w (upd H x o') h' x o'):HOk P w (upd H x o') h':=λb u q=>by
 have d:∀c y,H c=J (.own y)->c≠x:=λc y r z=>by subst z;rw[r]at g;exact g
 have f:∀c xs,H c=J (.tup xs)->c≠x:=λc xs r z=>by subst z;rw[r]at g;exact g
 by_cases j:b=x
 .subst j;rw[bE]at q;cases q;exact new
 · rw[bq j]at q;by_cases a:b=e
   · have m:H b=J (.own x):=by
      rcases n with z|z
      .exact absurd (a.trans z) j
      .rw[a];exact z
     rw[q]at m;cases m;let(v,o):=l;exact(v,by rw[a];exact o)
   · refine(ok b u q).stay (λc v i r=>k c v ?_ r) (λc r=>by rw[bq (d c b r)];exact r) λc xs r=>by rw[bq (f c xs r)];exact r
     rcases i with rfl|i
     .exact a
     · rintro rfl;rcases n with z|z
       .exact d c b i z
       .rw[i]at z;cases z;exact j rfl
end
structure Un (fs ex:L Addr) (H H':Hp) (h h':Heap):Prop where
 keep:∀b o,h.get? b=J o->H b=G->b∉fs->b∉ex->h'.get? b=J o
 slot:∀b o,h.get? b=J o->H b=G->b∈fs->b∉ex->∃sl,h'.get? b=J {o with slots:=sl}
 free:∀b o,h.get? b=J o->H b=G->b∉ex->H' b=G
 there:∀b o,h.get? b=J o->b∉ex->∃o',h'.get? b=J o'
 tups:∀b xs,H b=J (.tup xs)->H' b=J (.tup xs)
 frzs:∀b o u,H b=J (.frz o u)->H' b=J (.frz o u)
 tbls:∀b l,H b=J (.tbl l)->H' b=J (.tbl l)/\∀c o,H c=J (.own b)->h.get? c=J o->H' c=J (.own b)/\h'.get? c=J o
section
variable{fs fs' ex ex':L Addr}{H H1 H2:Hp}{h h1 h2 h':Heap}{a x e:Addr}{o:HO}
def Un.any(u:Un fs ex H H1 h h1){ob:Obj}(q:h.get? b=J ob)(n:H b=G)(a:b∉ex):∃sl,h1.get? b=J {ob with slots:=sl}:=by
 by_cases c:b∈fs
 .exact u.slot b ob q n c a
 .exact(ob.slots,u.keep b ob q n c a)
theorem Un.kept(k:∀b u,h.get? b=J u->h'.get? b=J u):Un fs ex H H h h':=
 (λb ob q _ _ _=>k b ob q,λb ob q _ _ _=>(ob.slots,k b ob q),λ_ _ _ n _=>n,λb ob q _=>(ob,k b ob q),λ_ _ q=>q,λ_ _ _ q=>q,λ_ _ q=>(q,λc o d a=>(d,k c o a)))
theorem Un.refl:Un fs ex H H h h:=Un.kept λ_ _ q=>q
theorem Un.laid(k:∀b u,h.get? b=J u->h'.get? b=J u)(hp:h.objs.size<=a)(d:H a=G):Un fs ex H (upd H a o) h h' where
 keep:=λb u q _ _ _=>k b u q
 slot:=λb u q _ _ _=>(u.slots,k b u q)
 free:=λb u q n _=>by rw[bq (X4 (X0 (XI q) hp))];exact n
 there:=λb u q _=>(u,k b u q)
 tups:=λb xs q=>by rw[bq (bD q d)];exact q
 frzs:=λb u xs q=>by rw[bq (bD q d)];exact q
 tbls:=λb xs q=>(by rw[bq (bD q d)];exact q,λc o e f=>(by rw[bq (bD e d)];exact e,k c o f))
def Un.write(a:WF (H x))(l:e=x\/H e=J (.own x))(k:∀b u,b≠e->h.get? b=J u->h'.get? b=J u)(i:∃u,h'.get? e=J u):Un fs ex H (upd H x o) h h':=by
 have j:∀b,H b=G->b≠x:=λb n z=>by subst z;rw[n]at a;exact a
 have m:∀b,H b=G->b≠e:=λb n z=>by
  subst z;rcases l with r|r
  .exact j b n r
  .rw[n]at r;cases r
 have d:∀b u,H b=J u->¬ WF (J u)->b≠x:=λb u q nm z=>by subst z;rw[q]at a;exact nm a
 refine(λb u q n _ _=>k b u (m b n) q,λb u q n _ _=>(u.slots,k b u (m b n) q),λb u q n _=>by rw[bq (j b n)];exact n,λb u q _=>?_,
  λb xs q=>by rw[bq (d b _ q λz=>z)];exact q,λb u xs q=>by rw[bq (d b _ q λz=>z)];exact q,λb ps q=>(by rw[bq (d b _ q λz=>z)];exact q,λc o g p=>(by rw[bq (d c _ g λz=>z)];exact g,k c o (λz=>by
   rcases l with r|r
   .exact d c _ g (λz=>z) (z.trans r)
   .rw[<-z,g]at r;cases r;rw[q]at a;exact a) p)))
 by_cases f:b=e
 .subst f;exact i
 .exact(u,k b u f q)
end
def WI(h:Heap)(H:Hp):L Addr:=(List.range h.objs.size).filter λa=>(H a).isSome
def tP(h:Heap)(H:Hp):Heap:=PySem.W.hideAll h (WI h H)
theorem FV(h:Heap)(H:Hp):(tP h H).objs.size=h.objs.size:=PySem.W.hideAll_size _ _
theorem JZ{h:Heap}{H:Hp}(e:h.get? b=J o)(n:H b=G):(tP h H).get? b=J o:=
 YC _ e λa=>by
  have q:(H b).isSome=true:=(YB.mp a).2;rw[n]at q;simp at q
def MP{h:Heap}(e:(tP h H).get? b=J o):h.get? b=J o/\H b=none:=by
 have a:h.get? b=J o:=Zf (WI h H) e;refine(a,?_);cases q:H b with
 |none=>rfl
 |some x=>
   have c:b∈WI h H:=YB.mpr (Zl.mpr (XI a),by simp[q]);have z:(tP h H).get? b=none:=PySem.W.hideAll_none (WI h H) c;rw[z]at e;cases e
def NO(g h:Heap)(I0:Addr):L1:=(List.range h.objs.size).filterMap λa=>if a=I0\/(g.get? a).isSome=true then G else (h.get? a).map λo=>(a,o)
def rest(g h:Heap)(I0 d:Addr):L1:=(NO g h I0).filter λp=>decide (p.1≠d)
structure Mod (K:L0) (mg:Str->Option Value) (base:Heap):Prop where
 kin:K.In base
 glob:base.Ns mainGlobals mg
 blt:∃mb,base.Ns builtinsNs mb/\∀x:Str,x ≠ "__name__" -> mb x=bootBuiltins x
 nolimit:base.NoLimit
 bmod:∃bm o,mg "__builtins__" = J (.ref bm)/\bm≠builtinsNs/\base.get? bm=J o/\o.cls=.type "module" /\ o.dict=J builtinsNs/\o.data=.plain
structure Cx where
 prog:Program
 w:World
 K:L0
 mg:Str->Option Value
 base:Heap
 A:Around
 N:L Str
 s₀:Shared
 H₀:Hp
 env:Env
 outer:L Env
 stack:L Env
 ex:L Addr
 fn:Str->Bool
 calm:Bool
 pn:L1
 xe:Value->Shared->Prop
abbrev j1(X:Cx){α}(m:Sem α):=wpAny (model X.prog X.w) X.A m
def gj(l:L Env):L Addr:=l.filterMap (·.frame)
abbrev Cx.fs(X:Cx):L Addr:=gj X.outer
def Tk(sc:Scope)(x:Str):Prop:=sc.names.lookup x=J .local\/sc.names.lookup x=J .cell\/sc.names.lookup x=J .free
def LQ(sc:Scope)(x:Str):Prop:=sc.names.lookup x=J .local\/sc.names.lookup x=J .cell
def Xo(env:Env)(h:Heap)(m:Str->Option Value)(x:Str)(u:Value):Prop:=
 (env.kindOf x=J .local/\m x=J u)\/((env.kindOf x=J .cell\/env.kindOf x=J .free)/\∃c,env.cells.lookup x=J c/\h.IsCell c (J u))
structure Cx.Ok (X:Cx):Prop where
 mod:Mod X.K X.mg X.base
 kind:X.env.scope.kind=.function
 glob:X.env.globals=mainGlobals
 blt:X.env.builtins=builtinsNs
 above:X.s₀.heap.objs.size<=X.env.locals
 inj:∀x y c,X.env.cells.lookup x=J c->X.env.cells.lookup y=J c->x=y
 has:∀x,(X.env.kindOf x=J .cell\/X.env.kindOf x=J .free)->∃c,X.env.cells.lookup x=J c
 cab:∀x c,X.fn x=true->X.env.cells.lookup x=J c->X.s₀.heap.objs.size<=c
 hd:X.calm=true->X.A.handled=G
 frames:X.A.frames=J X.stack
 stk:X.stack=X.outer\/(X.stack=X.env::X.outer/\X.env.frame=J X.env.locals)
 exf:∀b∈X.ex,b≠X.env.locals/\∀x c,X.env.cells.lookup x=J c->c≠b
 bs:∀b o,X.base.get? b=J o->X.s₀.heap.get? b=J o/\X.H₀ b=G
 bsz:X.base.objs.size<=X.s₀.heap.objs.size
 noex:∀b o,X.base.get? b=J o->b∉X.ex
 exfs:∀b∈X.ex,b∉X.fs
 funs:X.s₀.heap.FunFrames X.base X.outer
 frf:∀b∈X.fs,X.H₀ b=G
structure Inv (X:Cx) (pins:L1) (Z:L (Option V)) (H:Hp) (s:Shared):Prop where
 ok:X.Ok
 os:s.os=X.s₀.os
 bare:AllBare s.gens
 base:Un X.fs X.ex X.H₀ H X.s₀.heap s.heap
 loc:∃m,s.heap.Ns X.env.locals m/\∀(i:Nat) (x:Str) (v:V),X.N[i]?=J x->Z[i]?=J (J v)->Tk X.env.scope x->∃u,RelV v u/\Xo X.env s.heap m x u
 cell:∀x c,X.env.cells.lookup x=J c->∃v,s.heap.IsCell c v
 free:H X.env.locals=G
 freeC:∀x c,X.env.cells.lookup x=J c->H c=G
 pin:∀p∈X.pn++pins,s.heap.get? p.1=J p.2/\H p.1=G/\p.1≠X.env.locals/\p.1∉X.fs/\∀v,p.2.data≠ .cell v
 hok:HOk X.prog X.w H s.heap
 len:Z.length=X.N.length
section
variable{X:Cx}{pins:L1}{Z:L (Option V)}{H H':Hp}{s:Shared}{h':Heap}
theorem Cx.Ok.nofr(ok:X.Ok)(e:X.base.get? b=J o):b∉X.fs:=λa=>by
 have:=(ok.funs.mem a).1
 rw[e]at this;cases this
theorem Inv.bs(I:Inv X pins Z H s):∀b o,X.base.get? b=J o->s.heap.get? b=J o/\H b=none:=λb o e=>
 (I.base.keep b o (I.ok.bs b o e).1 (I.ok.bs b o e).2 (I.ok.nofr e) (I.ok.noex b o e),I.base.free b o (I.ok.bs b o e).1 (I.ok.bs b o e).2 (I.ok.noex b o e))
theorem Inv.bk(I:Inv X pins Z H s):∀b o,X.base.get? b=J o->s.heap.get? b=J o:=λb o e=>(I.bs b o e).1
theorem Inv.mod(I:Inv X pins Z H s):Mod X.K X.mg X.base:=I.ok.mod
theorem Inv.kIn(I:Inv X pins Z H s):X.K.In s.heap:=I.ok.mod.kin.keeps I.bk
theorem Inv.lt(I:Inv X pins Z H s):X.env.locals<s.heap.objs.size:=let (_,a,_):=I.loc;a.lt
theorem Inv.sz(I:Inv X pins Z H s):X.s₀.heap.objs.size<=s.heap.objs.size:=Yw I.ok.above (Yz I.lt)
theorem Inv.nofs(I:Inv X pins Z H s)(h:s.heap.objs.size<=a):a∉X.fs:=λc=>by
 let(_,o,b,_):=I.ok.funs.mem c;exact absurd (X0 (XI b) (Yw I.sz h)) (YW _)
theorem Inv.cne(I:Inv X pins Z H s):∀x c,X.env.cells.lookup x=J c->c≠X.env.locals:=λx c e z=>by
 let(v,o,d,hd):=I.cell x c e;let(m,(o',es,ep,a,b,_),_):=I.loc;rw[z,a]at d;cases d;rw[b]at hd;cases hd
def Inv.funs(I:Inv X pins Z H s):s.heap.FunFrames X.base X.outer:=by
 have all:∀(l:L Env),(∀b∈gj l,b∈X.fs)->X.s₀.heap.FunFrames X.base l->s.heap.FunFrames X.base l:=by
  intro l
  induction l with
  |nil=>intro _ _;trivial
  |cons env r g=>
    intro f k;let(m,(I0,o,a,j,i,hd),h):=k;have d:I0∈X.fs:=f I0 (by ext gj;rw[List.filterMap_cons,a];exact List.mem_cons_self);let(sl,e):=I.base.slot I0 o i (I.ok.frf I0 d) d λz=>I.ok.exfs I0 z d;exact(m,(I0,_,a,j,e,hd),g (λb c=>f b (by ext gj;rw[List.filterMap_cons,a];exact List.mem_cons_of_mem _ c)) h)
 exact all X.outer (λ_ c=>c) I.ok.funs
def Inv.stack(I:Inv X pins Z H s):s.heap.FunFrames X.base X.stack:=by
 rcases I.ok.stk with e|⟨e,b⟩
 .rw[e];exact I.funs
 .rw[e];let(m,a,_):=I.loc;refine .cons (by rw[I.ok.kind];decide) b a ?_ I.funs;exact Zm (Yw I.ok.bsz I.ok.above)
theorem Inv.stkSub(I:Inv X pins Z H s):∀b∈gj X.stack,b∈X.env.locals::X.fs:=λb a=>by
 rcases I.ok.stk with e|⟨e,c⟩
 .rw[e]at a;exact on _ a
 .rw[e]at a;unfold gj at a;rw[List.filterMap_cons,c]at a;exact a
theorem Inv.stkFree(I:Inv X pins Z H s):∀b∈gj X.stack,H b=none:=λb a=>by
 rcases XC.mp (I.stkSub b a) with e|a
 .rw[e];exact I.free
 .let(_,o,c,_):=I.ok.funs.mem a;exact I.base.free b o c (I.ok.frf b a) λz=>I.ok.exfs b z a
def Inv.step{g':Array GenState}{t':Nat}{d':Drawn}{ch:L Addr}(I:Inv X pins Z H s)
 (g:∀b∈ch,(b∈X.ex\/X.s₀.heap.objs.size<=b)/\b≠X.env.locals/\(∀x c,X.env.cells.lookup x=J c->c≠b)/\∀p∈X.pn++pins,p.1≠b)
 (keep:∀b o,b≠X.env.locals->b∉X.fs->b∉ch->s.heap.get? b=J o->H b=G->h'.get? b=J o)
 (slot:∀b o,b≠X.env.locals->b∈X.fs->b∉ch->s.heap.get? b=J o->H b=G->∃sl,h'.get? b=J {o with slots:=sl}) (free:∀b o,b∉ch->s.heap.get? b=J o->H b=G->H' b=G)
 (there:∀b o,b∉ch->s.heap.get? b=J o->∃o',h'.get? b=J o')
 (tups:∀b xs,H b=J (.tup xs)->H' b=J (.tup xs)) (frzs:∀b o u,H b=J (.frz o u)->H' b=J (.frz o u)) (tbls:∀b l,H b=J (.tbl l)->H' b=J (.tbl l)/\∀c o,H c=J (.own b)->s.heap.get? c=J o->H' c=J (.own b)/\h'.get? c=J o)
 (ns:∀m,s.heap.Ns X.env.locals m->h'.Ns X.env.locals m) (hok:HOk X.prog X.w H' h') (K:AllBare g'):
 Inv X pins Z H' {s with heap:=h',gens:=g',drawn:=d',toks:=t'}:=by
 have B:∀b o,X.s₀.heap.get? b=J o->b≠X.env.locals:=λb o e=>X4 (X0 (XI e) I.ok.above)
 have j:∀b o,X.s₀.heap.get? b=J o->b∉X.ex->b∉ch:=λb o e a y=>by
  rcases(g b y).1 with z|z
  .exact a z
  .exact absurd (X0 (XI e) z) (YW _)
 have h:∀x c,X.env.cells.lookup x=J c->∀v,s.heap.IsCell c v->h'.IsCell c v:=λx c e v (o,A,hd)=>by
  have f:c∉ch:=λz=>(g c z).2.2.1 x c e rfl;by_cases F:c∈X.fs
  .let(sl,q):=slot c o (I.cne x c e) F f A (I.freeC x c e);exact(_,q,hd)
  .exact(o,keep c o (I.cne x c e) F f A (I.freeC x c e),hd)
 refine(I.ok,I.os,K,(λb o e n y a=>?_,λb o e n y a=>?_,λb o e n a=>?_,λb o e a=>?_,λb xs e=>tups b xs (I.base.tups b xs e),λb o xs e=>frzs b o xs (I.base.frzs b o xs e),λb ps e=>((tbls b ps (I.base.tbls b ps e).1).1,λc o t C=>let (M,I0):=(I.base.tbls b ps e).2 c o t C;(tbls b ps (I.base.tbls b ps e).1).2 c o M I0)),?_,λx c e=>?_,?_,λx c e=>?_,λp hp=>?_,hok,I.len)
 .exact keep b o (B b o e) y (j b o e a) (I.base.keep b o e n y a) (I.base.free b o e n a)
 .let(sl,t):=I.base.slot b o e n y a;let(D,C):=slot b _ (B b o e) y (j b o e a) t (I.base.free b o e n a);exact(D,C)
 .let(o',t):=I.base.there b o e a;exact free b o' (j b o e a) t (I.base.free b o e n a)
 .let(o',t):=I.base.there b o e a;exact there b o' (j b o e a) t
 · let(m,Cv,B1):=I.loc;refine(m,ns m Cv,λi x v t C N=>?_);let(u,r,l):=B1 i x v t C N;refine(u,r,?_);rcases l with l|⟨k,c,e,z⟩
   .exact .inl l
   .exact .inr (k,c,e,h x c e _ z)
 .let(v,z):=I.cell x c e;exact(v,h x c e v z)
 .let(m,(o,_,_,A,_),_):=I.loc;exact free _ o (λz=>(g _ z).2.1 rfl) A I.free
 .let(v,o,A,hd):=I.cell x c e;exact free c o (λz=>(g c z).2.2.1 x c e rfl) A (I.freeC x c e)
 .let(e,n,ne,E,d):=I.pin p hp;have f:p.1∉ch:=λz=>(g p.1 z).2.2.2 p hp rfl;exact(keep p.1 p.2 ne E f e n,free p.1 p.2 f e n,ne,E,d)
def Inv.un(I:Inv X pins Z H s)(u:Un X.fs [] H H' s.heap h')(hok:HOk X.prog X.w H' h'):Inv X pins Z H' {s with heap:=h',toks:=t'}:=by
 let(m,(o,es,ep,g,r),_):=id I.loc;let(sl,j):=u.any g I.free ()
 exact I.step (g':=s.gens) (d':=s.drawn) (ch:=[]) (λ_ z=>nomatch z) (λb o _ c _ e n=>u.keep b o e n c ()) (λb o _ c _ e n=>u.slot b o e n c ()) (λb o _ e n=>u.free b o e n ()) (λb o _ e=>u.there b o e ()) u.tups u.frzs u.tbls (λk i=>by
  let(o',d,f,a,h):=i;rw[g]at a;cases a
  exact(_,d,f,j,h)) hok I.bare
def Inv.call(I:Inv X pins Z H s)(u:Un (gj X.stack) ch H H' s.heap h')(hok:HOk X.prog X.w H' h')(q:AllBare g')
 (f:∀b∈ch,(b∈X.ex\/X.s₀.heap.objs.size<=b)/\b≠X.env.locals/\(∀x c,X.env.cells.lookup x=J c->c≠b)/\∀p∈X.pn++pins,p.1≠b):
 Inv X pins Z H' {s with heap:=h',gens:=g',drawn:=d',toks:=t'}:=by
 let(m,(o,es,ep,j,r),_):=id I.loc;let(sl,g):=u.any j I.free λz=>(f _ z).2.1 rfl
 exact I.step (ch:=ch) f (λb o g t a e n=>u.keep b o e n (λz=>(XC.mp (I.stkSub b z)).elim g t) a) (λb o _ _ a e n=>u.any e n a) (λb o a e n=>u.free b o e n a) (λb o a e=>u.there b o e a) u.tups u.frzs u.tbls (λv l=>by
  let(o',h,i,d,k):=l;rw[j]at d;cases d
  exact(_,h,i,g,k)) hok q
def Inv.turned(I:Inv X pins Z H s)(k:∀b o,b≠a->s.heap.get? b=J o->h'.get? b=J o)(g:H a=G)(h:a≠X.env.locals)
 (A:a∈X.ex\/X.s₀.heap.objs.size<=a) (y:∀x c,X.env.cells.lookup x=J c->c≠a) (w:∀p∈X.pn++pins,p.1≠a):Inv X pins Z H {s with heap:=h',toks:=t'}:=by
 have f:∀b u,H b=J u->b≠a:=λb u e z=>by rw[z,g]at e;cases e
 refine I.step (g':=s.gens) (d':=s.drawn) (ch:=[a]) (λb t=>?_) (λb o _ _ d e _=>k b o (λz=>d (by simp[z])) e) (λb o _ _ d e _=>(o.slots,k b o (λz=>d (by simp[z])) e)) (λ_ _ _ _ n=>n)
  (λb o d e=>(o,k b o (λz=>d (by simp[z])) e)) (λ_ _ e=>e) (λ_ _ _ e=>e) (λ_ _ e=>(e,λc o i B=>(i,k c o (bD i g) B))) (λm l=>?_) (λb u e=>?_) I.bare
 · have e:b=a:=by simpa using t
   subst e;exact(A,h,y,w)
 .let(o,es,ep,j,r):=l;exact(o,es,ep,k _ o (YS h) j,r)
 · refine(I.hok b u e).stay (λc v d q=>k c v ?_ q) (λ_ q=>q) λ_ _ q=>q;rcases d with z|z
   .rw[z];exact f b u e
   .exact f c _ z
theorem Inv.tok(I:Inv X pins Z H s)(t:Nat):Inv X pins Z H {s with toks:=t}:=I.un (h':=s.heap) (t':=t) Un.refl I.hok
theorem Inv.kept(I:Inv X pins Z H s)(k:∀b u,s.heap.get? b=J u->h'.get? b=J u):Inv X pins Z H {s with heap:=h',toks:=t'}:=I.un (Un.kept k) (I.hok.kept k)
theorem Inv.laid(I:Inv X pins Z H s)(k:∀b u,s.heap.get? b=J u->h'.get? b=J u)(hp:s.heap.objs.size<=a)(new:ObjOk X.prog X.w (upd H a o) h' a o):
 Inv X pins Z (upd H a o) {s with heap:=h',toks:=t'}:=I.un (Un.laid k hp (I.hok.fresh hp)) (I.hok.laid k hp new)
theorem Inv.write(I:Inv X pins Z H s)(c:WF (H x))(d:e=x\/H e=J (.own x))(k:∀b u,b≠e->s.heap.get? b=J u->h'.get? b=J u)(a:∃u,h'.get? e=J u)
 (new:ObjOk X.prog X.w (upd H x o) h' x o):Inv X pins Z (upd H x o) {s with heap:=h',toks:=t'}:=I.un (Un.write c d k a) (I.hok.write c d k a new)
theorem Inv.pins_of(I:Inv X pins Z H s)(h:∀p∈a,s.heap.get? p.1=J p.2/\H p.1=G/\p.1≠X.env.locals/\p.1∉X.fs/\∀v,p.2.data≠ .cell v):Inv X a Z H s:=
 (I.ok,I.os,I.bare,I.base,I.loc,I.cell,I.free,I.freeC,λp hp=>(XJ.mp hp).elim (λz=>I.pin p (Yl _ z)) (h p),I.hok,I.len)
def sX{N:L Str}(c:N.Nodup){i j:Nat}{x:Str}(a:N[i]?=J x)(b:N[j]?=J x):i=j:=by
 let(g,e):=XZ.mp a;let(f,d):=XZ.mp b;exact(List.getElem_inj c).mp (e.trans d.symm)
def Fh{Q:Unit->Shared->Prop}(I:Inv X pins Z H s)(hN:X.N.Nodup)(hi:X.N[i]?=J x)(C:LQ X.env.scope x)(r:RelV v u)
 (h:∀s',Inv X pins (Z.set i (J v)) H s'->(∃a,Heap.SameBut a s.heap s'.heap/\(a=X.env.locals\/X.env.cells.lookup x=J a))->Q j2 s') (hf:X.fn x=true\/X.env.scope.names.lookup x=J .local:=by first | exact .inl rfl | exact .inr rfl | assumption):wpAny M A (storeName X.env x u) Q E s:=by
 let(m,hn,hl):=id I.loc;have S:(X.env.scope.kind == .class||(X.env.scope.kind == .module&&X.env.locals != X.env.globals))=false:=by rw[I.ok.kind];rfl
 have B1:i<Z.length:=by rw[I.len];exact(XZ.mp hi).1
 have cne:=I.cne
 have t:∀{a:Addr} {h':Heap},(∃o,s.heap.get? a=J o/\H a=G)->Heap.SameBut a s.heap h'->HOk X.prog X.w H h':=λ{a h'} ha f b ob e=>by
  let(_,_,F):=ha;refine(I.hok b ob e).stay (λc Y B q=>(f.2 c ?_).trans q) (λ_ q=>q) λ_ _ q=>q;rintro rfl;rcases B with rfl|B
  .rw[F]at e;cases e
  .rw[F]at B;cases B
 rcases C with Cv|Cv
 · refine wpAny_storeName_local Cv hn (λh' hn' f=>?_) S;let(oL,_,_,hoL,_):=id hn;refine h _ (I.ok,I.os,I.bare,(λb o e n O C=>?_,λb o e n O C=>?_,I.base.free,λb o e C=>?_,I.base.tups,I.base.frzs,λb l q=>((I.base.tbls b l q).1,λc o g D=>let (W,f2):=(I.base.tbls b l q).2 c o g D;(W,(f.2 c (bD W I.free)).trans f2))),(_,hn',λj y v' g D e3=>?_),λy c e=>?_,I.free,I.freeC,λp hp=>?_,t (oL,hoL,I.free) f,by simpa using I.len) (_,f,.inl rfl)
   .exact(f.2 b (X4 (X0 (XI e) I.ok.above))).trans (I.base.keep b o e n O C)
   .let(sl,g):=I.base.slot b o e n O C;exact(sl,(f.2 b (X4 (X0 (XI e) I.ok.above))).trans g)
   .let(o',g):=I.base.there b o e C;exact(o',(f.2 b (X4 (X0 (XI e) I.ok.above))).trans g)
   · by_cases K:j=i
     .subst K;rw[hi]at g;cases g;rw[Y1 B1]at D;cases D;exact(u,r,.inl (Cv,by simp))
     · rw[Zn (YS K)]at D;let(u',r',q):=hl j y v' g D e3;refine(u',r',?_);rcases q with ⟨k,e⟩|⟨k,c,e,z⟩
       · refine .inl (k,?_)
         have:y≠x:=λe=>K (sX hN g (e▸hi))
         simp[this,e]
       .exact .inr (k,c,e,z.sameBut f (cne y c e))
   .let(Y,z):=I.cell y c e;exact(Y,z.sameBut f (cne y c e))
   .let(e,n,ne,nf,d):=I.pin p hp;exact((f.2 p.1 ne).trans e,n,ne,nf,d)
 · have I0:X.fn x=true:=by
    rcases hf with z|z
    .exact z
    .rw[z]at Cv;cases Cv
   let(c,B):=I.ok.has x (.inl Cv);let(Y,z):=I.cell x c B;refine wpAny_storeName_cell I.ok.kind Cv B z (λh' U f=>?_);let(oc,R,P):=id z;refine h {s with heap:=h'} (I.ok,I.os,I.bare,(λb o e n O C=>?_,λb o e n O C=>?_,I.base.free,λb o e C=>?_,I.base.tups,I.base.frzs,λb l q=>((I.base.tbls b l q).1,λc' o g D=>let (W,f2):=(I.base.tbls b l q).2 c' o g D;(W,(f.2 c' (bD W (I.freeC x c B))).trans f2))),(m,hn.sameBut f (YS (cne x c B)),λj y v' g D e3=>?_),λy c' e=>?_,I.free,I.freeC,λp hp=>?_,t (oc,R,I.freeC x c B) f,by simpa using I.len) (c,f,.inr B)
   .exact(f.2 b (X4 (X0 (XI e) (I.ok.cab x c I0 B)))).trans (I.base.keep b o e n O C)
   .let(sl,g):=I.base.slot b o e n O C;exact(sl,(f.2 b (X4 (X0 (XI e) (I.ok.cab x c I0 B)))).trans g)
   .let(o',g):=I.base.there b o e C;exact(o',(f.2 b (X4 (X0 (XI e) (I.ok.cab x c I0 B)))).trans g)
   · by_cases K:j=i
     .subst K;rw[hi]at g;cases g;rw[Y1 B1]at D;cases D;exact(u,r,.inr (.inl Cv,c,B,U))
     · rw[Zn (YS K)]at D;let(u',r',q):=hl j y v' g D e3;refine(u',r',?_);rcases q with q|⟨k,c',e,z'⟩
       .exact .inl q
       .refine .inr (k,c',e,z'.sameBut f ?_);rintro rfl;exact K (sX hN g (I.ok.inj _ _ _ e B▸hi))
   · by_cases T:c'=c
     .subst T;exact(_,U)
     .let(w2,z2):=I.cell y c' e;exact(w2,z2.sameBut f T)
   .let(e,n,ne,nf,d):=I.pin p hp;refine((f.2 p.1 ?_).trans e,n,ne,nf,d);intro q;rw[q,R]at e;have q':oc=p.2:=Yc e;exact d Y (by rw[<-q'];exact P)
theorem oG{Q:Unit->Shared->Prop}(I:Inv X pins Z H s)(c:X.N.Nodup)(hi:X.N[i]?=J x)(a:LQ X.env.scope x)(r:RelV v u)
 (h:∀s',Inv X pins (Z.set i (J v)) H s'->Q j2 s') (b:X.fn x=true\/X.env.scope.names.lookup x=J .local:=by first | exact .inl rfl | exact .inr rfl | assumption):wpAny M A (storeName X.env x u) Q E s:=
 Fh I c hi a r (λs' d _=>h s' d) b
def Inv.call'{s':Shared}(I:Inv X pins Z H s)(d:s'.os=s.os)(u:Un (gj X.stack) ch H H' s.heap s'.heap)(hok:HOk X.prog X.w H' s'.heap)(f:AllBare s'.gens)
 (a:∀b∈ch,(b∈X.ex\/X.s₀.heap.objs.size<=b)/\b≠X.env.locals/\(∀x c,X.env.cells.lookup x=J c->c≠b)/\∀p∈X.pn++pins,p.1≠b):Inv X pins Z H' s':=by
 let(h',g',d',t',o'):=s';have e:o'=s.os:=d;subst e;exact I.call (g':=g') (t':=t') (d':=d') u hok f a
end
abbrev XK:=Value->Option Addr->Hp->Prop
abbrev St:=L (Option V)
abbrev VK:=V->Hp->Prop
abbrev TE:=St->Hp->VK->Prop
abbrev TT:=St->Hp->(Bool->Hp->Prop)->Prop
abbrev TA:=St->Hp->(L V->Hp->Prop)->Prop
structure Ends where
 nx:St->Hp->Prop
 rt:VK
 bk:St->Hp->Prop:=λ_ _=>False
 ct:St->Hp->Prop:=λ_ _=>False
abbrev TS:=Ends->St->Hp->Prop
def EP(X:Cx)(a:L1)(Z:St)(Q:VK)(u:Value)(s':Shared):Prop:=∃v H',Inv X a Z H' s'/\RelV v u/\Q v H'
def TP(X:Cx)(a:L1)(Z:St)(Q:Bool->Hp->Prop)(b:Bool)(s':Shared):Prop:=∃H',Inv X a Z H' s'/\Q b H'
def AP(X:Cx)(a:L1)(Z:St)(Q:L V->Hp->Prop)(us:L Value)(s':Shared):Prop:=∃vs H',Inv X a Z H' s'/\Vals vs us/\Q vs H'
def SP(X:Cx)(b:L1)(D:Ends)(f:Flow)(s':Shared):Prop:=
 match f with
 |.next=>∃a H',Inv X b a H' s'/\D.nx a H'
 |.brk=>∃a H',Inv X b a H' s'/\D.bk a H'
 |.cont=>∃a H',Inv X b a H' s'/\D.ct a H'
 |.ret u=>∃v a H',Inv X b a H' s'/\RelV v u/\D.rt v H'
def PE(X:Cx)(e:Expr)(t:TE):Prop:=
 ∀(a:L1) (s:Shared) (Z:St) (H:Hp) (Q:VK),Inv X a Z H s->t Z H Q->j1 X (eval e X.env) (EP X a Z Q) X.xe s
def PT(X:Cx)(e:Expr)(t:TT):Prop:=
 ∀(a:L1) (s:Shared) (Z:St) (H:Hp) (Q:Bool->Hp->Prop),Inv X a Z H s->t Z H Q->j1 X (isTrue e X.env (eval e X.env)) (TP X a Z Q) X.xe s
def PW(X:Cx)(e:Expr)(t:TT):Prop:=
 ∀(whole:Sem Value) (a:L1) (s:Shared) (Z:St) (H:Hp) (Q:Bool->Hp->Prop),Inv X a Z H s->t Z H Q->j1 X (isTrue e X.env whole) (TP X a Z Q) X.xe s
theorem PW.pt{X:Cx}(h:PW X e t):PT X e t:=h _
def PA(X:Cx)(es:L Expr)(t:TA):Prop:=
 ∀(pos:Pos) (a:L1) (s:Shared) (Z:St) (H:Hp) (Q:L V->Hp->Prop),Inv X a Z H s->t Z H Q->j1 X (spliced (backTo pos (starEach es X.env))) (AP X a Z Q) X.xe s
def PS(X:Cx)(st:Stmt)(t:TS):Prop:=
 ∀(a:L1) (s:Shared) (Z:St) (H:Hp) (D:Ends),Inv X a Z H s->t D Z H->j1 X (exec st X.env) (SP X a D) X.xe s
def Gn(X:Cx)(st:L Stmt)(t:TS):Prop:=
 ∀(a:L1) (s:Shared) (Z:St) (H:Hp) (D:Ends),Inv X a Z H s->t D Z H->j1 X (execs st X.env) (SP X a D) X.xe s
theorem cf{Q Q':W->Shared->Prop}(h:wpAny M A t Q E s)(b:∀a s,Q a s->Q' a s):wpAny M A t Q' E s:=YO h b λ_ _ x=>x
section
variable{X:Cx}
def iu(i:Nat):TE:=λZ H Q=>∃v,Z[i]?=J (J v)/\Q v H
def tC(v:V):TE:=λ_ H Q=>Q v H
def Qx(q:X.N[i]?=J x)(k:Tk X.env.scope x)(hd:(x==("__debug__" : Str))=false:=by decide)(g:(x==("__classdict__" : Str))=false:=by decide):PE X (.Name x pos) (iu i):=by
 intro f s Z H Q I h;let(v,e,h):=h;let(m,n,p):=I.loc;let(u,r,l):=p i x v q e k;have d:EP X f Z Q u s:=(v,H,I,r,h);rcases l with ⟨b,o⟩|⟨b,c,j,a⟩
 .exact Aa2 (wpAny_loadName_local I.ok.kind b n o d) hd
 · rcases b with b|b
   .exact Aa2 (wpAny_loadName_cell I.ok.kind b j a d) hd
   .exact Aa2 (wpAny_loadName_free I.ok.kind b j a d g) hd
theorem ah{i j pos}:PE X (.Constant (.int i) j pos) (tC (.int i)):=λ_ _ _ H _ I h=>wpAny_Constant_int (.int i,H,I.tok _,(_,rfl),h)
theorem nn{b j pos}:PE X (.Constant (.bool b) j pos) (tC (.bl b)):=λ_ _ _ H _ I h=>Constant_bool (.bl b,H,I,rfl,h)
theorem ax{x j pos}:PE X (.Constant (.str x) j pos) (tC (.str x)):=λ_ _ _ H _ I h=>Calls.Constant_str (.str x,H,I.tok _,(_,rfl),h)
def Gl(X:Cx)(x:Str):Prop:=X.env.kindOf x=J .globalImplicit
theorem jD{Q:L3}(I:Inv X a Z H s)(c:Gl X x)(b:X.mg x=J u)(h:Q u s)
 (hd:(x==("__debug__" : Str))=false:=by decide):j1 X (eval (.Name x pos) X.env) Q E s:=
 Calls.Name_function_global I.ok.kind c (Calls.loadGlobal_global (by rw[I.ok.glob];exact I.mod.glob.keeps I.bk) b h) hd
def qi{Q:L3}(I:Inv X a Z H s)(e:Gl X x)(d:X.mg x=G)(b:bootBuiltins x=J u)(h:Q u s)
 (c:x ≠ "__name__" := by decide) (hd:(x==("__debug__" : Str))=false:=by decide):j1 X (eval (.Name x pos) X.env) Q E s:=by
 let(i,g,f):=I.mod.blt;exact Calls.Name_function_global I.ok.kind e (Calls.loadGlobal_builtin (by rw[I.ok.glob];exact I.mod.glob.keeps I.bk) d (by rw[I.ok.blt];exact g.keeps I.bk) ((f x c).trans b) h) hd
theorem gW(b:Gl X x)(a:X.mg x=J u)(r:RelV v u)(hd:(x==("__debug__" : Str))=false:=by decide):PE X (.Name x pos) (tC v):=
 λ_ _ _ H _ I h=>jD I b a (v,H,I,r,h) hd
theorem MH(d:Gl X x)(c:X.mg x=G)(a:bootBuiltins x=J u)(r:RelV v u)(b:x ≠ "__name__" := by decide)(hd:(x==("__debug__" : Str))=false:=by decide):PE X (.Name x pos) (tC v):=
 λ_ _ _ H _ I h=>qi I d c a (v,H,I,r,h) b hd
variable{a b:Expr}{ta tb:TE}{pos:Pos}
def PC(X:Cx)(f:CmpOp)(a b:Expr)(t:TE):Prop:=
 ∀(c:L1) (s:Shared) (Z:St) (H:Hp) (Q:VK),Inv X c Z H s->t Z H Q->
  j1 X (eval a X.env) (λv e=>j1 X (eval b X.env) (λu d=>j1 X (compareOp f v u) (EP X c Z Q) X.xe d) X.xe e) X.xe s
def II(b:Expr){a:CmpOp}(h:a≠ .In)(c:a≠ .NotIn):behindInMarks a b=false:=by
 have e:(a == CmpOp.In)=false:=by cases a <;> first | rfl | exact absurd rfl h
 have d:(a == CmpOp.NotIn)=false:=by cases a <;> first | rfl | exact absurd rfl c
 cases b<;>simp[behindInMarks,e,d]
def tB(t:TE):TT:=λZ H Q=>t Z H λx H1=>∃c,x=.bl c/\Q c H1
def HW(h:PC X f a b t)(g:behindInMarks f b=false:=by first | exact II _ () () | rfl):PT X (.Compare a [f] [b] pos) (tB t):=by
 intro e s Z H Q I k;refine wpAny_isTrue_Compare1 (cf (h e s Z H _ I k) λv o g=>cf g λu s2 l=>cf l λc n (x,H1,m,i,j)=>?_) g;let(d,rfl,q):=j;cases i;exact Zj (H1,m,q)
def wZ{e:Expr}(h:PE X e t)(g:∀whole,isTrue e X.env whole=(do let v <-whole;standAt e.pos;holding [v] (truthy v)):=by intro _;rfl):PT X e (tB t):=by
 intro a s Z H Q I f;refine isTrue_plain (cf (h a s Z H _ I f) λv j (x,H1,i,b,c)=>?_) (g _);let(d,rfl,q):=c;cases b;exact Zj (H1,i,q)
variable{tA tB':TT}{rest:L Expr}
def TD(t u:TT):TT:=λZ H Q=>t Z H λc H1=>if c=true then u Z H1 Q else Q false H1
def tOr(t u:TT):TT:=λZ H Q=>t Z H λc H1=>if c=true then Q true H1 else u Z H1 Q
def Tv(t:TT):TT:=λZ H Q=>t Z H λc H1=>Q (!c) H1
def gU(d:PT X a tA):PW X (.BoolOp .And [a] pos) tA:=by
 intro f b s Z H Q I h;refine isTrue_and (cf (d b s Z H Q I h) λc g e=>?_);cases c with
 |true=>exact isTrue_and_nil e
 |false=>exact e
def wX(d:PT X a tA):PW X (.BoolOp .Or [a] pos) tA:=by
 intro f b s Z H Q I h;refine isTrue_or (cf (d b s Z H Q I h) λc g e=>?_);cases c with
 |false=>exact isTrue_or_nil e
 |true=>exact e
def jQ(k:PT X a tA)(j:PW X (.BoolOp .And (b::rest) pos) tB'):PW X (.BoolOp .And (a::b::rest) pos) (TD tA tB'):=by
 intro g d s Z H Q I h;refine isTrue_and (cf (k d s Z H _ I h) λc i (H1,f,e)=>?_);cases c with
 |true=>exact j g d i Z H1 Q f e
 |false=>exact(H1,f,e)
def Dp(k:PT X a tA)(j:PW X (.BoolOp .Or (b::rest) pos) tB'):PW X (.BoolOp .Or (a::b::rest) pos) (tOr tA tB'):=by
 intro g d s Z H Q I h;refine isTrue_or (cf (k d s Z H _ I h) λc i (H1,f,e)=>?_);cases c with
 |true=>exact(H1,f,e)
 |false=>exact j g d i Z H1 Q f e
def HV(d:PT X a tA):PT X (.UnaryOp .Not a pos) (Tv tA):=by
 intro b s Z H Q I h;exact isTrue_not (d b s Z H (λc H1=>Q (!c) H1) I h)
def tIf(t:TT)(ta tb:TE):TE:=λZ H Q=>t Z H λc H1=>if c=true then ta Z H1 Q else tb Z H1 Q
def Ig(j:PT X c tA)(l:PE X a ta)(k:PE X b tb):PE X (.IfExp c a b pos) (tIf tA ta tb):=by
 intro e s Z H Q I h;refine wpAny_IfExp (cf (j e s Z H _ I h) λd f (H1,i,g)=>?_);cases d with
 |true=>exact l e f Z H1 Q i g
 |false=>exact k e f Z H1 Q i g
end
def SqL(K:L0)(H:Hp)(a:Addr)(xs:L V):Prop:=
 Rd H a (.lst xs)\/
  ∃(o:Obj) (its:Array Value) (n:Nat),K.lookup a=J o/\o.cls=.type "list" /\ o.dict=G/\o.data=.seq its n/\its.size<=sizeLine/\Vals xs its.toList
def SqT(K:L0)(H:Hp)(a:Addr)(xs:L V):Prop:=
 Rd H a (.tup xs)\/
  ∃(o:Obj) (its:Array Value) (n:Nat),K.lookup a=J o/\o.cls=.type "tuple" /\ o.data=.seq its n/\its.size<=sizeLine/\Vals xs its.toList
def Xl:Value->Option V
 |.none=>J .non
 |.bool b=>J (.bl b)
 |.int i _=>J (.int i)
 |.str x _=>J (.str x)
 |.bytes b _=>J (.byt b)
 |.float b _=>J (.flt b)
 |.ref a=>J (.ref a)
 |.type n=>J (.ty n)
 |_=>G
def RelV.abs(r:RelV x u):Xl u=J x:=by
 cases x with
 |non=>cases r;rfl
 |bl _=>cases r;rfl
 |int _=>let(t,rfl):=r;rfl
 |str _=>let(t,rfl):=r;rfl
 |byt _=>let(t,rfl):=r;rfl
 |flt _=>let(t,rfl):=r;rfl
 |ref _=>cases r;rfl
 |ty _=>cases r;rfl
theorem RelV.inj(r:RelV x u)(q:RelV y u):x=y:=Yc (r.abs.symm.trans q.abs)
theorem Vals.inj:∀{xs ys:L V} {us:L Value},Vals xs us->Vals ys us->xs=ys
 |_,_,_,.nil,.nil=>rfl
 |_,_,_,.cons r t,.cons a t'=>by rw[r.inj a,Vals.inj t t']
section
variable{X:Cx}{pins:L1}{Z:St}{H:Hp}{s:Shared}{a:Addr}{xs ys:L V}
theorem SqL.of{K:L0}(h:H a=J (.lst xs)):SqL K H a xs:=.inl (.inl h)
theorem SqT.of{K:L0}(h:H a=J (.tup xs)):SqT K H a xs:=.inl (.inl h)
def Inv.list(I:Inv X pins Z H s)(h:SqL X.K H a xs):∃its:L Value,Vals xs its/\PlainL s.heap a its.toArray/\xs.length<=sizeLine:=by
 rcases h with h|⟨o,its,n,c,d,hd,b,f,r⟩
 .let(z,its,n,r,e):=h.ok I.hok;exact(its,r,(_,n,e,rfl,rfl,rfl),z)
 .refine(its.toList,r,(o,n,I.kIn a o c,d,hd,by simpa using b),?_);have e:=r.length;simp only[YD]at e;omega
def Inv.tuple(I:Inv X pins Z H s)(h:SqT X.K H a xs):∃its:L Value,Vals xs its/\IsTup s.heap a its.toArray/\xs.length<=sizeLine:=by
 rcases h with h|⟨o,its,n,c,d,b,f,r⟩
 .let(z,its,r,p):=h.ok I.hok;exact(its,r,p,z)
 .refine(its.toList,r,(o,I.kIn a o c,d,n,by simpa using b),?_);have e:=r.length;simp only[YD]at e;omega
def Inv.list_inj(I:Inv X pins Z H s)(h:SqL X.K H a xs)(h':SqL X.K H a ys):xs=ys:=by
 let(its,r,(o,n,e,_,_,d),_):=I.list h;let(its',c,(o',f,b,_,_,d'),_):=I.list h';rw[e]at b;cases b;rw[d]at d';injection d' with N _
 have:its=its':=by simpa using congrArg Array.toList N
 subst this;exact r.inj c
end
abbrev Cx.wish(X:Cx)(E:L3):Cx:={X with xe:=E}
abbrev Cx.nox(X:Cx):Cx:=X.wish λ_ _=>False
theorem Cx.Ok.wish{X:Cx}(ok:X.Ok)(E:L3):(X.wish E).Ok:=
 (ok.mod,ok.kind,ok.glob,ok.blt,ok.above,ok.inj,ok.has,ok.cab,ok.hd,ok.frames,ok.stk,ok.exf,ok.bs,ok.bsz,ok.noex,ok.exfs,ok.funs,ok.frf)
theorem Cx.Ok.unwish{X:Cx}(ok:(X.wish E).Ok):X.Ok:=
 (ok.mod,ok.kind,ok.glob,ok.blt,ok.above,ok.inj,ok.has,ok.cab,ok.hd,ok.frames,ok.stk,ok.exf,ok.bs,ok.bsz,ok.noex,ok.exfs,ok.funs,ok.frf)
section
variable{X:Cx}{pins:L1}{Z:St}{H:Hp}{s:Shared}{E:L3}
theorem Inv.wish(I:Inv X pins Z H s)(E:L3):Inv (X.wish E) pins Z H s:=(I.ok.wish E,I.os,I.bare,I.base,I.loc,I.cell,I.free,I.freeC,I.pin,I.hok,I.len)
theorem Inv.unwish(I:Inv (X.wish E) pins Z H s):Inv X pins Z H s:=(I.ok.unwish,I.os,I.bare,I.base,I.loc,I.cell,I.free,I.freeC,I.pin,I.hok,I.len)
def SP.unwish{D:Ends}(h:SP (X.wish E) pins D f s'):SP X pins D f s':=by
 cases f with
 |next=>let(a,H',I,q):=h;exact(a,H',I.unwish,q)
 |brk=>let(a,H',I,q):=h;exact(a,H',I.unwish,q)
 |cont=>let(a,H',I,q):=h;exact(a,H',I.unwish,q)
 |ret u=>let(v,a,H',I,r,q):=h;exact(v,a,H',I.unwish,r,q)
end
section
variable{X:Cx}{st:Stmt}{rest:L Stmt}{t u:TS}{e:Expr}{te:TE}{pos:Pos}
def Og:TS:=λD Z H=>D.nx Z H
def L6(t u:TS):TS:=λD Z H=>t {D with nx:=u D} Z H
theorem bG:Gn X [] Og:=λ_ _ Z H _ I h=>Y6 (Z,H,I,h)
def ae(e:PS X st t)(d:Gn X rest u):Gn X (st::rest) (L6 t u):=by
 intro a s Z H D I h;refine ZQ (cf (e a s Z H {D with nx:=u D} I h) λf c q=>?_);cases f with
 |next=>
   let(b,H',g,q):=q;exact d a c b H' D g q
 |ret v=>exact q
 |brk=>exact q
 |cont=>exact q
def aj(b:PS X st t):Gn X [st] t:=by
 intro a s Z H D I h;refine ZQ (cf (b a s Z H D I h) λf c q=>?_);cases f with
 |next=>exact Y6 q
 |ret v=>exact q
 |brk=>exact q
 |cont=>exact q
def Inv.quiet(I:Inv X a Z H s):interactive X.env=false:=by simp[interactive,I.ok.kind]
def CO(te:TE):TS:=λD Z H=>te Z H λ_ H1=>D.nx Z H1
def bj(d:PE X e te)(c:swapsWith e G pos.line X.env=pure false:=by rfl):PS X (.Expr e pos) (CO te):=by
 intro a s Z H D I h;exact wpAny_Expr_any (cf (d a s Z H _ I h) λv g (x,H1,f,i,b)=>(Z,H1,f,b)) I.quiet c
def Tu(te:TE):TS:=λD Z H=>te Z H D.rt
def bA(d:PE X e te):PS X (.Return (J e) pos) (Tu te):=by
 intro a s Z H D I h;exact wpAny_Return_some (cf (d a s Z H _ I h) λv g (x,H1,f,b,c)=>(x,Z,H1,f,b,c))
def Tw(c:TT)(t u:TS):TS:=λD Z H=>c Z H λb H1=>if b=true then t D Z H1 else u D Z H1
def cr(k:PT X c f)(m:Gn X a t)(l:Gn X b u):PS X (.If c a b pos) (Tw f t u):=by
 intro e s Z H D I h;refine wpAny_If (cf (k e s Z H _ I h) λd g (H1,j,i)=>?_);cases d with
 |true=>exact m e g Z H1 D j i
 |false=>exact l e g Z H1 D j i
end
abbrev TG:=V->St->Hp->(St->Hp->Prop)->Prop
abbrev Tc:=L V->St->Hp->(St->Hp->Prop)->Prop
def PG(X:Cx)(a:Expr)(t:TG):Prop:=
 ∀(b:L1) (s:Shared) (Z:St) (H:Hp) (v:V) (u:Value) (Q:St->Hp->Prop),Inv X b Z H s->RelV v u->t v Z H Q->
  j1 X (assign a X.env u) (λ_ s'=>∃c H',Inv X b c H' s'/\Q c H') X.xe s
def WW(X:Cx)(c:L Expr)(t:Tc):Prop:=
 ∀(a:L1) (s:Shared) (Z:St) (H:Hp) (vs:L V) (us:L Value) (Q:St->Hp->Prop),Inv X a Z H s->Vals vs us->t vs Z H Q->
  j1 X (assignInOrder ((assignEach c X.env).map (·.2)) us) (λ_ s'=>∃b H',Inv X a b H' s'/\Q b H') X.xe s
section
variable{X:Cx}{pos:Pos}
def eB(i:Nat):TG:=λv Z H Q=>Q (Z.set i (J v)) H
def b6(d:X.N.Nodup)(hi:X.N[i]?=J x)(b:LQ X.env.scope x)(c:X.fn x=true\/X.env.scope.names.lookup x=J .local:=by first | exact .inl rfl | exact .inr rfl | assumption):PG X (.Name x pos) (eB i):=by
 intro a s Z H v u Q I r h;exact wpAny_assign_Name (oG I d hi b r (λs' e=>(_,H,e,h)) c)
def RX:Tc:=λvs Z H Q=>vs=[]/\Q Z H
def zW(t:TG)(u:Tc):Tc:=λvs Z H Q=>∃v r,vs=v::r/\t v Z H λa H'=>u r a H' Q
def Dw:WW X [] RX:=by
 intro a s Z H vs us Q I r h;let(e,h):=h;subst e;cases r;exact assignInOrder_nil (Z,H,I,h)
def oK(j:PG X e t)(i:WW X es u)
 (g:(assignEach (e::es) X.env).map (·.2)=assign e X.env::(assignEach es X.env).map (·.2):=by rfl):WW X (e::es) (zW t u):=by
 intro a s Z H vs us Q I r h;let(v,vr,k,h):=h;subst k;cases r with
 |cons r d=>
   rw[g];refine assignInOrder_cons (cf (j a s Z H _ _ _ I r h) λ_ c (b,H1,l,f)=>?_);exact i a c b H1 _ _ Q l d f
def RW(K:L0)(n:Nat)(t:Tc):TG:=λv Z H Q=>∃a xs,v=.ref a/\SqT K H a xs/\xs.length=n/\t xs Z H Q
def Ie(q:X.calm=true)(h:WW X es t)
 (m:(assignEach es X.env).length=n:=by rfl) (f:(assignEach es X.env).findIdx? (·.1)=none:=by rfl):PG X (.Tuple es k pos) (RW X.K n t):=by
 intro c s Z H v u Q I r d;let(a,xs,w,l,p,d):=d;subst w;cases r;let(its,g,j,y):=I.tuple l;refine assign_Tuple_tuple (I.ok.hd q) j (by simp[m,<-p,g.length]) f λh' i=>?_;have x:Inv X c Z H {s with heap:=h'}:=I.kept (t':=s.toks) λb o e=>i b o (X4 (XI e)) e;exact h c _ Z H xs _ Q x (by simpa using g) d
def pU(te:TE)(g:TG):TS:=λD Z H=>te Z H λx H1=>g x Z H1 D.nx
def aI(l:X.N.Nodup)(hi:X.N[i]?=J x)(f:LQ X.env.scope x)(k:PE X e te)(g:swapsWith e (J (.Name x a)) pos.line X.env=pure false:=by rfl)(j:X.fn x=true\/X.env.scope.names.lookup x=J .local:=by first | exact .inl rfl | exact .inr rfl | assumption):
 PS X (.Assign [.Name x a] e pos) (pU te (eB i)):=by
 intro b s Z H D I h;refine wpAny_Assign_Name (cf (k b s Z H _ I h) λv o (y,H1,n,c,d)=>?_) g;exact oG n l hi f c (λs2 m=>(_,H1,m,d)) j
end
section
variable{X:Cx}{pos:Pos}
def GF(c:TT)(tb:TS):TS:=λD Z H=>∃W:Nat->St->Hp->Prop,(∃m,W m Z H)/\∀m Z H,W m Z H->
 c Z H λb H1=>if b=true then ∃N:St->Hp->Prop,(∀a H',N a H'->∃d,d<m/\W d a H')/\tb {D with nx:=N,ct:=N,bk:=D.nx} Z H1 else D.nx Z H1
def HX(hp:PassesOwn (model X.prog X.w) X.A X.env X.xe)(F:PT X c t)(Cv:Gn X body tb):PS X (.While c body [] pos) (GF t tb):=by
 intro d s Z H D I h;let(W,(E,B),i):=h;refine wpAny_While (codeAny_whileLoop (λn s'=>∃g H',Inv X d g H' s'/\W n g H') ?_ E (Z,H,I,B));rintro n C ⟨e,H1,B1,z⟩;refine Y7 hp (cf (F d C e H1 _ B1 (i n e H1 z)) λb s2 (y,x,l)=>?_);cases b with
 |true=>
   let(N,u,l):=l;rw[Xx rfl];refine Y7 hp (cf (Cv d s2 e y _ x l) λf K k=>?_);cases f with
   |next=>
     let(a,j,r,o):=k;let(p,q,m):=u a j o;exact(p,q,a,j,r,m)
   |cont=>
     let(a,j,r,o):=k;let(p,q,m):=u a j o;exact(p,q,a,j,r,m)
   |brk=>exact k
   |ret v=>exact k
 |false=>
   rw[Xy XO];exact Y6 (e,y,x,l)
end
structure It where
 go:Nat->Hp->Prop
 yld:Nat->Hp->V->Hp->Prop
 stop:Nat->Hp->Prop
def kA(X:Cx)(a:L1)(H:Hp)(b:Addr):Prop:=
 H b=G/\b≠X.env.locals/\b∉X.fs/\(b∈X.ex\/X.s₀.heap.objs.size<=b)/\(∀x c,X.env.cells.lookup x=J c->c≠b)/\∀p∈X.pn++a,p.1≠b
def Inv.fpOk{X:Cx}{H':Hp}{s:Shared}(I:Inv X a Z H s)(d:s.heap.objs.size<=b)(f:H' b=G):kA X a H' b:=by
 refine(f,Nat.ne_of_gt (X0 I.lt d),I.nofs d,.inr (Yw I.sz d),λx c e z=>?_,λp hp z=>?_)
 .let(v,q):=I.cell x c e;exact absurd (X0 q.lt (by rw[z];exact d)) (YW _)
 .exact absurd (X0 (XI (I.pin p hp).1) (by rw[z];exact d)) (YW _)
structure Turn (P:Program) (w:World) (K:L0) (tg:Expr) (B1:It) (fp:L Addr) (it:Addr) (tn:Nat->Heap->Prop):Prop where
 mem:it∈fp
 obj:∀i h,tn i h->∀b∈fp,∃o,h.get? b=J o/\∀v,o.data≠ .cell v
 keep:∀i h h',tn i h->(∀b∈fp,∀o,h.get? b=J o->h'.get? b=J o)->tn i h'
 item:∀(X:Cx),X.prog=P->X.w=w->X.K=K->X.calm=true->∀(i:Nat) (pins:L1) (s:Shared) (Z:St) (H:Hp) (E:L3),Inv X pins Z H s->(∀b∈fp,kA X pins H b)->tn i s.heap->B1.go i H->
  wpAny (model P w) X.A (pyNext (.ref it)) (λr s1=>∃u,r=J u/\
   wpAny (model P w) X.A (letOwnedTupleGo tg (.ref it) u) (λ_ s2=>∃x H',Inv X pins Z H' s2/\RelV x u/\B1.yld i H x H'/\tn (i+1) s2.heap/\∀b∈fp,H' b=G) E s1) E s
 done:∀(X:Cx),X.prog=P->X.w=w->X.K=K->X.calm=true->∀(i:Nat) (pins:L1) (s:Shared) (Z:St) (H:Hp) (E:L3),Inv X pins Z H s->(∀b∈fp,kA X pins H b)->tn i s.heap->B1.stop i H->
  wpAny (model P w) X.A (pyNext (.ref it)) (λr s1=>r=G/\Inv X pins Z H s1) E s
 self:∀(A:Around) (i:Nat) (s:Shared) (Q:L3) (E:L3),tn i s.heap->Q (.ref it) s->wpAny (model P w) A (pyIter (.ref it)) Q E s
abbrev TI:=St->Hp->(It->Hp->Prop)->Prop
def PIE(X:Cx)(a:L1)(Z:St)(g:Expr)(R:It->Hp->Prop)(c:Value)(s2:Shared):Prop:=
 ∃(e:Addr) (f:L Addr) (d:Nat->Heap->Prop) (B1:It) (H':Hp),c=.ref e/\Inv X a Z H' s2/\Turn X.prog X.w X.K g B1 f e d/\d 0 s2.heap/\(∀b∈f,kA X a H' b)/\R B1 H'
def PI(X:Cx)(c iter:Expr)(b:TI):Prop:=
 ∀(a:L1) (s:Shared) (Z:St) (H:Hp) (R:It->Hp->Prop),Inv X a Z H s->b Z H R->
  j1 X (eval iter X.env) (λv d=>j1 X (pyIter v) (PIE X a Z c R) X.xe d) X.xe s
def J0{s:Shared}{o:Obj}{Q:Unit->Shared->Prop}(d:s.heap.get? c=J o)(f:o.cls=.type n)(hd:o.data=.fields vs)
 (e:["enumerate","zip","dict_itemiterator","dict_reverseitemiterator","odict_iterator","itertools.zip_longest","itertools.pairwise"].contains n=false) (a:Q j2 s):wpAny M A (letOwnedTupleGo b (.ref c) u) Q E s:=by
 ext letOwnedTupleGo
 cases b <;> first
  |exact XQ a
  | (cases u <;> first
      |exact XQ a
      | (refine XA (wpAny_load d ?_)
         rw[f,hd];show wpAny M A (if (["enumerate","zip","dict_itemiterator","dict_reverseitemiterator","odict_iterator","itertools.zip_longest","itertools.pairwise"].contains n&&vs[0]?==J (rawInt _))=true then _ else _) Q E s;rw[Xy (by intro h;rw[e,Bool.false_and]at h;cases h)]
         exact XQ a))
def Xq(K:L0)(a:Addr):It:=
 (λi H=>∃xs x,SqL K H a xs/\xs[i]?=J x,λi H x H'=>H'=H/\∀xs,SqL K H a xs->xs[i]?=J x,λi H=>∃xs,SqL K H a xs/\xs.length<=i)
def WG(lo:Int)(n:Nat):It:=(λi _=>i<n,λi H x H'=>H'=H/\x=.int (lo+i),λi _=>n<=i)
def E8{P:Program}{w:World}{K:L0}{M:Expr}(a g:Addr):Turn P w K M (Xq K a) [g] g (λi h=>h.IsListIter g a i) where
 mem:=by simp
 obj:=λi h st b j=>by
  have e:b=g:=by simpa using j
  subst e;let(o,e,c,d):=st;exact(o,e,λv z=>by rw[d]at z;cases z)
 keep:=λi h h' st k=>st.at λo e=>k g () o e
 item:=by
  intro X A t B I0 i f s Z H E I n st y;subst A t B;let(xs,x,m,r):=y;let(its,q,p,Q):=I.list m;let(u,S,O):=q.get r;let(B1,Cv,T,F,D,C):=n g ();refine wpAny_pyNext_list_item st p.isList (x:=u) (by simpa using S) λh' l N=>?_;have V:Inv X f Z H {s with heap:=h'}:=I.turned (t':=s.toks) (λb o j e=>(N.2 b j).trans e) B1 Cv F D C;let(o,e,c,d):=id l;exact(u,rfl,J0 (s:={s with heap:=h'}) e c d () (x,H,V,O,(rfl,λys R=>by rw[I.list_inj R m];exact r),l,λb j=>(n b j).1))
 done:=by
  intro X A t B I0 i f s Z H E I n st y;subst A t B;let(xs,m,r):=y;let(its,q,p,Q):=I.list m;let(B1,Cv,T,F,D,C):=n g ();have Y:=q.length;exact wpAny_pyNext_list_end (I.ok.hd I0) st p.isList (by simp;omega) λh' U=>(rfl,I.turned (t':=s.toks) (λb o j e=>U b o j e) B1 Cv F D C)
 self:=λ_ _ _ _ _ st h=>wpAny_pyIter_listiter st h
def A5{P:Program}{w:World}{K:L0}{D:Expr}(c:Addr)(lo:Int)(n:Nat):Turn P w K D (WG lo n) [c] c (λi h=>IsRangeIter h c (lo+(i:Nat)*1) ((n:Int)-(i:Nat)) 1) where
 mem:=by simp
 obj:=λi h st b d=>by
  have e:b=c:=by simpa using d
  subst e
  exact(_,st,λv z=>by
   have C:Data.fields _=Data.cell v:=z
   cases C)
 keep:=λi h h' st k=>k c () _ st
 item:=by
  intro X p j q m i a s Z H E I g st l;subst p j q;let(A,y,B1,x,u,r):=g c ();have W:=Walks.range (prog:=X.prog) (w:=X.w) (I.ok.hd m) c lo 1 n;refine W.item i s _ _ l st λv h' B Cv f F=>?_;let(t,rfl):=Cv;have M:Inv X a Z H {s with heap:=h',toks:=B}:=I.turned (λb o d e=>F b o (by simpa using d) e) A y x u r;refine(_,rfl,J0 (s:={s with heap:=h',toks:=B}) (n := "range_iterator") f rfl rfl () (.int (lo+i),H,M,(t,?_),(rfl,rfl),f,λb d=>(g b d).1));rw[Int.mul_one]
 done:=by
  intro X p j q m i a s Z H E I g st l;subst p j q;let(A,y,B1,x,u,r):=g c ();exact wpAny_pyNext_range_end (I.ok.hd m) st (by have:n<=i:=l;omega) λh' I0=>(rfl,I.turned (t':=s.toks) (λb o d e=>I0 b o d e) A y x u r)
 self:=λ_ _ _ _ _ st h=>wpAny_pyIter_rangeiter st h
section
variable{X:Cx}{tg:Expr}
def zQ(K:L0)(b:TE):TI:=λZ H R=>b Z H λx H1=>∃a,x=.ref a/\(∃xs,SqL K H1 a xs)/\R (Xq K a) H1
def MF(m:PE X l g):PI X tg l (zQ X.K g):=by
 intro c s Z H R I h;refine cf (m c s Z H _ I h) λv d (x,H1,f,i,j)=>?_;let(a,e,(xs,k),q):=j;subst e;cases i;let(its,r,p,t):=f.list k;refine Ab5 p.isList ?_;refine(d.heap.objs.size,[d.heap.objs.size],_,_,H1,rfl,f.kept (t':=d.toks) λb o e=>XB _ e,E8 a _,(_,XU _ rfl,rfl,rfl),λb n=>?_,q);have e:b=d.heap.objs.size:=by simpa using n
 subst e;exact f.fpOk (XH _) (f.hok.fresh (XH _))
def ze{s:Shared}{R:It->Hp->Prop}{lo:Int}(I:Inv X a Z H s)(j:-(2 ^ 62)<=lo)(i:lo<2 ^ 62)(h:-(2 ^ 62)<=hi)(g:hi<2 ^ 62)
 (q:R (WG lo (hi-lo).toNat) H):j1 X (pyIter (.ref s.heap.objs.size)) (PIE X a Z tg R) E {s with heap:=s.heap.push {cls:=.type "range",data:=.fields #[.int lo t,.int hi u,.int 1 v]},toks:=c}:=by
 refine wpAny_pyIter_range (IsRange.new ..) (small_one j i h g) ?_;have d:Inv X a Z H {s with heap:=s.heap.push {cls:=.type "range",data:=.fields #[.int lo t,.int hi u,.int 1 v]},toks:=c}:=I.kept λb o e=>XB _ e
 refine((s.heap.push {cls:=.type "range",data:=.fields #[.int lo t,.int hi u,.int 1 v]}).objs.size,[(s.heap.push {cls:=.type "range",data:=.fields #[.int lo t,.int hi u,.int 1 v]}).objs.size],_,_,H,rfl,
  d.kept (t':=c) λb o e=>XB _ e,A5 _ lo (hi-lo).toNat,?_,λb f=>?_,q)
 · have l:lo+((0:Nat):Int)*1=lo:=by simp
   have k:(((hi-lo).toNat:Nat):Int)-((0:Nat):Int)=Builtin.Range.rangeSize lo hi 1:=by rw[rangeSize_one];split<;>omega
   show IsRangeIter _ _ (lo+((0:Nat):Int)*1) ((((hi-lo).toNat:Nat):Int)-((0:Nat):Int)) 1;rw[l,k];exact XU _ rfl
 · have e:b=(s.heap.push {cls:=.type "range",data:=.fields #[.int lo t,.int hi u,.int 1 v]}).objs.size:=by simpa using f
   subst e;exact d.fpOk (XH _) (d.hok.fresh (XH _))
def O7(ta:TA):TI:=λZ H R=>ta Z H λvs H1=>∃j:Int,vs=[.int j]/\-(2 ^ 62)<=j/\j<2 ^ 62/\R (WG 0 j.toNat) H1
def O6(ta:TA):TI:=λZ H R=>ta Z H λvs H1=>∃i j:Int,vs=[.int i,.int j]/\(-(2 ^ 62)<=i/\i<2 ^ 62/\-(2 ^ 62)<=j/\j<2 ^ 62)/\R (WG i (j-i).toNat) H1
def dY(l:Gl X "range")(k:X.mg "range" = G)(m:PA X [a] ta)(i:starEach [a] X.env=[(false,eval a X.env)]:=by rfl):PI X tg (.Call (.Name "range" p) [a] [] pos) (O7 ta):=by
 intro b s Z H R I h;refine Call_ (qi I l k boot_range (Zk (cf (m pos b s Z H _ I h) λus o (vs,H1,n,f,c)=>?_) i rfl));let(j,e,c,g,q):=c;subst e;cases f with
 |cons r d=>
   cases d;let(t,rfl):=r;exact call_range_1 (ze n ∅ ∅ c g (by simpa using q))
def vI(w:Gl X "range")(v:X.mg "range" = G)(x:PA X [a,b] ta)(u:starEach [a,b] X.env=[(false,eval a X.env),(false,eval b X.env)]:=by rfl)(d:starEach [b] X.env=[(false,eval b X.env)]:=by rfl):
 PI X tg (.Call (.Name "range" p) [a,b] [] pos) (O6 ta):=by
 intro c s Z H R I h;refine Call_ (qi I w v boot_range (Zk (cf (x pos c s Z H _ I h) λus z (vs,H1,y,k,g)=>?_) (by rw[u,d]) (by rw[d];rfl)));let(i,j,e,(g,o,n,m),q):=g;subst e;cases k with
 |cons r f=>
   cases f with
   |cons l f=>
     cases f;let(t,rfl):=r;let(t',rfl):=l;exact call_range_2 (ze y g o n m q)
def Tx(d:TI)(g:TG)(tb:TS):TS:=λD Z H=>d Z H λB1 H1=>∃W:Nat->Nat->St->Hp->Prop,(∃m,W 0 m Z H1)/\∀i m Z H,W i m Z H->
 (B1.stop i H/\D.nx Z H)\/(B1.go i H/\∃N:St->Hp->Prop,(∀a H',N a H'->∃c,c<m/\W (i+1) c a H')/\∀x H',B1.yld i H x H'->g x Z H' λb e=>tb {D with nx:=N,ct:=N,bk:=D.nx} b e)
def qc(a:L Addr)(h:Heap):L1:=a.filterMap λb=>(h.get? b).map λo=>(b,o)
theorem gI{h:Heap}(c:b∈a)(e:h.get? b=J o):(b,o)∈qc a h:=Zz.mpr (b,c,by rw[e];rfl)
def FC{h:Heap}{p:Addr×Obj}(hp:p∈qc a h):p.1∈a/\h.get? p.1=J p.2:=by
 let(b,c,e):=Zz.mp hp;cases q:h.get? b with
 |none=>rw[q]at e;cases e
 |some o=>
   rw[q]at e;have d:(b,o)=p:=Yc e;subst d;exact(c,q)
theorem Inv.pinned{s:Shared}(I:Inv X a Z H s)(i:∀b∈c,kA X a H b)(h:∀b∈c,∃o,s.heap.get? b=J o/\∀v,o.data≠ .cell v):Inv X (a++qc c s.heap) Z H s:=
 I.pins_of λp hp=>(XJ.mp hp).elim (λz=>I.pin p (XE _ z)) λz=>by
  let(f,e):=FC z;let(l,k,j,_):=i p.1 f;let(o,g,d):=h p.1 f;rw[e]at g;cases g;exact(e,l,k,j,d)
theorem Inv.unpinned(I:Inv X (a++pl) Z H s):Inv X a Z H s:=I.pins_of λp hp=>I.pin p (XE _ (Yl _ hp))
def fy(hp:PassesOwn (model X.prog X.w) X.A X.env X.xe)(hc:X.calm=true)(hi:PI X tg iter Y)(hg:PG X tg g)(p:Gn X body tb)
 (hs:∀x,foldedSetIterable iter X.env x=pure x:=by intro _;rfl):PS X (.For tg iter body [] pos) (Tx Y g tb):=by
 intro c s Z H D I h;refine wpAny_For (cf (hi c s Z H _ I h) λv s1 h1=>cf h1 λitv s2 h2=>?_) hs;let(it,I0,tn,B1,H2,e,I2,T,Q,f2,W,(m0,w0),C):=h2;subst e
 -- what P true of the z F through the loop
 have l:∀{H':Hp},(∀b∈I0,H' b=G)->∀b∈I0,kA X c H' b:=λhn b p=>(hn b p,(f2 b p).2);refine codeAny_forLoop_any (λn s'=>∃i k H',Inv X c k H' s'/\tn i s'.heap/\(∀b∈I0,H' b=G)/\W i n k H') ?_ m0 (0,Z,H2,I2,Q,λb p=>(f2 b p).1,w0);rintro n s3 ⟨i,j,M,I3,E,K,w3⟩;rcases C i n j M w3 with ⟨stop,qn⟩|⟨go,N,hN,step⟩
 .refine Y7 hp (cf (T.done X rfl rfl rfl hc i c s3 j M X.xe I3 (l K) E stop) λr s4 (S,I4)=>?_);subst S;exact Y6 (j,M,I4,qn)
 · refine Y7 hp (cf (T.item X rfl rfl rfl hc i c s3 j M X.xe I3 (l K) E go) λr s4 (u,S,h4)=>?_);subst S;refine Y7 hp (cf h4 λ_ s5 (x,H5,I5,r5,y5,B,U)=>?_);have V:=I5.pinned (l U) (T.obj _ _ B);refine Y7 hp (cf (hg _ s5 j H5 x u _ V r5 (step x H5 y5)) λ_ s6 (O,H6,I6,q6)=>?_);refine Y7 hp (cf (p _ s6 O H6 _ I6 q6) λf R y=>?_)
   have again:∀{a:St} {t:Hp},Inv X (c++qc I0 s5.heap) a t R->N a t->∃m,m<n/\∃i k H',Inv X c k H' R/\tn i R.heap/\(∀b∈I0,H' b=G)/\W i m k H':=λ{a t} q Cv=>by
    let(m',hm,w7):=hN a t Cv;refine(m',hm,i+1,a,t,q.unpinned,T.keep _ _ _ B λb p o e=>(q.pin (b,o) (XE _ (XE _ (gI p e)))).1,λb p=>?_,w7);let(o,e,d):=T.obj _ _ B b p;exact(q.pin (b,o) (XE _ (XE _ (gI p e)))).2.1
   cases f with
   |next=>let(a,t,q,Cv):=y;exact again q Cv
   |cont=>let(a,t,q,Cv):=y;exact again q Cv
   |brk=>let(a,t,q,y):=y;exact(a,t,q.unpinned,y)
   |ret v=>let(x7,a,t,q,r7,y):=y;exact(x7,a,t,q.unpinned,r7,y)
end
abbrev R2:=V->V->Hp->VK->Prop
def rG(X:Cx)(f:Value->Value->Sem Value)(r:R2):Prop:=
 ∀(a:L1) (s:Shared) (Z:St) (H:Hp) (x y:V) (v u:Value) (Q:VK),Inv X a Z H s->RelV x v->RelV y u->r x y H Q->
  j1 X (f v u) (EP X a Z Q) X.xe s
def Xm(X:Cx)(f:Value->Sem Value)(r:V->Hp->VK->Prop):Prop:=
 ∀(a:L1) (s:Shared) (Z:St) (H:Hp) (x:V) (v:Value) (Q:VK),Inv X a Z H s->RelV x v->r x H Q->
  j1 X (f v) (EP X a Z Q) X.xe s
def fP(X:Cx)(f:Value)(r:L V->Hp->VK->Prop):Prop:=
 ∀(a:L1) (s:Shared) (Z:St) (H:Hp) (xs:L V) (us:L Value) (Q:VK),Inv X a Z H s->Vals xs us->r xs H Q->
  j1 X (call f us) (EP X a Z Q) X.xe s
def LH(r:R2)(ta tb:TE):TE:=λZ H Q=>ta Z H λx H1=>tb Z H1 λy a=>r x y a Q
def tUn(r:V->Hp->VK->Prop)(ta:TE):TE:=λZ H Q=>ta Z H λx H1=>r x H1 Q
def rI(C:Int->Int->Prop)(g:Int->Int->V):R2:=λx y H Q=>∃i j,x=.int i/\y=.int j/\C i j/\Q (g i j) H
def Dm(g:Int->Int->V):R2:=λx y H Q=>∃i j,x=.int i/\y=.int j/\Q (g i j) H
def rU(g:Int->V):V->Hp->VK->Prop:=λx H Q=>∃i,x=.int i/\Q (g i) H
section
variable{X:Cx}{a b c:Expr}{ta tb tc:TE}{pos:Pos}
def SW(p:PE X a ta)(o:PE X b tb){c:L1}{s:Shared}{Z:St}{H:Hp}{R:V->V->Hp->Prop}(I:Inv X c Z H s)
 (h:ta Z H λx H1=>tb Z H1 λy d=>R x y d) {Q:L3} {f:Value->Value->Sem Value}
 (n:∀v u s2 x y d,Inv X c Z d s2->RelV x v->RelV y u->R x y d->j1 X (f v u) Q X.xe s2):
 j1 X (eval a X.env) (λv g=>j1 X (eval b X.env) (λu e=>j1 X (f v u) Q X.xe e) X.xe g) X.xe s:=by
 refine cf (p c s Z H _ I h) λv i (x,H1,r,k,m)=>?_;refine cf (o c i Z H1 _ r m) λu s2 (y,d,q,j,l)=>?_;exact n v u s2 x y d q k j l
def ay(g:rG X (binaryOp d) r)(j:PE X a ta)(i:PE X b tb):PE X (.BinOp a d b pos) (LH r ta tb):=by
 intro c s Z H Q I h;exact wpAny_BinOp (SW j i I h λv u s2 x y l k f e q=>g c s2 Z l x y v u Q k f e q)
def Dx{c:UnaryOp}{r:V->Hp->VK->Prop}(g:Xm X (unaryOp c) r)(i:PE X a ta):PE X (.UnaryOp c a pos) (tUn r ta):=by
 intro b s Z H Q I h;exact UnaryOp_ (cf (i b s Z H _ I h) λv d (x,H1,j,e,f)=>g b d Z H1 x v Q j e f)
def Uk{f:Value->Value->Sem Value}{C:Int->Int->Prop}{g:Int->Int->Int}
 (rule:∀(i j:Int) (t u:Tok) (s:Shared) (Q:L3) (E:L3),C i j->Q (.int (g i j) s.toks) {s with toks:=s.toks+1}->j1 X (f (.int i t) (.int j u)) Q E s):
 rG X f (rI C λi j=>.int (g i j)):=by
 intro a s Z H x y v u Q I c b h;let(i,j,rfl,rfl,d,q):=h;let(t,rfl):=c;let(t',rfl):=b;exact rule i j t t' s _ _ d (.int (g i j),H,I.tok _,(_,rfl),q)
def Uj{f:Value->Value->Sem Value}{g:Int->Int->Int}
 (rule:∀(i j:Int) (t u:Tok) (s:Shared) (Q:L3) (E:L3),Q (.int (g i j) s.toks) {s with toks:=s.toks+1}->j1 X (f (.int i t) (.int j u)) Q E s):
 rG X f (Dm λi j=>.int (g i j)):=by
 intro a s Z H x y v u Q I c b h;let(i,j,rfl,rfl,q):=h;let(t,rfl):=c;let(t',rfl):=b;exact rule i j t t' s _ _ (.int (g i j),H,I.tok _,(_,rfl),q)
def QJ{f:Value->Value->Sem Value}{g:Int->Int->Bool}
 (rule:∀(i j:Int) (t u:Tok) (s:Shared) (Q:L3) (E:L3),Q (.bool (g i j)) s->j1 X (f (.int i t) (.int j u)) Q E s):
 rG X f (Dm λi j=>.bl (g i j)):=by
 intro a s Z H x y v u Q I c b h;let(i,j,rfl,rfl,q):=h;let(t,rfl):=c;let(t',rfl):=b;exact rule i j t t' s _ _ (.bl (g i j),H,I,rfl,q)
def Tg(i j:Int):Prop:=0<j/\j<1073741824
def Te(i j:Int):Prop:=0<=j/\j<=1000000/\i.natAbs<2 ^ 64
def CMul(i j:Int):Prop:=(-(2 ^ 64)<i/\i<2 ^ 64)\/(-(2 ^ 64)<j/\j<2 ^ 64)
def CMul.ok(h:CMul i j):IntMulOk i j:=by
 rcases h with ⟨b,a⟩|⟨b,a⟩
 .exact .of_left (intBits_le_64 b a)
 .exact .of_right (intBits_le_64 b a)
def A4(k:Nat):(0:Int)<=2 ^ k:=by
 rw[two_pow_cast];exact Int.natCast_nonneg _
theorem fZ:rG X (binaryOp .Add) (Dm λi j=>.int (i+j)):=Uj λ_ _ _ _ _ _ _ q=>add_int q
theorem sP:rG X (binaryOp .Sub) (Dm λi j=>.int (i-j)):=Uj λ_ _ _ _ _ _ _ q=>sub_int q
theorem sQ:rG X (binaryOp .Mult) (rI CMul λi j=>.int (i*j)):=Uk λ_ _ _ _ _ _ _ a q=>mul_int q a.ok
theorem cT:rG X (binaryOp .FloorDiv) (rI Tg λi j=>.int (i / j)):=Uk λi j _ _ _ _ _ a q=>by
 have c:(0:Int)<j:=a.1;have b:j<1073741824:=a.2;exact floordiv_int ∅ (by rw[Aa4 i ∅];exact q) (.inl (PyProof.noPylong_small ∅))
theorem bK:rG X (binaryOp .Mod) (rI (λ_ j=>0<j) λi j=>.int (i%j)):=Uk λi j _ _ _ _ _ a q=>by
 have b:(0:Int)<j:=a;exact mod_int' ∅ (by rw[Int.fmod_eq_emod_of_nonneg i ∅];exact q)
theorem QH:rG X (binaryOp .Pow) (rI Te λi j=>.int (i ^ j.toNat)):=Uk λ_ _ _ _ _ _ _ a q=>pow_int_small a.1 a.2.1 a.2.2 q
theorem QG:rG X (binaryOp .RShift) (rI (λ_ j=>0<=j) λi j=>.int (i / 2 ^ j.toNat)):=Uk λi j _ _ _ _ _ a q=>
 rshift_int a (by rw[Aa4 i (A4 _)];exact q)
def unI{f:Value->Sem Value}{g:Int->Int}
 (rule:∀(i:Int) (t:Tok) (s:Shared) (Q:L3) (E:L3),Q (.int (g i) s.toks) {s with toks:=s.toks+1}->j1 X (f (.int i t)) Q E s):
 Xm X f (rU λi=>.int (g i)):=by
 intro a s Z H x v Q I b h;let(i,rfl,q):=h;let(t,rfl):=b;exact rule i t s _ _ (.int (g i),H,I.tok _,(_,rfl),q)
theorem wH:Xm X (unaryOp .USub) (rU λi=>.int (-i)):=unI λ_ _ _ _ _ q=>neg_int q
end
def PB:V->V->Bool
 |.non,.non=>true | .non,.int _=>true | .int _,.non=>true | .non,.bl _=>true | .bl _,.non=>true | .non,.str _=>true | .str _,.non=>true
 |.int _,.int _=>true | .bl _,.bl _=>true | .str _,.str _=>true | .byt _,.byt _=>true
 |.int _,.str _=>true | .str _,.int _=>true | .bl _,.str _=>true | .str _,.bl _=>true
 |_,_=>false
def rEq:R2:=λx y H Q=>PB x y=true/\Q (.bl (decide (x=y))) H
def rNe:R2:=λx y H Q=>PB x y=true/\Q (.bl (!decide (x=y))) H
def DY:decide (V.int i=V.int j)=(i==j):=by
 rw[Zh];simp
def Ko:decide (V.bl i=V.bl j)=(i==j):=by
 rw[Zh];simp
def DX:decide (V.str i=V.str j)=(i==j):=by
 rw[Zh];simp
def DZ{i j:Array UInt8}:decide (V.byt i=V.byt j)=(i.toList==j.toList):=by
 rw[Zh];cases i;cases j;simp
section
variable{X:Cx}{a b c:Expr}{ta tb tc:TE}{pos:Pos}
def bV{a:L1}{Z:St}{H:Hp}{s:Shared}{Q:VK}{k k':Bool}(I:Inv X a Z H s)(q:Q (.bl k) H)(e:k=k'):EP X a Z Q (.bool k') s:=by
 subst e;exact(.bl k,H,I,rfl,q)
def eV:rG X (compareOp .Eq) rEq:=by
 intro d s Z H x y v u Q I c a h;let(b,q):=h;cases x with
 |non=>
   cases c;cases y with
   |non=>cases a;exact PySem.EqNone.eq_none_none (bV I q ())
   |bl j=>cases a;exact PySem.EqNone.eq_none_bool (bV I q ())
   |int j=>let(t',rfl):=a;exact PySem.EqNone.eq_none_int (bV I q ())
   |str j=>let(t',rfl):=a;exact PySem.EqNone.eq_none_str (bV I q ())
   |_=>exact absurd (show false=true from b) XO
 |bl i=>
   cases c;cases y with
   |non=>cases a;exact PySem.EqNone.eq_bool_none (bV I q ())
   |bl j=>cases a;exact eq_bool (bV I q Ko)
   |str j=>let(t',rfl):=a;exact PySem.EqMixed.eq_bool_str (bV I q ())
   |_=>exact absurd (show false=true from b) XO
 |int i=>
   let(t,rfl):=c;cases y with
   |non=>cases a;exact PySem.EqNone.eq_int_none (bV I q ())
   |int j=>let(t',rfl):=a;exact eq_int (bV I q DY)
   |str j=>let(t',rfl):=a;exact PySem.EqMixed.eq_int_str (bV I q ())
   |_=>exact absurd (show false=true from b) XO
 |str i=>
   let(t,rfl):=c;cases y with
   |non=>cases a;exact PySem.EqNone.eq_str_none (bV I q ())
   |bl j=>cases a;exact PySem.EqMixed.eq_str_bool (bV I q ())
   |int j=>let(t',rfl):=a;exact PySem.EqMixed.eq_str_int (bV I q ())
   |str j=>let(t',rfl):=a;exact eq_str (bV I q DX)
   |_=>exact absurd (show false=true from b) XO
 |byt i=>
   let(t,rfl):=c;cases y with
   |byt j=>let(t',rfl):=a;exact PySem.W.eq_bytes (bV I q DZ)
   |_=>exact absurd (show false=true from b) XO
 |_=>cases y<;>exact absurd (show false=true from b) XO
def oN:rG X (compareOp .NotEq) rNe:=by
 intro d s Z H x y v u Q I c a h;let(b,q):=h;cases x with
 |non=>
   cases c;cases y with
   |non=>cases a;exact PySem.EqNone.ne_none_none (bV I q ())
   |bl j=>cases a;exact PySem.EqNone.ne_none_bool (bV I q ())
   |int j=>let(t',rfl):=a;exact PySem.EqNone.ne_none_int (bV I q ())
   |str j=>let(t',rfl):=a;exact PySem.EqNone.ne_none_str (bV I q ())
   |_=>exact absurd (show false=true from b) XO
 |bl i=>
   cases c;cases y with
   |non=>cases a;exact PySem.EqNone.ne_bool_none (bV I q ())
   |bl j=>cases a;exact ne_bool (bV I q (congrArg not Ko))
   |str j=>let(t',rfl):=a;exact PySem.EqMixed.ne_bool_str (bV I q ())
   |_=>exact absurd (show false=true from b) XO
 |int i=>
   let(t,rfl):=c;cases y with
   |non=>cases a;exact PySem.EqNone.ne_int_none (bV I q ())
   |int j=>let(t',rfl):=a;exact ne_int (bV I q (congrArg not DY))
   |str j=>let(t',rfl):=a;exact PySem.EqMixed.ne_int_str (bV I q ())
   |_=>exact absurd (show false=true from b) XO
 |str i=>
   let(t,rfl):=c;cases y with
   |non=>cases a;exact PySem.EqNone.ne_str_none (bV I q ())
   |bl j=>cases a;exact PySem.EqMixed.ne_str_bool (bV I q ())
   |int j=>let(t',rfl):=a;exact PySem.EqMixed.ne_str_int (bV I q ())
   |str j=>let(t',rfl):=a;exact ne_str (bV I q (congrArg not DX))
   |_=>exact absurd (show false=true from b) XO
 |byt i=>
   let(t,rfl):=c;cases y with
   |byt j=>let(t',rfl):=a;exact PySem.W.ne_bytes (bV I q (congrArg not DZ))
   |_=>exact absurd (show false=true from b) XO
 |_=>cases y<;>exact absurd (show false=true from b) XO
theorem qK:rG X (compareOp .Lt) (Dm λi j=>.bl (decide (i<j))):=QJ λ_ _ _ _ _ _ _ q=>lt_int q
theorem vM:rG X (compareOp .Gt) (Dm λi j=>.bl (decide (j<i))):=QJ λ_ _ _ _ _ _ _ q=>gt_int q
theorem Ui:rG X (compareOp .GtE) (Dm λi j=>.bl (decide (j<=i))):=QJ λ_ _ _ _ _ _ _ q=>ge_int q
def xh:rG X (compareOp .NotIn) (λx y H Q=>∃i j,x=.str i/\y=.str j/\Q (.bl (!(!(Builtin.Str.occurrences j i 0 j.length 1).isEmpty))) H):=by
 intro a s Z H x y v u Q I c b h;let(i,j,rfl,rfl,q):=h;let(t,rfl):=c;let(t',rfl):=b;exact notIn_str (bV I q rfl)
def aV(b:Expr){a:CmpOp}(h:a≠ .In:=by decide)(c:a≠ .NotIn:=by decide):behindInMarks a b=false:=by
 have e:(a == CmpOp.In)=false:=by cases a <;> first | rfl | exact absurd rfl h
 have d:(a == CmpOp.NotIn)=false:=by cases a <;> first | rfl | exact absurd rfl c
 cases b<;>simp[behindInMarks,e,d]
def w8(g:rG X (compareOp d) r)(k:PE X a ta)(j:PE X b tb)(i:behindInMarks d b=false):PE X (.Compare a [d] [b] pos) (LH r ta tb):=by
 intro c s Z H Q I h;exact wpAny_Compare1 (SW k j I h λv u s2 x y m l f e q=>g c s2 Z m x y v u Q l f e q) i
def Of(t:TE):TT:=λZ H Q=>t Z H λx H'=>∃k,x=.bl k/\Q k H'
def aJ(p:rG X (compareOp f) r)(w:PE X a ta)(t:PE X b tb)(q:behindInMarks f b=false):PT X (.Compare a [f] [b] pos) (Of (LH r ta tb)):=by
 intro d s Z H Q I h
 refine wpAny_isTrue_Compare1 (cf (w d s Z H _ I h) λv g (x,H1,C,l,o)=>cf (t d g Z H1 _ C o) λu s2 (y,E,B,j,n)=>
  cf (p d s2 Z E x y v u _ B l j n) λc F (z,D,A,i,k,e,m)=>?_) q
 subst e;cases i;exact Zj (D,A,m)
def tD:(sizeLine:Nat)<2 ^ 63:=by rw[Zo];decide
def gH:rG X (binaryOp .Add) (λx y H Q=>∃i j,x=.str i/\y=.str j/\i.length+j.length<=sizeLine/\Q (.str (i++j)) H):=by
 intro a s Z H x y v u Q I c b h;let(i,j,rfl,rfl,d,q):=h;let(t,rfl):=c;let(t',rfl):=b;exact add_str (λt' e=>(.str (i++j),H,I.tok _,(_,rfl),q)) d
def lM(r:Vals [x] us):∃u,us=[u]/\RelV x u:=by
 cases r with
 |cons b a=>cases a;exact(_,rfl,b)
def To(r:Vals [x,y] us):∃u a,us=[u,a]/\RelV x u/\RelV y a:=by
 cases r with
 |cons e d=>
   cases d with
   |cons c b=>cases b;exact(_,_,rfl,e,c)
end
structure ObjM (h:Heap) (x dx C:Addr) (mA:Str->Option Value):Prop where
 obj:h.get? x=J (PySem.W.instObj C dx)
 ns:h.Ns1 dx mA
 ne:dx≠x
def FK{h:Heap}{d:Str->Option Value}(n:h.Ns1 dx d):∃c,h.get? dx=J c/\∀name,PySem.W.lookIn name c=J (d name):=by
 let(o,es,ep,g,hd,j,_,i):=n;refine(o,g,λname=>?_);have e:=i name;unfold nsFind findBy at e;rw[<-Array.find?_toList]at e;ext PySem.W.lookIn;rw[hd];dsimp only;split
 .rename_i y q;rw[q]at e;exact congrArg J e
 · rename_i q;rw[q]at e
   have a:es.toList.any (·.refKey)=false:=by
    rw[List.any_eq_false];intro y f;let(z,t,b):=j y (Array.mem_toList_iff.mp f);simp[DictEntry.refKey,b]
   have k:¬ es.toList.any (·.refKey)=true:=by rw[a];exact XO
   rw[Xy k];exact congrArg J e
theorem ObjM.look{b:Str->Option Value}(I:ObjM h x dx C b):∃a,PySem.W.InstAt h x (PySem.W.instObj C dx) C (J a)/\∀name,PySem.W.lookIn name a=J (b name):=
 let (a,c,d):=FK I.ns
 (a,(I.obj,rfl,rfl,c),d)
section
variable{prog:Program}{w:World}{A:Around}{E:L3}{s:Shared}{K:L0}{x dx C f:Addr}{mA:Str->Option Value}{name:Str}{v:Value}
def Nq{Q:L3}(X:K.In s.heap)(I:ObjM s.heap x dx C mA)(f:PySem.W.plainGet K C name=true)(e:PySem.W.hasDictIn K C=true)
 (g:PySem.W.findIn K (.ref C) name=J G) (c:mA name=J v) (b:PySem.W.handedIn v=true) (h:Q v {s with toks:=s.toks+1}):
 wpAny (model prog w) A (getAttr (.ref x) name a) Q E s:=by
 let(i,B1,d):=I.look;exact PySem.W.get_value X B1 (Z8 f).1 (PySem.W.findObj_own e g rfl (by rw[d,c])) b h
def J1{Q:Value×L Value->Shared->Prop}(X:K.In s.heap)(I:ObjM s.heap x dx C mA)(a:PySem.W.plainGet K C name=true)
 (g:PySem.W.findIn K (.ref C) name=J (J (.ref f))) (d:PySem.W.isFn K (.ref f)=true) (c:mA name=G) (h:Q (.ref f,[.ref x]) s):
 wpAny (model prog w) A (getMethod (.ref x) name pl) Q E s:=by
 let(b,B1,e):=I.look;exact PySem.W.method_fn X B1 (Z8 a).1 (Z8 a).2 g (ZR.mp d) (by show(PySem.W.lookIn name b).map (·.isSome)=J false;rw[e,c];rfl) h
def Mm{ns:L Str}{Q:Unit->Shared->Prop}(X:K.In s.heap)(I:ObjM s.heap x dx C mA)
 (m:PySem.W.findIn K (.ref C) "__setattr__" = J (J (.builtin "object.__setattr__"))) (hp:PySem.W.plainOver K C=true) (l:PySem.W.takerIn K C name=J G) (n:PySem.W.hasDictIn K C=true)
 (k:PySem.Within mA ns) (hsz:ns.length<=sizeLine)
 (h:∀h',ObjM h' x dx C (λy=>if y=name then J v else mA y)->Heap.SameBut dx s.heap h'->Q j2 {s with heap:=h',toks:=s.toks+2}):
 wpAny (model prog w) A (setAttr (.ref x) name v) Q E s:=by
 let(t,B1,z):=I.look;refine PySem.W.set_plain X B1 m (PySem.W.osa_open (s:={s with toks:=s.toks+1}) (r:=G) X B1 hp l λb=>?_);let(cd,o,g):=PySem.W.any_some n;have j:s.heap.get? x=J (.ref C,J dx,.plain,#[]):=I.obj;refine XA (XQ (XA (XA (wpAny_loadPart j (XA (PySem.W.Looks.here (s:={s with toks:=s.toks+1}) (PySem.W.looks_clsIn X o) ?_))))));rw[g];refine XQ (a:=J dx) (XA (XQ (XA ?_)));refine wpAny_nsSet1 (s:={s with toks:=s.toks+1}) I.ns λh' d c=>?_;let(u,p,q,e,f,i):=d.count (PySem.Within.cons name v k);refine XA (wpAny_lookBehind e (by rw[f];exact pastItsLine_dict (Yw i (by rw[XD];omega))) ?_);exact XQ (h _ ((c.2 _ (YS I.ne)).trans I.obj,d,I.ne) c)
def JB(X:K.In s.heap)(b:PySem.W.makesIn K C=true)
 (hi:PySem.W.findIn K (.ref C) "__init__" = J (J (.ref f))) (c:PySem.W.typeIn K (.ref f)=J (.type "function"))
 (h:codeAny (model prog w) (A.under (.builtin "type.__call__" (.ref C::vs,a))) (.call (.ref f) (.ref (s.heap.objs.size+1)::vs,a)) (PySem.W.InitBack (s.heap.objs.size+1) R)
   {s with heap:=(s.heap.push PySem.W.emptyDict).push (PySem.W.instObj C s.heap.objs.size)}):
 codeAny (model prog w) A (.call (.ref C) (vs,a)) R s:=by
 let(e,g,d,t,os):=s;exact PySem.W.make_core (PySem.W.makes_of X b) (PySem.W.looks_findIn X hi) (λself=>PySem.W.bind_fn X self c) (.inl rfl) h
end
def i8(f:Str)(v:V):L (Str×V)->L (Str×V)
 |[]=>[(f,v)]
 |(g,x)::r=>if g=f then (g,v)::r else (g,x)::i8 f v r
theorem qO(f g:Str)(v:V):∀fs:L (Str×V),(i8 f v fs).lookup g=if g=f then J v else fs.lookup g
 | []=>by
   show List.lookup g [(f,v)]=_;by_cases h:g=f
   .have a:(g==f)=true:=ZR.mpr h;simp only[List.lookup,a,Xx h]
   .have a:(g==f)=false:=Yv.mpr h;simp only[List.lookup,a,Xy h]
 | (k,x)::r=>by
   have c:=qO f g v r;rw[show i8 f v ((k,x)::r)=(if k=f then (k,v)::r else (k,x)::i8 f v r) from rfl];by_cases b:k=f
   · rw[Xx b];by_cases h:g=k
     .have a:(g==k)=true:=ZR.mpr h;simp only[List.lookup,a,Xx (h.trans b)]
     .have a:(g==k)=false:=Yv.mpr h;simp only[List.lookup,a,Xy (λe:g=f=>h (e.trans b.symm))]
   · rw[Xy b];by_cases h:g=k
     .have a:(g==k)=true:=ZR.mpr h;simp only[List.lookup,a,Xy (λe:g=f=>b (h.symm.trans e))]
     .have a:(g==k)=false:=Yv.mpr h;simp only[List.lookup,a];exact c
theorem qm(f:Str)(v:V):∀fs:L (Str×V),f∈(i8 f v fs).map (·.1)/\∀g,g∈fs.map (·.1)->g∈(i8 f v fs).map (·.1)
 |[]=>(by simp[i8],λg h=>by simp at h)
 | (k,x)::r=>by
   let(c,b):=qm f v r;rw[show i8 f v ((k,x)::r)=(if k=f then (k,v)::r else (k,x)::i8 f v r) from rfl];by_cases a:k=f
   .rw[Xx a];subst a;exact(by simp,λg h=>by simpa using h)
   · rw[Xy a];refine(?_,λg h=>?_)
     .rw[Xz];exact on _ c
     · rw[Xz]at h ⊢;rcases XC.mp h with e|e
       .exact XC.mpr (.inl e)
       .exact on _ (b g e)
theorem qS(f:Str)(v:V):∀fs:L (Str×V),(i8 f v fs).length<=fs.length+1
 |[]=>by simp[i8]
 | (k,x)::r=>by
   have b:=qS f v r;rw[show i8 f v ((k,x)::r)=(if k=f then (k,v)::r else (k,x)::i8 f v r) from rfl];by_cases a:k=f
   .rw[Xx a,XD,XD];omega
   .rw[Xy a,XD,XD];omega
def RelO.some_of(r:RelO (J v) o):∃u,o=J u/\RelV v u:=by
 cases o with
 |none=>exact(show False from r).elim
 |some u=>exact(u,rfl,r)
def RelO.none_of(r:RelO G o):o=none:=by
 cases o with
 |none=>rfl
 |some u=>exact(show False from r).elim
def FW(r:RelV v u):PySem.W.handedIn u=true:=by
 cases v with
 |non=>cases(show u=Value.none from r);rfl
 |bl b=>cases(show u=Value.bool b from r);rfl
 |int i=>let(t,e):=(show ∃t,u=Value.int i t from r);cases e;rfl
 |str x=>let(t,e):=(show ∃t,u=Value.str x t from r);cases e;rfl
 |byt b=>let(t,e):=(show ∃t,u=Value.bytes b t from r);cases e;rfl
 |flt b=>let(t,e):=(show ∃t,u=Value.float b t from r);cases e;rfl
 |ref a=>cases(show u=Value.ref a from r);rfl
 |ty n=>cases(show u=Value.type n from r);rfl
section
variable{P:Program}{w:World}{H H':Hp}{h h':Heap}{a C dx:Addr}{fs fs':L (Str×V)}
def xu(hok:HOk P w H h)(e:H a=J (.ins C dx fs)):∃b,ObjM h a dx C b/\(∀f,RelO (fs.lookup f) (b f))/\PySem.Within b (fs.map (·.1))/\fs.length<=1000/\H dx=J (.own a):=by
 let(d,z,ne,ob,b,n,r,q):=(show ObjOk P w H h a (.ins C dx fs) from hok a _ e);exact(b,(ob,n,ne),r,q,z,d)
end
structure Cls (K:L0) (C:Addr):Prop where
 pg:PySem.W.plainGet K C Str.empty=true
 hd:PySem.W.hasDictIn K C=true
 po:PySem.W.plainOver K C=true
 sa:PySem.W.findIn K (.ref C) "__setattr__" = J (J (.builtin "object.__setattr__"))
theorem Cls.get{K:L0}(c:Cls K C)(f:Str):PySem.W.plainGet K C f=true:=c.pg
def NoAttr(K:L0)(C:Addr)(f:Str):Prop:=PySem.W.findIn K (.ref C) f=J G
def NoAttr.taker{K:L0}(n:NoAttr K C f):PySem.W.takerIn K C f=J none:=by
 ext PySem.W.takerIn;rw[show PySem.W.findIn K (.ref C) f=J G from n];rfl
structure Meth (K:L0) (C:Addr) (m:Str) (f:Addr):Prop where
 at_:PySem.W.findIn K (.ref C) m=J (J (.ref f))
 fn:PySem.W.isFn K (.ref f)=true
 kp:PySem.W.keepIn K (.ref f)=true
section
variable{X:Cx}{pins:L1}{Z:St}{H:Hp}{s:Shared}{a C dx:Addr}{fs:L (Str×V)}{f:Str}{v:V}{A:Around}{E:L3}
def Ca{Q:L3}(I:Inv X pins Z H s)(e:H a=J (.ins C dx fs))(c:Cls X.K C)(n:NoAttr X.K C f)(l:fs.lookup f=J v)
 (h:∀u s',Inv X pins Z H s'->RelV v u->Q u s'):wpAny (model X.prog X.w) A (getAttr (.ref a) f b) Q E s:=by
 let(g,O,r,_,_,_):=xu I.hok e;let(u,i,d):=RelO.some_of (v:=v) (o:=g f) (by rw[<-l];exact r f);exact Nq I.kIn O (c.get f) c.hd n i (FW d) (h u _ (I.tok _) d)
def tU{Q:Value×L Value->Shared->Prop}(I:Inv X pins Z H s)(e:H a=J (.ins C dx fs))(c:Cls X.K C)(k:Meth X.K C m g)(l:fs.lookup m=G)
 (h:Q (.ref g,[.ref a]) s):wpAny (model X.prog X.w) A (getMethod (.ref a) m pl) Q E s:=by
 let(b,O,r,_,_,_):=xu I.hok e;have d:b m=none:=RelO.none_of (by rw[<-l];exact r m);exact J1 I.kIn O (c.get m) k.at_ k.fn d h
def Bg{Q:Unit->Shared->Prop}(I:Inv X pins Z H s)(e:H a=J (.ins C dx fs))(c:Cls X.K C)(n:NoAttr X.K C f)(D:fs.length<1000)(m:RelV y u)
 (h:∀s',Inv X pins Z (upd H a (.ins C dx (i8 f y fs))) s'->Q j2 s'):wpAny (model X.prog X.w) A (setAttr (.ref a) f u) Q E s:=by
 let(j,O,r,i,_,k):=xu I.hok e;have p:(fs.map (·.1)).length<=sizeLine:=by rw[Xv,Zo];omega
 refine Mm I.kIn O c.sa c.po n.taker c.hd i p λh' d l=>h _ ?_;have hd:∃o,h'.get? dx=J o:=let (o,_,_,B,_):=d.ns;(o,B)
 refine I.write (x:=a) (e:=dx) (by rw[e];exact True.intro) (.inr k) (λb q v z=>(l.2 b v).trans z) hd ?_;refine(by rw[bq O.ne];exact k,?_,O.ne,d.obj,_,d.ns,λg=>?_,λg t=>?_)
 .have:=qS f y fs;omega
 · show RelO ((i8 f y fs).lookup g) (if g=f then J u else j g);rw[qO];by_cases q:g=f
   .rw[Xx q,Xx q];exact m
   .rw[Xy q,Xy q];exact r g
 · by_cases q:g=f
   .rw[q];exact(qm f y fs).1
   .refine(qm f y fs).2 g (i g λz=>t ?_);show(if g=f then J u else j g)=G;rw[Xy q];exact z
def Inv.made(I:Inv X pins Z H s):Inv X pins Z (upd (upd H s.heap.objs.size (.own (s.heap.objs.size+1))) (s.heap.objs.size+1) (.ins C s.heap.objs.size []))
 {s with heap:=(s.heap.push PySem.W.emptyDict).push (PySem.W.instObj C s.heap.objs.size)}:=by
 have c:(s.heap.push PySem.W.emptyDict).get? s.heap.objs.size=J PySem.W.emptyDict:=XU s.heap rfl
 have h:((s.heap.push PySem.W.emptyDict).push (PySem.W.instObj C s.heap.objs.size)).get? (s.heap.objs.size+1)=J (PySem.W.instObj C s.heap.objs.size):=by
  have:=XU (s.heap.push PySem.W.emptyDict) (o:=PySem.W.instObj C s.heap.objs.size) rfl
  rwa [ZG]at this
 have g:(s.heap.push PySem.W.emptyDict).Ns s.heap.objs.size (λ_=>G):=(PySem.W.emptyDict,#[],_,c,rfl,(λe f=>absurd f ()),λ_=>rfl);have i:=I.laid (a:=s.heap.objs.size) (o:=.own (s.heap.objs.size+1)) (h':=s.heap.push PySem.W.emptyDict) (t':=s.toks) (λb u q=>XB _ q) (XH _) (_,c);refine i.laid (a:=s.heap.objs.size+1) (o:=.ins C s.heap.objs.size []) (t':=s.toks) (λb u q=>XB _ q) (Nat.le_of_eq (ZG _ _)) ?_;have ne:s.heap.objs.size≠s.heap.objs.size+1:=X4 (ZS _);refine(by rw[bq ne,bE],YM _,ne,h,λ_=>G,(Heap.Ns1.of_empty g).at λo q=>XB _ q,λ_=>True.intro,λy d=>absurd rfl d)
theorem NI(b:attributeBase e f env (eval e env)=eval e env)
 (h:wpAny (model prog w) A (eval e env) (λo a=>wpAny (model prog w) A (getAttr o f true) Q E a) E s):wpAny (model prog w) A (eval (.Attribute e f pos) env) Q E s:=
 Attribute_any_ h (by rw[arm_eval_Attribute,b])
end
def Fd(K:L0)(ta:TE)(f:Str):TE:=λZ H Q=>ta Z H λx H1=>∃a C dx fs v,x=.ref a/\H1 a=J (.ins C dx fs)/\Cls K C/\NoAttr K C f/\fs.lookup f=J v/\Q v H1
def Mt(K:L0)(ta c:TE)(f:Str):TS:=λD Z H=>c Z H λy H1=>ta Z H1 λx b=>∃a C dx fs,x=.ref a/\b a=J (.ins C dx fs)/\Cls K C/\NoAttr K C f/\fs.length<1000/\
 D.nx Z (upd b a (.ins C dx (i8 f y fs)))
section
variable{X:Cx}{o e value:Expr}{f:Str}{pos pos' tpos:Pos}{ta tv:TE}
def Qy(i:PE X e ta)(j:attributeBase e f X.env (eval e X.env)=eval e X.env):PE X (.Attribute e f pos) (Fd X.K ta f):=by
 intro b s Z H Q I h;refine NI j (cf (i b s Z H _ I h) λu r (x,H1,o,d,a,C,dx,fs,v,ex,k,c,n,l,q)=>?_);subst ex;obtain rfl:u=Value.ref a:=d;exact Ca o k c n l λp s2 m g=>(v,H1,m,g,q)
def sJ(m:PE X o ta)(j:PE X value tv)(k:swapsWith value (J (.Attribute o f pos')) pos.line X.env=pure false):PS X (.Assign [.Attribute o f pos'] value pos) (Mt X.K ta tv f):=by
 intro b s Z H D I h;refine plainObj_wpAny_Assign_Attribute (cf (j b s Z H _ I h) λu d (y,H1,v,e,q)=>cf (m b d Z H1 _ v q) λov s2 (x,z,t,g,a,C,dx,fs,ex,p,c,n,l,i)=>?_) k;subst ex;obtain rfl:ov=Value.ref a:=g;exact Bg t p c n l e λw r=>(Z,_,r,i)
end
structure Room (k:Nat) (A:Around):Prop where
 hd:A.handled=G
 dp:A.depth+3*k+5<recursionLimit
 un:A.units+16*k+200<cLine
theorem Room.mono(r:Room k A)(h:j<=k):Room j A:=(r.hd,by have:=r.dp;omega,by have:=r.un;omega)
theorem Room.deeper{A:Around}(r:Room (k+1) A)(env:Env):Room k (A.deeper env):=
 (r.hd,by have:=r.dp;show A.depth+1+3*k+5<_;omega,by have:=r.un;show A.units+3+16*k+200<_;omega)
def BW{A:Around}:(A.under (.builtin "type.__call__" (.ref C::us,a))).depth=A.depth+1:=by
 first | rfl | simp[Around.under,Code.weight,Code.isCreation,Code.isGuard,Code.isCaller,Code.frames,Code.isFrame,guardIds]
def BV{A:Around}:(A.under (.builtin "type.__call__" (.ref C::us,a))).units=A.units+1:=by
 first | rfl | simp[Around.under,Code.cUnits,Code.frames,Code.isFrame]
theorem Room.make{A:Around}(r:Room (k+1) A)(C:Addr)(us:L Value)(a:L (Str×Value)):Room k (A.under (.builtin "type.__call__" (.ref C::us,a))):=
 (r.hd,by have:=r.dp;rw[BW];omega,by have:=r.un;rw[BV];omega)
def Room.depth{A:Around}(r:Room k A):A.depth<recursionLimit:=by have:=r.dp;omega
def Room.units{A:Around}(r:Room k A):A.units+64<cLine:=by have:=r.un;omega
def dP:TA:=λ_ H Q=>Q [] H
def bX(ta:TE)(a:TA):TA:=λZ H Q=>ta Z H λx H1=>a Z H1 λxs b=>Q (x::xs) b
section
variable{X:Cx}{e:Expr}{es:L Expr}{te:TE}{t:TA}{pos:Pos}
theorem ac:PA X [] dP:=λ_ _ _ _ H Q I h=>Calls.spliced_nil ([],H,I,.nil,h)
def aa(k:PE X e te)(j:PA X es t)(i:starEach (e::es) X.env=(false,eval e X.env)::starEach es X.env:=by rfl):PA X (e::es) (bX te t):=by
 intro pos a s Z H Q I h;rw[i];show wpAny _ _ (spliced ((false,eval e X.env)::backTo pos (starEach es X.env))) _ _ s;refine Aa5 (cf (k a s Z H _ I h) λu b (x,H1,m,d,g)=>?_);exact cf (j pos a b Z H1 _ m g) λus s2 (xs,n,l,c,f)=>(x::xs,n,l,.cons d c,f)
def Ts(t:TA):TE:=λZ H Q=>t Z H λxs H1=>xs.length<=sizeLine/\∀p,H1 p=G->Q (.ref p) (upd H1 p (.tup xs))
def Fc(t:TA):TE:=λZ H Q=>t Z H λxs H1=>xs.length<=sizeLine/\∀p,H1 p=G->Q (.ref p) (upd H1 p (.lst xs))
def iw{f}(h:PA X es t):PE X (.Tuple es f pos) (Ts t):=by
 intro a s Z H Q I g;refine wpAny_Tuple_spliced (cf (h pos a s Z H _ I g) λus c (xs,H1,d,r,z,q)=>(by rw[<-r.length];exact z,?_));have i:H1 c.heap.objs.size=none:=d.hok.fresh (XH _);refine(.ref c.heap.objs.size,upd H1 c.heap.objs.size (.tup xs),d.laid (t':=c.toks) (λb u e=>XB _ e) (XH _) ?_,rfl,q _ i);exact(z,us,r,(_,XU _ rfl,rfl,_,rfl))
def aW(h:PA X es t):PE X (.List es pos) (Fc t):=by
 intro a s Z H Q I f;refine wpAny_List_spliced (cf (h pos a s Z H _ I f) λus c (xs,H1,d,r,z,q)=>(by rw[<-r.length];exact z,?_));have g:H1 c.heap.objs.size=none:=d.hok.fresh (XH _);refine(.ref c.heap.objs.size,upd H1 c.heap.objs.size (.lst xs),d.laid (t':=c.toks) (λb u e=>XB _ e) (XH _) ?_,rfl,q _ g);exact(z,us,0,r,XU _ rfl)
end
abbrev Sp:=L V->Hp->VK->XK->Prop
abbrev AY:=L Env->Hp->Shared->XK->Value->Shared->Prop
structure Env0 (P:Program) (w:World) (K:L0) (mg:Str->Option Value) (base:Heap) (A:Around) (outer:L Env) (s:Shared) (H:Hp):Prop where
 frames:A.frames=J outer
 mod:Mod K mg base
 bs:∀b o,base.get? b=J o->s.heap.get? b=J o/\H b=G
 bsz:base.objs.size<=s.heap.objs.size
 funs:s.heap.FunFrames base outer
 frf:∀b∈gj outer,H b=G
 hok:HOk P w H s.heap
 bare:AllBare s.gens
def CE(outer:L Env)(P:Program)(w:World)(H:Hp)(s:Shared)(Q:VK)(u:Value)(s':Shared):Prop:=
 ∃v H',s'.os=s.os/\AllBare s'.gens/\Un (gj outer) [] H H' s.heap s'.heap/\HOk P w H' s'.heap/\RelV v u/\Q v H'
def CR(CX:AY)(outer:L Env)(P:Program)(w:World)(H:Hp)(s:Shared)(Q:VK)(E:XK)(r:Result)(s':Shared):Prop:=
 match r with
 |.ok (.ret u)=>CE outer P w H s Q u s'
 |.ok _=>False
 |.error e=>CX outer H s E e s'
structure FnOk (P:Program) (w:World) (K:L0) (mg:Str->Option Value) (base:Heap) (CX:AY) (k:Nat) (f:Addr) (fd:FuncData) (ps:L Str) (sp:Sp):Prop where
 len:∀vs H Q E,sp vs H Q E->vs.length=ps.length
 run:∀(A:Around) (outer:L Env) (s:Shared) (H:Hp) (args:Args) (us:L Value) (vs:L V) (Q:VK) (E:XK),Room k A->Env0 P w K mg base A outer s H->BindsTo s fd args (ps.zip us)->Vals vs us->sp vs H Q E->
  codeAny (model P w) A (.call (.ref f) args) (CR CX outer P w H s Q E) s
theorem FnOk.imp{K:L0}{sp a:Sp}(F:FnOk P w K mg base CX k f fd ps sp)
 (h:∀vs H Q E,a vs H Q E->sp vs H Q E):FnOk P w K mg base CX k f fd ps a:=
 (λvs H Q E q=>F.len vs H Q E (h _ _ _ _ q),λA outer s H args us vs Q E d e g b c=>F.run A outer s H args us vs Q E d e g b (h _ _ _ _ c))
theorem Env0.make{K:L0}{A:Around}(e:Env0 P w K mg base A outer s H)(C:Addr)(us:L Value)(a:L (Str×Value)):
 Env0 P w K mg base (A.under (.builtin "type.__call__" (.ref C::us,a))) outer s H:=(by first | exact e.frames | (simpa [Around.under,Code.envs,Code.isFrame,pushEnvs] using e.frames),e.mod,e.bs,e.bsz,e.funs,e.frf,e.hok,e.bare)
section
variable{X:Cx}{pins:L1}{Z:St}{H:Hp}{s s':Shared}
theorem Inv.env0(I:Inv X pins Z H s):Env0 X.prog X.w X.K X.mg X.base X.A X.stack s H:=
 (I.ok.frames,I.ok.mod,I.bs,Yw I.ok.bsz I.sz,I.stack,I.stkFree,I.hok,I.bare)
def Inv.after(I:Inv X pins Z H s)(h:CE X.stack X.prog X.w H s Q u s'):EP X pins Z Q u s':=by
 let(v,H',os,bare,un,hok,r,q):=h;let(c,g,d,t,a):=s';obtain rfl:a=s.os:=os;exact(v,H',I.call (h':=c) (g':=g) (d':=d) (t':=t) (ch:=[]) un hok bare (λb z=>absurd z ()),r,q)
end
def sm(sp:Sp)(a:L V)(E:XK)(t:TA):TE:=λZ H Q=>t Z H λvs H1=>sp (vs++a) H1 Q E
def sj(C:Addr)(m:Str)(sp:Sp)(b:L V)(E:XK)(ta:TE)(t:TA):TE:=λZ H Q=>ta Z H λx H1=>∃a dx fs,x=.ref a/\H1 a=J (.ins C dx fs)/\fs.lookup m=G/\
 t Z H1 λvs c=>sp (x::(vs++b)) c Q E
def GJ(C:Addr)(sp:Sp)(a:L V)(E:XK)(t:TA):TE:=λZ H Q=>t Z H λvs H1=>∀x dx,H1 x=G->H1 dx=G->dx≠x->
 sp (.ref x::(vs++a)) (upd (upd H1 dx (.own x)) x (.ins C dx [])) (λv b=>v=.non/\Q (.ref x) b) E
def Binds(K:L0)(fd:FuncData)(ps:L Str)(ds:L Value):Prop:=
 ∀(s:Shared) (us:L Value),K.In s.heap->(us++ds).length=ps.length->BindsTo s fd (us,[]) (ps.zip (us++ds))
theorem Binds.all{K:L0}{ps:L Str}(h:∀us:L Value,us.length=ps.length->bindArgs fd (us,[])=pure (ps.zip us)):Binds K fd ps []:=λs us _ a=>by
 rw[XY]at a ⊢;exact .of_eq (h us a)
def gd(CX:AY)(X:Cx)(E:XK):Prop:=∀(a:L1) (Z:St) (H:Hp) (s:Shared) (e:Value) (s':Shared),Inv X a Z H s->CX X.stack H s E e s'->X.xe e s'
section
variable{X:Cx}{CX:AY}{k:Nat}{f C:Addr}{fd:FuncData}{ps:L Str}{sp:Sp}{dvs:L V}{ds:L Value}{E:XK}{x m:Str}{p pos apos:Pos}{e o:Expr}{es:L Expr}{ta:TE}{t:TA}
def Bm(F:FnOk X.prog X.w X.K X.mg X.base CX k f fd ps sp)(g:Room k X.A)(j:Binds X.K fd ps ds)(hd:Vals dvs ds)(d:gd CX X E)
 (I:Inv X a Z H s) (r:Vals vs us) (h:sp (vs++dvs) H Q E):j1 X (call (.ref f) us) (EP X a Z Q) X.xe s:=by
 have c:Vals (vs++dvs) (us++ds):=r.append hd;have i:(us++ds).length=ps.length:=by rw[<-c.length];exact F.len _ _ _ _ h
 refine wpAny_call (ZH (F.run X.A X.stack s H (us,[]) (us++ds) (vs++dvs) Q E g I.env0 (j s us I.kIn i) c h) λr s' b=>?_);cases r with
 |error e=>exact d a Z H s e s' I b
 |ok fl=>
   cases fl with
   |ret u=>exact I.after b
   |next=>exact False.elim b
   |brk=>exact False.elim b
   |cont=>exact False.elim b
def aP(F:FnOk X.prog X.w X.K X.mg X.base CX k f fd ps sp)(i:Room k X.A)(m:Gl X x)(j:X.mg x=J (.ref f))(l:PySem.W.keepIn X.K (.ref f)=true)(o:Binds X.K fd ps ds)(hd:Vals dvs ds)(g:gd CX X E)
 (u:PA X (e::es) t) (c:(x==("__debug__" : Str))=false:=by decide) (n:starEach (e::es) X.env=(false,eval e X.env)::starEach es X.env:=by rfl) (b:(backTo pos (starEach es X.env)).any (·.1)=false:=by rfl):
 PE X (.Call (.Name x p) (e::es) [] pos) (sm sp dvs E t):=by
 intro a s Z H Q I h;refine Y2 (jD I m j ?_ c);refine ZA (h₀:=X.base) I.ok.mod.kin l (cf (u pos a s Z H _ I h) λus v (vs,H1,d,r,q)=>(d.kIn,?_)) n b;exact Bm F i o hd g d r q
def cM(Cv:PE X o ta)(c:Cls X.K C)(i:Meth X.K C m f)(F:FnOk X.prog X.w X.K X.mg X.base CX k f fd ps sp)(D:Room k X.A)(B1:Binds X.K fd ps ds)(hd:Vals dvs ds)(z:gd CX X E)(I0:PA X (e::es) t)
 (d:starEach (e::es) X.env=(false,eval e X.env)::starEach es X.env:=by rfl) (g:(backTo pos (starEach es X.env)).any (·.1)=false:=by rfl)
 (B:eval (.Call (.Attribute o m apos) (e::es) [] pos) X.env=(do
   let ov <-eval o X.env
   standAt apos.atName
   let (f,first) <-holding [ov] (getMethod ov m pl)
   callWith pos f first (backTo pos (starEach (e::es) X.env)) (backToKw pos (keywordEach [] X.env))):=by rfl):
 PE X (.Call (.Attribute o m apos) (e::es) [] pos) (sj C m sp dvs E ta t):=by
 intro b s Z H Q I h;refine Ae1 (pl:=pl) (cf (Cv b s Z H _ I h) λu p (x,H1,n,v,a,dx,fs,ex,M,l,q)=>?_) B;subst ex;obtain rfl:u=Value.ref a:=v;refine tU n M c i l ?_;refine ZA (first:=[.ref a]) (h₀:=X.base) I.ok.mod.kin i.kp (cf (I0 pos b p Z H1 _ n q) λus s2 (vs,N,j,r,y)=>(j.kIn,?_)) d g;exact Bm (us:=.ref a::us) (vs:=.ref a::vs) F D B1 hd z j (.cons rfl r) y
def j8(p:PE X o ta)(c:Cls X.K C)(e:Meth X.K C m f)(F:FnOk X.prog X.w X.K X.mg X.base CX k f fd ps sp)(n:Room k X.A)(r:Binds X.K fd ps ds)(hd:Vals dvs ds)(i:gd CX X E)
 (j:eval (.Call (.Attribute o m apos) [] [] pos) X.env=(do
   let ov <-eval o X.env
   standAt apos.atName
   let (f,first) <-holding [ov] (getMethod ov m pl)
   callWith pos f first (backTo pos (starEach [] X.env)) (backToKw pos (keywordEach [] X.env))):=by rfl):
 PE X (.Call (.Attribute o m apos) [] [] pos) (sj C m sp dvs E ta dP):=by
 intro b s Z H Q I h;refine Ae1 (pl:=pl) (cf (p b s Z H _ I h) λu v (x,H1,d,g,a,dx,fs,ex,t,l,q)=>?_) j;subst ex;obtain rfl:u=Value.ref a:=g;refine tU d t c e l ?_;exact PySem.W.callWith_K0 (first:=[.ref a]) d.kIn e.kp (Bm (us:=[.ref a]) (vs:=[.ref a]) F n r hd i d (.cons rfl .nil) q)
structure Mk (K:L0) (C f:Addr):Prop where
 makes:PySem.W.makesIn K C=true
 init:PySem.W.findIn K (.ref C) "__init__" = J (J (.ref f))
 fn:PySem.W.isFn K (.ref f)=true
 kp:PySem.W.keepIn K (.ref C)=true
def Hc{H:Hp}{vs:L V}(M:Mk X.K C f)(F:FnOk X.prog X.w X.K X.mg X.base CX k f fd ps sp)(m:Room (k+1) X.A)(o:Binds X.K fd ps ds)(hd:Vals dvs ds)
 (l:gd CX X E) (I:Inv X a Z H s) (r:Vals vs us)
 (h:∀x dx,H x=G->H dx=G->dx≠x->sp (.ref x::(vs++dvs)) (upd (upd H dx (.own x)) x (.ins C dx [])) (λv t=>v=.non/\Q (.ref x) t) E):
 j1 X (call (.ref C) us) (EP X a Z Q) X.xe s:=by
 have g:=h (s.heap.objs.size+1) s.heap.objs.size (I.hok.fresh (Nat.le_succ _)) (I.hok.fresh (XH _)) (X4 (ZS _));have c:=Inv.made (C:=C) I;have d:Vals (V.ref (s.heap.objs.size+1)::(vs++dvs)) (Value.ref (s.heap.objs.size+1)::(us++ds)):=.cons rfl (r.append hd)
 have n:(Value.ref (s.heap.objs.size+1)::us++ds).length=ps.length:=by
  have e:=d.length;rw[F.len _ _ _ _ g]at e;exact e.symm
 refine wpAny_call (JB (f:=f) I.kIn M.makes M.init (ZR.mp M.fn) (ZH (F.run _ X.stack _ _ (Value.ref (s.heap.objs.size+1)::us,[]) (Value.ref (s.heap.objs.size+1)::(us++ds)) _ _ E (m.make C us [])
  (c.env0.make C us []) (o _ (Value.ref (s.heap.objs.size+1)::us) c.kIn n) d g) λr s' b=>?_))
 cases r with
 |error e=>exact l a Z _ _ e s' c b
 |ok fl=>
   cases fl with
   |ret u=>
     let(v,H',q,i,p,j):=c.after b;subst p;exact(i,(V.ref (s.heap.objs.size+1),H',q,rfl,j))
   |next=>exact False.elim b
   |brk=>exact False.elim b
   |cont=>exact False.elim b
def MG(M:Mk X.K C f)(F:FnOk X.prog X.w X.K X.mg X.base CX k f fd ps sp)(i:Room (k+1) X.A)(l:Gl X x)(j:X.mg x=J (.ref C))(n:Binds X.K fd ps ds)(hd:Vals dvs ds)(g:gd CX X E)
 (o:PA X (e::es) t) (c:(x==("__debug__" : Str))=false:=by decide) (m:starEach (e::es) X.env=(false,eval e X.env)::starEach es X.env:=by rfl) (b:(backTo pos (starEach es X.env)).any (·.1)=false:=by rfl):
 PE X (.Call (.Name x p) (e::es) [] pos) (GJ C sp dvs E t):=by
 intro a s Z H Q I h;refine Y2 (jD I l j ?_ c);refine ZA (h₀:=X.base) I.ok.mod.kin M.kp (cf (o pos a s Z H _ I h) λus u (vs,H1,d,r,q)=>(d.kIn,?_)) m b;exact Hc M F i n hd g d r q
end
def PK(X:Cx)(b:L Keyword)(t:TA):Prop:=
 ∀(pos:Pos) (a:L1) (s:Shared) (Z:St) (H:Hp) (Q:L V->Hp->Prop),Inv X a Z H s->t Z H Q->j1 X (evalAll ((backToKw pos (keywordEach b X.env)).map (·.2))) (AP X a Z Q) X.xe s
section
variable{X:Cx}{CX:AY}{k:Nat}{f C:Addr}{fd:FuncData}{ps ks:L Str}{sp:Sp}{E:XK}{x m:Str}{p pos apos kpos:Pos}{e o:Expr}{es:L Expr}{kws:L Keyword}{te ta:TE}{t tk:TA}{nm:Option Str}
theorem Ic:PK X [] dP:=λ_ _ _ _ H Q I h=>wpAny_evalAll_nil ([],H,I,.nil,h)
def Dv(j:PE X e te)(i:PK X kws t):PK X ((nm,e,kpos)::kws) (bX te t):=by
 intro pos a s Z H Q I h;show wpAny _ _ (evalAll ((do let v <-eval e X.env;standAt pos;pure v)::(backToKw pos (keywordEach kws X.env)).map (·.2))) _ _ s;refine wpAny_evalAll_cons (XA (cf (j a s Z H _ I h) λu b (x,H1,l,d,g)=>XA (ZY (XQ ?_))));exact cf (i pos a b Z H1 _ l g) λus s2 (xs,m,k,c,f)=>(x::xs,m,k,.cons d c,f)
variable{g:L Value->L Value->L Value}{gV:L V->L V->L V}
end
structure FnScope (N P:L Str) (sc:Scope):Prop where
 kind:sc.kind=.function
 co:sc.isCoroutine=false
 gen:sc.isGenerator=false
 nd:N.Nodup
 pre:N.take P.length=P
 par:∀x∈P,sc.names.lookup x=J .local\/sc.names.lookup x=J .cell
 nofree:∀y∈sc.names,y.2≠ .free
def wz{kindOf:Str->Option NameKind}:∀{binds:L (Str×Value)} {m:Str->Option Value},(∀v,(x,v)∉binds)->bindL kindOf binds m x=m x
 |[],_,_=>rfl
 | (n,v)::r,m,h=>by
   ext bindL;rw[wz λw a=>h w (List.mem_cons_of_mem _ a)];split
   · have:x≠n:=by rintro rfl;exact h v Xw
     simp[this]
   .rfl
def wB{kindOf:Str->Option NameKind}:∀{binds:L (Str×Value)} {m:Str->Option Value},(∀v,(x,v)∉binds)->bindC kindOf binds m x=m x
 |[],_,_=>rfl
 | (n,v)::r,m,h=>by
   ext bindC;rw[wB λw a=>h w (List.mem_cons_of_mem _ a)];split
   .rfl
   · have:x≠n:=by rintro rfl;exact h v Xw
     simp[this]
theorem wA{kindOf:Str->Option NameKind}:∀{P:L Str} {vs:L Value} {i:Nat} {m:Str->Option Value},P.Nodup->P[i]?=J x->vs[i]?=J v->kindOf x=J .local->
 bindL kindOf (P.zip vs) m x=J v
 |[],_,_,_,_,h,_,_=>by simp at h
 |_::_,[],_,_,_,_,h,_=>by simp at h
 | p::P,w::vs,0,m,nd,b,a,c=>by
   simp at b a;subst b;subst a;show bindL kindOf ((p,w)::P.zip vs) m p=_;ext bindL;rw[wz λv d=>(List.nodup_cons.mp nd).1 (List.of_mem_zip d).1,if_pos c];simp
 | p::P,w::vs,i+1,m,nd,b,a,c=>by
   show bindL kindOf ((p,w)::P.zip vs) m x=_;ext bindL;exact wA (i:=i) (List.nodup_cons.mp nd).2 (by simpa using b) (by simpa using a) c
theorem wC{kindOf:Str->Option NameKind}:∀{P:L Str} {vs:L Value} {i:Nat} {m:Str->Option Value},P.Nodup->P[i]?=J x->vs[i]?=J v->kindOf x≠J .local->
 bindC kindOf (P.zip vs) m x=J v
 |[],_,_,_,_,h,_,_=>by simp at h
 |_::_,[],_,_,_,_,h,_=>by simp at h
 | p::P,w::vs,0,m,nd,b,a,c=>by
   simp at b a;subst b;subst a;show bindC kindOf ((p,w)::P.zip vs) m p=_;ext bindC;rw[wB λv d=>(List.nodup_cons.mp nd).1 (List.of_mem_zip d).1,if_neg c];simp
 | p::P,w::vs,i+1,m,nd,b,a,c=>by
   show bindC kindOf ((p,w)::P.zip vs) m x=_;ext bindC;exact wC (i:=i) (List.nodup_cons.mp nd).2 (by simpa using b) (by simpa using a) c
def j4(N:L Str)(vs:L V):St:=vs.map J++List.replicate (N.length-vs.length) G
def mo(CX:AY)(P:Program)(w:World)(K:L0)(mg:Str->Option Value)(base:Heap)(N:L Str)(qual:Str)(scope:Scope)(f:Addr)(cd:Value)(A:Around)(outer:L Env)(s:Shared)(H:Hp)(E:XK):Cx where
 prog:=P
 w:=w
 K:=K
 mg:=mg
 base:=base
 A:=A.deeper (envOfC qual scope s.heap.objs.size f cd)
 N:=N
 s₀:=s
 H₀:=H
 env:=envOfC qual scope s.heap.objs.size f cd
 outer:=outer
 stack:=envOfC qual scope s.heap.objs.size f cd::outer
 ex:=[]
 calm:=true
 fn:=λ_=>true
 pn:=[]
 xe:=λe s'=>wpAny (model P w) (A.deeper (envOfC qual scope s.heap.objs.size f cd)) («leaving» (envOfC qual scope s.heap.objs.size f cd) e) (λ_ a=>CX outer H s E e a) (λb a=>CX outer H s E b a) s'
def AD{sc:Scope}(h:sc.names.lookup x=J .cell):∃c,(cellsFrom n sc.names []).lookup x=J c:=by
 have q:=Ac6 sc.names n [] (.inl h);exact Zx.mp q
def FT{K:L0}{ps:L Str}{scope:Scope}{A:Around}{s:Shared}{vs:L V}
 (S:FnScope N ps scope) (hd:A.handled=G) (g:Env0 P w K mg base A outer s H) (B1:vs.length=ps.length) (r:Vals vs us)
 (x:InCallC s s.heap.objs.size (bindL (envOfC qual scope s.heap.objs.size f cd).kindOf (ps.zip us) λ_=>G) (cellsFrom (s.heap.objs.size+1) scope.names []) (bindC (envOfC qual scope s.heap.objs.size f cd).kindOf (ps.zip us) λ_=>G) t):
 Inv (mo CX P w K mg base N qual scope f cd A outer s H E) [] (j4 N vs) H t:=by
 have F:ps.length<=N.length:=by have:=congrArg List.length S.pre;rw[ZT]at this;omega
 let(o,I,rfl,C):=x.done;have j:∀b:Addr,b∉(mo CX P w K mg base N qual scope f cd A outer s H E).ex:=λb z=>absurd (show b∈([]:L Addr) from z) ()
 refine((g.mod,S.kind,rfl,rfl,XH _,λy z c o d=>?_,λy l=>?_,λy c _ h=>?_,λ_=>hd,Around.frames_deeper g.frames,.inr (rfl,rfl),λb z=>absurd z (j b),g.bs,g.bsz,λb _ _=>j b,λb z=>absurd z (j b),g.funs,g.frf),
  rfl,g.bare,Un.kept C,(_,x.toInCall.ns,λi y v o d I0=>?_),λy c h=>(_,x.cell y c h),g.hok.fresh (XH _),λy c h=>?_,λp hp=>absurd (show p∈([]:L1) from hp) (),g.hok.kept C,?_)
 .exact name_of_addr x.apart (Y0 o) (Y0 d)
 · have l:scope.names.lookup y=J .cell\/scope.names.lookup y=J .free:=l;rcases l with l|l
   .exact AD l
   .exact absurd rfl (S.nofree _ (Y0 l))
 .exact Yz (x.above y c (Y0 h))
 · have hi:i<vs.length:=by
    unfold j4 at d;by_cases hi:i<vs.length
    .exact hi
    .rw[Zp (by simpa using hi)]at d;rw[ZE]at d;split at d<;>cases d
   have Cv:vs[i]?=J v:=by
    unfold j4 at d;rw[List.getElem?_append_left (by simpa using hi),List.getElem?_map]at d;cases e:vs[i]? with
    |none=>rw[e]at d;cases d
    |some a=>rw[e]at d;cases d;rfl
   let(u,B,D):=r.get Cv
   have hp:ps[i]?=J y:=by
    rw[<-S.pre,List.getElem?_take_of_lt ∅];exact o
   have m:ps.Nodup:=by rw[<-S.pre];exact S.nd.sublist (List.take_sublist _ _)
   refine(u,D,?_);rcases S.par y (Z0 hp) with k|k
   .exact .inl (k,wA m hp B k)
   .let(c,e):=AD (n:=s.heap.objs.size+1) k;refine .inr (.inl k,c,e,?_);have q:=x.cell y c e;rw[wC m hp B (by show scope.names.lookup y≠_;rw[k];decide)]at q;exact q
 .exact g.hok.fresh (Yz (x.above y c (Y0 h)))
 .unfold j4;show _=N.length;rw[List.length_append,List.length_map,List.length_replicate];omega
def fn_of{CX:AY}{P:Program}{w:World}{K:L0}{mg:Str->Option Value}{base:Heap}{k:Nat}{f:Addr}{name qual:Str}{c:Arguments}{body:L Stmt}{scope:Scope}{I0 kV p pm a ct oc:Value}{an O:Option Addr}
 {B:Array (Option Value)} {N ps:L Str} {sp:Sp} (lk:K.lookup f=J (oc,O,.func (PySem.W.fnOf name qual c body scope I0 kV p pm an a ct),B)) (F:PySem.W.codeIn K a qual=true) (S:FnScope N ps scope)
 (len:∀vs H Q E,sp vs H Q E->vs.length=ps.length)
 (h:∀(A:Around) (outer:L Env) (s:Shared) (H:Hp) (vs:L V) (Q:VK) (E:XK),Room k (A.deeper (envOfC qual scope s.heap.objs.size f a))->sp vs H Q E->
   ∃t,Gn (mo CX P w K mg base N qual scope f a A outer s H E) body t/\t {nx:=λ_ H'=>Q .non H',rt:=Q} (j4 N vs) H):
 FnOk P w K mg base CX (k+1) f (PySem.W.fnOf name qual c body scope I0 kV p pm an a ct) ps sp:=by
 refine(len,λA outer s H args us vs Q E D m Z r j=>?_);have X:=len _ _ _ _ j;have M:K.In s.heap:=m.mod.kin.keeps λb o e=>(m.bs b o e).1;have C:s.heap.NoLimit:=m.mod.nolimit.keeps λb o e=>(m.bs b o e).1
 have g:∀y∈ps.zip us,scope.names.lookup y.1=J .local\/(scope.names.lookup y.1=J .cell/\((cellsFrom (s.heap.objs.size+1) scope.names []).lookup y.1).isSome=true):=λ(n,v) R=>by
  rcases S.par n (List.of_mem_zip R).1 with q|q
  .exact .inl q
  .exact .inr (q,Ac6 _ _ _ (.inl q))
 refine codeAny_call_function D.depth (M _ _ lk) rfl S.co S.gen rfl (PySem.W.codeRec_of M F) (Z _ _ _ _ ?_);refine wpAny_newFunctionEnv_cells S.kind g λenv Y Cv x=>?_;subst Y;refine(C.keeps x.toInCall.keep,codeAny_func ?_);let(t,T,U):=h A outer s H vs Q E (D.deeper _) j;have I:Inv (mo CX P w K mg base N qual scope f a A outer s H E) [] (j4 N vs) H Cv:=FT S D.hd m X r x;refine YO (T [] Cv (j4 N vs) H _ I U) (λfl s' i=>?_) λe s' i=>i
 have l:∀{d:St} {H':Hp} {v:V} {u:Value},Inv (mo CX P w K mg base N qual scope f a A outer s H E) [] d H' s'->RelV v u->Q v H'->CE outer P w H s Q u s':=
  λ{d H' v u} B1 z q=>(v,H',B1.os,B1.bare,B1.base,B1.hok,z,q)
 cases fl with
 |ret u=>
   let(v,d,H',B1,z,q):=i;exact l B1 z q
 |next=>
   let(d,H',B1,q):=i;exact l (v:=V.non) (u:=Value.none) B1 rfl q
 |brk=>
   let(_,_,_,q):=i;exact False.elim q
 |cont=>
   let(_,_,_,q):=i;exact False.elim q
section
variable{X:Cx}{x:Str}{p pos:Pos}{e:Expr}{es:L Expr}{t:TA}{id T:String}{r:L V->Hp->VK->Prop}
def Gq(r:L V->Hp->VK->Prop)(t:TA):TE:=λZ H Q=>t Z H λvs H1=>r vs H1 Q
def a7(n:fP X (.builtin id) r)(l:Gl X x)(k:X.mg x=G)(i:bootBuiltins x=J (.builtin id))(o:PA X (e::es) t)(j:x ≠ "__name__" := by decide)(c:(x==("__debug__" : Str))=false:=by decide)
 (m:starEach (e::es) X.env=(false,eval e X.env)::starEach es X.env:=by rfl) (b:(backTo pos (starEach es X.env)).any (·.1)=false:=by rfl):PE X (.Call (.Name x p) (e::es) [] pos) (Gq r t):=by
 intro a s Z H Q I h;refine Y2 (qi I l k i ?_ j c);exact PyProof.Rows.callWith_builtin1 (cf (o pos a s Z H _ I h) λus d (vs,H1,q,f,g)=>n a d Z H1 vs us Q q f g) m b
def cG(n:fP X (.type T) r)(l:Gl X x)(k:X.mg x=G)(i:bootBuiltins x=J (.type T))(o:PA X (e::es) t)(j:x ≠ "__name__" := by decide)(c:(x==("__debug__" : Str))=false:=by decide)
 (m:starEach (e::es) X.env=(false,eval e X.env)::starEach es X.env:=by rfl) (b:(backTo pos (starEach es X.env)).any (·.1)=false:=by rfl):PE X (.Call (.Name x p) (e::es) [] pos) (Gq r t):=by
 intro a s Z H Q I h;refine Y2 (qi I l k i ?_ j c);exact Zk (cf (o pos a s Z H _ I h) λus d (vs,H1,q,f,g)=>n a d Z H1 vs us Q q f g) m b
end
section
variable{X:Type}[DecidableEq X]
def nF(a:L (X×V))(k:X):Option V:=(a.find? λb=>decide (b.1=k)).map (·.2)
def iK(a:L (X×V))(k:X)(v:V):L (X×V):=
 if (a.any λb=>decide (b.1=k))=true then a.map (λb=>if b.1=k then (b.1,v) else b) else a++[(k,v)]
theorem GA:nF ([]:L (X×V)) k=none:=rfl
def oy{p:X×V}(e:p.1=k):nF (p::r) k=J p.2:=by simp[nF,Zi,e]
def oz{p:X×V}(e:¬ p.1=k):nF (p::r) k=nF r k:=by simp[nF,Zi,e]
theorem yJ(k:X):∀a:L (X×V),(a.any λb=>decide (b.1=k))=(nF a k).isSome
 |[]=>rfl
 | p::r=>by
   rw[ZZ];by_cases e:p.1=k
   .simp only[oy e,Yn e,Bool.true_or,Option.isSome_some]
   .rw[oz e,X6 e,Bool.false_or];exact yJ k r
def qR(a:L (X×V))(k:X)(v:V):(iK a k v).length<=a.length+1:=by
 ext iK;split
 .rw[Xv];omega
 .rw[XF,XD,Z6];omega
def RelO.isSome_eq{o:Option V}{u:Option Value}(r:RelO o u):o.isSome=u.isSome:=by
 cases o with
 | none=>cases u with
   |none=>rfl
   |some _=>exact(show False from r).elim
 | some _=>cases u with
   |none=>exact(show False from r).elim
   |some _=>rfl
def RelO.getD{o:Option V}{u:Option Value}(r:RelO o u)(rd:RelV d d'):RelV (o.getD d) (u.getD d'):=by
 cases o with
 | none=>cases u with
   |none=>exact rd
   |some _=>exact(show False from r).elim
 | some _=>cases u with
   |none=>exact(show False from r).elim
   |some _=>exact r
def KV.val(r:KV a vs)(k:X):RelO (nF a k) (valueAt vs k):=by
 unfold KV at r
 induction r with
 |nil=>exact True.intro
 |@cons p q ps c h t g=>
   let(f,i):=h;by_cases e:p.1=k
   · have d:q.1=k:=f.symm.trans e;have b:valueAt (q::c) k=J q.2:=by simp[valueAt,Zi,d]
     rw[oy e,b];exact i
   · have d:¬ q.1=k:=λz=>e (f.trans z);have b:valueAt (q::c) k=valueAt c k:=by simp[valueAt,Zi,d]
     rw[oz e,b];exact g
def KV.any{a:L (X×V)}{vs:L (X×Value)}(r:KV a vs)(k:X):(a.any λb=>decide (b.1=k))=vs.any λb=>decide (b.1=k):=by
 unfold KV at r
 induction r with
 |nil=>rfl
 |cons h t c=>rw[ZZ,ZZ,c,h.1]
def KV.repl{b:L (X×V)}{vs:L (X×Value)}(r:KV b vs)(k:X)(d:RelV y u):
 KV (b.map λa=>if a.1=k then (a.1,y) else a) (vs.map λa=>if a.1=k then (a.1,u) else a):=by
 unfold KV at r ⊢
 induction r with
 |nil=>exact .nil
 |@cons p q ps i h t f=>
   rw[Xz,Xz];refine .cons ?_ f;let(c,g):=h;by_cases e:p.1=k
   .rw[Xx e,Xx (c.symm.trans e)];exact(c,d)
   .rw[Xy e,Xy (λz=>e (c.trans z))];exact(c,g)
def KV.put(r:KV a vs)(k:X)(b:RelV y u):KV (iK a k y) (stored vs k u):=by
 ext iK stored;rw[r.any k];by_cases e:(vs.any λc=>decide (c.1=k))=true
 .rw[Xx e,Xx e];exact r.repl k b
 .rw[Xy e,Xy e];exact Paired.snoc r (rfl,b)
theorem KV.length{a:L (X×V)}{vs:L (X×Value)}(r:KV a vs):a.length=vs.length:=ZX r
end
def zL(r:RelV (kV k) u):(cN P w).is k u=true:=by
 cases k with
 |inl i=>let(t,e):=(show ∃t,u=Value.int i t from r);subst e;exact zA P w i t
 |inr x=>let(t,e):=(show ∃t,u=Value.str x t from r);subst e;exact zz P w x t
theorem vY:∀{ks:L cL} {us:L Value},Vals (ks.map kV) us->ItemsAre (cN P w) ks us
 |[],_,r=>by rw[YA]at r;cases r;exact .nil
 | k::ks,_,r=>by
   rw[Xz]at r;cases r with
   |cons h t=>exact .cons (zL h) (vY t)
abbrev KT(H:Hp):L (L cL×V)->L (L cL×Addr×Value)->Prop:=Paired λp q=>p.1=q.1/\H q.2.1=J (.tup (p.1.map kV))/\RelV p.2 q.2.2
def KT.val(r:KT H a xs)(k:L cL):RelO (nF a k) ((atKey xs k).map (·.2)):=by
 induction r with
 |nil=>exact True.intro
 |@cons p q ps c h t g=>
   let(f,_,i):=h;by_cases e:p.1=k
   · have d:q.1=k:=f.symm.trans e;have b:atKey (q::c) k=J q.2:=by simp[atKey,Zi,d]
     rw[oy e,b];exact i
   · have d:¬ q.1=k:=λz=>e (f.trans z);have b:atKey (q::c) k=atKey c k:=by simp[atKey,Zi,d]
     rw[oz e,b];exact g
def KT.repl{a:L (L cL×V)}{xs:L (L cL×Addr×Value)}(r:KT H a xs)(k:L cL)(f:RelV y u):
 KT H (a.map λc=>if c.1=k then (c.1,y) else c) (xs.map (putAt k u)):=by
 induction r with
 |nil=>exact .nil
 |@cons p q ps j h t g=>
   rw[List.map_cons,List.map_cons];refine .cons ?_ g;let(b,d,i):=h;ext putAt;by_cases e:p.1=k
   .rw[Xx e,Xx (b.symm.trans e)];exact(b,d,f)
   .rw[Xy e,Xy (λz=>e (b.trans z))];exact(b,d,i)
def KT.put{H:Hp}(r:KT H a xs)(k:L cL)(f:H b=J (.tup (k.map kV)))(c:RelV y u):
 KT H (iK a k y) (storedH xs k b u):=by
 have e:(a.any λd=>decide (d.1=k))=(atKey xs k).isSome:=by
  rw[yJ,(r.val k).isSome_eq,Option.isSome_map]
 ext iK storedH;rw[e];by_cases q:(atKey xs k).isSome=true
 .rw[Xx q,Xx q];exact r.repl k c
 .rw[Xy q,Xy q];exact Paired.snoc r (rfl,f,c)
theorem KT.keeps{H H':Hp}(r:KT H a xs)(c:∀b ys,H b=J (.tup ys)->H' b=J (.tup ys)):KT H' a xs:=
 Paired.mapP r λ_ _ z=>(z.1,c _ _ z.2.1,z.2.2)
section
variable{P:Program}{w:World}{H:Hp}{h:Heap}{a:Addr}
theorem On(ok:HOk P w H h)(e:Rd H a u):ObjOk P w H h a u:=e.ok ok
theorem wg{b:L (cL×V)}(ok:HOk P w H h)(e:Rd H a (.dK b)):b.length<=sizeLine/\(a==sysModules)=false/\∃vs,KV b vs/\h.DictOf (cN P w) a vs:=
 show ObjOk P w H h a (.dK b) from On ok e
theorem VH{b:L (cL×V)}(ok:HOk P w H h)(e:H a=J (.dK b)):b.length<=sizeLine/\(a==sysModules)=false/\∃vs,KV b vs/\h.DictOf (cN P w) a vs:=wg ok (.inl e)
def qo{ks:L cL}(ok:HOk P w H h)(e:H a=J (.tup (ks.map kV))):(tupleKind (cN P w)).is h ks a:=by
 let(_,its,r,o,d,c,n,b):=(show ObjOk P w H h a (.tup (ks.map kV)) from ok a _ e);exact(o,its.toArray,n,d,c,b,by simpa using vY r)
def wc{b:L (L cL×V)}(ok:HOk P w H h)(e:Rd H a (.dT b)):b.length<=sizeLine/\(a==sysModules)=false/\
 ∃xs,KT H b xs/\h.DictOfH (tupleKind (cN P w)) a xs:=by
 let(z,y,xs,r,o,es,ep,n,k,j,i,g):=(show ObjOk P w H h a (.dT b) from On ok e);refine(z,y,xs,r,o,es,ep,n,k,j,i,λx c=>?_,g)
 have all:∀{l:L (L cL×V)} {m:L (L cL×Addr×Value)},KT H l m->∀x∈m,(tupleKind (cN P w)).is h x.1 x.2.1:=by
  intro l m q
  induction q with
  |nil=>intro x c;exact nomatch c
  |@cons p q ps s d t f=>
    intro x c;rcases XC.mp c with e|c
    .subst e;exact qo ok (by rw[<-d.1];exact d.2.1)
    .exact f x c
 exact all r x c
theorem VF{b:L (L cL×V)}(ok:HOk P w H h)(e:H a=J (.dT b)):b.length<=sizeLine/\(a==sysModules)=false/\
 ∃xs,KT H b xs/\h.DictOfH (tupleKind (cN P w)) a xs:=wc ok (.inl e)
end
def DGet(H:Hp)(a:Addr)(y:V)(r:Option V):Prop:=
 (∃c k,Rd H a (.dK c)/\y=kV k/\r=nF c k)\/∃c k b,Rd H a (.dT c)/\y=.ref b/\H b=J (.tup (k.map kV))/\r=nF c k
def DPut(H:Hp)(a:Addr)(y v:V)(H':Hp):Prop:=
 (∃c k,H a=J (.dK c)/\y=kV k/\c.length<sizeLine/\H'=upd H a (.dK (iK c k v)))\/
 ∃c k b,H a=J (.dT c)/\y=.ref b/\H b=J (.tup (k.map kV))/\c.length<sizeLine/\H'=upd H a (.dT (iK c k v))
theorem DGet.k{H:Hp}{k:cL}(e:H a=J (.dK b)):DGet H a (kV k) (nF b k):=.inl (b,k,.inl e,rfl,rfl)
theorem DPut.k{H:Hp}{b:L (cL×V)}{k:cL}(e:H a=J (.dK b))(c:b.length<sizeLine):DPut H a (kV k) v (upd H a (.dK (iK b k v))):=.inl (b,k,e,rfl,c,rfl)
theorem DPut.t{H:Hp}{c:L (L cL×V)}{k:L cL}(e:H a=J (.dT c))(f:H b=J (.tup (k.map kV)))(d:c.length<sizeLine):
 DPut H a (.ref b) v (upd H a (.dT (iK c k v))):=.inr (c,k,b,e,rfl,f,d,rfl)
section
variable{X:Cx}{pins:L1}{Z:St}{H:Hp}{s:Shared}{a:Addr}{y v:V}{u r:Value}{o:Option V}{A:Around}{E:L3}
def Inv.big(I:Inv X pins Z H s):sysModules<s.heap.objs.size:=by
 have h:mainGlobals<s.heap.objs.size:=(I.mod.glob.keeps I.bk).lt;exact Nat.lt_trans () h
def F2{Q:L3}(r:A.units+1<cLine)(I:Inv X pins Z H s)(g:DGet H a y (J v))(q:RelV y u)(h:∀f s',Inv X pins Z H s'->RelV v f->Q f s'):
 wpAny (model X.prog X.w) A (getItem (.ref a) u) Q E s:=by
 rcases g with ⟨i,k,e,n,l⟩|⟨i,k,b,e,n,t,l⟩
 .subst n;let(z,hd,vs,d,dd):=wg I.hok e;let(f,j,c):=RelO.some_of (v:=v) (o:=valueAt vs k) (by rw[l];exact d.val k);exact wpAny_getItem_of (zL q) dd.mapOf j (h f _ (I.tok _) c)
 .subst n;cases(show u=Value.ref b from q);let(z,hd,xs,d,dd):=wc I.hok e;let(f,j,c):=RelO.some_of (v:=v) (o:=(atKey xs k).map (·.2)) (by rw[l];exact d.val k);let(p,hp,m):=X9.mp j;refine wpAny_getItem_heap (ZB r) (qo I.hok t) dd hp ?_;rw[m];exact h f _ (I.tok _) c
def Xh{Q:L3}(j:A.units+1<cLine)(I:Inv X pins Z H s)(g:DGet H a y o)(i:RelV y u)(h:∀s',Inv X pins Z H s'->Q (.bool o.isSome) s'):
 wpAny (model X.prog X.w) A (compareOp .In u (.ref a)) Q E s:=by
 rcases g with ⟨d,k,e,f,l⟩|⟨d,k,b,e,f,m,l⟩
 .subst f;let(z,hd,vs,c,dd):=wg I.hok e;refine wpAny_in_of (zL i) hd dd.mapOf ?_;rw[<-(c.val k).isSome_eq,<-l];exact h _ (I.tok _)
 .subst f;cases(show u=Value.ref b from i);let(z,hd,xs,c,dd):=wc I.hok e;refine wpAny_in_heap (ZB j) (qo I.hok m) hd dd ?_;have q:=(c.val k).isSome_eq;rw[Option.isSome_map]at q;rw[<-q,<-l];exact h _ (I.tok _)
theorem D0{h':Heap}(I:Inv X pins Z H s)(c:WF (H a))(d:Heap.SameBut a s.heap h')(f:∃q,h'.get? a=J q)(new:ObjOk X.prog X.w (upd H a ob) h' a ob):
 Inv X pins Z (upd H a ob) {s with heap:=h',toks:=t'}:=
 I.write (x:=a) (e:=a) c (.inl rfl) (λb q g z=>(d.2 b g).trans z) f new
theorem Sd{h':Heap}{b:L (cL×V)}(z:b.length<=sizeLine)(hd:(a==sysModules)=false)(c:KV b vs)(dd:h'.DictOf (cN P w) a vs):
 ObjOk P w H' h' a (.dK b):=(z,hd,vs,c,dd)
def F1{Q:Unit->Shared->Prop}(D:A.units+1<cLine)(I:Inv X pins Z H s)(g:DPut H a y v H')(t:RelV y u)(x:RelV v r)(h:∀s',Inv X pins Z H' s'->Q j2 s'):
 wpAny (model X.prog X.w) A (setItem (.ref a) u r) Q E s:=by
 rcases g with ⟨f,k,e,p,l,eH⟩|⟨f,k,b,e,p,C,l,eH⟩
 · subst p eH;let(z,hd,vs,d,dd):=VH I.hok e;have m:vs.length<=sizeLine:=by rw[<-d.length];exact z
   have o:(iK f k v).length<=sizeLine:=by have:=qR f k v;omega
   refine wpAny_setItem_pairs (hsz:=m) (zL t) dd λh' i n=>h _ ?_;have F:∃q,h'.get? a=J q:=let (q,_,_,j,_):=i;(q,j)
   exact D0 I (by rw[e];exact True.intro) n F (Sd o hd (d.put k x) i)
 · subst p eH;cases(show u=Value.ref b from t);let(z,hd,xs,d,dd):=VF I.hok e;have m:xs.length<=sizeLine:=by rw[<-ZX d];exact z
   have o:(iK f k v).length<=sizeLine:=by have:=qR f k v;omega
   refine wpAny_setItem_heap (hsz:=m) (ZB D) (qo I.hok C) dd λh' i n=>h _ ?_;let(q,es,ep,j,I0,K,B1,_,Cv):=i;refine D0 I (by rw[e];exact True.intro) n (q,j) (o,hd,_,(d.put k C x).keeps λc ys B=>?_,q,es,ep,j,I0,K,B1,Cv);rw[bq (UN B e (λz=>nomatch z))];exact B
end
def WE(i:Expr):Prop:=∀ov a,subscripted i false ov a=operate [ov,a] (getItem ov a)
def L8{id:String}
 (n:typeLookup (.type T) "__getitem__" = pure (J (.builtin id))) (m:WE a)
 (h:wpAny (model prog w) A (eval b env) (λo f=>wpAny (model prog w) A (eval a env) (λi c=>c.TypeIs o T/\wpAny (model prog w) A (getItem o i) Q E c) E f) E s):
 wpAny (model prog w) A (eval (.Subscript b a pos) env) Q E s:=by
 refine Subscript_ (wpAny_mono h (λo f k=>wpAny_mono k (λi c d=>?_) λ_ _ x=>x) λ_ _ x=>x);let(l,d):=d;ext subscriptTail;refine wpAny_bind ?_;rw[getitemInPython_of_ne l.not_modules];refine wpAny_bind (wpAny_specialOf l n ?_)
 have g:wpAny (model prog w) A (subscripted a false o i) (λr e=>wpAny (model prog w) A (letTemporaryGo b o r >>= λ_=>pure r) Q E e) E c:=by
  rw[m o i];exact wpAny_operating (YO d (λr e j=>XA (wpAny_letTemporaryGo (XQ j))) λ_ _ x=>x)
 first
  |exact XQ (XA g)
  |exact XA (XQ (XA g))
  |exact XA g
def Ab{X:Cx}{s:Shared}(I:Inv X c Z H s)(g:DGet H a y o):s.TypeIs (.ref a) "dict" := by
 rcases g with ⟨d,k,e,_,_⟩|⟨d,k,b,e,_,_,_⟩
 .let(_,_,vs,_,dd):=wg I.hok e;exact dd.typeIs
 .let(_,_,xs,_,dd):=wc I.hok e;exact dd.typeIs
def Oh(c ty:TE):TE:=λZ H Q=>c Z H λx H1=>ty Z H1 λy b=>∃a v,x=.ref a/\DGet b a y (J v)/\Q v b
def Tz(ty c:TE):TE:=λZ H Q=>ty Z H λy H1=>c Z H1 λx b=>∃a o,x=.ref a/\DGet b a y o/\Q (.bl o.isSome) b
def Om(d ty c:TE):TS:=λD Z H=>c Z H λv H1=>d Z H1 λx f=>ty Z f λy e=>∃a b,x=.ref a/\DPut e a y v b/\D.nx Z b
section
variable{X:Cx}{o i e value:Expr}{pos pos' tpos:Pos}{td ty tv:TE}
def oM(m:X.A.units+1<cLine)(p:PE X o td)(hi:PE X i ty)(n:WE i):PE X (.Subscript o i pos) (Oh td ty):=by
 intro b s Z H Q I h;refine L8 PySem.F.slot_dict_getitem.lookup n (cf (p b s Z H _ I h) λu e (x,H1,r,j,l)=>cf (hi b e Z H1 _ r l) λB s2 (y,t,d,f,a,v,ex,g,k)=>?_);subst ex;obtain rfl:u=Value.ref a:=j;exact(Ab d g,F2 m d g f λw z q c=>(v,t,q,c,k))
def Ij(k:X.A.units+1<cLine)(hi:PE X i ty)(l:PE X o td):PC X .In i o (Tz ty td):=by
 intro b s Z H Q I h;refine cf (hi b s Z H _ I h) λt c (y,H1,p,d,j)=>cf (l b c Z H1 _ p j) λu s2 (x,q,n,e,a,ov,ex,g,f)=>?_;subst ex;obtain rfl:u=Value.ref a:=e;exact Xh k n g d λr m=>(.bl ov.isSome,q,m,rfl,f)
def kM(n:X.A.units+1<cLine)(q:PE X o td)(hi:PE X i ty)(m:PE X value tv)(p:swapsWith value (J (.Subscript o i pos')) pos.line X.env=pure false):
 PS X (.Assign [.Subscript o i pos'] value pos) (Om td ty tv):=by
 intro b s Z H D I h;refine wpAny_Assign_Subscript (cf (m b s Z H _ I h) λr c (v,H1,B,f,l)=>cf (q b c Z H1 _ B l) λu s2 (x,E,z,e,k)=>cf (hi b s2 Z E _ z k) λB1 Cv (y,K,w,d,a,C,ex,g,j)=>?_) p;subst ex;obtain rfl:u=Value.ref a:=e;exact F1 n w g d f λF t=>(Z,C,t,j)
end
theorem Kj(h:Heap)(a:sysModules<h.objs.size):ObjOk P w H (h.push {cls:=.type "dict",data:=.dict #[]}) h.objs.size (.dT []):=
 (YM _,Yv.mpr (YS (X4 a)),[],.nil,_,#[],0,XU _ rfl,(rfl,rfl,rfl),rfl,rfl,YF)
def GK:TE:=λ_ H Q=>∀p,H p=G->Q (.ref p) (upd H p (.dT []))
section
variable{X:Cx}{pos:Pos}
theorem j9:PE X (.Dict [] [] pos) GK:=λb s Z H Q I h=>
 wpAny_Dict_empty (.ref s.heap.objs.size,_,I.laid (a:=s.heap.objs.size) (o:=.dT []) (t':=s.toks) (λ_ _ q=>XB _ q) (XH _) (Kj s.heap I.big),rfl,h _ (I.hok.fresh (XH _)))
end
structure M2 (X:Cx) (o:Expr) (m:Str) (apos:Pos) (e f:Expr) (cpos:Pos):Prop where
 base:attributeBase o m X.env (eval o X.env)=eval o X.env
 few:((backTo cpos (starEach [e,f] X.env)).all (λx=>!x.1)&&(backToKw cpos (keywordEach [] X.env)).all (λx=>x.1.isSome)
  && decide (([e,f]:L Expr).length+([]:L Keyword).length+(if ([]:L Keyword).isEmpty then 0 else 1)<30))=true
 line:(apos.endLine==cpos.line)=true
 trees:backTo cpos (starEach [e,f] X.env)=[(false,eval e X.env),(false,eval f X.env)]
def WX(H:Hp)(a:Addr):Prop:=(∃b,Rd H a (.dK b))\/∃b,Rd H a (.dT b)
def RT{X:Cx}{s:Shared}(I:Inv X c Z H s)(d:WX H a):
 s.TypeIs (.ref a) "dict" /\ (∀b,Value.ref a=.ref b->∃ob,s.heap.get? b=J ob/\ob.dict=G)/\(a==sysModules)=false:=by
 rcases d with ⟨f,e⟩|⟨f,e⟩
 .let(_,hd,vs,_,dd):=wg I.hok e;refine(dd.typeIs,λb q=>?_,hd);cases q;let(ob,_,_,h,g,_):=dd;exact(ob,h,g.2.1)
 .let(_,hd,xs,_,dd):=wc I.hok e;refine(dd.typeIs,λb q=>?_,hd);cases q;let(ob,_,_,h,g,_):=dd;exact(ob,h,g.2.1)
section
variable{X:Cx}{pins:L1}{Z:St}{H:Hp}{s:Shared}{a:Addr}{y d:V}{u r:Value}{o:Option V}{A:Around}{E:L3}
def Sf{Q:L3}(n:A.units+1<cLine)(I:Inv X pins Z H s)(g:DGet H a y o)(m:RelV y u)(rd:RelV d r)(h:∀j s',Inv X pins Z H s'->RelV (o.getD d) j->Q j s'):
 wpAny (model X.prog X.w) A (call (.builtin "dict.get") [.ref a,u,r]) Q E s:=by
 rcases g with ⟨f,k,e,i,l⟩|⟨f,k,b,e,i,p,l⟩
 .subst i;let(z,hd,vs,c,dd):=wg I.hok e;refine call_meetsIn ZO dd.typeIs Ac7 (Ac3 _ _ _) (meets_dict_get_default (cN X.prog X.w) a (zL m) hd r) (_,dd.mapOf,h _ _ (I.tok _) ?_);rw[l];exact(c.val k).getD rd
 .subst i;cases(show u=Value.ref b from m);let(z,hd,xs,c,dd):=wc I.hok e;refine call_meetsIn ZO dd.typeIs Ac7 (Ac3 _ _ _) (meetsH_dict_get_default (tupleKind (cN X.prog X.w)) a b hd r) (ZB n,k,xs,qo I.hok p,dd,h _ _ (I.tok _) ?_);rw[l];exact(c.val k).getD rd
end
def GL(d ty c:TE):TE:=λZ H Q=>d Z H λx H1=>∃a,x=.ref a/\WX H1 a/\ty Z H1 λy e=>c Z e λz b=>∃o,DGet b a y o/\Q (o.getD z) b
section
variable{X:Cx}{o e f:Expr}{apos cpos:Pos}{td ty tx:TE}
def Ih(w:X.A.units+1<cLine)(B:PE X o td)(D:PE X e ty)(C:PE X f tx)(m:M2 X o "get" apos e f cpos):PE X (.Call (.Attribute o "get" apos) [e,f] [] cpos) (GL td ty tx):=by
 intro b s Z H Q I h;refine wpAny_Call_method m.base m.few m.line PySem.F.plainAttrs_dict ZO PySem.F.type_dict_get (cf (B b s Z H _ I h) λu l (x,H1,i,q,a,ex,d,v)=>?_);subst ex;obtain rfl:u=Value.ref a:=q;let(k,j,_):=RT i d;refine(k,j,?_);rw[m.trees]
 refine Calls.callWith_builtin rfl (Zq (Aa5 (cf (D b l Z H1 _ i v) λP s2 (y,I0,B1,p,t)=>
  Aa5 (cf (C b s2 Z I0 _ B1 t) λR O (z,K,Cv,n,ov,g,r)=>Calls.spliced_nil ?_))))
 exact Sf w Cv g p n λM N E c=>(_,K,E,c,r)
end
end L2
namespace HT
open PySem PyProof.Rows
def cU:L Int->L Int->Bool
 |[],[]=>false
 |[],_::_=>true
 |_::_,[]=>false
 |x::xs,y::ys=>if x=y then cU xs ys else decide (x<y)
theorem dI(x y:Int)(xs ys:L Int):cU (x::xs) (y::ys)=if x=y then cU xs ys else decide (x<y):=rfl
theorem tE(y:Int)(ys:L Int):cU [] (y::ys)=true:=rfl
theorem tF(x:Int)(xs:L Int):cU (x::xs) []=false:=rfl
section
variable{prog:Program}{w:World}{A:Around}{E:L3}{s:Shared}
def yF(n d:Nat):Option Int->Nat
 |none=>d
 |some v=>if v<0 then (v+(n:Int)).toNat else min v.toNat n
theorem y8(n d:Nat):yF n d G=d:=rfl
end
end HT
namespace L2
open PySem PySem.Spec PyProof.Rows
abbrev TO:=St->Hp->(Option Int->Hp->Prop)->Prop
def PO(X:Cx)(e:Option Expr)(t:TO):Prop:=
 ∀(a:L1) (s:Shared) (Z:St) (H:Hp) (Q:Option Int->Hp->Prop),Inv X a Z H s->t Z H Q->
  j1 X (evalPart e X.env) (λu s'=>∃o H',Inv X a Z H' s'/\IsPart u o/\Q o H') X.xe s
def oA:TO:=λ_ H Q=>Q G H
def yO(t:TE):TO:=λZ H Q=>t Z H λx H1=>∃i,x=.int i/\Q (J i) H1
def tN{ns:L Int}:∀{us:L Value},Vals (ns.map V.int) us->IntsAre us ns:=by
 induction ns with
 |nil=>intro us r;rw[YA]at r;cases r;exact .nil
 |cons n ns c=>
   intro us r;rw[Xz]at r;cases r with
   |cons b a=>
     let(t,e):=b;subst e;exact .cons n t (c a)
section
variable{X:Cx}{e:Expr}{te:TE}{lo hi:Option Expr}{tl th:TO}{pos p2:Pos}
def fT:PO X G oA:=by
 intro a s Z H Q I h;rw[evalPart_none];exact XQ (G,H,I,.none,h)
def fS(h:PE X e te):PO X (J e) (yO te):=by
 intro a s Z H Q I d;rw[evalPart_some];refine cf (h a s Z H _ I d) λu g (x,H1,f,b,c)=>?_;let(i,rfl,q):=c;let(t,rfl):=b;exact(J i,H1,f,.int i t,q)
def WU(X:Cx)(r:V->Option Int->Option Int->Hp->VK->Prop):Prop:=
 ∀(a:L1) (s:Shared) (Z:St) (H:Hp) (x:V) (v c b:Value) (lo hi:Option Int) (sl:Addr) (Q:VK),Inv X a Z H s->RelV x v->s.heap.IsSliceOf sl c b .none->IsPart c lo->IsPart b hi->r x lo hi H Q->
  ∃T id,typeLookup (.type T) "__getitem__" = pure (J (.builtin id))/\s.TypeIs v T/\j1 X (getItem v (.ref sl)) (EP X a Z Q) X.xe s
def Tt(r:V->Option Int->Option Int->Hp->VK->Prop)(te:TE)(tl th:TO):TE:=λZ H Q=>te Z H λx H1=>tl Z H1 λl b=>th Z b λu a=>r x l u a Q
def dU(y:WU X r)(C:PE X e te)(z:PO X lo tl)(p:PO X hi th):PE X (.Subscript e (.Slice lo hi G p2) pos) (Tt r te tl th):=by
 intro a s Z H Q I h;refine Subscript_ (cf (C a s Z H _ I h) λv i (x,H1,B1,j,n)=>?_);refine wpAny_Slice (cf (z a i Z H1 _ B1 n) λf s2 (l,K,Cv,pl,m)=>cf (p a s2 Z K _ Cv m) λd c (u,g,F,o,k)=>?_);rw[evalPart_none];refine wpAny_pure ?_;have E:Inv X a Z g {c with heap:=c.heap.push {cls:=.type "slice",data:=.fields #[f,d,.none]}}:=F.kept (t':=c.toks) λb ob q=>Heap.get?_push_of_some _ q;let(T,id,D,t,B):=y a {c with heap:=c.heap.push {cls:=.type "slice",data:=.fields #[f,d,.none]}} Z g x v f d l u c.heap.objs.size Q E j (Heap.IsSliceOf.new ..) pl o k;show j1 X (subscriptTail e (.Slice lo hi G p2) v (.ref c.heap.objs.size)) (EP X a Z Q) X.xe {c with heap:=c.heap.push {cls:=.type "slice",data:=.fields #[f,d,.none]}};exact tail_any (ops:=[.ref c.heap.objs.size,v]) t D B (by with_unfolding_all rfl)
def Af(xs:L V)(lo hi:Option Int):L V:=(xs.drop (HT.yF xs.length 0 lo)).take (HT.yF xs.length xs.length hi-HT.yF xs.length 0 lo)
def Ae(xs:L V)(lo hi:Option Int):(Af xs lo hi).length<=xs.length:=by
 ext Af;rw[List.length_take,List.length_drop];omega
end
def JT(n:Nat)(i:Int):Option Nat:=if 0<=i then (if i<n then J i.toNat else G) else if -(n:Int)<=i then J (i+n).toNat else G
def jq{W:Type}(xs:L W)(i:Int):Option W:=(JT xs.length i).bind λj=>xs[j]?
def DL(h:JT n i=J j):seqIndex? i n=J j/\j<n/\-(n:Int)<=i/\i<n:=by
 unfold JT at h;by_cases h0:0<=i
 · rw[Xx h0]at h;by_cases a:i<n
   .rw[Xx a]at h;have e:i.toNat=j:=Yc h;exact(by rw[seqIndex_of h0 a,e],∅,∅,a)
   .rw[Xy a]at h;cases h
 · rw[Xy h0]at h;by_cases a:-(n:Int)<=i
   .rw[Xx a]at h;have e:(i+n).toNat=j:=Yc h;exact(by rw[seqIndex_neg ∅ a,e],∅,a,by omega)
   .rw[Xy a]at h;cases h
def yx{xs:L W}(h:jq xs i=J v):∃j,seqIndex? i xs.length=J j/\xs[j]?=J v/\j<xs.length/\-(xs.length:Int)<=i/\i<xs.length:=by
 unfold jq at h;cases e:JT xs.length i with
 |none=>rw[e]at h;cases h
 |some j=>
   rw[e]at h;let(d,c,b,a):=DL e;exact(j,d,h,c,b,a)
def AO(xs:L W)(v:W):jq (xs++[v]) (-1)=J v:=by
 have a:(xs++[v]).length=xs.length+1:=by simp
 have e:JT (xs++[v]).length (-1)=J xs.length:=by
  ext JT;rw[a,if_neg (),if_pos ∅];congr 1;omega
 ext jq;rw[e];show(xs++[v])[xs.length]?=J v;simp
def NV(b:Expr):Prop:=∀o i,subscripted b false o i=operate [o,i] (getItem o i)
def Tl(X:Cx)(r:R2):Prop:=
 ∀(c a:Expr) (b:L1) (s:Shared) (Z:St) (H:Hp) (x y:V) (v u:Value) (Q:VK),Inv X b Z H s->RelV x v->RelV y u->r x y H Q->
  subscripted a false v u=operate [v,u] (getItem v u)->j1 X (subscriptTail c a v u) (EP X b Z Q) X.xe s
def Td(X:Cx)(id:String)(r:V->L V->Hp->VK->Prop):Prop:=
 ∀(a:L1) (s:Shared) (Z:St) (H:Hp) (x:V) (xs:L V) (v:Value) (us:L Value) (Q:VK),Inv X a Z H s->RelV x v->Vals xs us->r x xs H Q->
  j1 X (call (.builtin id) (v::us)) (EP X a Z Q) X.xe s
section
variable{X:Cx}{a b:Expr}{ta tb:TE}{pos:Pos}
def cC(g:Tl X r)(j:PE X a ta)(i:PE X b tb)(f:NV b):PE X (.Subscript a b pos) (LH r ta tb):=by
 intro c s Z H Q I h;exact Subscript_ (SW j i I h λv u s2 x y l k e d q=>g a b c s2 Z l x y v u Q k e d q (f _ _))
def Qr(K:L0):R2:=λx y H Q=>∃p xs i v,x=.ref p/\y=.int i/\SqL K H p xs/\jq xs i=J v/\Q v H
def Qq(K:L0):R2:=λx y H Q=>∃p xs i v,x=.ref p/\y=.int i/\SqT K H p xs/\jq xs i=J v/\Q v H
def Ud:R2:=λx y H Q=>∃z i c,x=.str z/\y=.int i/\z.length<=sizeLine/\jq z.cps.toList i=J c/\Q (.str ⟨#[c]⟩) H
def Nh:Tl X (Qr X.K):=by
 intro d e a s Z H x y v u Q I n m h k;let(p,xs,i,z,rfl,rfl,o,B,q):=h;cases n;let(t,rfl):=m;let(its,r,pl,F):=I.list o;let(j,c,E,B1,D,C):=yx B;let(w,l,f):=r.get E;have A:=r.length;have Cv:=tD;have b:EP X a Z Q w s:=(z,H,I,f,q);by_cases h0:0<=i
 · have g:i.toNat=j:=by
    rw[seqIndex_of h0 C]at c;exact Yc c
   exact item_listR pl.isList h0 ∅ (by rw[g];simpa using l) b k
 · have g:(i+(its.toArray.size:Int)).toNat=j:=by
    rw[seqIndex_neg ∅ D]at c;rw[XN,<-A];exact Yc c
   exact subscriptTail_builtinR (x:=w) pl.isList.typeIs slot_list_getitem.lookup
    (wpAny_getItem_list_neg (Q:=λr s'=>r=w/\EP X a Z Q r s') pl.isList ∅ (by rw[XN]<;>omega) ∅ (by rw[g];simpa using l) (rfl,b)) k
def RP:Tl X (Qq X.K):=by
 intro b c a s Z H x y v u Q I g f h k;let(p,xs,i,z,rfl,rfl,l,n,q):=h;cases g;let(t,rfl):=f;let(its,r,pl,C):=I.tuple l;let(j,A,o,Cv,F,E):=yx n;let(w,B,d):=r.get o;have m:=r.length;have D:=tD;have e:EP X a Z Q w s:=(z,H,I,d,q)
 exact subscriptTail_builtinR (x:=w) pl.typeIs slot_tuple_getitem.lookup
  (getItem_tuple (j:=j) (Q:=λr s'=>r=w/\EP X a Z Q r s') pl ∅ ∅ (by rw[XN,<-m];exact A) (by simpa using B) (rfl,e)) k
def RQ:Tl X Ud:=by
 intro a b d s Z H x y v u Q I g f h k;let(z,i,c,rfl,rfl,A,m,q):=h;let(t,rfl):=g;let(t',rfl):=f;let(j,e,p,C,o,n):=yx m;have l:z.cps.toList.length=z.length:=by simp[Str.length]
 rw[l]at e o n;have B:=tD
 exact tail_any (Aa6 s z t) slot_str_getitem.lookup (getItem_str (c:=c) (by
  have w:decide (i < -(2 ^ 63:Int))=false:=X6 ∅;have r:decide (i>=2 ^ 63)=false:=X6 ∅
  rw[w,r,Bool.or_false]) (by rw[e];simpa using p) (.str ⟨#[c]⟩,H,I.tok _,(_,rfl),q)) k
def wL(lo hi:Option Int)(n:Nat):(sliceBounds lo hi G n).1=((HT.yF n 0 lo:Nat):Int)/\(sliceBounds lo hi G n).2.1=((HT.yF n n hi:Nat):Int)/\(sliceBounds lo hi G n).2.2=1:=by
 refine(?_,?_,rfl)
 · cases lo with
   |none=>simp[sliceBounds,HT.yF]
   |some i=>
     simp only[sliceBounds,HT.yF,Option.getD_none,show(1:Int)>0 by decide,if_true];by_cases h:i<0
     .simp only[h,if_true]<;>omega
     .simp only[h,Z1]<;>omega
 · cases hi with
   |none=>simp[sliceBounds,HT.yF]
   |some i=>
     simp only[sliceBounds,HT.yF,Option.getD_none,show(1:Int)>0 by decide,if_true];by_cases h:i<0
     .simp only[h,if_true]<;>omega
     .simp only[h,Z1]<;>omega
def uS(its:L Value)(lo hi:Option Int):slicePick its.toArray lo hi G=((its.drop (HT.yF its.length 0 lo)).take (HT.yF its.length its.length hi-HT.yF its.length 0 lo)).toArray:=by
 let(c,b,a):=wL lo hi its.toArray.size;ext slicePick;rw[c,b,a];simp only[sliceRange_one,pick_run,List.size_toArray]<;>rfl
def MC(K:L0):V->Option Int->Option Int->Hp->VK->Prop:=λx lo hi H Q=>∃a xs,x=.ref a/\SqL K H a xs/\∀p,H p=G->Q (.ref p) (upd H p (.lst (Af xs lo hi)))
def Ml:WU X (MC X.K):=by
 intro d s Z H x v m l lo hi sl Q I f k pl g h;let(a,xs,rfl,j,q):=h;cases f;let(its,r,e,i):=I.list j;have c:=r.length;refine("list",_,slot_list_getitem.lookup,e.isList.typeIs,?_);refine wpAny_getItem_list_slice e.isList k pl g .none () ?_ (by rw[XN]<;>omega);rw[uS,<-c];refine(.ref s.heap.objs.size,_,I.laid (t':=s.toks) (o:=.lst (Af xs lo hi)) (λb ob q=>XB _ q) (XH _) ?_,rfl,q _ (I.hok.fresh (XH _)));exact(Yw (Ae xs lo hi) i,_,0,(r.drop (HT.yF xs.length 0 lo)).take (HT.yF xs.length xs.length hi-HT.yF xs.length 0 lo),XU _ rfl)
def yw:fP X (.builtin "len") (λxs H Q=>∃p ys,xs=[.ref p]/\(SqL X.K H p ys\/SqT X.K H p ys)/\Q (.int ys.length) H):=by
 intro d s Z H xs us Q I r h;let(p,ys,rfl,b,q):=h;let(u,rfl,e):=lM r;cases e;have g:=tD;rcases b with b|b
 .let(its,c,pl,f):=I.list b;have a:=c.length;exact Calls.call_len_list pl.isList (by simp only[XN]<;>omega) (.int ys.length,H,I.tok _,(s.toks+1,by rw[XN,a]),q)
 .let(its,c,pl,f):=I.tuple b;have a:=c.length;exact len_tuple pl (by simp only[XN]<;>omega) (.int ys.length,H,I.tok _,(s.toks+1,by rw[XN,a]),q)
def pN:fP X (.builtin "len") (λxs H Q=>∃z,xs=[.str z]/\z.length<=sizeLine/\Q (.int z.length) H):=by
 intro a s Z H xs us Q I r h;let(z,rfl,b,q):=h;let(u,rfl,t,rfl):=lM r;have c:=tD;exact len_str ∅ (.int z.length,H,I.tok _,(_,rfl),q)
def yu:fP X (.type "list") (λxs H Q=>∃p ys,xs=[.ref p]/\(SqL X.K H p ys\/SqT X.K H p ys)/\∀l,H l=G->Q (.ref l) (upd H l (.lst ys))):=by
 intro c s Z H xs us Q I r h;let(p,ys,rfl,f,q):=h;let(u,rfl,m):=lM r;cases m
 have i:∀(its:L Value),Vals ys its->ys.length<=sizeLine->∀(h':Heap) (c':Nat),(∀b o',s.heap.get? b=J o'->h'.get? b=J o')->
  h'.get? s.heap.objs.size=J {cls:=.type "list",dict:=G,data:=.seq its.toArray c',slots:=#[]}->EP X c Z Q (.ref s.heap.objs.size) {s with heap:=h'}:=λits a d h' c' kp e=>
  (.ref s.heap.objs.size,_,I.laid (t':=s.toks) kp (XH _) (show ObjOk X.prog X.w _ h' _ (.lst ys) from(d,its,c',a,e)),rfl,q _ (I.hok.fresh (XH _)))
 rcases f with f|f
 .let(its,a,pl,d):=I.list f;have g:=a.length;let(o,j,k,n,hd):=pl.isList;exact call_list_seq p (.inl rfl) j k hd (λh' c' kp e=>i its a d h' c' kp e) (by simp only[XN]<;>omega)
 .let(its,a,pl,d):=I.tuple f;have g:=a.length;let(o,j,k,n,hd):=pl;exact call_list_seq p (.inr rfl) j k hd (λh' c' kp e=>i its a d h' c' kp e) (by simp only[XN]<;>omega)
def u3:fP X (.type "tuple") (λxs H Q=>∃p ys,xs=[.ref p]/\((SqL X.K H p ys/\∀l,H l=G->Q (.ref l) (upd H l (.tup ys)))\/(SqT X.K H p ys/\Q (.ref p) H))):=by
 intro a s Z H xs us Q I r h;let(p,ys,rfl,h):=h;let(u,rfl,j):=lM r;cases j;rcases h with ⟨d,q⟩|⟨d,q⟩
 · let(its,c,pl,f):=I.list d;have g:=c.length;refine call_tuple_list pl.isList (λh' kp=>?_) (by simp only[XN]<;>omega);have i:Inv X a Z H {s with heap:=h'}:=I.kept (t':=s.toks) kp
   have k:Inv X a Z (upd H h'.objs.size (.tup ys)) {s with heap:=h'.push {cls:=.type "tuple",data:=.seq its.toArray}}:=
    i.laid (t':=s.toks) (λb o e=>XB _ e) (XH _) (show ObjOk X.prog X.w _ _ _ (.tup ys) from(f,its,c,IsTup.new _ _))
   exact(.ref h'.objs.size,_,k,rfl,q _ (i.hok.fresh (XH _)))
 .let(its,c,pl,f):=I.tuple d;exact call_tuple_same pl (.ref p,H,I,rfl,q)
def tyV(K:L0)(T:String)(x:V)(H:Hp):Prop:=match x with
 |.str _=>T = "str"
 |.int _=>T = "int"
 | .ref p=>(T = "list" /\ ∃xs,SqL K H p xs)\/(T = "tuple" /\ ∃o,K.lookup p=J o/\o.cls=.type "tuple" /\ o.dict=G)\/
    (T = "dict" /\ ((∃a,H p=J (.dK a))\/∃a,H p=J (.dT a)))\/(T = "set" /\ ∃S n,H p=J (.set S n))
 |_=>False
def Pn{s:Shared}(I:Inv X d Z H s)(r:RelV x v)(ty:tyV X.K T x H):
 s.TypeIs v T/\∀a,v=.ref a->∃ob,s.heap.get? a=J ob/\ob.dict=none:=by
 cases x with
 |str z=>
   let(t,rfl):=r;cases(show T = "str" from ty);exact(Aa6 s z t,λ_ e=>nomatch e)
 |int i=>
   let(t,rfl):=r;cases(show T = "int" from ty);exact(typeIs_int s i t,λ_ e=>nomatch e)
 |ref p=>
   cases r;rcases ty with ⟨rfl,xs,h⟩|⟨rfl,o,b,j,hd⟩|⟨rfl,b⟩|⟨rfl,S,n,b⟩
   .let(its,_,pl,_):=I.list h;refine(pl.isList.typeIs,λa e=>?_);cases e;let(o,n,e,c,hd,_):=pl;exact(o,e,hd)
   .refine((o,I.kIn p o b,j),λa e=>?_);cases e;exact(o,I.kIn _ o b,hd)
   · have z:∃o,s.heap.get? p=J o/\o.ExactDict:=by
      rcases b with ⟨f,b⟩|⟨f,b⟩
      .let(_,_,_,_,o,_,_,e,ex,_):=I.hok p _ b;exact(o,e,ex)
      .let(_,_,_,_,o,_,_,e,ex,_):=I.hok p _ b;exact(o,e,ex)
     let(o,e,ex):=z;refine((o,e,ex.1),λa g=>?_);cases g;exact(o,e,ex.2.1)
   .let(o,_,_,_,e,ex,_):=I.hok p _ b;refine((o,e,ex.1),λa g=>?_);cases g;exact(o,e,ex.2.1)
 |_=>exact False.elim ty
def Fe(K:L0)(T:String)(r:V->L V->Hp->VK->Prop)(to:TE)(t:TA):TE:=λZ H Q=>to Z H λx H1=>tyV K T x H1/\t Z H1 λxs a=>r x xs a Q
variable{o e:Expr}{es:L Expr}{to:TE}{t:TA}{name:Str}{apos cpos:Pos}{T id:String}{r:V->L V->Hp->VK->Prop}
def gm(q:PlainAttrs T)(slot:Slot T name id)(g:typeOf (.builtin id)=pure (.type "method_descriptor"))(y:Td X id r)(w:PE X o to)(z:PA X (e::es) t)
 (d:attributeBase o name X.env (eval o X.env)=eval o X.env:=by rfl)
 (f:((backTo cpos (starEach (e::es) X.env)).all (λx=>!x.1)&&(backToKw cpos (keywordEach [] X.env)).all (λx=>x.1.isSome)
   && decide ((e::es).length+([]:L Keyword).length+(if ([]:L Keyword).isEmpty then 0 else 1)<30))=true:=by rfl)
 (c:(apos.endLine==cpos.line)=true:=by rfl) (u:starEach (e::es) X.env=(false,eval e X.env)::starEach es X.env:=by rfl) (b:(backTo cpos (starEach es X.env)).any (·.1)=false:=by rfl):
 PE X (.Call (.Attribute o name apos) (e::es) [] cpos) (Fe X.K T r to t):=by
 intro a s Z H Q I h;refine wpAny_Call_method_late d f c rfl (cf (w a s Z H _ I h) λv l (x,H1,k,i,ty,p)=>?_);let(B,A):=Pn k i ty;refine(T,id,q,slot,g,B,A,?_);have j:=z cpos a l Z H1 _ k p;rw[u]at j ⊢;refine Calls.callWith_builtin (by show(false||(backTo cpos (starEach es X.env)).any (·.1))=false;rw[b]<;>rfl) (Zq ?_);exact cf j λus s2 (vs,D,C,m,n)=>y a s2 Z D x vs v us Q C i m n
end
def Xn(X:Cx)(id:String)(r:V->L V->Hp->VK->Prop):Prop:=
 ∀(a:L1) (s:Shared) (Z:St) (H:Hp) (x:V) (xs:L V) (v:Value) (us:L Value) (Q:VK),Inv X a Z H s->RelV x v->Vals xs us->r x xs H Q->
  j1 X (call (.builtin id) (v::us)) (EP X a Z Q) X.xe s
theorem Vals.one:∀{x:V} {us:L Value},Vals [x] us->∃u,us=[u]/\RelV x u
 |_,_,.cons r .nil=>(_,rfl,r)
theorem Vals.eraseIdx:∀{xs:L V} {us:L Value} (i:Nat),Vals xs us->Vals (xs.eraseIdx i) (us.eraseIdx i)
 |_,_,_,.nil=>.nil
 |_,_,0,.cons _ t=>t
 |_,_,i+1,.cons r t=>.cons r (Vals.eraseIdx i t)
theorem vT{W:Type}:∀(l:L W) (i:Nat),(l.eraseIdx i).length<=l.length
 |[],_=>XH _
 |_::_,0=>Nat.le_succ _
 |_::r,i+1=>Nat.succ_le_succ (vT r i)
section
variable{X:Cx}{pins:L1}{Z:St}{H:Hp}{s:Shared}{l b:Addr}{xs ys zs:L V}
def Inv.lset{its its':L Value}{f:Array Value->Array Value}(I:Inv X pins Z H s)(h:H l=J (.lst xs))
 (e:s.heap.get? l=J {cls:=.type "list",data:=.seq its.toArray n}) (d:f its.toArray=its'.toArray) (b:Vals ys its') (a:ys.length<=sizeLine):
 Inv X pins Z (upd H l (.lst ys)) {s with heap:=s.heap.update l (Obj.mapSeq f),toks:=t'}:=by
 have q:=PySem.IsL.update e f;rw[d]at q;refine I.write (x:=l) (e:=l) (by rw[h];exact trivial) (.inl rfl) (λi u g c=>(X3 s.heap (Obj.mapSeq f) (YS g)).trans c) (_,q) ?_;exact(a,its',_,b,q)
theorem Inv.lnew{its:L Value}(I:Inv X pins Z H s)(b:Vals ys its)(a:ys.length<=sizeLine):
 Inv X pins Z (upd H s.heap.objs.size (.lst ys)) {s with heap:=s.heap.push {cls:=.type "list",data:=.seq its.toArray},toks:=t'}:=
 I.laid (λ_ _ q=>XB _ q) (XH _) (a,its,0,b,XU _ rfl)
theorem Inv.fresh(I:Inv X pins Z H s):H s.heap.objs.size=none:=I.hok.fresh (XH _)
def Inv.lstM(I:Inv X pins Z H s)(a:H l=J (.lst xs)):xs.length<=sizeLine/\∃(its:L Value) (n:Nat),Vals xs its/\xs.length=its.length/\s.heap.get? l=J {cls:=.type "list",data:=.seq its.toArray n}:=by
 let(z,its,n,r,e):=I.hok l _ a;exact(z,its,n,r,r.length,e)
def IG(h:n<=sizeLine):Builtin.List.listTooLong n=false:=by
 ext Builtin.List.listTooLong;exact decide_eq_false ∅
end
section
variable{X:Cx}
def wW:V->L V->Hp->VK->Prop:=λx vs H Q=>∃l xs y,x=.ref l/\vs=[y]/\H l=J (.lst xs)/\xs.length<sizeLine/\Q .non (upd H l (.lst (xs++[y])))
def cH:Xn X "list.append" wW:=by
 intro a s Z H x vs v us Q I c d h;let(l,xs,y,rfl,rfl,b,g,q):=h;cases c;let(u,rfl,f):=d.one;let(z,its,n,r,i,e):=I.lstM b;refine Aa7 F.slot_list_append (_,e,rfl) F.entry_list_append (F.args_list_append_2 _ _) (PySem.list_append l its.toArray n u (by rw[XN];omega)) (e,?_);refine(.non,_,I.lset (its':=its++[u]) b e () (r.append (.cons f .nil)) ?_,rfl,q);rw[XF,Y4];omega
def Do:V->L V->Hp->VK->Prop:=λx vs H Q=>∃l b xs a,x=.ref l/\vs=[.ref b]/\H l=J (.lst xs)/\H b=J (.lst a)/\xs.length+a.length<=sizeLine/\Q .non (upd H l (.lst (xs++a)))
def iT:Xn X "list.extend" Do:=by
 intro d s Z H x vs v us Q I g i h;let(l,b,xs,w,rfl,rfl,f,p,A,q):=h;cases g;let(u,rfl,j):=i.one;cases j;let(z,its,n,r,B,e):=I.lstM f;let(y,a,m,k,o,t):=I.lstM p;have hsz:its.toArray.size+a.toArray.size<=sizeLine:=by rw[XN,XN];omega
 have c:¬ (!its.toArray.isEmpty&&Builtin.List.listTooLong (its.toArray.size+a.toArray.size))=true:=by
  rw[IG hsz,Bool.and_false];exact XO
 refine Aa7 F.slot_list_extend (_,e,rfl) F.entry_list_extend (F.args_list_extend_2 _ _)
  (AutoSeq1.list_extend_list_list_0 l its.toArray n b a.toArray m c (by rw[XN];omega) ∅) (e,t,?_)
 refine(.non,_,I.lset (its':=its++a) f e () (r.append k) ?_,rfl,q);rw[XF];omega
def HN:V->L V->Hp->VK->Prop:=λx vs H Q=>∃l xs i k y,x=.ref l/\vs=[.int i]/\H l=J (.lst xs)/\-(2 ^ 63)<=i/\i<2 ^ 63/\seqIndex? i xs.length=J k/\xs[k]?=J y/\Q y (upd H l (.lst (xs.eraseIdx k)))
def IN:Xn X "list.pop" HN:=by
 intro b s Z H x vs v us Q I d f h;let(l,xs,i,k,y,rfl,rfl,c,B,A,p,j,q):=h;cases d;let(u,rfl,g):=f.one;let(t,rfl):=g;let(z,its,n,r,o,e):=I.lstM c;let(w,m,a):=r.get j
 refine Aa7 F.slot_list_pop (_,e,rfl) F.entry_list_pop (F.args_list_pop_2 _ _)
  (MeetsSeq.list_pop_at l its.toArray n i t k w (fitsIndex_both B A) (by rw[XN,<-o];exact p) (by rw[<-YJ];exact m) (by rw[XN];omega)) (e,?_)
 refine(y,_,I.lset (its':=its.eraseIdx k) c e ?_ (r.eraseIdx k) ?_,a,q)
 .show its.toArray.eraseIdxIfInBounds k=(its.eraseIdx k).toArray;rw[List.eraseIdxIfInBounds_toArray]
 · have:=vT xs k
   omega
def HR:R2:=λx y H Q=>∃l b xs a,x=.ref l/\y=.ref b/\H l=J (.lst xs)/\H b=J (.lst a)/\xs.length+a.length<=sizeLine/\∀p,H p=G->Q (.ref p) (upd H p (.lst (xs++a)))
def cZ:rG X (binaryOp .Add) HR:=by
 intro c s Z H x y v u Q I f d h;let(l,b,xs,p,rfl,rfl,j,k,A,q):=h;cases f;cases d;let(z,its,n,r,B,e):=I.lstM j;let(t,a,w,g,i,o):=I.lstM k;refine PySem.P.add_list e o ?_ (by rw[XN,XN];omega);have m:its.toArray++a.toArray=(its++a).toArray:=by simp
 rw[m];exact(.ref _,_,I.lnew (t':=s.toks) (r.append g) (by rw[XF];omega),rfl,q _ I.fresh)
end
end L2
namespace Att
open PySem PySem.W PySem.Calls PyProof.Rows
def rK:∀(ns:L Int) (vs:L Value),WellAll P h vs (ns.map WData.int)->IntsAre vs ns:=by
 intro ns
 induction ns with
 |nil=>
   intro vs w;rw[YA]at w;cases w;exact .nil
 |cons n ns c=>
   intro vs w;rw[Xz]at w;cases w with
   |cons a b=>
     cases a;exact .cons _ _ (c _ b)
def Fo{l:OpenLaw}(u:l.most=J n){h:Heap}
 (c:l.row.toRowW.claim.pre args=true) (j:WellAll P h b args):
 ∃a vs ns,b=[Value.ref a]/\args=[WData.list (ns.map WData.int)]/\h.get? a=J {cls:=.type "list",data:=.seq vs.toArray}/\IntsAre vs ns/\ns.length<=n:=by
 have k:WShape.hasAll [] args [.list .int]=true:=(pre_splitW c).1;have m:l.pre.holds [] {args:=args}=true:=(pre_splitW c).2;let(d,r,rfl,x,w):=hasAllW_cons k;obtain rfl:=hasAllW_nil w;let(xs,rfl,v):=hasW_list x;let(ns,rfl):=items_int v
 have e:ns.length<=n:=by
  unfold OpenLaw.pre at m
  have i:(WTm.not (.lt (.lit (.int (n:Int))) (.len (.arg 0)))).holds [] {args:=[.list (ns.map .int)]}=true:=by
   have i:=(holds_andW m).1;rw[u]at i;exact i
  have g:=condW_of i (w_not (w_lt w_lit (w_len_list (w_arg rfl))));rw[Xv]at g;refine Nat.le_of_not_lt λq=>?_;have s:(n:Int)<((ns.length:Nat):Int):=by omega
  first
   |(rw[Yn s]at g;exact absurd g ())
   |(simp at g;omega)
 cases j with
 |cons p o=>
   cases o;cases p with
   |list t f=>exact(_,_,ns,rfl,rfl,t,rK ns _ f,e)
theorem Fz(l:OpenLaw)(args:L WData):l.row.toRowW.claim.post args (.bool true) args=true:=
 postW_of (r:=l.row.toRowW) (X:=(true==true))
  (show WShape.has [] (.bool true) .bool=true by first | rfl | decide | simp[WShape.has,WShape.arms,WShape.armsAll])
  (show(WTm.eq .res (.lit (.bool true))).value [] {args:=args,res:=J (.bool true),after:=args}=J (.bool (true==true)) from w_eq_bool (w_res rfl) w_lit) rfl
def AN{l:OpenLaw}{y:World->Heap->Prop}{d:DefRec}
 (C:l.most=J n) (s:d.params.defaults=[])
 (call:∀(w:World) (s₀ b:Shared) (mg k:Str->Option Value) (j:Addr) (o:Obj) (pm cd e:Value) (a:Addr) (vs:L Value) (ns:L Int),
   Ground q loose [] XP w s₀ mg k b.heap->y w b.heap->
   b.heap.get? j=J o->o.data=.func (docDef d.name d.params d.body d.scope pm cd e)->b.heap.CodeRec cd d.name->mg d.name=J (.ref j)->
   b.heap.get? a=J {cls:=.type "list",data:=.seq vs.toArray}->IntsAre vs ns->ns.length<=n->b.gens=#[]->
   codeAny (model l.prog w) callerA (.call (.ref j) ([.ref a],[])) (λr s'=>r=.ok (.ret (.bool true))/\OldK b.heap s'.heap/\s'.os=b.os/\AllBare s'.gens) b):
 WalkO q loose XP y l.row.toRowW d [] (λf vs=>PySem.call f vs):=by
 intro w s₀ b mg k Cv Y j o pm cd e K kV B hd t x p F args u I0 g v z m E;obtain rfl:K=.none:=Dflts.none x s;obtain rfl:kV=.none:=Dflts.noKw x;let(a,vs,ns,rfl,rfl,h,c,i):=Fo C g m;refine enter_call (ZH (call w s₀ b mg k j o pm cd e a vs ns Cv Y B (fd_plain hd) t p h c i F) λr s' A=>?_);let(rfl,B1,I,H):=A;exact(.inl (.bool true,.bool true,[],rfl,λ_=>rfl,.bool true,Fz l _,λ_=>(List.Pairwise.nil,λ_ D=>(nomatch D))),B1,I,H)
end Att
namespace L2
open PySem PySem.Spec PyProof.Rows
theorem vc:∀{vs:L Value} {ns:L Int},IntsAre vs ns->Vals (ns.map V.int) vs
 |_,_,.nil=>.nil
 |_,_,.cons n t h=>.cons (t,rfl) (vc h)
abbrev Tbs:=L (Addr×Pos×Str)
def Tbs.at(T:Tbs)(b:Addr):L (Pos×Str):=(T.filter λp=>p.1==b).map (·.2)
def Tbs.ok(T:Tbs):Prop:=∀y∈T,∀z∈T,y.2.1.line=z.2.1.line->y.2.1.col=z.2.1.col->y.2.2=z.2.2
def Tbs.mem{T:Tbs}:y∈T.at b↔(b,y)∈T:=by
 ext Tbs.at;simp only[List.mem_map,List.mem_filter,beq_iff_eq];constructor
 .rintro⟨⟨c,x⟩,⟨e,d⟩,a⟩;dsimp only at d a;subst d a;exact e
 .intro h;exact((b,y),(h,rfl),rfl)
def Lx(T:Tbs)(H:Hp):Prop:=(∀p∈T,H p.1=J (.tbl (T.at p.1)))/\∀b,H b=G\/(∃o xs,H b=J (.frz o (.lst xs)))\/H b=J (.tbl (T.at b))
def JP{K:L0}{mg mb:Str->Option Value}{CX:AY}{sp:Sp}{f:Shared}{vs:L Value}{ns:L Int}{T:Tbs}
 (KX:K.In f.heap) (Y:f.heap.Ns mainGlobals mg) (i:f.heap.Ns builtinsNs mb) (hbb:∀x:Str,x ≠ "__name__" -> mb x=bootBuiltins x) (Z:f.heap.NoLimit) (hg:f.gens=#[])
 (hbm:∃bm ob,mg "__builtins__" = J (.ref bm)/\bm≠builtinsNs/\f.heap.get? bm=J ob/\ob.cls=.type "module" /\ ob.dict=J builtinsNs/\ob.data=.plain)
 (hT:∀p∈T,∃c,PySem.W.CodeHd f.heap c p.1/\f.heap.get? p.1=J (PySem.W.tabObj #[])) (hTK:∀p∈T,K.lookup p.1=G) (hTo:T.ok)
 (M:f.heap.get? a=J {cls:=.type "list",data:=.seq vs.toArray}) (hi:IntsAre vs ns) (hl:ns.length<=sizeLine) (hr:Room k callerA)
 (F:∀base:Heap,K.In base->base.Ns mainGlobals mg->(∀c P,PySem.W.CodeHd f.heap c P->PySem.W.CodeHd base c P)->FnOk P w K mg base CX k fa fd [x] sp) (I:∀(s:Shared) (u:Value),BindsTo s fd ([u],[]) [(x,u)])
 (hsp:∀H:Hp,Lx T H->SqL K H a (ns.map V.int)->sp [.ref a] H (λv _=>v=.bl true) λ_ _ _=>False)
 (hCX:∀H e s',CX [] H f (λ_ _ _=>False) e s'->False):
 codeAny (model P w) callerA (.call (.ref fa) ([.ref a],[])) (λr s'=>r=.ok (.ret (.bool true))/\OldK f.heap s'.heap/\s'.os=f.os/\AllBare s'.gens) f:=by
 have rv:=vc hi;have X:=hi.length
 -- from an O heap in which U but the C and the tables may be Q
 have core:∀H:Hp,Lx T H->SqL K H a (ns.map V.int)->HOk P w H f.heap->(∀b,H b≠G->b=a\/∃p∈T,p.1=b)->(H a≠G->K.lookup a=G)->
  codeAny (model P w) callerA (.call (.ref fa) ([.ref a],[])) (λr s'=>r=.ok (.ret (.bool true))/\OldK f.heap s'.heap/\s'.os=f.os/\AllBare s'.gens) f:=by
  intro H hO hS hok hA hK;have g:∀{b:Addr} {o:Obj},f.heap.get? b=J o->H b=G->(tP f.heap H).get? b=J o:=λe n=>JZ e n
  have noB:∀{b:Addr} {o:Obj},f.heap.get? b=J o->o≠{cls:=.type "list",data:=.seq vs.toArray}->o≠PySem.W.tabObj #[]->H b=none:=λ{b o} e N d2=>by
   cases q:H b with
   |none=>rfl
   |some u=>
     rcases hA b (by rw[q];simp) with j | ⟨p,hp,j⟩
     .subst j;rw[M]at e;exact absurd (Yc e).symm N
     .subst j;let(_,_,e2):=hT p hp;rw[e2]at e;exact absurd (Yc e).symm d2
  have noA:∀{b:Addr} {o:Obj} {es:Array DictEntry} {ep:Nat},f.heap.get? b=J o->o.data=.dict es ep->H b=none:=λ{b o es ep} e d=>
   noB e (λz=>by rw[z]at d;cases d) (λz=>by rw[z]at d;cases d)
  have D:∀{b:Addr} {m:Str->Option Value},f.heap.Ns b m->(tP f.heap H).Ns b m:=λ{b m} (o,es,ep,e,d,r)=>(o,es,ep,g e (noA e d),d,r)
  have hKb:K.In (tP f.heap H):=λb o e=>g (KX b o e) (by
   cases q:H b with
   |none=>rfl
   |some u=>
     rcases hA b (by rw[q];simp) with j | ⟨p,hp,j⟩
     .subst j;rw[hK (by rw[q];simp)]at e;cases e
     · subst j
       rw[hTK p hp]at e;cases e)
  have hbm':∃bm ob,mg "__builtins__" = J (.ref bm)/\bm≠builtinsNs/\(tP f.heap H).get? bm=J ob/\ob.cls=.type "module" /\ ob.dict=J builtinsNs/\ob.data=.plain:=by
   let(bm,ob,h1,h2,h3,h4,h5,h6):=hbm;exact(bm,ob,h1,h2,g h3 (noB h3 (λz=>by rw[z]at h6;cases h6) λz=>by rw[z]at h6;cases h6),h4,h5,h6)
  have hcd:∀c P,PySem.W.CodeHd f.heap c P->PySem.W.CodeHd (tP f.heap H) c P:=λc P h=>by
   let(o,vs',file,tf,B1,tg,WP,R,tt,e,A,r):=h;exact(o,vs',file,tf,B1,tg,WP,R,tt,g e (noB e (λz=>by rw[z]at A;simp at A) λz=>by rw[z]at A;simp at A),A,r)
  have hM:Mod K mg (tP f.heap H):=(hKb,D Y,(mb,D i,hbb),(let (mc,h1,h2):=Z;(mc,D h1,h2)),hbm');have e0:Env0 P w K mg (tP f.heap H) callerA [] f H:=(rfl,hM,λb o e=>MP e,Nat.le_of_eq (FV _ _),trivial,λb i=>absurd (show b∈([]:L Addr) from i) (),hok,.of_eq hg);refine ZH ((F _ hKb (D Y) hcd).run callerA [] f H ([.ref a],[]) [.ref a] [.ref a] _ _ hr e0 (I f (.ref a)) (.cons rfl .nil) (hsp H hO hS)) λr s' h=>?_;cases r with
  |error e=>exact(hCX H e s' h).elim
  |ok fl=>
    cases fl with
    |next=>exact False.elim h
    |brk=>exact False.elim h
    |cont=>exact False.elim h
    |ret u=>
      let(v,H',os,bare,un,E,r',q):=h;have q':v=.bl true:=q;subst q';obtain rfl:u=Value.bool true:=r';refine(rfl,(λb o e=>?_,λb o e=>un.there b o e ()),os,bare);cases q:H b with
      |none=>exact .inl (un.keep b o e q (by intro z;exact absurd (show b∈([]:L Addr) from z) ()) ())
      |some u=>
        rcases hO.2 b with z|⟨ob,xs,z⟩|z
        .rw[q]at z;cases z
        .have z2:=un.frzs b ob _ z;let(e1,_):=hok b _ z;let(e2,_):=E b _ z2;rw[e]at e1;cases e1;exact .inl e2
        · have z2:=(un.tbls b _ z).1;let(_,ps,e2,_):=E b _ z2
          have hb':∃p∈T,p.1=b:=by
           rcases hA b (by rw[q];simp) with j | j
           .subst j;let(_,ps',l,_):=hok b _ z;rw[M]at l;cases l
           .exact j
          let(p,hp,j):=hb';let(c,A,l):=hT p hp;rw[j]at l A;rw[e]at l;cases l;refine .inr (.inl ((A.tab (ps:=#[]) e).isCodeTable,rfl,#[],ps,rfl,?_));rw[e2];simp
 have t:∀(H:Hp) (b:Addr),(∃p∈T,p.1=b)->ObjOk P w H f.heap b (.tbl (T.at b)):=λH b (p,hp,e)=>by
  let(c,A,l):=hT p hp;rw[e]at l;exact(λy hy z hz h1 h2=>hTo _ (Tbs.mem.mp hy) _ (Tbs.mem.mp hz) h1 h2,#[],l,trivial,λy hy=>.inl rfl)
 have Cv:∀p∈T,p.1≠a:=λp hp z=>by
  let(c,A,l):=hT p hp;rw[z,M]at l;cases l
 cases hk:K.lookup a with
 |some o=>
   -- the C is one of the I0 own S
   have e:=KX a o hk;rw[M]at e;cases e;have hTa:¬ ∃p∈T,p.1=a:=λ(p,hp,z)=>Cv p hp z;have dec:∀b,Decidable (∃p∈T,p.1=b):=λb=>Classical.propDecidable _;refine core (λb=>if ∃p∈T,p.1=b then J (.tbl (T.at b)) else G) (λp hp=>Xx (p,hp,rfl),λb=>?_) (.inr (_,vs.toArray,_,hk,rfl,rfl,rfl,by rw[XN,X];exact hl,by simpa using rv)) (λb u z=>?_) (λb z=>?_) λz=>absurd (Xy hTa) z
   · by_cases h:∃p∈T,p.1=b
     .exact .inr (.inr (Xx h))
     .exact .inl (Xy h)
   · by_cases h:∃p∈T,p.1=b
     .have B:=(Xx h).symm.trans z;cases B;exact t _ b h
     .have B:=(Xy h).symm.trans z;cases B
   · by_cases h:∃p∈T,p.1=b
     .exact .inr h
     .exact absurd (Xy h) z
 |none=>
   have dec:∀b,Decidable (∃p∈T,p.1=b):=λb=>Classical.propDecidable _;have hTa:∀{b},(∃p∈T,p.1=b)->b≠a:=λ(p,hp,z) e=>Cv p hp (z.trans e);refine core (λb=>if b=a then J (.frz {cls:=.type "list",data:=.seq vs.toArray} (.lst (ns.map V.int))) else if ∃p∈T,p.1=b then J (.tbl (T.at b)) else G) (λp hp=>(Xy (Cv p hp)).trans (Xx (p,hp,rfl)),λb=>?_) (.inl (.inr ({cls:=.type "list",data:=.seq vs.toArray},Xx rfl))) (λb u z=>?_) (λb z=>?_) λ_=>hk
   · by_cases i:b=a
     .exact .inr (.inl (_,_,Xx i))
     · by_cases h:∃p∈T,p.1=b
       .exact .inr (.inr ((Xy i).trans (Xx h)))
       .exact .inl ((Xy i).trans (Xy h))
   · by_cases i:b=a
     .have B:=(Xx i).symm.trans z;cases B;subst i;exact(M,by rw[Xv];exact hl,vs,_,rv,M)
     · by_cases h:∃p∈T,p.1=b
       .have B:=((Xy i).trans (Xx h)).symm.trans z;cases B;exact t _ b h
       .have B:=((Xy i).trans (Xy h)).symm.trans z;cases B
   · by_cases i:b=a
     .exact .inl i
     · by_cases h:∃p∈T,p.1=b
       .exact .inr h
       .exact absurd ((Xy i).trans (Xy h)) z
abbrev Tns:=L (Str×Pos×Str)
structure TabsOf (mg:Str->Option Value) (h:Heap) (N:Tns) (T:Tbs):Prop where
 all:∀n∈N,∃P,(P,n.2)∈T/\∃a o fd c,mg n.1=J (.ref a)/\h.get? a=J o/\o.data=.func fd/\fd.code=.ref c/\PySem.W.CodeHd h c P
theorem vh{h:Heap}(l:PyProof.Rows.Top p loose b mg s h):∀(N:Tns),(∀n∈N,n.1∈(PyProof.Rows.recsOf p).map (·.name))->
 ∃T:Tbs,TabsOf mg h N T/\(∀q∈T,∃c,PySem.W.CodeHd h c q.1/\h.get? q.1=J (PySem.W.tabObj #[]))/\∀q∈T,∃n∈N,n.2=q.2
 |[],_=>([],⟨λ_ h=>nomatch h⟩,λ_ h=>(nomatch h),λ_ h=>(nomatch h))
 | n::N,j=>by
   let(T,w,v,u):=vh l N λm f=>j m (on _ f);let(d,hd,e):=XG.mp (j n Xw);let(a,o,fd,c,P,C,B,A,y,x,k):=l.tab d hd;have i:=PySem.W.CodeHd.of x k;refine((P,n.2)::T,⟨λm f=>?_⟩,λq g=>?_,λq g=>?_)
   · rcases XC.mp f with z|z
     .subst z;exact(P,Xw,a,o,fd,c,by rw[<-e];exact C,B,A,y,i)
     .let(D,t,r):=w.all m z;exact(D,on _ t,r)
   · rcases XC.mp g with z|z
     .subst z;exact(c,i,k.2)
     .exact v q z
   · rcases XC.mp g with z|z
     .subst z;exact(n,Xw,rfl)
     .let(m,f,e):=u q z;exact(m,on _ f,e)
def Tns.ok(N:Tns):Prop:=∀y∈N,∀z∈N,y.2.1.line=z.2.1.line->y.2.1.col=z.2.1.col->y.2.2=z.2.2
def IJ(K:L0):Bool:=K.all λp=>match p.2.cls,p.2.data with
 |.none,.fields vs=>!vs.isEmpty
 |_,_=>true
theorem tj{W:Type}:∀{K:L (Nat×W)} {b:Nat} {o:W},K.lookup b=J o->(b,o)∈K
 | (c,x)::r,b,o,h=>by
   rw[Yx]at h;by_cases z:b=c
   .subst z;rw[YT]at h;cases h;exact Xw
   .rw[beq_false_of_ne z]at h;exact on _ (tj h)
def uT{K:L0}{h:Heap}(X:K.In h)(c:IJ K=true)(e:h.get? b=J (PySem.W.tabObj #[])):K.lookup b=none:=by
 cases q:K.lookup b with
 |none=>rfl
 |some o=>
   have a:=X b o q;rw[e]at a;cases a
   have:=YN.mp c (b,PySem.W.tabObj #[]) (tj q)
   cases this
def LS{l:PySem.W.OpenLaw}{n:Nat}{YP:World->Heap->Prop}{d:DefRec}{K:Params->L0}{CX:World->AY}{sp:World->Tbs->Sp}(N:Tns)
 (hn:l.most=J n) (E:n<=sizeLine) (M:d.params.defaults=[]) (hr:Room k callerA)
 (hY:∀(w:World) (h:Heap),YP w h->(K w.params).In h) (hK:∀w:World,N≠[]->IJ (K w.params)=true) (hN:∀n∈N,n.1∈(PyProof.Rows.recsOf q).map (·.name)) (Q:Tns.ok N)
 (F:∀(w:World) (mg:Str->Option Value) (C:Addr) (h:Heap) (T:Tbs),(K w.params).In h->h.Ns mainGlobals mg->mg d.name=J (.ref C)->TabsOf mg h N T->
   ∃fd:FuncData,(∀(s:Shared) (u:Value),BindsTo s fd ([u],[]) [(x,u)])/\
    ∀base:Heap,(K w.params).In base->base.Ns mainGlobals mg->(∀c P,PySem.W.CodeHd h c P->PySem.W.CodeHd base c P)->FnOk l.prog w (K w.params) mg base (CX w) k C fd [x] (sp w T))
 (D:∀(w:World) (T:Tbs) (H:Hp) (a:Addr) (ns:L Int),ns.length<=n->Lx T H->SqL (K w.params) H a (ns.map V.int)->sp w T [.ref a] H (λv _=>v=.bl true) λ_ _ _=>False)
 (R:∀(w:World) (H:Hp) (s:Shared) (e:Value) (s':Shared),CX w [] H s (λ_ _ _=>False) e s'->False):
 PySem.W.WalkO q loose XP YP l.row.toRowW d [] (λf vs=>PySem.call f vs):=by
 refine Att.AN hn M λw s₀ t mg mb C o pm cd doc a vs ns Cv Y ho hd hcd I A j i hg=>?_;have X:=hY w _ Y;let(T,O,B,r):=vh Cv.T N hN;let(fd,hb,hF):=F w mg C _ T X Cv.T.g I O;refine JP (T:=T) X Cv.T.g Cv.T.b Cv.T.builtins Cv.T.nolimit hg Cv.T.bmain B (λp hp=>?_) (λy hy z hz h1 h2=>?_) A j (Yw i E) hr hF hb (λH hO hS=>D w T H a ns i hO hS) λH e s'=>R w H t e s'
 .let(c,_,e):=B p hp;let(m,Z,_):=r p hp;exact uT X (hK w (λz=>by rw[z]at Z;cases Z)) e
 .let(m1,I0,U):=r y hy;let(m2,B1,S):=r z hz;rw[<-U,<-S];exact Q m1 I0 m2 B1 (by rw[U];exact h1 |>.trans (by rw[S])) (by rw[U];exact h2 |>.trans (by rw[S]))
def eh(s:Stmt)(j:Nat):Stmt:=match s with
 |.ClassDef _ _ _ body _ _ _ _ _ _ _=>body.getD j (.Pass (0,0,0,0))
 |_=> .Pass (0,0,0,0)
def ph(s:Stmt):Arguments:=match s with
 |.FunctionDef _ a _ _ _ _ _ _ _ _=>a
 |_=>{posonlyargs:=[],args:=[],vararg:=G,kwonlyargs:=[],kw_defaults:=[],kwarg:=G,defaults:=[]}
def fk(s:Stmt):L Stmt:=match s with
 |.FunctionDef _ _ b _ _ _ _ _ _ _=>b
 |_=>[]
def au(s:Stmt):Scope:=match s with
 |.FunctionDef _ _ _ _ _ _ sc _ _ _=>sc
 |_=>{kind:=.function,names:=[],isGenerator:=false,isCoroutine:=false}
abbrev Xu:AY:=λ_ _ _ _ _ _=>False
abbrev E0:XK:=λ_ _ _=>False
structure Fun (K:L0) (x qual:Str) (st:Stmt) (f:Addr) (fd:FuncData):Prop where
 ex:∃(oc:Value) (od:Option Addr) (kV doc pm:Value) (an:Option Addr) (cdv ct:Value) (osl:Array (Option Value)),
  fd=PySem.W.fnOf x qual (ph st) (fk st) (au st) .none kV doc pm an cdv ct/\K.lookup f=J (oc,od,.func fd,osl)/\PySem.W.codeIn K cdv qual=true
 kp:PySem.W.keepIn K (.ref f)=true
section
variable{P:Program}{w:World}{K:L0}{mg:Str->Option Value}{base:Heap}
def Fun.binds{x qual:Str}{st:Stmt}{f:Addr}{fd:FuncData}{ps:L Str}(F:Fun K x qual st f fd)
 (h:∀(kV a pm:Value) (an:Option Addr) (b ct:Value) (us:L Value),us.length=ps.length->bindArgs (PySem.W.fnOf x qual (ph st) (fk st) (au st) .none kV a pm an b ct) (us,[])=pure (ps.zip us)):Binds K fd ps []:=by
 let(oc,e,kV,a,pm,an,b,ct,c,rfl,lk,d):=F.ex;exact .all (h kV a pm an b ct)
theorem RY{x qual:Str}{st:Stmt}{f:Addr}{oc:Value}{e an:Option Addr}{d:Array (Option Value)}{kV b pm a ct:Value}(l:K.lookup f=J (oc,e,.func (PySem.W.fnOf x qual (ph st) (fk st) (au st) .none kV b pm an a ct),d))
 (c:PySem.W.codeIn K a qual=true) (k:PySem.W.keepIn K (.ref f)=true):Fun K x qual st f (PySem.W.fnOf x qual (ph st) (fk st) (au st) .none kV b pm an a ct):=((oc,e,kV,b,pm,an,a,ct,d,rfl,l,c),k)
end
theorem l8{A:Around}(a:Room k A):A.units+1<cLine:=Yt (Nat.add_le_add_left (by decide:1<=64) _) a.units
theorem vt(h:n<=1000):n<sizeLine:=Yt h ()
section
variable{X:Cx}
theorem pv(i:Nat)(c:X.N[i]?=J x:=by rfl)(b:Tk X.env.scope x:=by first | exact Or.inl rfl | exact Or.inr (Or.inl rfl) | exact Or.inr (Or.inr rfl))(hd:(x == ("__debug__" : Str))=false:=by decide)
 (a:(x==("__classdict__" : Str))=false:=by decide):PE X (.Name x pos) (iu i):=Qx c b hd a
end
def Same(H H':Hp):Prop:=∀b o,H b=J o->H' b=J o
theorem Same.refl(H:Hp):Same H H:=λ_ _ h=>h
theorem Same.trans(a:Same H H1)(b:Same H1 d):Same H d:=λc o h=>b c o (a c o h)
def Same.free{H H':Hp}(e:Same H H')(h:H' l=Option.none):H l=Option.none:=by
 cases q:H l with
 |none=>rfl
 |some o=>
   rw[e l o q]at h;cases h
def bg(env:Env):L (Str×NameKind)->L (Str×Addr)->L (Str×Addr)
 |[],acc=>acc
 |(n,k)::r,acc=>if (k==NameKind.free)=true then bg env r ((n,(env.cells.lookup n).getD 0)::acc) else bg env r acc
def jp{env:Env}:∀{l:L (Str×NameKind)} {acc:L (Str×Addr)},(∀z∈l,z.2=.free->∃c,env.cells.lookup z.1=J c)->(bg env l acc).lookup y=J c->
 acc.lookup y=J c\/env.cells.lookup y=J c
 |[],acc,_,h=>.inl h
 | (n,k)::r,acc,b,h=>by
   unfold bg at h;split at h
   · rename_i f;rcases jp (λz a=>b z (on _ a)) h with e|e
     · by_cases q:(y==n)=true
       · have g:y=n:=by simpa using q
         subst g;let(c',d):=b (y,k) List.mem_cons_self (by simpa using f);dsimp only at d;rw[List.lookup_cons,beq_self_eq_true,d]at e;exact .inr (d.trans e)
       .rw[Bool.not_eq_true]at q;rw[Yx,q]at e;exact .inl e
     .exact .inr e
   .exact jp (λz a=>b z (on _ a)) h
theorem li:∀{l:L (Str×NameKind)} {acc:L (Str×Addr)},((y,NameKind.free)∈l\/∃c,acc.lookup y=J c)->∃c,(bg env l acc).lookup y=J c
 | [],acc,h=>by
   rcases h with h|h
   .cases h
   .exact h
 | (n,k)::r,acc,h=>by
   ext bg;split
   · rename_i a;refine li ?_;by_cases q:(y==n)=true
     .exact .inr (_,by rw[Yx,q])
     · rw[Bool.not_eq_true]at q;rcases h with h|⟨c,h⟩
       · rcases XC.mp h with e|e
         .cases e;rw[YT]at q;cases q
         .exact .inl e
       .exact .inr (c,by rw[Yx,q];exact h)
   · rename_i a;refine li ?_;rcases h with h|h
     · rcases XC.mp h with e|e
       .cases e;exact absurd (by rfl) a
       .exact .inl e
     .exact .inr h
def lO{scope:Scope}(h:(relabel scope env).names.lookup y=J k):∃k',(y,k')∈scope.names/\(k'=k\/(k'= .free/\k=.cell)):=by
 let((n,k0),a,e):=List.mem_map.mp (PySem.mem_of_lookup h);dsimp only at e;split at e
 .rename_i b;simp only[Zd,ZR]at b;cases e;exact(k0,a,.inr (b.1.1,rfl))
 .cases e;exact(_,a,.inl rfl)
structure CompSc (osc sc:Scope) (x:Str) (cs:L Str):Prop where
 kind:sc.kind=.function
 cell:∀y∈sc.names,y.2≠ .cell
 loc:∀y∈sc.names,y.2=.local->sc.names.lookup y.1=J .local
 var:sc.names.lookup x=J .local
 cap:∀y∈cs,(osc.names.lookup y=J .cell\/osc.names.lookup y=J .free)/\sc.names.lookup y=J .free
 free:∀y∈sc.names,y.2=.free->osc.names.lookup y.1=J .cell\/osc.names.lookup y.1=J .free
 nd:(x::cs).Nodup
def dD(X:Cx)(scope:Scope)(cl:L (Str×Addr))(C:Addr)(N:L Str)(a:L Addr)(s₀:Shared)(H₀:Hp):Cx where
 prog:=X.prog
 w:=X.w
 K:=X.K
 mg:=X.mg
 base:=X.base
 A:=X.A
 N:=N
 s₀:=s₀
 H₀:=H₀
 env:=compEnvC scope cl C X.env
 outer:=X.stack
 stack:=X.stack
 ex:=a
 fn:=λ_=>false
 calm:=X.calm
 pn:=[]
 xe:=λ_ _=>False
def lq(Z:St)(ix:L Nat):St:=ix.map λj=>(Z[j]?).join
section
variable{X:Cx}{pins:L1}{Z:St}{H:Hp}{s:Shared}{scope:Scope}{x:Str}{cs:L Str}{ix:L Nat}{fp:L Addr}
theorem uK(I:Inv X pins Z H s)(a:CompSc X.env.scope scope x cs):∀y∈scope.names,y.2=.free->∃c,X.env.cells.lookup y.1=J c:=λy b d=>I.ok.has _ (a.free y b d)
def zO{g:Heap}(I:Inv X pins Z H s)(n:CompSc X.env.scope scope x cs)(D:ix.map (λi=>X.N[i]?)=cs.map J)(K:∀b∈fp,kA X pins H b)
 (P:∀b∈fp,b<s.heap.objs.size) (hn:g.Ns s.heap.objs.size U) (B1:∀b o,s.heap.get? b=J o->g.get? b=J o):
 Inv (dD X scope (bg X.env scope.names []) s.heap.objs.size (x::cs) fp s H) [] (none::lq Z ix) H {s with heap:=g,toks:=t₁}:=by
 have T:=uK I n
 have d:∀y c,(bg X.env scope.names []).lookup y=J c->X.env.cells.lookup y=J c:=λy c e=>by
  rcases jp T e with z|z
  .cases z
  .exact z
 have t:ix.length=cs.length:=by
  have:=congrArg List.length D
  rwa [Xv,Xv]at this
 refine((I.ok.mod,n.kind,I.ok.glob,I.ok.blt,XH _,λy z c R E=>I.ok.inj y z c (d y c R) (d z c E),λy hy=>?_,λy c h=>(nomatch h),I.ok.hd,I.ok.frames,.inl rfl,λb A=>(X4 (P b A),λy c e=>(K b A).2.2.2.2.1 y c (d y c e)),
  I.bs,Yw I.ok.bsz I.sz,λb o e A=>?_,λb A Q=>?_,I.stack,I.stkFree),rfl,I.bare,Un.kept B1,(U,hn,λi y v R E h3=>?_),λy c e=>?_,I.hok.fresh (XH _),λy c e=>I.freeC y c (d y c e),λp hp=>absurd (show p∈([]:L1) from hp) (),I.hok.kept B1,?_)
 · have M:(relabel scope X.env).names.lookup y=J .cell\/(relabel scope X.env).names.lookup y=J .free:=hy
   have:(y,NameKind.free)∈scope.names:=by
    rcases M with q|q
    · obtain⟨k',B,e|⟨e,_⟩⟩:=lO q
      .subst e;exact absurd rfl (n.cell _ B)
      .subst e;exact B
    · obtain⟨k',B,e|⟨_,e⟩⟩:=lO q
      .subst e;exact B
      .cases e
   exact li (.inl this)
 · rcases(K b A).2.2.2.1 with z|z
   .exact I.ok.noex b o e z
   .exact absurd (X0 (XI e) (Yw I.ok.bsz z)) (YW _)
 · rcases XC.mp (I.stkSub b Q) with z|z
   .exact(K b A).2.1 z
   .exact(K b A).2.2.1 z
 · -- a C name
   cases i with
   |zero=>
     have:(none::lq Z ix:St)[0]?=J none:=rfl
     rw[this]at E;cases E
   |succ j=>
     have F:cs[j]?=J y:=R;have f:(lq Z ix)[j]?=J (J v):=E;unfold lq at f;rw[List.getElem?_map]at f;cases S:ix[j]? with
     |none=>rw[S]at f;cases f
     |some k=>
       rw[S]at f;have I0:(Z[k]?).join=J v:=Yc f
       have h5:Z[k]?=J (J v):=by
        cases e:Z[k]? with
        |none=>rw[e]at I0;cases I0
        |some w=>rw[e]at I0;exact congrArg J I0
       have h6:X.N[k]?=J y:=by
        have q:=congrArg (λl=>l[j]?) D;simp only[Ye,S,F,Z7]at q;exact Yc q
       let(c1,Y):=n.cap y (Z0 F);let(m,hn',hl):=I.loc;let(u,r,l):=hl k y v h6 h5 (c1.elim (λz=>.inr (.inl z)) λz=>.inr (.inr z));refine(u,r,?_);rcases l with ⟨l,_⟩|⟨_,c,ec,hc⟩
       .have V:X.env.scope.names.lookup y=J .local:=l;rcases c1 with z|z<;>(rw[z]at V;cases V)
       · let(c',Cv):=li (env:=X.env) (y:=y) (l:=scope.names) (acc:=[]) (.inl (Y0 Y));have W:=d y c' Cv;rw[ec]at W;cases W;refine .inr (?_,c,Cv,?_)
         · rcases h3 with z|z|z
           · have z':(relabel scope X.env).names.lookup y=J .local:=z;obtain ⟨k',B,e | ⟨_,e⟩⟩:=lO z'
             · subst e
               have:=n.loc _ B rfl
               dsimp only at this;rw[Y]at this;cases this
             .cases e
           .exact .inl z
           .exact .inr z
         .let(o,O,hd):=hc;exact(o,B1 c o O,hd)
 .let(v,o,O,hd):=I.cell y c (d y c e);exact(v,o,B1 c o O,hd)
 .show(none::lq Z ix:St).length=(x::cs).length;rw[XD,XD,lq,Xv,t]
end
def Pk(X:Cx)(b:L Expr)(t:TT):Prop:=
 ∀(a:L1) (s:Shared) (Z:St) (H:Hp) (Q:Bool->Hp->Prop),Inv X a Z H s->t Z H Q->
  j1 X (forIn b true λc r=>if r=true then do let ok <-isTrue c X.env (eval c X.env);pure (ForInStep.yield ok) else pure (ForInStep.yield r)) (TP X a Z Q) X.xe s
def GE:TT:=λ_ H Q=>Q true H
theorem iL{X:Cx}:Pk X [] GE:=λ_ _ _ H _ I h=>wpAny_tests_nil (H,I,h)
theorem wY{X:Cx}(h:PT X c t):Pk X [c] t:=λa s Z H Q I b=>wpAny_tests_one (h a s Z H Q I b)
section
variable{prog:Program}{w:World}{A:Around}{R:Result->Shared->Prop}{s:Shared}
def pJ(I:Nat->Shared->Prop)
 (p:∀n s,I n s->wpAny (model prog w) A (pyNext B) (λr b=>match r with
   |none=>R (.ok .next) b
   |some v=>wpAny (model prog w) A (letOwnedTupleGo a B v) (λ_ b=>wpAny (model prog w) A (assign a env v) (λ_ g=>
      wpAny (model prog w) A (forIn k true λc r=>if r=true then do let ok <-isTrue c env (eval c env);pure (ForInStep.yield ok) else pure (ForInStep.yield r)) (λok d=>
       if ok=true then wpAny (model prog w) A (eval o env) (λx f=>
        wpAny (model prog w) A (call (.builtin "list.append") [acc,x]) (λ_ e=>∃m,m<n/\I m e) (λ_ _=>False) f) (notedBy (model prog w) A env λx s'=>R (.error x) s') d
       else ∃m,m<n/\I m d) (λ_ _=>False) g) (λ_ _=>False) b) (λ_ _=>False) b) (λ_ _=>False) s)
 (n:Nat) (h:I n s):codeAny (model prog w) A (.compLoop (.ListComp o [(a,iter,k,0)] scope pos) 0 B acc env) R s:=by
 refine codeAny_loop rfl I (λn s D=>?_) n h;have up:∀{W:Type} {t:Sem W} {Q:W->Shared->Prop} {E:L3} {s:Shared},wpAny (model prog w) A t Q (λ_ _=>False) s->wpAny (model prog w) A t Q E s:=λh=>YO h (λ_ _ z=>z) λ_ _ z=>z.elim;show wpAny _ A ((compTurn (.ListComp o [(a,iter,k,0)] scope pos) 0 B acc env).onRaise _) _ _ s;refine wpAny_noted ?_;rw[compTurn_list];refine XA (ZY (XA (cf (up (p n s D)) λr b j=>?_)));cases r with
 |none=>exact XQ j
 |some v=>
   refine XA (cf (up j) λ_ C l=>XA (cf (up l) λ_ g y=>XA (cf (up y) λok d i=>?_)));cases ok with
   |false=>exact XQ (rfl,i)
   |true=>exact XA (XA (cf i λx f u=>XA (cf (up u) λ_ e q=>XQ (XQ (rfl,q)))))
def AA(I:Nat->Shared->Prop)
 (f:∀n s,I n s->wpAny (model prog w) A (pyNext o) (λr b=>match r with
   |none=>R (.ok .next) b
   |some v=>wpAny (model prog w) A (letOwnedTupleGo a o v) (λ_ b=>wpAny (model prog w) A (assign a env v) (λ_ j=>
      wpAny (model prog w) A (forIn k true λc r=>if r=true then do let ok <-isTrue c env (eval c env);pure (ForInStep.yield ok) else pure (ForInStep.yield r)) (λok d=>
       if ok=true then wpAny (model prog w) A (eval l env) (λx i=>
        wpAny (model prog w) A (call (.builtin "list.append") [acc,x]) (λ_ g=>∃m,m<n/\I m g) (λ_ _=>False) i) (λ_ _=>False) d
       else ∃m,m<n/\I m d) (λ_ _=>False) j) (λ_ _=>False) b) (λ_ _=>False) b) (λ_ _=>False) s)
 (n:Nat) (h:I n s):codeAny (model prog w) A (.compLoop (.ListComp l [(a,iter,k,0)] scope pos) 0 o acc env) R s:=by
 refine pJ I (λn s p=>cf (f n s p) λr b e=>?_) n h;cases r with
 |none=>exact e
 |some v=>
   refine cf e λ_ _ h=>cf h λ_ _ h=>cf h λok _ h=>?_;cases ok with
   |false=>exact h
   |true=>exact YO h (λ_ _ z=>z) λ_ _ z=>z.elim
end
def EW(B1:It)(τ:V->St)(g:TT)(te:TE)(p:Addr)(H1:Hp)(Q:VK):Prop:=
 ∃W:Nat->Nat->L V->Hp->Prop,(∃m,W 0 m [] (upd H1 p (.lst [])))/\∀i m ys a,W i m ys a->a p=J (.lst ys)/\ys.length<sizeLine/\
  ((B1.stop i a/\Q (.ref p) a)\/(B1.go i a/\∀v f,B1.yld i a v f->g (τ v) f λb e=>if b=true then te (τ v) e λy d=>d p=J (.lst ys)/\∃c,c<m/\W (i+1) c (ys++[y]) (upd d p (.lst (ys++[y])))
    else ∃c,c<m/\W (i+1) c ys e))
def sk(a:TI)(ix:L Nat)(b:TT)(te:TE):TE:=λZ H Q=>a Z H λB1 H1=>∀p,H1 p=G->EW B1 (λv=>J v::lq Z ix) b te p H1 Q
section
variable{X:Cx}{pins:L1}{Z:St}{H:Hp}{s:Shared}{scope:Scope}{x:Str}{px pos:Pos}{cs:L Str}{ix:L Nat}{fp:L Addr}{elt iter:Expr}{ifs:L Expr}{ti:TT}{te:TE}
theorem PE.wishF{X:Cx}(h:PE X.nox e t):PE (X.wish q) e t:=λpins s Z H Q I a=>
 YO (h pins s Z H Q (I.unwish.wish _) a) (λ_ _ (v,H',b,r,z)=>(v,H',b.unwish.wish _,r,z)) λ_ _ z=>False.elim z
def uI{tn:Nat->Heap->Prop}{Qe:VK}{RR:Value->Addr->Result->Shared->Prop}(R:X.calm=true)(I2:Inv X pins Z H s)(g:CompSc X.env.scope scope x cs)(hix:ix.map (λi=>X.N[i]?)=cs.map J)
 (T:Turn X.prog X.w X.K (.Name x px) B1 fp it tn) (st0:tn 0 s.heap) (l:∀b∈fp,kA X pins H b)
 (hti:∀C fp s₀ H₀,Pk (dD X scope (bg X.env scope.names []) C (x::cs) fp s₀ H₀) ifs ti) (hte:∀p C fp s₀ H₀,(∀B f F D,Inv (dD X scope (bg X.env scope.names []) C (x::cs) fp s₀ H₀) B f F D->Inv X pins Z F D/\kA X pins F C/\∃m,D.heap.Ns C m)->PE ((dD X scope (bg X.env scope.names []) C (x::cs) fp s₀ H₀).wish (notedBy (model X.prog X.w) X.A (compEnvC scope (bg X.env scope.names []) C X.env) λx s'=>RR (.ref p) C (.error x) s')) elt te)
 (hW:∀p,H p=G->EW B1 (λv=>J v::lq Z ix) ti te p H Qe)
 (hRR:∀p C H' s',Inv X pins Z H' s'->kA X pins H' C->(∃m,s'.heap.Ns C m)->Qe (.ref p) H'->RR (.ref p) C (.ok .next) s'):
 j1 X (newList []) (λacc s₃=>j1 X (newFunctionEnv scope X.env.globals (bg X.env scope.names []) [] X.env.qual G .none (J X.env)) (λM s₄=>
  codeAny (model X.prog X.w) X.A (.compStart (.ListComp elt [(.Name x px,iter,ifs,0)] scope pos) 0 (.ref it) acc { M with scope:=relabel scope X.env }) (RR acc M.locals) s₄) E s₃) E s:=by
 refine wpAny_newObj_type (wpAny_newFunctionEnv g.cell (by intro y hy;simp at hy) (λh k j=>?_) g.kind);dsimp only at k j ⊢;have hD:H s.heap.objs.size=none:=I2.hok.fresh (Nat.le_refl _)
 have S:Inv X pins Z (upd H s.heap.objs.size (.lst [])) {s with heap:=s.heap.push j0}:=
  I2.laid (t':=s.toks) (λb u e=>XB _ e) (XH _) (YM _,[],0,.nil,XU _ rfl)
 let(W,(m0,w0),turn):=hW _ hD
 have I0:∀b∈fp,b<s.heap.objs.size:=λb a=>by
  let(o,e,_):=T.obj 0 _ st0 b a;exact XI e
 have hlt:∀b∈fp,b<(s.heap.push j0).objs.size:=λb a=>by
  rw[ZG];exact Ab6 (I0 b a)
 have hf3:∀b∈fp,kA X pins (upd H s.heap.objs.size (.lst [])) b:=λb a=>(by rw[bq (X4 (I0 b a))];exact(l b a).1,(l b a).2)
 have kept:∀b o,(s.heap.push j0).get? b=J o->h.get? b=J o:=λb o e=>
  j.extBut b o (X4 (XI e)) (XB _ e)
 have P:∀b o,s.heap.get? b=J o->h.get? b=J o:=λb o e=>kept b o (XB _ e);have I4:=zO (t₁:=s.toks+([]:L (Str×Value)).length) S g hix hf3 hlt k kept;have st4:tn 0 h:=T.keep 0 _ _ st0 λb _ o e=>P b o e
 have I:codeAny (model X.prog X.w) X.A (.compLoop (.ListComp elt [(.Name x px,iter,ifs,0)] scope pos) 0 (.ref it) (.ref s.heap.objs.size) (compEnvC scope (bg X.env scope.names []) (s.heap.push j0).objs.size X.env))
  (RR (.ref s.heap.objs.size) (s.heap.push j0).objs.size) {s with heap:=h,toks:=s.toks+([]:L (Str×Value)).length}:=by
  generalize t:dD X scope (bg X.env scope.names []) (s.heap.push j0).objs.size (x::cs) fp {s with heap:=s.heap.push j0} (upd H s.heap.objs.size (.lst []))=Y at I4;have hti':Pk Y ifs ti:=by rw[<-t];exact hti _ _ _ _
  have hte':PE (Y.wish (notedBy (model Y.prog Y.w) Y.A Y.env λx s'=>RR (.ref s.heap.objs.size) (s.heap.push j0).objs.size (.error x) s')) elt te:=by
   rw[<-t];refine hte _ _ _ _ _ λB f F D B1=>?_;have Ix:Inv X pins Z F D:=S.call' (ch:=fp) B1.os B1.base B1.hok B1.bare λb a=>((l b a).2.2.2.1,(l b a).2.1,(l b a).2.2.2.2.1,(l b a).2.2.2.2.2);let(m,Q,_):=B1.loc;exact(Ix,S.fpOk (XH _) B1.free,m,Q)
  have hcY:Y.calm=true:=by rw[<-t];exact R
  have hg:PG Y (.Name x px) (eB 0):=by
   rw [<-t];exact b6 g.nd rfl (.inl (lookup_relabel_local g.var)) (.inr (lookup_relabel_local g.var))
  have f4:∀{H':Hp},(∀b∈fp,H' b=G)->∀b∈fp,kA Y [] H' b:=λ{H'} hn b a=>by
   rw[<-t];refine(hn b a,X4 (hlt b a),λz=>?_,.inl a,λy c e z=>?_,λp hp=>absurd (show p∈([]:L1) from hp) ())
   · rcases XC.mp (S.stkSub b z) with q|q
     .exact(l b a).2.1 q
     .exact(l b a).2.2.1 q
   · rcases jp (uK I2 g) e with q|q
     .cases q
     .exact(l b a).2.2.2.2.1 y c q z
  have fin:∀{Cv:Option V} {H':Hp} {s':Shared},Inv Y [] (Cv::lq Z ix) H' s'->Qe (.ref s.heap.objs.size) H'->RR (.ref s.heap.objs.size) (s.heap.push j0).objs.size (.ok .next) s':=λ{Cv H' s'} B1 q=>by
   rw[<-t]at B1;have Ix:Inv X pins Z H' s':=S.call' (ch:=fp) B1.os B1.base B1.hok B1.bare λb a=>((l b a).2.2.2.1,(l b a).2.1,(l b a).2.2.2.2.1,(l b a).2.2.2.2.2);refine hRR _ _ H' s' Ix (S.fpOk (XH _) B1.free) ?_ q;let(m,Q,_):=B1.loc;exact(m,Q)
  have eY:compEnvC scope (bg X.env scope.names []) (s.heap.push j0).objs.size X.env=Y.env:=by rw[<-t];rfl
  have eP:X.prog=Y.prog:=by rw[<-t];rfl
  have eW:X.w=Y.w:=by rw[<-t];rfl
  have eK:X.K=Y.K:=by rw[<-t];rfl
  have eA:X.A=Y.A:=by rw[<-t];rfl
  have eX:Y.xe=λ_ _=>False:=by rw[<-t];rfl
  rw[eP,eW,eK]at T;rw[eY,eP,eW,eA];refine pJ (λn s'=>∃i ys Cv H',Inv Y [] (Cv::lq Z ix) H' s'/\tn i s'.heap/\(∀b∈fp,H' b=G)/\W i n ys H') ?_ m0 (0,[],G,_,I4,st4,λb a=>(hf3 b a).1,w0);rintro n s' ⟨i,ys,Cv,H',I',st',fr',w'⟩;let(hp,hlen,U):=turn i n ys H' w';rcases U with ⟨stop,q⟩|⟨go,step⟩
  .refine cf (T.done Y rfl rfl rfl hcY i [] s' (Cv::lq Z ix) H' (λ_ _=>False) I' (f4 fr') st' stop) λr s1 (hr,I1)=>?_;subst hr;exact fin I1 q
  · refine cf (T.item Y rfl rfl rfl hcY i [] s' (Cv::lq Z ix) H' (λ_ _=>False) I' (f4 fr') st' go) λr s1 (u,hr,h4)=>?_;subst hr;refine cf h4 λ_ s2 (v,H2,J2,r2,y2,O,fr2)=>?_;have J2p:=J2.pinned (f4 fr2) (T.obj _ _ O)
    have again:∀{f:St} {F:Hp} {D:Shared},Inv Y ([]++qc fp s2.heap) f F D->tn (i+1) D.heap/\∀b∈fp,F b=none:=λ{f F D} I7=>by
     refine(T.keep _ _ _ O λb a o e=>(I7.pin (b,o) (XE _ (XE _ (gI a e)))).1,λb a=>?_);let(o,e,d):=T.obj _ _ O b a;exact(I7.pin (b,o) (XE _ (XE _ (gI a e)))).2.1
    have hga:=hg _ s2 (Cv::lq Z ix) H2 v u (λf H'=>f=J v::lq Z ix/\H'=H2) J2p r2 (rfl,rfl);rw[eX]at hga;refine cf hga λ_ s3 (σ3,H3,J3,e3,e3')=>?_;subst e3 e3';have htt:=hti' _ s3 _ H3 _ J3 (step v H3 y2);rw[eX]at htt;refine cf htt λb s4 (H4,J4,q4)=>?_;cases b with
    |false=>
      rw[Xy XO]at q4 ⊢;let(m',Q,w4):=q4;exact(m',Q,i+1,ys,J v,H4,J4.unpinned,(again J4).1,(again J4).2,w4)
    |true=>
      rw[Xx rfl]at q4 ⊢;have hee:=hte' _ s4 _ H4 _ (J4.wish _) q4;refine cf hee λy s5 (yv,H5,J5,r5,hp5,m',Q,w5)=>?_;replace J5:=J5.unwish;have hap:=cH (X:=Y) _ s5 _ H5 (.ref s.heap.objs.size) [yv] (.ref s.heap.objs.size) [y] (λ_ H6=>H6=upd H5 s.heap.objs.size (.lst (ys++[yv]))) J5 rfl (.cons r5 .nil) (_,ys,yv,rfl,rfl,hp5,hlen,rfl);rw[eX]at hap;refine cf hap λ_ s6 (_,H6,J6,_,e6)=>?_;subst e6;exact(m',Q,i+1,ys++[yv],J v,_,J6.unpinned,(again J6).1,(again J6).2,w5)
 exact codeAny_compStart_list I (T.self _ 0 _ _ _ st4 I)
def gX(c:X.calm=true)(hi:PI X (.Name x px) iter n)(a:CompSc X.env.scope scope x cs)(k:ix.map (λi=>X.N[i]?)=cs.map J)
 (f:∀C fp s₀ H₀,Pk (dD X scope (bg X.env scope.names []) C (x::cs) fp s₀ H₀) ifs ti) (g:∀C fp s₀ H₀,PE (dD X scope (bg X.env scope.names []) C (x::cs) fp s₀ H₀) elt te)
 (l:closureFor scope X.env=pure (bg X.env scope.names []):=by rfl) (t:∀x,foldedSetIterable iter X.env x=pure x:=by intro _;rfl):
 PE X (.ListComp elt [(.Name x px,iter,ifs,0)] scope pos) (sk n ix ti te):=by
 intro pins s Z H Q I h;rw[eval_ListComp];refine Y9 (use:=G) rfl t l a.kind a.loc (cf (hi pins s Z H _ I h) λv S D=>cf D λr s2 B=>?_);let(U,fp,R,B1,V,e,O,T,d,K,z):=B;subst e;refine uI (RR:=λacc C=>compPost (model X.prog X.w) X.A X.xe G (EP X pins Z Q) acc C) c O a k T d K f (λ_ C fp s₀ H₀ _=>PE.wishF (g C fp s₀ H₀)) z ?_;rintro p C H' s' P ⟨M,I0,_,Cv,F,E⟩ ⟨m,u⟩ q;exact(m,u,λh' j=>(.ref p,H',P.turned (t':=s'.toks) (λb o y e=>j.extBut b o y e) M I0 Cv F E,rfl,q))
def qH{a:Pos}(j:X.calm=true)(hN:X.N.Nodup)(M:X.N[i]?=J y)(hy:LQ X.env.scope y)(hi:PI X (.Name x px) iter S)(g:CompSc X.env.scope scope x cs)(I0:ix.map (λi=>X.N[i]?)=cs.map J)
 (B:∀C fp s₀ H₀,Pk (dD X scope (bg X.env scope.names []) C (x::cs) fp s₀ H₀) ifs ti) (E:∀pins Z C fp s₀ H₀,(∀f r R u,Inv (dD X scope (bg X.env scope.names []) C (x::cs) fp s₀ H₀) f r R u->Inv X pins Z R u/\kA X pins R C/\∃m,u.heap.Ns C m)->PE ((dD X scope (bg X.env scope.names []) C (x::cs) fp s₀ H₀).wish (notedBy (model X.prog X.w) X.A (compEnvC scope (bg X.env scope.names []) C X.env) λe s'=>∃m,s'.heap.Ns C m/\∀h',Heap.SameBut C s'.heap h'->∀d:Env,d.locals=C->j1 X (PySem.passOn "comprehension.variables-let-go" e d:Sem Value) (λ_ _=>False) X.xe {s' with heap:=h'})) elt te)
 (F:swapsWith (.ListComp elt [(.Name x px,iter,ifs,0)] scope pos) (J (.Name y py)) a.line X.env=pure true:=by rfl)
 (O:closureFor scope X.env=pure (bg X.env scope.names []):=by rfl) (hs:∀x,foldedSetIterable iter X.env x=pure x:=by intro _;rfl)
 (hf:X.fn y=true\/X.env.scope.names.lookup y=J .local:=by first | exact .inl rfl | exact .inr rfl | assumption):
 PS X (.Assign [.Name y py] (.ListComp elt [(.Name x px,iter,ifs,0)] scope pos) a) (pU (sk S ix ti te) (eB i)):=by
 intro pins s Z H D I h;rw[exec_Assign_Name_used _ _ _ _ F];refine XA (ZY (XA ?_));show wpAny _ X.A (do let _ <-comprehension (.ListComp elt [(.Name x px,iter,ifs,0)] scope pos) scope X.env _ (newList []) false (eval iter X.env) (J (assign (.Name y py) X.env))) _ _ s;refine XA (cf (Y9 (Q:=λ_ s'=>SP X pins D .next s') rfl hs O g.kind g.loc (cf (hi pins s Z H _ I h) λv s1 h1=>cf h1 λitv s2 h2=>?_)) λ_ s' hq=>XQ (XQ hq));let(it,fp,tn,B1,H2,e,I2,T,t,f2,hW):=h2;subst e;refine uI (RR:=λacc C=>compPost (model X.prog X.w) X.A X.xe (J (assign (.Name y py) X.env)) (λ_ s'=>SP X pins D .next s') acc C) j I2 g I0 T t f2 B (λ_ C fp s₀ H₀=>E pins Z C fp s₀ H₀) hW ?_;rintro p C H' s' W ⟨f0,U,P,f3,f4,f5⟩ ⟨m,hm⟩ q;let(l,es,ep,K,k,rC):=hm
 have Ip:Inv X (pins++[(C,l)]) Z H' s':=W.pins_of λp hp=>(XJ.mp hp).elim (λz=>W.pin p (XE _ z)) λz=>by
  have e:p=(C,l):=by simpa using z
  subst e;exact(K,f0,U,P,λv z=>by rw[k]at z;cases z)
 have hg:PG X (.Name y py) (eB i):=b6 hN M hy hf;refine cf (hg _ s' Z H' (.ref p) (.ref p) D.nx Ip rfl q) λ_ Y (n,H3,V,q3)=>?_;have c:=V.pin (C,l) (XE _ (XE _ ()));refine(m,(l,es,ep,c.1,k,rC),λh' Cv=>?_);exact(n,H3,(V.unpinned).turned (t':=Y.toks) (λb o hb e=>Cv.extBut b o hb e) c.2.1 U f3 f4 f5,q3)
theorem Bu{a:Pos}(b:X.calm=true)(o:X.N.Nodup)(h:X.N[i]?=J y)(l:LQ X.env.scope y)(hi:PI X (.Name x px) iter k)(f:CompSc X.env.scope scope x cs)(g:ix.map (λi=>X.N[i]?)=cs.map J)
 (c:∀C fp s₀ H₀,Pk (dD X scope (bg X.env scope.names []) C (x::cs) fp s₀ H₀) ifs ti) (d:∀C fp s₀ H₀,PE (dD X scope (bg X.env scope.names []) C (x::cs) fp s₀ H₀) elt te)
 (e:swapsWith (.ListComp elt [(.Name x px,iter,ifs,0)] scope pos) (J (.Name y py)) a.line X.env=pure true:=by rfl)
 (j:closureFor scope X.env=pure (bg X.env scope.names []):=by rfl) (m:∀x,foldedSetIterable iter X.env x=pure x:=by intro _;rfl)
 (n:X.fn y=true\/X.env.scope.names.lookup y=J .local:=by first | exact .inl rfl | exact .inr rfl | assumption):
 PS X (.Assign [.Name y py] (.ListComp elt [(.Name x px,iter,ifs,0)] scope pos) a) (pU (sk k ix ti te) (eB i)):=
 qH b o h l hi f g c (λ_ _ C fp s₀ H₀ _=>PE.wishF (d C fp s₀ H₀)) e j m n
end
mutual
def Den(K:L0)(H:Hp):PyData->V->Prop
 |.none,v=>v=.non
 |.bool b,v=>v=.bl b
 |.int i,v=>v=.int i
 |.str x,v=>v=.str x
 |.list ds,v=>∃a xs,v=.ref a/\SqL K H a xs/\Dens K H ds xs
 |.tuple ds,v=>∃a xs,v=.ref a/\SqT K H a xs/\Dens K H ds xs
 |.dict _,_=>False
def Dens(K:L0)(H:Hp):L PyData->L V->Prop
 |[],xs=>xs=[]
 |d::ds,xs=>∃x r,xs=x::r/\Den K H d x/\Dens K H ds r
end
section
variable{X:Cx}{pins:L1}{Z:St}{H:Hp}{s:Shared}
mutual
theorem den_reads(I:Inv X pins Z H s):∀(d:PyData) {v:V} {u:Value},Den X.K H d v->RelV v u->∃m,Reads s.heap u d m
 | .none,v,u,h,r=>by
   rw[Den]at h;subst h;have c:u=Value.none:=r;subst c;exact(_,.none)
 | .bool b,v,u,h,r=>by
   rw[Den]at h;subst h;have c:u=Value.bool b:=r;subst c;exact(_,.bool b)
 | .int i,v,u,h,r=>by
   rw[Den]at h;subst h;let(t,c):=(show ∃t,u=Value.int i t from r);subst c;exact(_,.int i t)
 | .str x,v,u,h,r=>by
   rw[Den]at h;subst h;let(t,c):=(show ∃t,u=Value.str x t from r);subst c;exact(_,.str x t)
 | .list ds,v,u,h,r=>by
   rw[Den]at h;let(a,xs,rfl,j,hd):=h;have c:u=Value.ref a:=r;subst c;let(its,f,p,q):=I.list j;let(m,g):=dens_reads I ds hd f;let(o,k,l,n,e):=p.isList;exact(_,.list k l e (by simpa using g))
 | .tuple ds,v,u,h,r=>by
   rw[Den]at h;let(a,xs,rfl,j,hd):=h;have c:u=Value.ref a:=r;subst c;let(its,f,p,q):=I.tuple j;let(m,g):=dens_reads I ds hd f;let(o,k,l,n,e):=p;exact(_,.tuple k l e (by simpa using g))
 | .dict _,v,u,h,r=>by
   rw[Den]at h;exact h.elim
theorem dens_reads(I:Inv X pins Z H s):∀(ds:L PyData) {xs:L V} {us:L Value},Dens X.K H ds xs->Vals xs us->∃a,ReadsAll s.heap us ds a
 | [],xs,us,h,r=>by
   rw[Dens]at h;subst h;cases r;exact(_,.nil)
 | d::ds,xs,us,h,r=>by
   rw[Dens]at h;let(x,t,rfl,g,i):=h;cases r with
   |cons f e=>
     let(a,c):=den_reads I d g f;let(bs,b):=dens_reads I ds i e;exact(_,.cons c b)
end
end
section
variable{X:Cx}
def Qs(K:L0)(neg:Bool):R2:=λx y H Q=>∃d e,Den K H d x/\Den K H e y/\SeqAt.shaped d=true/\SeqAt.shaped e=true/\Q (.bl (if neg then !PyData.eqv d e else PyData.eqv d e)) H
def QI(k:X.A.units+64<cLine):rG X (compareOp .Eq) (Qs X.K false):=by
 intro a s Z H x y v u Q I g f h;let(d,e,hd,l,c,b,q):=h;let(m,j):=den_reads I d hd g;let(bs,i):=den_reads I e l f;exact eq_dataH j i c b k (.bl _,H,I,rfl,q)
end
def Vl(g:Bool):String:=cond g "max.loop" "min.loop"
def Th(g:Bool):String:=cond g "max" "min"
def WY(g:Bool):CmpOp:=cond g .Gt .Lt
theorem RE:∀g,plainId (Vl g)=true|false=>PySem.F.plain_min_loop|true=>PySem.F.plain_max_loop
theorem Xb:∀g,entryFor table (Vl g)=J (cond g Builtin.«max.loop» Builtin.«min.loop»)|false=>PySem.F.entry_min_loop|true=>PySem.F.entry_max_loop
theorem xmE:∀g,entryFor table (Th g)=J (cond g Builtin.«max» Builtin.«min»)|false=>PySem.F.entry_min|true=>PySem.F.entry_max
theorem xmP:∀g,builtinKind (Th g)=G/\plainId (Th g)=true|false=>(PySem.F.kind_min,PySem.F.plain_min)|true=>(PySem.F.kind_max,PySem.F.plain_max)
theorem NN(a d:Value):∀g,argsOk (Th g) ([a],[(Str.ofString "default",d)])|false=>by ext argsOk;kernel_rfl|true=>by ext argsOk;kernel_rfl
def WN:(toString "min" ++ toString ".loop" : String)=Vl false:=by decide
def WM:(toString "max" ++ toString ".loop" : String)=Vl true:=by decide
section
variable{prog:Program}{w:World}{A:Around}{R:Result->Shared->Prop}{I:Addr}{fp wr:L Addr}{n:Nat}{P:Nat->Value->Prop}{St:Nat->Heap->Prop}
def Kn(g:Bool)(W:Walks prog w A.in1 I fp wr n P St)(T:L (Str×Value))(x:Nat->Nat->Bool)(S:Addr)(I0:S∉fp)(Cv:Shared->Prop)
 (N:∀(s:Shared) h' l,Cv s->(∀b o,b∉wr->b≠S->s.heap.get? b=J o->h'.get? b=J o)->Cv {s with heap:=h',toks:=l})
 (F:∀i j B1 H (s:Shared) (Q:L3) (E:L3),Cv s->P i B1->P j H->Q (.bool (x i j)) s->wpAny (model prog w) A.in1 (richCompare (WY g) B1 H) Q E s):∀(k j:Nat) (s:Shared) (h:Value) (c:Nat),
 n-(j+1)=k->j+1<=n->Cv s->St (j+1) s.heap->P (argBest x j) h->s.heap.get? S=J {cls:=.type "list",dict:=G,data:=.seq #[h,h] c,slots:=#[]}->
 (∀v h' l,P (argBest x (n-1)) v->(∀b o,b∉wr->b≠S->s.heap.get? b=J o->h'.get? b=J o)->R (.ok (.ret v)) {s with heap:=h',toks:=l})->
 codeAny (model prog w) A (.builtin (Vl g) ([.ref I,.none,.ref S],T)) R s:=by
 have K:S∉wr:=λz=>I0 (W.sub _ z);cases g
 all_goals
  intro k
  induction k with
  |zero=>
    intro j s h c X V g st C B p;refine Ad6 (Xb _) ?_;rw[Z2 (RE _) _];refine XA (m:=seqItems? (.ref S)) (wpAny_seqItems B rfl ?_);refine XA (m:=tryCatch (pyNext (.ref I)) _) (ZI (W.done s _ _ ((show j+1=n by omega)▸st) λh' l kp=>?_));refine XA (m:=updateSeq S (λ_=>#[])) ?_;refine Ad7 (kp S _ K B) rfl (XA (Af3 (XQ ?_)));exact p h _ l (by rw[show n-1=j by omega];exact C) λb o f q e=>(X3 _ _ (YS q)).trans (kp b o f e)
  |succ k M=>
    intro j s h c X V g st C B p;have lt:j+1<n:=by omega
    refine Ad6 (Xb _) ?_;rw[Z2 (RE _) _];refine XA (m:=seqItems? (.ref S)) (wpAny_seqItems B rfl ?_);refine XA (m:=tryCatch (pyNext (.ref I)) _) (ZI (W.item (j+1) s _ _ lt st λv h' l pv y kp=>?_));have t:=kp S _ K B;have g':Cv {s with heap:=h',toks:=l}:=N s h' l g λb o f _ e=>kp b o f e;refine XA (m:=tryCatch (holding [v,v] (richCompare _ v h >>= _)) _) (ZI (Zy (XA (F (j+1) (argBest x j) v h _ _ _ g' pv C ?_))));refine XA (Zy (Zj (XA (Af3 (XQ ?_)))));cases O:x (j+1) (argBest x j) with
    |true=>
      rw[Xx rfl];refine XA ?_;refine Ad7 t rfl (XA (Af3 ?_))
      first | rw[WN] | rw[WM]
      refine XQ (Ac0 (RE _) _,M (j+1) _ v _ ∅ lt (N _ _ l g' λb o f q e=>(X3 _ _ (YS q)).trans e) (W.frame _ _ _ y λb U o e=>?_) (by simp only[argBest,O,if_true];exact pv) (Y5 _ t rfl) λD u a r d=>?_)
      .exact(X3 _ _ (λz:S=b=>I0 (by rw[z];exact U))).trans e
      .exact p D u a r λb o f q e=>d b o f q ((X3 _ _ (YS q)).trans (kp b o f e))
    |false=>
      rw[Xy XO];refine XA (Af3 ?_)
      first | rw[WN] | rw[WM]
      exact XQ (Ac0 (RE _) _,M (j+1) _ h c ∅ lt g' y (by simp only[argBest,O,Zg,Z1];exact C) t λD u a r d=>p D u a r λb o f q e=>d b o f q (kp b o f e))
end
section
variable{prog:Program}{w:World}{A:Around}{E:L3}{s:Shared}
def Lk(g:Bool){Q:L3}
 (h:wpAny (model prog w) A.in1 (pyIter x) (λO a=>∃I u f n P St y,∃Cv:Shared->Prop,O=.ref I/\Walks prog w A.in1 I u f n P St/\St 0 a.heap/\(∀b∈u,b<a.heap.objs.size)/\
   Cv a/\(∀(s:Shared) h' c,Cv s->(∀b o,b∉f->b≠a.heap.objs.size->s.heap.get? b=J o->h'.get? b=J o)->Cv {s with heap:=h',toks:=c})/\
   (∀i j M I0 (s:Shared) (Q:L3) (E:L3),Cv s->P i M->P j I0->Q (.bool (y i j)) s->wpAny (model prog w) A.in1 (richCompare (WY g) M I0) Q E s)/\
   (n=0->∀h' c,(∀b o,b∉f->a.heap.get? b=J o->h'.get? b=J o)->Q d {a with heap:=h',toks:=c})/\
   (0<n->∀v h' c,P (argBest y (n-1)) v->(∀b o,b∉f->a.heap.get? b=J o->h'.get? b=J o)->Q v {a with heap:=h',toks:=c})) E s):
 wpAny (model prog w) A (call (.builtin (Th g)) [x] [(Str.ofString "default",d)]) Q E s:=by
 cases g
 all_goals
  refine kmk_tree (xmP _).1 (xmP _).2 (xmE _) (NN _ _ _) ?_;refine XA (m:=Builtin.Builtins.bindParams _ ["key","default"] 0 ([],[(Str.ofString "default",d)])) (wpAny_of_eq (show _=pure [G,J d] from rfl) ?_);refine XA (XQ (XA (YO h (λO a t=>?_) λ_ _ e=>e)));let(I,u,f,n,P,St,y,Cv,rfl,W,st,F,Z,R,K,U,T):=t;refine XA (Ab7 ?_);have D:a.heap.objs.size∉u:=λz=>YW _ (F _ z);have V:a.heap.objs.size∉f:=λz=>D (W.sub _ z)
  first | rw[WN] | rw[WM]
  have p:=W.frame _ _ (a.heap.push {cls:=.type "list",dict:=G,data:=.seq ([]:L Value).toArray}) st λb _ o e=>XB _ e;have N:(a.heap.push {cls:=.type "list",dict:=G,data:=.seq ([]:L Value).toArray}).get? a.heap.objs.size=J {cls:=.type "list",dict:=G,data:=.seq ([]:L Value).toArray}:=XU _ rfl;refine XQ (Ac0 (RE _) _,Ad6 (Xb _) ?_);rw[Z2 (RE _) _];refine XA (m:=seqItems? (.ref a.heap.objs.size)) (wpAny_seqItems N rfl ?_);by_cases H:n=0
  .refine XA (m:=tryCatch (pyNext (.ref I)) _) (ZI (W.done _ _ _ (H▸p) λh' c kp=>?_));refine XA (m:=rule _) (wpAny_rule (XQ ?_));exact U H h' c λb o k e=>kp b o k (XB _ e)
  · have lt:0<n:=Nat.pos_of_ne_zero H;refine XA (m:=tryCatch (pyNext (.ref I)) _) (ZI (W.item 0 _ _ _ lt p λv h' c pv B kp=>?_));have q:=kp _ _ V N;refine XA (m:=updateSeq a.heap.objs.size (λ_=>#[v,v])) ?_;refine Ad7 q rfl ?_
    first | rw[WN] | rw[WM]
    refine XQ (Ac0 (RE _) _,Kn _ W _ y _ D Cv R K _ 0 _ v _ rfl lt (R a _ _ Z λb o k Y e=>(X3 _ _ (YS Y)).trans (kp b o k (XB _ e))) (W.frame _ _ _ B λb X o e=>?_) pv (Y5 _ q rfl) λS B1 l C r=>?_)
    .exact(X3 _ _ (λz:a.heap.objs.size=b=>D (by rw[z];exact X))).trans e
    .exact T lt S B1 l C λb o k e=>r b o k (X4 (XI e)) ((X3 _ _ (Nat.ne_of_gt (XI e))).trans (kp b o k (XB _ e)))
end
def qD(X:Cx)(f:Value)(ks:L Str)(r:L V->L V->Hp->VK->Prop):Prop:=
 ∀(a:L1) (s:Shared) (Z:St) (H:Hp) (xs b:L V) (us ws:L Value) (Q:VK),Inv X a Z H s->Vals xs us->Vals b ws->r xs b H Q->
  j1 X (call f us (ks.zip ws)) (EP X a Z Q) X.xe s
def L7(r:L V->L V->Hp->VK->Prop)(t b:TA):TE:=λZ H Q=>t Z H λvs H1=>b Z H1 λa c=>r vs a c Q
section
variable{X:Cx}{x:Str}{p pos:Pos}{e:Expr}{es:L Expr}{kws:L Keyword}{t tk:TA}{id:String}{ks:L Str}{r:L V->L V->Hp->VK->Prop}
def vJ(z:qD X (.builtin id) ks r)(w:Gl X x)(u:X.mg x=G)(o:bootBuiltins x=J (.builtin id))(A:PA X (e::es) t)(v:PK X kws tk)
 (d:(backToKw pos (keywordEach kws X.env)).filterMap (·.1)=ks:=by rfl) (q:x ≠ "__name__" := by decide) (g:(x==("__debug__" : Str))=false:=by decide)
 (y:backTo pos (starEach (e::es) X.env)=(false,eval e X.env)::backTo pos (starEach es X.env):=by rfl) (c:(backTo pos (starEach (e::es) X.env)).any (·.1)=false:=by rfl)
 (b:(backToKw pos (keywordEach kws X.env)).all (·.1.isSome)=true:=by rfl) (f:(backToKw pos (keywordEach kws X.env)).any (·.1.isNone)=false:=by rfl):
 PE X (.Call (.Name x p) (e::es) kws pos) (L7 r t tk):=by
 intro a s Z H Q I h;refine Y2 (qi I w u o ?_ q g);refine PyProof.Rows.callWith_kw (cf (A pos a s Z H _ I h) λus j (vs,H1,C,l,n)=>cf (v pos a j Z H1 _ C n) λws s2 (i,D,B,k,m)=>?_) y c b f;rw[d];exact z a s2 Z D vs i us ws Q B l k m
end
theorem lL:∀{ns:L Int} {us:L Value} {i:Nat} {u:Value},Vals (ns.map V.int) us->us[i]?=J u->∃t,u=.int (ns.getD i 0) t
 | [],us,i,u,r,e=>by
   cases r;cases e
 | n::ns,us,i,u,r,e=>by
   rw[Xz]at r;cases r with
   |cons b a=>
     cases i with
     |zero=>
       cases e;exact b
     |succ i=>
       show ∃t,u=.int (ns.getD i 0) t;exact lL (ns:=ns) (i:=i) a (by simpa using e)
theorem Sx{P:Program}{w:World}{A:Around}{R:Nat->Value->Prop}(v:Nat->Int)(h:∀i u,R i u->∃t,u=.int (v i) t):∀g,CmpOf P w A (WY g) R (cond g (λi j=>decide (v i>v j)) λi j=>decide (v i<v j))|false=>CmpOf.ints_lt v h|true=>CmpOf.ints_gt v h
theorem NH(v:Nat->Int)(k:Nat):∀g,argBest (cond g (λi j=>decide (v i>v j)) λi j=>decide (v i<v j)) k<=k/\∀j,j<=k->cond g (v j<=v (argBest (cond g (λi j=>decide (v i>v j)) λi j=>decide (v i<v j)) k)) (v (argBest (cond g (λi j=>decide (v i>v j)) λi j=>decide (v i<v j)) k)<=v j)|false=>argBest_lt v k|true=>argBest_gt v k
def AH(g:Bool){X:Cx}(T:X.calm=true):qD X (.builtin (Th g)) ["default"] (λxs y H Q=>∃p ns d,xs=[.ref p]/\y=[d]/\SqL X.K H p (ns.map V.int)/\(ns=[]->Q d H)/\∀m∈ns,(∀x∈ns,cond g (x<=m) (m<=x))->Q (.int m) H):=by
 intro B s Z H xs y us ws Q I r Cv h;let(p,ns,d,rfl,rfl,P,M,I0):=h;let(u,rfl,B1):=Vals.one r;have l:u=Value.ref p:=B1;subst l;let(dv,rfl,rd):=Vals.one Cv;let(its,k,pl,hz):=I.list P;have ln:ns.length=its.length:=by rw[<-k.length,Xv]
 let(N,c,w,n):=id pl.isList;have f:p<s.heap.objs.size:=XI c;refine Lk g (Ab5 pl.isList (s.heap.objs.size,_,_,_,_,_,_,λ_=>True,rfl,Walks.list (A:=X.A.in1) (I.ok.hd T) _ p (X4 f) its.toArray,((_,XU _ rfl,rfl,rfl),(N,XB _ c,w,n)),λb U=>?_,trivial,λ_ _ _ _ _=>trivial,λi j D C s Q E _=>Sx (R:=λi v=>its.toArray[i]?=J v) (λi=>ns.getD i 0) (λi v e=>lL k (by simpa using e)) g i j D C s Q E,λe h' F kp=>?_,λe v h' F pv kp=>?_))
 · rw[ZG];rcases XC.mp U with z|z
   .rw[z];exact ZS _
   · have a:b=p:=by simpa using z
     rw[a];exact Ab6 f
 · have W:ns=[]:=YY.mp (by rw[ln];simpa using e);refine(d,H,I.kept λb o q=>kp b o (λz=>?_) (XB _ q),rd,M W);have a:b=s.heap.objs.size:=by simpa using z
   exact absurd (XI q) (by rw[a];exact YW _)
 · have e':0<its.length:=by simpa using e
   have Y:its.toArray.size-1=ns.length-1:=by rw[XN,ln]
   rw[Y]at pv;let(b1,b2):=NH (λi=>ns.getD i 0) (ns.length-1) g;rw[List.getElem?_toArray]at pv;let(t,rfl):=lL k pv
   have up:∀i,i<ns.length->ns.getD i 0∈ns:=λi hi=>by
    rw[XV,XS hi];exact YU hi
   refine(.int _,H,I.kept λb o q=>kp b o (λz=>?_) (XB _ q),(t,rfl),I0 _ (up _ ∅) λx O=>?_)
   · have a:b=s.heap.objs.size:=by simpa using z
     exact absurd (XI q) (by rw[a];exact YW _)
   · let(j,S,rfl):=List.getElem_of_mem O
     have:=b2 j ∅
     rwa [show ns.getD j 0=ns[j] by rw[XV,XS S];rfl]at this
theorem Gj{X:Cx}(b:X.calm=true):qD X (.builtin "min") ["default"] (λxs a H Q=>∃p ns d,xs=[.ref p]/\a=[d]/\SqL X.K H p (ns.map V.int)/\(ns=[]->Q d H)/\∀m∈ns,(∀x∈ns,m<=x)->Q (.int m) H):=AH false b
theorem Gk{X:Cx}(b:X.calm=true):qD X (.builtin "max") ["default"] (λxs a H Q=>∃p ns d,xs=[.ref p]/\a=[d]/\SqL X.K H p (ns.map V.int)/\(ns=[]->Q d H)/\∀m∈ns,(∀x∈ns,x<=m)->Q (.int m) H):=AH true b
def dd(ns:L Int):L Int:=ns.foldl step_dedup []
def Bs(ns:L Int):(List.range ns.length).map (λi=>ns.getD i 0)=ns:=by
 apply Ab8;intro i;rw[Ye];by_cases h:i<ns.length
 .rw[Z9 h,XS h,Z7,XV,XS h];rfl
 .rw[X5 (by rw[ZJ];omega),X5 ∅];rfl
def zY(ns:L Int):firstMet (λi=>ns.getD i 0) ns.length=dd ns:=by
 ext firstMet dd;rw[Bs]
theorem Pc:∀(ns acc:L Int),ns.Nodup->(∀x∈ns,x∉acc)->ns.foldl step_dedup acc=acc++ns
 |[],acc,_,_=>by rw[List.foldl_nil,XY]
 | n::r,acc,h,hd=>by
   have c:=Yr.mp h
   have e:step_dedup acc n=acc++[n]:=by
    ext step_dedup;rw[if_neg];intro z;let(y,d,e):=List.any_eq_true.mp z;have a:y=n:=by simpa using e
    subst a;exact hd y Xw d
   rw[List.foldl_cons,e,Pc r (acc++[n]) c.2 λx b z=>?_,Yg]
   .rfl
   · rcases XJ.mp z with z|z
     .exact hd x (on _ b) z
     · have a:x=n:=by simpa using z
       subst a;exact c.1 b
def Kq{ns:L Int}(h:ns.Nodup):dd ns=ns:=by
 ext dd;rw[Pc ns [] h λ_ _ z=>nomatch z];rfl
section
variable{X:Cx}
def Ge(j:X.calm=true):fP X (.type "set") (λxs H Q=>∃p ns,xs=[.ref p]/\SqL X.K H p (ns.map V.int)/\ns.length<4000/\∀q,H q=G->Q (.ref q) (upd H q (.set (λk=>(dd ns).any (·==k)) (dd ns).length))):=by
 intro d s Z H xs us Q I r h;let(p,ns,rfl,i,n,q):=h;let(u,rfl,g):=Vals.one r;have a:u=Value.ref p:=g;subst a;let(its,c,pl,m):=I.list i;have ln:its.length=ns.length:=by rw[<-c.length,Xv]
 refine PySem.call_set_list (ns:=ns) (I.ok.hd j) pl.isList (by simpa using tN c) (by rw[List.size_toArray,ln];ext scanBound;omega) λh' l f kp=>?_;have es:its.toArray.size=ns.length:=by rw[List.size_toArray,ln]
 rw[es,zY]at f;exact(.ref s.heap.objs.size,_,I.laid (o:=.set _ _) (λb o e=>kp b o (XI e) e) (XH _) f,rfl,q _ (I.hok.fresh (XH _)))
def Gf:fP X (.builtin "len") (λxs H Q=>∃a S n,xs=[.ref a]/\H a=J (.set S n)/\Q (.int n) H):=by
 intro c s Z H xs us Q I r h;let(a,S,n,rfl,j,q):=h;let(u,rfl,d):=Vals.one r;have b:u=Value.ref a:=d;subst b;let(o,es,ep,t,e,hex,hd,_,_,i,g,f):=(show s.heap.SetOf (intKind X.prog X.w) a S n from I.hok a _ j);refine call_len_set e hex hd g (Int.lt_of_lt_of_le (Int.ofNat_lt.mpr i) (by ext scanBound;decide)) ?_;rw[f];exact(.int n,H,I.tok _,(_,rfl),q)
end
def RawD(h:Heap)(d:Addr)(es:Array DictEntry)(ep:Nat):Prop:=∃o,h.get? d=J o/\o.ExactDict/\o.data=.dict es ep
section
variable{prog:Program}{w:World}{A:Around}{E:L3}{s:Shared}{d it:Addr}{es:Array DictEntry}{ep i:Nat}
def RawD.typeIs(x:RawD s.heap d es ep):s.TypeIs (.ref d) "dict" := by
 let(o,b,a,_):=x;exact(o,b,a.1)
def HH{Q:L3}(c:(d==sysModules)=false)(x:RawD s.heap d es ep)
 (e:Q (.ref s.heap.objs.size) {s with heap:=s.heap.push {cls:=.type "dict_keyiterator",data:=.fields #[.ref d,.int 0 0,.int es.size 0,.int ep 0]}}):wpAny (model prog w) A (pyIter (.ref d)) Q E s:=by
 have a:=x.typeIs;let(o,b,f,hd):=x;refine wpAny_pyIter_slot a PySem.F.slot_dict_iter (wpAny_call_entry PySem.F.slot_dict_iter a PySem.F.entry_dict_iter ?_ (PySem.F.args_dict_iter_1 _));ext Builtin.«dict.__iter__» Builtin.Dict.dictSlotNone;refine wpAny_bind (wpAny_bind (wpAny_notOrdered_dict a (wpAny_pure ?_)));refine wpAny_bind (m:=Builtin.Dict.showsAll d) ?_;ext Builtin.Dict.showsAll;rw[if_neg (by rw[c];exact Bool.false_ne_true)];refine wpAny_pure (wpAny_bind (wpAny_dictEntries b hd (wpAny_bind (wpAny_dictEpoch b hd ?_))));exact wpAny_bind (wpAny_newObj_type (wpAny_pure (_,rfl, "dict_keyiterator",_,(_,Heap.get?_push_size _ rfl,rfl),PySem.F.slot_dict_keyiterator_next.lookup,e)))
def HI{Q:Option Value->Shared->Prop}(a:s.heap.IsKeyIter it d i es.size ep)(x:RawD s.heap d es ep)(g:i<es.size)
 (j:∀h',h'.IsKeyIter it d (i+1) es.size ep->Heap.SameBut it s.heap h'->Q (J es[i].key) {s with heap:=h'}):wpAny (model prog w) A (pyNext (.ref it)) Q E s:=by
 let(o,f,h,hd):=id a;let(k,c,_,e):=id x;ext pyNext;refine wpAny_bind (wpAny_attempt (wpAny_callSpecial?_slot (name:=Str.ofString "__next__") a.typeIs PySem.F.slot_dict_keyiterator_next (wpAny_call_entry PySem.F.slot_dict_keyiterator_next a.typeIs PySem.F.entry_dict_keyiterator_next ?_ (PySem.F.args_dict_keyiterator_next_1 _))));refine wpAny_bind (wpAny_pure (wpAny_bind (wpAny_bind ?_)))
 first | refine XA (YX a.typeIs (XQ ?_)) | refine XA (Za a.typeIs (XQ ?_))
 refine XA (wpAny_fieldsOf f hd ?_);simp only[show Builtin.Dict_items.ownsTuple "dict_keyiterator" = false from by decide,Zg,Z1];show wpAny _ _ (if (Value.ref d==Value.none)=true then _ else _) _ _ s;rw[Xy (show ¬ ((Value.ref d==Value.none)=true) from XO)];refine XA (XQ (XA (wpAny_dictEntries c e ?_)));rw[Xy ()];refine XA (XQ (XA (wpAny_dictEpoch c e ?_)));rw[Xy ()];refine XQ ?_;simp only[show ¬ ((i:Int)<0) from by omega,Z1,Int.toNat_natCast,Yy g];refine XA ?_
 first | refine XA (YX a.typeIs (XQ ?_)) | refine XA (Za a.typeIs (XQ ?_))
 refine XA (wpAny_isOneOf_keyiter a.typeIs ?_);refine XA (m:=setField (.ref it) 1 (rawInt ((i:Int)+1))) (Aa8 f hd () ?_)
 have b:(s.heap.update it (Obj.mapFields (·.setIfInBounds 1 (rawInt ((i:Int)+1))))).IsKeyIter it d (i+1) es.size ep:=
  (_,Y5 _ f (ZP (Y3 hd _)),(Obj.cls_mapFields ..).trans h,by rw[Y3 hd];simp[rawInt])
 refine XA (Zy ?_);refine XA (wpAny_isOneOf_keyiter (s:={s with heap:=s.heap.update it (Obj.mapFields (·.setIfInBounds 1 (rawInt ((i:Int)+1))))}) b.typeIs ?_);exact XQ (XQ (_,rfl,XQ (j _ b (Zv ..))))
def MB{Q:Option Value->Shared->Prop}(h:A.handled=G)(c:s.heap.IsKeyIter it d es.size es.size ep)(x:RawD s.heap d es ep)
 (i:∀h',Heap.ExtBut it s.heap h'->Q G {s with heap:=h'}):wpAny (model prog w) A (pyNext (.ref it)) Q E s:=by
 let(o,g,k,hd):=id c;let(j,e,_,f):=id x;ext pyNext;refine wpAny_bind (wpAny_attempt (wpAny_callSpecial?_slot (name:=Str.ofString "__next__") c.typeIs PySem.F.slot_dict_keyiterator_next (wpAny_call_entry PySem.F.slot_dict_keyiterator_next c.typeIs PySem.F.entry_dict_keyiterator_next ?_ (PySem.F.args_dict_keyiterator_next_1 _))));refine wpAny_bind (wpAny_pure (wpAny_bind (wpAny_bind ?_)))
 first | refine XA (YX c.typeIs (XQ ?_)) | refine XA (Za c.typeIs (XQ ?_))
 refine XA (wpAny_fieldsOf g hd ?_);simp only[show Builtin.Dict_items.ownsTuple "dict_keyiterator" = false from by decide,Zg,Z1];show wpAny _ _ (if (Value.ref d==Value.none)=true then _ else _) _ _ s;rw[Xy (show ¬ ((Value.ref d==Value.none)=true) from XO)];refine XA (XQ (XA (wpAny_dictEntries e f ?_)));rw[Xy ()];refine XA (XQ (XA (wpAny_dictEpoch e f ?_)));rw[Xy ()];refine XQ ?_;simp only[show ¬ ((es.size:Int)<0) from by omega,Z1,Int.toNat_natCast,Ad1 (XH _)];refine XA ?_
 first | refine XA (YX c.typeIs (XQ ?_)) | refine XA (Za c.typeIs (XQ ?_))
 refine XA (m:=setField (.ref it) 0 .none) (Aa8 g hd () ?_);refine XA (m:=newExc (.type "StopIteration") []) ?_;simp only[newExc,newTuple];refine XA (Ab7 ?_ (by size_fits));refine XA (m:=firstArgMember _ _) (wpAny_of_eq (a:=Value.none) (by first | rfl | (simp only[firstArgMember];rfl)) ?_);refine Ab7 ?_ (by size_fits);simp only[raiseNew];refine XA (wpAny_handled ?_);rw[show A.in1.handled=G from h];refine XA (XQ (wpAny_throw ?_));refine XA (wpAny_isInstance (T := "StopIteration") (b:=true) (_,XU _ rfl,rfl) isSubtype_stop ?_);exact XQ (i _ (((Zv ..).extBut.push _).push _))
theorem Fx(n:A.handled=G)(I d:Addr)(k:d≠I)(es:Array DictEntry)(ep:Nat):
 Walks prog w A I [I,d] [I] es.size (λi v=>∃e,es[i]?=J e/\v=e.key) (λi h=>h.IsKeyIter I d i es.size ep/\RawD h d es ep) where
 sub:=λb f=>by
  have e:b=I:=by simpa using f
  rw[e];exact Xw
 frame:=λ_ _ _ st m=>(st.1.at λo e=>m I () o e,let (o,j,r):=st.2;(o,m d () o j,r))
 item:=λi s Q E hi st g=>HI st.1 st.2 hi λh' c a=>by
  let(o,j,r):=st.2;exact g _ h' s.toks (es[i],Yy hi,rfl) (c,o,a.extBut d o k j,r) λb o f e=>a.extBut b o (λz=>f (by simp[z])) e
 done:=λs Q E st g=>MB n st.1 st.2 λh' l=>g h' s.toks λb o f e=>l b o (λz=>f (by simp[z])) e
 self:=λ_ _ _ _ st g=>wpAny_pyIter_keyiter st.1 g
theorem Dk(lo:(d==sysModules)=false):PySem.W.KdlSrc prog w "dict" d d es.size (λi v=>∃e,es[i]?=J e/\v=e.key) (λh=>RawD h d es ep) where
 type:=λ_ x=>x.typeIs
 there:=λ_ x=>let (_,a,_):=x;(XI a,XI a)
 keep:=λ_ _ x c=>let (o,a,r):=x;(o,c d (.inl rfl) o a,r)
 notList:=by decide
 notTuple:=by decide
 hint:=λ_ _ _ _ x b=>PySem.W.kdl_hint_dict x.typeIs b
 iter:=λ_ _ f x=>(_,_,(λ_ _ b=>HH lo x b),Fx f _ d (let (_,a,_):=x;X4 (XI a)) es ep,((_,XU _ rfl,rfl,rfl),let (o,a,r):=x;(o,XB _ a,r)))
end
theorem vV{x:L cL×Addr×Value}:(entryOfKey (tupleKind (cN P w)) x).key=.ref x.2.1:=rfl
def ls{X:Cx}(U:X.calm=true):fP X (.type "list") (λxs H Q=>∃a d,xs=[.ref a]/\Rd H a (.dT d)/\
 ∀(ks:L Addr) (l:Addr),ks.length=d.length->(∀(i:Nat) k v b,d[i]?=J (k,v)->ks[i]?=J b->H b=J (.tup (k.map kV)))->H l=G->Q (.ref l) (upd H l (.lst (ks.map V.ref)))):=by
 intro I0 s Z H xs us Q I r h;let(a,d,rfl,Y,q):=h;let(u,rfl,N):=Vals.one r;have Cv:u=Value.ref a:=N;subst Cv;let(z,hd,ys,A,o,es,ep,R,O,E,C,S):=(show ObjOk X.prog X.w H s.heap a (.dT d) from Y.ok I.hok);have f:d.length=ys.length:=ZX A
 have j:es.size=ys.length:=by
  have e:=congrArg List.length C
  rwa [Xv,YD]at e
 refine PySem.W.kdl_call (Dk hd) (I.ok.hd U) (o,R,O,E) (by rw[j,<-f];exact z) λh' tk c c' kp hD g=>?_
 have keys:c.toList=(ys.map λy=>y.2.1).map Value.ref:=by
  apply Ab8;intro i;rw[Ye,Ye];cases n:ys[i]? with
  |none=>
    have hi:ys.length<=i:=YG.mp n;rw[X5 (by rw[YD,g.1];omega)];rfl
  |some y=>
    have hi:i<ys.length:=(XZ.mp n).1;have B:i<c.size:=by rw[g.1,j];exact hi
    let(e,T,P):=g.2 i c[i] (Yy B);have D:es.toList[i]?=J e:=by rw[YJ];exact T
    rw[C,Ye,n]at D;have ee:entryOfKey (tupleKind (cN X.prog X.w)) y=e:=Yc D;rw[YJ,Yy B,P,<-ee,vV];rfl
 have M:∀l:L Addr,Vals (l.map V.ref) (l.map Value.ref):=λl=>by
  induction l with
  |nil=>exact .nil
  |cons x t K=>exact .cons rfl K
 refine(.ref s.heap.objs.size,_,I.laid kp (XH _) ?_,rfl,q (ys.map λy=>y.2.1) _ (by rw[Xv];exact f.symm) (λi k v b F m=>?_) (I.hok.fresh (XH _)))
 .refine(by rw[Xv,Xv,<-f];exact z,c.toList,c',by rw[keys];exact M _,?_);rw[Array.toArray_toList];exact hD
 · rw[Ye]at m;cases n:ys[i]? with
   |none=>rw[n]at m;cases m
   |some y=>
     rw[n]at m;have eb:y.2.1=b:=Yc m
     have pr:∀{B1:L (L cL×V)} {l2:L (L cL×Addr×Value)},Paired (λ(p:L cL×V) (q:L cL×Addr×Value)=>p.1=q.1/\H q.2.1=J (.tup (p.1.map kV))/\RelV p.2 q.2.2) B1 l2->
      ∀{i:Nat} {p q},B1[i]?=J p->l2[i]?=J q->H q.2.1=J (.tup (p.1.map kV)):=by
      intro B1 l2 hp
      induction hp with
      |nil=>intro i p q e;cases e
      |cons h1 _ K=>
        intro i p q F m;cases i with
        |zero=>cases F;cases m;exact h1.2.1
        |succ i=>exact K F m
     rw[<-eb];exact pr A F n
theorem gJ:∀xs:L Int,HT.cU xs xs=false
 |[]=>rfl
 |x::xs=>by rw[HT.dI,Xx rfl,gJ xs]
end L2
namespace Gd
open PySem L2
def dN:bootBuiltins "len" = J (.builtin "len"):=by decide +kernel
def SQ:bootBuiltins "min" = J (.builtin "min"):=by decide +kernel
def SR:bootBuiltins "max" = J (.builtin "max"):=by decide +kernel
def fN:bootBuiltins "isinstance" = J (.builtin "isinstance"):=by decide +kernel
def ku:bootBuiltins "sorted" = J (.builtin "sorted"):=by decide +kernel
def SN:bootBuiltins "set" = J (.type "set"):=by decide +kernel
def ng:bootBuiltins "list" = J (.type "list"):=by decide +kernel
def AI:bootBuiltins "tuple" = J (.type "tuple"):=by decide +kernel
def SS:bootBuiltins "int" = J (.type "int"):=by decide +kernel
def CC:bootBuiltins "str" = J (.type "str"):=by decide +kernel
theorem yW{H:Hp}(h:H q=G)(e:Same H H'):Same H (upd H' q o):=λb u z=>by
 rw[bq (bD z h)];exact e b u z
theorem cg{H:Hp}(h:H q=G):Same H (upd H q o):=yW h (Same.refl H)
def mW(e:PySem.Expr):Scope:=match e with
 |.ListComp _ _ sc _=>sc
 |_=>{kind:=.function,names:=[],isGenerator:=false,isCoroutine:=false,more:=[]}
def vn(s:Stmt):PySem.Expr:=match s with
 |.Assign _ v _=>v
 |.Return (J v) _=>v
 |.Expr v _=>v
 |.For _ a _ _ _=>a
 |.If t _ _ _=>t
 |_=> .Constant .none 0 (0,0,0,0)
def nth(l:L Stmt)(i:Nat):Stmt:=l.getD i (.Pass (0,0,0,0))
abbrev AL:=L (L Int×Int)
abbrev kI(k:L Int):L cL:=k.map Sum.inl
def dC(D:AL):L (L cL×V):=D.map λp=>(kI p.1,V.int p.2)
def look(D:AL)(k:L Int):Option Int:=(D.find? λp=>decide (p.1=k)).map (·.2)
end Gd
namespace L2
open PySem PySem.Spec PyProof.Rows
theorem si:∀{bs:L Bool} {us:L Value} {i:Nat} {u:Value},Vals (bs.map V.bl) us->us[i]?=J u->u=.bool (bs.getD i false)
 | [],us,i,u,r,e=>by
   cases r;cases e
 | b::bs,us,i,u,r,e=>by
   rw[Xz]at r;cases r with
   |cons c a=>
     cases i with
     |zero=>
       cases e;exact c
     |succ i=>
       show u=.bool (bs.getD i false);exact si (bs:=bs) (i:=i) a (by simpa using e)
def sG(bs:L Bool):((List.range bs.length).any λi=>bs.getD i false)=bs.any id:=by
 induction bs with
 |nil=>rfl
 |cons b bs a=>
   rw[XD,Ad2,ZZ,List.any_map,ZZ,<-a];rfl
def Gi{X:Cx}(w:X.calm=true):fP X (.builtin "any") (λxs H Q=>∃p,∃bs:L Bool,xs=[.ref p]/\SqL X.K H p (bs.map V.bl)/\Q (.bl (bs.any id)) H):=by
 intro k s Z H xs us Q I r h;let(p,bs,rfl,t,q):=h;let(u,rfl,m):=Vals.one r;have c:u=Value.ref p:=m;subst c;let(its,j,pl,C):=I.list t;have ln:bs.length=its.length:=by rw[<-j.length,Xv]
 let(n,a,g,f):=id pl.isList;have d:p<s.heap.objs.size:=XI a;refine call_any_walk (Ab5 pl.isList (s.heap.objs.size,_,_,_,_,_,λi=>bs.getD i false,rfl,Walks.list (A:=X.A.in1) (I.ok.hd w) _ p (X4 d) its.toArray,((_,XU _ rfl,rfl,rfl),(n,XB _ a,g,f)),λi v s' Q' D y x=>?_,λh' B kp=>?_))
 .have e:=si j (i:=i) (u:=v) (by simpa using y);rw[e];exact Zj x
 · have e:((List.range its.toArray.size).any λi=>bs.getD i false)=bs.any id:=by
    rw[XN,<-ln];exact sG bs
   rw[e];refine(.bl _,H,I.kept λb o q=>kp b o (λz=>?_) (XB _ q),rfl,q);have l:b=s.heap.objs.size:=by simpa using z
   exact absurd (XI q) (by rw[l];exact YW _)
end L2
namespace Mi
open PySem L2
inductive D where
 |non|bl (b:Bool)|int (i:Int)|str (x:Str)|ty (n:String)
 |lst (xs:List D)|tup (xs:List D)|scr (xs:List D)
 |dK (ks:List cL) (vs:List D)|dT (ks:List (List cL)) (vs:List D)
 |obj (c:Nat) (ns:List Str) (vs:List D)
abbrev LK:=L (Option D)
inductive Res (W:Type) where
 |ok (a:W)|exc (c:Nat)|bad
inductive Out (W:Type) where
 |ok (a:W) (T:LK)|exc (c:Nat) (T:LK)|bad
inductive SO where
 |nx (T:LK)|rt (d:D) (T:LK)|bk (T:LK)|ct (T:LK)|exc (c:Nat) (T:LK)|bad
@[simp] def Res.bind{W X:Type}:Res W->(W->Res X)->Res X
 |.ok a,f=>f a
 |.exc c,_=>.exc c
 |.bad,_=>.bad
@[simp] def Res.calm{W:Type}:Res W->Res W
 |.ok a=>.ok a
 |_=>.bad
@[simp] def Out.bind{W X:Type}:Out W->(W->LK->Out X)->Out X
 |.ok a T,f=>f a T
 |.exc c T,_=>.exc c T
 |.bad,_=>.bad
@[simp] def Res.up{W:Type}(T:LK):Res W->Out W
 |.ok a=>.ok a T
 |.exc c=>.exc c T
 |.bad=>.bad
def rg{W:Type}(l:L (Option W))(i:Nat):Option W:=(l[i]?).join
@[simp] def vr(i:Nat):LK->Res D:=λT=>match rg T i with|some d=>.ok d|none=>.bad
def aD(d:D):LK->Res D:=λ_=>.ok d
def un(f:D->Res D)(a:LK->Res D):LK->Res D:=λT=>(a T).bind f
def bn(f:D->D->Res D)(a b:LK->Res D):LK->Res D:=λT=>(a T).bind λx=>(b T).bind λy=>f x y
def ak:Nat:=1000000
def iI(g:Int->Int->Int):D->D->Res D | .int i,.int j=>.ok (.int (g i j))|_,_=>.bad
def iB(g:Int->Int->Bool):D->D->Res D | .int i,.int j=>.ok (.bl (g i j))|_,_=>.bad
def iC(C:Int->Int->Bool)(g:Int->Int->Int):D->D->Res D | .int i,.int j=>if C i j=true then .ok (.int (g i j)) else .bad|_,_=>.bad
def lJ:=iI λi j=>i+j
def yP:=iI λi j=>i-j
def xo:=iC (λi j=>decide ((-(2 ^ 64)<i/\i<2 ^ 64)\/(-(2 ^ 64)<j/\j<2 ^ 64))) λi j=>i*j
def fK:=iC (λ_ j=>decide (0<j/\j<1073741824)) λi j=>i / j
def dH:=iC (λ_ j=>decide (0<j)) λi j=>i%j
def H8:=iC (λi j=>decide (0<=j/\j<=1000000/\i.natAbs<2 ^ 64)) λi j=>i ^ j.toNat
def GX:=iC (λ_ j=>decide (0<=j)) λi j=>i / 2 ^ j.toNat
def Gr:=iB λi j=>decide (i<j)
def LO:=iB λi j=>decide (j<i)
def WS:=iB λi j=>decide (j<=i)
@[simp] theorem Wy(i j:Int):lJ (.int i) (.int j)=.ok (.int (i+j)):=rfl
@[simp] theorem TF(i j:Int):yP (.int i) (.int j)=.ok (.int (i-j)):=rfl
@[simp] theorem IM(i j:Int):xo (.int i) (.int j)=if (-(2 ^ 64)<i/\i<2 ^ 64)\/(-(2 ^ 64)<j/\j<2 ^ 64) then .ok (.int (i*j)) else .bad:=by simp[xo,iC]
@[simp] theorem FY(i j:Int):fK (.int i) (.int j)=if 0<j/\j<1073741824 then .ok (.int (i / j)) else .bad:=by simp[fK,iC]
@[simp] theorem Ja(i j:Int):dH (.int i) (.int j)=if 0<j then .ok (.int (i%j)) else .bad:=by simp[dH,iC]
@[simp] theorem HZ(i j:Int):H8 (.int i) (.int j)=if 0<=j/\j<=1000000/\i.natAbs<2 ^ 64 then .ok (.int (i ^ j.toNat)) else .bad:=by simp[H8,iC]
@[simp] theorem GW(i j:Int):GX (.int i) (.int j)=if 0<=j then .ok (.int (i / 2 ^ j.toNat)) else .bad:=by simp[GX,iC]
@[simp] theorem WO(i j:Int):Gr (.int i) (.int j)=.ok (.bl (decide (i<j))):=rfl
@[simp] theorem WQ(i j:Int):LO (.int i) (.int j)=.ok (.bl (decide (j<i))):=rfl
@[simp] theorem WR(i j:Int):WS (.int i) (.int j)=.ok (.bl (decide (j<=i))):=rfl
def FF:D->Res D | .int i=>.ok (.int (-i))|_=>.bad
def lI(neg:Bool):D->D->Res D
 |.int i,.int j=>.ok (.bl (neg.xor (decide (i=j))))
 |.str i,.str j=>.ok (.bl (neg.xor (decide (i=j))))
 |.bl i,.bl j=>.ok (.bl (neg.xor (decide (i=j))))
 |.non,.int _=>.ok (.bl neg)
 |.int _,.non=>.ok (.bl neg)
 |.non,.non=>.ok (.bl (!neg))
 |_,_=>.bad
def kO:D->Res D
 |.lst xs=>.ok (.int xs.length)
 |.tup xs=>.ok (.int xs.length)
 |.scr xs=>.ok (.int xs.length)
 |_=>.bad
def NM(xs:L D)(i:Int):Res D:=match jq xs i with|some d=>.ok d|none=>.bad
def qV:D->D->Res D | .lst xs,.int i=>NM xs i | .scr xs,.int i=>NM xs i|_,_=>.bad
def Gu:D->D->Res D | .tup xs,.int i=>NM xs i|_,_=>.bad
def iQ:D->D->Res D | .lst xs,.lst ys=>if xs.length+ys.length<=ak then .ok (.lst (xs++ys)) else .bad|_,_=>.bad
def tw:D->Res D | .lst xs=>.ok (.lst xs) | .scr xs=>.ok (.lst xs) | .tup xs=>.ok (.lst xs)|_=>.bad
def qU:D->Option cL | .int i=>J (.inl i) | .str x=>J (.inr x)|_=>G
def iz:L D->Option (L cL)
 |[]=>J []
 |d::r=>match qU d,iz r with|some k,J ks=>J (k::ks)|_,_=>G
section
variable{X:Type}[DecidableEq X]
def fe:L X->L D->X->Option D
 |k::ks,d::ds,j=>if k=j then J d else fe ks ds j
 |_,_,_=>G
def gt(ks:L X)(j:X):Bool:=ks.any λk=>decide (k=j)
def qb:L X->L D->X->D->L D
 |k::ks,d::ds,j,x=>(if k=j then x else d)::qb ks ds j x
 |_,_,_,_=>[]
def jB:L X->L D->X->D->L D
 |k::ks,d::ds,j,x=>if k=j then x::ds else d::jB ks ds j x
 |_,_,_,_=>[]
end
def qX:D->D->Option (Option D)
 |.dT ks vs,.tup k=>(iz k).map λk=>fe ks vs k
 |.dK ks vs,k=>(qU k).map λk=>fe ks vs k
 |_,_=>G
def ny(d k:D):Res D:=match qX d k with|some (J x)=>.ok x|_=>.bad
def Cg(neg:Bool)(k d:D):Res D:=match qX d k with|some x=>.ok (.bl (neg.xor x.isSome))|none=>.bad
def xH(d k x:D):Res D:=match qX d k with|some (J y)=>.ok y|some G=>.ok x|none=>.bad
def Aa:D->D->D->Option D
 |.dT ks vs,.tup k,x=>(iz k).bind λk=>if ks.length<ak then J (if gt ks k=true then .dT ks (qb ks vs k x) else .dT (ks++[k]) (vs++[x])) else G
 |.dK ks vs,k,x=>(qU k).bind λk=>if ks.length<ak then J (if gt ks k=true then .dK ks (qb ks vs k x) else .dK (ks++[k]) (vs++[x])) else G
 |_,_,_=>G
def jg(c:Nat)(f:Str):D->Res D
 |.obj c' ns vs=>if c'=c then (match fe ns vs f with|some x=>.ok x|none=>.bad) else .bad
 |_=>.bad
def Ds(a:Nat)(f:Str)(x:D):D->Option D
 |.obj c ns vs=>if c=a/\ns.length<900 then J (if gt ns f=true then .obj c ns (jB ns vs f x) else .obj c (ns++[f]) (vs++[x])) else G
 |_=>G
def LW:D->Res Bool | .bl b=>.ok b|_=>.bad
def RS(c:LK->Res Bool)(a b:LK->Res D):LK->Res D:=λT=>(c T).bind λc=>if c=true then a T else b T
def bO:LK->Res (L D):=λ_=>.ok []
def aM(a:LK->Res D)(r:LK->Res (L D)):LK->Res (L D):=λT=>(a T).bind λx=>(r T).bind λxs=>.ok (x::xs)
def iU(r:LK->Res (L D)):LK->Res D:=λT=>(r T).bind λxs=>if xs.length<=ak then .ok (.lst xs) else .bad
def DD(r:LK->Res (L D)):LK->Res D:=λT=>(r T).bind λxs=>if xs.length<=ak then .ok (.tup xs) else .bad
def im(T:LK)(ix:L Nat):LK:=ix.map λj=>rg T j
def gP(a:LK->Res Bool)(te:LK->Res D)(cap:LK):L D->Res (L D)
 |[]=>.ok []
 |d::r=>(a (J d::cap)).calm.bind λc=>if c=true then (te (J d::cap)).calm.bind λx=>(gP a te cap r).bind λxs=>.ok (x::xs) else gP a te cap r
def pK(src:LK->Res (L D))(ix:L Nat)(a:LK->Res Bool)(te:LK->Res D):LK->Res D:=λT=>(src T).bind λxs=>if xs.length<ak then (gP a te (im T ix) xs).bind λys=>.ok (.lst ys) else .bad
def i3(a:LK->Res D):LK->Res (L D):=λT=>(a T).bind λd=>match d with | .lst xs=>.ok xs | .scr xs=>.ok xs|_=>.bad
def rng(lo hi:Int):L D:=(List.range (hi-lo).toNat).map λi:Nat=>D.int (lo+i)
def GM(a b:LK->Res D):LK->Res (L D):=λT=>(a T).bind λx=>(b T).bind λy=>match x,y with
 |.int i,.int j=>if -(2 ^ 62)<=i/\i<2 ^ 62/\-(2 ^ 62)<=j/\j<2 ^ 62 then .ok (rng i j) else .bad
 |_,_=>.bad
def lA(b:LK->Res D):LK->Res (L D):=GM (aD (.int 0)) b
def aG(a b:LK->SO):LK->SO:=λT=>match a T with | .nx C=>b C | o=>o
def cz:LK->SO:=λT=>.nx T
@[simp] def nh{W:Type}:Out W->(W->LK->SO)->SO
 |.ok a T,f=>f a T
 |.exc c T,_=>.exc c T
 |.bad,_=>.bad
abbrev MD:=LK->Out D
def a8{W:Type}(a:LK->Res W):LK->Out W:=λT=>(a T).up T
def dE(a:MD):LK->SO:=λT=>nh (a T) λd C=>.rt d C
def b8(a:MD):LK->SO:=λT=>nh (a T) λ_ C=>.nx C
def bM(i:Nat)(a:MD):LK->SO:=λT=>nh (a T) λd C=>.nx (C.set i (J d))
def kB(c:LK->Out Bool)(a b:LK->SO):LK->SO:=λT=>nh (c T) λt C=>if t=true then a C else b C
def xz(a:D->LK->Option LK)(body:LK->SO):L D->LK->SO
 |[],T=>.nx T
 | d::ds,T=>match a d T with
   |none=>.bad
   | some b=>match body b with
     |.nx C=>xz a body ds C
     |.ct C=>xz a body ds C
     |.bk C=>.nx C
     |o=>o
def gp(src:LK->Out (L D))(a:D->LK->Option LK)(body:LK->SO):LK->SO:=λT=>nh (src T) λxs C=>xz a body xs C
def E6(c:LK->Out Bool)(body:LK->SO):Nat->LK->SO
 |0,_=>.bad
 | n+1,T=>nh (c T) λt a=>if t=true then (match body a with
    |.nx C=>E6 c body n C
    |.ct C=>E6 c body n C
    |.bk C=>.nx C
    |o=>o) else .nx a
def yD(i:Nat):D->LK->Option LK:=λd T=>J (T.set i (J d))
def Tq(i j:Nat):D->LK->Option LK:=λd T=>match d with | .tup [x,y]=>J ((T.set i (J x)).set j (J y))|_=>G
def run(k:Nat)(body:LK->SO)(ds:L D):Out D:=match body (ds.map J++List.replicate (k-ds.length) G) with
 |.nx T=>.ok .non T
 |.rt d T=>.ok d T
 |.exc c T=>.exc c T
 |_=>.bad
structure Cm where
 f:Nat->Addr
 K:L0
 tb:Tbs
instance:CoeFun Cm λ_=>Nat->Addr:=⟨Cm.f⟩
def SqF(K:L0)(B:Hp)(a:Addr)(xs:L V):Prop:=(∃o,B a=J (.frz o (.lst xs)))\/
 ∃(o:Obj) (its:Array Value) (n:Nat),K.lookup a=J o/\o.cls=.type "list" /\ o.dict=G/\o.data=.seq its n/\its.size<=sizeLine/\Vals xs its.toList
def SqF.mono{K:L0}(h:SqF K B a xs)(e:Same B S):SqF K S a xs:=by
 rcases h with ⟨o,h⟩|h
 .exact .inl (o,e _ _ h)
 .exact .inr h
def SqF.sq{K:L0}(h:SqF K H a xs):SqL K H a xs:=by
 rcases h with ⟨o,h⟩|h
 .exact .inl (.inr (o,h))
 .exact .inr h
def wV(e:Same B S)(h:Rd B a u):Rd S a u:=by
 rcases h with h|⟨o,h⟩
 .exact .inl (e _ _ h)
 .exact .inr (o,e _ _ h)
section
variable(Y:Cm)
mutual
def Dn(B:Hp):D->V->Prop
 |.non,v=>v=.non
 |.bl b,v=>v=.bl b
 |.int i,v=>v=.int i
 |.str x,v=>v=.str x
 |.ty n,v=>v=.ty n
 |.lst ds,v=>∃a xs,v=.ref a/\B a=J (.lst xs)/\Dns B ds xs
 |.scr ds,v=>∃a xs,v=.ref a/\SqF Y.K B a xs/\Dns B ds xs
 |.tup ds,v=>∃a xs,v=.ref a/\B a=J (.tup xs)/\Dns B ds xs
 |.dK ks ds,v=>∃(a:Addr) (d:L (cL×V)),v=.ref a/\B a=J (.dK d)/\d.map (·.1)=ks/\Dns B ds (d.map (·.2))
 |.dT ks ds,v=>∃(a:Addr) (d:L (L cL×V)),v=.ref a/\Rd B a (.dT d)/\d.map (·.1)=ks/\Dns B ds (d.map (·.2))
 |.obj c ns ds,v=>∃(a dx:Addr) (fs:L (Str×V)),v=.ref a/\B a=J (.ins (Y c) dx fs)/\fs.map (·.1)=ns/\Dns B ds (fs.map (·.2))
def Dns(B:Hp):L D->L V->Prop
 |[],xs=>xs=[]
 |d::ds,xs=>∃x r,xs=x::r/\Dn B d x/\Dns B ds r
end
inductive Sh where
 |fz|ct (s:Sh)|ob (fs:List (Str×Sh))|dp
mutual
def Ow(B H:Hp):D->Sh->V->L Addr->Prop
 |d,.fz,v,A=>Dn Y B d v/\A=[]
 |.lst ds,.ct s,v,A=>∃a xs e,v=.ref a/\H a=J (.lst xs)/\A=a::e/\Ows B H ds s xs e
 |.dK ks ds,.ct s,v,A=>∃(a:Addr) (b:L (cL×V)) (e:L Addr),v=.ref a/\H a=J (.dK b)/\b.map (·.1)=ks/\A=a::e/\Ows B H ds s (b.map (·.2)) e
 |.dT ks ds,.ct s,v,A=>∃(a:Addr) (b:L (L cL×V)) (e:L Addr),v=.ref a/\H a=J (.dT b)/\b.map (·.1)=ks/\A=a::e/\Ows B H ds s (b.map (·.2)) e
 |.obj c ns ds,.ob fs,v,A=>∃(a dx:Addr) (xs:L (Str×V)) (e:L Addr),v=.ref a/\H a=J (.ins (Y c) dx xs)/\xs.map (·.1)=ns/\A=a::e/\Owf B H ds ns fs (xs.map (·.2)) e
 |.lst ds,.dp,v,A=>∃a xs e,v=.ref a/\H a=J (.lst xs)/\A=a::e/\Ows B H ds .dp xs e
 |d,.dp,v,A=>Dn Y B d v/\A=[]
 |_,_,_,_=>False
def Ows(B H:Hp):L D->Sh->L V->L Addr->Prop
 |[],_,xs,A=>xs=[]/\A=[]
 |d::ds,s,xs,A=>∃x r A1 a,xs=x::r/\A=A1++a/\Ow B H d s x A1/\Ows B H ds s r a
def Owf(B H:Hp):L D->L Str->L (Str×Sh)->L V->L Addr->Prop
 |[],_,_,xs,A=>xs=[]/\A=[]
 |d::ds,ns,fs,xs,A=>∃n a x r A1 b,ns=n::a/\xs=x::r/\A=A1++b/\Ow B H d ((fs.lookup n).getD .fz) x A1/\Owf B H ds a fs r b
end
inductive Md where
 |F|R|O (s:Sh)
def LoV(B U H:Hp)(m:Md)(d:D)(v:V)(A:L Addr):Prop:=
 match m with
 |.F=>Dn Y B d v/\A=[]
 |.R=>Dn Y U d v/\A=[]
 |.O sh=>Ow Y B H d sh v A
def Lo(B U H:Hp)(m:Md)(o:Option D)(s:Option V)(A:L Addr):Prop:=
 match o with
 |none=>A=[]
 |some d=>∃v,s=J v/\LoV Y B U H m d v A
structure Rel (M:L Md) (B U:Hp) (I0:Nat->L Addr) (Z:St) (H:Hp) (T:LK):Prop where
 bu:Same B U
 uh:Same U H
 nd:∀i,(I0 i).Nodup
 dj:∀i j a,i≠j->a∈I0 i->a∉I0 j
 un:∀i a,a∈I0 i->U a=G
 lo:∀i,Lo Y B U H (M.getD i .F) (rg T i) (rg Z i) (I0 i)
 len:T.length=Z.length
 tb:∀p∈Y.tb,∃l,B p.1=J (.tbl l)/\p.2∈l
end
def kh(o:HO):Prop:=∃xs,o=.tup xs
structure Ex (B U S B1:Hp):Prop where
 b:Same B S
 u:Same U B1
 nb:∀a o,S a=J o->B a=J o\/U a=G\/kh o
theorem Ex.refl(B U:Hp):Ex B U B U:=(Same.refl _,Same.refl _,λ_ _ h=>.inl h)
theorem Ex.trans(a:Ex B U I U1)(b:Ex I U1 e d):Ex B U e d:=
 (a.b.trans b.b,a.u.trans b.u,λc o h=>by
  rcases b.nb c o h with h|h|h
  .exact a.nb c o h
  .exact .inr (.inl (a.u.free h))
  .exact .inr (.inr h))
section
variable{Y:Cm}
def nd:HO->Prop
 |.dT _=>False
 |.frz _ (.dT _)=>False
 |_=>True
def Hm(Cv a:Hp):Prop:=(∀b x,Cv b=J x->nd x->a b=J x)/\∀b k,Rd Cv b (.dT k)->Rd a b (.dT k)
mutual
theorem Dn.imp{B S:Hp}(e:Hm B S):∀{d:D} {v:V},Dn Y B d v->Dn Y S d v:=by
 intro d v h;cases d <;> rw[Dn]at h ⊢ <;> first | exact h | (let(a,xs,r,c,b):=h;first | exact(a,xs,r,e.1 _ _ c trivial,Dns.imp e b) | exact(a,xs,r,e.1 _ _ c trivial,b.1,Dns.imp e b.2) | exact(a,xs,r,e.2 _ _ c,b.1,Dns.imp e b.2) | exact(a,xs,r,c.imp (λ(o,q)=>(o,e.1 _ _ q trivial)) id,Dns.imp e b)) | (let(a,dx,xs,r,c,b,f):=h;exact(a,dx,xs,r,e.1 _ _ c trivial,b,Dns.imp e f))
theorem Dns.imp{B S:Hp}(e:Hm B S):∀{ds:L D} {xs:L V},Dns Y B ds xs->Dns Y S ds xs
 |[],_,h=>by rw[Dns]at h ⊢;exact h
 | d::ds,_,h=>by
   rw[Dns]at h ⊢;let(x,r,h0,b,a):=h;exact(x,r,h0,Dn.imp e b,Dns.imp e a)
end
theorem Hm.of(e:Same B S):Hm B S:=(λb x q _=>e b x q,λ_ _=>wV e)
theorem Dn.mono(e:Same B S):Dn Y B d v->Dn Y S d v:=Dn.imp (.of e)
theorem Dns.mono(e:Same B S):Dns Y B ds xs->Dns Y S ds xs:=Dns.imp (.of e)
theorem Dns.len:∀{ds:L D} {xs:L V},Dns Y B ds xs->ds.length=xs.length
 |[],_,h=>by rw[Dns]at h;subst h;rfl
 | d::ds,_,h=>by
   rw[Dns]at h;let(x,r,rfl,_,a):=h;rw[XD,XD,Dns.len a]
theorem Dns.get:∀{ds:L D} {xs:L V} {i:Nat} {d:D},Dns Y B ds xs->ds[i]?=J d->∃x,xs[i]?=J x/\Dn Y B d x
 |[],_,_,_,_,e=>by cases e
 | d::ds,_,i,d',h,e=>by
   rw[Dns]at h;let(x,r,rfl,b,a):=h;cases i with
   |zero=>cases e;exact(x,rfl,b)
   |succ i=>exact Dns.get (i:=i) a (by simpa using e)
theorem Dns.geti:∀{ds:L D} {xs:L V} {i:Nat} {x:V},Dns Y B ds xs->xs[i]?=J x->∃d,ds[i]?=J d/\Dn Y B d x
 |[],_,_,_,h,e=>by rw[Dns]at h;subst h;cases e
 | d::ds,_,i,c,h,e=>by
   rw[Dns]at h;let(x,r,rfl,b,a):=h;cases i with
   |zero=>cases e;exact(d,rfl,b)
   |succ i=>exact Dns.geti (i:=i) a (by simpa using e)
theorem Dns.append:∀{ds es:L D} {xs ys:L V},Dns Y B ds xs->Dns Y B es ys->Dns Y B (ds++es) (xs++ys)
 |[],_,_,_,h,k=>by rw[Dns]at h;subst h;exact k
 | d::ds,_,_,_,h,k=>by
   rw[Dns]at h;let(x,r,rfl,b,a):=h;rw[Zs,Zs,Dns];exact(x,_,rfl,b,Dns.append a k)
def Dns.one(h:Dn Y B d v):Dns Y B [d] [v]:=by
 rw[Dns];exact(v,[],rfl,h,by rw[Dns])
theorem Dns.drop:∀{ds:L D} {xs:L V} (n:Nat),Dns Y B ds xs->Dns Y B (ds.drop n) (xs.drop n)
 |[],_,n,h=>by rw[Dns]at h;subst h;rw[List.drop_nil,List.drop_nil,Dns]
 | d::ds,_,n,h=>by
   cases n with
   |zero=>exact h
   |succ n=>
     rw[Dns]at h;let(x,r,rfl,b,a):=h;exact Dns.drop n a
theorem Dns.take:∀{ds:L D} {xs:L V} (n:Nat),Dns Y B ds xs->Dns Y B (ds.take n) (xs.take n)
 |[],_,n,h=>by rw[Dns]at h;subst h;rw[List.take_nil,List.take_nil,Dns]
 | d::ds,_,n,h=>by
   cases n with
   |zero=>rw[Af4,Af4,Dns]
   |succ n=>
     rw[Dns]at h;let(x,r,rfl,b,a):=h;rw[List.take_succ_cons,List.take_succ_cons,Dns];exact(x,_,rfl,b,Dns.take n a)
theorem Dns.erase:∀{ds:L D} {xs:L V} (n:Nat),Dns Y B ds xs->Dns Y B (ds.eraseIdx n) (xs.eraseIdx n)
 |[],_,n,h=>by rw[Dns]at h;subst h;rw[List.eraseIdx_nil,List.eraseIdx_nil,Dns]
 | d::ds,_,n,h=>by
   rw[Dns]at h;let(x,r,rfl,b,a):=h;cases n with
   |zero=>exact a
   |succ n=>
     rw[YZ,YZ,Dns];exact(x,_,rfl,b,Dns.erase n a)
mutual
theorem Ow.imp{B S H H':Hp}(e:∀{d v},Dn Y B d v->Dn Y S d v):∀{d:D} {s:Sh} {v:V} {A:L Addr},(∀a∈A,H' a=H a)->Ow Y B H d s v A->Ow Y S H' d s v A:=by
 intro d s v A k h;cases s with
 |fz=>rw[Ow]at h ⊢;exact(e h.1,h.2)
 |ct s=>cases d <;> first | (simp[Ow]at h;done) | (rw[Ow]at h ⊢;let(a,xs,j,r,i,g,f):=h;subst g;exact(a,xs,j,r,by rw[k a Xw];exact i,rfl,Ows.imp e (λb c=>k b (on _ c)) f)) | (rw[Ow]at h ⊢;let(a,xs,j,r,i,g,f,l):=h;subst f;exact(a,xs,j,r,by rw[k a Xw];exact i,g,rfl,Ows.imp e (λb c=>k b (on _ c)) l))
 |ob fs=>cases d <;> first | (simp[Ow]at h;done) | (rw[Ow]at h ⊢;let(a,dx,xs,j,r,i,g,f,l):=h;subst f;exact(a,dx,xs,j,r,by rw[k a Xw];exact i,g,rfl,Owf.imp e (λb c=>k b (on _ c)) l))
 |dp=>cases d <;> first | (rw[Ow]at h ⊢;let(a,xs,j,r,i,g,f):=h;subst g;exact(a,xs,j,r,by rw[k a Xw];exact i,rfl,Ows.imp e (λb c=>k b (on _ c)) f)) | (simp only[Ow]at h ⊢;exact(e h.1,h.2))
theorem Ows.imp{B S H H':Hp}(e:∀{d v},Dn Y B d v->Dn Y S d v):∀{ds:L D} {s:Sh} {xs:L V} {A:L Addr},(∀a∈A,H' a=H a)->Ows Y B H ds s xs A->Ows Y S H' ds s xs A
 |[],_,_,_,_,h=>by rw[Ows]at h ⊢;exact h
 | d::ds,s,xs,A,k,h=>by
   rw[Ows]at h ⊢;let(x,r,A1,j,h0,i,g,f):=h;subst i;exact(x,r,A1,j,h0,rfl,Ow.imp e (λb c=>k b (Yl _ c)) g,Ows.imp e (λb c=>k b (XE _ c)) f)
theorem Owf.imp{B S H H':Hp}(e:∀{d v},Dn Y B d v->Dn Y S d v):∀{ds:L D} {ns:L Str} {fs:L (Str×Sh)} {xs:L V} {A:L Addr},(∀a∈A,H' a=H a)->Owf Y B H ds ns fs xs A->Owf Y S H' ds ns fs xs A
 |[],_,_,_,_,_,h=>by rw[Owf]at h ⊢;exact h
 | d::ds,ns,fs,xs,A,k,h=>by
   rw[Owf]at h ⊢;let(n,c,x,r,A1,m,g,h0,l,j,i):=h;subst l;exact(n,c,x,r,A1,m,g,h0,rfl,Ow.imp e (λb f=>k b (Yl _ f)) j,Owf.imp e (λb f=>k b (XE _ f)) i)
end
section
variable{B S H H':Hp}(e:Same B S){A:L Addr}(k:∀a∈A,H' a=H a){s:Sh}
include e k
theorem Ow.mono{d:D}{v:V}:Ow Y B H d s v A->Ow Y S H' d s v A:=Ow.imp (Dn.mono e) k
theorem Owf.mono{ds:L D}{ns:L Str}{fs:L (Str×Sh)}{xs:L V}:Owf Y B H ds ns fs xs A->Owf Y S H' ds ns fs xs A:=Owf.imp (Dn.mono e) k
end
end
section
variable{Y:Cm}
mutual
theorem Ow.dn{B H Cv:Hp}(e:Same B Cv):∀{d:D} {s:Sh} {v:V} {A:L Addr},(∀a∈A,∀o,H a=J o->Cv a=J o)->Ow Y B H d s v A->Dn Y Cv d v:=by
 intro d s v A k h;cases s with
 |fz=>rw[Ow]at h;exact h.1.mono e
 |ct s=>cases d <;> first | (simp[Ow]at h;done) | (rw[Ow]at h;let(a,xs,l,r,i,c,g):=h;subst c;rw[Dn];exact(a,xs,r,k a Xw _ i,Ows.dn e (λb f=>k b (on _ f)) g)) | (rw[Ow]at h;let(a,xs,l,r,i,c,g,j):=h;subst g;rw[Dn];have q:=Ows.dn e (λb f=>k b (on _ f)) j;have p:=k a Xw _ i;first | exact(a,xs,r,p,c,q) | exact(a,xs,r,.inl p,c,q))
 |ob fs=>cases d <;> first | (simp[Ow]at h;done) | (rw[Ow]at h;let(a,dx,xs,l,r,i,c,g,j):=h;subst g;rw[Dn];exact(a,dx,xs,r,k a Xw _ i,c,Owf.dn e (λb f=>k b (on _ f)) j))
 |dp=>cases d <;> first | (rw[Ow]at h;let(a,xs,l,r,i,c,g):=h;subst c;rw[Dn];exact(a,xs,r,k a Xw _ i,Ows.dn e (λb f=>k b (on _ f)) g)) | (simp only[Ow]at h;exact h.1.mono e)
theorem Ows.dn{B H Cv:Hp}(e:Same B Cv):∀{ds:L D} {s:Sh} {xs:L V} {A:L Addr},(∀a∈A,∀o,H a=J o->Cv a=J o)->Ows Y B H ds s xs A->Dns Y Cv ds xs
 |[],_,_,_,_,h=>by rw[Ows]at h;rw[Dns];exact h.1
 | d::ds,s,xs,A,k,h=>by
   rw[Ows]at h;let(x,r,A1,j,h0,i,g,f):=h;subst i;rw[Dns];exact(x,r,h0,Ow.dn e (λb c=>k b (Yl _ c)) g,Ows.dn e (λb c=>k b (XE _ c)) f)
theorem Owf.dn{B H Cv:Hp}(e:Same B Cv):∀{ds:L D} {ns:L Str} {fs:L (Str×Sh)} {xs:L V} {A:L Addr},(∀a∈A,∀o,H a=J o->Cv a=J o)->Owf Y B H ds ns fs xs A->Dns Y Cv ds xs
 |[],_,_,_,_,_,h=>by rw[Owf]at h;rw[Dns];exact h.1
 | d::ds,ns,fs,xs,A,k,h=>by
   rw[Owf]at h;let(n,f,x,r,A1,m,l,h0,j,i,g):=h;subst j;rw[Dns];exact(x,r,h0,Ow.dn e (λb c=>k b (Yl _ c)) i,Owf.dn e (λb c=>k b (XE _ c)) g)
end
mutual
theorem Ow.at2{B H:Hp}:∀{d:D} {s:Sh} {v:V} {A:L Addr} {a:Addr},Ow Y B H d s v A->a∈A->∃o,H a=J o/\¬ kh o:=by
 intro d s v A a h m;cases s with
 |fz=>rw[Ow]at h;rw[h.2]at m;cases m
 |ct s=>cases d <;> first | (simp[Ow]at h;done) | (rw[Ow]at h;let(b,xs,j,r,f,g,c):=h;subst g;exact(XC.mp m).elim (λe=>by subst e;exact(_,f,λ(_,z)=>nomatch z)) (Ows.at2 c)) | (rw[Ow]at h;let(b,xs,j,r,f,g,c,i):=h;subst c;exact(XC.mp m).elim (λe=>by subst e;exact(_,f,λ(_,z)=>nomatch z)) (Ows.at2 i))
 |ob fs=>cases d <;> first | (simp[Ow]at h;done) | (rw[Ow]at h;let(b,dx,xs,j,r,f,g,c,i):=h;subst c;exact(XC.mp m).elim (λe=>by subst e;exact(_,f,λ(_,z)=>nomatch z)) (Owf.at2 i))
 |dp=>cases d <;> first | (rw[Ow]at h;let(b,xs,j,r,f,g,c):=h;subst g;exact(XC.mp m).elim (λe=>by subst e;exact(_,f,λ(_,z)=>nomatch z)) (Ows.at2 c)) | (simp only[Ow]at h;rw[h.2]at m;cases m)
theorem Ows.at2{B H:Hp}:∀{ds:L D} {s:Sh} {xs:L V} {A:L Addr} {a:Addr},Ows Y B H ds s xs A->a∈A->∃o,H a=J o/\¬ kh o
 |[],_,_,_,_,h,m=>by rw[Ows]at h;rw[h.2]at m;cases m
 | d::ds,s,xs,A,a,h,m=>by
   rw[Ows]at h;let(x,r,A1,f,h0,e,c,b):=h;subst e;rcases XJ.mp m with m|m
   .exact Ow.at2 c m
   .exact Ows.at2 b m
theorem Owf.at2{B H:Hp}:∀{ds:L D} {ns:L Str} {fs:L (Str×Sh)} {xs:L V} {A:L Addr} {a:Addr},Owf Y B H ds ns fs xs A->a∈A->∃o,H a=J o/\¬ kh o
 |[],_,_,_,_,_,h,m=>by rw[Owf]at h;rw[h.2]at m;cases m
 | d::ds,ns,fs,xs,A,a,h,m=>by
   rw[Owf]at h;let(n,b,x,r,A1,i,g,h0,f,e,c):=h;subst f;rcases XJ.mp m with m|m
   .exact Ow.at2 e m
   .exact Owf.at2 c m
end
theorem Ow.at{H:Hp}(h:Ow Y B H d s v A)(m:a∈A):∃o,H a=J o:=let (o,e,_):=Ow.at2 h m;(o,e)
theorem Owf.at{H:Hp}(h:Owf Y B H ds ns fs xs A)(m:a∈A):∃o,H a=J o:=let (o,e,_):=Owf.at2 h m;(o,e)
theorem Ows.of:∀{ds:L D} {xs:L V},Dns Y B ds xs->Ows Y B H ds .fz xs []
 |[],_,h=>by rw[Dns]at h;rw[Ows];exact(h,rfl)
 | d::ds,_,h=>by
   rw[Dns]at h;let(x,r,h0,b,a):=h;rw[Ows];exact(x,r,[],[],h0,rfl,by rw[Ow];exact(b,rfl),Ows.of a)
theorem Ows.fz:∀{ds:L D} {xs:L V} {A:L Addr},Ows Y B H ds .fz xs A->Dns Y B ds xs/\A=[]
 |[],_,_,h=>by rw[Ows]at h;rw[Dns];exact h
 | d::ds,_,_,h=>by
   rw[Ows]at h;let(x,r,A1,g,h0,f,a,e):=h;rw[Ow]at a;let(c,b):=Ows.fz e;rw[Dns];exact((x,r,h0,a.1,c),by rw[f,a.2,b];rfl)
def Lo.at2{H:Hp}(h:Lo Y B U H m o s A)(b:a∈A):∃o,H a=J o/\¬ kh o:=by
 unfold Lo at h;cases o with
 |none=>simp only at h;rw[h]at b;cases b
 |some d=>
   let(v,_,h):=h;cases m with
   |F=>have h:Dn Y B d v/\A=[]:=h;rw[h.2]at b;cases b
   |R=>have h:Dn Y U d v/\A=[]:=h;rw[h.2]at b;cases b
   |O sh=>exact Ow.at2 h b
theorem Lo.at{H:Hp}(h:Lo Y B U H m o s A)(b:a∈A):∃o,H a=J o:=let (o,e,_):=h.at2 b;(o,e)
def Lo.mono{H H':Hp}(h:Lo Y B U H m o s A)(e:Same B S)(f:Same U B1)(k:∀a∈A,H' a=H a):Lo Y S B1 H' m o s A:=by
 unfold Lo at h ⊢;cases o with
 |none=>exact h
 |some d=>
   let(v,b,h):=h;refine(v,b,?_);cases m with
   |F=>exact(h.1.mono e,h.2)
   |R=>exact(h.1.mono f,h.2)
   |O sh=>exact Ow.mono e k h
variable{M:L Md}{B U H S B1 H':Hp}{I0:Nat->L Addr}{Z:St}{T:LK}
theorem Rel.at(R:Rel Y M B U I0 Z H T)(h:a∈I0 i):∃o,H a=J o:=(R.lo i).at h
def Rel.nt(R:Rel Y M B U I0 Z H T)(h:a∈I0 i)(e:H a=J o)(z:kh o):False:=by
 let(o',b,n):=(R.lo i).at2 h;rw[e]at b;cases b;exact n z
theorem Rel.fresh(R:Rel Y M B U I0 Z H T)(h:H p=G)(i:Nat):p∉I0 i:=λm=>by
 let(o,e):=R.at m;rw[h]at e;cases e
theorem Rel.grow(R:Rel Y M B U I0 Z H T)(e:Same B S)(f:Same U B1)(g:Same H H')(bu:Same S B1)(uh:Same B1 H')(un:∀i a,a∈I0 i->B1 a=G):Rel Y M S B1 I0 Z H' T:=
 (bu,uh,R.nd,R.dj,un,λi=>(R.lo i).mono e f λa b=>by
  let(o,q):=R.at b
  rw[q,g a o q],R.len,λp hp=>let (l,d,c):=R.tb p hp;(l,e _ _ d,c))
theorem Rel.bh(R:Rel Y M B U I0 Z H T):Same B H:=R.bu.trans R.uh
theorem Rel.new(R:Rel Y M B U I0 Z H T)(h:H p=G):Rel Y M B U I0 Z (upd H p o) T:=
 R.grow (Same.refl _) (Same.refl _) (Gd.cg h) R.bu (R.uh.trans (Gd.cg h)) R.un
theorem p7(e:Same Cv a):Same (upd Cv p o) (upd a p o):=λb u q=>by
 by_cases z:b=p
 .subst z;rw[bE]at q ⊢;exact q
 .rw[bq z]at q ⊢;exact e b u q
theorem Rel.newB(R:Rel Y M B U I0 Z H T)(h:H p=G):Rel Y M (upd B p o) (upd U p o) I0 Z (upd H p o) T:=
 R.grow (Gd.cg (R.bh.free h)) (Gd.cg (R.uh.free h)) (Gd.cg h) (p7 R.bu) (p7 R.uh) λi a b=>by
  rw[bq (λz:a=p=>R.fresh h i (z▸b))];exact R.un i a b
theorem Rel.newU(R:Rel Y M B U I0 Z H T)(h:H p=G):Rel Y M B (upd U p o) I0 Z (upd H p o) T:=
 R.grow (Same.refl _) (Gd.cg (R.uh.free h)) (Gd.cg h) (R.bu.trans (Gd.cg (R.uh.free h))) (p7 R.uh) λi a b=>by
  rw[bq (λz:a=p=>R.fresh h i (z▸b))];exact R.un i a b
theorem Ex.newB(R:Rel Y M B U I0 Z H T)(h:H p=G):Ex B U (upd B p o) (upd U p o):=
 (Gd.cg (R.bh.free h),Gd.cg (R.uh.free h),λa u q=>by
  by_cases z:a=p
  .subst z;exact .inr (.inl (R.uh.free h))
  .rw[bq z]at q;exact .inl q)
theorem Ex.newU(R:Rel Y M B U I0 Z H T)(h:H p=G):Ex B U B (upd U p o):=
 (Same.refl _,Gd.cg (R.uh.free h),λa u q=>.inl q)
def frz(B H:Hp)(A:L Addr):Hp:=λa=>if a∈A then H a else B a
theorem du(e:Same B H):Same B (frz B H A):=λa o q=>by
 ext frz;split
 .exact e a o q
 .exact q
theorem xx(e:Same B H):Same (frz B H A) H:=λa o q=>by
 unfold frz at q;split at q
 .exact q
 .exact e a o q
theorem tV(e:Same B U):Same (frz B H A) (frz U H A):=λa o q=>by
 unfold frz at q ⊢;split
 .rename_i z;rw[Xx z]at q;exact q
 .rename_i z;rw[Xy z]at q;exact e a o q
end
abbrev KT(W X:Type):=W->X->Hp->Hp->Hp->L Addr->Prop
inductive Kd where
 |F|U|X
def hp:Kd->Hp->Hp->Hp->Hp
 |.F,B,_,_=>B
 |.U,_,U,_=>U
 |.X,_,_,H=>H
structure Gw (B U H S B1 H':Hp):Prop extends Ex B U S B1 where
 h:Same H H'
 fr:∀a o,B1 a=J o->U a=J o\/H a=G\/kh o
theorem Gw.refl(B U H:Hp):Gw B U H B U H:=(Ex.refl _ _,Same.refl _,λ_ _ h=>.inl h)
theorem Gw.trans(a:Gw B U H I U1 H1)(b:Gw I U1 H1 f d e):Gw B U H f d e:=
 (a.toEx.trans b.toEx,a.h.trans b.h,λc o h=>by
  rcases b.fr c o h with h|h|h
  .exact a.fr c o h
  .exact .inr (.inl (a.h.free h))
  .exact .inr (.inr h))
structure New (N:L Addr) (H U:Hp) (I0:Nat->L Addr):Prop where
 nd:N.Nodup
 fr:∀a∈N,H a=G
 un:∀a∈N,U a=G
theorem New.nil:New [] H U I0:=(YF,λ_ h=>(nomatch h),λ_ h=>(nomatch h))
section
variable(Y:Cm)
def Cn(Cv H:Hp):D->V->Prop
 |.lst ds,v=>∃a xs,v=.ref a/\H a=J (.lst xs)/\Dns Y Cv ds xs
 |.scr ds,v=>∃a xs,v=.ref a/\SqF Y.K H a xs/\Dns Y Cv ds xs
 |.tup ds,v=>∃a xs,v=.ref a/\H a=J (.tup xs)/\Dns Y Cv ds xs
 |.dK ks ds,v=>∃(a:Addr) (b:L (cL×V)),v=.ref a/\H a=J (.dK b)/\b.map (·.1)=ks/\Dns Y Cv ds (b.map (·.2))
 |.dT ks ds,v=>∃(a:Addr) (b:L (L cL×V)),v=.ref a/\Rd H a (.dT b)/\b.map (·.1)=ks/\Dns Y Cv ds (b.map (·.2))
 |.obj c ns ds,v=>∃(a dx:Addr) (fs:L (Str×V)),v=.ref a/\H a=J (.ins (Y c) dx fs)/\fs.map (·.1)=ns/\Dns Y Cv ds (fs.map (·.2))
 |d,v=>Dn Y Cv d v
def KR(k:Kd):KT D V:=λd v B U H _=>Dn Y (hp k B U H) d v
def KC(k:Kd):KT D V:=λd v B U H _=>Cn Y (hp k B U H) H d v
def KO(s:Sh):KT D V:=λd v B U H N=>Ow Y B H d s v N
def KB:KT Bool Bool:=λb c _ _ _ _=>b=c
def KL(k:Kd):KT (L D) (L V):=λd v B U H _=>Dns Y (hp k B U H) d v
def Po{W X:Type}(K:KT W X)(E:XK)(M:L Md)(B U:Hp)(I0:Nat->L Addr)(Z:St)(H:Hp)(T:LK)(r:Res W)(Q:X->Hp->Prop):Prop:=
 match r with
 |.ok d=>∀v S B1 H' N,Rel Y M S B1 I0 Z H' T->Gw B U H S B1 H'->New N H B1 I0->K d v S B1 H' N->Q v H'
 |.exc c=>∀S B1 H',Rel Y M S B1 I0 Z H' T->Gw B U H S B1 H'->∀a,E (.ref (Y c)) a H'
 |.bad=>False
def PJ{W X:Type}(K:KT W X)(E:XK)(M:L Md)(t:St->Hp->(X->Hp->Prop)->Prop)(m:LK->Res W):Prop:=
 ∀B U I0 Z H T Q,Rel Y M B U I0 Z H T->Po Y K E M B U I0 Z H T (m T) Q->t Z H Q
end
section
variable{Y:Cm}{E:XK}{M:L Md}{B U H:Hp}{I0:Nat->L Addr}{Z:St}{T:LK}
theorem New.up(h:New N H1 U I0)(s:Same H H1):New N H U I0:=(h.nd,λa b=>s.free (h.fr a b),h.un)
def Po.at{W X:Type}{K:KT W X}{I U1 H1:Hp}{r:Res W}{Q:X->Hp->Prop}(P:Po Y K E M B U I0 Z H T r Q)(e:Gw B U H I U1 H1):Po Y K E M I U1 I0 Z H1 T r Q:=by
 cases r with
 |ok d=>exact λv S B1 H' N b a f k=>P v S B1 H' N b (e.trans a) (f.up e.h) k
 |exc c=>exact λS B1 H' b a=>P S B1 H' b (e.trans a)
 |bad=>exact P
def PJ.bnd{X:Type}{f:KT W X}{ta:St->Hp->(X->Hp->Prop)->Prop}{a:LK->Res W}(i:PJ Y f E M ta a)(R:Rel Y M B U I0 Z H T){k:W->Res O}
 (P:Po Y d E M B U I0 Z H T ((a T).bind k) Q) {body:X->Hp->Prop}
 (h:∀x v I U1 H1 N,a T=.ok x->Rel Y M I U1 I0 Z H1 T->Gw B U H I U1 H1->New N H U1 I0->f x v I U1 H1 N->Po Y d E M I U1 I0 Z H1 T (k x) Q->body v H1):ta Z H body:=by
 refine i B U I0 Z H T body R ?_;cases e:a T with
 |ok x=>
   rw[e]at P;exact λv I U1 H1 N j b g k1=>h x v I U1 H1 N e j b g k1 (Po.at (r:=k x) P b)
 |exc c=>rw[e]at P;exact P
 |bad=>rw[e]at P;exact P
def kQ(e:Gw B U H I U1 H1):Same (hp k B U H) (hp k I U1 H1):=by
 cases k with
 |F=>exact e.b
 |U=>exact e.u
 |X=>exact e.h
def Cn.mono(e:Same Cv j)(f:Same H H')(h:Cn Y Cv H d v):Cn Y j H' d v:=by
 cases d with
 |lst ds=>let(a,xs,r,g,b):=h;exact(a,xs,r,f _ _ g,b.mono e)
 |scr ds=>let(a,xs,r,g,b):=h;exact(a,xs,r,g.mono f,b.mono e)
 |tup ds=>let(a,xs,r,g,b):=h;exact(a,xs,r,f _ _ g,b.mono e)
 |dK ks ds=>let(a,xs,r,g,b,i):=h;exact(a,xs,r,f _ _ g,b,i.mono e)
 |dT ks ds=>let(a,xs,r,g,b,i):=h;exact(a,xs,r,wV f g,b,i.mono e)
 |obj c ns ds=>let(a,dx,xs,r,g,b,i):=h;exact(a,dx,xs,r,f _ _ g,b,i.mono e)
 |non=>exact Dn.mono e h
 |bl _=>exact Dn.mono e h
 |int _=>exact Dn.mono e h
 |str _=>exact Dn.mono e h
 |ty _=>exact Dn.mono e h
def Dn.cn(f:Same Cv H)(h:Dn Y Cv d v):Cn Y Cv H d v:=by
 cases d with
 |lst ds=>rw[Dn]at h;let(a,xs,r,e,b):=h;exact(a,xs,r,f _ _ e,b)
 |scr ds=>rw[Dn]at h;let(a,xs,r,e,b):=h;exact(a,xs,r,e.mono f,b)
 |tup ds=>rw[Dn]at h;let(a,xs,r,e,b):=h;exact(a,xs,r,f _ _ e,b)
 |dK ks ds=>rw[Dn]at h;let(a,xs,r,e,b,g):=h;exact(a,xs,r,f _ _ e,b,g)
 |dT ks ds=>rw[Dn]at h;let(a,xs,r,e,b,g):=h;exact(a,xs,r,wV f e,b,g)
 |obj c ns ds=>rw[Dn]at h;let(a,dx,xs,r,e,b,g):=h;exact(a,dx,xs,r,f _ _ e,b,g)
 |non=>exact h
 |bl _=>exact h
 |int _=>exact h
 |str _=>exact h
 |ty _=>exact h
def Cn.dn(h:Cn Y H H d v):Dn Y H d v:=by
 cases d with
 |lst ds=>let(a,xs,r,e,b):=h;rw[Dn];exact(a,xs,r,e,b)
 |scr ds=>let(a,xs,r,e,b):=h;rw[Dn];exact(a,xs,r,e,b)
 |tup ds=>let(a,xs,r,e,b):=h;rw[Dn];exact(a,xs,r,e,b)
 |dK ks ds=>let(a,xs,r,e,b,f):=h;rw[Dn];exact(a,xs,r,e,b,f)
 |dT ks ds=>let(a,xs,r,e,b,f):=h;rw[Dn];exact(a,xs,r,e,b,f)
 |obj c ns ds=>let(a,dx,xs,r,e,b,f):=h;rw[Dn];exact(a,dx,xs,r,e,b,f)
 |non=>exact h
 |bl _=>exact h
 |int _=>exact h
 |str _=>exact h
 |ty _=>exact h
def Rel.hp(R:Rel Y M B U I0 Z H T)(k:Kd):Same (hp k B U H) H:=by
 cases k with
 |F=>exact R.bh
 |U=>exact R.uh
 |X=>exact Same.refl _
def PJ.imp{W X:Type}{K b:KT W X}{t:St->Hp->(X->Hp->Prop)->Prop}{m:LK->Res W}(h:PJ Y K E M t m)(f:∀B U I0 Z H T d v N,Rel Y M B U I0 Z H T->K d v B U H N->b d v B U H N):PJ Y b E M t m:=by
 intro B U I0 Z H T Q R P;refine h B U I0 Z H T Q R ?_;cases e:m T with
 |ok d=>rw[e]at P;exact λv S B1 H' N a i g k=>P v S B1 H' N a i g (f _ _ _ _ _ _ _ _ _ a k)
 |exc c=>rw[e]at P;exact P
 |bad=>rw[e]at P;exact P
section
variable{t:TE}{m:LK->Res D}{k:Kd}{s:Sh}
theorem fu(h:PJ Y (KR Y .F) E M t m):PJ Y (KR Y .U) E M t m:=h.imp λ_ _ _ _ _ _ _ _ _ R q=>Dn.mono R.bu q
theorem ux(h:PJ Y (KR Y .U) E M t m):PJ Y (KR Y .X) E M t m:=h.imp λ_ _ _ _ _ _ _ _ _ R q=>Dn.mono R.uh q
theorem fx(h:PJ Y (KR Y .F) E M t m):PJ Y (KR Y .X) E M t m:=ux (fu h)
theorem rc(h:PJ Y (KR Y k) E M t m):PJ Y (KC Y k) E M t m:=h.imp λ_ _ _ _ _ _ _ _ _ R q=>Dn.cn (R.hp k) q
theorem cx(h:PJ Y (KC Y k) E M t m):PJ Y (KR Y .X) E M t m:=h.imp λ_ _ _ _ _ _ _ _ _ R q=>Cn.dn (Cn.mono (R.hp k) (Same.refl _) q)
def Rel.freeze(R:Rel Y M B U I0 Z H T)(h:∀a∈A,U a=G/\∀i,a∉I0 i):Rel Y M (Mi.frz B H A) (Mi.frz U H A) I0 Z H T/\Ex B U (Mi.frz B H A) (Mi.frz U H A):=by
 refine(R.grow (du R.bh) (du R.uh) (Same.refl _) (tV R.bu) (xx R.uh) λi a b=>?_,du R.bh,du R.uh,λa o q=>?_)
 · ext Mi.frz;split
   .rename_i z;exact absurd b ((h a z).2 i)
   .exact R.un i a b
 · unfold Mi.frz at q;split at q
   .rename_i z;exact .inr (.inl (h a z).1)
   .exact .inl q
theorem Rel.apart(R:Rel Y M B U I0 Z H T)(n:New N H B1 I0):∀a∈N,∀i,a∉I0 i:=λa b i=>R.fresh (n.fr a b) i
def oF(h:PJ Y (KO Y s) E M t m):PJ Y (KR Y .F) E M t m:=by
 intro B U I0 Z H T Q R P;refine h B U I0 Z H T Q R ?_;cases e:m T with
 |ok d=>
   rw[e]at P;intro v S B1 H' N i g f j;let(R2,k):=i.freeze λa b=>(f.un a b,R.apart f a b);refine P v _ _ H' [] R2 (g.toEx.trans k,g.h,λa o q=>?_) New.nil (Ow.dn (du i.bh) (λa b o q=>?_) j)
   · unfold Mi.frz at q;split at q
     .rename_i z;exact .inr (.inl (f.fr a z))
     .exact g.fr a o q
   .unfold Mi.frz;rw[if_pos b];exact q
 |exc c=>rw[e]at P;exact P
 |bad=>rw[e]at P;exact P
theorem oc(h:PJ Y (KO Y (.ct .fz)) E M t m):PJ Y (KC Y .F) E M t m:=rc (oF h)
end
def i7(h:rg l i=J x):l[i]?=J (J x):=by
 unfold rg at h;cases e:l[i]? with
 |none=>rw[e]at h;cases h
 |some o=>rw[e]at h;exact congrArg J h
def xf{K:KT D V}(f:∀(B U:Hp) (A:L Addr) (H:Hp) (d:D) (v:V) (s:Option V),Same B U->Same U H->Lo Y B U H (M.getD i .F) (J d) s A->s=J v->K d v B U H []):PJ Y K E M (iu i) (vr i):=by
 intro B U I0 Z H T Q R P;unfold vr at P;have l:=R.lo i;cases e:rg T i with
 |none=>rw[e]at P;exact P.elim
 |some d=>
   rw[e]at P l;let(v,a,q):=id l;exact(v,i7 a,P v B U H [] R (Gw.refl _ _ _) New.nil (f B U _ H d v _ R.bu R.uh l a))
def kN(l:Lo Y B U H m (J d) s A)(b:s=J v):LoV Y B U H m d v A:=by
 let(w,a,q):=l;rw[b]at a;cases a;exact q
theorem xF(b:M.getD i .F= .F):PJ Y (KR Y .F) E M (iu i) (vr i):=xf λB U I0 H d v s _ _ l a=>by
 rw[b]at l;exact(kN l a).1
theorem xR(b:M.getD i .F= .R):PJ Y (KR Y .U) E M (iu i) (vr i):=xf λB U I0 H d v s _ _ l a=>by
 rw[b]at l;exact(kN l a).1
theorem xO(c:M.getD i .F= .O sh):PJ Y (KR Y .X) E M (iu i) (vr i):=xf λB U I0 H d v s b u l a=>by
 rw[c]at l;exact Ow.dn (b.trans u) (λ_ _ _ q=>q) (kN l a)
def Ow.cn(f:Same B H)(h:Ow Y B H d (.ct .fz) v A):Cn Y B H d v:=by
 cases d with
 |lst ds=>rw[Ow]at h;let(a,xs,i,r,b,c,g):=h;exact(a,xs,r,b,(Ows.fz g).1)
 |dK ks ds=>rw[Ow]at h;let(a,xs,i,r,b,c,g,e):=h;exact(a,xs,r,b,c,(Ows.fz e).1)
 |dT ks ds=>rw[Ow]at h;let(a,xs,i,r,b,c,g,e):=h;exact(a,xs,r,.inl b,c,(Ows.fz e).1)
 |_=>simp[Ow]at h
theorem xC(c:M.getD i .F= .O (.ct .fz)):PJ Y (KC Y .F) E M (iu i) (vr i):=xf λB U I0 H d v s b u l a=>by
 rw[c]at l;exact Ow.cn (b.trans u) (kN l a)
theorem W6(h:∀Cv,Dn Y Cv d v):PJ Y (KR Y .F) E M (tC v) (aD d):=λB U I0 Z H T Q R P=>P v B U H [] R (Gw.refl _ _ _) New.nil (h _)
theorem pI:PJ Y (KR Y .F) E M (tC (.int i)) (aD (.int i)):=W6 λ_=>by rw[Dn]
theorem pB:PJ Y (KR Y .F) E M (tC (.bl b)) (aD (.bl b)):=W6 λ_=>by rw[Dn]
theorem pS:PJ Y (KR Y .F) E M (tC (.str x)) (aD (.str x)):=W6 λ_=>by rw[Dn]
end
def fB(m:LK->Res D):LK->Res Bool:=λT=>(m T).bind LW
def rM(a b:LK->Res Bool):LK->Res Bool:=λT=>(a T).bind λc=>if c=true then b T else .ok false
def LM(a b:LK->Res Bool):LK->Res Bool:=λT=>(a T).bind λc=>if c=true then .ok true else b T
def MX(a:LK->Res Bool):LK->Res Bool:=λT=>(a T).bind λc=>.ok (!c)
section
variable{Y:Cm}{E:XK}{M:L Md}
def S2(Y:Cm)(r:R2)(f:D->D->Res D):Prop:=∀H x y v u,Dn Y H x v->Dn Y H y u->match f x y with
 |.ok d=>∃w,(∀Cv,Dn Y Cv d w)/\∀Q:VK,Q w H->r v u H Q
 |.exc _=>False
 |.bad=>True
def S1(Y:Cm)(r:V->Hp->VK->Prop)(f:D->Res D):Prop:=∀H x v,Dn Y H x v->match f x with
 |.ok d=>∃w,(∀Cv,Dn Y Cv d w)/\∀Q:VK,Q w H->r v H Q
 |.exc _=>False
 |.bad=>True
section
variable{r:R2}{r1:V->Hp->VK->Prop}{rb:L V->Hp->VK->Prop}{f:D->D->Res D}{f1:D->Res D}{ta tb:TE}{ma mb:LK->Res D}
def aA(h:S2 Y r f)(j:PJ Y (KR Y .X) E M ta ma)(i:PJ Y (KR Y .X) E M tb mb):PJ Y (KR Y .F) E M (LH r ta tb) (bn f ma mb):=by
 intro B U I0 Z H T Q R P;refine j.bnd R P λx v I U1 H1 O _ o A z N s=>i.bnd o s λy u p n b C _ R2 l t m a=>?_;have q:=h b x y v u (Dn.mono l.h N) m;cases e:f x y with
 |ok d=>
   rw[e]at q a;let(w,g,k):=q;exact k Q (a w p n b [] R2 (Gw.refl _ _ _) New.nil (g _))
 |exc c=>rw[e]at q;exact q.elim
 |bad=>rw[e]at a;exact a.elim
def Il(h:S1 Y r1 f1)(b:PJ Y (KR Y .X) E M ta ma):PJ Y (KR Y .F) E M (tUn r1 ta) (un f1 ma):=by
 intro B U I0 Z H T Q R P;refine b.bnd R P λx v I U1 H1 O _ f i g N s=>?_;have q:=h H1 x v N;cases e:f1 x with
 |ok d=>
   rw[e]at q s;let(w,a,k):=q;exact k Q (s w I U1 H1 [] f (Gw.refl _ _ _) New.nil (a _))
 |exc c=>rw[e]at q;exact q.elim
 |bad=>rw[e]at s;exact s.elim
theorem eU(h:S1 Y (λv H Q=>rb [v] H Q) f1)(a:PJ Y (KR Y .X) E M ta ma):PJ Y (KR Y .F) E M (Gq rb (bX ta dP)) (un f1 ma):=Il h a
end
def S2.imp{r a:R2}(h:S2 Y r f)(k:∀x y H Q,r x y H Q->a x y H Q):S2 Y a f:=by
 intro H x y v u g b;have q:=h H x y v u g b;cases e:f x y with
 |ok d=>
   rw[e]at q;let(w,i,q):=q;exact(w,i,λQ z=>k _ _ _ _ (q Q z))
 |exc c=>rw[e]at q;exact q
 |bad=>trivial
def sI0{g:Int->Int->Int}:S2 Y (Dm λi j=>.int (g i j)) (iI g):=by
 intro H x y v u b a;cases x with
 |int i=>
   cases y with
   |int j=>
     rw[Dn]at b;rw[Dn]at a;subst b a;exact(.int (g i j),λ_=>by rw[Dn],λQ q=>(i,j,rfl,rfl,q))
   |_=>trivial
 |_=>trivial
def W3{g:Int->Int->Bool}:S2 Y (Dm λi j=>.bl (g i j)) (iB g):=by
 intro H x y v u b a;cases x with
 |int i=>
   cases y with
   |int j=>
     rw[Dn]at b;rw[Dn]at a;subst b a;exact(.bl (g i j),λ_=>by rw[Dn],λQ q=>(i,j,rfl,rfl,q))
   |_=>trivial
 |_=>trivial
def Ub{C:Int->Int->Prop}{c:Int->Int->Bool}{g:Int->Int->Int}(d:∀i j,c i j=true->C i j):S2 Y (rI C λi j=>.int (g i j)) (iC c g):=by
 intro H x y v u b a;cases x with
 |int i=>
   cases y with
   |int j=>
     rw[Dn]at b;rw[Dn]at a;subst b a;ext iC;dsimp only;by_cases z:c i j=true
     .rw[Xx z];exact(.int (g i j),λ_=>by rw[Dn],λQ q=>(i,j,rfl,rfl,d i j z,q))
     .rw[Xy z];trivial
   |_=>trivial
 |_=>trivial
theorem i6:S2 Y (Dm λi j=>.int (i+j)) lJ:=sI0
theorem yX:S2 Y (Dm λi j=>.int (i-j)) yP:=sI0
theorem yZ:S2 Y (Dm λi j=>.bl (decide (i<j))) Gr:=W3
theorem Fp:S2 Y (Dm λi j=>.bl (decide (j<i))) LO:=W3
theorem W1:S2 Y (Dm λi j=>.bl (decide (j<=i))) WS:=W3
theorem yY:S2 Y (rI CMul λi j=>.int (i*j)) xo:=Ub λ_ _ h=>by simpa [CMul] using h
theorem eM:S2 Y (rI Tg λi j=>.int (i / j)) fK:=Ub λ_ _ h=>by simpa [Tg] using h
theorem ci:S2 Y (rI (λ_ j=>0<j) λi j=>.int (i%j)) dH:=Ub λ_ _ h=>YE h
theorem T8:S2 Y (rI Te λi j=>.int (i ^ j.toNat)) H8:=Ub λ_ _ h=>by simpa [Te] using h
theorem T7:S2 Y (rI (λ_ j=>0<=j) λi j=>.int (i / 2 ^ j.toNat)) GX:=Ub λ_ _ h=>YE h
def CU:S1 Y (rU λi=>.int (-i)) FF:=by
 intro H x v a;cases x with
 |int i=>
   rw[Dn]at a;subst a;exact(.int (-i),λ_=>by rw[Dn],λQ q=>(i,rfl,q))
 |_=>trivial
def Ol(neg:Bool):S2 Y (λx y H Q=>PB x y=true/\Q (.bl (neg.xor (decide (x=y)))) H) (lI neg):=by
 intro H x y v u b a;cases x with
 |int i=>
   cases y with
   |int j=>
     rw[Dn]at b;rw[Dn]at a;subst b a;exact(_,λ_=>by rw[Dn],λQ q=>(rfl,by simpa using q))
   |non=>
     rw[Dn]at b;rw[Dn]at a;subst b a;exact(_,λ_=>by rw[Dn],λQ q=>(rfl,by simpa using q))
   |_=>trivial
 |str i=>
   cases y with
   |str j=>
     rw[Dn]at b;rw[Dn]at a;subst b a;exact(_,λ_=>by rw[Dn],λQ q=>(rfl,by simpa using q))
   |_=>trivial
 |bl i=>
   cases y with
   |bl j=>
     rw[Dn]at b;rw[Dn]at a;subst b a;exact(_,λ_=>by rw[Dn],λQ q=>(rfl,by simpa using q))
   |_=>trivial
 |non=>
   cases y with
   |int j=>
     rw[Dn]at b;rw[Dn]at a;subst b a;exact(_,λ_=>by rw[Dn],λQ q=>(rfl,by simpa using q))
   |non=>
     rw[Dn]at b;rw[Dn]at a;subst b a;exact(_,λ_=>by rw[Dn],λQ q=>(rfl,by simpa using q))
   |_=>trivial
 |_=>cases y<;>trivial
theorem i5:S2 Y rEq (lI false):=(Ol false).imp λx y H Q h=>(h.1,by simpa using h.2)
theorem wQ:S2 Y rNe (lI true):=(Ol true).imp λx y H Q h=>(h.1,by simpa using h.2)
def iE:S1 Y (λv H Q=>∃p ys,[v]=[.ref p]/\(SqL Y.K H p ys\/SqT Y.K H p ys)/\Q (.int ys.length) H) kO:=by
 intro H x v b;cases x with
 |lst ds=>
   rw[Dn]at b;let(a,xs,rfl,d,c):=b;exact(.int ds.length,λ_=>by rw[Dn],λQ q=>(a,xs,rfl,.inl (SqL.of d),by rw[<-c.len];exact q))
 |scr ds=>
   rw[Dn]at b;let(a,xs,rfl,d,c):=b;exact(.int ds.length,λ_=>by rw[Dn],λQ q=>(a,xs,rfl,.inl d.sq,by rw[<-c.len];exact q))
 |tup ds=>
   rw[Dn]at b;let(a,xs,rfl,d,c):=b;exact(.int ds.length,λ_=>by rw[Dn],λQ q=>(a,xs,rfl,.inr (SqT.of d),by rw[<-c.len];exact q))
 |_=>trivial
def Op{t:TE}(h:PJ Y (KR Y .X) E M t m):PJ Y KB E M (λZ H Q=>t Z H λx H1=>∃c,x=.bl c/\Q c H1) (fB m):=by
 intro B U I0 Z H T Q R P;refine h.bnd R P λx v I U1 H1 O _ a e d N s=>?_;cases x with
 |bl b=>
   have N:Dn Y H1 (.bl b) v:=N;rw[Dn]at N;exact(b,N,s _ I U1 H1 [] a (Gw.refl _ _ _) New.nil rfl)
 |_=>exact s.elim
theorem Fy(h:PJ Y (KR Y .X) E M t m):PJ Y KB E M (tB t) (fB m):=Op h
theorem cJ(h:PJ Y (KR Y .X) E M t m):PJ Y KB E M (Of t) (fB m):=Op h
def jR(h:PJ Y KB E M t m)(k:PJ Y KB E M u n):PJ Y KB E M (TD t u) (rM m n):=by
 intro B U I0 Z H T Q R P;refine h.bnd R P λx v I U1 H1 O _ a c b N s=>?_;cases N;cases x with
 |true=>exact k I U1 I0 Z H1 T Q a s
 |false=>exact s _ I U1 H1 [] a (Gw.refl _ _ _) New.nil rfl
def Dt(h:PJ Y KB E M t m)(k:PJ Y KB E M u n):PJ Y KB E M (tOr t u) (LM m n):=by
 intro B U I0 Z H T Q R P;refine h.bnd R P λx v I U1 H1 O _ a c b N s=>?_;cases N;cases x with
 |false=>exact k I U1 I0 Z H1 T Q a s
 |true=>exact s _ I U1 H1 [] a (Gw.refl _ _ _) New.nil rfl
def Du(h:PJ Y KB E M t m):PJ Y KB E M (Tv t) (MX m):=by
 intro B U I0 Z H T Q R P;refine h.bnd R P λx v I U1 H1 O _ a c b N s=>?_;cases N;exact s _ I U1 H1 [] a (Gw.refl _ _ _) New.nil rfl
def Uh{K:KT D V}(h:PJ Y KB E M t m)(e:PJ Y K E M ta b)(d:PJ Y K E M tb a):PJ Y K E M (tIf t ta tb) (RS m b a):=by
 intro B U I0 Z H T Q R P;refine h.bnd R P λx v I U1 H1 O _ c g f N s=>?_;cases N;cases x with
 |true=>exact e I U1 I0 Z H1 T Q c s
 |false=>exact d I U1 I0 Z H1 T Q c s
end
section
variable{Y:Cm}{E:XK}{M:L Md}{K:L0}
def fU(h:n<=ak):n<sizeLine:=by
 have:=Zo
 unfold ak at h;omega
def ET(h:Dns Y Cv ds xs)(e:jq ds i=J d):∃v,jq xs i=J v/\Dn Y Cv d v:=by
 unfold jq at e ⊢;rw[<-h.len];cases q:JT ds.length i with
 |none=>rw[q]at e;cases e
 |some j=>
   rw[q]at e;exact h.get e
def eQ{t p:LK->Res D}(C:PJ Y (KC Y k) E M ta t)(A:PJ Y (KR Y .X) E M tb p):PJ Y (KR Y k) E M (LH (Qr Y.K) ta tb) (bn qV t p):=by
 intro B U I0 Z H T Q R P;refine C.bnd R P λx v I U1 H1 O _ Cv V S N s=>A.bnd Cv s λy u o n j W _ R2 z B1 b g=>?_;have c:=Cn.mono (kQ z) z.h N;have b:Dn Y j y u:=b
 have f:∀(ds:L D) (i:Int),Po Y (KR Y k) E M o n I0 Z j T (NM ds i) Q->∀xs,Dns Y (hp k o n j) ds xs->∃w,jq xs i=J w/\Q w j:=λds i P3 xs h=>by
  unfold NM at P3;cases q:jq ds i with
  |none=>rw[q]at P3;exact P3.elim
  |some d=>
    rw[q]at P3;let(w,e,F):=ET h q;exact(w,e,P3 w o n j [] R2 (Gw.refl _ _ _) New.nil F)
 cases x with
 |lst ds=>
   cases y with
   |int i=>
     rw[Dn]at b;let(a,xs,r,m,l):=c;let(w,e,q):=f ds i g xs l;exact(a,xs,i,w,r,b,SqL.of m,e,q)
   |_=>exact g.elim
 |scr ds=>
   cases y with
   |int i=>
     rw[Dn]at b;let(a,xs,r,m,l):=c;let(w,e,q):=f ds i g xs l;exact(a,xs,i,w,r,b,m.sq,e,q)
   |_=>exact g.elim
 |_=>cases y<;>exact g.elim
def qI(t:PJ Y (KC Y k) E M ta j)(p:PJ Y (KR Y .X) E M tb g):PJ Y (KR Y k) E M (LH (Qq K) ta tb) (bn Gu j g):=by
 intro B U I0 Z H T Q R P;refine t.bnd R P λx v I U1 H1 O _ F S B1 N s=>p.bnd F s λy u n m f V _ R2 l Cv b e=>?_;have c:=Cn.mono (kQ l) l.h N;have b:Dn Y f y u:=b;cases x with
 |tup ds=>
   cases y with
   |int i=>
     rw[Dn]at b;let(a,xs,r,A,z):=c;have P3:Po Y (KR Y k) E M n m I0 Z f T (NM ds i) Q:=e;unfold NM at P3;cases q:jq ds i with
     |none=>rw[q]at P3;exact P3.elim
     |some d=>
       rw[q]at P3;let(w,o,C):=ET z q;exact(a,xs,i,w,r,b,SqT.of A,o,P3 w n m f [] R2 (Gw.refl _ _ _) New.nil C)
   |_=>exact e.elim
 |_=>cases y<;>exact e.elim
theorem aH:PJ Y (KL Y k) E M dP bO:=λB U I0 Z H T Q R P=>P [] B U H [] R (Gw.refl _ _ _) New.nil (show Dns Y _ [] [] by rw[Dns])
def ag(e:PJ Y (KR Y k) E M ta c)(d:PJ Y (KL Y k) E M a b):PJ Y (KL Y k) E M (bX ta a) (aM c b):=by
 intro B U I0 Z H T Q R P;refine e.bnd R P λx v I U1 H1 O _ i p o N s=>d.bnd i s λy u m h l q _ R2 f n g j=>?_;refine j (v::u) m h l [] R2 (Gw.refl _ _ _) New.nil ?_;show Dns Y _ (x::y) (v::u);rw[Dns];exact(v,u,rfl,Dn.mono (kQ f) N,g)
variable{B U H:Hp}{I0:Nat->L Addr}{Z:St}{T:LK}
theorem Gw.newO(R:Rel Y M B U I0 Z H T)(h:H p=G):Gw B U H B U (upd H p o):=(Ex.refl _ _,Gd.cg h,λ_ _ q=>.inl q)
theorem Gw.newB(R:Rel Y M B U I0 Z H T)(h:H p=G):Gw B U H (upd B p o) (upd U p o) (upd H p o):=(Ex.newB R h,Gd.cg h,λa u q=>by
 by_cases z:a=p
 .subst z;exact .inr (.inl h)
 .rw[bq z]at q;exact .inl q)
theorem Gw.newU(R:Rel Y M B U I0 Z H T)(h:H p=G):Gw B U H B (upd U p o) (upd H p o):=(Ex.newU R h,Gd.cg h,λa u q=>by
 by_cases z:a=p
 .subst z;exact .inr (.inl h)
 .rw[bq z]at q;exact .inl q)
theorem New.one(R:Rel Y M B U I0 Z H T)(h:H p=G):New [p] H U I0:=(by simp,λa b=>by rw[XM.mp b];exact h,λa b=>by rw[XM.mp b];exact R.uh.free h)
theorem fH(R:Rel Y M B U I0 Z H T){Q:VK}(P:Po Y (KO Y (.ct .fz)) E M B U I0 Z H T (.ok (.lst ds)) Q)(h:Dns Y B ds xs)(hp:H p=G):Q (.ref p) (upd H p (.lst xs)):=
 P (.ref p) B U _ [p] (R.new hp) (Gw.newO R hp) (New.one R hp) (by
  show Ow Y B _ (.lst ds) (.ct .fz) (.ref p) [p];rw[Ow]
  exact(p,xs,[],rfl,bE,rfl,Ows.of h))
theorem IL(R:Rel Y M B U I0 Z H T){Q:VK}(P:Po Y (KR Y .U) E M B U I0 Z H T (.ok (.lst ds)) Q)(h:Dns Y U ds xs)(hp:H p=G):Q (.ref p) (upd H p (.lst xs)):=
 P (.ref p) B _ _ [] (R.newU hp) (Gw.newU R hp) New.nil (by
  show Dn Y (upd U p (.lst xs)) (.lst ds) (.ref p);rw[Dn]
  exact(p,xs,rfl,bE,h.mono (Gd.cg (R.uh.free hp))))
theorem zy(R:Rel Y M B U I0 Z H T){Q:VK}(P:Po Y (KR Y .F) E M B U I0 Z H T (.ok (.tup ds)) Q)(h:Dns Y B ds xs)(hp:H p=G):Q (.ref p) (upd H p (.tup xs)):=
 P (.ref p) _ _ _ [] (R.newB hp) (Gw.newB R hp) New.nil (by
  show Dn Y (upd B p (.tup xs)) (.tup ds) (.ref p);rw[Dn]
  exact(p,xs,rfl,bE,h.mono (Gd.cg (R.bh.free hp))))
section
variable{t:TA}{m:LK->Res (L D)}
def bp(h:PJ Y (KL Y .F) E M t m):PJ Y (KO Y (.ct .fz)) E M (Fc t) (iU m):=by
 intro B U I0 Z H T Q R P;refine h.bnd R P λds xs I U1 H1 O _ a c b N s=>?_;by_cases z:ds.length<=ak
 .rw[Xx z]at s;have N:Dns Y I ds xs:=N;exact(Yz (fU (by rw[<-N.len];exact z)),λp hp=>fH a s N hp)
 .rw[Xy z]at s;exact s.elim
def lD(h:PJ Y (KL Y .F) E M t m):PJ Y (KR Y .F) E M (Ts t) (DD m):=by
 intro B U I0 Z H T Q R P;refine h.bnd R P λds xs I U1 H1 O _ a c b N s=>?_;by_cases z:ds.length<=ak
 .rw[Xx z]at s;have N:Dns Y I ds xs:=N;exact(Yz (fU (by rw[<-N.len];exact z)),λp hp=>zy a s N hp)
 .rw[Xy z]at s;exact s.elim
end
def vL:PJ Y (KO Y (.ct .fz)) E M GK (aD (.dT [] [])):=by
 intro B U I0 Z H T Q R P p hp;refine P (.ref p) B U _ [p] (R.new hp) (Gw.newO R hp) (New.one R hp) ?_;show Ow Y B _ (.dT [] []) (.ct .fz) (.ref p) [p];rw[Ow];exact(p,[],[],rfl,bE,rfl,rfl,Ows.of (by rw[YA,Dns]))
def SM(j:Cn Y Cv H x v)(i:Cn Y Cv H y u){C:Res D->Prop}(d:C .bad->False)(P:C (iQ x y)){Q:VK}
 (h:∀ds es xs ys,Dns Y Cv (ds++es) (xs++ys)->C (.ok (.lst (ds++es)))->∀p,H p=G->Q (.ref p) (upd H p (.lst (xs++ys)))):HR v u H Q:=by
 cases x with
 |lst ds=>
   cases y with
   |lst es=>
     let(a,xs,r,l,f):=j;let(b,ys,g,k,e):=i;have c:C (if ds.length+es.length<=ak then .ok (.lst (ds++es)) else .bad):=P;by_cases z:ds.length+es.length<=ak
     .rw[Xx z]at c;exact(a,b,xs,ys,r,g,l,k,Yz (fU (by rw[<-f.len,<-e.len];exact z)),h ds es xs ys (f.append e) c)
     .rw[Xy z]at c;exact(d c).elim
   |_=>exact(d P).elim
 |_=>cases y<;>exact(d P).elim
def dW(g:PJ Y (KC Y .F) E M ta c)(f:PJ Y (KC Y .F) E M tb a):PJ Y (KO Y (.ct .fz)) E M (LH HR ta tb) (bn iQ c a):=by
 intro B U I0 Z H T Q R P;refine g.bnd R P λx v I U1 H1 O _ k q o N s=>f.bnd k s λy u e j m t _ R2 d n i l=>?_;exact SM (Cv:=e) (Cn.mono d.b d.h N) i (C:=λr=>Po Y (KO Y (.ct .fz)) E M e j I0 Z m T r Q) (λh=>h) l λds es xs ys h P3 p hp=>fH R2 P3 h hp
def FM(d:Cn Y Cv H x v){C:Res D->Prop}(e:C .bad->False)(P:C (tw x)){Q:VK}
 (h:∀ds xs,Dns Y Cv ds xs->C (.ok (.lst ds))->∀p,H p=G->Q (.ref p) (upd H p (.lst xs))):∃p ys,[v]=[.ref p]/\(SqL Y.K H p ys\/SqT Y.K H p ys)/\∀l,H l=G->Q (.ref l) (upd H l (.lst ys)):=by
 cases x with
 |lst ds=>
   let(a,xs,r,c,b):=d;exact(a,xs,by rw[r],.inl (SqL.of c),h ds xs b P)
 |scr ds=>
   let(a,xs,r,c,b):=d;exact(a,xs,by rw[r],.inl c.sq,h ds xs b P)
 |tup ds=>
   let(a,xs,r,c,b):=d;exact(a,xs,by rw[r],.inr (SqT.of c),h ds xs b P)
 |_=>exact(e P).elim
def Ir(b:PJ Y (KC Y .F) E M ta a):
 PJ Y (KO Y (.ct .fz)) E M (Gq (λxs H Q=>∃p ys,xs=[.ref p]/\(SqL Y.K H p ys\/SqT Y.K H p ys)/\∀l,H l=G->Q (.ref l) (upd H l (.lst ys))) (bX ta dP)) (un tw a):=by
 intro B U I0 Z H T Q R P;refine b.bnd R P λx v I U1 H1 O _ c e d N s=>?_;exact FM (Cv:=I) N (C:=λr=>Po Y (KO Y (.ct .fz)) E M I U1 I0 Z H1 T r Q) (λh=>h) s λds xs h P3 p hp=>fH c P3 h hp
def LU:D->Res D | .lst xs=>.ok (.tup xs)|_=>.bad
def Dy(c:PJ Y (KC Y .F) E M ta b):
 PJ Y (KR Y .F) E M (Gq (λxs H Q=>∃p ys,xs=[.ref p]/\((SqL K H p ys/\∀l,H l=G->Q (.ref l) (upd H l (.tup ys)))\/(SqT K H p ys/\Q (.ref p) H))) (bX ta dP)) (un LU b):=by
 intro B U I0 Z H T Q R P;refine c.bnd R P λx v I U1 H1 O _ f h g N s=>?_;cases x with
 |lst ds=>
   let(a,xs,r,e,d):=N;exact(a,xs,by rw[r],.inl (SqL.of e,λp hp=>zy f s d hp))
 |_=>exact s.elim
theorem nP:∀{ds:L D} {xs:L V} {k:L cL},iz ds=J k->Dns Y Cv ds xs->xs=k.map kV
 |[],_,_,e,h=>by rw[Dns]at h;cases e;rw[h];rfl
 | d::ds,_,k,e,h=>by
   rw[Dns]at h;let(x,r,rfl,a,c):=h;unfold iz at e;cases q:qU d with
   |none=>rw[q]at e;cases e
   |some k0=>
     cases b:iz ds with
     |none=>rw[q,b]at e;cases e
     |some ks=>
       rw[q,b]at e;cases e;rw[nP b c,Xz];congr 1;cases d with
       |int i=>cases q;rw[Dn]at a;exact a
       |str x=>cases q;rw[Dn]at a;exact a
       |_=>cases q
def zK(e:qU d=J k)(h:Dn Y Cv d v):v=kV k:=by
 cases d with
 |int i=>cases e;rw[Dn]at h;exact h
 |str x=>cases e;rw[Dn]at h;exact h
 |_=>cases e
def OI(Y:Cm)(Cv:Hp):Option D->Option V->Prop
 |some d,r=>∃v,r=J v/\Dn Y Cv d v
 |none,r=>r=G
section
variable{X:Type}[DecidableEq X]
theorem tu:∀{a:L (X×V)} {ds:L D} (j:X),Dns Y Cv ds (a.map (·.2))->OI Y Cv (fe (a.map (·.1)) ds j) (nF a j)
 | [],ds,j,h=>by
   cases ds with
   |nil=>exact GA
   |cons d ds=>rw[Dns]at h;let(x,r,e,_):=h;cases e
 | p::a,ds,j,h=>by
   cases ds with
   |nil=>rw[Dns]at h;cases h
   |cons d ds=>
     rw[List.map_cons,Dns]at h;let(x,r,e,c,b):=h;cases e;rw[List.map_cons];ext fe;by_cases q:p.1=j
     .rw[Xx q];exact(p.2,oy q,c)
     .rw[Xy q,oz q];exact tu j b
end
def xw(hd:Cn Y Cv H d v)(h:Dn Y H k u)(e:qX d k=J o):∃a r,v=.ref a/\WX H a/\DGet H a u r/\OI Y Cv o r:=by
 cases d with
 |dT ks vs=>
   let(a,c,rfl,g,j,i):=hd;cases k with
   |tup p=>
     have e:(iz p).map (λk=>fe ks vs k)=J o:=e;let(f,n,m):=X9.mp e;rw[Dn]at h;let(b,xs,rfl,s,q):=h;have ex:=nP n q;subst ex;refine(a,nF c f,rfl,.inr (c,g),.inr (c,_,_,g,rfl,s,rfl),?_);have l:=tu (X:=L cL) f i;rw[j,m]at l;exact l
   |_=>cases e
 |dK ks vs=>
   let(a,c,rfl,g,j,i):=hd;have e:(qU k).map (λk=>fe ks vs k)=J o:=by cases k<;>exact e
   let(f,n,m):=X9.mp e;have ex:=zK n h;subst ex;refine(a,nF c f,rfl,.inl (c,.inl g),DGet.k g,?_);have l:=tu (X:=cL) f i;rw[j,m]at l;exact l
 |_=>cases k<;>cases e
def sO(hd:PJ Y (KC Y k) E M e f)(j:PJ Y (KR Y .X) E M c mk):PJ Y (KR Y k) E M (Oh e c) (bn ny f mk):=by
 intro B U I0 Z H T Q R P;refine hd.bnd R P λx v I U1 H1 O _ z B1 Cv N s=>j.bnd z s λy u C t A K _ R2 i F p b=>?_;unfold ny at b;cases q:qX x y with
 |none=>rw[q]at b;exact b.elim
 |some o=>
   let(a,r,m,_,g,l):=xw (Cn.mono (kQ i) i.h N) p q;cases o with
   |none=>rw[q]at b;exact b.elim
   |some d=>
     rw[q]at b;let(w,rfl,n):=l;exact(a,w,m,g,b w C t A [] R2 (Gw.refl _ _ _) New.nil n)
def Os(i:PJ Y (KR Y .X) E M c mk)(hd:PJ Y (KC Y k) E M e f):PJ Y (KR Y .F) E M (Tz c e) (bn (Cg false) mk f):=by
 intro B U I0 Z H T Q R P;refine i.bnd R P λy u I U1 H1 O _ t B1 Cv N s=>hd.bnd t s λx v A p z K _ R2 m C n b=>?_;unfold Cg at b;cases q:qX x y with
 |none=>rw[q]at b;exact b.elim
 |some o=>
   rw[q]at b;let(a,r,j,_,g,l):=xw n (Dn.mono m.h N) q;refine(a,r,j,g,b _ A p z [] R2 (Gw.refl _ _ _) New.nil ?_);show Dn Y _ (.bl (false.xor o.isSome)) _;rw[Dn];cases o with
   |none=>rw[show r=G from l];rfl
   |some d=>let(w,rfl,_):=l;rfl
def JV:D->Bool | .dT _ _=>true | .dK _ _=>true|_=>false
def Cn.dic(h:Cn Y Cv H d v)(e:JV d=true):∃a,v=.ref a/\WX H a:=by
 cases d with
 |dT ks vs=>let(a,b,r,c,_):=h;exact(a,r,.inr (b,c))
 |dK ks vs=>let(a,b,r,c,_):=h;exact(a,r,.inl (b,.inl c))
 |_=>cases e
def J7(b mk a:LK->Res D):LK->Res D:=λT=>(b T).bind λd=>if JV d=true then (mk T).bind λk=>(a T).bind λx=>xH d k x else .bad
def MK(hd:PJ Y (KC Y k) E M j n)(V:PJ Y (KR Y .X) E M i mk)(S:PJ Y (KR Y k) E M f m):PJ Y (KR Y k) E M (GL j i f) (J7 n mk m):=by
 intro B U I0 Z H T Q R P;refine hd.bnd R P λx v I U1 H1 O _ R1 e1 n1 N s=>?_;by_cases z:JV x=true
 · rw[if_pos z]at s;let(a,p,W):=Cn.dic N z;refine(a,p,W,V.bnd R1 s λy u B2 U2 H2 N2 _ R2 t n2 d2 P2=>S.bnd R2 P2 λw B1 Cv A F N3 _ C e n3 d3 P3=>?_);unfold xH at P3;have c:=Cn.mono (kQ (t.trans e)) (t.trans e).h N;cases q:qX x y with
   |none=>rw[q]at P3;exact P3.elim
   |some o=>
     rw[q]at P3;let(a',r,b,_,g,l):=xw c (Dn.mono e.h d2) q;rw[p]at b;cases b;cases o with
     |none=>
       refine(r,g,?_);rw[show r=G from l];exact P3 B1 Cv A F [] C (Gw.refl _ _ _) New.nil d3
     |some d=>
       let(K,rfl,dw):=l;exact(_,g,P3 K Cv A F [] C (Gw.refl _ _ _) New.nil dw)
 .rw[Xy z]at s;exact s.elim
end
section
variable{Y:Cm}{E:XK}{M:L Md}{K:L0}{B U H:Hp}{I0:Nat->L Addr}{Z:St}{T:LK}
theorem zF:∀{fs:L (Str×V)} {ds:L D} {f:Str} {d:D},Dns Y Cv ds (fs.map (·.2))->fe (fs.map (·.1)) ds f=J d->∃v,fs.lookup f=J v/\Dn Y Cv d v
 |[],ds,f,d,h,e=>by cases ds<;>cases e
 | p::fs,ds,f,d,h,e=>by
   cases ds with
   |nil=>cases e
   |cons j ds=>
     rw[List.map_cons,Dns]at h;let(x,r,g,c,b):=h;cases g;rw[List.map_cons]at e;unfold fe at e;by_cases q:p.1=f
     .rw[Xx q]at e;cases e;exact(p.2,by rw[Yx,<-q,YT],c)
     · rw[Xy q]at e;let(v,a,i):=zF b e
       have:(f==p.1)=false:=Yv.mpr λz=>q z.symm
       exact(v,by rw[Yx,this];exact a,i)
theorem Owf.get{sh:L (Str×Sh)}:∀{fs:L (Str×V)} {ds:L D} {A:L Addr} {f:Str} {d:D},Owf Y B H ds (fs.map (·.1)) sh (fs.map (·.2)) A->fe (fs.map (·.1)) ds f=J d->
 ∃v A1,fs.lookup f=J v/\Ow Y B H d ((sh.lookup f).getD .fz) v A1/\∀a∈A1,a∈A
 |[],ds,A,f,d,h,e=>by cases ds<;>cases e
 | p::fs,ds,A,f,d,h,e=>by
   cases ds with
   |nil=>cases e
   |cons t ds=>
     rw[List.map_cons,List.map_cons,Owf]at h;let(n,i,x,r,A1,u,k,h0,o,c,m):=h;cases k;cases h0;subst o;rw[List.map_cons]at e;unfold fe at e;by_cases q:p.1=f
     .rw[Xx q]at e;cases e;rw[q]at c;exact(p.2,A1,by rw[Yx,<-q,YT],c,λa b=>Yl _ b)
     · rw[Xy q]at e;let(v,s,j,g,l):=Owf.get m e
       have:(f==p.1)=false:=Yv.mpr λz=>q z.symm
       exact(v,s,by rw[Yx,this];exact j,g,λa b=>XE _ (l a b))
def DV(h:jg c f x=.ok d):∃ns vs,x=.obj c ns vs/\fe ns vs f=J d:=by
 cases x with
 |obj c' ns vs=>
   unfold jg at h;dsimp only at h;by_cases e:c'=c
   · rw[Xx e]at h;subst e;cases q:fe ns vs f with
     |none=>rw[q]at h;cases h
     |some y=>rw[q]at h;cases h;exact(ns,vs,rfl,q)
   .rw[Xy e]at h;cases h
 |_=>cases h
def zX(h:jg c f x=.exc e):False:=by
 cases x with
 |obj c' ns vs=>
   have h:(if c'=c then (match fe ns vs f with|some x=>Res.ok x|none=>.bad) else .bad)=.exc e:=h;by_cases e:c'=c
   .rw[Xx e]at h;cases q:fe ns vs f<;>(rw[q]at h;cases h)
   .rw[Xy e]at h;cases h
 |_=>cases h
def qJ(i:Cls K (Y c))(h:NoAttr K (Y c) f)(j:PJ Y (KC Y k) E M ta b):PJ Y (KR Y k) E M (Fd K ta f) (un (jg c f) b):=by
 intro B U I0 Z H T Q R P;refine j.bnd R P λx v I U1 H1 O _ q u t N s=>?_;cases e:jg c f x with
 |ok d=>
   rw[e]at s;let(ns,vs,rfl,l):=DV e;let(a,dx,fs,r,o,n,m):=N;subst n;let(w,g,p):=zF m l;exact(a,_,dx,fs,w,r,o,i,h,g,s w I U1 H1 [] q (Gw.refl _ _ _) New.nil p)
 |exc c'=>exact(zX e).elim
 |bad=>rw[e]at s;exact s.elim
def QD{g:KT D V}{sh:L (Str×Sh)}(s:Cls K (Y c))(n:NoAttr K (Y c) f)(o:M.getD i .F= .O (.ob sh))
 (p:∀B U H d v A,Same B U->Same U H->Ow Y B H d ((sh.lookup f).getD .fz) v A->g d v B U H []):PJ Y g E M (Fd K (iu i) f) (un (jg c f) (vr i)):=by
 intro B U I0 Z H T Q R P;have l:=R.lo i;rw[o]at l;unfold un vr at P;cases e:rg T i with
 |none=>rw[e]at P;exact P.elim
 |some h=>
   rw[e]at P l;let(v,m,q):=l;replace P:Po Y g E M B U I0 Z H T (jg c f h) Q:=P;refine(v,i7 m,?_);cases b:jg c f h with
   |ok d=>
     rw[b]at P;let(ns,vs,rfl,l):=DV b;have q:Ow Y B H (.obj c ns vs) (.ob sh) v (I0 i):=q;rw[Ow]at q;let(a,dx,fs,z,r,x,u,y,t):=q;subst u;let(w,A1,k,j,_):=Owf.get t l;exact(a,_,dx,fs,w,r,x,s,n,k,P w B U H [] R (Gw.refl _ _ _) New.nil (p B U H d w A1 R.bu R.uh j))
   |exc c'=>exact(zX b).elim
   |bad=>rw[b]at P;exact P.elim
theorem QE{sh:L (Str×Sh)}(j:Cls K (Y c))(e:NoAttr K (Y c) f)(g:M.getD i .F= .O (.ob sh))(h:(sh.lookup f).getD .fz=.ct .fz):PJ Y (KC Y .F) E M (Fd K (iu i) f) (un (jg c f) (vr i)):=
 QD j e g λB U H d v A b u a=>by
  rw[h]at a;exact Ow.cn (b.trans u) a
def Go(B1:It)(H:Hp)(vs:L V):Prop:=∀a,Same H a->(∀i,vs.length<=i->B1.stop i a)/\(∀i,i<vs.length->B1.go i a)/\∀i x H',i<vs.length->B1.yld i a x H'->H'=a/\vs[i]?=J x
def KI(Y:Cm)(k g:Kd):KT (L D) It:=λds B1 B U H _=>∃vs,Go B1 (hp g B U H) vs/\Dns Y (hp k B U H) ds vs
theorem mZ(h:H a=J (.lst xs)\/SqF K H a xs):Go (Xq K a) H xs:=λb s=>by
 have q:SqL K b a xs:=by
  rcases h with h|h
  .exact .inl (.inl (s _ _ h))
  .exact(h.mono s).sq
 exact(λi hi=>(xs,q,hi),λi hi=>(xs,xs[i],q,XS hi),λi x H' hi y=>(y.1,y.2 xs q))
theorem zN(lo:Int)(n:Nat):Go (WG lo n) H ((List.range n).map λi:Nat=>V.int (lo+i)):=λb s=>by
 have a:((List.range n).map λi:Nat=>V.int (lo+i)).length=n:=by rw[Xv,ZJ]
 refine(λi hi=>by rw[a]at hi;exact hi,λi hi=>by rw[a]at hi;exact hi,λi x H' hi y=>(y.1,?_));rw[a]at hi;rw[Ye,Z9 hi,y.2];rfl
theorem xG(lo:Int):∀n:Nat,Dns Y Cv ((List.range n).map λi:Nat=>D.int (lo+i)) ((List.range n).map λi:Nat=>V.int (lo+i))
 |0=>by rw[List.range_zero,YA,YA,Dns]
 | n+1=>by
   rw[List.range_succ,X8,X8];exact(xG lo n).append (Dns.one (by rw[Dn]))
def je(f:PJ Y (KC Y k) E M ta d):PJ Y (KI Y k .X) E M (zQ Y.K ta) (i3 d):=by
 intro B U I0 Z H T Q R P;refine f.bnd R P λx v I U1 H1 O _ e h g N s=>?_;cases x with
 |lst ds=>
   let(a,xs,r,b,c):=N;exact(a,r,(xs,SqL.of b),s _ I U1 H1 [] e (Gw.refl _ _ _) New.nil (xs,mZ (.inl b),c))
 |scr ds=>
   let(a,xs,r,b,c):=N;exact(a,r,(xs,b.sq),s _ I U1 H1 [] e (Gw.refl _ _ _) New.nil (xs,mZ (.inr b),c))
 |_=>exact s.elim
def Nn(f:PJ Y (KR Y k) E M ta e):PJ Y (KI Y k k) E M (zQ Y.K ta) (i3 e):=by
 intro B U I0 Z H T Q R P;refine f.bnd R P λx v I U1 H1 O _ c h g N s=>?_;have N:Dn Y (hp k I U1 H1) x v:=N;cases x with
 |lst ds=>
   rw[Dn]at N;let(a,xs,r,b,d):=N;exact(a,r,(xs,SqL.of (c.hp k _ _ b)),s _ I U1 H1 [] c (Gw.refl _ _ _) New.nil (xs,mZ (.inl b),d))
 |scr ds=>
   rw[Dn]at N;let(a,xs,r,b,d):=N;exact(a,r,(xs,(b.mono (c.hp k)).sq),s _ I U1 H1 [] c (Gw.refl _ _ _) New.nil (xs,mZ (.inr b),d))
 |_=>exact s.elim
def Vv(l:PJ Y (KR Y .X) E M ta e)(k:PJ Y (KR Y .X) E M tb d):PJ Y (KI Y .F g) E M (O6 (bX ta (bX tb dP))) (GM e d):=by
 intro B U I0 Z H T Q R P;refine l.bnd R P λx v I U1 H1 O _ m q o N s=>k.bnd m s λy u h f c r _ R2 p n b a=>?_;have N:Dn Y H1 x v:=N;have b:Dn Y c y u:=b;cases x with
 |int i=>
   cases y with
   |int j=>
     rw[Dn]at N;rw[Dn]at b;subst N b;have a:Po Y (KI Y .F g) E M h f I0 Z c T (if -(2 ^ 62)<=i/\i<2 ^ 62/\-(2 ^ 62)<=j/\j<2 ^ 62 then .ok (rng i j) else .bad) Q:=a;by_cases z:-(2 ^ 62)<=i/\i<2 ^ 62/\-(2 ^ 62)<=j/\j<2 ^ 62
     .rw[Xx z]at a;exact(i,j,rfl,z,a _ h f c [] R2 (Gw.refl _ _ _) New.nil (_,zN i _,xG i _))
     .rw[Xy z]at a;exact a.elim
   |_=>exact a.elim
 |_=>cases y<;>exact a.elim
def uX{c:LK->Res D}(k:PJ Y (KR Y .X) E M tb c):PJ Y (KI Y .F g) E M (O7 (bX tb dP)) (lA c):=by
 intro B U I0 Z H T Q R P
 have P:Po Y (KI Y .F g) E M B U I0 Z H T ((c T).bind λy=>match D.int 0,y with
  |.int i,.int j=>if -(2 ^ 62)<=i/\i<2 ^ 62/\-(2 ^ 62)<=j/\j<2 ^ 62 then .ok (rng i j) else .bad
  |_,_=>.bad) Q:=P
 refine k.bnd R P λy u h f d n _ R2 m l b a=>?_;have b:Dn Y d y u:=b;cases y with
 |int j=>
   rw[Dn]at b;subst b;have a:Po Y (KI Y .F g) E M h f I0 Z d T (if -(2 ^ 62)<=(0:Int)/\(0:Int)<2 ^ 62/\-(2 ^ 62)<=j/\j<2 ^ 62 then .ok (rng 0 j) else .bad) Q:=a;by_cases z:-(2 ^ 62)<=(0:Int)/\(0:Int)<2 ^ 62/\-(2 ^ 62)<=j/\j<2 ^ 62
   · rw[Xx z]at a;refine(j,rfl,z.2.2.1,z.2.2.2,a _ h f d [] R2 (Gw.refl _ _ _) New.nil ?_);have e:(j-0).toNat=j.toNat:=by rw[Int.sub_zero]
     ext rng;rw[e];exact(_,zN 0 _,xG 0 _)
   .rw[Xy z]at a;exact a.elim
 |_=>exact a.elim
def C6:rg (x::l) (i+1)=rg l i:=by ext rg;rw[List.getElem?_cons_succ]
def C5:rg (x::l) 0=x:=by ext rg;rw[List.getElem?_cons_zero];rfl
def He{ix:L Nat}:rg (ix.map λi=>rg l i) j=match ix[j]? with|some i=>rg l i|none=>none:=by
 ext rg;rw[List.getElem?_map];cases ix[j]?<;>rfl
def zw:∀{l:L Nat} {i j:Nat},l.Nodup->(a:i<l.length)->(b:j<l.length)->l[i]=l[j]->i=j
 |[],_,_,_,a,_,_=>by simp at a
 |x::l,0,0,_,_,_,_=>rfl
 | x::l,0,j+1,nd,a,b,e=>by
   have c:j<l.length:=by simpa using b
   exact absurd (show x∈l from by rw[show x=l[j] from e];exact YU c) (Yr.mp nd).1
 | x::l,i+1,0,nd,a,b,e=>by
   have c:i<l.length:=by simpa using a
   exact absurd (show x∈l from by rw[show x=l[i] from e.symm];exact YU c) (Yr.mp nd).1
 | x::l,i+1,j+1,nd,a,b,e=>by
   rw[zw (Yr.mp nd).2 (by simpa using a) (by simpa using b) e]
def Xk(I0:Nat->L Addr)(ix:L Nat):Nat->L Addr
 |0=>[]
 |j+1=>match ix[j]? with|some i=>I0 i|none=>[]
def uU(m:Md)(M:L Md)(ix:L Nat):L Md:=m::ix.map λi=>M.getD i .F
theorem Rel.inner(R:Rel Y M B U I0 Z H T){ix:L Nat}(h:ix.Nodup){m:Md}{d:D}{v:V}(hd:Lo Y B U H m (J d) (J v) []):
 Rel Y (uU m M ix) B U (Xk I0 ix) (J v::lq Z ix) H (J d::im T ix) where
 bu:=R.bu
 uh:=R.uh
 nd:=λi=>by
  cases i with
  |zero=>exact YF
  |succ j=>
    show(match ix[j]? with|some i=>I0 i|none=>[]).Nodup;cases ix[j]? with
    |none=>exact YF
    |some i=>exact R.nd i
 dj:=λi j a g b c=>by
  cases i with
  |zero=>cases b
  |succ i=>
    cases j with
    |zero=>cases c
    |succ j=>
      have b:a∈(match ix[i]? with|some i=>I0 i|none=>[]):=b;have c:a∈(match ix[j]? with|some i=>I0 i|none=>[]):=c;cases f:ix[i]? with
      |none=>rw[f]at b;cases b
      |some x=>
        cases k:ix[j]? with
        |none=>rw[k]at c;cases c
        |some y=>
          rw[f]at b;rw[k]at c;by_cases e:x=y
          · subst e;let(p,n):=XZ.mp f;let(o,l):=XZ.mp k
            have:=zw h p o (n.trans l.symm)
            exact g (by rw[this])
          .exact R.dj x y a e b c
 tb:=R.tb
 un:=λi a b=>by
  cases i with
  |zero=>cases b
  |succ i=>
    have b:a∈(match ix[i]? with|some i=>I0 i|none=>[]):=b;cases f:ix[i]? with
    |none=>rw[f]at b;cases b
    |some x=>rw[f]at b;exact R.un x a b
 lo:=λi=>by
  cases i with
  |zero=>
    rw[C5,C5];exact hd
  |succ j=>
    rw[C6,C6];ext lq im;have n:rg (ix.map λj=>rg T j) j=match ix[j]? with|some i=>rg T i|none=>none:=He
    have l:rg (ix.map λj=>(Z[j]?).join) j=match ix[j]? with|some i=>rg Z i|none=>none:=He
    rw[n,l];show Lo Y B U H ((m::ix.map λi=>M.getD i .F).getD (j+1) .F) _ _ (match ix[j]? with|some i=>I0 i|none=>[]);rw[Zw,XV,Ye];cases ix[j]? with
    |none=>exact rfl
    |some i=>exact R.lo i
 len:=by
  rw[XD,XD,lq,im,Xv,Xv]
theorem Rel.poke(R:Rel Y M B U I0 Z H T)(b:U p=G)(c:∀i,p∉I0 i):Rel Y M B U I0 Z (upd H p o) T:=
 (R.bu,λa u q=>by rw[bq (bD q b)];exact R.uh a u q,R.nd,R.dj,R.un,λi=>(R.lo i).mono (Same.refl _) (Same.refl _) λa h=>bq (λz:a=p=>c i (z▸h)),R.len,R.tb)
def na{W:Type}{l:L W}{i:Nat}{x:W}(h:l[i]?=J x):l.drop i=x::l.drop (i+1):=by
 let(b,a):=XZ.mp h;rw[List.drop_eq_getElem_cons b,a]
def NE{k k':Kd}{m0:Md}{K':KT D V}{ix:L Nat}{ti:TT}{te:TE}{X:LK->Res Bool}{C:LK->Res D}(hix:ix.Nodup)(h0:∀B U H d v,Same B U->Same U H->Dn Y (hp k B U H) d v->Lo Y B U H m0 (J d) (J v) [])
 (hti:PJ Y KB E0 (uU m0 M ix) ti X) (hte:PJ Y (KR Y k') E0 (uU m0 M ix) te C)
 (fin:∀B U I0 Z H T I U1 H1 Q l ys p,Rel Y M I U1 I0 Z H1 T->Gw B U H I U1 H1->H p=G->U1 p=G->(∀i,p∉I0 i)->H1 p=J (.lst ys)->Dns Y (hp k' I U1 H1) l ys->Po Y K' E M B U I0 Z H T (.ok (.lst l)) Q->Q (.ref p) H1)
 (hk':k'= .F\/k'= .U) {I0:Nat->L Addr} {Z:St} {T:LK} {Q:VK} {ds:L D} {B1:It} {I U1 H1:Hp} {vs:L V} (R1:Rel Y M I U1 I0 Z H1 T) (hJ:Go B1 H1 vs) (hd:Dns Y (hp k I U1 H1) ds vs)
 (s:Po Y K' E M I U1 I0 Z H1 T (if ds.length<ak then (gP X C (im T ix) ds).bind λr=>.ok (.lst r) else .bad) Q) (p:Addr) (hp:H1 p=G):EW B1 (λv=>J v::lq Z ix) ti te p H1 Q:=by
 by_cases z:ds.length<ak
 · rw[Xx z]at s;have hvl:ds.length=vs.length:=hd.len;have hpA:∀i,p∉I0 i:=λi=>R1.fresh hp i
   have K:∀{t f O B3 S H3:Hp},Gw t f O B3 S H3->Same (Mi.hp k' t f (λ_=>G)) (Mi.hp k' B3 S (λ_=>G)):=λg=>by
    rcases hk' with e|e<;>subst e
    .exact g.b
    .exact g.u
   have hpe:∀{t f O:Hp},Mi.hp k' t f O=Mi.hp k' t f (λ_=>G):=λ{t f O}=>by rcases hk' with e|e<;>subst e<;>rfl
   refine(λi m ys O=>i<=ds.length/\m=ds.length-i/\O p=J (.lst ys)/\ys.length<=i/\∃t f l,Rel Y M t f I0 Z O T/\Gw I U1 H1 t f O/\f p=G/\Dns Y (Mi.hp k' t f (λ_=>G)) l ys/\
    Po Y K' E M I U1 I0 Z H1 T ((gP X C (im T ix) (ds.drop i)).bind λr=>.ok (.lst (l++r))) Q,(ds.length,YM _,rfl,bE,XH _,I,U1,[],R1.new hp,Gw.newO R1 hp,R1.uh.free hp,by rw[Dns],s),?_)
   rintro i m ys O ⟨hi,rfl,hy,hle,t,f,l,R2,g2,u2,dz,w⟩;have Cv:=hJ O g2.h;refine(hy,Yt hle (fU (Yz (Yt hi z))),?_);by_cases hlt:i<ds.length
   · refine .inr (Cv.2.1 i ∅,λv H3 hyl=>?_);let(rfl,ev):=Cv.2.2 i v H3 ∅ hyl;let(d,ed,dd):=hd.geti ev;rw[na ed,gP]at w;have RI:=R2.inner hix (h0 t f H3 d v R2.bu R2.uh (Dn.mono (kQ g2) dd));refine hti t f _ _ H3 _ _ RI ?_;cases eb:X (J d::im T ix) with
     |ok c=>
       rw[eb]at w;intro b B3 S H4 N3 N n n3 hb;cases hb
       have up3:S p=none:=by
        cases q:S p with
        |none=>rfl
        |some o=>
          rcases n.fr p o q with z|z|⟨xs,z⟩
          .rw[u2]at z;cases z
          .rw[hy]at z;cases z
          .subst z;have:=N.uh p _ q;rw[n.h _ _ hy]at this;cases this
       have R3:Rel Y M B3 S I0 Z H4 T:=R2.grow n.b n.u n.h N.bu N.uh λj a P=>by
        cases q:S a with
        |none=>rfl
        |some o=>
          rcases n.fr a o q with z|z|z
          .rw[R2.un j a P]at z;cases z
          .let(o',A):=R2.at P;rw[z]at A;cases A
          .let(o',A):=R2.at P;have e1:=n.h _ _ A;rw[N.uh a _ q]at e1;cases e1;exact(R2.nt P A z).elim
       cases c with
       |false=>
         rw[Xy XO];exact(ds.length-(i+1),∅,hlt,rfl,n.h _ _ hy,∅,B3,S,l,R3,g2.trans n,up3,dz.mono (K n),w)
       |true=>
         rw[Xx rfl];refine hte B3 S _ _ H4 _ _ N ?_;cases ee:C (J d::im T ix) with
         |ok x=>
           have P3:Po Y K' E M I U1 I0 Z H1 T (((C (J d::im T ix)).calm.bind λx=>(gP X C (im T ix) (ds.drop (i+1))).bind λxs=>.ok (x::xs)).bind λr=>.ok (.lst (l++r))) Q:=w;rw[ee]at P3;intro y B4 U4 H5 N4 W R n4 hx;have y5:H5 p=J (.lst ys):=R.h _ _ (n.h _ _ hy)
           have up4:U4 p=none:=by
            cases q:U4 p with
            |none=>rfl
            |some o=>
              rcases R.fr p o q with z|z|⟨xs,z⟩
              .rw[up3]at z;cases z
              .rw[n.h _ _ hy]at z;cases z
              .subst z;have:=W.uh p _ q;rw[y5]at this;cases this
           have R4:Rel Y M B4 U4 I0 Z H5 T:=R3.grow R.b R.u R.h W.bu W.uh λj a P=>by
            cases q:U4 a with
            |none=>rfl
            |some o=>
              rcases R.fr a o q with z|z|z
              .rw[R3.un j a P]at z;cases z
              .let(o',A):=R3.at P;rw[z]at A;cases A
              .let(o',A):=R3.at P;have e1:=R.h _ _ A;rw[W.uh a _ q]at e1;cases e1;exact(R3.nt P A z).elim
           have g5:Gw I U1 H1 B4 U4 (upd H5 p (.lst (ys++[y]))):=by
            have g:=(g2.trans n).trans R;exact(g.toEx,λa o q=>by rw[bq (bD q hp)];exact g.h a o q,g.fr)
           refine(y5,ds.length-(i+1),∅,hlt,rfl,bE,by rw[XF,Y4];omega,B4,U4,l++[x],R4.poke up4 hpA,g5,up4,(dz.mono (K (n.trans R))).append (Dns.one ?_),?_)
           .have hx:Dn Y (Mi.hp k' B4 U4 H5) x y:=hx;rw[hpe]at hx;exact hx
           · cases eg:gP X C (im T ix) (ds.drop (i+1)) with
             |ok r=>
               rw[eg]at P3;show Po Y K' E M I U1 I0 Z H1 T (.ok (.lst (l++[x]++r))) Q;rw[Yg];exact P3
             |exc c=>rw[eg]at P3;exact P3
             |bad=>rw[eg]at P3;exact P3
         |exc c=>
           have P3:Po Y K' E M I U1 I0 Z H1 T (((C (J d::im T ix)).calm.bind λx=>(gP X C (im T ix) (ds.drop (i+1))).bind λxs=>.ok (x::xs)).bind λr=>.ok (.lst (l++r))) Q:=w;rw[ee]at P3;exact P3.elim
         |bad=>
           have P3:Po Y K' E M I U1 I0 Z H1 T (((C (J d::im T ix)).calm.bind λx=>(gP X C (im T ix) (ds.drop (i+1))).bind λxs=>.ok (x::xs)).bind λr=>.ok (.lst (l++r))) Q:=w;rw[ee]at P3;exact P3.elim
     |exc c=>rw[eb]at w;exact w.elim
     |bad=>rw[eb]at w;exact w.elim
   · have e:i=ds.length:=by omega
     subst e;rw[ZU,gP]at w;refine .inl (Cv.1 _ ∅,?_);have P3:Po Y K' E M I U1 I0 Z H1 T (.ok (.lst (l++[]))) Q:=w;rw[XY]at P3;exact fin I U1 I0 Z H1 T t f O Q l ys p R2 g2 hp u2 hpA hy (by rw[hpe];exact dz) P3
 .rw[Xy z]at s;exact s.elim
def ND{ix:L Nat}
 (q:PJ Y (KI Y k .X) E M j src) (f:ix.Nodup) (h0:∀B U H d v,Same B U->Same U H->Dn Y (hp k B U H) d v->Lo Y B U H a (J d) (J v) [])
 (b:PJ Y KB E0 (uU a M ix) l m) (c:PJ Y (KR Y k') E0 (uU a M ix) te n)
 (g:∀B U I0 Z H T I U1 H1 Q h ys p,Rel Y M I U1 I0 Z H1 T->Gw B U H I U1 H1->H p=G->U1 p=G->(∀i,p∉I0 i)->H1 p=J (.lst ys)->Dns Y (hp k' I U1 H1) h ys->Po Y o E M B U I0 Z H T (.ok (.lst h)) Q->Q (.ref p) H1)
 (e:k'= .F\/k'= .U):PJ Y o E M (sk j ix l te) (pK src ix m n):=by
 intro B U I0 Z H T Q R P;refine q.bnd R P λds B1 I U1 H1 O _ t w u (vs,r,hd) s p hp=>?_;exact NE f h0 b c g e t r hd s p hp
theorem WP(_:Same B U)(_:Same U H)(h:Dn Y (hp .F B U H) d v):Lo Y B U H .F (J d) (J v) []:=(v,rfl,h,rfl)
theorem inU(_:Same B U)(_:Same U H)(h:Dn Y (hp .U B U H) d v):Lo Y B U H .R (J d) (J v) []:=(v,rfl,h,rfl)
theorem R5{H:Hp}{U1 H1:Hp}{Q:VK}(R:Rel Y M I U1 I0 Z H1 T)(g:Gw B U H I U1 H1)(hp:H p=G)(u:U1 p=G)(c:∀i,p∉I0 i)(h:H1 p=J (.lst ys))
 (d:Dns Y (Mi.hp .F I U1 H1) b ys) (P:Po Y (KO Y (.ct .fz)) E M B U I0 Z H T (.ok (.lst b)) Q):Q (.ref p) H1:=
 P (.ref p) I U1 H1 [p] R g (by simp,λa q=>by rw[XM.mp q];exact hp,λa q=>by rw[XM.mp q];exact u) (by
  show Ow Y I H1 (.lst b) (.ct .fz) (.ref p) [p];rw[Ow]
  exact(p,ys,[],rfl,h,rfl,Ows.of d))
section
variable{wi:TI}{ix:L Nat}{ti:TT}{te:TE}{src:LK->Res (L D)}{mi:LK->Res Bool}{me:LK->Res D}
theorem lP:PJ Y KB E M GE (λ_=>.ok true):=λB U I0 Z H T Q R P=>P _ B U H [] R (Gw.refl _ _ _) New.nil rfl
theorem eT(d:PJ Y (KI Y .F .X) E M wi src)(c:ix.Nodup)(a:PJ Y KB E0 (uU .F M ix) ti mi)(b:PJ Y (KR Y .F) E0 (uU .F M ix) te me):PJ Y (KO Y (.ct .fz)) E M (sk wi ix ti te) (pK src ix mi me):=
 ND d c (λ_ _ _ _ _=>WP) a b (λ_ _ _ _ _ _ _ _ _ _ _ _ _=>R5) (.inl rfl)
end
end
structure NewM (N:L Addr) (U:Hp) (I0:Nat->L Addr):Prop where
 nd:N.Nodup
 un:∀a∈N,U a=G
 ap:∀a∈N,∀i,a∉I0 i
theorem NewM.nil:NewM [] U I0:=(YF,λ_ h=>(nomatch h),λ_ h=>(nomatch h))
def Kp(pr:Nat->Bool)(Z a:St):Prop:=∀j,pr j=true->rg a j=rg Z j
theorem Kp.refl(pr:Nat->Bool)(Z:St):Kp pr Z Z:=λ_ _=>rfl
theorem Kp.trans(a:Kp pr Z d)(b:Kp pr d c):Kp pr Z c:=λj h=>(b j h).trans (a j h)
section
variable(Y:Cm)
def Mo{W X:Type}(K:KT W X)(E:XK)(M:L Md)(B U:Hp)(Z:St)(r:Out W)(Q:X->Hp->Prop):Prop:=
 match r with
 |.ok d C=>∀v S B1 Cv H' N,Rel Y M S B1 Cv Z H' C->Ex B U S B1->NewM N B1 Cv->K d v S B1 H' N->Q v H'
 |.exc c C=>∀S B1 Cv H',Rel Y M S B1 Cv Z H' C->Ex B U S B1->∀a,E (.ref (Y c)) a H'
 |.bad=>False
def MJ{W X:Type}(K:KT W X)(E:XK)(M:L Md)(t:St->Hp->(X->Hp->Prop)->Prop)(m:LK->Out W):Prop:=
 ∀B U I0 Z H T Q,Rel Y M B U I0 Z H T->Mo Y K E M B U Z (m T) Q->t Z H Q
def So(E:XK)(e:KT D V)(pr:Nat->Bool)(M:L Md)(B U:Hp)(Z:St)(r:SO)(D:Ends):Prop:=
 match r with
 |.nx C=>∀a S B1 Cv H',Rel Y M S B1 Cv a H' C->Ex B U S B1->Kp pr Z a->D.nx a H'
 |.bk C=>∀a S B1 Cv H',Rel Y M S B1 Cv a H' C->Ex B U S B1->Kp pr Z a->D.bk a H'
 |.ct C=>∀a S B1 Cv H',Rel Y M S B1 Cv a H' C->Ex B U S B1->Kp pr Z a->D.ct a H'
 |.rt d C=>∀v a S B1 Cv H' N,Rel Y M S B1 Cv a H' C->Ex B U S B1->Kp pr Z a->NewM N B1 Cv->e d v S B1 H' N->D.rt v H'
 |.exc c C=>∀a S B1 Cv H',Rel Y M S B1 Cv a H' C->Ex B U S B1->Kp pr Z a->∀b,E (.ref (Y c)) b H'
 |.bad=>False
def SJ(E:XK)(a:KT D V)(pr:Nat->Bool)(M:L Md)(t:TS)(m:LK->SO):Prop:=
 ∀B U I0 Z H T D,Rel Y M B U I0 Z H T->So Y E a pr M B U Z (m T) D->t D Z H
end
section
variable{Y:Cm}{E:XK}{Kr:KT D V}{pr:Nat->Bool}{M:L Md}{K:L0}{B U H I U1 H1:Hp}{I0:Nat->L Addr}{Z σ1:St}{T:LK}
def Mo.at{W X:Type}{K:KT W X}{r:Out W}{Q:X->Hp->Prop}(P:Mo Y K E M B U Z r Q)(e:Ex B U I U1):Mo Y K E M I U1 Z r Q:=by
 cases r with
 |ok d C=>exact λv S B1 Cv H' N b a f k=>P v S B1 Cv H' N b (e.trans a) f k
 |exc c C=>exact λS B1 Cv H' b a=>P S B1 Cv H' b (e.trans a)
 |bad=>exact P
def So.at{D:Ends}(P:So Y E Kr pr M B U Z r D)(e:Ex B U I U1)(k:Kp pr Z σ1):So Y E Kr pr M I U1 σ1 r D:=by
 cases r with
 |nx C=>exact λa S B1 Cv H' f b k'=>P a S B1 Cv H' f (e.trans b) (k.trans k')
 |bk C=>exact λa S B1 Cv H' f b k'=>P a S B1 Cv H' f (e.trans b) (k.trans k')
 |ct C=>exact λa S B1 Cv H' f b k'=>P a S B1 Cv H' f (e.trans b) (k.trans k')
 |rt d C=>exact λv a S B1 Cv H' N f b k'=>P v a S B1 Cv H' N f (e.trans b) (k.trans k')
 |exc c C=>exact λa S B1 Cv H' f b k'=>P a S B1 Cv H' f (e.trans b) (k.trans k')
 |bad=>exact P
def a9{W X:Type}{K:KT W X}{t:St->Hp->(X->Hp->Prop)->Prop}{m:LK->Res W}(h:PJ Y K E M t m):MJ Y K E M t (λT=>(m T).up T):=by
 intro B U I0 Z H T Q R P;replace P:Mo Y K E M B U Z ((m T).up T) Q:=P;refine h B U I0 Z H T Q R ?_;cases e:m T with
 |ok d=>
   rw[e]at P;exact λv S B1 H' N a g n k=>P v S B1 I0 H' N a g.toEx (n.nd,n.un,R.apart n) k
 |exc c=>
   rw[e]at P;exact λS B1 H' a g=>P S B1 I0 H' a g.toEx
 |bad=>rw[e]at P;exact P
def MJ.bnd{X:Type}{g:KT W X}{ta:St->Hp->(X->Hp->Prop)->Prop}{b:LK->Out W}(j:MJ Y g E M ta b)(R:Rel Y M B U I0 Z H T){k:W->LK->Out O}
 (P:Mo Y f E M B U Z ((b T).bind k) Q) {body:X->Hp->Prop}
 (h:∀x C v I U1 a H1 N,Rel Y M I U1 a Z H1 C->Ex B U I U1->NewM N U1 a->g x v I U1 H1 N->Mo Y f E M I U1 Z (k x C) Q->body v H1):ta Z H body:=by
 refine j B U I0 Z H T body R ?_;cases e:b T with
 |ok x C=>
   rw[e]at P;exact λv I U1 a H1 N l d i k1=>h x C v I U1 a H1 N l d i k1 (Mo.at (r:=k x C) P d)
 |exc c C=>rw[e]at P;exact P
 |bad=>rw[e]at P;exact P
def MJ.bndS{X:Type}{f:KT W X}{ta:St->Hp->(X->Hp->Prop)->Prop}{b:LK->Out W}(i:MJ Y f E M ta b)(R:Rel Y M B U I0 Z H T){k:W->LK->SO}{D:Ends}
 (P:So Y E Kr pr M B U Z (nh (b T) k) D) {body:X->Hp->Prop}
 (h:∀x C v I U1 a H1 N,Rel Y M I U1 a Z H1 C->Ex B U I U1->NewM N U1 a->f x v I U1 H1 N->So Y E Kr pr M I U1 Z (k x C) D->body v H1):ta Z H body:=by
 refine i B U I0 Z H T body R ?_;cases e:b T with
 |ok x C=>
   rw[e]at P;exact λv I U1 a H1 N l d g k1=>h x C v I U1 a H1 N l d g k1 (So.at (r:=k x C) P d (Kp.refl _ _))
 |exc c C=>rw[e]at P;exact λS B1 Cv H' m j=>P Z S B1 Cv H' m j (Kp.refl _ _)
 |bad=>rw[e]at P;exact P
def lN{l:L (Option W)}:rg (l.set i x) j=if i=j/\i<l.length then x else rg l j:=by
 ext rg;rw[List.getElem?_set];by_cases e:i=j
 · subst e;by_cases h:i<l.length
   .rw[Xx rfl,Xx h,Xx (rfl,h)];rfl
   .rw[Xx rfl,Xy h,Xy λz=>h z.2,X5 ∅]
 .rw[Xy e,Xy λz=>e z.1]
def Rel.store(R:Rel Y M B U I0 Z H T)(n:NewM N U I0)(l:Lo Y B U H (M.getD i .F) (J d) (J v) N):
 ∃Cv,Rel Y M B U Cv (Z.set i (J v)) H (T.set i (J d)):=by
 by_cases hi:i<T.length
 · refine(λj=>if j=i then N else I0 j,R.bu,R.uh,λj=>?_,λj k a f b c=>?_,λj a b=>?_,λj=>?_,by rw[YR,YR];exact R.len,R.tb)
   · show(if j=i then N else I0 j).Nodup;split
     .exact n.nd
     .exact R.nd j
   · replace b:a∈(if j=i then N else I0 j):=b;replace c:a∈(if k=i then N else I0 k):=c;split at b
     · split at c
       .rename_i h g;exact f (h.trans g.symm)
       .exact n.ap a b k c
     · split at c
       .exact n.ap a c j b
       .exact R.dj j k a f b c
   · replace b:a∈(if j=i then N else I0 j):=b;split at b
     .exact n.un a b
     .exact R.un j a b
   · rw[lN,lN];show Lo Y B U H (M.getD j .F) _ _ (if j=i then N else I0 j);by_cases e:i=j
     .subst e;rw[Xx (rfl,hi),Xx (rfl,by rw[<-R.len];exact hi),Xx rfl];exact l
     .rw[Xy λz=>e z.1,Xy λz=>e z.1,Xy λz=>e z.symm];exact R.lo j
 .have g:=R.len;have o:Z.set i (J v)=Z:=Ac1 ∅;have m:T.set i (J d)=T:=Ac1 ∅;rw[o,m];exact(I0,R)
theorem Kp.set(h:pr i=false):Kp pr Z (Z.set i x):=λj a=>by
 rw[lN,Xy];rintro⟨e,_⟩;rw[e,a]at h;cases h
def G1{f:KT D V}(h:MJ Y f E M te m)(k:∀B U H d v N,f d v B U H N->∃a,(a=[]\/a=N)/\Lo Y B U H (M.getD i .F) (J d) (J v) a)(hp:pr i=false):SJ Y E Kr pr M (pU te (eB i)) (bM i m):=by
 intro B U I0 Z H T D R P;refine h.bndS R P λx C v I U1 c H1 N o p j k1 s=>?_;let(a,n,l):=k I U1 H1 x v N k1
 have g:NewM a U1 c:=by
  rcases n with e|e
  .subst e;exact NewM.nil
  .subst e;exact j
 let(b,R2):=o.store g l;exact s _ I U1 b H1 R2 (Ex.refl _ _) (Kp.set hp)
theorem bx(h:MJ Y (KR Y .F) E M te m)(a:M.getD i .F= .F)(hp:pr i=false):SJ Y E Kr pr M (pU te (eB i)) (bM i m):=
 G1 h (λB U H d v N k=>([],.inl rfl,by rw[a];exact(v,rfl,k,rfl))) hp
theorem PQ(h:MJ Y (KR Y .U) E M te m)(a:M.getD i .F= .R)(hp:pr i=false):SJ Y E Kr pr M (pU te (eB i)) (bM i m):=
 G1 h (λB U H d v N k=>([],.inl rfl,by rw[a];exact(v,rfl,k,rfl))) hp
theorem bW(h:MJ Y (KO Y s) E M te m)(a:M.getD i .F= .O s)(hp:pr i=false):SJ Y E Kr pr M (pU te (eB i)) (bM i m):=
 G1 h (λB U H d v N k=>(N,.inr rfl,by rw[a];exact(v,rfl,k))) hp
theorem cR:SJ Y E Kr pr M Og cz:=λB U I0 Z H T D R P=>P Z B U I0 H R (Ex.refl _ _) (Kp.refl _ _)
def aw(h:SJ Y E Kr pr M t m)(k:SJ Y E Kr pr M u n):SJ Y E Kr pr M (L6 t u) (aG m n):=by
 intro B U I0 Z H T D R P;refine h B U I0 Z H T _ R ?_;unfold aG at P;cases e:m T with
 |nx C=>rw[e]at P;exact λa S B1 Cv H' f b kp=>k S B1 Cv a H' C D f (So.at P b kp)
 |bk C=>rw[e]at P;exact P
 |ct C=>rw[e]at P;exact P
 |rt d C=>rw[e]at P;exact P
 |exc c C=>rw[e]at P;exact P
 |bad=>rw[e]at P;exact P
def bQ{c:KT D V}{m:LK->Out D}(h:MJ Y c E M te m):SJ Y E Kr pr M (CO te) (b8 m):=by
 intro B U I0 Z H T D R P;refine h.bndS R P λx C v I U1 a H1 N b e d k1 s=>?_;exact s Z I U1 a H1 b (Ex.refl _ _) (Kp.refl _ _)
def bY{m:LK->Out D}(h:MJ Y Kr E M te m):SJ Y E Kr pr M (Tu te) (dE m):=by
 intro B U I0 Z H T D R P;refine h.bndS R P λx C v I U1 a H1 N c d b k1 s=>?_;exact s v Z I U1 a H1 N c (Ex.refl _ _) (Kp.refl _ _) b k1
def fj{mc:LK->Out Bool}(d:MJ Y KB E M c mc)(h:SJ Y E Kr pr M t m)(k:SJ Y E Kr pr M u n):SJ Y E Kr pr M (Tw c t u) (kB mc m n):=by
 intro B U I0 Z H T D R P;refine d.bndS R P λx C v I U1 a H1 N b f e k1 s=>?_;cases k1;cases x with
 |true=>exact h I U1 a Z H1 C D b s
 |false=>exact k I U1 a Z H1 C D b s
def TJ(Y:Cm)(k:Kd)(pr:Nat->Bool)(M:L Md)(g:TG)(c:D->LK->Option LK):Prop:=∀B U I0 Z H T d v a Q,Rel Y M B U I0 Z H T->Dn Y (hp k B U H) d v->c d T=J a->(∀σ1 b,Rel Y M B U b σ1 H a->Kp pr Z σ1->Q σ1 H)->g v Z H Q
def yM(c:M.getD i .F= .F)(hp:pr i=false):TJ Y .F pr M (eB i) (yD i):=by
 intro B U I0 Z H T d v b Q R hd e h;cases e;let(a,R2):=R.store (i:=i) (d:=d) (v:=v) NewM.nil (by rw[c];exact(v,rfl,hd,rfl));exact h _ a R2 (Kp.set hp)
def tg2(hi:TJ Y k pr M (eB i) (yD i))(t:TJ Y k pr M (eB j) (yD j)):TJ Y k pr M (RW K 2 (zW (eB i) (zW (eB j) RX))) (Tq i j):=by
 intro B U I0 Z H T d v p Q R hd e h;cases d with
 |tup ds=>
   rcases ds with _|⟨x,_|⟨y,_|⟨z,ds⟩⟩⟩
   .cases e
   .cases e
   .cases e;rw[Dn]at hd;let(a,xs,rfl,u,o):=hd;rw[Dns]at o;let(f,r,rfl,s,n):=o;rw[Dns]at n;let(b,A,rfl,q,m):=n;rw[Dns]at m;subst m;refine(a,[f,b],rfl,SqT.of (R.hp k _ _ u),rfl,f,[b],rfl,?_);refine hi B U I0 Z H T x f _ _ R s rfl λσ1 l w k1=>(b,[],rfl,?_);exact t B U l σ1 H _ y b _ _ w q rfl λc g R2 k2=>(rfl,h c g R2 (k1.trans k2))
   .cases e
 |_=>cases e
def iF{src:LK->Out (L D)}{S:D->LK->Option LK}(hs:MJ Y (KI Y k .U) E M wi src)(hk:k= .F\/k= .U)(hg:TJ Y k pr M g S)(hb:SJ Y E Kr pr M tb body):
 SJ Y E Kr pr M (Tx wi g tb) (gp src S body):=by
 intro B U I0 Z H T D R P;refine hs.bndS R P λds ρ0 B1 I U1 As1 H1 N R1 e1 n1 (vs,hJ,hd) s=>?_;have hvl:ds.length=vs.length:=hd.len
 have hp1:∀{p o H2:Hp},Ex I U1 p o->Same (hp k I U1 H1) (hp k p o H2):=λe=>by
  rcases hk with z|z<;>subst z
  .exact e.b
  .exact e.u
 refine(λi m r H'=>i<=ds.length/\m=ds.length-i/\∃p o n h,Rel Y M p o n r H' h/\Ex I U1 p o/\Kp pr Z r/\So Y E Kr pr M I U1 Z (xz S body (ds.drop i) h) D,(_,YM _,rfl,I,U1,As1,ρ0,R1,Ex.refl _ _,Kp.refl _ _,s),?_);rintro i m r H' ⟨hi,rfl,p,o,n,h,R2,Cv,k2,a⟩;have hj:=hJ H' (Cv.u.trans R2.uh);by_cases V:i<ds.length
 · refine .inr (hj.2.1 i ∅,λq W=>i+1<=ds.length/\∃p o n h,Rel Y M p o n q W h/\Ex I U1 p o/\Kp pr Z q/\So Y E Kr pr M I U1 Z (xz S body (ds.drop (i+1)) h) D,λq W (h1,h2)=>(ds.length-(i+1),∅,h1,rfl,h2),λx Hx hy=>?_);let(rfl,ev):=hj.2.2 i x Hx ∅ hy;let(d,ed,dd):=hd.geti ev;rw[na ed,xz]at a;cases et:S d h with
   |none=>rw[et]at a;exact a.elim
   |some K=>
     rw[et]at a;refine hg p o n r Hx h d x K _ R2 (Dn.mono (hp1 Cv) dd) et λX As3 R3 k3=>?_;refine hb p o As3 X Hx K _ R3 ?_;dsimp only at a;cases Q:body K with
     |nx l=>
       rw[Q]at a;exact λj C y f O A w t=>(V,C,y,f,l,A,Cv.trans w,(k2.trans k3).trans t,a)
     |ct l=>
       rw[Q]at a;exact λj C y f O A w t=>(V,C,y,f,l,A,Cv.trans w,(k2.trans k3).trans t,a)
     |bk l=>
       rw[Q]at a;exact λj C y f O A w t=>a j C y f O A (Cv.trans w) ((k2.trans k3).trans t)
     |rt d l=>
       rw[Q]at a;exact λv j C y f O N A w t=>a v j C y f O N A (Cv.trans w) ((k2.trans k3).trans t)
     |exc c l=>
       rw[Q]at a;exact λj C y f O A w t=>a j C y f O A (Cv.trans w) ((k2.trans k3).trans t)
     |bad=>rw[Q]at a;exact a.elim
 · have e:i=ds.length:=by omega
   subst e;rw[ZU,xz]at a;exact .inl (hj.1 _ ∅,a r p o n H' R2 Cv k2)
def Mn{mc:LK->Out Bool}(n:Nat)(V:MJ Y KB E M c mc)(W:SJ Y E Kr pr M tb body):SJ Y E Kr pr M (GF c tb) (E6 mc body n):=by
 intro B U I0 Z H T D R P;refine(λm i H'=>∃S B1 A p,Rel Y M S B1 A i H' p/\Ex B U S B1/\Kp pr Z i/\So Y E Kr pr M B U Z (E6 mc body m p) D,(n,B,U,I0,T,R,Ex.refl _ _,Kp.refl _ _,P),?_);rintro m i H' ⟨S,B1,A,p,R2,y,k2,b⟩;cases m with
 |zero=>exact b.elim
 |succ m=>
   rw[E6]at b;refine V S B1 A i H' p _ R2 ?_;cases e:mc p with
   |ok x q=>
     rw[e]at b;intro v Q I u O N K w X k3;cases k3;cases x with
     |false=>
       rw[Xy XO];exact b i Q I u O K (y.trans w) k2
     |true=>
       rw[Xx rfl]
       have b:So Y E Kr pr M B U Z (match body q with
        |.nx C=>E6 mc body m C
        |.ct C=>E6 mc body m C
        |.bk C=>.nx C
        |o=>o) D:=b
       refine(λl Cv=>∃k j a f,Rel Y M k j a l Cv f/\Ex B U k j/\Kp pr Z l/\So Y E Kr pr M B U Z (E6 mc body m f) D,λl Cv h=>(m,ZS m,h),?_);refine W Q I u i O q _ K ?_;cases F:body q with
       |nx f=>
         rw[F]at b;exact λg k j a z t s r=>(k,j,a,f,t,(y.trans w).trans s,k2.trans r,b)
       |ct f=>
         rw[F]at b;exact λg k j a z t s r=>(k,j,a,f,t,(y.trans w).trans s,k2.trans r,b)
       |bk f=>
         rw[F]at b;exact λg k j a z t s r=>b g k j a z t ((y.trans w).trans s) (k2.trans r)
       |rt d f=>
         rw[F]at b;exact λv g k j a z N t s r=>b v g k j a z N t ((y.trans w).trans s) (k2.trans r)
       |exc c f=>
         rw[F]at b;exact λg k j a z t s r=>b g k j a z t ((y.trans w).trans s) (k2.trans r)
       |bad=>rw[F]at b;exact b.elim
   |exc c q=>rw[e]at b;exact λQ I u O K w=>b i Q I u O K (y.trans w) k2
   |bad=>rw[e]at b;exact b.elim
end
inductive Ap where
 |F|U|X|O (i:Nat)|Bo (i:Nat)
deriving DecidableEq
def iY:L Ap->Nat->LK->LK->LK
 |[],_,_,T=>T
 |.O i::r,j,a,T=>iY r (j+1) a (T.set i (rg a j))
 |_::r,j,a,T=>iY r (j+1) a T
def iG(a:L Ap)(e:L D->Out D)(ds:L D)(T:LK):Out D:=match e ds with
 |.ok d b=>.ok d (iY a 0 b T)
 |.exc c b=>.exc c (iY a 0 b T)
 |.bad=>.bad
def mL(a:L D->Out D)(ds:L D):Res D:=match a ds with
 |.ok d _=>.ok d
 |.exc c _=>.exc c
 |.bad=>.bad
def jE(M:L Md)(T:LK):LK:=(List.range M.length).map λi=>match M.getD i .F with | .O _=>rg T i|_=>G
section
variable(Y:Cm)
def gy(M:L Md)(e:KT D V)(b:L D->Out D):Sp:=λvs H Q E=>∃B U I0 ds,Rel Y M B U I0 (vs.map J) H (ds.map J)/\vs.length=M.length/\match b ds with
 |.ok d C=>∀v S B1 Cv H' N,Rel Y M S B1 Cv (vs.map J) H' (jE M C)->Ex B U S B1->NewM N B1 Cv->e d v S B1 H' N->Q v H'
 |.exc c C=>∀S B1 Cv H',Rel Y M S B1 Cv (vs.map J) H' (jE M C)->Ex B U S B1->∀a,E (.ref (Y c)) a H'
 |.bad=>False
def A1(p:Ap)(B U H:Hp)(Z:St)(T:LK)(d:D)(v:V):Prop:=match p with
 |.F=>Dn Y B d v
 |.U=>Dn Y U d v
 |.X=>Dn Y H d v
 |.O i=>rg Z i=J v/\rg T i=J d
 |.Bo i=>rg Z i=J v/\rg T i=J d
def Ag(B U H:Hp)(Z:St)(T:LK):L Ap->L D->L V->Prop
 |[],ds,vs=>ds=[]/\vs=[]
 |p::ps,ds,vs=>∃d a v vr,ds=d::a/\vs=v::vr/\A1 Y p B U H Z T d v/\Ag B U H Z T ps a vr
end
section
variable{Y:Cm}{E:XK}{M:L Md}{B U H:Hp}{I0:Nat->L Addr}{Z:St}{T:LK}
def A1.mono(h:A1 Y p B U H Z T d v)(g:Gw B U H S B1 H'):A1 Y p S B1 H' Z T d v:=by
 cases p with
 |F=>exact Dn.mono g.b h
 |U=>exact Dn.mono g.u h
 |X=>exact Dn.mono g.h h
 |O i=>exact h
 |Bo i=>exact h
def A1J(Y:Cm)(E:XK)(M:L Md)(p:Ap)(t:TE)(m:LK->Res D):Prop:=∀B U I0 Z H T Q,Rel Y M B U I0 Z H T->Po Y (λd v B U H _=>A1 Y p B U H Z T d v) E M B U I0 Z H T (m T) Q->t Z H Q
def AJ(Y:Cm)(E:XK)(M:L Md)(ps:L Ap)(t:TA)(m:LK->Res (L D)):Prop:=∀B U I0 Z H T Q,Rel Y M B U I0 Z H T->Po Y (λd v B U H _=>Ag Y B U H Z T ps d v) E M B U I0 Z H T (m T) Q->t Z H Q
theorem aF(h:PJ Y (KR Y .F) E M t m):A1J Y E M .F t m:=λB U I0 Z H T Q R P=>h B U I0 Z H T Q R P
theorem aU(h:PJ Y (KR Y .U) E M t m):A1J Y E M .U t m:=λB U I0 Z H T Q R P=>h B U I0 Z H T Q R P
theorem aX(h:PJ Y (KR Y .X) E M t m):A1J Y E M .X t m:=λB U I0 Z H T Q R P=>h B U I0 Z H T Q R P
def S4(hp:∀B U H Z T d v,rg Z i=J v->rg T i=J d->A1 Y p B U H Z T d v):A1J Y E M p (iu i) (vr i):=by
 intro B U I0 Z H T Q R P;unfold vr at P;have l:=R.lo i;cases e:rg T i with
 |none=>rw[e]at P;exact P.elim
 |some d=>
   rw[e]at P l;let(v,a,q):=l;exact(v,i7 a,P v B U H [] R (Gw.refl _ _ _) New.nil (hp _ _ _ _ _ _ _ a e))
theorem aO:A1J Y E M (.O i) (iu i) (vr i):=S4 λ_ _ _ _ _ _ _ h k=>(h,k)
theorem aR:AJ Y E M [] dP bO:=λB U I0 Z H T Q R P=>P [] B U H [] R (Gw.refl _ _ _) New.nil (rfl,rfl)
def A1J.bnd{ta:TE}{a:LK->Res D}(f:A1J Y E M p ta a)(R:Rel Y M B U I0 Z H T){k:D->Res O}
 (P:Po Y d E M B U I0 Z H T ((a T).bind k) Q) {body:V->Hp->Prop}
 (h:∀x v I U1 H1,Rel Y M I U1 I0 Z H1 T->Gw B U H I U1 H1->A1 Y p I U1 H1 Z T x v->Po Y d E M I U1 I0 Z H1 T (k x) Q->body v H1):ta Z H body:=by
 refine f B U I0 Z H T body R ?_;cases e:a T with
 |ok x=>
   rw[e]at P;exact λv I U1 H1 N g b i k1=>h x v I U1 H1 g b k1 (Po.at (r:=k x) P b)
 |exc c=>rw[e]at P;exact P
 |bad=>rw[e]at P;exact P
def AJ.bnd{ta:TA}{a:LK->Res (L D)}(f:AJ Y E M ps ta a)(R:Rel Y M B U I0 Z H T){k:L D->Res O}
 (P:Po Y d E M B U I0 Z H T ((a T).bind k) Q) {body:L V->Hp->Prop}
 (h:∀x v I U1 H1,Rel Y M I U1 I0 Z H1 T->Gw B U H I U1 H1->Ag Y I U1 H1 Z T ps x v->Po Y d E M I U1 I0 Z H1 T (k x) Q->body v H1):ta Z H body:=by
 refine f B U I0 Z H T body R ?_;cases e:a T with
 |ok x=>
   rw[e]at P;exact λv I U1 H1 N g b i k1=>h x v I U1 H1 g b k1 (Po.at (r:=k x) P b)
 |exc c=>rw[e]at P;exact P
 |bad=>rw[e]at P;exact P
def av(e:A1J Y E M p ta c)(d:AJ Y E M ps a b):AJ Y E M (p::ps) (bX ta a) (aM c b):=by
 intro B U I0 Z H T Q R P;refine e.bnd R P λx v I U1 H1 i m N s=>d.bnd i s λy u l h k R2 f g j=>?_;exact j (v::u) l h k [] R2 (Gw.refl _ _ _) New.nil (x,y,v,u,rfl,rfl,N.mono f,g)
def xB(M:L Md)(pure:Bool):Ap->Md->Bool
 |.F,.F=>true
 |.F,.R=>true
 |.U,.R=>true
 |.X,.R=>pure
 |.Bo _,.R=>true
 |_,_=>false
theorem Ag.len:∀{ps:L Ap} {ds:L D} {vs:L V},Ag Y B U H Z T ps ds vs->ds.length=ps.length/\vs.length=ps.length
 |[],_,_,h=>by let(rfl,rfl):=h;exact(rfl,rfl)
 | p::ps,_,_,h=>by
   let(d,a,v,vr,rfl,rfl,_,h):=h
   have:=Ag.len h
   exact(by rw[XD,XD,this.1],by rw[XD,XD,this.2])
theorem Ag.get:∀{ps:L Ap} {ds:L D} {vs:L V} {j:Nat} {p:Ap},Ag Y B U H Z T ps ds vs->ps[j]?=J p->∃d v,ds[j]?=J d/\vs[j]?=J v/\A1 Y p B U H Z T d v
 |[],_,_,_,_,_,e=>by cases e
 | p::ps,_,_,j,q,h,e=>by
   let(d,b,v,vr,rfl,rfl,a,h):=h;cases j with
   |zero=>cases e;exact(d,v,rfl,rfl,a)
   |succ j=>exact Ag.get (j:=j) h (by simpa using e)
def gS{l:L W}:rg (l.map J) i=l[i]?:=by
 ext rg;rw[List.getElem?_map];cases l[i]?<;>rfl
def Rel.read(R:Rel Y M B U I0 Z H T)(a:rg Z i=J v)(hd:rg T i=J d):Dn Y H d v:=by
 have l:=R.lo i;rw[hd]at l;have q:=kN l a;cases e:M.getD i .F with
 |F=>rw[e]at q;exact Dn.mono R.bh q.1
 |R=>rw[e]at q;exact Dn.mono R.uh q.1
 |O s=>rw[e]at q;exact Ow.dn R.bh (λ_ _ _ q=>q) q
def A1.read(R:Rel Y M B U I0 Z H T)(h:A1 Y p B U H Z T d v):Dn Y H d v:=by
 cases p with
 |F=>exact Dn.mono R.bh h
 |U=>exact Dn.mono R.uh h
 |X=>exact h
 |O i=>exact R.read h.1 h.2
 |Bo i=>exact R.read h.1 h.2
def ov(B U:Hp):Hp:=λa=>match B a with|some o=>J o|none=>U a
def AF{f:L Md}{y:KT D V}{ps:L Ap}(R:Rel Y M B U I0 Z H T)(A:Ag Y B U H Z T ps ds vs)(hl:ps.length=f.length)
 (hf:∀(j:Nat) p,ps[j]?=J p->xB M true p (f.getD j .F)=true) (hU:∀d v B U B1 H N,y d v B U H N->y d v B B1 H N) (P:Po Y y E M B U I0 Z H T (mL W ds) Q):gy Y f y W vs H Q E:=by
 have n:=A.len
 have Rc:Rel Y f B H (λ_=>[]) (vs.map J) H (ds.map J):=by
  refine(R.bh,Same.refl _,λ_=>YF,λ_ _ _ _ h=>(nomatch h),λ_ _ h=>(nomatch h),λj=>?_,by rw[Xv,Xv,n.1,n.2],R.tb);rw[gS,gS];cases e:ps[j]? with
  |none=>
    have:ps.length<=j:=YG.mp e
    rw[X5 ∅];rfl
  |some p=>
    let(d,v,ed,ev,t):=A.get e;rw[ed,ev];refine(v,rfl,?_);have hr:=A1.read R t;have q:=hf j p e;cases em:f.getD j .F with
    |F=>
      rw[em]at q;cases p with
      |F=>exact(t,rfl)
      |_=>cases q
    |R=>exact(hr,rfl)
    |O s=>rw[em]at q;cases p<;>cases q
 refine(B,H,λ_=>[],ds,Rc,∅,?_)
 have m:∀{S B1 H':Hp} {Cv:Nat->L Addr} {x:LK},Rel Y f S B1 Cv (vs.map J) H' x->Ex B H S B1->Rel Y M S (ov S U) I0 Z H' T/\Gw B U H S (ov S U) H':=λ{S B1 H' Cv x} l g=>by
  have same:∀a o,U a=J o->∀o',S a=J o'->o'=o:=λa o q o' w=>by
   have t:=g.u a o (R.uh a o q);have h2:=l.bu a o' w;rw[t]at h2;exact(Yc h2).symm
  have X:Same U (ov S U):=λa o q=>by
   ext ov;cases z:S a with
   |none=>exact q
   |some o'=>rw[same a o q o' z]
  have sh:Same H H':=g.u.trans l.uh
  have uh:Same (ov S U) H':=λa o q=>by
   unfold ov at q;cases z:S a with
   |none=>rw[z]at q;exact sh a o (R.uh a o q)
   |some o'=>rw[z]at q;cases q;exact l.bh a _ z
  have bu:Same S (ov S U):=λa o q=>by ext ov;rw[q]
  have new:∀a o,S a=J o->B a=J o\/H a=G\/kh o:=g.nb;refine(R.grow g.b X sh bu uh λi a r=>?_,(g.b,X,λa o q=>?_),sh,λa o q=>?_)
  · ext ov;cases z:S a with
    |none=>exact R.un i a r
    |some o=>
      let(o',w):=R.at r;rcases new a o z with q|q|q
      .have:=R.bu a o q;rw[R.un i a r]at this;cases this
      .rw[q]at w;cases w
      .have e1:=sh _ _ w;rw[l.bh a o z]at e1;cases e1;exact(R.nt r w q).elim
  · rcases new a o q with q|q|q
    .exact .inl q
    .exact .inr (.inl (R.uh.free q))
    .exact .inr (.inr q)
  · unfold ov at q;cases z:S a with
    |none=>rw[z]at q;exact .inl q
    |some o'=>
      rw[z]at q;cases q;rcases new a _ z with q|q
      .exact .inl (R.bu a _ q)
      .exact .inr q
 cases e:W ds with
 |ok d C=>
   unfold mL at P;rw[e]at P;intro v S B1 Cv H' N l g I k;let(R2,K):=m l g;refine P v S _ H' N R2 K (I.nd,λa r=>g.u.free (I.un a r),λa r=>?_) (hU d v S B1 (ov S U) H' N k);ext ov;have t:=I.un a r;cases z:S a with
   |none=>exact R.uh.free (g.u.free t)
   |some o=>have:=l.bu a o z;rw[t]at this;cases this
 |exc c C=>
   unfold mL at P;rw[e]at P;intro S B1 Cv H' l g;let(R2,K):=m l g;exact P S _ H' R2 K
 |bad=>
   unfold mL at P;rw[e]at P;exact P
theorem hF(h:KR Y .F d v B U H N):KR Y .F d v B B1 H N:=h
theorem hO(h:KO Y s d v B U H N):KO Y s d v B B1 H N:=h
def Iv{a:L Md}{b:KT D V}{ps:L Ap}{m:LK->Res (L D)}(h:AJ Y E M ps t m)(e:ps.length=a.length)
 (f:∀(j:Nat) p,ps[j]?=J p->xB M true p (a.getD j .F)=true) (g:∀d v B U B1 H N,b d v B U H N->b d v B B1 H N):PJ Y b E M (sm (gy Y a b c) [] E t) (λT=>(m T).bind (mL c)):=by
 intro B U I0 Z H T Q R P;refine h.bnd R P λds vs I U1 H1 i k A s=>?_;rw[XY];exact AF i A e f g s
def fA(c:Nat)(m:Str):D->Bool
 |.obj c' ns _=>decide (c'=c)&&!ns.contains m
 |_=>false
theorem qQ:∀{fs:L (Str×V)},(fs.map (·.1)).contains m=false->fs.lookup m=G
 |[],_=>rfl
 | p::fs,h=>by
   rw[Xz,Aa9,Bool.or_eq_false_iff]at h;rw[Yx,h.1];exact qQ h.2
def vQ(h:fA c m d=true)(hd:Dn Y H d v):∃a dx fs,v=.ref a/\H a=J (.ins (Y c) dx fs)/\fs.lookup m=none:=by
 cases d with
 |obj c' ns ds=>
   have h:(decide (c'=c)&&!ns.contains m)=true:=h;rw[Zd]at h;have e:=YE h.1;subst e;rw[Dn]at hd;let(a,dx,fs,r,f,b,_):=hd;refine(a,dx,fs,r,f,qQ ?_);rw[b];simpa using h.2
 |_=>cases h
def Iq{b:L Md}{e:KT D V}{g:LK->Res D}{m:LK->Res (L D)}(u:A1J Y E M p ta g)(h:AJ Y E M ps t m)(n:(p::ps).length=b.length)
 (r:∀(j:Nat) q,(p::ps)[j]?=J q->xB M true q (b.getD j .F)=true) (w:∀d v B U B1 H N,e d v B U H N->e d v B B1 H N):
 PJ Y e E M (sj (Y c) f (gy Y b e i) [] E ta t) (λT=>(g T).bind λo=>if fA c f o=true then (m T).bind λds=>mL i (o::ds) else .bad):=by
 intro B U I0 Z H T Q R P;refine u.bnd R P λo v I U1 H1 l K k s=>?_;by_cases z:fA c f o=true
 .rw[Xx z]at s;let(a,dx,fs,rfl,y,x):=vQ z (A1.read l k);refine(a,dx,fs,rfl,y,x,h.bnd l s λds vs W O S R2 C A Cv=>?_);rw[XY];exact AF (ps:=p::ps) (ds:=o::ds) R2 (o,ds,_,vs,rfl,rfl,k.mono C,A) n r w Cv
 .rw[Xy z]at s;exact s.elim
end
section
variable{Y:Cm}{E:XK}{M:L Md}{B U H:Hp}{I0:Nat->L Addr}{Z:St}{T:LK}
def lQ:L Ap->Nat->Option Nat
 |[],_=>G
 |p::r,i=>if p= .O i then J 0 else (lQ r i).map (·+1)
theorem j7:∀{ps:L Ap} {i j:Nat},lQ ps i=J j->ps[j]?=J (.O i)
 |[],_,_,h=>by cases h
 | p::r,i,j,h=>by
   unfold lQ at h;by_cases e:p= .O i
   .rw[Xx e]at h;cases h;rw[e];rfl
   .rw[Xy e]at h;let(k,a,rfl):=X9.mp h;rw[ZF];exact j7 a
def jW:L Ap->L Nat
 |[]=>[]
 |.O i::r=>i::jW r
 |_::r=>jW r
def AK:L Ap->L Nat
 |[]=>[]
 |.Bo i::r=>i::AK r
 |_::r=>AK r
theorem lU:∀{ps:L Ap} {i j:Nat},ps[j]?=J (.O i)->i∈jW ps
 |[],_,_,h=>by cases h
 | p::r,i,j,h=>by
   cases j with
   |zero=>cases h;exact Xw
   |succ j=>
     have:=lU (ps:=r) (j:=j) (by simpa using h)
     cases p <;> first | exact this | exact on _ this
def tG:∀{ps:L Ap} {i:Nat},i∈jW ps->∃j,lQ ps i=J j
 |[],_,h=>by cases h
 | p::r,i,h=>by
   ext lQ;by_cases e:p= .O i
   .exact(0,by rw[Xx e])
   · rw[Xy e]
     have:i∈jW r:=by
      cases p with
      |O k=>
        rcases XC.mp h with z|z
        .exact absurd (by rw[z]) e
        .exact z
      |_=>exact h
     let(j,a):=tG this;exact(j+1,by rw[a];rfl)
theorem zC:∀{ps:L Ap} {i j:Nat},ps[j]?=J (.Bo i)->i∈AK ps
 |[],_,_,h=>by cases h
 | p::r,i,j,h=>by
   cases j with
   |zero=>cases h;exact Xw
   |succ j=>
     have:=zC (ps:=r) (j:=j) (by simpa using h)
     cases p <;> first | exact this | exact on _ this
def vS:∀{ps:L Ap} {i j k:Nat},(jW ps).Nodup->ps[j]?=J (.O i)->ps[k]?=J (.O i)->j=k
 |[],_,_,_,_,h,_=>by cases h
 | p::r,i,j,k,nd,c,b=>by
   cases j with
   |zero=>
     cases k with
     |zero=>rfl
     |succ k=>
       cases c;exact absurd (lU (ps:=r) (j:=k) (by simpa using b)) (Yr.mp nd).1
   |succ j=>
     cases k with
     |zero=>
       cases b;exact absurd (lU (ps:=r) (j:=j) (by simpa using c)) (Yr.mp nd).1
     |succ k=>
       have a:(jW r).Nodup:=by
        cases p with
        |O x=>exact(Yr.mp nd).2
        |_=>exact nd
       rw[vS a (j:=j) (k:=k) (by simpa using c) (by simpa using b)]
theorem nE:∀{ps:L Ap} {j:Nat} {a T:LK},(iY ps j a T).length=T.length
 |[],_,_,_=>rfl
 | p::r,j,a,T=>by
   cases p with
   |O i=>rw[iY,nE,YR]
   |F=>rw[iY,nE];all_goals simp
   |U=>rw[iY,nE];all_goals simp
   |X=>rw[iY,nE];all_goals simp
   |Bo i=>rw[iY,nE];all_goals simp
theorem wG:∀{ps:L Ap} {b:Nat} {a T:LK} {i:Nat},(jW ps).Nodup->i<T.length->rg (iY ps b a T) i=match lQ ps i with|some j=>rg a (b+j)|none=>rg T i
 |[],_,_,_,_,_,_=>rfl
 | p::r,b,a,T,i,nd,hi=>by
   have step:∀C:LK,C.length=T.length->(jW r).Nodup->(p≠ .O i)->rg C i=rg T i->rg (iY r (b+1) a C) i=match lQ (p::r) i with|some j=>rg a (b+j)|none=>rg T i:=λC g d hp e=>by
    rw[wG d (by rw[g];exact hi),lQ,Xy hp];cases lQ r i with
    |none=>exact e
    |some j=>
      show rg a (b+1+j)=rg a (b+(j+1));rw[show b+1+j=b+(j+1) by omega]
   cases p with
   |O k=>
     rw[iY];by_cases e:k=i
     · subst e
       have f:lQ r k=none:=by
        cases q:lQ r k with
        |none=>rfl
        |some j=>exact absurd (lU (j7 q)) (Yr.mp nd).1
       rw[wG (Yr.mp nd).2 (by rw[YR];exact hi),f,lQ,Xx rfl,lN,Xx (rfl,hi)];rfl
     .exact step _ (YR ..) (Yr.mp nd).2 (λz=>e (by cases z;rfl)) (by rw[lN,Xy λz=>e z.1])
   |F=>rw[iY];exact step T rfl nd (λz=>by cases z) rfl;all_goals simp
   |U=>rw[iY];exact step T rfl nd (λz=>by cases z) rfl;all_goals simp
   |X=>rw[iY];exact step T rfl nd (λz=>by cases z) rfl;all_goals simp
   |Bo k=>rw[iY];exact step T rfl nd (λz=>by cases z) rfl;all_goals simp
def VB(M:L Md):Ap->Md->Prop
 |.F,.F=>True
 |.F,.R=>True
 |.U,.R=>True
 |.Bo _,.R=>True
 |.O i,.O s=>M.getD i .F= .O s
 |_,_=>False
def fitM(M:L Md):L Ap->L Md->Prop
 |[],[]=>True
 |p::ps,m::r=>VB M p m/\fitM M ps r
 |_,_=>False
theorem fitM.len:∀{ps:L Ap} {mc:L Md},fitM M ps mc->ps.length=mc.length
 |[],[],_=>rfl
 |[],_::_,h=>h.elim
 |_::_,[],h=>h.elim
 |p::ps,m::r,h=>by rw[XD,XD,fitM.len h.2]
theorem fitM.get:∀{ps:L Ap} {mc:L Md} {j:Nat} {p:Ap},fitM M ps mc->ps[j]?=J p->VB M p (mc.getD j .F)
 |[],_,_,_,_,e=>by cases e
 |_::_,[],_,_,h,_=>h.elim
 | p::ps,m::r,j,q,h,e=>by
   cases j with
   |zero=>cases e;exact h.1
   |succ j=>rw[Zw];exact fitM.get (j:=j) h.2 (by simpa using e)
def qp{mc:L Md}(h:mc.getD j .F= .O s):rg (jE mc a) j=rg a j:=by
 have b:j<mc.length:=by
  by_cases z:j<mc.length
  .exact z
  .rw[XV,X5 ∅]at h;cases h
 ext jE;show((((List.range mc.length).map _)[j]?).join)=_;rw[List.getElem?_map,List.getElem?_range b];show(J (match mc.getD j .F with | .O _=>rg a j|_=>G)).join=_;rw[h];rfl
open Classical in
def AG{Kr:KT D V}(R:Rel Y M B U I0 Z H T)(A:Ag Y B U H Z T ps ds vs)(hf:fitM M ps g)(hd:(jW ps).Nodup)
 (hb:∀i∈AK ps,i∉jW ps) (hU:∀d v B U B1 H N,Kr d v B U H N->Kr d v B B1 H N) (P:Mo Y Kr E M B U Z (iG ps fm ds T) Q):gy Y g Kr fm vs H Q E:=by
 have hlen:=A.len;have hl:=hf.len
 have K:∀{i j:Nat},ps[j]?=J (.O i)->∃d v s,ds[j]?=J d/\vs[j]?=J v/\rg Z i=J v/\rg T i=J d/\g.getD j .F= .O s/\M.getD i .F= .O s:=λ{i j} e=>by
  let(d,v,ed,ev,r):=A.get e;have q:=hf.get e;cases y:g.getD j .F with
  |O s=>rw[y]at q;exact(d,v,s,ed,ev,r.1,r.2,rfl,q)
  |F=>rw[y]at q;exact q.elim
  |R=>rw[y]at q;exact q.elim
 have FPd:∃Uc:Hp,(∀a,(∃j i:Nat,ps[j]?=J (.O i)/\a∈I0 i)->Uc a=G)/\(∀a,(¬ ∃j i:Nat,ps[j]?=J (.O i)/\a∈I0 i)->Uc a=H a):=
  (λa=>if (∃j i:Nat,ps[j]?=J (.O i)/\a∈I0 i) then G else H a,λa h=>Xx h,λa h=>Xy h)
 let(Uc,uc1,uc2):=FPd
 have notFP:∀{a o},U a=J o->¬ ∃j i:Nat,ps[j]?=J (.O i)/\a∈I0 i:=λ{a o} q (j,i,_,f)=>by
  rw[R.un i a f]at q;cases q
 have m:Same U Uc:=λa o q=>by rw[uc2 a (notFP q)];exact R.uh a o q
 have ucH:Same Uc H:=λa o q=>by
  by_cases z:∃j i:Nat,ps[j]?=J (.O i)/\a∈I0 i
  .rw[uc1 a z]at q;cases q
  .rw[uc2 a z]at q;exact q
 -- what is owned and not jW
 have other:∀{i a},i∉jW ps->a∈I0 i->∃o,Uc a=J o/\H a=J o:=λ{i a} hi f=>by
  let(o,q):=R.at f;refine(o,?_,q);rw[uc2 a]
  .exact q
  · rintro⟨j,k,ek,x⟩;by_cases e:k=i
    .subst e;exact hi (lU ek)
    .exact R.dj k i a e x f
 have Rc:Rel Y g B Uc (λj=>match ps[j]? with|some (.O i)=>I0 i|_=>[]) (vs.map J) H (ds.map J):=by
  refine(R.bu.trans m,ucH,λj=>?_,λj k a hne f x=>?_,λj a f=>?_,λj=>?_,by rw[Xv,Xv,hlen.1,hlen.2],R.tb)
  · try dsimp only
    split
    .exact R.nd _
    .exact YF
  · try dsimp only at f x
    split at f
    · rename_i i e1;split at x
      · rename_i i' e2;by_cases e:i=i'
        .subst e;exact hne (vS hd e1 e2)
        .exact R.dj i i' a e f x
      .cases x
    .cases f
  · try dsimp only at f
    split at f
    .rename_i i e1;exact uc1 a (j,i,e1,f)
    .cases f
  · rw[gS,gS];cases e:ps[j]? with
    |none=>
      have:ps.length<=j:=YG.mp e
      rw[X5 ∅];rfl
    |some p=>
      let(d,v,ed,ev,r):=A.get e;rw[ed,ev];refine(v,rfl,?_);have q:=hf.get e;cases p with
      |F=>
        have r:Dn Y B d v:=r;cases y:g.getD j .F with
        |F=>exact(r,rfl)
        |R=>exact(Dn.mono (R.bu.trans m) r,rfl)
        |O s=>rw[y]at q;exact q.elim
      |U=>
        have r:Dn Y U d v:=r;cases y:g.getD j .F with
        |F=>rw[y]at q;exact q.elim
        |R=>exact(Dn.mono m r,rfl)
        |O s=>rw[y]at q;exact q.elim
      |X=>cases y:g.getD j .F<;>(rw[y]at q;exact q.elim)
      |Bo i=>
        cases y:g.getD j .F with
        |F=>rw[y]at q;exact q.elim
        |O s=>rw[y]at q;exact q.elim
        |R=>
          refine(?_,rfl);have l:=R.lo i;rw[r.2]at l;have w:=kN l r.1;cases e2:M.getD i .F with
          |F=>rw[e2]at w;exact Dn.mono (R.bu.trans m) w.1
          |R=>rw[e2]at w;exact Dn.mono m w.1
          |O s=>
            rw[e2]at w;refine Ow.dn (R.bu.trans m) (λa f o q=>?_) w;let(o',q1,q2):=other (hb i (zC e)) f;rw[q2]at q;cases q;exact q1
      |O i=>
        let(d',v',s,ed',ev',W,h3,h4,h5):=K e;rw[h4];have l:=R.lo i;rw[r.2,h5]at l;exact kN l r.1
 refine(B,Uc,_,ds,Rc,∅,?_)
 have main:∀{S B1 H':Hp} {Cv:Nat->L Addr} {ρc:LK},Rel Y g S B1 Cv (vs.map J) H' (jE g ρc)->Ex B Uc S B1->
  Rel Y M S (ov S U) (λi=>match lQ ps i with|some j=>Cv j|none=>I0 i) Z H' (iY ps 0 ρc T)/\Ex B U S (ov S U)/\∀N,NewM N B1 Cv->NewM N (ov S U) (λi=>match lQ ps i with|some j=>Cv j|none=>I0 i):=λ{S B1 H' Cv ρc} t I=>by
  have su:Same U (ov S U):=λa o q=>by
   ext ov;cases z:S a with
   |none=>exact q
   |some o'=>
     have r:=I.u a o (m a o q);have W:=t.bu a o' z;rw[r]at W;cases W;rfl
  have uh:Same (ov S U) H':=λa o q=>by
   unfold ov at q;cases z:S a with
   |none=>rw[z]at q;exact t.uh a o (I.u a o (m a o q))
   |some o'=>rw[z]at q;cases q;exact t.bh a _ z
  have bu:Same S (ov S U):=λa o q=>by ext ov;rw[q]
  have free:∀{a},B1 a=G->ov S U a=none:=λ{a} h=>by
   ext ov;cases z:S a with
   |none=>exact m.free (I.u.free h)
   |some o=>have:=t.bu a o z;rw[h]at this;cases this
  have there:∀{i a},lQ ps i=G->a∈I0 i->∃o,B1 a=J o/\H a=J o/\H' a=J o:=λ{i a} hi f=>by
   let(o,q1,q2):=other (λz=>by let(j,hj):=tG z;rw[hi]at hj;cases hj) f;exact(o,I.u a o q1,q2,t.uh a o (I.u a o q1))
  refine((bu,uh,λi=>?_,λi k a hne f x=>?_,λi a f=>?_,λi=>?_,by rw[nE];exact R.len,t.tb),(I.b,su,λa o q=>?_),λN n=>(n.nd,λa f=>free (n.un a f),λa f i=>?_))
  · try dsimp only
    split
    .exact t.nd _
    .exact R.nd _
  · try dsimp only at f x
    split at f
    · rename_i j ej;split at x
      .rename_i j' ej';refine t.dj j j' a (λz=>hne ?_) f x;subst z;have r:=j7 ej;have W:=j7 ej';rw[r]at W;cases W;rfl
      .rename_i ek;let(o,q,_):=there ek x;rw[t.un j a f]at q;cases q
    · rename_i ei;let(o,q,_):=there ei f;split at x
      .rename_i j' ej';rw[t.un j' a x]at q;cases q
      .exact R.dj i k a hne f x
  · try dsimp only at f
    split at f
    .rename_i j ej;exact free (t.un j a f)
    · rename_i ei;let(o,q,_):=there ei f;ext ov;cases z:S a with
      |none=>exact R.un i a f
      |some o'=>
        rcases I.nb a o' z with w|w|w
        .have:=R.bu a o' w;rw[R.un i a f]at this;cases this
        .let(o2,q1,q2):=other (λz=>by let(j,hj):=tG z;rw[ei]at hj;cases hj) f;rw[w]at q1;cases q1
        .let(o2,_,q2,q3):=there ei f;rw[t.bh a o' z]at q3;cases q3;exact(R.nt f q2 w).elim
  · try dsimp only
    cases ep:lQ ps i with
    |some j=>
      let(d,v,s,ed,ev,W,h3,h4,h5):=K (j7 ep)
      have hi:i<T.length:=by
       have:=i7 h3
       exact(XZ.mp this).1
      rw[wG hd hi,ep]
      try dsimp only
      have l:=t.lo j;rw[qp h4,gS,ev,h4]at l;rw[W,h5,Nat.zero_add];exact l
    |none=>
      try dsimp only
      by_cases hi:i<T.length
      .rw[wG hd hi,ep];refine(R.lo i).mono I.b su λa f=>?_;let(o,_,q1,q2):=there ep f;rw[q1,q2]
      · have r:rg (iY ps 0 ρc T) i=none:=by
         ext rg;rw[List.getElem?_eq_none (by rw[nE];omega)];rfl
        have W:rg T i=none:=by
         ext rg;rw[List.getElem?_eq_none ∅];rfl
        have l:=R.lo i;rw[W]at l;rw[r];exact l
  · rcases I.nb a o q with w|w|w
    .exact .inl w
    .exact .inr (.inl (m.free w))
    .exact .inr (.inr w)
  · try dsimp only
    cases ep:lQ ps i with
    |some j=>exact n.ap a f j
    |none=>
      intro z;let(o,q,_):=there ep z;rw[n.un a f]at q;cases q
 cases e:fm ds with
 |ok d C=>
   unfold iG at P;rw[e]at P;intro v S B1 Cv H' N t I n' k;let(R2,e2,n2):=main t I;exact P v S _ _ H' N R2 e2 (n2 N n') (hU d v S B1 (ov S U) H' N k)
 |exc c C=>
   unfold iG at P;rw[e]at P;intro S B1 Cv H' t I;let(R2,e2,n2):=main t I;exact P S _ _ H' R2 e2
 |bad=>
   unfold iG at P;rw[e]at P;exact P
end
def nu(c:Nat)(a:L D->Out D)(ds:L D):Res D:=match a (.obj c [] []::ds) with
 |.ok .non C=>(match rg C 0 with|some d=>.ok d|none=>.bad)
 |.ok _ _=>.bad
 |.exc c _=>.exc c
 |.bad=>.bad
section
variable{Y:Cm}{E:XK}{M:L Md}{B U H:Hp}{I0:Nat->L Addr}{Z:St}{T:LK}{K:L0}
def RA{b:KT D V}{m:LK->Res (L D)}(h:AJ Y E M ps t m)(k:fitM M ps a)(hd:(jW ps).Nodup)(l:∀i∈AK ps,i∉jW ps)
 (n:∀d v B U B1 H N,b d v B U H N->b d v B B1 H N):MJ Y b E M (sm (gy Y a b f) [] E t) (λT=>((m T).up T).bind (iG ps f)):=by
 intro B U I0 Z H T Q R P;replace P:Mo Y b E M B U Z (((m T).up T).bind (iG ps f)) Q:=P;refine h B U I0 Z H T _ R ?_;cases e:m T with
 |ok ds=>
   rw[e]at P;intro vs I U1 H1 N j g o A;rw[XY];exact AG j A k hd l n (Mo.at (r:=iG ps f ds T) P g.toEx)
 |exc c=>rw[e]at P;exact λI U1 H1 j g=>P I U1 I0 H1 j g.toEx
 |bad=>rw[e]at P;exact P
def Rq{b:KT D V}{k:LK->Res D}{m:LK->Res (L D)}(Cv:A1J Y E M p ta k)(h:AJ Y E M ps t m)(C:fitM M (p::ps) f)(hd:(jW (p::ps)).Nodup)
 (F:∀i∈AK (p::ps),i∉jW (p::ps)) (K:∀d v B U B1 H N,b d v B U H N->b d v B B1 H N):
 MJ Y b E M (sj (Y c) g (gy Y f b j) [] E ta t) (λT=>((k T).up T).bind λo T=>if fA c g o=true then ((m T).up T).bind λds T=>iG (p::ps) j (o::ds) T else .bad):=by
 intro B U I0 Z H T Q R P;replace P:Mo Y b E M B U Z (((k T).up T).bind λo T=>if fA c g o=true then ((m T).up T).bind λds T=>iG (p::ps) j (o::ds) T else .bad) Q:=P;refine Cv B U I0 Z H T _ R ?_;cases e:k T with
 |ok o=>
   rw[e]at P;intro v I U1 H1 N q n X u;replace P:Mo Y b E M B U Z (if fA c g o=true then ((m T).up T).bind λds T=>iG (p::ps) j (o::ds) T else .bad) Q:=P;by_cases z:fA c g o=true
   · rw[Xx z]at P;let(a,dx,fs,rfl,S,O):=vQ z (A1.read q u);refine(a,dx,fs,rfl,S,O,h I U1 I0 Z H1 T _ q ?_);cases s:m T with
     |ok ds=>
       rw[s]at P;intro vs y w x N2 R2 l W A;rw[XY];exact AG (ps:=p::ps) (ds:=o::ds) R2 (o,ds,_,vs,rfl,rfl,u.mono l,A) C hd F K (Mo.at (r:=iG (p::ps) j (o::ds) T) P (n.toEx.trans l.toEx))
     |exc c=>rw[s]at P;exact λy w x R2 l=>P y w I0 x R2 (n.toEx.trans l.toEx)
     |bad=>rw[s]at P;exact P
   .rw[Xy z]at P;exact P.elim
 |exc c=>rw[e]at P;exact λI U1 H1 q n=>P I U1 I0 H1 q n.toEx
 |bad=>rw[e]at P;exact P
def M3{f:L Md}{ps:L Ap}(R:Rel Y M B U I0 Z H T)(A:Ag Y B U H Z T ps ds vs)(hl:ps.length+1=f.length)(h0:f.getD 0 .F= .O (.ob sh))
 (hf:∀(j:Nat) p,ps[j]?=J p->xB M true p (f.getD (j+1) .F)=true) (P:Po Y (KO Y (.ob sh)) E M B U I0 Z H T (nu c fm ds) Q) (x dx:Addr) (hx:H x=G) (hdx:H dx=G) (hne:dx≠x):
 gy Y f (KR Y .F) fm (.ref x::vs) (upd (upd H dx (.own x)) x (.ins (Y c) dx [])) (λv H2=>v=.non/\Q (.ref x) H2) E:=by
 have K:=A.len;have sH:Same H (upd (upd H dx (.own x)) x (.ins (Y c) dx [])):=Gd.yW hx (Gd.cg hdx);have hUc:∃y:Hp,y x=G/\∀a,a≠x->y a=upd (upd H dx (.own x)) x (.ins (Y c) dx []) a:=(λa=>if a=x then G else upd (upd H dx (.own x)) x (.ins (Y c) dx []) a,Xx rfl,λa h=>Xy h);let(y,u1,u2):=hUc;have n:Same H y:=λa o q=>by rw[u2 a (bD q hx)];exact sH a o q
 have ucH:Same y (upd (upd H dx (.own x)) x (.ins (Y c) dx [])):=λa o q=>by
  by_cases z:a=x
  .subst z;rw[u1]at q;cases q
  .rw[u2 a z]at q;exact q
 have r:∀{a},y a=G->H a=none:=λh=>n.free h
 have Rc:Rel Y f B y (λj=>match j with|0=>[x]|_+1=>[]) ((.ref x::vs).map J) (upd (upd H dx (.own x)) x (.ins (Y c) dx [])) ((.obj c [] []::ds).map J):=by
  refine(R.bh.trans n,ucH,λj=>?_,λj k a X g hk=>?_,λj a g=>?_,λj=>?_,by rw[Xv,Xv,XD,XD,K.1,K.2],R.tb)
  · cases j with
    |zero=>simp
    |succ j=>exact YF
  · cases j with
    |zero=>
      cases k with
      |zero=>exact X rfl
      |succ k=>cases hk
    |succ j=>cases g
  · cases j with
    |zero=>rw[XM.mp g];exact u1
    |succ j=>cases g
  · rw[gS,gS];cases j with
    |zero=>
      rw[h0];refine(.ref x,rfl,?_);show Ow Y B _ (.obj c [] []) (.ob sh) (.ref x) [x];rw[Ow];exact(x,dx,[],[],rfl,bE,rfl,rfl,by rw[Owf];exact(rfl,rfl))
    |succ j=>
      rw[ZF,ZF];cases e:ps[j]? with
      |none=>
        have:ps.length<=j:=YG.mp e
        rw[X5 ∅];rfl
      |some p=>
        let(d,v,ed,ev,h1):=A.get e;rw[ed,ev];refine(v,rfl,?_);have hr:=A1.read R h1;have q:=hf j p e;cases em:f.getD (j+1) .F with
        |F=>
          rw[em]at q;cases p with
          |F=>exact(h1,rfl)
          |_=>cases q
        |R=>exact(Dn.mono n hr,rfl)
        |O s=>rw[em]at q;cases p<;>cases q
 refine(B,y,_,.obj c [] []::ds,Rc,by rw[XD];omega,?_)
 have I:∀{S B1 H':Hp} {Cv:Nat->L Addr} {W:LK},Rel Y f S B1 Cv ((.ref x::vs).map J) H' W->Ex B y S B1->Rel Y M S (ov S U) I0 Z H' T/\Gw B U H S (ov S U) H'/\∀a,B1 a=G->ov S U a=none:=λ{S B1 H' Cv W} m t=>by
  have sU:Same U B1:=(R.uh.trans n).trans t.u
  have su:Same U (ov S U):=λa o q=>by
   ext ov;cases z:S a with
   |none=>exact q
   |some o'=>
     have h1:=sU a o q;have h2:=m.bu a o' z;rw[h1]at h2;cases h2;rfl
  have sh:Same H H':=(n.trans t.u).trans m.uh
  have uh:Same (ov S U) H':=λa o q=>by
   unfold ov at q;cases z:S a with
   |none=>rw[z]at q;exact sh a o (R.uh a o q)
   |some o'=>rw[z]at q;cases q;exact m.bh a _ z
  have bu:Same S (ov S U):=λa o q=>by ext ov;rw[q]
  have new:∀a o,S a=J o->B a=J o\/H a=G\/kh o:=λa o q=>(t.nb a o q).imp id λz=>z.imp r id;refine(R.grow t.b su sh bu uh λi a g=>?_,((t.b,su,λa o q=>?_),sh,λa o q=>?_),λa h=>?_)
  · ext ov;cases z:S a with
    |none=>exact R.un i a g
    |some o=>
      let(o',q'):=R.at g;rcases new a o z with q|q|q
      .have:=R.bu a o q;rw[R.un i a g]at this;cases this
      .rw[q]at q';cases q'
      .have e1:=sh _ _ q';rw[m.bh a o z]at e1;cases e1;exact(R.nt g q' q).elim
  · rcases new a o q with q|q|q
    .exact .inl q
    .exact .inr (.inl (R.uh.free q))
    .exact .inr (.inr q)
  · unfold ov at q;cases z:S a with
    |none=>rw[z]at q;exact .inl q
    |some o'=>
      rw[z]at q;cases q;rcases new a _ z with q|q
      .exact .inl (R.bu a _ q)
      .exact .inr q
  · ext ov;cases z:S a with
    |none=>exact sU.free h
    |some o=>have:=m.bu a o z;rw[h]at this;cases this
 unfold nu at P;cases e:fm (.obj c [] []::ds) with
 |ok d C=>
   rw[e]at P;intro v S B1 Cv H' N m t n' k;let(R2,g2,fr2):=I m t;cases d with
   |non=>
     have k:Dn Y S .non v:=k;rw[Dn]at k;refine(k,?_);replace P:Po Y (KO Y (.ob sh)) E M B U I0 Z H T (match rg C 0 with|some d=>.ok d|none=>.bad) Q:=P;have l:=m.lo 0;rw[qp h0,h0]at l;cases e0:rg C 0 with
     |none=>rw[e0]at P;exact P.elim
     |some d=>
       rw[e0]at P l;have w:=kN l (v:=.ref x) rfl;exact P (.ref x) S _ H' (Cv 0) R2 g2 (m.nd 0,λa g=>r (t.u.free (m.un 0 a g)),λa g=>fr2 a (m.un 0 a g)) w
   |_=>exact P.elim
 |exc c' C=>
   rw[e]at P;intro S B1 Cv H' m t;let(R2,g2,fr2):=I m t;exact P S _ H' R2 g2
 |bad=>rw[e]at P;exact P
def QC{a:L Md}{ps:L Ap}{m:LK->Res (L D)}(h:AJ Y E M ps t m)(g:ps.length+1=a.length)(h0:a.getD 0 .F= .O (.ob sh))
 (i:∀(j:Nat) p,ps[j]?=J p->xB M true p (a.getD (j+1) .F)=true):PJ Y (KO Y (.ob sh)) E M (GJ (Y c) (gy Y a (KR Y .F) e) [] E t) (λT=>(m T).bind (nu c e)):=by
 intro B U I0 Z H T Q R P;refine h.bnd R P λds vs I U1 H1 k l A s=>?_;intro x dx f d b;rw[XY];exact M3 k A g h0 i s x dx f d b
structure Pth (Y:Cm) (M:L Md) (t:TE) (get:LK->Option D) (set:LK->D->LK):Prop where
 rd:∀{B U:Hp} {I0:Nat->L Addr} {Z:St} {H:Hp} {T:LK} {d:D},Rel Y M B U I0 Z H T->get T=J d->∃v A,(∀Q:VK,Q v H->t Z H Q)/\Ow Y B H d (.ct .fz) v A/\(∀a∈A,∃i,a∈I0 i)/\
  ∀I U1 H1,Rel Y M I U1 I0 Z H1 T->Same B I->Same H H1->∀a∈A,∀o' d',Ow Y I (upd H1 a o') d' (.ct .fz) v A->Rel Y M I U1 I0 Z (upd H1 a o') (set T d')
def Rel.mut(R:Rel Y M B U I0 Z H T)(g:M.getD i .F= .O sh)(f:rg Z i=J v)(hd:rg T i=J d)(c:a∈I0 i)(w:Ow Y B (upd H a o') d' sh v (I0 i)):
 Rel Y M B U I0 Z (upd H a o') (T.set i (J d')):=by
 have hi:i<T.length:=(XZ.mp (i7 hd)).1;refine(R.bu,λb u q=>?_,R.nd,R.dj,R.un,λj=>?_,by rw[YR];exact R.len,R.tb)
 .rw[bq (bD q (R.un i a c))];exact R.uh b u q
 · rw[lN];by_cases e:i=j
   .subst e;rw[Xx (rfl,hi),g];exact(v,f,w)
   .rw[Xy λz=>e z.1];exact(R.lo j).mono (Same.refl _) (Same.refl _) λb h=>bq (λz:b=a=>R.dj i j a e c (z▸h))
def gf(i:Nat):LK->Option D:=λT=>rg T i
def eJ(i:Nat):LK->D->LK:=λT d=>T.set i (J d)
theorem kL{i:Nat}(f:M.getD i .F= .O (.ct .fz)):Pth Y M (iu i) (gf i) (eJ i) where
 rd:=λ{B U I0 Z H T d} R e=>by
  replace e:rg T i=J d:=e;have l:=R.lo i;rw[e,f]at l;let(v,c,w):=l;exact(v,I0 i,λQ q=>(v,i7 c,q),w,λa b=>(i,b),λI U1 H1 h _ _ a b o' d' g=>h.mut f c e b g)
theorem Owf.upd{sh:L (Str×Sh)}{H:Hp}:∀{fs:L (Str×V)} {ds:L D} {A:L Addr} {d:D},Owf Y B H ds (fs.map (·.1)) sh (fs.map (·.2)) A->A.Nodup->fe (fs.map (·.1)) ds f=J d->
 ∃v A1,fs.lookup f=J v/\Ow Y B H d ((sh.lookup f).getD .fz) v A1/\(∀a∈A1,a∈A)/\∀I H1 d',Same B I->(∀b∈A,b∉A1->H1 b=H b)->Ow Y I H1 d' ((sh.lookup f).getD .fz) v A1->Owf Y I H1 (jB (fs.map (·.1)) ds f d') (fs.map (·.1)) sh (fs.map (·.2)) A
 |[],ds,A,d,h,nd,e=>by cases ds<;>cases e
 | p::fs,ds,A,d,h,nd,e=>by
   cases ds with
   |nil=>cases e
   |cons I0 ds=>
     rw[List.map_cons,List.map_cons,Owf]at h;let(n,E,x,r,s,y,B1,h0,K,o,u):=h;cases B1;cases h0;subst K;let(F,j,g):=List.nodup_append.mp nd;rw[List.map_cons]at e;unfold fe at e;by_cases q:p.1=f
     .rw[Xx q]at e;cases e;rw[q]at o;refine(p.2,s,by rw[Yx,<-q,YT],o,λa m=>Yl _ m,λI H1 d' i k w=>?_);rw[Xz,Xz,jB,Xx q,Owf];exact(p.1,_,p.2,_,s,y,rfl,rfl,rfl,by rw[q];exact w,Owf.mono i (λb c=>k b (XE _ c) λz=>g b z b c rfl) u)
     .rw[Xy q]at e;let(v,A1,Cv,C,t,cl):=Owf.upd u j e;have c:(f==p.1)=false:=Yv.mpr λz=>q z.symm;refine(v,A1,by rw[Yx,c];exact Cv,C,λa m=>XE _ (t a m),λI H1 d' i k w=>?_);rw[Xz,Xz,jB,Xy q,Owf];exact(p.1,_,p.2,_,s,y,rfl,rfl,rfl,Ow.mono i (λb c=>k b (Yl _ c) λz=>g b c b (t b z) rfl) o,cl I H1 d' i (λb c l=>k b (XE _ c) l) w)
def Cc(c:Nat)(f:Str)(i:Nat):LK->Option D:=λT=>match rg T i with
 |some (.obj c' ns vs)=>if c'=c then fe ns vs f else G
 |_=>G
def yT(f:Str)(i:Nat):LK->D->LK:=λT d=>match rg T i with
 |some (.obj c ns vs)=>T.set i (J (.obj c ns (jB ns vs f d)))
 |_=>T
theorem HU{c:Nat}{f:Str}{i:Nat}{sh:L (Str×Sh)}(hc:Cls K (Y c))(X:NoAttr K (Y c) f)(E:M.getD i .F= .O (.ob sh))(Cv:(sh.lookup f).getD .fz=.ct .fz):Pth Y M (Fd K (iu i) f) (Cc c f i) (yT f i) where
 rd:=λ{B U I0 Z H T d} R e=>by
  have l:=R.lo i;unfold Cc at e;cases g:rg T i with
  |none=>rw[g]at e;cases e
  |some d0=>
    cases d0 with
    |obj c' ns vs=>
      rw[g]at e;replace e:(if c'=c then fe ns vs f else G)=J d:=e;by_cases q:c'=c
      · subst q;rw[Xx rfl]at e;rw[g,E]at l;let(v,C,w):=l;have x:Ow Y B H (.obj c' ns vs) (.ob sh) v (I0 i):=w;rw[Ow]at x;let(a,dx,xs,A',rfl,N,h2,k,B1):=x;subst h2;have nd:=R.nd i;rw[k]at nd;let(n,m):=Yr.mp nd;let(u,A1,W,A,t,cl):=Owf.upd B1 m e;rw[Cv]at A;refine(u,A1,λQ q=>(.ref a,i7 C,a,_,dx,xs,u,rfl,N,hc,X,W,q),A,λb j=>(i,by rw[k];exact on _ (t b j)),λI U1 H1 R1 S h b j o' d' P=>?_);have s:b∈I0 i:=by rw[k];exact on _ (t b j)
        have:yT f i T d'=T.set i (J (.obj c' (xs.map (·.1)) (jB (xs.map (·.1)) vs f d'))):=by ext yT;rw[g]
        rw[this];refine R1.mut E C g s ?_;rw[k,Ow];have p:a≠b:=λz=>n (by rw[z];exact t b j);refine(a,dx,xs,A',rfl,by rw[bq p];exact h _ _ N,rfl,rfl,cl I _ d' S (λy V r=>?_) (by rw[Cv];exact P))
        have:y≠b:=λz=>r (by rw[z];exact j)
        rw[bq this];let(o,D):=Owf.at B1 V;rw[D,h _ _ D]
      .rw[Xy q]at e;cases e
    |_=>rw[g]at e;cases e
def FJ(set:LK->D->LK)(T:LK):Option (D×L D)->Out D
 |some (d,es)=>.ok d (set T (.lst es))
 |none=>.bad
def RD(set:LK->D->LK)(f:L D->D->Option (D×L D))(T:LK)(xs:L D):Res D->Out D
 |.ok x=>FJ set T (f xs x)
 |.exc c=>.exc c T
 |.bad=>.bad
def iM(get:LK->Option D)(set:LK->D->LK)(f:L D->D->Option (D×L D))(a:LK->Res D):LK->Out D:=λT=>match get T with
 |some (.lst xs)=>RD set f T xs (a T)
 |_=>.bad
def Ow.lst(w:Ow Y B H d (.ct .fz) v A)(e:d=.lst ds):∃a xs,v=.ref a/\H a=J (.lst xs)/\A=[a]/\Dns Y B ds xs:=by
 subst e;rw[Ow]at w;let(a,xs,i,r,h,g,f):=w;let(c,b):=Ows.fz f;exact(a,xs,r,h,by rw[g,b],c)
def Ow.lst'(h:H a=J (.lst xs))(d:Dns Y B ds xs):Ow Y B H (.lst ds) (.ct .fz) (.ref a) [a]:=by
 rw[Ow];exact(a,xs,[],rfl,h,rfl,Ows.of d)
section
variable{t:TE}{get:LK->Option D}{set:LK->D->LK}
def JC{r:V->L V->Hp->VK->Prop}{f:L D->D->Option (D×L D)}(p:Pth Y M t get set)(C:PJ Y (KR Y k) E M te j)
 (z:∀(B U H:Hp) (a:Addr) (ds:L D) (xs:L V) (x:D) (u:V) (d:D) (es:L D) (Q:VK),Same B U->Same U H->H a=J (.lst xs)->Dns Y B ds xs->Dn Y (hp k B U H) x u->f ds x=J (d,es)->(∀v ys,Dn Y B d v->Dns Y B es ys->Q v (upd H a (.lst ys)))->r (.ref a) [u] H Q):
 MJ Y (KR Y .F) E M (Fe K "list" r t (bX te dP)) (iM get set f j):=by
 intro B U I0 Z H T Q R P;unfold iM at P;cases e:get T with
 |none=>rw[e]at P;exact P.elim
 |some O=>
   cases O with
   |lst ds=>
     rw[e]at P;replace P:Mo Y (KR Y .F) E M B U Z (RD set f T ds (j T)) Q:=P;let(v,A,y,w,W,cl):=p.rd R e;let(a,xs,rfl,n,rfl,Cv):=w.lst rfl;refine y _ (.inl (rfl,xs,SqL.of n),C B U I0 Z H T _ R ?_);cases l:j T with
     |ok x=>
       rw[l]at P;replace P:Mo Y (KR Y .F) E M B U Z (FJ set T (f ds x)) Q:=P;intro u I U1 H1 N i g S s;cases m:f ds x with
       |none=>rw[m]at P;exact P.elim
       |some B1=>
         let(d,es):=B1;rw[m]at P;refine z I U1 H1 a ds xs x u d es Q i.bu i.uh (g.h _ _ n) (Cv.mono g.b) s m λv ys q o=>?_;exact P v I U1 I0 _ [] (cl I U1 H1 i g.b g.h a Xw _ _ (Ow.lst' bE o)) g.toEx NewM.nil q
     |exc c=>rw[l]at P;exact λI U1 H1 i g=>P I U1 I0 H1 i g.toEx
     |bad=>rw[l]at P;exact P.elim
   |_=>rw[e]at P;exact P.elim
def kx(xs:L D)(x:D):Option (D×L D):=if xs.length<ak then J (.non,xs++[x]) else G
theorem fJ(p:Pth Y M t get set)(h:PJ Y (KR Y .F) E M te c):MJ Y (KR Y .F) E M (Fe K "list" wW t (bX te dP)) (iM get set kx c):=
 JC (f:=kx) p h λB U H a ds xs x u d es Q _ _ i e g b k=>by
  unfold kx at b;by_cases z:ds.length<ak
  .rw[Xx z]at b;cases b;exact(a,xs,u,rfl,rfl,i,fU (Yz (by rw[<-e.len];exact z)),k .non _ (by rw[Dn]) (e.append (Dns.one g)))
  .rw[Xy z]at b;cases b
def H9(xs:L D)(x:D):Option (D×L D):=match x with
 |.int i=>if 0<=i/\i<xs.length/\xs.length<=ak then xs[i.toNat]?.map λd=>(d,xs.eraseIdx i.toNat) else G
 |_=>G
theorem M4(p:Pth Y M t get set)(n:PJ Y (KR Y .X) E M te g):MJ Y (KR Y .F) E M (Fe K "list" HN t (bX te dP)) (iM get set H9 g):=
 JC (f:=H9) p n λB U H a ds xs x u d es Q _ _ o e c b k=>by
  cases x with
  |int i=>
    have c:Dn Y H (.int i) u:=c;rw[Dn]at c;subst c;replace b:(if 0<=i/\i<ds.length/\ds.length<=ak then ds[i.toNat]?.map λd=>(J9 d (ds.eraseIdx i.toNat)) else G)=J (J9 d es):=b;by_cases z:0<=i/\i<ds.length/\ds.length<=ak
    .rw[if_pos z]at b;let(y,q,r):=Option.map_eq_some_iff.mp b;cases r;let(w,m,s):=e.get q;let(l,j,h):=z;unfold ak at h;refine(a,xs,i,i.toNat,w,rfl,rfl,o,∅,∅,?_,m,k w _ s (e.erase _));refine(DL ?_).1;ext JT;rw[if_pos l,if_pos (by rw[<-e.len];exact j)]
    .rw[Xy z]at b;cases b
  |_=>cases b
def AQ(i:Nat)(x:D)(T:LK):Out D:=match rg T i with
 |some (.lst xs)=>FJ (eJ i) T (kx xs x)
 |_=>.bad
def Lr(i:Nat)(a:LK->Out D):LK->Out D:=λT=>match rg T i with
 |some (.lst _)=>(a T).bind (AQ i)
 |_=>.bad
def FI(h:M.getD i .F= .O (.ct .fz))(r:MJ Y (KR Y .F) E M te f):MJ Y (KR Y .F) E M (Fe K "list" wW (iu i) (bX te dP)) (Lr i f):=by
 intro B U I0 Z H T Q R P;unfold Lr at P;cases e:rg T i with
 |none=>rw[e]at P;exact P.elim
 |some B1=>
   cases B1 with
   |lst ds=>
     rw[e]at P;replace P:Mo Y (KR Y .F) E M B U Z ((f T).bind (AQ i)) Q:=P;have l:=R.lo i;rw[e,h]at l;let(v,g,w):=l;let(a,xs,rfl,y,_,V):=Ow.lst w rfl;refine(.ref a,i7 g,.inl (rfl,xs,SqL.of y),r.bnd R P λx C u I U1 j H1 N o W S q s=>?_);have k:=o.lo i;unfold AQ at s;cases b:rg C i with
     |none=>rw[b]at s;exact s.elim
     |some Cv=>
       cases Cv with
       |lst c=>
         rw[b]at s;rw[b,h,g]at k;have p:=kN k rfl;let(X,d,A,t,n,m):=Ow.lst p rfl;cases A;replace s:Mo Y (KR Y .F) E M I U1 Z (FJ (eJ i) C (kx c x)) Q:=s;unfold kx at s;by_cases z:c.length<ak
         .rw[Xx z]at s;refine(a,d,u,rfl,rfl,t,fU (Yz (by rw[<-m.len];exact z)),?_);refine s .non I U1 j _ [] (o.mut h g b (by rw[n];exact Xw) ?_) (Ex.refl _ _) NewM.nil (show Dn Y I .non .non by rw[Dn]);rw[n];exact Ow.lst' bE (m.append (Dns.one q))
         .rw[Xy z]at s;exact s.elim
       |_=>rw[b]at s;exact s.elim
   |_=>rw[e]at P;exact P.elim
end
end
section
variable{Y:Cm}{E:XK}{Kr:KT D V}{pr:Nat->Bool}{M:L Md}{B U H:Hp}{I0:Nat->L Addr}{Z:St}{T:LK}{K:L0}
def z9(set:LK->D->LK)(x d:D)(T:LK):Res D->SO
 |.ok k=>(match Aa d k x with|some d'=>.nx (set T d')|none=>.bad)
 |.exc c=>.exc c T
 |.bad=>.bad
def pe(get:LK->Option D)(set:LK->D->LK)(mk:LK->Res D)(b:LK->Out D):LK->SO:=λT=>nh (b T) λx a=>match get a with
 |some d=>z9 set x d a (mk a)
 |none=>.bad
section
variable{X:Type}[DecidableEq X]
def sg{a:L (X×V)}:(a.any λb=>decide (b.1=k))=gt (a.map (·.1)) k:=by
 ext gt;rw[List.any_map];rfl
def zh{a:L (X×V)}(h:gt (a.map (·.1)) k=true):(iK a k v).map (·.1)=a.map (·.1):=by
 ext iK;rw[sg,if_pos h,List.map_map];refine List.map_congr_left λp _=>?_;show(if p.1=k then (p.1,v) else p).1=p.1;split<;>rfl
def iS{a:L (X×V)}(h:¬ gt (a.map (·.1)) k=true):iK a k v=a++[(k,v)]:=by
 ext iK;rw[sg,if_neg h]
theorem sI{k:X}(c:Dn Y Cv x v):∀{a:L (X×V)} {ds:L D},Dns Y Cv ds (a.map (·.2))->Dns Y Cv (qb (a.map (·.1)) ds k x) ((a.map λb=>if b.1=k then (b.1,v) else b).map (·.2))
 |[],ds,h=>by cases ds<;>exact(by rw[List.map_nil,List.map_nil,List.map_nil];ext qb;rw[Dns])
 | p::a,ds,h=>by
   cases ds with
   |nil=>rw[Dns]at h;cases h
   |cons d ds=>
     rw[Xz,Dns]at h;let(y,r,e,g,f):=h;cases e;rw[Xz,Xz,Xz,qb,Dns];refine(_,_,rfl,?_,sI c f);by_cases q:p.1=k
     .rw[Xx q,Xx q];exact c
     .rw[Xy q,Xy q];exact g
end
def Ow.dT(w:Ow Y B H d (.ct .fz) v A)(e:d=.dT ks ds):∃(a:Addr) (b:L (L cL×V)),v=.ref a/\H a=J (.dT b)/\b.map (·.1)=ks/\A=[a]/\Dns Y B ds (b.map (·.2)):=by
 subst e;rw[Ow]at w;let(a,xs,k,r,j,i,h,g):=w;let(f,c):=Ows.fz g;exact(a,xs,r,j,i,by rw[h,c],f)
def Ow.dK(w:Ow Y B H d (.ct .fz) v A)(e:d=.dK ks ds):∃(a:Addr) (b:L (cL×V)),v=.ref a/\H a=J (.dK b)/\b.map (·.1)=ks/\A=[a]/\Dns Y B ds (b.map (·.2)):=by
 subst e;rw[Ow]at w;let(a,xs,k,r,j,i,h,g):=w;let(f,c):=Ows.fz g;exact(a,xs,r,j,i,by rw[h,c],f)
def Ow.dT'{b:L (L cL×V)}(h:H a=J (.dT b))(d:Dns Y B ds (b.map (·.2))):Ow Y B H (.dT (b.map (·.1)) ds) (.ct .fz) (.ref a) [a]:=by
 rw[Ow];exact(a,b,[],rfl,h,rfl,rfl,Ows.of d)
def Ow.dK'{b:L (cL×V)}(h:H a=J (.dK b))(d:Dns Y B ds (b.map (·.2))):Ow Y B H (.dK (b.map (·.1)) ds) (.ct .fz) (.ref a) [a]:=by
 rw[Ow];exact(a,b,[],rfl,h,rfl,rfl,Ows.of d)
def NA{d k x d':D}(p:Ow Y B H d (.ct .fz) v A)(m:Dn Y H k u)(j:Dn Y B x w)(e:Aa d k x=J d'):∃a o',v=.ref a/\a∈A/\DPut H a u w (upd H a o')/\Ow Y B (upd H a o') d' (.ct .fz) v A:=by
 cases d with
 |dT ks vs=>
   let(a,c,rfl,n,i,rfl,h):=p.dT rfl;cases k with
   |tup r=>
     replace e:((iz r).bind λk=>if ks.length<ak then J (if gt ks k=true then D.dT ks (qb ks vs k x) else .dT (ks++[k]) (vs++[x])) else G)=J d':=e;let(f,o,e):=Ac4.mp e;rw[Dn]at m;let(b,xs,rfl,y,s):=m;have ex:=nP o s;subst ex;by_cases z:ks.length<ak
     · rw[Xx z]at e;cases e;have l:c.length<sizeLine:=fU (Yz (by rw[<-i,Xv]at z;exact z));refine(a,_,rfl,Xw,DPut.t n y l,?_);subst i;by_cases q:gt (c.map (·.1)) f=true
       · rw[if_pos q];have hp:iK c f w=c.map λg=>if g.1=f then (g.1,w) else g:=by ext iK;rw[sg,if_pos q]
         have:=Ow.dT' (Y:=Y) (B:=B) (H:=upd H a (.dT (iK c f w))) (ds:=qb (c.map (·.1)) vs f x) bE (by rw[hp];exact sI j h)
         rw[zh q]at this;exact this
       · rw[Xy q]
         have:=Ow.dT' (Y:=Y) (B:=B) (H:=upd H a (.dT (iK c f w))) (ds:=vs++[x]) bE (by rw[iS q,X8];exact h.append (Dns.one j))
         rw[iS q,X8]at this;rw[iS q];exact this
     .rw[Xy z]at e;cases e
   |_=>cases e
 |dK ks vs=>
   let(a,c,rfl,n,i,rfl,h):=p.dK rfl;replace e:((qU k).bind λk=>if ks.length<ak then J (if gt ks k=true then D.dK ks (qb ks vs k x) else .dK (ks++[k]) (vs++[x])) else G)=J d':=by cases k<;>exact e
   let(f,o,e):=Ac4.mp e;have ex:=zK o m;subst ex;by_cases z:ks.length<ak
   · rw[Xx z]at e;cases e;have l:c.length<sizeLine:=fU (Yz (by rw[<-i,Xv]at z;exact z));refine(a,_,rfl,Xw,DPut.k n l,?_);subst i;by_cases q:gt (c.map (·.1)) f=true
     · rw[if_pos q];have hp:iK c f w=c.map λg=>if g.1=f then (g.1,w) else g:=by ext iK;rw[sg,if_pos q]
       have:=Ow.dK' (Y:=Y) (B:=B) (H:=upd H a (.dK (iK c f w))) (ds:=qb (c.map (·.1)) vs f x) bE (by rw[hp];exact sI j h)
       rw[zh q]at this;exact this
     · rw[Xy q]
       have:=Ow.dK' (Y:=Y) (B:=B) (H:=upd H a (.dK (iK c f w))) (ds:=vs++[x]) bE (by rw[iS q,X8];exact h.append (Dns.one j))
       rw[iS q,X8]at this;rw[iS q];exact this
   .rw[Xy z]at e;cases e
 |_=>cases k<;>cases e
section
variable{t:TE}{get:LK->Option D}{set:LK->D->LK}{tk tv:TE}{mk:LK->Res D}{mv:LK->Out D}
def nI(p:Pth Y M t get set)(V:PJ Y (KR Y .X) E M tk mk)(O:MJ Y (KR Y .F) E M tv mv):SJ Y E Kr pr M (Om t tk tv) (pe get set mk mv):=by
 intro B U I0 Z H T D R P;refine O.bndS R P λx f w I U1 i H1 N B1 e1 n1 K s=>?_;cases e:get f with
 |none=>rw[e]at s;exact s.elim
 |some d=>
   rw[e]at s;replace s:So Y E Kr pr M I U1 Z (z9 set x d f (mk f)) D:=s;let(v,A,S,C,hA,cl):=p.rd B1 e;refine S _ (V I U1 i Z H1 f _ B1 ?_);cases y:mk f with
   |ok k=>
     rw[y]at s;replace s:So Y E Kr pr M I U1 Z (match Aa d k x with|some d'=>.nx (set f d')|none=>.bad) D:=s;intro u j l m N2 R2 g n2 Q;cases z:Aa d k x with
     |none=>rw[z]at s;exact s.elim
     |some d'=>
       rw[z]at s
       have q:Ow Y j m d (.ct .fz) v A:=Ow.mono g.b (λa r=>by
        let(o,Cv):=Ow.at C r
        rw[Cv,g.h _ _ Cv]) C
       let(a,o',W,r,dp,n):=NA q Q (Dn.mono g.b K) z;exact(a,_,W,dp,s Z j l i _ (cl j l m R2 g.b g.h a r o' d' n) g.toEx (Kp.refl _ _))
   |exc c=>rw[y]at s;exact λj l m R2 g=>s Z j l i m R2 g.toEx (Kp.refl _ _)
   |bad=>rw[y]at s;exact s.elim
end
theorem vE:∀{fs:L (Str×V)},(i8 f y fs).map (·.1)=if gt (fs.map (·.1)) f=true then fs.map (·.1) else fs.map (·.1)++[f]
 |[]=>rfl
 | p::fs=>by
   let(g,z):=p;ext i8 gt;rw[List.map_cons,List.any_cons];by_cases q:g=f
   .rw[Xx q,Yn q,Bool.true_or,Xx rfl,Xz]
   · rw[if_neg q,decide_eq_false q,Bool.false_or,List.map_cons,vE];ext gt;split
     .rfl
     .rw[Zs]
theorem Owf.put{sh:L (Str×Sh)}{N:L Addr}(s:Ow Y B H x ((sh.lookup f).getD .fz) y N)(v:N.Nodup):∀{fs:L (Str×V)} {ds:L D} {A:L Addr},Owf Y B H ds (fs.map (·.1)) sh (fs.map (·.2)) A->A.Nodup->(∀a∈N,a∉A)->
 ∃i,Owf Y B H (if gt (fs.map (·.1)) f=true then jB (fs.map (·.1)) ds f x else ds++[x]) ((i8 f y fs).map (·.1)) sh ((i8 f y fs).map (·.2)) i/\i.Nodup/\∀a∈i,a∈A\/a∈N
 | [],ds,A,h,nd,hd=>by
   cases ds with
   |nil=>
     refine(N,?_,v,λa c=>.inr c);show Owf Y B H [x] [f] sh [y] N;rw[Owf];exact(f,[],y,[],N,[],rfl,rfl,by rw[XY],s,by rw[Owf];exact(rfl,rfl))
   |cons d ds=>
     rw[Owf]at h;let(_,_,_,_,_,_,e,_):=h;cases e
 | p::fs,ds,A,h,nd,hd=>by
   let(g,z):=p;cases ds with
   |nil=>
     rw[Owf]at h;cases h.1
   |cons d ds=>
     rw[List.map_cons,List.map_cons,Owf]at h;let(n,B1,u,r,E,I,K,h0,M,I0,Cv):=h;cases K;cases h0;subst M;let(o,j,m):=List.nodup_append.mp nd;ext i8;by_cases q:g=f
     · have t:gt (((g,z)::fs).map (·.1)) f=true:=by
        ext gt;rw[List.map_cons,List.any_cons,decide_eq_true q,Bool.true_or]
       rw[Xx q,t,Xx rfl,Xz,jB,Xx q,Xz,Xz];refine(N++I,?_,Y8.mpr (v,j,λa c b k e=>hd a c (XE _ (e▸k))),λa c=>?_)
       .rw[Owf];exact(g,_,y,_,N,I,rfl,rfl,rfl,by rw[q];exact s,Cv)
       · rcases XJ.mp c with z|z
         .exact .inr z
         .exact .inl (XE _ z)
     · let(i,w,l,F):=Owf.put s v Cv j (λa c k=>hd a c (XE _ k))
       have t:gt (((g,z)::fs).map (·.1)) f=gt (fs.map (·.1)) f:=by
        ext gt;rw[List.map_cons,List.any_cons,decide_eq_false q,Bool.false_or]
       rw[Xy q,t,Xz,Xz,Xz,jB,Xy q]
       have C:∀a∈E,∀b∈i,a≠b:=λa c b k e=>by
        rcases F b k with z|z
        .exact m a c b z e
        .exact hd b z (Yl _ (e▸c))
       refine(E++i,?_,Y8.mpr (o,l,C),λa c=>?_)
       · have:(if gt (fs.map (·.1)) f=true then d::jB (fs.map (·.1)) ds f x else (d::ds)++[x])=d::(if gt (fs.map (·.1)) f=true then jB (fs.map (·.1)) ds f x else ds++[x]):=by split<;>rfl
         rw[this,Owf];exact(g,_,z,_,E,i,rfl,rfl,rfl,I0,w)
       · rcases XJ.mp c with z|z
         .exact .inl (Yl _ z)
         · rcases F a z with z|z
           .exact .inl (XE _ z)
           .exact .inr z
def o4(c:Nat)(f:Str)(i:Nat)(b:LK->Out D):LK->SO:=λT=>nh (b T) λx a=>match rg a i with
 |some d=>(match Ds c f x d with|some d'=>.nx (a.set i (J d'))|none=>.bad)
 |none=>.bad
def Oj{K':KT D V}{sh:L (Str×Sh)}(hc:Cls K (Y c))(hn:NoAttr K (Y c) f)(hm:M.getD i .F= .O (.ob sh))(he:MJ Y K' E M te me)
 (p:∀B U H d v N,K' d v B U H N->∃X,(X=[]\/X=N)/\Ow Y B H d ((sh.lookup f).getD .fz) v X):SJ Y E Kr pr M (Mt K (iu i) te f) (o4 c f i me):=by
 intro B U I0 Z H T D R P;refine he.bndS R P λx r y I U1 g H1 N m e1 n1 hx s=>?_;let(X,hN,ow):=p _ _ _ _ _ _ hx
 have Cv:NewM X U1 g:=by
  rcases hN with e|e
  .subst e;exact NewM.nil
  .subst e;exact n1
 have l:=m.lo i;cases e:rg r i with
 |none=>rw[e]at s;exact s.elim
 |some d=>
   rw[e]at s;replace s:So Y E Kr pr M I U1 Z (match Ds c f x d with|some d'=>.nx (r.set i (J d'))|none=>.bad) D:=s;rw[e,hm]at l;let(v,hv,w):=l;cases d with
   |obj c' ns vs=>
     have ep:Ds c f x (.obj c' ns vs)=if c'=c/\ns.length<900 then J (if gt ns f=true then .obj c' ns (jB ns vs f x) else .obj c' (ns++[f]) (vs++[x])) else none:=rfl
     rw[ep]at s;by_cases q:c'=c/\ns.length<900
     · rw[Xx q]at s;let(q1,q2):=q;subst q1;have w:Ow Y I H1 (.obj c' ns vs) (.ob sh) v (g i):=w;rw[Ow]at w;let(a,dx,fs,A',rfl,h1,h2,W,h4):=w;subst h2;have nd:=m.nd i;rw[W]at nd;let(nd1,nd2):=Yr.mp nd;have n:a∈g i:=by rw[W];exact Xw
       let(o,w2,nda,hA):=Owf.put ow Cv.nd h4 nd2 (λb h A=>Cv.ap b h i (by rw[W];exact on _ A))
       have S:a∉o:=λz=>by
        rcases hA a z with z|z
        .exact nd1 z
        .exact Cv.ap a z i n
       refine(.ref a,i7 hv,a,_,dx,fs,rfl,h1,hc,hn,by rw[Xv]at q2;omega,?_)
       have w3:Ow Y I (upd H1 a (.ins (Y c') dx (i8 f y fs))) (if gt (fs.map (·.1)) f=true then .obj c' (fs.map (·.1)) (jB (fs.map (·.1)) vs f x) else .obj c' (fs.map (·.1)++[f]) (vs++[x])) (.ob sh) (.ref a) (a::o):=by
        have w4:=Owf.mono (H':=upd H1 a (.ins (Y c') dx (i8 f y fs))) (Same.refl I) (λb h=>bq (λz:b=a=>S (z▸h))) w2;have C:=vE (f:=f) (y:=y) (fs:=fs);by_cases k:gt (fs.map (·.1)) f=true
        .rw[Xx k]at C w4 ⊢;rw[Ow];rw[C]at w4;exact(a,dx,_,o,rfl,bE,C,rfl,w4)
        .rw[Xy k]at C w4 ⊢;rw[Ow];rw[C]at w4;exact(a,dx,_,o,rfl,bE,C,rfl,w4)
       have hi:i<r.length:=(XZ.mp (i7 e)).1;refine s Z I U1 (λj=>if j=i then a::o else g j) _ (m.bu,λb u z=>?_,λj=>?_,λj k b Q h p=>?_,λj b h=>?_,λj=>?_,by rw[YR];exact m.len,m.tb) (Ex.refl _ _) (Kp.refl _ _)
       .rw[bq (bD z (m.un i a n))];exact m.uh b u z
       · show(if j=i then a::o else g j).Nodup;split
         .exact Yr.mpr (S,nda)
         .exact m.nd j
       · replace h:b∈(if j=i then a::o else g j):=h;replace p:b∈(if k=i then a::o else g k):=p
         have B1:∀{j},j≠i->b∈a::o->b∈g j->False:=λ{j} hj A t=>by
          rcases XC.mp A with z|z
          .exact m.dj i j b (YS hj) (by rw[z];exact n) t
          · rcases hA b z with z|z
            .exact m.dj i j b (YS hj) (by rw[W];exact on _ z) t
            .exact Cv.ap b z j t
         split at h
         · rename_i z1;split at p
           .rename_i z2;exact Q (z1.trans z2.symm)
           .rename_i z2;exact B1 z2 h p
         · rename_i z1;split at p
           .exact B1 z1 p h
           .exact m.dj j k b Q h p
       · replace h:b∈(if j=i then a::o else g j):=h;split at h
         · rcases XC.mp h with z|z
           .rw[z];exact m.un i a n
           · rcases hA b z with z|z
             .exact m.un i b (by rw[W];exact on _ z)
             .exact Cv.un b z
         .exact m.un j b h
       · rw[lN];show Lo Y I U1 _ (M.getD j .F) _ _ (if j=i then a::o else g j);by_cases z:i=j
         .subst z;rw[Xx (rfl,hi),Xx rfl,hm];exact(.ref a,hv,w3)
         .rw[Xy λy=>z y.1,Xy λy=>z y.symm];exact(m.lo j).mono (Same.refl _) (Same.refl _) λb h=>bq (λy:b=a=>m.dj i j a z n (y▸h))
     .rw[Xy q]at s;exact s.elim
   |_=>exact s.elim
theorem Qd{sh:L (Str×Sh)}(j:Cls K (Y c))(b:NoAttr K (Y c) f)(e:M.getD i .F= .O (.ob sh))(g:(sh.lookup f).getD .fz=.fz)(h:MJ Y (KR Y .F) E M te a):SJ Y E Kr pr M (Mt K (iu i) te f) (o4 c f i a):=
 Oj j b e h λB U H d v N k=>([],.inl rfl,by rw[g,Ow];exact(k,rfl))
theorem wS{sh:L (Str×Sh)}(j:Cls K (Y c))(b:NoAttr K (Y c) f)(e:M.getD i .F= .O (.ob sh))(g:(sh.lookup f).getD .fz=s)(h:MJ Y (KO Y s) E M te a):SJ Y E Kr pr M (Mt K (iu i) te f) (o4 c f i a):=
 Oj j b e h λB U H d v N k=>(N,.inr rfl,by rw[g];exact k)
def yG(M:L Md)(a:Nat):Nat->Bool:=λj=>decide (j<a)&&(match M.getD j .F with | .O _=>true|_=>false)
def Bn:rg (l++List.replicate n G) i=rg l i:=by
 ext rg;by_cases h:i<l.length
 .rw[Zt h]
 · rw[Zp ∅,X5 (show l.length<=i by omega)];by_cases a:i-l.length<n
   .rw[ZE,Xx a];rfl
   .rw[ZE,Xy a]
def jw(k:Nat)(body:LK->SO)(ds:L D):Out D:=match body (ds.map J++List.replicate (k-ds.length) G) with
 |.rt d T=>.ok d T
 |.exc c T=>.exc c T
 |_=>.bad
def Rel.enter{vs:L V}{ds:L D}(R:Rel Y M B U I0 (vs.map J) H (ds.map J))(a:vs.length=M.length):Rel Y (M++more) B U I0 (vs.map J++List.replicate n G) H (ds.map J++List.replicate n G):=by
 have hd:ds.length=vs.length:=by have:=R.len;rw[Xv,Xv]at this;exact this
 refine(R.bu,R.uh,R.nd,R.dj,R.un,λi=>?_,by rw[XF,XF,R.len,Ae4,Ae4],R.tb);rw[Bn,Bn];have l:=R.lo i;by_cases h:i<M.length
 .rw[XV,Zt h,<-XV];exact l
 · have:rg (ds.map J) i=none:=by rw[gS,X5 ∅]
   rw[this]at l ⊢;exact l
def Rel.leave{vs:L V}(h:vs.length=M.length)(R:Rel Y (M++more) B U I0 d H C)(k:Kp (yG M M.length) (vs.map J++List.replicate n G) d):
 ∃Cv,Rel Y M B U Cv (vs.map J) H (jE M C)/\∀N,NewM N U I0->NewM N U Cv:=by
 refine(λi=>if yG M M.length i=true then I0 i else [],(R.bu,R.uh,λi=>?_,λi j a g b f=>?_,λi a b=>?_,λi=>?_,?_,R.tb),λN n=>(n.nd,n.un,λa b i=>?_))
 · show(if yG M M.length i=true then I0 i else []).Nodup;split
   .exact R.nd i
   .exact YF
 · replace b:a∈(if yG M M.length i=true then I0 i else []):=b;replace f:a∈(if yG M M.length j=true then I0 j else []):=f;split at b
   · split at f
     .exact R.dj i j a g b f
     .cases f
   .cases b
 · replace b:a∈(if yG M M.length i=true then I0 i else []):=b;split at b
   .exact R.un i a b
   .cases b
 · show Lo Y B U H (M.getD i .F) (rg (jE M C) i) (rg (vs.map J) i) (if yG M M.length i=true then I0 i else []);by_cases hi:i<M.length
   · have m:(M++more).getD i .F=M.getD i .F:=by
      rw[XV,Zt hi,<-XV]
     cases c:M.getD i .F with
     |O s=>
       have hp:yG M M.length i=true:=by ext yG;rw[c,decide_eq_true hi];rfl
       rw[Xx hp,qp c];have l:=R.lo i;rw[m,c,k i hp,Bn]at l;exact l
     |F=>
       have hp:yG M M.length i=false:=by ext yG;rw[c];simp
       have e:rg (jE M C) i=none:=by
        ext jE rg;rw[List.getElem?_map,List.getElem?_range hi];show(J (match M.getD i .F with | .O _=>_|_=>G)).join=G;rw[c];rfl
       rw[hp,e];exact rfl
     |R=>
       have hp:yG M M.length i=false:=by ext yG;rw[c];simp
       have e:rg (jE M C) i=none:=by
        ext jE rg;rw[List.getElem?_map,List.getElem?_range hi];show(J (match M.getD i .F with | .O _=>_|_=>G)).join=G;rw[c];rfl
       rw[hp,e];exact rfl
   · have hp:yG M M.length i=false:=by ext yG;rw[decide_eq_false hi];rfl
     have e:rg (jE M C) i=none:=by
      ext jE rg;rw[List.getElem?_eq_none (by rw[List.length_map,List.length_range];omega)];rfl
     rw[hp,e];exact rfl
 .unfold jE;rw[List.length_map,List.length_map,List.length_range,h]
 · show a∉(if yG M M.length i=true then I0 i else []);split
   .exact n.ap a b i
   .simp
def aS{vs:L V}(h:gy Y M Kr b vs H Q E):vs.length=M.length:=by
 let(_,_,_,_,_,a,_):=h;exact a
end
end Mi
namespace Mi
open PySem PySem.Spec L2
mutual
def toPy:D->Option PyData
 |.non=>J .none
 |.bl b=>J (.bool b)
 |.int i=>J (.int i)
 |.str x=>J (.str x)
 |.lst xs=>(toPys xs).map .list
 |.scr xs=>(toPys xs).map .list
 |.tup xs=>(toPys xs).map .tuple
 |.ty _=>G
 |.dK _ _=>G
 |.dT _ _=>G
 |.obj _ _ _=>G
def toPys:L D->Option (L PyData)
 |[]=>J []
 | d::r=>match toPy d,toPys r with
   |some p,J q=>J (p::q)
   |_,_=>G
end
section
variable{Y:Cm}{E:XK}{Kr:KT D V}{pr:Nat->Bool}{M:L Md}{B U H:Hp}{I0:Nat->L Addr}{Z:St}{T:LK}{K:L0}
mutual
theorem den_of:∀{d:D} {p:PyData} {v:V},toPy d=J p->Dn Y H d v->L2.Den Y.K H p v
 |.non,p,v,e,h=>by rw[Dn]at h;cases e;rw[L2.Den];exact h
 |.bl _,p,v,e,h=>by rw[Dn]at h;cases e;rw[L2.Den];exact h
 |.int _,p,v,e,h=>by rw[Dn]at h;cases e;rw[L2.Den];exact h
 |.str _,p,v,e,h=>by rw[Dn]at h;cases e;rw[L2.Den];exact h
 | .lst xs,p,v,e,h=>by
   rw[Dn]at h;let(a,ys,rfl,c,b):=h;rw[toPy]at e;let(ps,f,rfl):=X9.mp e;rw[L2.Den];exact(a,ys,rfl,SqL.of c,dens_of f b)
 | .scr xs,p,v,e,h=>by
   rw[Dn]at h;let(a,ys,rfl,c,b):=h;rw[toPy]at e;let(ps,f,rfl):=X9.mp e;rw[L2.Den];exact(a,ys,rfl,c.sq,dens_of f b)
 | .tup xs,p,v,e,h=>by
   rw[Dn]at h;let(a,ys,rfl,c,b):=h;rw[toPy]at e;let(ps,f,rfl):=X9.mp e;rw[L2.Den];exact(a,ys,rfl,SqT.of c,dens_of f b)
 |.ty _,p,v,e,h=>by cases e
 |.dK _ _,p,v,e,h=>by cases e
 |.dT _ _,p,v,e,h=>by cases e
 |.obj _ _ _,p,v,e,h=>by cases e
theorem dens_of:∀{ds:L D} {ps:L PyData} {xs:L V},toPys ds=J ps->Dns Y H ds xs->L2.Dens Y.K H ps xs
 |[],ps,xs,e,h=>by rw[Dns]at h;rw[toPys]at e;cases e;rw[L2.Dens];exact h
 | d::ds,ps,xs,e,h=>by
   rw[Dns]at h;let(x,r,rfl,f,c):=h;rw[toPys]at e;cases a:toPy d with
   |none=>rw[a]at e;cases e
   |some p=>
     cases b:toPys ds with
     |none=>rw[a,b]at e;cases e
     |some q=>
       rw[a,b]at e;cases e;rw[L2.Dens];exact(x,r,rfl,den_of a f,dens_of b c)
end
def Ti(neg:Bool)(x y:D):Res D:=match toPy x,toPy y with
 |some p,J q=>if SeqAt.shaped p=true/\SeqAt.shaped q=true then .ok (.bl (neg.xor (PyData.eqv p q))) else .bad
 |_,_=>.bad
def Qg:S2 Y (Qs Y.K neg) (Ti neg):=by
 intro H x y v u b a;ext Ti;cases d:toPy x with
 |none=>trivial
 |some p=>
   cases c:toPy y with
   |none=>trivial
   |some q=>
     dsimp only;by_cases z:SeqAt.shaped p=true/\SeqAt.shaped q=true
     .rw[Xx z];refine(.bl _,λ_=>by rw[Dn],λQ h=>(p,q,den_of d b,den_of c a,z.1,z.2,?_));cases neg<;>simpa using h
     .rw[Xy z];trivial
def inD(x y:D):Res D:=match toPy x,toPy y with
 |some p,J (.list xs)=>if SeqAt.shaped p=true/\SeqAt.shaped (.list xs)=true/\(xs.all λz=>SeqAt.noMix z p)=true then .ok (.bl (decide (countIn p xs≠0))) else .bad
 |_,_=>.bad
def AW(i:Nat):LK->Out D:=λT=>match rg T i with|some d=>.ok d (T.set i G)|none=>.bad
def Rel.take(R:Rel Y M B U I0 Z H T)(i:Nat):Rel Y M B U (λj=>if j=i then [] else I0 j) Z H (T.set i G)/\∀a∈I0 i,U a=G/\∀j,a∉(λj=>if j=i then [] else I0 j) j:=by
 refine((R.bu,R.uh,λj=>?_,λj k a f b d=>?_,λj a b=>?_,λj=>?_,by rw[YR];exact R.len,R.tb),λa b=>(R.un i a b,λj c=>?_))
 · show(if j=i then [] else I0 j).Nodup;split
   .exact YF
   .exact R.nd j
 · replace b:a∈(if j=i then [] else I0 j):=b;replace d:a∈(if k=i then [] else I0 k):=d;split at b
   .cases b
   · split at d
     .cases d
     .exact R.dj j k a f b d
 · replace b:a∈(if j=i then [] else I0 j):=b;split at b
   .cases b
   .exact R.un j a b
 · show Lo Y B U H (M.getD j .F) (rg (T.set i G) j) (rg Z j) (if j=i then [] else I0 j);rw[lN];by_cases e:i=j
   · subst e;rw[Xx rfl];by_cases h:i<T.length
     .rw[Xx (rfl,h)];exact rfl
     · rw[Xy λz=>h z.2]
       have:rg T i=none:=by ext rg;rw[List.getElem?_eq_none ∅];rfl
       rw[this];exact rfl
   .rw[Xy λz=>e z.1,Xy λz=>e z.symm];exact R.lo j
 · replace c:a∈(if j=i then [] else I0 j):=c;split at c
   .cases c
   .rename_i z;exact R.dj i j a (λq=>z q.symm) b c
def rJ(g:M.getD i .F= .O s):MJ Y (KO Y s) E M (iu i) (AW i):=by
 intro B U I0 Z H T Q R P;unfold AW at P;have l:=R.lo i;cases e:rg T i with
 |none=>rw[e]at P;exact P.elim
 |some d=>
   rw[e]at P;rw[e,g]at l;let(v,f,w):=l;let(R2,c):=R.take i;exact(v,i7 f,P v B U _ H (I0 i) R2 (Ex.refl _ _) (R.nd i,λa b=>(c a b).1,λa b=>(c a b).2) w)
def c9:D->Bool | .int _=>true | .bl _=>true | .non=>true | .str _=>true|_=>false
def CQ:D->Bool
 |.lst xs=>xs.all c9
 |.scr xs=>xs.all c9
 |.tup xs=>xs.all c9
 |.dK _ xs=>xs.all c9
 |.dT _ xs=>xs.all c9
 |.obj _ _ xs=>xs.all c9
 |d=>c9 d
def Gc(m:LK->Res D):LK->Res D:=λT=>(m T).bind λd=>if CQ d=true then .ok d else .bad
def kJ(h:c9 d=true)(q:Dn Y Cv d v):Dn Y a d v:=by
 cases d with
 |int _=>rw[Dn]at q ⊢;exact q
 |bl _=>rw[Dn]at q ⊢;exact q
 |non=>rw[Dn]at q ⊢;exact q
 |str _=>rw[Dn]at q ⊢;exact q
 |_=>cases h
theorem i4:∀{ds:L D} {xs:L V},ds.all c9=true->Dns Y Cv ds xs->Dns Y c ds xs
 |[],_,_,q=>by rw[Dns]at q ⊢;exact q
 | d::ds,_,h,q=>by
   rw[Ag6,Zd]at h;rw[Dns]at q ⊢;let(x,r,e,b,a):=q;exact(x,r,e,kJ h.1 b,i4 h.2 a)
def cS(h:PJ Y (KC Y k) E M t m):PJ Y (KC Y k') E M t (Gc m):=by
 intro B U I0 Z H T Q R P;refine h.bnd R P λx v I U1 H1 O _ f i g N s=>?_;by_cases z:CQ x=true
 · rw[Xx z]at s;refine s v I U1 H1 [] f (Gw.refl _ _ _) New.nil ?_;cases x with
   |lst ds=>let(a,xs,r,d,b):=N;exact(a,xs,r,d,i4 z b)
   |scr ds=>let(a,xs,r,d,b):=N;exact(a,xs,r,d,i4 z b)
   |tup ds=>let(a,xs,r,d,b):=N;exact(a,xs,r,d,i4 z b)
   |dK ks ds=>let(a,xs,r,d,b,e):=N;exact(a,xs,r,d,b,i4 z e)
   |dT ks ds=>let(a,xs,r,d,b,e):=N;exact(a,xs,r,d,b,i4 z e)
   |obj c ns ds=>let(a,dx,xs,r,d,b,e):=N;exact(a,dx,xs,r,d,b,i4 z e)
   |int _=>exact kJ (Cv:=hp k I U1 H1) z N
   |bl _=>exact kJ (Cv:=hp k I U1 H1) z N
   |non=>exact kJ (Cv:=hp k I U1 H1) z N
   |str _=>exact kJ (Cv:=hp k I U1 H1) z N
   |ty _=>cases z
 .rw[Xy z]at s;exact s.elim
def rS{k:Kd}{t:TE}{m:LK->Res D}(h:PJ Y (KR Y .X) E M t m):PJ Y (KR Y .F) E M t (λT=>(m T).bind λd=>if c9 d=true then .ok d else .bad):=by
 intro B U I0 Z H T Q R P;refine h.bnd R P λx v I U1 H1 O _ a c b N s=>?_;by_cases z:c9 x=true
 .rw[Xx z]at s;exact s v I U1 H1 [] a (Gw.refl _ _ _) New.nil (kJ z N)
 .rw[Xy z]at s;exact s.elim
def kD:cL->D | .inl i=>.int i | .inr x=>.str x
def vU:D->Res D | .dT ks _=>.ok (.lst (ks.map λk=>.tup (k.map kD)))|_=>.bad
theorem Kl:∀k:L cL,Dns Y Cv (k.map kD) (k.map kV)
 |[]=>by rw[YA,YA,Dns]
 | x::k=>by
   rw[Xz,Xz,Dns];refine(_,_,rfl,?_,Kl k);cases x with
   |inl i=>show Dn Y Cv (.int i) (.int i);rw[Dn]
   |inr i=>show Dn Y Cv (.str i) (.str i);rw[Dn]
theorem Dns.of_get:∀{ds:L D} {xs:L V},ds.length=xs.length->(∀(i:Nat) d x,ds[i]?=J d->xs[i]?=J x->Dn Y Cv d x)->Dns Y Cv ds xs
 | [],xs,h,_=>by
   rw[Dns];exact YY.mp h.symm
 |d::ds,[],h,_=>by cases h
 | d::ds,x::xs,h,k=>by
   rw[Dns];exact(x,xs,rfl,k 0 d x rfl rfl,Dns.of_get (by simpa using h) λi d x b a=>k (i+1) d x (by simpa using b) (by simpa using a))
def rR{k:Kd}(h:PJ Y (KC Y k) E M ta p):PJ Y (KO Y (.ct .fz)) E M (Gq (λxs H Q=>∃a f,xs=[.ref a]/\Rd H a (.dT f)/\
 ∀(ks:L Addr) (l:Addr),ks.length=f.length->(∀(i:Nat) k v b,f[i]?=J (k,v)->ks[i]?=J b->H b=J (.tup (k.map kV)))->H l=G->Q (.ref l) (upd H l (.lst (ks.map V.ref)))) (bX ta dP)) (un vU p):=by
 intro B U I0 Z H T Q R P;refine h.bnd R P λx v I U1 H1 O _ g e1 X N s=>?_;cases x with
 |dT ks ds=>
   let(a,f,rfl,K,u,h3):=N;refine(a,f,rfl,K,λbs l F r C=>?_)
   have c:∀b∈bs,∃o,H1 b=J o/\kh o:=λb m=>by
    let(i,hi,e):=List.getElem_of_mem m;have B1:bs[i]?=J b:=by rw[<-e];exact XS hi
    have Cv:f[i]?=J (f[i]'∅):=XS ∅;exact(_,r i _ _ b (by rw[Cv]) B1,_,rfl)
   have R2:Rel Y M (Mi.frz I H1 bs) (Mi.frz U1 H1 bs) I0 Z H1 T:=g.grow (du g.bh) (du g.uh) (Same.refl _) (tV g.bu) (xx g.uh) λi a h=>by
    ext Mi.frz;split
    .rename_i z;let(o,e,t):=c a z;exact(g.nt h e t).elim
    .exact g.un i a h
   have S:Gw I U1 H1 (Mi.frz I H1 bs) (Mi.frz U1 H1 bs) H1:=by
    refine((du g.bh,du g.uh,λa o q=>?_),Same.refl _,λa o q=>?_)
    · unfold Mi.frz at q;split at q
      .rename_i z;let(o',e,t):=c a z;rw[e]at q;cases q;exact .inr (.inr t)
      .exact .inl q
    · unfold Mi.frz at q;split at q
      .rename_i z;let(o',e,t):=c a z;rw[e]at q;cases q;exact .inr (.inr t)
      .exact .inl q
   have W:Po Y (KO Y (.ct .fz)) E M (Mi.frz I H1 bs) (Mi.frz U1 H1 bs) I0 Z H1 T (.ok (.lst (ks.map λk=>.tup (k.map kD)))) Q:=Po.at s S;refine fH R2 W (Dns.of_get (by rw[List.length_map,List.length_map,F,<-u,List.length_map]) λi d x y ex=>?_) C;rw[List.getElem?_map]at y ex;let(kk,w,rfl):=Option.map_eq_some_iff.mp y;let(b,A,rfl):=Option.map_eq_some_iff.mp ex;rw[<-u,List.getElem?_map]at w;let(j,n,rfl):=Option.map_eq_some_iff.mp w;have m:=r i j.1 j.2 b n A;rw[Dn];refine(b,_,rfl,?_,Kl j.1);ext Mi.frz;rw[if_pos (List.mem_of_getElem? A)];exact m
 |_=>exact s.elim
def dJ:L D->Option (L Int)
 |[]=>J []
 |.int i::r=>(dJ r).map (i::·)
 |_::_=>G
theorem jd:∀{ds:L D} {ns:L Int} {xs:L V},dJ ds=J ns->Dns Y Cv ds xs->xs=ns.map V.int
 |[],ns,xs,e,h=>by rw[Dns]at h;cases e;rw[h];rfl
 | d::ds,ns,xs,e,h=>by
   rw[Dns]at h;let(x,r,rfl,a,b):=h;cases d with
   |int i=>
     rw[dJ]at e;let(M,c,rfl):=X9.mp e;rw[Dn]at a;rw[jd c b,a,Xz]
   |_=>cases e
def gq:L Int->Int->Int
 |[],m=>m
 |x::r,m=>gq r (if x<m then x else m)
def ka:L Int->Int->Int
 |[],m=>m
 |x::r,m=>ka r (if m<x then x else m)
theorem lV:∀(l:L Int) (m:Int),(gq l m=m\/gq l m∈l)/\gq l m<=m/\∀x∈l,gq l m<=x
 |[],m=>(.inl rfl,Int.le_refl _,λ_ h=>(nomatch h))
 | x::r,m=>by
   ext gq;let(a,b,d):=lV r (if x<m then x else m);refine(?_,?_,λy c=>?_)
   · rcases a with a|a
     · by_cases z:x<m
       .rw[Xx z]at a ⊢;exact .inr (by rw[a];exact Xw)
       .rw[Xy z]at a ⊢;exact .inl a
     .exact .inr (on _ a)
   .split at b<;>split<;>omega
   · rcases XC.mp c with z|z
     .subst z;split at b<;>split<;>omega
     .exact d y z
theorem nN:∀(l:L Int) (m:Int),(ka l m=m\/ka l m∈l)/\m<=ka l m/\∀x∈l,x<=ka l m
 |[],m=>(.inl rfl,Int.le_refl _,λ_ h=>(nomatch h))
 | x::r,m=>by
   ext ka;let(a,b,d):=nN r (if m<x then x else m);refine(?_,?_,λy c=>?_)
   · rcases a with a|a
     · by_cases z:m<x
       .rw[Xx z]at a ⊢;exact .inr (by rw[a];exact Xw)
       .rw[Xy z]at a ⊢;exact .inl a
     .exact .inr (on _ a)
   .split at b<;>split<;>omega
   · rcases XC.mp c with z|z
     .subst z;split at b<;>split<;>omega
     .exact d y z
def tZ(f:L Int->Int->Int)(x d:D):Res D:=match x with
 |.lst ds=>(match dJ ds with|some []=>(if c9 d=true then .ok d else .bad)|some (n::ns)=>.ok (.int (f ns n))|none=>.bad)
 |_=>.bad
def Oq{f:L Int->Int->Int}{ok:Int->Int->Prop}(sp:∀ns n m,m∈n::ns->(∀x∈n::ns,ok m x)->m=f ns n)(A:PJ Y (KR Y .X) E M ta q)(hd:PJ Y (KR Y .X) E M l o):
 PJ Y (KR Y .F) E M (L7 (λxs w H Q=>∃p ns d,xs=[.ref p]/\w=[d]/\SqL K H p (ns.map V.int)/\(ns=[]->Q d H)/\∀m∈ns,(∀x∈ns,ok m x)->Q (.int m) H) (bX ta dP) (bX l dP)) (bn (tZ f) q o):=by
 intro B U I0 Z H T Q R P;refine A.bnd R P λx v I U1 H1 O _ B1 e1 W N s=>hd.bnd B1 s λy u i e g N2 _ R2 t S Cv b=>?_;have N:Dn Y H1 x v:=N;cases x with
 |lst ds=>
   rw[Dn]at N;let(a,xs,rfl,r,C):=N;replace b:Po Y (KR Y .F) E M i e I0 Z g T (match dJ ds with|some []=>(if c9 y=true then .ok y else .bad)|some (n::ns)=>.ok (.int (f ns n))|none=>.bad) Q:=b;cases c:dJ ds with
   |none=>rw[c]at b;exact b.elim
   |some ns=>
     have ex:=jd c C;subst ex;cases ns with
     |nil=>
       rw[c]at b;replace b:Po Y (KR Y .F) E M i e I0 Z g T (if c9 y=true then .ok y else .bad) Q:=b;by_cases z:c9 y=true
       .rw[Xx z]at b;exact(a,[],u,rfl,rfl,SqL.of (t.h _ _ r),λ_=>b u i e g [] R2 (Gw.refl _ _ _) New.nil (kJ z Cv),λm j=>(nomatch j))
       .rw[Xy z]at b;exact b.elim
     |cons n ns=>
       rw[c]at b;refine(a,n::ns,u,rfl,rfl,SqL.of (t.h _ _ r),(λz=>by cases z),λm j k=>?_);rw[sp ns n m j k];exact b _ i e g [] R2 (Gw.refl _ _ _) New.nil (show Dn Y _ (.int (f ns n)) _ by rw[Dn])
 |_=>exact b.elim
theorem QA(j:PJ Y (KR Y .X) E M ta e)(hd:PJ Y (KR Y .X) E M b c):
 PJ Y (KR Y .F) E M (L7 (λxs f H Q=>∃p ns d,xs=[.ref p]/\f=[d]/\SqL K H p (ns.map V.int)/\(ns=[]->Q d H)/\∀m∈ns,(∀x∈ns,m<=x)->Q (.int m) H) (bX ta dP) (bX b dP)) (bn (tZ gq) e c):=Oq (ok:=λm x=>m<=x) (λns n m i a=>by
 let(h,s2,g):=lV ns n;have l2:=a _ (h.elim (λz=>by rw[z];exact Xw) (on _));rcases XC.mp i with z|z
 .rw[z]at l2 ⊢;omega
 .have:=g m z;omega) j hd
theorem QB(j:PJ Y (KR Y .X) E M ta e)(hd:PJ Y (KR Y .X) E M b c):
 PJ Y (KR Y .F) E M (L7 (λxs f H Q=>∃p ns d,xs=[.ref p]/\f=[d]/\SqL K H p (ns.map V.int)/\(ns=[]->Q d H)/\∀m∈ns,(∀x∈ns,x<=m)->Q (.int m) H) (bX ta dP) (bX b dP)) (bn (tZ ka) e c):=Oq (ok:=λm x=>x<=m) (λns n m i a=>by
 let(h,s2,g):=nN ns n;have l2:=a _ (h.elim (λz=>by rw[z];exact Xw) (on _));rcases XC.mp i with z|z
 .rw[z]at l2 ⊢;omega
 .have:=g m z;omega) j hd
def tI:D->Res D
 |.lst ds=>(match dJ ds with|some ns=>(if ns.length<4000 then .ok (.int (dd ns).length) else .bad)|none=>.bad)
 |_=>.bad
def Is(f:PJ Y (KR Y .X) E M ta c):PJ Y (KR Y .F) E M
 (Gq (λxs H Q=>∃a S n,xs=[.ref a]/\H a=J (.set S n)/\Q (.int n) H) (bX (Gq (λxs H Q=>∃p ns,xs=[.ref p]/\SqL K H p (ns.map V.int)/\ns.length<4000/\∀q,H q=G->Q (.ref q) (upd H q (.set (λk=>(dd ns).any (·==k)) (dd ns).length))) (bX ta dP)) dP)) (un tI c):=by
 intro B U I0 Z H T Q R P;refine f.bnd R P λx v I U1 H1 O _ e j i N s=>?_;have N:Dn Y H1 x v:=N;cases x with
 |lst ds=>
   rw[Dn]at N;let(a,xs,rfl,h,g):=N;replace s:Po Y (KR Y .F) E M I U1 I0 Z H1 T (match dJ ds with|some ns=>(if ns.length<4000 then .ok (.int (dd ns).length) else .bad)|none=>.bad) Q:=s;cases b:dJ ds with
   |none=>rw[b]at s;exact s.elim
   |some ns=>
     have ex:=jd b g;subst ex;rw[b]at s;replace s:Po Y (KR Y .F) E M I U1 I0 Z H1 T (if ns.length<4000 then .ok (.int (dd ns).length) else .bad) Q:=s;by_cases z:ns.length<4000
     .rw[Xx z]at s;exact(a,ns,rfl,SqL.of h,z,λq d=>(q,_,_,rfl,bE,s _ I U1 _ [] (e.new d) (Gw.newO e d) New.nil (show Dn Y _ (.int _) _ by rw[Dn])))
     .rw[Xy z]at s;exact s.elim
 |_=>exact s.elim
def RN:D->Option (Int×Int×L Int)
 |.tup [.int a,.int b,.lst xs]=>(dJ xs).map λns=>(a,b,ns)
 |_=>G
def FP(h:RN x=J (a,b,ns)):∃xs,x=.tup [.int a,.int b,.lst xs]/\dJ xs=J ns:=by
 unfold RN at h;split at h
 .let(M,e,c):=X9.mp h;cases c;exact(_,rfl,e)
 .cases h
def qo{ns:L Int}(e:RN x=J (a,b,ns))(c:Dn Y H x v):∃p l,v=.ref p/\SqT K H p [.int a,.int b,.ref l]/\SqL K H l (ns.map V.int):=by
 let(xs,rfl,o):=FP e;rw[Dn]at c;let(p,ys,rfl,n,i):=c;rw[Dns]at i;let(t,y,rfl,N,h):=i;rw[Dns]at h;let(s,w,rfl,k,g):=h;rw[Dns]at g;let(r,u,rfl,j,f):=g;rw[Dns]at f;rw[Dn]at N;rw[Dn]at k;rw[Dn]at j;let(l,q,rfl,d,m):=j;subst N k f;rw[jd o m]at d;exact(p,l,rfl,SqT.of n,SqL.of d)
def BF(x y:D):Res D:=match toPy x,toPy y with
 |some p,J (.list xs)=>if SeqAt.shaped p=true/\SeqAt.shaped (.list xs)=true/\(xs.all λz=>SeqAt.noMix z p)=true then .ok (.bl (!decide (countIn p xs≠0))) else .bad
 |_,_=>.bad
def HP(K:L0):R2:=λx y H Q=>∃d xs,L2.Den K H d x/\L2.Den K H (.list xs) y/\SeqAt.shaped d=true/\SeqAt.shaped (.list xs)=true/\(∀z∈xs,SeqAt.noMix z d=true)/\Q (.bl (!decide (countIn d xs≠0))) H
def P0:S2 Y (HP Y.K) BF:=by
 intro H x y v u b a;ext BF;cases d:toPy x with
 |none=>trivial
 |some p=>
   cases c:toPy y with
   |none=>trivial
   |some q=>
     cases q with
     |list xs=>
       dsimp only;by_cases z:SeqAt.shaped p=true/\SeqAt.shaped (.list xs)=true/\(xs.all λz=>SeqAt.noMix z p)=true
       .rw[Xx z];exact(.bl _,λ_=>by rw[Dn],λQ h=>(p,xs,den_of d b,den_of c a,z.1,z.2.1,λy a=>YN.mp z.2.2 y a,h))
       .rw[Xy z];trivial
     |_=>trivial
def FB{X:Cx}(j:X.A.units+65<cLine):rG X (compareOp .NotIn) (HP X.K):=by
 intro a s Z H x y v u Q I f e h;let(d,xs,hd,k,c,b,nm,q):=h;let(l,i):=den_reads I d hd f;let(bs,g):=den_reads I _ k e;exact PyProof.Rows.notIn_list_dataH g i b c j nm (.bl _,H,I,rfl,q)
def RU{A:Around}(a:Room k A):A.units+65<cLine:=by have:=a.un;omega
end
end Mi
namespace Mi
open PySem L2
def nv:L Ap->L Md->Bool
 |[],[]=>true
 |p::ps,m::r=>xB [] true p m&&nv ps r
 |_,_=>false
theorem iW:∀{ps:L Ap} {mc:L Md},nv ps mc=true->ps.length=mc.length
 |[],[],_=>rfl
 |[],_::_,h=>by cases h
 |_::_,[],h=>by cases h
 | p::ps,m::r,h=>by
   have h:(xB [] true p m&&nv ps r)=true:=h;rw[Zd]at h;rw[XD,XD,iW h.2]
theorem iX:∀{ps:L Ap} {mc:L Md},nv ps mc=true->∀(j:Nat) p,ps[j]?=J p->xB M true p (mc.getD j .F)=true
 |[],_,_,_,_,e=>by cases e
 |_::_,[],h,_,_,_=>by cases h
 | p::ps,m::r,h,j,q,e=>by
   have h:(xB [] true p m&&nv ps r)=true:=h;rw[Zd]at h;cases j with
   |zero=>
     cases e
     have:=h.1
     cases p <;> cases m <;> first | exact this | cases this
   |succ j=>rw[Zw];exact iX h.2 j q (by simpa using e)
def pc(b:L D->Out D)(a:LK->Res (L D)):LK->Res D:=λT=>(a T).bind (mL b)
def pm(c:Nat)(b:Str)(d:L D->Out D)(o:LK->Res D)(a:LK->Res (L D)):LK->Res D:=λT=>(o T).bind λo=>if fA c b o=true then (a T).bind λds=>mL d (o::ds) else .bad
def pk(c:Nat)(b:L D->Out D)(a:LK->Res (L D)):LK->Res D:=λT=>(a T).bind (nu c b)
def mc(ps:L Ap)(b:L D->Out D)(a:LK->Res (L D)):LK->Out D:=λT=>((a T).up T).bind (iG ps b)
def mm(c:Nat)(b:Str)(ps:L Ap)(d:L D->Out D)(o:LK->Res D)(a:LK->Res (L D)):LK->Out D:=λT=>((o T).up T).bind λo T=>if fA c b o=true then ((a T).up T).bind λds T=>iG ps d (o::ds) T else .bad
section
variable{Y:Cm}{Kr:KT D V}{pr:Nat->Bool}{M:L Md}{K:L0}
theorem jP:KR Y .F .non .non B U H N:=show Dn Y B .non .non by rw[Dn]
end
theorem qw:∀ns:L Int,Dns Y Cv (ns.map D.int) (ns.map V.int)
 |[]=>by rw[YA,YA,Dns]
 | n::r=>by
   rw[Xz,Xz,Dns];exact(_,_,rfl,by rw[Dn],qw r)
def RH{Y:Cm}{b:L D->Out D}(h:∀ns:L Int,ns.length<=63->∃T,b [.scr (ns.map D.int)]=.ok (.bl true) T){H:Hp}{Q:VK}{ns:L Int}(c:vs=[.ref a])(f:SqF Y.K H a (ns.map V.int))(j:ns.length<=63)(d:∀p∈Y.tb,∃l,H p.1=J (.tbl l)/\p.2∈l)(g:∀H',Q (.bl true) H'):
 gy Y [.R] (KR Y .F) b vs H Q E0:=by
 subst c;let(T,e):=h ns j;refine(H,H,λ_=>[],[.scr (ns.map D.int)],(Same.refl _,Same.refl _,λ_=>YF,λ_ _ _ _ z=>(nomatch z),λ_ _ z=>(nomatch z),λi=>?_,rfl,d),rfl,?_)
 · rw[gS,gS];cases i with
   |zero=>exact(.ref a,rfl,by show Dn Y H (.scr _) _;rw[Dn];exact(a,_,rfl,f,qw ns),rfl)
   |succ i=>exact rfl
 .rw[e];intro v S B1 Cv H' N o n m k;have k:Dn Y S (.bl true) v:=k;rw[Dn]at k;rw[k];exact g H'
def Pu{K:L0}(o:Lx T H)(h:SqL K H a xs):SqF K H a xs:=by
 rcases h with (h|h)|h
 · rcases o.2 a with z|⟨ob,ys,z⟩|z
   .rw[z]at h;cases h
   .rw[z]at h;cases h
   .rw[z]at h;cases h
 .exact .inl h
 .exact .inr h
theorem Tr{H:Hp}(o:Lx T H):∀p∈T,∃l,H p.1=J (.tbl l)/\p.2∈l:=λp hp=>(_,o.1 p hp,Tbs.mem.mpr hp)
def yE(m:LK->Res D):LK->Res D:=λT=>(m T).bind λd=>if c9 d=true then .ok d else .bad
section
variable{Y:Cm}{E:XK}{M:L Md}
def m7(d:PJ Y (KR Y .F) E M ta a):PJ Y (KI Y .F .U) E M (zQ Y.K ta) (i3 a):=by
 intro B U I0 Z H T Q R P;refine Nn d B U I0 Z H T Q R ?_;cases e:i3 a T with
 |ok ds=>
   rw[e]at P;intro B1 I U1 H1 N b g n ⟨vs,f,hd⟩;exact P B1 I U1 H1 N b g n (vs,λh s=>f h (b.bu.trans s),hd)
 |exc c=>rw[e]at P;exact P
 |bad=>rw[e]at P;exact P
end
end Mi
namespace L2
open PySem PySem.Spec PyProof.Rows
section
variable{X:Cx}(K:L0)
def bL(h:X.K=K):Tl X (Qr K):=by subst h;exact Nh
def jF(h:X.K=K):Tl X (Qq K):=by subst h;exact RP
def aZ(h:X.K=K):fP X (.builtin "len") (λxs H Q=>∃p ys,xs=[.ref p]/\(SqL K H p ys\/SqT K H p ys)/\Q (.int ys.length) H):=by subst h;exact yw
def nD(h:X.K=K):fP X (.type "list") (λxs H Q=>∃p ys,xs=[.ref p]/\(SqL K H p ys\/SqT K H p ys)/\∀l,H l=G->Q (.ref l) (upd H l (.lst ys))):=by subst h;exact yu
def mJ(h:X.K=K):fP X (.type "tuple") (λxs H Q=>∃p ys,xs=[.ref p]/\((SqL K H p ys/\∀l,H l=G->Q (.ref l) (upd H l (.tup ys)))\/(SqT K H p ys/\Q (.ref p) H))):=by subst h;exact u3
def Cz(h:X.K=K)(a:X.calm=true):fP X (.type "set") (λxs H Q=>∃p ns,xs=[.ref p]/\SqL K H p (ns.map V.int)/\ns.length<4000/\∀q,H q=G->Q (.ref q) (upd H q (.set (λk=>(dd ns).any (·==k)) (dd ns).length))):=by subst h;exact Ge a
def CA(h:X.K=K)(b:X.calm=true):qD X (.builtin "min") ["default"] (λxs a H Q=>∃p ns d,xs=[.ref p]/\a=[d]/\SqL K H p (ns.map V.int)/\(ns=[]->Q d H)/\∀m∈ns,(∀x∈ns,m<=x)->Q (.int m) H):=by subst h;exact Gj b
def CB(h:X.K=K)(b:X.calm=true):qD X (.builtin "max") ["default"] (λxs a H Q=>∃p ns d,xs=[.ref p]/\a=[d]/\SqL K H p (ns.map V.int)/\(ns=[]->Q d H)/\∀m∈ns,(∀x∈ns,x<=m)->Q (.int m) H):=by subst h;exact Gk b
def MN(h:X.K=K)(a:X.A.units+64<cLine):rG X (compareOp .Eq) (Qs K false):=by subst h;exact QI a
def Bz(h:X.K=K)(a:X.A.units+65<cLine):rG X (compareOp .NotIn) (Mi.HP K):=by subst h;exact Mi.FB a
def d9{e:Expr}{ta:TE}{f:Str}{pos:Pos}(h:X.K=K)(a:PE X e ta)(b:attributeBase e f X.env (eval e X.env)=eval e X.env):PE X (.Attribute e f pos) (Fd K ta f):=by subst h;exact Qy a b
def cj{b l:Expr}{a:TE}(h:X.K=K)(c:PE X l a):PI X b l (zQ K a):=by subst h;exact MF c
end
end L2
namespace Mi
open PySem L2
def spT(K:L0)(T:Tbs):Sp:=λvs H Q _=>∃(a:Addr) (ns:L Int),vs=[.ref a]/\SqF K H a (ns.map V.int)/\ns.length<=63/\(∀p∈T,∃l,H p.1=J (.tbl l)/\p.2∈l)/\∀H',Q (.bl true) H'
def lu:L D->Option (L Bool)
 |[]=>J []
 |.bl b::r=>(lu r).map (b::·)
 |_::_=>G
def yz:D->Res D
 |.lst ds=>(match lu ds with|some bs=>.ok (.bl (bs.any id))|none=>.bad)
 |_=>.bad
section
variable{Y:Cm}{E:XK}{M:L Md}{K:L0}
theorem rE:∀{ds:L D} {bs:L Bool} {xs:L V},lu ds=J bs->Dns Y Cv ds xs->xs=bs.map V.bl
 |[],ns,xs,e,h=>by rw[Dns]at h;cases e;rw[h];rfl
 | d::ds,ns,xs,e,h=>by
   rw[Dns]at h;let(x,r,rfl,a,b):=h;cases d with
   |bl i=>
     rw[lu]at e;let(M,c,rfl):=X9.mp e;rw[Dn]at a;rw[rE c b,a,Xz]
   |_=>cases e
def Ua:S1 Y (λv H Q=>∃p,∃bs:L Bool,[v]=[.ref p]/\SqL K H p (bs.map V.bl)/\Q (.bl (bs.any id)) H) yz:=by
 intro H x v c;cases x with
 |lst ds=>
   rw[Dn]at c;let(a,xs,rfl,f,d):=c;cases e:lu ds with
   |none=>
     have b:yz (.lst ds)=.bad:=by simp only[yz,e]
     rw[b];trivial
   |some bs=>
     have b:yz (.lst ds)=.ok (.bl (bs.any id)):=by simp only[yz,e]
     rw[b];have ex:=rE e d;subst ex;exact(.bl _,λ_=>by rw[Dn],λQ q=>(a,bs,rfl,SqL.of f,q))
 |_=>trivial
end
section
variable{Y:Cm}{E:XK}{M:L Md}
theorem fF(i:Nat)(a:M.getD i .F= .F:=by rfl):PJ Y (KR Y .F) E M (iu i) (vr i):=xF a
theorem fR(i:Nat)(a:M.getD i .F= .R:=by rfl):PJ Y (KR Y .U) E M (iu i) (vr i):=xR a
theorem fO(i:Nat)(a:M.getD i .F= .O sh:=by rfl):PJ Y (KR Y .X) E M (iu i) (vr i):=xO a
theorem fC(i:Nat)(a:M.getD i .F= .O (.ct .fz):=by rfl):PJ Y (KC Y .F) E M (iu i) (vr i):=xC a
end
end Mi
namespace L2
open PySem PySem.Spec PyProof.Rows
section
variable{X:Cx}(K:L0)
def Gh(h:X.K=K)(a:X.calm=true):fP X (.builtin "any") (λxs H Q=>∃p,∃bs:L Bool,xs=[.ref p]/\SqL K H p (bs.map V.bl)/\Q (.bl (bs.any id)) H):=by subst h;exact Gi a
end
end L2
namespace Gd
open PySem L2
def SU:bootBuiltins "any" = J (.builtin "any"):=by decide +kernel
end Gd
namespace L2
open PySem
def Vo{P:L Value->Prop}(h:P []):∀us:L Value,us.length=0->P us:=by
 intro us a;rw[YY.mp a];exact h
def ie{P:L Value->Prop}(h:∀a0:Value,P [a0]):∀us:L Value,us.length=1->P us:=by
 intro us b;cases us with
 |nil=>cases b
 |cons a us=>exact Vo (P:=λus=>P (a::us)) (h a) us (Ad3 b)
def ke{P:L Value->Prop}(h:∀a0 c:Value,P [a0,c]):∀us:L Value,us.length=2->P us:=by
 intro us b;cases us with
 |nil=>cases b
 |cons a us=>exact ie (P:=λus=>P (a::us)) (h a) us (Ad3 b)
def oU{P:L Value->Prop}(h:∀a0 d c:Value,P [a0,d,c]):∀us:L Value,us.length=3->P us:=by
 intro us b;cases us with
 |nil=>cases b
 |cons a us=>exact ke (P:=λus=>P (a::us)) (h a) us (Ad3 b)
def JF{P:L Value->Prop}(h:∀a0 e d c:Value,P [a0,e,d,c]):∀us:L Value,us.length=4->P us:=by
 intro us b;cases us with
 |nil=>cases b
 |cons a us=>exact oU (P:=λus=>P (a::us)) (h a) us (Ad3 b)
end L2
namespace L2
open PySem PySem.Spec PyProof.Rows
section
variable{P:Program}{w:World}{H H':Hp}{h h':Heap}{a:Addr}{o:HO}
def ObjOk.ex(x:ObjOk P w H h a o):∃u,h.get? a=J u:=by
 cases o with
 |lst xs=>let(_,_,_,_,e):=x;exact(_,e)
 |tup xs=>let(_,_,_,_,e,_):=x;exact(_,e)
 |dK b=>let(_,_,_,_,o,_,_,e,_):=x;exact(_,e)
 |dT b=>let(_,_,_,_,o,_,_,e,_):=x;exact(_,e)
 |set S n=>let(o,_,_,_,e,_):=x;exact(_,e)
 |ins C dx fs=>let(_,_,_,e,_):=x;exact(_,e)
 |own y=>let(_,e):=x;exact(_,e)
 |xd fs=>let(_,(_,_,_,e,_),_):=x;exact(_,e)
 |rng lo hi=>let(_,_,_,e):=x;exact(_,e)
 |frz ob u=>let(e,_):=x;exact(_,e)
 |tbl l=>let(_,_,e,_):=x;exact(_,e)
 |met f y=>exact(_,show h.get? a=J _ from x)
 |ext c=>let(_,(_,e),_):=x;exact(_,e)
def HOk.none(x:HOk P w H h)(e:h.get? a=Option.none):H a=Option.none:=by
 cases q:H a with
 |none=>rfl
 |some u=>let(v,r):=(x a u q).ex;rw[e]at r;cases r
theorem HOk.hide(x:HOk P w H h)(d:∀b∈l,H b=Option.none):HOk P w H (PySem.W.hideAll h l):=λa o e=>
 (x a o e).stay (λb u c q=>YC l q λz=>by
   have n:=d b z;rcases c with rfl|c
   .rw[n]at e;cases e
   .rw[n]at c;cases c) (λ_ q=>q) λ_ _ q=>q
end
def u7(P:Program)(w:World):AY:=λouter H s E e s'=>∃(a C:Addr) (a0:Value) (B:Heap) (H':Hp),e=.ref a/\s'.os=s.os/\AllBare s'.gens/\Un (gj outer) (gj outer) H H' s.heap B/\HOk P w H' B/\
 Heap.FlyingW B outer a (.ref C) a0 s'.heap/\(∀b∈gj outer,∀o,s.heap.get? b=J o->∃sl,s'.heap.get? b=J {o with slots:=sl})/\(∀b∈gj outer,H' b=G)/\E (.ref C) G H'
def Un.cut{h0:Heap}(a:Un fs [] j H h0 h)(b:Un (l::fs) (l::fs) H H' h B)(n:h0.get? l=G):Un fs fs j H' h0 B:=by
 have ne:∀c o,h0.get? c=J o->c∉fs->c∉l::fs:=λc o q e z=>by
  rcases XC.mp z with rfl|z
  .rw[n]at q;cases q
  .exact e z
 refine(λc o q f e _=>b.keep c o (a.keep c o q f e ()) (a.free c o q f ()) (ne c o q e) (ne c o q e),λc o q f e g=>absurd e g,λc o q f g=>?_,λc o q g=>?_,λc xs q=>b.tups c xs (a.tups c xs q),λc o u q=>b.frzs c o u (a.frzs c o u q),
  λc xs q=>((b.tbls c xs (a.tbls c xs q).1).1,λd o i p=>let (m,k):=(a.tbls c xs q).2 d o i p;(b.tbls c xs (a.tbls c xs q).1).2 d o m k))
 .let(o',i):=a.there c o q ();exact b.free c o' i (a.free c o q f ()) (ne c o q g)
 .let(o',i):=a.there c o q ();exact b.there c o' i (ne c o q g)
theorem Un.hide{H:Hp}(hok:HOk P w H h)(n:∀b∈fs,H b=G):Un fs fs H H h (PySem.W.hideAll h fs):=
 (λc o q f e _=>YC fs q e,λc o q f e a=>absurd e a,λc o q f a=>f,λc o q a=>(o,YC fs q a),λ_ _ q=>q,λ_ _ _ q=>q,
  λc xs q=>(q,λd o g i=>(g,YC fs i λz=>by rw[n d z]at g;cases g)))
theorem Un.fly{H':Hp}{h B h':Heap}(u:Un fs fs H H' h B)(st:B.StaysIn h')(sl:∀b∈fs,∀o,h.get? b=J o->∃sl,h'.get? b=J {o with slots:=sl})(fr:∀b∈fs,H' b=G):Un fs [] H H' h h':=
 (λc o q f a _=>st _ _ (u.keep c o q f a a),λc o q f a _=>sl c a o q,λc o q f _=>by
  by_cases z:c∈fs
  .exact fr c z
  .exact u.free c o q f z,λc o q _=>by
  by_cases z:c∈fs
  .let(x,e):=sl c z o q;exact(_,e)
  .let(o',e):=u.there c o q z;exact(_,st _ _ e),u.tups,u.frzs,λc xs q=>((u.tbls c xs q).1,λd o k j=>let (i,g):=(u.tbls c xs q).2 d o k j;(i,st _ _ g)))
structure Own (X:Cx) (E:XK):Prop where
 xe:X.xe=λe s'=>j1 X («leaving» X.env e) (λ_ s''=>u7 X.prog X.w X.outer X.H₀ X.s₀ E e s'') (λe' s''=>u7 X.prog X.w X.outer X.H₀ X.s₀ E e' s'')  s'
 ex:X.ex=[]
 stk:X.stack=X.env::X.outer
 fr:X.env.frame=J X.env.locals
theorem By{K:L0}:
 Own (mo (u7 P w) P w K mg base N qual scope f cd A outer s H E) E:=(rfl,rfl,rfl,rfl)
def dX{env:Env}(h:env.frame=J I0):gj (env::l)=I0::gj l:=by
 ext gj;rw[List.filterMap_cons,h]
def dQ{h h':Heap}{o:Obj}(u:h.UpToSlots h')(fl:h.FunFrames base l)(d:b∈gj l)(e:h.get? b=J o):∃sl,h'.get? b=J {o with slots:=sl}:=by
 let(_,o',a,c):=fl.mem d;rw[e]at a;cases a;exact u b o e c
section
variable{X:Cx}{E:XK}{pins:L1}{Z:St}{H:Hp}{s:Shared}
theorem Inv.above(I:Inv X pins Z H s):X.s₀.heap.get? X.env.locals=none:=Zm I.ok.above
def Own.passes(O:Own X E):gd (u7 X.prog X.w) X E:=by
 intro pins Z H s e s' I h;let(g,C,a0,B,H',rfl,os,bare,un,hok,fl,sl,fr,q):=h;rw[O.xe];rw[O.stk]at un fl sl fr;rw[dX O.fr]at un sl fr;have m:=fl.2.2.1;refine wpAny_leaves_onW (by rw[<-O.stk];exact I.ok.frames) O.fr fl λh' c up=>?_;have d:Un (gj X.outer) [] X.H₀ H X.s₀.heap s.heap:=by have:=I.base;rw[O.ex]at this;exact this
 refine(g,C,a0,B,H',rfl,os.trans I.os,bare,d.cut un I.above,hok,c,λb a o e=>?_,λb a=>fr b (on _ a),q);let(l,k):=d.slot b o e (I.ok.frf b a) a ();let(l2,j):=sl b (on _ a) _ k;let(f,i):=dQ up fl.2.2.1.2.2 a j;exact(f,i)
def Own.own(O:Own X E):PassesOwn (model X.prog X.w) X.A X.env X.xe:=by
 rw[O.xe];exact PassesOwn.leaving
end
def jb(K:L0)(C:Addr):L Value:=match K.lookup C with
 |some (_,_,.cls cd,_)=>cd.mro
 |_=>[]
abbrev vBm:L Value:=[.type "ValueError",.type "Exception",.type "BaseException",.type "object"]
def gC(K:L0)(C:Addr):Bool:=PySem.W.excIn K C vBm "ValueError.__new__"
def kR{K:L0}{h:Heap}(X:K.In h)(q:gC K C=true):∃(bm:L Value) (N:Addr) (nm c:Str) (bs:L Value) (hdct:Bool) (sn:L Str) (sub:L Value) (ab:Bool) (col:Option Bool) (dd:Option Addr) (k0 k1 k2 k3 k5:Option Value) (mN:Str->Option Value),
 h.get? C=J (excClassObj nm c C N bs bm hdct sn sub ab col dd k0 k1 k2 k3 k5 "ValueError.__new__")/\h.Ns N mN/\mN "__init__" = G/\OwnTail h vBm bm/\jb K C=.ref C::bm:=by
 unfold gC PySem.W.excIn at q;split at q
 · rename_i dd cd sl i;split at q
   · rename_i j bm k0 k1 k2 k3 n k5 f g;simp only[Bool.and_eq_true,beq_iff_eq,Bool.not_eq_true']at q;let(((((rfl,rfl),a),m),hok),b):=q;have e:jb K j=.ref j::bm:=by ext jb;rw[i];exact f
     let(nm,bs,k,ns,c,hd,sn,sub,ab,col,o):=cd;dsimp only at f a hok b;subst f a
     have d:sl=#[k0,k1,k2,k3,J (.builtin "ValueError.__new__"),k5]:=by
      obtain⟨l⟩:=sl;simp only at g;rw[g]
     subst d;exact(bm,ns,nm,c,bs,hd,sn,sub,ab,col,dd,k0,k1,k2,k3,k5,_,X _ _ i,.of_isNs (PySem.W.isNs_of_in X hok),PySem.W.nsMap_none_of_in X hok b,PySem.W.tail_of_in X m,e)
   .cases q
 .cases q
section
variable{X:Cx}{E:XK}{x:Str}{C:Addr}{np cpos pos:Pos}{e₀:Expr}{t:TA}
def GH(E:XK)(C:Addr)(t:TA):TS:=λ_ Z H=>t Z H λvs H'=>vs.length<=1000/\E (.ref C) G H'
end
def PSf(X:Cx)(a:L1)(Z:St)(st:L Stmt)(t:TS):Prop:=∀(s:Shared) (H:Hp) (D:Ends),Inv X a Z H s->t D Z H->j1 X (execs st X.env) (SP X a D) X.xe s
def PEf(X:Cx)(a:L1)(Z:St)(e:Expr)(t:TE):Prop:=∀(s:Shared) (H:Hp) (Q:VK),Inv X a Z H s->t Z H Q->j1 X (eval e X.env) (EP X a Z Q) X.xe s
def Pf(CX:AY)(X:Cx)(a:L1)(Z:St)(E:XK):Prop:=∀(H:Hp) (s:Shared) (e:Value) (s':Shared),Inv X a Z H s->CX X.stack H s E e s'->X.xe e s'
def TB(X:Cx)(st:L Stmt)(tb:XK->TS):Prop:=∀(q:L3) (a:L1) (Z:St) (E:XK),Pf (u7 X.prog X.w) (X.wish q) a Z E->PSf (X.wish q) a Z st (tb E)
def TBe(X:Cx)(e:Expr)(te:XK->TE):Prop:=∀(q:L3) (a:L1) (Z:St) (E:XK),Pf (u7 X.prog X.w) (X.wish q) a Z E->PEf (X.wish q) a Z e (te E)
section
variable{X:Cx}{q:L3}
theorem PA.wish(h:PA X.nox es t):PA (X.wish q) es t:=λpos a s Z H Q I b=>
 YO (h pos a s Z H Q (I.unwish.wish _) b) (λ_ _ (v,H',c,r,z)=>(v,H',c.unwish.wish _,r,z)) λ_ _ z=>False.elim z
end
section
variable{X:Cx}{CX:AY}{k:Nat}{f C:Addr}{fd:FuncData}{ps:L Str}{sp:Sp}{dvs:L V}{ds:L Value}{E:XK}{x m:Str}{p pos apos:Pos}{e o:Expr}{es:L Expr}{ta:TE}{t:TA}
def Mu(F:FnOk X.prog X.w X.K X.mg X.base CX k f fd ps sp)(g:Room k X.A)(j:Binds X.K fd ps ds)(hd:Vals dvs ds)(d:Pf CX X a Z E)
 (I:Inv X a Z H s) (r:Vals vs us) (h:sp (vs++dvs) H Q E):j1 X (call (.ref f) us) (EP X a Z Q) X.xe s:=by
 have c:Vals (vs++dvs) (us++ds):=r.append hd;have i:(us++ds).length=ps.length:=by rw[<-c.length];exact F.len _ _ _ _ h
 refine wpAny_call (ZH (F.run X.A X.stack s H (us,[]) (us++ds) (vs++dvs) Q E g I.env0 (j s us I.kIn i) c h) λr s' b=>?_);cases r with
 |error e=>exact d H s e s' I b
 |ok fl=>
   cases fl with
   |ret u=>exact I.after b
   |next=>exact False.elim b
   |brk=>exact False.elim b
   |cont=>exact False.elim b
def LZ(F:FnOk X.prog X.w X.K X.mg X.base (u7 X.prog X.w) k f fd ps sp)(i:Room k X.A)(m:Gl X x)(j:X.mg x=J (.ref f))(l:PySem.W.keepIn X.K (.ref f)=true)(o:Binds X.K fd ps ds)(hd:Vals dvs ds)
 (u:PA X.nox (e::es) t) (c:(x==("__debug__" : Str))=false:=by decide) (n:starEach (e::es) X.env=(false,eval e X.env)::starEach es X.env:=by rfl) (b:(backTo pos (starEach es X.env)).any (·.1)=false:=by rfl):
 TBe X (.Call (.Name x p) (e::es) [] pos) (λE=>sm sp dvs E t):=by
 intro q a Z E g s H Q I h;refine Y2 (jD (X:=X.wish q) I m j ?_ c);refine ZA (h₀:=X.base) I.ok.mod.kin l (cf (PA.wish (q:=q) u pos a s Z H _ I h) λus v (vs,H1,d,r,q)=>(d.kIn,?_)) n b;exact Mu F i o hd g d r q
def LY{te:XK->TE}(f:TBe X e te)(d:swapsWith e G pos.line X.env=pure false:=by rfl):TB X [.Expr e pos] (λE=>CO (te E)):=by
 intro q a Z E c s H D I h;refine ZQ ?_;exact wpAny_Expr_any (cf (f q a Z E c s H _ I h) λv i (x,H1,g,j,b)=>Y6 (Z,H1,g,b)) I.quiet d
end
abbrev Cx.hand(X:Cx)(a:Addr)(oe:Obj):Cx:={X with A:=X.A.mark (J (.ref a)),calm:=false,pn:=(a,oe)::X.pn,xe:=λ_ _=>False}
section
variable{X:Cx}{pins:L1}{Z:St}{H:Hp}{s:Shared}{ea:Addr}{oe:Obj}
theorem Cx.Ok.hand(ok:X.Ok):(X.hand ea oe).Ok:=(ok.mod,ok.kind,ok.glob,ok.blt,ok.above,ok.inj,ok.has,ok.cab,λz=>(nomatch z),ok.frames,ok.stk,ok.exf,ok.bs,ok.bsz,ok.noex,ok.exfs,ok.funs,ok.frf)
def Inv.hand(I:Inv X pins Z H s)(c:s.heap.get? ea=J oe)(e:H ea=G)(hd:oe.data=.fields vs):Inv (X.hand ea oe) pins Z H s:=by
 refine(I.ok.hand,I.os,I.bare,I.base,I.loc,I.cell,I.free,I.freeC,λp hp=>?_,I.hok,I.len);rcases XC.mp (show p∈(ea,oe)::(X.pn++pins) from hp) with rfl|hp
 · refine(c,e,λz=>?_,λz=>?_,λv z=>by rw[hd]at z;cases z)
   .let(m,(o,es,ep,a,b,_),_):=I.loc;replace z:ea=X.env.locals:=z;rw[z,a]at c;cases c;rw[hd]at b;cases b
   .let(_,o,a,d):=I.funs.mem z;replace a:s.heap.get? ea=J o:=a;rw[c]at a;cases a;exact d _ hd
 .exact I.pin p hp
theorem Inv.unhand(I:Inv (X.hand ea oe) pins Z H s)(ok:X.Ok):Inv X pins Z H s:=
 (ok,I.os,I.bare,I.base,I.loc,I.cell,I.free,I.freeC,λp hp=>I.pin p (on _ hp),I.hok,I.len)
theorem Inv.exc(I:Inv (X.hand ea oe) pins Z H s):s.heap.get? ea=J oe:=(I.pin (ea,oe) Xw).1
theorem Inv.fly{s':Shared}{B:Heap}{H':Hp}(I:Inv X pins Z H s)(un:Un (gj X.stack) (gj X.stack) H H' s.heap B)(hok:HOk X.prog X.w H' B)(st:B.StaysIn s'.heap)
 (sl:∀b∈gj X.stack,∀o,s.heap.get? b=J o->∃sl,s'.heap.get? b=J {o with slots:=sl}) (fr:∀b∈gj X.stack,H' b=G) (os:s'.os=s.os) (bare:AllBare s'.gens):Inv X pins Z H' s':=
 I.call' os (un.fly st sl fr) (hok.kept st) bare λb z=>absurd z ()
def rW{Q:Unit->Shared->Prop}(I:Inv X pins Z H s)(W:X.N.Nodup)(K:X.N[j]?=J n)(V:X.env.kindOf n=J .local)
 (h:∀s',Inv X pins (Z.set j G) H s'->Q j2 s'):wpAny M A (do bindName X.env n .none;unbindBehindTheSuite X.env n pos) Q E s:=by
 let(m,T,U):=id I.loc;have C:(X.env.scope.kind == .class||(X.env.scope.kind == .module&&X.env.locals != X.env.globals))=false:=by rw[I.ok.kind];rfl
 have B:j<Z.length:=by rw[I.len];exact(XZ.mp K).1
 have cne:=I.cne;refine wpAny_nameGoes_keeps V T C λh' v F g=>?_
 have a:HOk X.prog X.w H h':=λb ob e=>by
  refine(I.hok b ob e).stay (λc B1 D q=>(g.2 c ?_).trans q) (λ_ q=>q) λ_ _ q=>q;rintro rfl;have f:=I.free;rcases D with rfl|D
  .rw[f]at e;cases e
  .rw[f]at D;cases D
 refine h _ (I.ok,I.os,I.bare,(λb o e n Cv x=>?_,λb o e n Cv x=>?_,I.base.free,λb o e x=>?_,I.base.tups,I.base.frzs,λb l q=>((I.base.tbls b l q).1,λc o r u=>let (I0,Y):=(I.base.tbls b l q).2 c o r u;(I0,(g.2 c (bD I0 I.free)).trans Y))),(_,F,λi y O r u e3=>?_),λy c e=>?_,I.free,I.freeC,λp hp=>?_,a,by simpa using I.len)
 .exact(g.2 b (X4 (X0 (XI e) I.ok.above))).trans (I.base.keep b o e n Cv x)
 .let(sl,r):=I.base.slot b o e n Cv x;exact(sl,(g.2 b (X4 (X0 (XI e) I.ok.above))).trans r)
 .let(o',r):=I.base.there b o e x;exact(o',(g.2 b (X4 (X0 (XI e) I.ok.above))).trans r)
 · by_cases t:i=j
   .subst t;rw[Y1 B]at u;cases u
   · rw[Zn (YS t)]at u;let(P,R,q):=U i y O r u e3;refine(P,R,?_);rcases q with ⟨k,e⟩|⟨k,c,e,z⟩
     · refine .inl (k,?_)
       have:y≠n:=λe=>t (sX W r (e▸K))
       simp[this,e]
     .exact .inr (k,c,e,z.sameBut g (cne y c e))
 .let(B1,z):=I.cell y c e;exact(B1,z.sameBut g (cne y c e))
 .let(e,n,ne,S,d):=I.pin p hp;exact((g.2 p.1 ne).trans e,n,ne,S,d)
end
def mf{M:Model}{A:Around}{E:L3}{K:L0}{C Cv:Addr}{h:Heap}{g:Array GenState}{d:Drawn}{t:Nat}{os:OsState}{e:Addr}{oe:Obj}{Q:Bool->Shared->Prop}
 (X:K.In h) (kC:gC K C=true) (u:gC K Cv=true) (w:h.get? e=J oe) (a:oe.cls=.ref C) (k:(jb K C).contains (.ref Cv)=true)
 (v:Q true (h,g,d,t,os)):wpAny M A (excMatches (.ref e) (.ref Cv)) Q E (h,g,d,t,os):=by
 let(bm,N,nm,B,bs,hdct,sn,sub,ab,col,dd,k0,k1,k2,k3,k5,mN,m,_,_,P,s):=kR X kC;let(i,R,q,p,y,b,o,j,z,n,x,O,I0,B1,I,H,r,l,_,_,TG,D):=kR X u;rw[s]at k;have c:(Value.ref Cv::i).contains (.type "BaseException")=true:=by rw[Aa9,TG.hasType PySem.F.excBase_ValueError.hasBase,Bool.or_true]
 have f:=tc_notTuple;ext excMatches
 repeat (first | (with_reducible refine YH w ?_;rw[a]) | with_reducible refine YH l ?_ | with_reducible refine YH m ?_ | (with_reducible refine Zb l ?_;rw[c]) | (with_reducible refine Zb m ?_;rw[k]) | wp_step)
 exact v
section
variable{X:Cx}{st:L Stmt}{tb:XK->TS}{x n:Str}{Cv:Addr}{j:Nat}{np hp pos:Pos}{b₀:Stmt}{suite:L Stmt}{th:Addr->Addr->TS}{ok:Addr->Prop}
def tH(K:L0)(Cv:Addr)(ok:Addr->Prop)(g:Addr->Addr->Hp->Prop):XK:=λb _ H'=>∃C,b=.ref C/\gC K C=true/\(jb K C).contains (.ref Cv)=true/\ok C/\∀a,H' a=G->g a C H'
def GG(K:L0)(Cv:Addr)(ok:Addr->Prop)(j:Nat)(tb:XK->TS)(th:Addr->Addr->TS):TS:=λD Z H=>
 tb (tH K Cv ok λb C H'=>th b C {nx:=λa H1=>D.nx (a.set j G) H1,rt:=D.rt,bk:=λa H1=>D.bk (a.set j G) H1,ct:=λa H1=>D.ct (a.set j G) H1} (Z.set j (J (.ref b))) H') D Z H
def HY(f:X.stack=X.env::X.outer)(hfr:X.env.frame=J X.env.locals)(O:TB X st tb)(hg:Gl X x)(hm:X.mg x=J (.ref Cv))(hG:gC X.K Cv=true)(P:X.N.Nodup)(I0:X.N[j]?=J n)
 (T:X.env.kindOf n=J .local) (hx:LQ X.env.scope n) (hs:∀c oe C,oe.cls=.ref C->ok C->Gn (X.hand c oe) (b₀::suite) (th c C)) (hd:(x==("__debug__" : Str))=false:=by decide)
 (hf:X.fn n=true\/X.env.scope.names.lookup n=J .local:=by first | exact .inl rfl | exact .inr rfl | assumption):
 PS X (.Try st [.ExceptHandler (J (.Name x np)) (J n) (b₀::suite) hp] [] [] pos) (GG X.K Cv ok j tb th):=by
 intro a s Z H D I h;refine wpAny_Try_except ?_;refine YO (O (λe y=>j1 X (noteFrame e X.env) (λ_ t=>j1 X (setFlight e G) (λ_ p=>j1 X (handleBy e X.env [.ExceptHandler (J (.Name x np)) (J n) (b₀::suite) hp]) (SP X a D) X.xe p) X.xe t) X.xe y) a Z _ ?_ s H D (I.wish _) h) (λfl S z=>?_) (λe S z=>z)
 rotate_left
 · cases fl with
   |next=>exact Y6 z.unwish
   |ret v=>exact z.unwish
   |brk=>exact z.unwish
   |cont=>exact z.unwish
 · intro H1 S e s' U hcx;let(c,C,a0,B,H',rfl,os,bare,un,hok,fl,sl,fr,C',hCv,kC,F,kok,hh):=hcx;cases hCv;replace U:=U.unwish;replace un:Un (gj X.stack) (gj X.stack) H1 H' S.heap B:=un;replace fl:Heap.FlyingW B X.stack c (.ref C) a0 s'.heap:=fl;rw[f]at fl;have ff:=fl.2.2.1;have hH:H' c=none:=hok.none fl.2.1;show wpAny _ _ (noteFrame (.ref c) X.env) _ _ _;refine wpAny_looks_onW (by rw[<-f];exact I.ok.frames) hfr fl λh4 fl4 Y=>?_;refine wpAny_landsW fl4 λh5 k W=>?_;have up:=Y.trans W
   have E:∀{g:Heap},s'.heap.UpToSlots g->∀b∈gj X.stack,∀o,S.heap.get? b=J o->∃sl,g.get? b=J {o with slots:=sl}:=λ{g} u b O o e=>by
    let(l1,e1):=sl b O o e;rw[f]at O;let(l2,e2):=dQ u ff O e1;exact(l2,e2)
   have I5:Inv X a Z H' { s' with heap:=h5 }:=U.fly (s':={ s' with heap:=h5 }) un hok k.1 (E up) fr os bare;let(o5,v5,M,hc5,hd5,_):=k.first;have R:Inv (X.hand c o5) a Z H' { s' with heap:=h5 }:=I5.hand M hH hd5;refine wpAny_handleBy_cons (codeAny_handlers_test ?_) (by intro z;cases z);refine jD (X:=X.hand c o5) R hg hm ?_ hd;refine mf (K:=X.K) R.kIn kC hG M hc5 F ?_;show codeAny _ _ _ _ _;refine codeAny_handlers_suite_as ?_;refine lands_againW k λg Q V=>?_;have I6:Inv X a Z H' { s' with heap:=g }:=U.fly (s':={ s' with heap:=g }) un hok Q.1 (E (up.trans V)) fr os bare;let(o6,v6,he6,hc6,hd6,_):=Q.first;have I6h:Inv (X.hand c o6) a Z H' { s' with heap:=g }:=I6.hand he6 hH hd6;refine oG (X:=X.hand c o6) (i:=j) (v:=.ref c) I6h P I0 hx rfl (λs7 I7=>?_) hf;refine YO (hs c o6 C hc6 kok a s7 _ H' _ I7 (hh c hH)) (λfl s8 z=>?_) λ_ _ z=>z.elim;show wpAny _ _ _ _ _ _;cases fl with
   |next=>let(d,m,B1,q):=z;exact rW (B1.unhand I.ok) P I0 T λs9 l=>(_,m,l,q)
   |brk=>let(d,m,B1,q):=z;exact rW (B1.unhand I.ok) P I0 T λs9 l=>(_,m,l,q)
   |cont=>let(d,m,B1,q):=z;exact rW (B1.unhand I.ok) P I0 T λs9 l=>(_,m,l,q)
   |ret u=>let(v,d,m,B1,r,q):=z;exact rW (B1.unhand I.ok) P I0 T λs9 l=>(v,_,m,l,r,q)
end
end L2
namespace PySem.W
open PySem PySem.Spec PySem.Calls PyProof.Rows
open Builtin Builtin.ObjectAttr Builtin.Getset_descriptor in
def Nw{R:Result->Shared->Prop}{s:Shared}(e:Looks (model prog w) s.heap (typeOf (.ref x)) (.ref C))(d:Looks (model prog w) s.heap (isSubtype (.ref C) (.type "object")) true)
 (h:R (.ok (.ret (.ref C))) s):codeAny (model prog w) A (.call (.builtin "getset_descriptor.__get__") ([.builtin "object.__class__",.ref x,a],[])) R s:=by
 let(b,g,c,t,os):=s;refine codeAny_call_builtin KF.slot_gs.plain KF.entry_gs (KF.slot_gs.check _ _ _ _ _ _ _ _ KF.type_class (KF.args_gs _ _ _) ?_);ext Builtin.«getset_descriptor.__get__» descrGet;rw[dga_obj];refine wpAny_bind (wpAny_pure ?_);ext descrGetter descrCheckInstance descrNameAndClass isInstance;simp only[KF.owner_class]
 repeat lk
 refine(Code.quiet_builtin _ (by decide +kernel),codeAny_builtin KF.entry_class ?_);ext Builtin.«object.__class__» shownTypeOf
 repeat lk
 exact h
open Builtin Builtin.ObjectAttr Builtin.Getset_descriptor in
def FZ{s:Shared}{K:Frag}{D:Addr}{m:Obj}{Q:Option Value->Shared->Prop}(X:K.In s.heap)(n:s.heap.get? x=J m)(r:m.cls=.ref D)
 (k:findIn K (.ref D) "__getattribute__" = J (J (.builtin "BaseException.__getattribute__"))) (j:findIn K (.ref D) "__getattr__" = J G) (v:findIn K (.ref D) "__class__" = J (J (.builtin "object.__class__")))
 (o:specialIn K (.builtin "object.__class__") "__get__" = J (J (.builtin "getset_descriptor.__get__"))) (i:takesIn K (.builtin "object.__class__")=J true) (p:mroIn K D (.type "object")=J true) (u:mroIn K D (.type "BaseException")=J true)
 (h:Q (J (.ref D)) {s with toks:=s.toks+1}):wpAny (model prog w) A (getAttr? (.ref x) "__class__") Q E s:=by
 let(c,g,d,t,os):=s;have e:Looks (model prog w) c (typeOf (.ref x)) (.ref D):=r▸(Looks.ld n).andThen .now;have H:=looks_findIn (M:=model prog w) X k;have L2:=looks_findIn (M:=model prog w) X j;have Cv:=looks_findIn (M:=model prog w) X v;have C:=looks_mroIn (M:=model prog w) X u;ext getAttr? getAttrBy? getAttrBy;refine wpAny_bind (wpAny_mkText (wpAny_bind (wpAny_attempt (wpAny_holding (wpAny_bind (e.at (wpAny_bind (H.at ?_))))))));have y:=PySem.F.excAttr_ValueError.ga.bind (.ref x);have f:(Value.builtin "BaseException.__getattribute__" == Value.builtin "object.__getattribute__")=false:=by decide +kernel
 show wpAny _ _ (if _ then _ else _) _ _ _;rw[if_neg (by rw[f];simp)];ext getAttrByItsOwn hookBefore;rw[if_pos (show onTheHeap (Value.ref D)=true from rfl)];refine wpAny_bind (L2.at ?_);refine wpAny_bind (wpAny_attempt (wpAny_holding ?_));ext callGetattribute;refine wpAny_bind (wpAny_of_eq y ?_);have q:builtinKind "BaseException.__getattribute__" = J .slot:=by decide +kernel
 have b:splitId "BaseException.__getattribute__" = J ("BaseException","__getattribute__"):=by decide +kernel
 have l:=PySem.F.args_bexc_ga (.ref x) (.str (Str.ofString "__class__") t);have z:Looks (model prog w) c (isInstance (.ref x) (.type "BaseException")) true:=e.andThen C;show wpAny _ _ (call (.builtin "BaseException.__getattribute__") [.ref x,.str (Str.ofString "__class__") t]) _ _ _;refine wpAny_call (codeAny_call_builtin PySem.F.excAttr_ValueError.ga.plain PySem.F.entry_bexc_ga ?_);simp only[checkBuiltinCall,q,b];refine wpAny_bind (z.at ?_);rw[if_neg ()];refine wpAny_of_eq (a:=j2) l ?_
 have B:Looks (model prog w) c (Builtin.ObjectAttr.find (.ref x) (.ref D) "__class__") (.bind (.builtin "getset_descriptor.__get__") (.builtin "object.__class__")):=
  Cv.andThen ((show Looks (model prog w) c (getOf (J (.builtin "object.__class__"))) (J (.builtin "getset_descriptor.__get__")) from looks_specialIn X o).andThen
   ((show Looks (model prog w) c (dataDescriptor? (J (.builtin "object.__class__")) (J (.builtin "getset_descriptor.__get__"))) (J (.builtin "getset_descriptor.__get__",.builtin "object.__class__")) from(looks_takesIn (M:=model prog w) X i).andThen .now).andThen (Looks.tag .now)))
 refine wpAny_bind (wpAny_pure ?_);dsimp only;refine wpAny_bind (wpAny_pure (wpAny_bind (e.at (wpAny_bind (B.at ?_)))));show wpAny _ _ (Builtin.ObjectAttr.bindTo _ _ _ _) _ _ _;show wpAny _ _ (holding [Value.builtin "object.__class__"] (call (Value.builtin "getset_descriptor.__get__") [Value.builtin "object.__class__",Value.ref x,Value.ref D]) >>= ret) _ _ _;refine wpAny_bind (wpAny_holding (wpAny_call (Nw (s:=(c,g,d,t+1,os)) e (looks_mroIn (M:=model prog w) X p) ?_)));refine wpAny_pure ?_;exact handed_on rfl (wpAny_pure h)
def excAt(K:Frag)(D:Addr):Bool:=findIn K (.ref D) "__getattribute__" == J (J (.builtin "BaseException.__getattribute__"))&&(findIn K (.ref D) "__getattr__" == J G&&(findIn K (.ref D) "__class__" == J (J (.builtin "object.__class__")) &&
 (specialIn K (.builtin "object.__class__") "__get__" == J (J (.builtin "getset_descriptor.__get__"))&&(takesIn K (.builtin "object.__class__")==J true&&(mroIn K D (.type "object")==J true&&(mroIn K D (.type "BaseException")==J true&&(clsIn K D).isSome))))))
def kitx_exc{K:Frag}{D:Addr}{i:Obj}(j:i.cls=.ref D)(e:excAt K D=true):KitX K (.ref x) (.ref D) (λh=>h.get? x=J i):=by
 unfold excAt at e;simp only[Bool.and_eq_true,beq_iff_eq]at e;let(y,w,v,u,t,s,r,p):=e;let(cd,d):=Option.isSome_iff_exists.mp p
 have o:∃a b c,K.lookup D=J (a,b,.cls cd,c):=by
  unfold clsIn at d;split at d
  .rename_i c' d' A m f;cases d;exact(_,_,_,f)
  .cases d
 let(a,b,c,f):=o;refine(λM h _ I=>j▸(Looks.ld I).andThen .now,λM h X _=>?_,λh l dd its n sl X g=>?_,λX I k=>FZ X I j y w v u t s r k)
 .intro C Q' B s' k q;ext isType loadHead;exact wpAny_bind (wpAny_loadPart (k _ _ (X _ _ f)) (wpAny_pure q))
 .refine Bool.eq_false_iff.mpr λq=>?_;have e:D=l:=Value.ref.inj (ZR.mp q);subst e;have z:=(X _ _ f).symm.trans g;cases z
end PySem.W
namespace L2
open PySem PySem.Spec PyProof.Rows
section
variable{X:Cx}{ea C:Addr}{oe:Obj}{g:V}{c:Value}
def rIs(ea:Addr)(g:V)(b:Bool):L V->Hp->VK->Prop:=λxs H Q=>xs=[.ref ea,g]/\Q (.bl b) H
def mK(l:oe.cls=.ref C)(j:∀u,RelV g u->u=c)(k:PySem.W.excAt X.K C=true)(e:PySem.W.kitOne X.K (.ref C) c=J b):fP (X.hand ea oe) (.builtin "isinstance") (rIs ea g b):=by
 intro a s Z H xs us Q I r h;let(rfl,q):=h;let(u,m,rfl,i,f):=To r;obtain rfl:u=Value.ref ea:=i;obtain rfl:=j _ f;exact PySem.W.kia_one (PySem.W.kitx_exc l k) I.kIn I.exc e (λz=>nomatch z) λd=>(.bl b,H,I.tok d,rfl,q)
end
section
variable{P:Program}{w:World}{K:L0}{mg:Str->Option Value}{base:Heap}
def Fun.okX{x qual:Str}{st:Stmt}{f:Addr}{fd:FuncData}{N ps:L Str}{k:Nat}{sp:Sp}(F:Fun K x qual st f fd)(S:FnScope N ps (au st))(len:∀vs H Q E,sp vs H Q E->vs.length=ps.length)
 (b:∀(a:Value) (A:Around) (outer:L Env) (s:Shared) (H:Hp) (vs:L V) (Q:VK) (E:XK),Room k (A.deeper (envOfC qual (au st) s.heap.objs.size f a))->sp vs H Q E->
   ∃t,Gn (mo (u7 P w) P w K mg base N qual (au st) f a A outer s H E) (fk st) t/\t {nx:=λ_ H'=>Q .non H',rt:=Q} (j4 N vs) H):FnOk P w K mg base (u7 P w) (k+1) f fd ps sp:=by
 let(oc,i,kV,h,pm,an,a,ct,e,rfl,lk,d):=F.ex;exact fn_of lk d S len λA outer s H vs Q E g c=>b a A outer s H vs Q E g c
theorem gg:gd (u7 P w) (mo (u7 P w) P w K mg base N qual scope f cd A outer s H E) E:=By.passes
theorem W7:PassesOwn (model P w) (mo (u7 P w) P w K mg base N qual scope f cd A outer s H E).A (mo (u7 P w) P w K mg base N qual scope f cd A outer s H E).env (mo (u7 P w) P w K mg base N qual scope f cd A outer s H E).xe:=By.own
def no1(h:u7 P w outer H s E0 e s'):False:=by
 let(_,_,_,_,_,_,_,_,_,_,_,_,_,q):=h;exact q
theorem FnOk.calm{sp:Sp}(F:FnOk P w K mg base (u7 P w) k f fd ps sp):FnOk P w K mg base Xu k f fd ps (λvs H Q _=>sp vs H Q E0):=
 (λvs H Q E h=>F.len vs H Q E0 h,λA outer s H args us vs Q E c g d a b=>ZH (F.run A outer s H args us vs Q E0 c g d a b) λr s' h=>by
  cases r with
  |error e=>exact no1 h
  |ok fl=>cases fl<;>exact h)
end
end L2
namespace Mi
open PySem L2
def d6(c:Nat):LK->SO:=λT=>.exc c T
def nQ(T:LK):Option Nat->Bool
 |none=>true
 | some j=>match T[j]? with
   |some G=>true
   |_=>false
def vZ{T:LK}(h:nQ T (J j)=true):j<T.length/\rg T j=none:=by
 unfold nQ at h;dsimp only at h;cases e:T[j]? with
 |none=>rw[e]at h;cases h
 |some x=>
   cases x with
   |none=>exact((List.getElem?_eq_some_iff.mp e).1,by ext rg;rw[e];rfl)
   |some y=>rw[e]at h;cases h
def Xe(j:Option Nat):SO->SO
 |.nx T=>if nQ T j=true then .nx T else .bad
 |_=>.bad
def GB(j:Option Nat)(a:Nat->Bool)(d:LK->SO)(b:Nat->LK->SO):LK->SO:=λT=>match d T with
 |.exc c C=>if a c=true/\nQ C j=true then Xe j (b c C) else .bad
 |.nx C=>.nx C
 |_=>.bad
section
variable{Y:Cm}{Kr:KT D V}{E:XK}{pr:Nat->Bool}{M:L Md}{K:L0}
theorem fi:SJ Y E Kr pr M (GH E (Y c) (bX (tC v) dP)) (d6 c):=λB U I0 Z H T D R P=>((by decide:1<=1000),P Z B U I0 H R (Ex.refl _ _) (Kp.refl _ _) G)
def Tf(Y:Cm)(E:XK)(M:L Md)(B U:Hp)(Z:St)(r:SO)(D:Ends):Prop:=match r with
 |.nx C=>∀S B1 Cv H',Rel Y M S B1 Cv Z H' C->Ex B U S B1->D.nx Z H'
 |.exc c C=>∀S B1 Cv H',Rel Y M S B1 Cv Z H' C->Ex B U S B1->∀a,E (.ref (Y c)) a H'
 |_=>False
def TJf(Y:Cm)(M:L Md)(tb:XK->TS)(m:LK->SO):Prop:=∀E B U I0 Z H T D,Rel Y M B U I0 Z H T->Tf Y E M B U Z (m T) D->tb E D Z H
def R6{f:KT D V}{te:XK->TE}{m:LK->Out D}(h:∀E,MJ Y f E M (te E) m):TJf Y M (λE=>CO (te E)) (b8 m):=by
 intro E B U I0 Z H T D R P;refine h E B U I0 Z H T _ R ?_;unfold b8 at P;cases e:m T with
 |ok d C=>rw[e]at P;exact λv S B1 Cv H' N b a g k=>P S B1 Cv H' b a
 |exc c C=>rw[e]at P;exact P
 |bad=>rw[e]at P;exact P
def rL(l:L Nat):Nat->Bool:=λc=>l.contains c
def catOk(Y:Cm)(K:L0)(g:Nat)(ok:Addr->Prop)(l:L Nat):Prop:=∀c∈l,gC K (Y c)=true/\(jb K (Y c)).contains (.ref (Y g))=true/\ok (Y c)
theorem NF:catOk Y K g ok []:=λ_ h=>(nomatch h)
theorem mI{ok:Addr->Prop}(e:gC K (Y c)=true)(d:(jb K (Y c)).contains (.ref (Y g))=true)(b:ok (Y c))(h:catOk Y K g ok l):catOk Y K g ok (c::l):=λx a=>by
 rcases XC.mp a with rfl|a
 .exact(e,d,b)
 .exact h x a
theorem catOk.of(h:catOk Y K g ok l)(a:rL l c=true):gC K (Y c)=true/\(jb K (Y c)).contains (.ref (Y g))=true/\ok (Y c):=h c (Ae6.mp a)
def Rel.slot{Z:St}(R:Rel Y M B U I0 Z H T)(h:rg T j=G):Rel Y M B U I0 (Z.set j x) H T:=by
 refine(R.bu,R.uh,R.nd,R.dj,R.un,λi=>?_,by rw[YR];exact R.len,R.tb);have l:=R.lo i;by_cases z:i=j
 .subst z;rw[h]at l ⊢;exact l
 · have:rg (Z.set j x) i=rg Z i:=by ext rg;rw[List.getElem?_set_ne (Ne.symm z)]
   rw[this];exact l
theorem Kp.slot{a:St}(k:Kp pr Z a)(hp:pr j=false):Kp pr Z (a.set j x):=λi hi=>by
 have:i≠j:=λz=>by rw[z,hp]at hi;cases hi
 have e:rg (a.set j x) i=rg a i:=by ext rg;rw[List.getElem?_set_ne (Ne.symm this)]
 rw[e];exact k i hi
def JQ(K:L0)(C:Addr)(c:Value):Bool:=(PySem.W.kitOne K (.ref C) c).getD false
def SV(K:L0)(C:Addr)(a:L Value):L Bool:=a.map (JQ K C)
def Ft:L Bool->TA
 |[]=>dP
 |b::l=>bX (tC (.bl b)) (Ft l)
def okL(K:L0)(a:L Value)(C:Addr):Prop:=PySem.W.excAt K C=true/\∀c∈a,(PySem.W.kitOne K (.ref C) c).isSome=true
def okL.kit(h:okL K a C)(n:Nat)(e:a[n]?=J c):PySem.W.kitOne K (.ref C) c=J (JQ K C c):=by
 have:=h.2 c (Z0 e)
 ext JQ;cases q:PySem.W.kitOne K (.ref C) c with
 |none=>rw[q]at this;cases this
 |some b=>rfl
theorem f9:(∀c∈([]:L Value),(PySem.W.kitOne K (.ref C) c).isSome=true)/\SV K C []=[]:=(λ_ h=>(nomatch h),rfl)
theorem aE(e:PySem.W.kitOne K (.ref C) c=J b)(h:(∀c∈a,(PySem.W.kitOne K (.ref C) c).isSome=true)/\SV K C a=l):(∀x∈c::a,(PySem.W.kitOne K (.ref C) x).isSome=true)/\SV K C (c::a)=b::l:=
 (λx d=>by
  rcases XC.mp d with rfl|d
  .rw[e];rfl
  .exact h.1 x d,by
  unfold SV at h ⊢;rw[List.map_cons,h.2];ext JQ
  rw[e];rfl)
def isE(K:L0)(a C:Addr)(j:Nat)(g:V)(v:Value):TE:=Gq (rIs a g (JQ K C v)) (bX (iu j) (bX (tC g) dP))
def Mw(K:L0)(a C:Addr)(j:Nat):L (V×Value)->TA
 |[]=>dP
 |p::l=>bX (isE K a C j p.1 p.2) (Mw K a C j l)
theorem wU(b:Z[j]?=J (J (.ref a))):∀{I0:L (V×Value)} {H:Hp} {Q:L V->Hp->Prop},Ft (SV K C (I0.map (·.2))) Z H Q->Mw K a C j I0 Z H Q
 |[],_,_,h=>h
 |p::l,H,Q,h=>(.ref a,b,rfl,wU (I0:=l) b (Q:=λvs c=>Q (_::vs) c) h)
def HJ(Y:Cm)(K:L0)(Kr:KT D V)(E:XK)(pr:Nat->Bool)(M:L Md)(g j:Nat)(ok:Addr->Prop)(d:Addr->Addr->TS)(e:Nat->LK->SO)(l:L Nat):Prop:=∀c∈l,(gC K (Y c)=true/\(jb K (Y c)).contains (.ref (Y g))=true/\ok (Y c))/\
 ∃a:TS,SJ Y E Kr pr M a (e c)/\∀b D Z H,Z[j]?=J (J (.ref b))->a D Z H->d b (Y c) D Z H
theorem Vx:HJ Y K Kr E pr M g j ok a b []:=λ_ h=>(nomatch h)
theorem tQ{ok:Addr->Prop}{a:Addr->Addr->TS}{d:Nat->LK->SO}(b:TS)(o:gC K (Y c)=true)(n:(jb K (Y c)).contains (.ref (Y g))=true)(m:ok (Y c))(k:SJ Y E Kr pr M b (d c))
 (i:∀f D Z H,Z[j]?=J (J (.ref f))->b D Z H->a f (Y c) D Z H) (h:HJ Y K Kr E pr M g j ok a d l):HJ Y K Kr E pr M g j ok a d (c::l):=λx e=>by
 rcases XC.mp e with rfl|e
 .exact((o,n,m),b,k,i)
 .exact h x e
def Mq(u:TJf Y M tb h)(hp:pr j=false)(t:HJ Y K Kr E pr M g j ok n f l):
 SJ Y E Kr pr M (GG K (Y g) ok j tb n) (GB (J j) (rL l) h f):=by
 intro B U I0 Z H T D R P;refine u _ B U I0 Z H T D R ?_;unfold GB at P;cases e:h T with
 |nx C=>rw[e]at P;exact λS B1 Cv H' d k=>P Z S B1 Cv H' d k (Kp.refl _ _)
 |exc c C=>
   rw[e]at P;dsimp only at P;intro S B1 Cv H' d k O;split at P
   · rename_i z;let((k1,k2,k3),N,v,p):=t c (Ae6.mp z.1);let(b,s):=vZ z.2;refine(Y c,rfl,k1,k2,k3,λw r=>?_);have i:j<Z.length:=by rw[<-d.len];exact b
     refine p _ _ _ _ (by rw[Y1 i]) (v S B1 Cv (Z.set j (J (.ref w))) H' C _ (d.slot s) ?_);cases q:f c C with
     |nx a=>
       rw[q]at P;replace P:So Y E Kr pr M B U Z (if nQ a (J j)=true then .nx a else .bad) D:=P;split at P
       .rename_i y;intro o I U1 m H1 F A kp;exact P _ I U1 m H1 (F.slot (x:=G) (vZ y).2) (k.trans A) ((((Kp.refl pr Z).slot hp).trans kp).slot hp)
       .exact P.elim
     |_=>rw[q]at P;exact P.elim
   .exact P.elim
 |_=>rw[e]at P;exact P
def bR{more:L Md}{N:L Str}{Q:VK}(q:SJ Y E Kr (yG M M.length) (M++more) t body)(s:N.length=M.length+more.length)(k:l=run N.length body)(p:∀B U H,Kr .non .non B U H [])
 (h:gy Y M Kr l vs H Q E):t {nx:=λ_ H'=>Q .non H',rt:=Q} (L2.j4 N vs) H:=by
 let(B,U,I0,ds,R,i,P):=h;subst k;have hd:ds.length=vs.length:=by have:=R.len;rw[Xv,Xv]at this;exact this
 ext L2.j4;refine q B U I0 _ H (ds.map J++List.replicate (N.length-vs.length) G) _ (R.enter i) ?_;unfold run at P;rw[hd]at P;cases e:body (ds.map J++List.replicate (N.length-vs.length) G) with
 |nx C=>
   rw[e]at P;intro b S B1 Cv H' g f k';let(a,R2,j):=g.leave i k';exact P .non S B1 a H' [] R2 f NewM.nil (p _ _ _)
 |rt d C=>
   rw[e]at P;intro v b S B1 Cv H' r g f k' n o;let(a,R2,j):=g.leave i k';exact P v S B1 a H' r R2 f (j _ n) o
 |exc c C=>
   rw[e]at P;intro b S B1 Cv H' g f k' m;let(a,R2,j):=g.leave i k';exact P S B1 a H' R2 f m
 |bk C=>rw[e]at P;exact P.elim
 |ct C=>rw[e]at P;exact P.elim
 |bad=>rw[e]at P;exact P.elim
def bP{more:L Md}{N:L Str}{Q:VK}(p:SJ Y E Kr (yG M M.length) (M++more) t body)(r:N.length=M.length+more.length)(g:l=jw N.length body)
 (h:gy Y M Kr l vs H Q E):t {nx:=λ_ H'=>Q .non H',rt:=Q} (L2.j4 N vs) H:=by
 let(B,U,I0,ds,R,f,P):=h;subst g;have hd:ds.length=vs.length:=by have:=R.len;rw[Xv,Xv]at this;exact this
 ext L2.j4;refine p B U I0 _ H (ds.map J++List.replicate (N.length-vs.length) G) _ (R.enter f) ?_;unfold jw at P;rw[hd]at P;cases e:body (ds.map J++List.replicate (N.length-vs.length) G) with
 |nx C=>rw[e]at P;exact P.elim
 |rt d C=>
   rw[e]at P;intro v b S B1 Cv H' q j i k' n o;let(a,R2,k):=j.leave f k';exact P v S B1 a H' q R2 i (k _ n) o
 |exc c C=>
   rw[e]at P;intro b S B1 Cv H' j i k' m;let(a,R2,k):=j.leave f k';exact P S B1 a H' R2 i m
 |bk C=>rw[e]at P;exact P.elim
 |ct C=>rw[e]at P;exact P.elim
 |bad=>rw[e]at P;exact P.elim
theorem b9(h:AJ Y E M ps t m)(b:nv ps a=true):PJ Y (KR Y .F) E M (sm (gy Y a (KR Y .F) c) [] E t) (pc c m):=
 Iv h (iW b) (iX b) λ_ _ _ _ _ _ _ h=>h
theorem dG(h:AJ Y E M ps t m)(b:nv ps a=true):PJ Y (KO Y s) E M (sm (gy Y a (KO Y s) c) [] E t) (pc c m):=
 Iv h (iW b) (iX b) λ_ _ _ _ _ _ _ h=>h
theorem fX(g:A1J Y E M p ta d)(h:AJ Y E M ps t m)(e:nv (p::ps) a=true):
 PJ Y (KR Y .F) E M (sj (Y c) b (gy Y a (KR Y .F) f) [] E ta t) (pm c b f d m):=Iq g h (iW e) (iX e) λ_ _ _ _ _ _ _ h=>h
theorem oJ(g:A1J Y E M p ta d)(h:AJ Y E M ps t m)(e:nv (p::ps) a=true):
 PJ Y (KO Y s) E M (sj (Y c) b (gy Y a (KO Y s) f) [] E ta t) (pm c b f d m):=Iq g h (iW e) (iX e) λ_ _ _ _ _ _ _ h=>h
theorem Qv(h:AJ Y E M ps t m)(b:nv ps a=true):
 PJ Y (KO Y (.ob sh)) E M (GJ (Y c) (gy Y (.O (.ob sh)::a) (KR Y .F) d) [] E t) (pk c d m):=
 QC h (by rw[XD,iW b]) rfl λj p e=>by rw[Zw];exact iX b j p e
theorem Ro(h:AJ Y E M ps t m)(c:fitM M ps a)(hd:(jW ps).Nodup)(d:∀i∈AK ps,i∉jW ps):
 MJ Y (KR Y .F) E M (sm (gy Y a (KR Y .F) b) [] E t) (mc ps b m):=RA h c hd d λ_ _ _ _ _ _ _ h=>h
theorem xq(j:A1J Y E M p ta d)(h:AJ Y E M ps t m)(f:fitM M (p::ps) a)(hd:(jW (p::ps)).Nodup)
 (g:∀i∈AK (p::ps),i∉jW (p::ps)):MJ Y (KR Y .F) E M (sj (Y c) b (gy Y a (KR Y .F) e) [] E ta t) (mm c b (p::ps) e d m):=Rq j h f hd g λ_ _ _ _ _ _ _ h=>h
end
abbrev DI(X:Type):=L (L Int×X)
section
variable{X:Type}
def dC(f:X->D)(F:DI X):D:=.dT (F.map λp=>p.1.map Sum.inl) (F.map λp=>f p.2)
def DI.get(F:DI X)(k:L Int):Option X:=(F.find? λp=>decide (p.1=k)).map (·.2)
def DI.put(F:DI X)(k:L Int)(v:X):DI X:=if (F.get k).isSome=true then F.map λp=>if p.1=k then (p.1,v) else p else F++[(k,v)]
def m6{j k:L Int}:j.map (Sum.inl:Int->cL)=k.map Sum.inl↔j=k:=by
 constructor
 · intro h
   induction j generalizing k with
   |nil=>cases k with|nil=>rfl|cons _ _=>cases h
   |cons x j b=>
     cases k with
     |nil=>cases h
     |cons y k=>
       rw[Xz,Xz]at h;injection h with a c
       injection a with a
       rw[a,b c]
 .intro h;rw[h]
theorem lZ:∀k:L Int,iz (k.map D.int)=J (k.map Sum.inl)
 |[]=>rfl
 |x::k=>by rw[Xz,iz,lZ k];rfl
theorem zG{f:X->D}{k:L Int}:∀F:DI X,fe (F.map λp=>p.1.map (Sum.inl:Int->cL)) (F.map λp=>f p.2) (k.map Sum.inl)=(DI.get F k).map f
 |[]=>rfl
 | p::F=>by
   rw[List.map_cons,List.map_cons,fe,zG F];ext DI.get;rw[List.find?_cons];by_cases h:p.1=k
   .rw[Xx (m6.mpr h),Yn h];rfl
   .rw[Xy (λz=>h (m6.mp z)),X6 h]
def qr{F:DI X}{k:L Int}:qX (dC f F) (.tup (k.map D.int))=J ((F.get k).map f):=by
 show(iz (k.map D.int)).map (λk=>fe (F.map λp=>p.1.map (Sum.inl:Int->cL)) (F.map λp=>f p.2) k)=_;rw[lZ,Z7,zG]
theorem DQ{k:L Int}:∀F:DI X,gt (F.map λp=>p.1.map (Sum.inl:Int->cL)) (k.map Sum.inl)=(DI.get F k).isSome
 |[]=>rfl
 | p::F=>by
   have a:=DQ (k:=k) F;unfold gt DI.get at *;rw[List.map_cons,List.any_cons,List.find?_cons,a];by_cases h:p.1=k
   .rw[Yn (m6.mpr h),Yn h];rfl
   .rw[X6 (λz=>h (m6.mp z)),X6 h];rfl
theorem zg{f:X->D}{k:L Int}:∀F:DI X,qb (F.map λp=>p.1.map (Sum.inl:Int->cL)) (F.map λp=>f p.2) (k.map Sum.inl) (f v)=(F.map λp=>if p.1=k then (p.1,v) else p).map λp=>f p.2
 |[]=>rfl
 | p::F=>by
   rw[Xz,Xz,qb,zg F,Xz,Xz];by_cases h:p.1=k
   .rw[Xx (m6.mpr h),Xx h]
   .rw[Xy (λz=>h (m6.mp z)),Xy h]
def Kk{f:X->D}{F:DI X}{k:L Int}(h:F.length<ak):Aa (dC f F) (.tup (k.map D.int)) (f v)=J (dC f (F.put k v)):=by
 show((iz (k.map D.int)).bind λk=>if (F.map λp=>p.1.map (Sum.inl:Int->cL)).length<ak then J (if gt (F.map λp=>p.1.map (Sum.inl:Int->cL)) k=true then D.dT (F.map λp=>p.1.map (Sum.inl:Int->cL)) (qb (F.map λp=>p.1.map (Sum.inl:Int->cL)) (F.map λp=>f p.2) k (f v)) else D.dT ((F.map λp=>p.1.map (Sum.inl:Int->cL))++[k]) ((F.map λp=>f p.2)++[f v])) else G)=J (D.dT ((F.put k v).map λp=>p.1.map Sum.inl) ((F.put k v).map λp=>f p.2));rw[lZ,Option.bind_some,if_pos (by rw[List.length_map];exact h),DQ];ext DI.put;by_cases q:(DI.get F k).isSome=true
 .rw[Xx q,Xx q,zg,X7,X7];refine congrArg (λz=>J (D.dT z _)) ?_;refine YQ λp _=>?_;show _=((if p.1=k then (p.1,v) else p).1).map Sum.inl;split<;>rfl
 .rw[Xy q,Xy q,X8,X8];rfl
def oZ{F:DI X}{k:L Int}:(F.put k v).get j=if j=k then J v else F.get j:=by
 ext DI.put;by_cases q:(DI.get F k).isSome=true
 · rw[Xx q]
   have e:∀Cv:DI X,DI.get (Cv.map λp=>if p.1=k then (p.1,v) else p) j=if j=k then (DI.get Cv k).map λ_=>v else DI.get Cv j:=by
    intro Cv
    induction Cv with
    |nil=>ext DI.get;split<;>rfl
    |cons p Cv f=>
      unfold DI.get at f ⊢;rw[List.map_cons,List.find?_cons,List.find?_cons,List.find?_cons];by_cases b:p.1=k
      · rw[Xx b];by_cases a:j=k
        .subst a;simp only[b,decide_true,Xx,Z7]
        .have c:¬ p.1=j:=λz=>a (z.symm.trans b);simp only[c,decide_false];rw[f,Xy a,Xy a]
      · rw[Xy b];by_cases c:p.1=j
        .have a:¬ j=k:=λz=>b (c.trans z);simp only[c,decide_true,Xy a]
        .simp only[c,b,decide_false];exact f
   rw[e];by_cases h:j=k
   .rw[Xx h,Xx h];let(x,i):=Zx.mp q;rw[i];rfl
   .rw[Xy h,Xy h]
 · rw[Xy q]
   have d:DI.get F k=none:=by
    cases z:DI.get F k with
    |none=>rfl
    |some x=>rw[z]at q;exact absurd rfl q
   unfold DI.get at d ⊢;rw[List.find?_append];by_cases h:j=k
   · subst h
     have g:F.find? (λp=>decide (p.1=j))=none:=by
      cases z:F.find? (λp=>decide (p.1=j)) with
      |none=>rfl
      |some x=>rw[z]at d;cases d
     rw[g,Xx rfl];simp
   · rw[Xy h]
     have:¬ k=j:=λz=>h z.symm
     simp[this]
end
open PySem.Spec (countIn same sameAll)
theorem vg{W:Type}{f:W->D}{g:W->PyData}(h:∀a,toPy (f a)=J (g a)):∀l:L W,toPys (l.map f)=J (l.map g)
 |[]=>rfl
 |a::l=>by rw[Xz,toPys,h a,vg h l];rfl
def pT{W:Type}{f:W->D}{g:W->PyData}(h:∀a,toPy (f a)=J (g a))(l:L W):toPy (.lst (l.map f))=J (.list (l.map g)):=by
 rw[toPy,vg h];rfl
def Bf{W:Type}{g:W->PyData}(h:∀a,(g a).canLay0=true)(f:∀a,(g a).depth<=60)(l:L W):SeqAt.shaped (.list (l.map g))=true:=by
 have c:∀l:L W,PyData.canLayAll0 (l.map g)=true:=by
  intro l
  induction l with
  |nil=>simp[PyData.canLayAll0]
  |cons a l b=>simp[PyData.canLayAll0,h a,b]
 have d:∀l:L W,PyData.depthAll (l.map g)<=60:=by
  intro l
  induction l with
  |nil=>simp[PyData.depthAll]
  |cons a l b=>
    rw[Xz,PyData.depthAll]
    have:=f a
    omega
 have e:PyData.depth (.list (l.map g))<=64:=by rw[PyData.depth];have:=d l;omega
 ext SeqAt.shaped;rw[Bool.and_eq_true];exact(by rw[PyData.canLay0];exact c l,decide_eq_true e)
theorem rq{W:Type}[DecidableEq W]{g:W->PyData}(h:∀a b,same (g a) (g b)=decide (a=b))(a:W):∀l:L W,(0<=countIn (g a) (l.map g))/\(countIn (g a) (l.map g)≠0↔a∈l)
 |[]=>by simp[countIn]
 | b::l=>by
   let(d,c):=rq h a l;rw[Xz,countIn,h b a,XC];by_cases e:b=a
   .rw[Xx (by simpa using e)];exact(by omega,λ_=>.inl e.symm,λ_=>by omega)
   · rw[Xy (by simpa using e)];refine(by omega,λz=>.inr (c.mp ∅),λz=>?_);rcases z with z|z
     .exact absurd z.symm e
     .have:=c.mpr z;omega
section
variable{W:Type}[DecidableEq W]{f:W->D}{g:W->PyData}
def Nl(h0:∀a,toPy (f a)=J (g a))(i:∀a,(g a).canLay0=true)(h:∀a,(g a).depth<=60)(k:∀a b,same (g a) (g b)=decide (a=b))(j:∀a b,SeqAt.noMix (g a) (g b)=true)(a:W)(l:L W):
 inD (f a) (.lst (l.map f))=.ok (.bl (decide (a∈l)))/\BF (f a) (.lst (l.map f))=.ok (.bl (!decide (a∈l))):=by
 have e:SeqAt.shaped (g a)=true:=by
  ext SeqAt.shaped;rw[i a,Bool.true_and];exact decide_eq_true (by have:=h a;omega)
 have s2:=Bf i h l
 have d:((l.map g).all λz=>SeqAt.noMix z (g a))=true:=by
  rw[List.all_map,YN];exact λb _=>j b a
 have c:decide (countIn (g a) (l.map g)≠0)=decide (a∈l):=by
  have:=(rq k a l).2
  by_cases z:a∈l
  .rw[Yn z,Yn (this.mpr z)]
  .rw[X6 z,X6 (λw=>z (this.mp w))]
 constructor
 .unfold inD;rw[h0 a,pT h0 l];show(if _ then _ else _)=_;rw[if_pos (e,s2,d),c]
 .unfold BF;rw[h0 a,pT h0 l];show(if _ then _ else _)=_;rw[if_pos (e,s2,d),c]
end
end Mi
namespace Cl
open PySem L2 Mi
inductive OutC (Z W:Type) where
 |ok (a:W) (s:Z)|exc (c:Nat) (s:Z)|bad
inductive FlC (Z X:Type) where
 |nx (s:Z)|rt (b:X) (s:Z)|bk (s:Z)|ct (s:Z)|exc (c:Nat) (s:Z)|bad
def SimR{W O:Type}(e:W->O)(r:Res O)(q:Res W):Prop:=match q with
 |.ok a=>r=.ok (e a)
 |.exc x=>r=.exc x
 |.bad=>True
section
variable{Z W X O B1:Type}{Y:Z->LK}
def SimO(Y:Z->LK)(e:W->O)(r:Out O)(q:OutC Z W):Prop:=match q with
 |.ok a s=>r=.ok (e a) (Y s)
 |.exc x s=>r=.exc x (Y s)
 |.bad=>True
def SimS(Y:Z->LK)(e:X->D)(r:SO)(q:FlC Z X):Prop:=match q with
 |.nx s=>r=.nx (Y s)
 |.rt b s=>r=.rt (e b) (Y s)
 |.bk s=>r=.bk (Y s)
 |.ct s=>r=.ct (Y s)
 |.exc x s=>r=.exc x (Y s)
 |.bad=>True
def EJ(Y:Z->LK)(e:W->O)(m:LK->Res O)(c:Z->Res W):Prop:=∀s,SimR e (m (Y s)) (c s)
def NJ(Y:Z->LK)(e:W->O)(m:LK->Out O)(c:Z->OutC Z W):Prop:=∀s,SimO Y e (m (Y s)) (c s)
def TJ(Y:Z->LK)(e:X->D)(m:LK->SO)(c:Z->FlC Z X):Prop:=∀s,SimS Y e (m (Y s)) (c s)
def SimR.bnd{e:W->O}{r:Res O}{q:Res W}{k:O->Res B1}{l:W->Res X}(h:SimR e r q)(c:∀a,SimR b (k (e a)) (l a)):SimR b (r.bind k) (q.bind l):=by
 cases q with
 |ok a=>rw[show r=_ from h];exact c a
 |exc x=>rw[show r=_ from h];exact rfl
 |bad=>trivial
@[elab_as_elim] theorem SimR.el{e:W->O}{r:Res O}{q:Res W}{P:Res O->Res W->Prop}(h:SimR e r q)(ok:∀a,P (.ok (e a)) (.ok a))(exc:∀x,P (.exc x) (.exc x))(bad:∀r,P r .bad):P r q:=by
 cases q with
 |ok a=>rw[show r=_ from h];exact ok a
 |exc x=>rw[show r=_ from h];exact exc x
 |bad=>exact bad r
def SimR.calm{r:Res O}{q:Res W}(h:SimR e r q):SimR e r.calm q.calm:=by
 cases q with
 |ok a=>rw[show r=_ from h];exact rfl
 |exc x=>trivial
 |bad=>trivial
@[simp] def vC(g:Z->Option W):Z->Res W:=λs=>match g s with|some a=>.ok a|none=>.bad
@[simp] def pC(g:Z->W):Z->Res W:=λs=>.ok (g s)
@[simp] def kC(a:W):Z->Res W:=λ_=>.ok a
@[simp] def bB(f:W->Res X)(c:Z->Res W):Z->Res X:=λs=>(c s).bind f
@[simp] def aC(f:W->X->Res O)(a:Z->Res W)(b:Z->Res X):Z->Res O:=λs=>(a s).bind λx=>(b s).bind λy=>f x y
theorem R8{g:Z->Option W}(h:∀s,rg (Y s) i=(g s).map e):EJ Y e (vr i) (vC g):=λs=>by
 ext vC vr;rw[h s];cases g s with
 |none=>trivial
 |some a=>exact rfl
theorem Sa{e:W->D}{g:Z->W}(h:∀s,rg (Y s) i=J (e (g s))):EJ Y e (vr i) (pC g):=λs=>by
 ext vr pC;rw[h s];exact rfl
theorem xE{e:W->D}(h:e a=d):EJ Y e (aD d) (kC a):=λs=>by subst h;exact rfl
theorem bC{e:W->D}{F:D->Res D}{f:W->Res X}(h:∀a,SimR b (F (e a)) (f a))(d:EJ Y e m c):EJ Y b (un F m) (bB f c):=λs=>(d s).bnd h
theorem af{e:W->D}{g:X->D}{F:D->D->Res D}{f:W->X->Res O}(h:∀a b,SimR d (F (e a) (g b)) (f a b))(j:EJ Y e m c)(i:EJ Y g n c'):EJ Y d (bn F m n) (aC f c c'):=λs=>(j s).bnd λa=>(i s).bnd λb=>h a b
theorem bU{e:W->D}{f:W->Res X}(h:∀a,SimR d (.ok (e a)) (f a))(b:EJ Y e m c):EJ Y d m (bB f c):=λs=>by
 have b:=b s;ext bB;cases q:c s with
 |ok a=>rw[q]at b;rw[show m (Y s)=_ from b];exact h a
 |exc x=>rw[q]at b;exact b
 |bad=>trivial
def eN:Unit->D:=λ_=>.non
def eL(e:W->D):L W->D:=λxs=>.lst (xs.map e)
def eS:L Int->D:=λxs=>.scr (xs.map D.int)
def pd(e:W->D):L W->D:=λxs=>.tup (xs.map e)
def rX(e:W->D)(a:X->D):W×X->D:=λp=>.tup [e p.1,a p.2]
def eT3(e:W->D)(b:X->D)(a:O->D):W×X×O->D:=λp=>.tup [e p.1,b p.2.1,a p.2.2]
abbrev eK:Int×Int×L Int->D:=eT3 D.int D.int (eL D.int)
@[simp] def Nm(a:W):Res W:=.ok a
theorem Pa{e:W->D}{F:(LK->Res D)->LK->Res D}{m:LK->Res D}(hF:∀T a,m T=.ok (e a)->F m T=.ok (e a))(b:∀T x,m T=.exc x->F m T=.exc x)(h:EJ Y e m c):EJ Y e (F m) c:=λs=>by
 have h:=h s;cases q:c s with
 |ok a=>rw[q]at h;exact hF _ _ h
 |exc x=>rw[q]at h;exact b _ _ h
 |bad=>trivial
theorem gL{e:W->D}(b:∀a,c9 (e a)=true)(h:EJ Y e m c):EJ Y e (yE m) c:=
 Pa (F:=yE) (λT a q=>by ext yE;rw[q];show(if _ then _ else _)=_;rw[if_pos (b a)]) (λT x q=>by ext yE;rw[q];rfl) h
theorem Sc{e:W->D}(b:∀a,CQ (e a)=true)(h:EJ Y e m c):EJ Y e (Gc m) c:=
 Pa (F:=Gc) (λT a q=>by ext Gc;rw[q];show(if _ then _ else _)=_;rw[if_pos (b a)]) (λT x q=>by ext Gc;rw[q];rfl) h
def Lu{e:W->D}(h:∀a,c9 (e a)=true)(xs:L W):(xs.map e).all c9=true:=by
 rw[List.all_map,YN];exact λa _=>h a
theorem Pz{e:W->D}(h:∀a,c9 (e a)=true)(xs:L W):CQ (eL e xs)=true:=Lu h xs
@[simp] def mO(a b:Int):Res Int:=.ok (a+b)
@[simp] def Ff(a b:Int):Res Int:=.ok (a-b)
@[simp] def FG(a b:Int):Res Int:=if (-(2 ^ 64)<a/\a<2 ^ 64)\/(-(2 ^ 64)<b/\b<2 ^ 64) then .ok (a*b) else .bad
@[simp] def gE(a b:Int):Res Int:=if 0<b/\b<1073741824 then .ok (a / b) else .bad
@[simp] def eE(a b:Int):Res Int:=if 0<b then .ok (a%b) else .bad
@[simp] def Ue(a b:Int):Res Int:=if 0<=b/\b<=1000000/\a.natAbs<2 ^ 64 then .ok (a ^ b.toNat) else .bad
@[simp] def TK(a b:Int):Res Int:=if 0<=b then .ok (a / 2 ^ b.toNat) else .bad
@[simp] def M7(a b:Int):Res Bool:=.ok (decide (a<b))
@[simp] def O8(a b:Int):Res Bool:=.ok (decide (b<a))
@[simp] def geC(a b:Int):Res Bool:=.ok (decide (b<=a))
@[simp] def BG(a:Int):Res Int:=.ok (-a)
@[simp] def Q3(a:Bool):Res Bool:=.ok (!a)
@[simp] def kS[DecidableEq W](neg:Bool)(a b:W):Res Bool:=.ok (neg.xor (decide (a=b)))
theorem ja(a b:Int):SimR D.int (lJ (.int a) (.int b)) (mO a b):=rfl
theorem zp(a b:Int):SimR D.int (yP (.int a) (.int b)) (Ff a b):=rfl
def SimR.ite{e:W->O}{p:Prop}[Decidable p]{r a:Res O}{q b:Res W}(h:SimR e r q)(h':SimR e a b):SimR e (if p then r else a) (if p then q else b):=by
 by_cases z:p
 .rw[Xx z,Xx z];exact h
 .rw[Xy z,Xy z];exact h'
def zr(a b:Int):SimR D.int (xo (.int a) (.int b)) (FG a b):=by rw[IM];exact SimR.ite rfl trivial
def fc(a b:Int):SimR D.int (fK (.int a) (.int b)) (gE a b):=by rw[FY];exact SimR.ite rfl trivial
def cp(a b:Int):SimR D.int (dH (.int a) (.int b)) (eE a b):=by rw[Ja];exact SimR.ite rfl trivial
def UH(a b:Int):SimR D.int (H8 (.int a) (.int b)) (Ue a b):=by rw[HZ];exact SimR.ite rfl trivial
def UG(a b:Int):SimR D.int (GX (.int a) (.int b)) (TK a b):=by rw[GW];exact SimR.ite rfl trivial
theorem BC(a b:Int):SimR D.bl (Gr (.int a) (.int b)) (M7 a b):=rfl
theorem IC(a b:Int):SimR D.bl (LO (.int a) (.int b)) (O8 a b):=rfl
theorem Xa(a b:Int):SimR D.bl (WS (.int a) (.int b)) (geC a b):=rfl
theorem DA(a:Int):SimR D.int (FF (.int a)) (BG a):=rfl
theorem fE(neg:Bool)(a b:Int):SimR D.bl (lI neg (.int a) (.int b)) (kS neg a b):=rfl
theorem lT(neg:Bool)(a b:Str):SimR D.bl (lI neg (.str a) (.str b)) (kS neg a b):=rfl
theorem aQ(h:EJ Y D.bl m c):EJ Y (id:Bool->Bool) (fB m) c:=λs=>by
 have h:=h s;cases q:c s with
 |ok a=>rw[q]at h;have h:m (Y s)=.ok (.bl a):=h;show fB m (Y s)=.ok a;ext fB;rw[h];rfl
 |exc x=>rw[q]at h;have h:m (Y s)=.exc x:=h;show fB m (Y s)=.exc x;ext fB;rw[h];rfl
 |bad=>trivial
@[simp] def rN(a b:Z->Res Bool):Z->Res Bool:=λs=>(a s).bind λc=>if c=true then b s else .ok false
@[simp] def WL(a b:Z->Res Bool):Z->Res Bool:=λs=>(a s).bind λc=>if c=true then .ok true else b s
@[simp] def Nk(c:Z->Res Bool)(a b:Z->Res W):Z->Res W:=λs=>(c s).bind λt=>if t=true then a s else b s
theorem gZ(f:EJ Y (id:Bool->Bool) a c)(e:EJ Y (id:Bool->Bool) b d):EJ Y (id:Bool->Bool) (rM a b) (rN c d):=λs=>(f s).bnd λt=>SimR.ite (e s) rfl
theorem Cf(f:EJ Y (id:Bool->Bool) a c)(e:EJ Y (id:Bool->Bool) b d):EJ Y (id:Bool->Bool) (LM a b) (WL c d):=λs=>(f s).bnd λt=>SimR.ite rfl (e s)
theorem DW(b:EJ Y (id:Bool->Bool) a c):EJ Y (id:Bool->Bool) (MX a) (bB Q3 c):=λs=>(b s).bnd λt=>rfl
theorem Sb(f:EJ Y (id:Bool->Bool) t ct)(h:EJ Y e a c)(g:EJ Y e b d):EJ Y e (RS t a b) (Nk ct c d):=λs=>(f s).bnd λt=>SimR.ite (h s) (g s)
structure Dat (e:W->D) [DecidableEq W] where
 py:W->PyData
 dep:Nat
 h0:∀a,toPy (e a)=J (py a)
 lay:∀a,(py a).canLay0=true
 depth:∀a,(py a).depth<=dep
 eqv:∀a b,PyData.eqv (py a) (py b)=decide (a=b)
 nomix:∀a b,SeqAt.noMix (py a) (py b)=true
def Dat.same[DecidableEq W](A:Dat e)(a b:W):PySem.Spec.same (A.py a) (A.py b)=decide (a=b):=by rw[<-A.eqv,SeqAt.same_eq_eqv _ _ (A.nomix a b)]
def Dat.shp[DecidableEq W](A:Dat e)(hd:A.dep<=64)(a:W):SeqAt.shaped (A.py a)=true:=by
 ext SeqAt.shaped;rw[A.lay a,Bool.true_and];exact decide_eq_true (Nat.le_trans (A.depth a) hd)
def UJ{e:W->D}[DecidableEq W](A:Dat e)(hd:A.dep<=64)(neg:Bool)(a b:W):SimR D.bl (Ti neg (e a) (e b)) (kS neg a b):=by
 show Ti neg (e a) (e b)=.ok (.bl (neg.xor (decide (a=b))));ext Ti;rw[A.h0,A.h0];show(if _ then _ else _)=_;rw[if_pos (A.shp hd a,A.shp hd b),A.eqv]
@[simp] def inC[DecidableEq W](neg:Bool)(a:W)(l:L W):Res Bool:=.ok (neg.xor (decide (a∈l)))
def QW{e:W->D}[DecidableEq W](A:Dat e)(hd:A.dep<=60)(a:W)(l:L W):SimR D.bl (BF (e a) (eL e l)) (inC true a l):=by
 have:=(Nl A.h0 A.lay (λa=>Yw (A.depth a) hd) A.same A.nomix a l).2
 show BF (e a) (.lst (l.map e))=.ok (.bl (true.xor (decide (a∈l))));rw[this,Bool.true_xor]
def Pd:Dat D.int:=(PyData.int,1,λ_=>rfl,λa=>by simp[PyData.canLay0],λa=>by simp[PyData.depth],λa b=>by simp only[PyData.eqv];exact Ae7 _ _,λa b=>by simp[SeqAt.noMix])
def VJ:Dat D.bl:=(PyData.bool,1,λ_=>rfl,λa=>by simp[PyData.canLay0],λa=>by simp[PyData.depth],λa b=>by simp only[PyData.eqv];exact Ae7 _ _,λa b=>by simp[SeqAt.noMix])
theorem t4{g:W->PyData}[DecidableEq W](h:∀a b,PyData.eqv (g a) (g b)=decide (a=b)):∀t u:L W,PyData.eqvAll (t.map g) (u.map g)=decide (t=u)
 |[],[]=>by simp[PyData.eqvAll]
 |[],_::_=>by simp[PyData.eqvAll]
 |_::_,[]=>by simp[PyData.eqvAll]
 | r::t,q::u=>by
   rw[Xz,Xz,PyData.eqvAll,h,t4 h t u];by_cases d:r=q<;>by_cases c:t=u<;>simp[d,c]
end
section
variable{Z W X O B1:Type}{Y:Z->LK}
theorem oR{g:W->PyData}(h:∀a b,SeqAt.noMix (g a) (g b)=true):∀t u:L W,SeqAt.noMixAll (t.map g) (u.map g)=true
 |[],[]=>by simp[SeqAt.noMixAll]
 |[],_::_=>by simp[SeqAt.noMixAll]
 |_::_,[]=>by simp[SeqAt.noMixAll]
 |r::t,q::u=>by rw[Xz,Xz,SeqAt.noMixAll,h,oR h t u];rfl
theorem tJ{g:W->PyData}(h:∀a,(g a).canLay0=true):∀l:L W,PyData.canLayAll0 (l.map g)=true
 |[]=>by simp[PyData.canLayAll0]
 |a::l=>by simp[PyData.canLayAll0,h a,tJ h l]
theorem pf{g:W->PyData}(h:∀a,(g a).depth<=n):∀l:L W,PyData.depthAll (l.map g)<=n
 |[]=>by simp[PyData.depthAll]
 |a::l=>by rw[Xz,PyData.depthAll];have:=h a;have:=pf h l;omega
def VI{e:W->D}[DecidableEq W](A:Dat e):Dat (eL e):=(λl=>.list (l.map A.py),A.dep+1,λl=>pT A.h0 l,λl=>by rw[PyData.canLay0];exact tJ A.lay l,λl=>by rw[PyData.depth];have:=pf A.depth l;omega,λa b=>by rw[PyData.eqv];exact t4 A.eqv a b,λa b=>by rw[SeqAt.noMix];exact oR A.nomix a b)
def Se{e:W->D}{c:X->D}[DecidableEq W][DecidableEq X](A:Dat e)(B:Dat c):Dat (rX e c):=(λp=>.tuple [A.py p.1,B.py p.2],A.dep+B.dep+1,λp=>by
 show(toPys [e p.1,c p.2]).map PyData.tuple=_;rw[toPys,toPys,toPys,A.h0,B.h0];rfl,λp=>by rw[PyData.canLay0];simp[PyData.canLayAll0,A.lay,B.lay],λp=>by
 rw[PyData.depth];simp only[PyData.depthAll];have:=A.depth p.1;have:=B.depth p.2;omega,λa b=>by
 rw[PyData.eqv];simp only[PyData.eqvAll,A.eqv,B.eqv];let(j,i):=a;let(h,g):=b
 by_cases f:j=h<;>by_cases d:i=g<;>simp[f,d],λa b=>by rw[SeqAt.noMix];simp[SeqAt.noMixAll,A.nomix,B.nomix])
@[simp] def cK:Z->Res (L W):=λ_=>.ok []
@[simp] def aB(a:Z->Res W)(r:Z->Res (L W)):Z->Res (L W):=λs=>(a s).bind λx=>(r s).bind λxs=>.ok (x::xs)
theorem bf:EJ Y (List.map e) bO (cK:Z->Res (L W)):=λs=>rfl
theorem ar(g:EJ Y e m c)(f:EJ Y (List.map e) n d):EJ Y (List.map e) (aM m n) (aB c d):=λs=>(g s).bnd λa=>(f s).bnd λb=>rfl
@[simp] def hZ(c:Z->Res (L W)):Z->Res (L W):=λs=>(c s).bind λxs=>if xs.length<=ak then .ok xs else .bad
theorem aY(h:EJ Y (List.map e) m c):EJ Y (eL e) (iU m) (hZ c):=λs=>(h s).bnd λxs=>by rw[Xv];exact SimR.ite rfl trivial
@[simp] def Bv(a:Z->Res W)(b:Z->Res X):Z->Res (W×X):=λs=>(a s).bind λx=>(b s).bind λy=>.ok (x,y)
@[simp] def kP(xs:L W):Res Int:=.ok xs.length
def f7(xs:L W):SimR D.int (kO (eL e xs)) (kP xs):=by show Res.ok (D.int _)=Res.ok (D.int _);rw[Xv]
def QZ(xs:L Int):SimR D.int (kO (eS xs)) (kP xs):=by show Res.ok (D.int _)=Res.ok (D.int _);rw[Xv]
def NL(xs:L W)(i:Int):jq (xs.map e) i=(jq xs i).map e:=by
 ext jq;rw[List.length_map];cases JT xs.length i with
 |none=>rfl
 |some j=>simp only[Option.bind_some,Ye]
@[simp] def mY(xs:L W)(i:Int):Res W:=match jq xs i with|some a=>.ok a|none=>.bad
def CF(xs:L W)(i:Int):SimR e (NM (xs.map e) i) (mY xs i):=by
 ext NM mY;rw[NL];cases jq xs i<;>trivial
theorem ft(xs:L W)(i:Int):SimR e (qV (eL e xs) (.int i)) (mY xs i):=CF xs i
theorem UI(xs:L Int)(i:Int):SimR D.int (qV (eS xs) (.int i)) (mY xs i):=CF xs i
theorem qf(xs:L W)(i:Int):SimR e (Gu (pd e xs) (.int i)) (mY xs i):=CF xs i
@[simp] def Vz(p:W×X):Res W:=.ok p.1
@[simp] def TH(p:W×X):Res X:=.ok p.2
theorem Pb{e:W->D}{F:D->D->Res D}{f:W->Res X}(h:∀a,SimR b (F (e a) k) (f a))(d:EJ Y e m c):EJ Y b (bn F m (aD k)) (bB f c):=λs=>(d s).bnd λa=>h a
theorem W9(p:W×X):SimR e (Gu (rX e a p) (.int 0)) (Vz p):=rfl
theorem W8(p:W×X):SimR a (Gu (rX e a p) (.int 1)) (TH p):=rfl
@[simp] def db(xs ys:L W):Res (L W):=if xs.length+ys.length<=ak then .ok (xs++ys) else .bad
def fG{e:W->D}(xs ys:L W):SimR (eL e) (iQ (eL e xs) (eL e ys)) (db xs ys):=by
 show SimR (eL e) (if (xs.map e).length+(ys.map e).length<=ak then .ok (.lst (xs.map e++ys.map e)) else .bad) (db xs ys);rw[Xv,Xv];exact SimR.ite (by show Res.ok (D.lst _)=Res.ok (D.lst _);rw[X8]) trivial
theorem DB(xs:L W):SimR (eL e) (tw (pd e xs)) (Nm xs):=rfl
theorem Ov(xs:L W):SimR (pd e) (LU (eL e xs)) (Nm xs):=rfl
@[simp] def nq(p:W×W):Res (L W):=.ok [p.1,p.2]
theorem jJ(p:W×W):SimR (pd e) (.ok (rX e e p)) (nq p):=rfl
@[simp] def NB(neg:Bool)(k:L Int)(F:DI X):Res Bool:=.ok (neg.xor (F.get k).isSome)
@[simp] def Km(F:DI X)(k:L Int):Res X:=match F.get k with|some b=>.ok b|none=>.bad
@[simp] def Xg(F:DI X)(k:L Int)(x:X):Res X:=.ok ((F.get k).getD x)
def Ox(neg:Bool)(k:L Int)(F:DI X):SimR D.bl (Cg neg (pd D.int k) (dC e F)) (NB neg k F):=by
 show Cg neg (.tup (k.map D.int)) (dC e F)=.ok (.bl (neg.xor (F.get k).isSome));ext Cg;rw[qr];simp
def sT(F:DI X)(k:L Int):SimR e (ny (dC e F) (pd D.int k)) (Km F k):=by
 show SimR e (ny (dC e F) (.tup (k.map D.int))) _;ext ny Km;rw[qr];cases F.get k<;>trivial
@[simp] def O9(cd:Z->Res (DI X))(a:Z->Res (L Int))(cx:Z->Res X):Z->Res X:=λs=>(cd s).bind λF=>(a s).bind λk=>(cx s).bind λx=>Xg F k x
theorem Ny{e:X->D}{b mk a:LK->Res D}{cd:Z->Res (DI X)}{c:Z->Res (L Int)}{cx:Z->Res X}(g:EJ Y (dC e) b cd)(f:EJ Y (pd D.int) mk c)(d:EJ Y e a cx):
 EJ Y e (J7 b mk a) (O9 cd c cx):=λs=>(g s).bnd λF=>by
 show SimR e (if true=true then _ else _) _;rw[if_pos rfl];refine(f s).bnd λk=>(d s).bnd λx=>?_;show xH (dC e F) (.tup (k.map D.int)) (e x)=.ok (e ((F.get k).getD x));ext xH;rw[qr];cases F.get k<;>rfl
@[simp] def qT(F:DI X):Res (L (L Int)):=.ok (F.map (·.1))
def xj(F:DI X):SimR (eL (pd D.int)) (vU (dC e F)) (qT F):=by
 show Res.ok (D.lst ((F.map λp=>p.1.map (Sum.inl:Int->cL)).map λk=>.tup (k.map kD)))=Res.ok (D.lst ((F.map (·.1)).map (pd D.int)));rw[X7,X7];refine congrArg (λz=>Res.ok (D.lst z)) (YQ λp _=>?_);show D.tup ((p.1.map (Sum.inl:Int->cL)).map kD)=D.tup (p.1.map D.int);rw[X7];rfl
@[simp] def JH(xs:L Int)(d:Int):Res Int:=.ok (match xs with | []=>d|x::r=>gq r x)
@[simp] def O0(xs:L Int)(d:Int):Res Int:=.ok (match xs with | []=>d|x::r=>ka r x)
theorem jc:∀l:L Int,dJ (l.map D.int)=J l
 |[]=>rfl
 |x::l=>by rw[Xz,dJ,jc l];rfl
def MT(xs:L Int)(d:Int):SimR D.int (tZ gq (eL D.int xs) (.int d)) (JH xs d):=by
 show tZ gq (.lst (xs.map D.int)) (.int d)=_;ext tZ;dsimp only;rw[jc];cases xs<;>rfl
def QY(xs:L Int)(d:Int):SimR D.int (tZ ka (eL D.int xs) (.int d)) (O0 xs d):=by
 show tZ ka (.lst (xs.map D.int)) (.int d)=_;ext tZ;dsimp only;rw[jc];cases xs<;>rfl
@[simp] def xt(xs:L Int):Res Int:=if xs.length<4000 then .ok (dd xs).length else .bad
def IB(xs:L Int):SimR D.int (tI (eL D.int xs)) (xt xs):=by
 show SimR D.int (tI (.lst (xs.map D.int))) _;ext tI xt;dsimp only;rw[jc];exact SimR.ite rfl trivial
theorem rD:∀l:L Bool,lu (l.map D.bl)=J l
 |[]=>rfl
 |x::l=>by rw[Xz,lu,rD l];rfl
@[simp] def S0(xs:L Bool):Res Bool:=.ok (xs.any id)
def UL(xs:L Bool):SimR D.bl (yz (eL D.bl xs)) (S0 xs):=by
 show yz (.lst (xs.map D.bl))=_;ext yz;dsimp only;rw[rD]
end
section
variable{Z σ' W X O B1:Type}{Y:Z->LK}{V:σ'->LK}
def Qn(Y:Z->LK)(e:W->D)(ix:L Nat):W×Z->LK:=λp=>J (e p.1)::im (Y p.2) ix
def lg(b:W->Res Bool)(te:W->Res X):L W->Res (L X)
 |[]=>.ok []
 |a::r=>(b a).calm.bind λc=>if c=true then (te a).calm.bind λx=>(lg b te r).bind λxs=>.ok (x::xs) else lg b te r
def dF(src:Z->Res (L W))(b:W×Z->Res Bool)(te:W×Z->Res X):Z->Res (L X):=λs=>(src s).bind λxs=>if xs.length<ak then lg (λa=>b (a,s)) (λa=>te (a,s)) xs else .bad
theorem gu{e:W->D}{b:Z->Res (L W)}{c:W×Z->Res Bool}{d:W×Z->Res X}
 (k:EJ Y (List.map e) src b) (j:EJ (Qn Y e ix) (id:Bool->Bool) f c) (m:EJ (Qn Y e ix) h te d):EJ Y (eL h) (pK src ix f te) (dF b c d):=λs=>(k s).bnd λxs=>by
 rw[Xv];refine SimR.ite ?_ trivial
 have g:∀l:L W,SimR (List.map h) (gP f te (im (Y s) ix) (l.map e)) (lg (λa=>c (a,s)) (λa=>d (a,s)) l):=by
  intro l
  induction l with
  |nil=>rfl
  |cons a l i=>
    rw[List.map_cons];ext gP lg;refine SimR.bnd (j (a,s)).calm λt=>SimR.ite (SimR.bnd (m (a,s)).calm λx=>SimR.bnd i λxs=>?_) i;rfl
 have:=g xs
 exact SimR.el this (λ_=>rfl) (λ_=>rfl) λ_=>trivial
theorem ml:EJ Y (id:Bool->Bool) (λ_=>.ok true) (λ_=>.ok true):=λs=>rfl
theorem cX(h:EJ Y (eL e) m c):EJ Y (List.map e) (i3 m) c:=λs=>by
 have h:=h s;ext i3;exact SimR.el h (λ_=>rfl) (λ_=>rfl) λ_=>trivial
def bN(lo hi:Int):L Int:=(List.range (hi-lo).toNat).map λi:Nat=>lo+i
noncomputable def jx(lo hi:Int):Res (L Int):=@ite _ (-(2 ^ 62)<=lo/\lo<2 ^ 62/\-(2 ^ 62)<=hi/\hi<2 ^ 62) (Classical.propDecidable _) (.ok (bN lo hi)) .bad
def Mx(lo hi:Int):(bN lo hi).map D.int=rng lo hi:=by ext bN rng;rw[List.map_map];rfl
def fQ{lo:Int}(d:-(2 ^ 62)<=lo)(c:lo<2 ^ 62)(b:-(2 ^ 62)<=hi)(a:hi<2 ^ 62):jx lo hi=.ok (bN lo hi):=by ext jx;rw[if_pos (d,c,b,a)]
theorem Ce(d:EJ Y D.int a ca)(c:EJ Y D.int b cb):EJ Y (List.map D.int) (GM a b) (aC jx ca cb):=λs=>(d s).bnd λi=>(c s).bnd λj=>by
 show SimR _ (if -(2 ^ 62)<=i/\i<2 ^ 62/\-(2 ^ 62)<=j/\j<2 ^ 62 then _ else _) _;by_cases h:-(2 ^ 62)<=i/\i<2 ^ 62/\-(2 ^ 62)<=j/\j<2 ^ 62
 .rw[Xx h,fQ h.1 h.2.1 h.2.2.1 h.2.2.2];exact congrArg Res.ok (Mx i j).symm
 .unfold jx;rw[if_neg h,if_neg h];trivial
theorem gY(c:EJ Y D.int b cb):EJ Y (List.map D.int) (lA b) (bB (jx 0) cb):=λs=>Ce (xE (a:=(0:Int)) rfl) c s
def OutC.res:OutC Z W->Res W
 |.ok a _=>.ok a
 |.exc x _=>.exc x
 |.bad=>.bad
@[simp] theorem W4(a:W)(s:Z):(OutC.ok a s).res=.ok a:=rfl
@[simp] theorem WJ(x:Nat)(s:Z):(OutC.exc x s:OutC Z W).res=.exc x:=rfl
@[simp] theorem WK:(OutC.bad:OutC Z W).res=.bad:=rfl
@[simp] def bndO(r:Res W)(s:Z)(k:W->OutC Z X):OutC Z X:=match r with
 |.ok a=>k a
 |.exc x=>.exc x s
 |.bad=>.bad
def SimO.res{b:L D->Out D}{q:OutC Z W}(h:SimO Y e (b ds) q):SimR e (mL b ds) q.res:=by
 ext mL;cases q with
 |ok a s=>rw[show b ds=_ from h];rfl
 |exc x s=>rw[show b ds=_ from h];rfl
 |bad=>trivial
def SimO.bndO{e:W->O}{r:Res O}{k:O->LK->Out B1}{l:W->OutC Z X}(h:SimR e r q)(c:∀a,SimO Y b (k (e a) (Y s)) (l a)):SimO Y b ((r.up (Y s)).bind k) (Cl.bndO q s l):=by
 cases q with
 |ok a=>rw[show r=_ from h];exact c a
 |exc x=>rw[show r=_ from h];exact rfl
 |bad=>trivial
@[simp] def WH(w:σ'->Z->Z)(s:Z):OutC σ' W->OutC Z W
 |.ok a s'=>.ok a (w s' s)
 |.exc x s'=>.exc x (w s' s)
 |.bad=>.bad
def SimO.wb{c:L D->Out D}{w:σ'->Z->Z}(d:∀s' s,iY b 0 (V s') (Y s)=Y (w s' s))(h:SimO V e (c ds) q)(s:Z):SimO Y e (iG b c ds (Y s)) (WH w s q):=by
 ext iG;cases q with
 |ok a s'=>rw[show c ds=_ from h];show Out.ok _ _=Out.ok _ _;rw[d]
 |exc x s'=>rw[show c ds=_ from h];show Out.exc _ _=Out.exc _ _;rw[d]
 |bad=>trivial
def AV{e:W->D}{r:LK->Res (L D)}{k:L D->Res B1}{c:Z->Res W}{l:W->Res O}(h:EJ Y e m c)(g:∀x,SimR a ((r (Y s)).bind λds=>k (e x::ds)) (l x)):SimR a ((aM m r (Y s)).bind k) ((c s).bind l):=by
 have h:=h s;ext aM;refine SimR.el h (λx=>?_) (λ_=>rfl) λ_=>trivial;have g:=g x;simp only[Res.bind];cases z:r (Y s)<;>rw[z]at g<;>exact g
def Qo{e:W->D}{r:LK->Res (L D)}{k:L D->LK->Out B1}{c:Z->Res W}{l:W->OutC Z O}(h:EJ Y e m c)(g:∀x,SimO Y a (((r (Y s)).up (Y s)).bind λds T=>k (e x::ds) T) (l x)):SimO Y a (((aM m r (Y s)).up (Y s)).bind k) (bndO (c s) s l):=by
 have h:=h s;ext aM;refine SimR.el h (λx=>?_) (λ_=>rfl) λ_=>trivial;have g:=g x;simp only[Res.bind];cases z:r (Y s)<;>rw[z]at g<;>exact g
theorem fV(h:EJ Y e m c)(g:EJ Y f n d):EJ Y (rX e f) (DD (aM m (aM n bO))) (Bv c d):=λs=>AV h λa=>AV g λb=>by simp only[bO,Res.bind];rw[Xx (by show 2<=ak;decide)];rfl
theorem Ib{e:W->D}{r:LK->Res (L D)}{q:Z->Res W}{l:W->Res O}(i:∀a,fA c b (e a)=true)(h:EJ Y e m q)(g:∀x,SimR f ((r (Y s)).bind λds=>mL d (e x::ds)) (l x)):SimR f (pm c b d m r (Y s)) ((q s).bind l):=(h s).bnd λx=>by rw[Xx (i x)];exact g x
theorem O1{e:W->D}{r:LK->Res (L D)}{q:Z->Res W}{l:W->OutC Z O}(j:∀a,fA c d (e a)=true)(h:EJ Y e m q)(g:∀x,SimO Y i (((r (Y s)).up (Y s)).bind λds T=>iG b f (e x::ds) T) (l x)):SimO Y i (mm c d b f m r (Y s)) (bndO (q s) s l):=SimO.bndO (h s) λx=>by rw[Xx (j x)];exact g x
variable{α0 α1 α2 α3 α4 α5:Type}{e0:α0->D}{e1:α1->D}{e2:α2->D}{e3:α3->D}{e4:α4->D}{e5:α5->D}{m0 m1 m2 m3 m4 m5:LK->Res D}{c0:Z->Res α0}{c1:Z->Res α1}{c2:Z->Res α2}{c3:Z->Res α3}{c4:Z->Res α4}{c5:Z->Res α5}{eR:O->D}{fm:L D->Out D}{w:σ'->Z->Z}{plan:L Ap}{c:Nat}{mn:Str}
@[simp] def cA(f:α0->OutC σ' O)(c0:Z->Res α0):Z->Res O:=λs=>(c0 s).bind λa=>(f a).res
@[simp] def Uf(f:α0->Res O)(c0:Z->Res α0):Z->Res O:=λs=>(c0 s).bind λa=>f a
theorem cw{f:α0->OutC σ' O}(b:∀a,SimO V eR (fm [e0 a]) (f a))(h0:EJ Y e0 m0 c0):EJ Y eR (pc fm (aM m0 bO)) (cA f c0):=λs=>AV h0 λa=>(b a).res
theorem R9{f:α0->Res O}(b:∀a,SimR eR (nu c fm [e0 a]) (f a))(h0:EJ Y e0 m0 c0):EJ Y eR (pk c fm (aM m0 bO)) (Uf f c0):=λs=>AV h0 λa=>b a
theorem qv{f:α0->OutC σ' O}(d:∀a,fA c mn (e0 a)=true)(e:∀b,SimO V eR (fm [e0 b]) (f b))(h0:EJ Y e0 m0 c0):EJ Y eR (pm c mn fm m0 bO) (cA f c0):=λs=>Ib d h0 λb=>(e b).res
@[simp] def g9(f:α0->α1->OutC σ' O)(c0:Z->Res α0)(c1:Z->Res α1):Z->Res O:=λs=>(c0 s).bind λb=>(c1 s).bind λa=>(f b a).res
@[simp] def Vk(f:α0->α1->OutC σ' O)(w:σ'->Z->Z)(c0:Z->Res α0)(c1:Z->Res α1):Z->OutC Z O:=λs=>bndO (c0 s) s λb=>bndO (c1 s) s λa=>WH w s (f b a)
theorem gM{f:α0->α1->OutC σ' O}(c:∀b a,SimO V eR (fm [e0 b,e1 a]) (f b a))(h0:EJ Y e0 m0 c0)(d:EJ Y e1 m1 c1):EJ Y eR (pc fm (aM m0 (aM m1 bO))) (g9 f c0 c1):=λs=>AV h0 λb=>AV d λa=>(c b a).res
theorem Q6{f:α0->α1->OutC σ' O}(c:∀s' s,iY plan 0 (V s') (Y s)=Y (w s' s))(d:∀b a,SimO V eR (fm [e0 b,e1 a]) (f b a))(h0:EJ Y e0 m0 c0)(e:EJ Y e1 m1 c1):NJ Y eR (mc plan fm (aM m0 (aM m1 bO))) (Vk f w c0 c1):=λs=>Qo h0 λb=>Qo e λa=>SimO.wb c (d b a) s
theorem kT{f:α0->α1->OutC σ' O}(e:∀a,fA c mn (e0 a)=true)(g:∀d b,SimO V eR (fm [e0 d,e1 b]) (f d b))(h0:EJ Y e0 m0 c0)(h:EJ Y e1 m1 c1):EJ Y eR (pm c mn fm m0 (aM m1 bO)) (g9 f c0 c1):=λs=>Ib e h0 λd=>AV h λb=>(g d b).res
@[simp] def w9(f:α0->α1->α2->OutC σ' O)(c0:Z->Res α0)(c1:Z->Res α1)(c2:Z->Res α2):Z->Res O:=λs=>(c0 s).bind λc=>(c1 s).bind λb=>(c2 s).bind λa=>(f c b a).res
@[simp] def M1(f:α0->α1->α2->OutC σ' O)(w:σ'->Z->Z)(c0:Z->Res α0)(c1:Z->Res α1)(c2:Z->Res α2):Z->OutC Z O:=λs=>bndO (c0 s) s λc=>bndO (c1 s) s λb=>bndO (c2 s) s λa=>WH w s (f c b a)
theorem Kh{f:α0->α1->α2->OutC σ' O}(d:∀c b a,SimO V eR (fm [e0 c,e1 b,e2 a]) (f c b a))(h0:EJ Y e0 m0 c0)(g:EJ Y e1 m1 c1)(e:EJ Y e2 m2 c2):EJ Y eR (pc fm (aM m0 (aM m1 (aM m2 bO)))) (w9 f c0 c1 c2):=λs=>AV h0 λc=>AV g λb=>AV e λa=>(d c b a).res
theorem t5{f:α0->α1->α2->OutC σ' O}(g:∀a,fA c mn (e0 a)=true)(h:∀e d b,SimO V eR (fm [e0 e,e1 d,e2 b]) (f e d b))(h0:EJ Y e0 m0 c0)(j:EJ Y e1 m1 c1)(i:EJ Y e2 m2 c2):EJ Y eR (pm c mn fm m0 (aM m1 (aM m2 bO))) (w9 f c0 c1 c2):=λs=>Ib g h0 λe=>AV j λd=>AV i λb=>(h e d b).res
theorem BE{f:α0->α1->α2->OutC σ' O}(h:∀a,fA c mn (e0 a)=true)(g:∀s' s,iY plan 0 (V s') (Y s)=Y (w s' s))(i:∀e d b,SimO V eR (fm [e0 e,e1 d,e2 b]) (f e d b))(h0:EJ Y e0 m0 c0)(k:EJ Y e1 m1 c1)(j:EJ Y e2 m2 c2):NJ Y eR (mm c mn plan fm m0 (aM m1 (aM m2 bO))) (M1 f w c0 c1 c2):=λs=>O1 h h0 λe=>Qo k λd=>Qo j λb=>SimO.wb g (i e d b) s
@[simp] def Qz(f:α0->α1->α2->α3->OutC σ' O)(c0:Z->Res α0)(c1:Z->Res α1)(c2:Z->Res α2)(c3:Z->Res α3):Z->Res O:=λs=>(c0 s).bind λd=>(c1 s).bind λc=>(c2 s).bind λb=>(c3 s).bind λa=>(f d c b a).res
@[simp] def Vj(f:α0->α1->α2->α3->OutC σ' O)(w:σ'->Z->Z)(c0:Z->Res α0)(c1:Z->Res α1)(c2:Z->Res α2)(c3:Z->Res α3):Z->OutC Z O:=λs=>bndO (c0 s) s λd=>bndO (c1 s) s λc=>bndO (c2 s) s λb=>bndO (c3 s) s λa=>WH w s (f d c b a)
theorem Kg{f:α0->α1->α2->α3->OutC σ' O}(e:∀d c b a,SimO V eR (fm [e0 d,e1 c,e2 b,e3 a]) (f d c b a))(h0:EJ Y e0 m0 c0)(i:EJ Y e1 m1 c1)(h:EJ Y e2 m2 c2)(g:EJ Y e3 m3 c3):EJ Y eR (pc fm (aM m0 (aM m1 (aM m2 (aM m3 bO))))) (Qz f c0 c1 c2 c3):=λs=>AV h0 λd=>AV i λc=>AV h λb=>AV g λa=>(e d c b a).res
theorem Q5{f:α0->α1->α2->α3->OutC σ' O}(i:∀a,fA c mn (e0 a)=true)(h:∀s' s,iY plan 0 (V s') (Y s)=Y (w s' s))(j:∀g e d b,SimO V eR (fm [e0 g,e1 e,e2 d,e3 b]) (f g e d b))(h0:EJ Y e0 m0 c0)(m:EJ Y e1 m1 c1)(l:EJ Y e2 m2 c2)(k:EJ Y e3 m3 c3):NJ Y eR (mm c mn plan fm m0 (aM m1 (aM m2 (aM m3 bO)))) (Vj f w c0 c1 c2 c3):=λs=>O1 i h0 λg=>Qo m λe=>Qo l λd=>Qo k λb=>SimO.wb h (j g e d b) s
end
section
variable{Z σ' W X O B1:Type}{Y:Z->LK}{eR:X->D}
@[simp] def bv(c:Z->Res W):Z->OutC Z W:=λs=>match c s with
 |.ok a=>.ok a s
 |.exc x=>.exc x s
 |.bad=>.bad
theorem aq(h:EJ Y e m c):NJ Y e (a8 m) (bv c):=λs=>by
 have h:=h s;ext bv a8;refine SimR.el h (λa=>?_) (λ_=>rfl) λ_=>trivial;rfl
@[simp] def Xi(o:OutC Z W)(k:W->Z->OutC Z X):OutC Z X:=match o with
 |.ok a s=>k a s
 |.exc x s=>.exc x s
 |.bad=>.bad
def SimO.bd{e:W->O}{r:Out O}{k:O->LK->Out B1}{l:W->Z->OutC Z X}(h:SimO Y e r q)(c:∀a s,SimO Y b (k (e a) (Y s)) (l a s)):SimO Y b (r.bind k) (Xi q l):=by
 cases q with
 |ok a s=>rw[show r=_ from h];exact c a s
 |exc x s=>rw[show r=_ from h];exact rfl
 |bad=>trivial
@[simp] def DC(g:Z->Option W)(cl:Z->Z):Z->OutC Z W:=λs=>match g s with|some a=>.ok a (cl s)|none=>.bad
theorem lE{g:Z->Option W}{cl:Z->Z}(h:∀s,rg (Y s) i=(g s).map e)(b:∀s,(Y s).set i G=Y (cl s)):NJ Y e (AW i) (DC g cl):=λs=>by
 ext AW DC;rw[h s];cases g s with
 |none=>trivial
 |some a=>show Out.ok _ _=Out.ok _ _;rw[b]
@[simp] def qj(g:Z->Option (L W))(p:Z->L W->Z)(f:L W->B1->Option (O×L W))(c:Z->Res B1):Z->OutC Z O:=λs=>match g s with
 |none=>.bad
 | some xs=>bndO (c s) s λx=>match f xs x with
   |some (r,ys)=>.ok r (p s ys)
   |none=>.bad
def lx(xs:L W)(x:W):Option (Unit×L W):=if xs.length<ak then J (j2,xs++[x]) else G
def Ia(xs:L W)(i:Int):Option (W×L W):=if 0<=i/\i<xs.length/\xs.length<=ak then xs[i.toNat]?.map λd=>(d,xs.eraseIdx i.toNat) else G
def NU{δ':Type}(e:W->D)(b:B1->D)(a:O->D)(F:L D->D->Option (D×L D))(f:L W->B1->Option (O×L W)):Prop:=∀xs x,match f xs x with
 |some (r,ys)=>F (xs.map e) (b x)=J (a r,ys.map e)
 |none=>True
theorem wa{e:W->O}:∀(xs:L W) (i:Nat),(xs.map e).eraseIdx i=(xs.eraseIdx i).map e
 |[],i=>by simp
 |x::xs,0=>by simp
 |x::xs,i+1=>by rw[Xz,YZ,YZ,Xz,wa xs i]
theorem l9{e:W->D}:NU (δ':=Unit) e e eN kx lx:=λxs x=>by
 ext lx kx;rw[List.length_map];by_cases h:xs.length<ak
 .rw[Xx h,Xx h];show J (J9 D.non (xs.map e++[e x]))=J (J9 (eN j2) ((xs++[x]).map e));rw[X8];rfl
 .rw[Xy h];trivial
theorem VC:NU (δ':=Unit) e D.int e H9 Ia:=λxs i=>by
 ext Ia H9;dsimp only;rw[List.length_map];by_cases h:0<=i/\i<xs.length/\xs.length<=ak
 · rw[Xx h,Xx h,Ye];cases xs[i.toNat]? with
   |none=>trivial
   |some a=>
     show J (J9 (e a) ((xs.map e).eraseIdx i.toNat))=J (J9 (e a) ((xs.eraseIdx i.toNat).map e));rw[wa]
 .rw[Xy h];trivial
theorem hV{get:LK->Option D}{set:LK->D->LK}{g:Z->Option (L W)}{p:Z->L W->Z}
 (j:∀s,get (Y s)=(g s).map (eL e)) (i:∀s xs,set (Y s) (eL e xs)=Y (p s xs)) (hF:NU (δ':=Unit) e b a F f) (d:EJ Y b m c):NJ Y a (iM get set F m) (qj g p f c):=λs=>by
 have d:=d s;ext iM qj;rw[j];cases g s with
 |none=>trivial
 |some xs=>
   show SimO Y a (RD set F (Y s) (xs.map e) (m (Y s))) (bndO (c s) s _);refine SimR.el d (λx=>?_) (λ_=>rfl) λ_=>trivial
   have:=hF xs x
   show SimO Y a (FJ set (Y s) (F (xs.map e) (b x))) (match f xs x with|some (r,ys)=>OutC.ok r (p s ys)|none=>.bad);cases h:f xs x with
   |none=>trivial
   |some r=>
     rw[h]at this;let(r,ys):=r;have this:F (xs.map e) (b x)=J (a r,ys.map e):=this;rw[this];show Out.ok _ _=Out.ok _ _;rw[<-i];rfl
@[simp] def SZ(g:Z->Option (L W))(p:Z->L W->Z)(c:Z->OutC Z W):Z->OutC Z Unit:=λs=>match g s with
 |none=>.bad
 | some _=>Xi (c s) λx s=>match g s with
   |none=>.bad
   |some xs=>(match lx xs x with|some (r,ys)=>.ok r (p s ys)|none=>.bad)
theorem Q7{g:Z->Option (L W)}{p:Z->L W->Z}(b:∀s,rg (Y s) i=(g s).map (eL e))(h:∀s xs,(Y s).set i (J (eL e xs))=Y (p s xs))(a:NJ Y e m c):NJ Y eN (Lr i m) (SZ g p c):=λs=>by
 have a:=a s;ext Lr SZ;rw[b];cases g s with
 |none=>trivial
 |some d=>
   show SimO Y eN ((m (Y s)).bind (AQ i)) (Xi (c s) _);refine a.bd λx s=>?_;ext AQ;rw[b];cases g s with
   |none=>trivial
   |some xs=>
     have:=l9 (e:=e) xs x
     show SimO Y eN (FJ (eJ i) (Y s) (kx (xs.map e) (e x))) (match lx xs x with|some (r,ys)=>OutC.ok r (p s ys)|none=>.bad);cases f:lx xs x with
     |none=>trivial
     |some r=>
       rw[f]at this;let(r,ys):=r;have this:kx (xs.map e) (e x)=J (eN r,ys.map e):=this;rw[this];show Out.ok _ _=Out.ok _ _;rw[<-h];rfl
end
section
variable{Z σ' W X O B1:Type}{Y:Z->LK}{eR:X->D}
@[simp] def Tj(o:OutC Z W)(k:W->Z->FlC Z X):FlC Z X:=match o with
 |.ok a s=>k a s
 |.exc x s=>.exc x s
 |.bad=>.bad
def SimS.bd{e:W->O}{k:O->LK->SO}{l:W->Z->FlC Z X}(h:SimO Y e r q)(b:∀a s,SimS Y eR (k (e a) (Y s)) (l a s)):SimS Y eR (nh r k) (Tj q l):=by
 cases q with
 |ok a s=>rw[show r=_ from h];exact b a s
 |exc x s=>rw[show r=_ from h];exact rfl
 |bad=>trivial
def SimS.ite{p:Prop}[Decidable p]{r a:SO}{q b:FlC Z X}(h:SimS Y eR r q)(h':SimS Y eR a b):SimS Y eR (if p then r else a) (if p then q else b):=by
 by_cases z:p
 .rw[Xx z,Xx z];exact h
 .rw[Xy z,Xy z];exact h'
@[simp] def az(a b:Z->FlC Z X):Z->FlC Z X:=λs=>match a s with
 |.nx s'=>b s'
 |o=>o
theorem ao(e:TJ Y eR a c)(f:TJ Y eR b d):TJ Y eR (aG a b) (az c d):=λs=>by
 have e:=e s;ext aG az;cases q:c s with
 |nx s'=>rw[q]at e;rw[show a (Y s)=_ from e];exact f s'
 |rt b s'=>rw[q]at e;rw[show a (Y s)=_ from e];rfl
 |bk s'=>rw[q]at e;rw[show a (Y s)=_ from e];rfl
 |ct s'=>rw[q]at e;rw[show a (Y s)=_ from e];rfl
 |exc x s'=>rw[q]at e;rw[show a (Y s)=_ from e];rfl
 |bad=>trivial
@[simp] def cQ:Z->FlC Z X:=λs=>.nx s
theorem bJ:TJ Y eR cz cQ:=λs=>rfl
@[simp] def cI(c:Z->OutC Z X):Z->FlC Z X:=λs=>Tj (c s) λb s=>.rt b s
theorem bz(h:NJ Y eR m c):TJ Y eR (dE m) (cI c):=λs=>SimS.bd (h s) λb s=>rfl
@[simp] def bS(c:Z->OutC Z W):Z->FlC Z X:=λs=>Tj (c s) λ_ s=>.nx s
theorem ba(h:NJ Y e m c):TJ Y eR (b8 m) (bS c):=λs=>SimS.bd (h s) λb s=>rfl
@[simp] def bI(u:W->Z->Z)(c:Z->OutC Z W):Z->FlC Z X:=λs=>Tj (c s) λa s=>.nx (u a s)
theorem Ps{e:W->D}{u:W->Z->Z}(b:∀a s,(Y s).set i (J (e a))=Y (u a s))(h:NJ Y e m c):TJ Y eR (bM i m) (bI u c):=λs=>SimS.bd (h s) λa s=>by show SO.nx _=SO.nx _;rw[b]
@[simp] def lH(t:Z->OutC Z Bool)(a b:Z->FlC Z X):Z->FlC Z X:=λs=>Tj (t s) λc s=>if c=true then a s else b s
theorem cy(e:NJ Y (id:Bool->Bool) t ct)(g:TJ Y eR a c)(f:TJ Y eR b d):TJ Y eR (kB t a b) (lH ct c d):=λs=>SimS.bd (e s) λt s=>SimS.ite (g s) (f s)
def gA(u:W->Z->Z)(body:Z->FlC Z X):L W->Z->FlC Z X
 |[],s=>.nx s
 | a::r,s=>match body (u a s) with
   |.nx s'=>gA u body r s'
   |.ct s'=>gA u body r s'
   |.bk s'=>.nx s'
   |o=>o
theorem wN{e:W->D}{f:D->LK->Option LK}{u:W->Z->Z}(g:∀a s,f (e a) (Y s)=J (Y (u a s)))(h:TJ Y eR body c):∀(xs:L W) (s:Z),SimS Y eR (xz f body (xs.map e) (Y s)) (gA u c xs s)
 |[],s=>rfl
 | a::r,s=>by
   have d:=h (u a s);rw[List.map_cons];ext xz gA;rw[g];dsimp only;cases q:c (u a s) with
   |nx s'=>rw[q]at d;rw[show body (Y (u a s))=_ from d];exact wN g h r s'
   |ct s'=>rw[q]at d;rw[show body (Y (u a s))=_ from d];exact wN g h r s'
   |bk s'=>rw[q]at d;rw[show body (Y (u a s))=_ from d];rfl
   |rt b s'=>rw[q]at d;rw[show body (Y (u a s))=_ from d];rfl
   |exc x s'=>rw[q]at d;rw[show body (Y (u a s))=_ from d];rfl
   |bad=>trivial
@[simp] def dt(src:Z->Res (L W))(u:W->Z->Z)(body:Z->FlC Z X):Z->FlC Z X:=λs=>match src s with
 |.ok xs=>gA u body xs s
 |.exc x=>.exc x s
 |.bad=>.bad
theorem di{e:W->D}{d:D->LK->Option LK}{u:W->Z->Z}(f:EJ Y (List.map e) src b)(g:∀a s,d (e a) (Y s)=J (Y (u a s)))(h:TJ Y eR body c):TJ Y eR (gp (a8 src) d body) (dt b u c):=λs=>by
 have f:=f s;ext gp a8 dt;refine SimR.el f (λxs=>?_) (λ_=>rfl) λ_=>trivial;exact wN g h xs s
def Pl(t:Z->OutC Z Bool)(body:Z->FlC Z X):Nat->Z->FlC Z X
 |0,_=>.bad
 | n+1,s=>match t s with
   | .ok true a=>(match body a with
     |.nx s'=>Pl t body n s'
     |.ct s'=>Pl t body n s'
     |.bk s'=>.nx s'
     |o=>o)
   |.ok false a=>.nx a
   |.exc x a=>.exc x a
   |.bad=>.bad
theorem GC(f:NJ Y (id:Bool->Bool) t ct)(h:TJ Y eR body c):∀n,TJ Y eR (E6 t body n) (Pl ct c n)
 |0=>λs=>trivial
 | n+1=>λs=>by
   have e:=f s;ext E6 Pl;cases q:ct s with
   |ok b d=>
     rw[q]at e;rw[show t (Y s)=_ from e];cases b with
     |false=>rfl
     |true=>
       have a:=h d;show SimS Y eR (match body (Y d) with | .nx C=>E6 t body n C | .ct C=>E6 t body n C | .bk C=>.nx C | o=>o) _;dsimp only;cases q:c d with
       |nx s'=>rw[q]at a;rw[show body (Y d)=_ from a];exact GC f h n s'
       |ct s'=>rw[q]at a;rw[show body (Y d)=_ from a];exact GC f h n s'
       |bk s'=>rw[q]at a;rw[show body (Y d)=_ from a];rfl
       |rt b s'=>rw[q]at a;rw[show body (Y d)=_ from a];rfl
       |exc x s'=>rw[q]at a;rw[show body (Y d)=_ from a];rfl
       |bad=>trivial
   |exc x d=>rw[q]at e;rw[show t (Y s)=_ from e];rfl
   |bad=>trivial
@[simp] def q8(g:Z->Option (DI W))(p:Z->DI W->Z)(b:Z->Res (L Int))(a:Z->OutC Z W):Z->FlC Z X:=λs=>Tj (a s) λx s=>match g s with
 |none=>.bad
 | some F=>(match b s with
   |.ok k=>if F.length<ak then .nx (p s (F.put k x)) else .bad
   |.exc y=>.exc y s
   |.bad=>.bad)
theorem kF{get:LK->Option D}{set:LK->D->LK}{g:Z->Option (DI W)}{p:Z->DI W->Z}(j:∀s,get (Y s)=(g s).map (dC e))(i:∀s F,set (Y s) (dC e F)=Y (p s F))
 (a:EJ Y (pd D.int) mk d) (f:NJ Y e b c):TJ Y eR (pe get set mk b) (q8 g p d c):=λs=>SimS.bd (f s) λx s=>by
 have a:=a s;rw[j];cases g s with
 |none=>trivial
 |some F=>
   show SimS Y eR (z9 set (e x) (dC e F) (Y s) (mk (Y s))) _;dsimp only;refine SimR.el a (λk=>?_) (λ_=>rfl) λ_=>trivial;show SimS Y eR (z9 set (e x) (dC e F) (Y s) (.ok (.tup (k.map D.int)))) (if F.length<ak then FlC.nx (p s (F.put k x)) else .bad);by_cases h:F.length<ak
   .rw[if_pos h];ext z9;dsimp only;rw[Kk h];show SO.nx _=SO.nx _;rw[i]
   .rw[Xy h];trivial
@[simp] def dh(d:Option X):FlC Z X->OutC Z X
 |.nx s=>(match d with|some b=>.ok b s|none=>.bad)
 |.rt b s=>.ok b s
 |.exc x s=>.exc x s
 |_=>.bad
def o7{ds:L D}{c:Z->FlC Z X}(hd:eR d=.non)(h:TJ Y eR body c)(a:ds.map J++List.replicate (k-ds.length) G=Y s):SimO Y eR (Mi.run k body ds) (dh (J d) (c s)):=by
 have h:=h s;ext Mi.run;rw[a];cases q:c s with
 |nx s'=>rw[q]at h;rw[show body (Y s)=_ from h];show Out.ok .non _=Out.ok (eR d) _;rw[hd]
 |rt b s'=>rw[q]at h;rw[show body (Y s)=_ from h];rfl
 |exc x s'=>rw[q]at h;rw[show body (Y s)=_ from h];rfl
 |_=>trivial
def jh{ds:L D}{c:Z->FlC Z X}(h:TJ Y eR body c)(a:ds.map J++List.replicate (k-ds.length) G=Y s):SimO Y eR (Mi.run k body ds) (dh G (c s)):=by
 have h:=h s;ext Mi.run;rw[a];cases q:c s with
 |rt b s'=>rw[q]at h;rw[show body (Y s)=_ from h];rfl
 |exc x s'=>rw[q]at h;rw[show body (Y s)=_ from h];rfl
 |_=>trivial
def d8{ds:L D}{c:Z->FlC Z X}(h:TJ Y eR body c)(a:ds.map J++List.replicate (k-ds.length) G=Y s):SimO Y eR (jw k body ds) (dh G (c s)):=by
 have h:=h s;ext jw;rw[a];cases q:c s with
 |rt b s'=>rw[q]at h;rw[show body (Y s)=_ from h];rfl
 |exc x s'=>rw[q]at h;rw[show body (Y s)=_ from h];rfl
 |_=>trivial
end
section
variable{Z W X:Type}{Y:Z->LK}{eR:X->D}
theorem xp{e:W->D}{g:Z->W}(h:∀s,rg (Y s) i=J (e (g s)):=by exact λ_=>rfl):EJ Y e (vr i) (pC g):=Sa h
theorem xv{g:Z->Option W}(h:∀s,rg (Y s) i=(g s).map e:=by exact λ_=>rfl):EJ Y e (vr i) (vC g):=R8 h
theorem xk{e:W->D}(h:e a=d:=by rfl):EJ Y e (aD d) (kC a):=xE h
theorem xs{e:W->D}{u:W->Z->Z}(h:NJ Y e m c)(b:∀a s,(Y s).set i (J (e a))=Y (u a s):=by exact λ_ _=>rfl):TJ Y eR (bM i m) (bI u c):=Ps b h
end
section
variable{Z σ' W X O B1 τ:Type}
theorem v4{u:W->Z->Z}{c:Z->FlC Z X}(R:τ->Z->Prop)(step:τ->W->τ):∀(l:L W) (b:τ) (s:Z),R b s->
 (∀b a s,a∈l->R b s->∃s',(c (u a s)=.nx s'\/c (u a s)=.ct s')/\R (step b a) s')->∃s',gA u c l s=.nx s'/\R (l.foldl step b) s'
 |[],b,s,h,_=>(s,rfl,h)
 | a::l,b,s,h,st=>by
   let(s2,d,g):=st b a s List.mem_cons_self h;let(s',e,h'):=v4 R step l (step b a) s2 g λb c s f=>st b c s (List.mem_cons_of_mem _ f);refine(s',?_,h');ext gA;rcases d with d|d<;>(rw[d];exact e)
def J8{u:W->Z->Z}{c:Z->FlC Z X}(R:Z->Prop)(l:L W)(s:Z)(h:R s)(st:∀a s,a∈l->R s->∃s',(c (u a s)=.nx s'\/c (u a s)=.ct s')/\R s'):∃s',gA u c l s=.nx s'/\R s':=by
 let(s',e,h'):=v4 (τ:=Unit) (λ_ s=>R s) (λ_ _=>j2) l j2 s h λ_ a s d b=>st a s d b;exact(s',e,h')
def dy{u:W->Z->Z}{c:Z->FlC Z X}(R:L W->Z->Prop)(l:L W)(s:Z)(h:R [] s)(st:∀p a r s,l=p++a::r->R p s->∃s',(c (u a s)=.nx s'\/c (u a s)=.ct s')/\R (p++[a]) s'):∃s',gA u c l s=.nx s'/\R l s':=by
 have d:∀(r p:L W) (s:Z),l=p++r->R p s->∃s',gA u c r s=.nx s'/\R l s':=by
  intro r
  induction r with
  |nil=>intro p s e h;rw[XY]at e;exact(s,rfl,by rw[e];exact h)
  |cons a r f=>
    intro p s e h;let(s2,b,g):=st p a r s e h;let(s',i,h'):=f (p++[a]) s2 (by rw[e];simp) g;refine(s',?_,h');ext gA;rcases b with b|b<;>(rw[b];exact i)
 exact d l [] s rfl h
theorem CK{t:Z->OutC Z Bool}{c:Z->FlC Z X}(R:Nat->Z->Prop)(S:Z->Prop)(st:∀n s,R n s->(t s=.ok false s/\S s)\/(t s=.ok true s/\∃m s2,m<n/\(c s=.nx s2\/c s=.ct s2)/\R m s2)):
 ∀(fuel n:Nat) (s:Z),R n s->n<fuel->∃s',Pl t c fuel s=.nx s'/\S s'
 |0,n,s,h,d=>absurd d (Nat.not_lt_zero _)
 | fuel+1,n,s,h,d=>by
   ext Pl;rcases st n s h with ⟨e,b⟩|⟨e,m,s2,i,a,f⟩
   .rw[e];exact(s,rfl,b)
   .rw[e];let(s',g,b):=CK R S st fuel m s2 f ∅;refine(s',?_,b);dsimp only;rcases a with a|a<;>(rw[a];exact g)
theorem wv{d:W->Res Bool}{te:W->Res X}(p:W->Bool)(g:W->X):∀l:L W,(∀a∈l,d a=.ok (p a))->(∀a∈l,p a=true->te a=.ok (g a))->lg d te l=.ok ((l.filter p).map g)
 |[],_,_=>rfl
 | a::l,h,f=>by
   have e:=wv p g l (λb c=>h b (List.mem_cons_of_mem _ c)) λb c=>f b (List.mem_cons_of_mem _ c);ext lg;rw[h a List.mem_cons_self];show(if p a=true then _ else _)=_;cases hp:p a with
   |true=>
     rw[Xx rfl,f a Xw hp,e,Ze,Xx hp];rfl
   |false=>rw[Xy XO,e,Ze,Xy (by rw[hp];exact XO)]
def r8{src:Z->Res (L W)}{b:W×Z->Res Bool}{te:W×Z->Res X}{l:L W}(p:W->Bool)(g:W->X)(c:src s=.ok l)(d:l.length<ak)(f:∀a∈l,b (a,s)=.ok (p a))(e:∀a∈l,p a=true->te (a,s)=.ok (g a)):
 dF src b te s=.ok ((l.filter p).map g):=by
 ext dF;rw[c];show(if l.length<ak then _ else _)=_;rw[if_pos d];exact wv p g l f e
def ik{src:Z->Res (L W)}{te:W×Z->Res X}{l:L W}(g:W->X)(b:src s=.ok l)(c:l.length<ak)(e:∀a∈l,te (a,s)=.ok (g a)):
 dF src (λ_=>.ok true) te s=.ok (l.map g):=by
 rw[r8 (λ_=>true) g b c (λ_ _=>rfl) λa d _=>e a d,List.filter_eq_self.mpr λ_ _=>rfl]
def gv(xs:L W){i:Int}(h:0<=i):jq xs i=xs[i.toNat]?:=by
 ext jq JT;rw[if_pos h];by_cases z:i<xs.length
 .rw[Xx z];rfl
 .rw[Xy z,X5 ∅];rfl
def AO(xs:L W):jq xs (-1)=xs.getLast?:=by
 ext jq JT;rw[if_neg ∅,List.getLast?_eq_getElem?];cases xs with
 |nil=>rfl
 |cons x r=>
   rw[Xx (by simp only[XD];omega)];show(x::r)[(-1+((x::r).length:Int)).toNat]?=_;rw[show(-1+((x::r).length:Int)).toNat=(x::r).length-1 by omega]
def b7(lo hi:Int):(bN lo hi).length=(hi-lo).toNat:=by ext bN;simp
def gn{lo:Int}:x∈bN lo hi↔lo<=x/\x<hi:=by
 ext bN;rw[List.mem_map];constructor
 · rintro⟨i,a,rfl⟩
   have:=Zl.mp a
   omega
 .rintro⟨c,b⟩;exact((x-lo).toNat,Zl.mpr ∅,by omega)
def mU{lo:Int}{p:L Int}(h:bN lo hi=p++x::r):x=lo+p.length/\lo<=x/\x<hi:=by
 have b:x∈bN lo hi:=by rw[h];simp
 have a:=gn.mp b;have e:(bN lo hi)[p.length]?=J x:=by rw[h,Zp (XH _),Nat.sub_self];rfl
 unfold bN at e;rw[List.getElem?_map]at e
 have c:p.length<(hi-lo).toNat:=by
  have:=b7 lo hi
  rw[h,XF,XD]at this;omega
 rw[Z9 c]at e;injection e with e
 exact(e.symm,a)
def BD(lo hi:Int):(bN lo hi).Nodup:=by
 ext bN;ext List.Nodup;rw[List.pairwise_map];refine List.Pairwise.imp ?_ (List.nodup_range (n:=(hi-lo).toNat));intro a b h z;exact h ∅
def oY{F:DI X}(h:F.get k=J v):(k,v)∈F:=by
 unfold DI.get at h;let(p,hp,rfl):=Option.map_eq_some_iff.mp h
 have:=List.find?_some hp
 have e:p.1=k:=by simpa using this
 subst e;exact List.mem_of_find?_eq_some hp
def kK{P:L Int->Prop}{F:DI X}(h:∀p∈F,P p.1)(b:P k):∀p∈F.put k v,P p.1:=by
 intro p hp;unfold DI.put at hp;split at hp
 .let(q,a,rfl):=XG.mp hp;split<;>exact h q a
 · rcases XJ.mp hp with z|z
   .exact h p z
   .rw[XM.mp z];exact b
def jA{F:DI X}:(F.put k v).length<=F.length+1:=by
 ext DI.put;split
 .rw[Xv];omega
 .rw[XF];simp
def DI.nd(F:DI X):Prop:=(F.map (·.1)).Nodup
def nM{F:DI X}(h:DI.nd F):DI.nd (F.put k v):=by
 unfold DI.nd DI.put at *;by_cases q:(F.get k).isSome=true
 · rw[Xx q,X7]
   have:(F.map ((·.1)∘λp=>if p.1=k then (p.1,v) else p))=F.map (·.1):=YQ λp _=>by
    show(if p.1=k then (p.1,v) else p).1=p.1;split<;>rfl
   rw[this];exact h
 · rw[Xy q,X8];refine Y8.mpr (h,by simp,λa d b c=>?_);have e:b=k:=by simpa using c
   subst e;rintro rfl;let(p,hp,e):=List.mem_map.mp d;apply q;ext DI.get;rw[Option.isSome_map,List.find?_isSome];exact(p,hp,by simpa using e)
def Cb{F:DI X}(h:DI.nd F)(a:(k,v)∈F):F.get k=J v:=by
 unfold DI.nd at h
 induction F with
 |nil=>cases a
 |cons p F b=>
   rw[List.map_cons,List.nodup_cons]at h;ext DI.get;rw[List.find?_cons];by_cases e:p.1=k
   · rw[Yn e];rcases XC.mp a with z|z
     .rw[<-z];rfl
     .exact absurd (XG.mpr ((k,v),z,e.symm)) h.1
   · rw[X6 e];rcases XC.mp a with z|z
     .exact absurd (by rw[<-z]) e
     .exact b h.2 z
end
section
variable{Z W X O B1:Type}{Y:Z->LK}{eR:X->D}
def eO(c:Nat):Z->FlC Z X:=λs=>.exc c s
theorem dO:TJ Y eR (d6 c) (eO c):=λs=>rfl
def Xf(free:Z->Bool):FlC Z X->FlC Z X
 |.nx s=>if free s=true then .nx s else .bad
 |_=>.bad
def LV(free:Z->Bool)(a:Nat->Bool)(cb:Z->FlC Z X)(ch:Nat->Z->FlC Z X):Z->FlC Z X:=λs=>match cb s with
 |.exc c s'=>if a c=true/\free s'=true then Xf free (ch c s') else .bad
 |.nx s'=>.nx s'
 |_=>.bad
theorem Pr{e:Nat->LK->SO}{ch:Nat->Z->FlC Z X}(k:TJ Y eR d cb)(i:∀c,TJ Y eR (e c) (ch c)):
 TJ Y eR (GB j a d e) (LV (λs=>nQ (Y s) j) a cb ch):=λs=>by
 have h:=k s;ext GB LV;cases q:cb s with
 |nx s'=>rw[q]at h;rw[show d (Y s)=_ from h];exact rfl
 |exc c s'=>
   rw[q]at h;rw[show d (Y s)=_ from h];refine SimS.ite ?_ trivial;have f:=i c s';cases g:ch c s' with
   |nx l=>rw[g]at f;rw[show e c (Y s')=_ from f];exact SimS.ite rfl trivial
   |rt b s'=>trivial
   |bk s'=>trivial
   |ct s'=>trivial
   |exc x s'=>trivial
   |bad=>trivial
 |rt b s'=>trivial
 |bk s'=>trivial
 |ct s'=>trivial
 |bad=>trivial
end
end Cl
namespace Gd
open PySem L2
def u4:bootBuiltins "ValueError" = J (.type "ValueError"):=by decide +kernel
end Gd
namespace L2
open PySem PySem.Spec PyProof.Rows
def g8{X:Cx}(K:L0)(h:X.K=K):WU X (MC K):=by subst h;exact Ml
end L2
namespace Mi
open PySem L2
def qZ:D->D->Res D
 |.lst xs,.int k=>if 0<=k then .ok (.lst (xs.drop k.toNat)) else .bad
 |.scr xs,.int k=>if 0<=k then .ok (.lst (xs.drop k.toNat)) else .bad
 |_,_=>.bad
def Ad{k:Int}(h:0<=k)(xs:L V):Af xs (J k) G=xs.drop k.toNat:=by
 ext Af;have e:HT.yF xs.length 0 (J k)=min k.toNat xs.length:=by show(if k<0 then _ else _)=_;rw[if_neg ∅]
 rw[e,HT.y8];by_cases z:k.toNat<=xs.length
 .rw[Nat.min_eq_left z,Ad4 (by rw[ZV];omega)]
 .rw[Nat.min_eq_right ∅,Nat.sub_self,Af4,List.drop_eq_nil_of_le ∅]
section
variable{Y:Cm}{E:XK}{M:L Md}{Kr:KT D V}{pr:Nat->Bool}
def qd(q:PJ Y (KC Y .F) E M ta l)(o:PJ Y (KR Y .X) E M tb j):PJ Y (KO Y (.ct .fz)) E M (Tt (MC Y.K) ta (yO tb) oA) (bn qZ l j):=by
 intro B U I0 Z H T Q R P;refine q.bnd R P λx v I U1 H1 O _ r A w N s=>o.bnd r s λy u n m i C _ R2 d t e c=>?_;have N:Cn Y I H1 x v:=N;have e:Dn Y i y u:=e;cases y with
 |int k=>
   rw[Dn]at e;subst e;refine(k,rfl,?_);cases x with
   |lst ds=>
     let(a,xs,rfl,g,f):=N;replace c:Po Y (KO Y (.ct .fz)) E M n m I0 Z i T (if 0<=k then .ok (.lst (ds.drop k.toNat)) else .bad) Q:=c;by_cases z:0<=k
     .rw[Xx z]at c;refine(a,xs,rfl,SqL.of (d.h _ _ g),λp hp=>?_);rw[Ad z];exact fH R2 c ((f.mono d.b).drop _) hp
     .rw[Xy z]at c;exact c.elim
   |scr ds=>
     let(a,xs,rfl,g,f):=N;replace c:Po Y (KO Y (.ct .fz)) E M n m I0 Z i T (if 0<=k then .ok (.lst (ds.drop k.toNat)) else .bad) Q:=c;by_cases z:0<=k
     .rw[Xx z]at c;refine(a,xs,rfl,(g.mono d.h).sq,λp hp=>?_);rw[Ad z];exact fH R2 c ((f.mono d.b).drop _) hp
     .rw[Xy z]at c;exact c.elim
   |_=>exact c.elim
 |_=>cases x<;>exact c.elim
open Classical in
end
end Mi
namespace Cl
open PySem L2 Mi
section
variable{Z W X O B1:Type}{Y:Z->LK}{eR:X->D}
@[simp] def ji(xs:L W)(k:Int):Res (L W):=if 0<=k then .ok (xs.drop k.toNat) else .bad
def qg(xs:L W)(k:Int):SimR (eL e) (qZ (eL e xs) (.int k)) (ji xs k):=by
 show SimR (eL e) (if 0<=k then .ok (.lst ((xs.map e).drop k.toNat)) else .bad) (if 0<=k then .ok (xs.drop k.toNat) else .bad);rw[<-Ag7];exact SimR.ite rfl trivial
open Classical in
end
end Cl
namespace Mi
open PySem L2
def xD(xs:L D)(x:D):Option (D×L D):=match x with
 |.lst ys=>if xs.length+ys.length<=ak then J (.non,xs++ys) else G
 |_=>G
section
variable{Y:Cm}{E:XK}{M:L Md}{K:L0}{t:TE}{get:LK->Option D}{set:LK->D->LK}
theorem kc{g:LK->Res D}(p:Pth Y M t get set)(l:PJ Y (KR Y .F) E M te g):MJ Y (KR Y .F) E M (Fe K "list" Do t (bX te dP)) (iM get set xD g):=
 JC (f:=xD) p l λB U H a ds xs x u d es Q bu uh n i e c k=>by
  cases x with
  |lst ys=>
    have e:Dn Y B (.lst ys) u:=e;rw[Dn]at e;let(b,j,rfl,m,h):=e;replace c:(if ds.length+ys.length<=ak then J (J9 D.non (ds++ys)) else G)=J (J9 d es):=c;by_cases z:ds.length+ys.length<=ak
    .rw[Xx z]at c;cases c;exact(a,b,xs,j,rfl,rfl,n,uh _ _ (bu _ _ m),Yz (fU (by rw[<-i.len,<-h.len];exact z)),k .non _ (by rw[Dn]) (i.append h))
    .rw[Xy z]at c;cases c
  |_=>cases c
end
end Mi
namespace Cl
open PySem L2 Mi
section
variable{Z W X O B1:Type}{Y:Z->LK}
def uZ(xs ys:L W):Option (Unit×L W):=if xs.length+ys.length<=ak then J (j2,xs++ys) else G
theorem v9{e:W->D}:NU (δ':=Unit) e (eL e) eN xD uZ:=λxs ys=>by
 ext uZ;by_cases h:xs.length+ys.length<=ak
 .rw[Xx h];show(if (xs.map e).length+(ys.map e).length<=ak then J (J9 D.non (xs.map e++ys.map e)) else G)=J (J9 (eN j2) ((xs++ys).map e));rw[Xv,Xv,Xx h,X8];rfl
 .rw[Xy h];trivial
end
end Cl
namespace L2
open PySem PySem.Spec PyProof.Rows PySem.W
def cO{W:Type}(c:Nat->Nat->Bool):KasT W->W
 |.ret a=>a
 |.ask i j k=>cO c (k (c i j))
def KasIn{W:Type}(n:Nat)(R:W->Prop):KasT W->Prop
 |.ret a=>R a
 |.ask i j k=>i<n/\j<n/\∀b,KasIn n R (k b)
theorem KasIn.bind{W X:Type}{R:W->Prop}{S:X->Prop}{f:W->KasT X}:∀{t:KasT W},KasIn n R t->(∀a,R a->KasIn n S (f a))->KasIn n S (t.bind f)
 |.ret a,h,c=>c a h
 |.ask i j k,h,c=>(h.1,h.2.1,λb=>KasIn.bind (h.2.2 b) c)
theorem KasIn.run{R:W->Prop}:∀{t:KasT W},KasIn n R t->R (cO c t)
 |.ret a,h=>h
 |.ask i j k,h=>KasIn.run (c:=c) (t:=k (c i j)) (h.2.2 (c i j))
theorem KasIn.wp{c:Nat->Nat->Bool}{b:Nat->Nat->(Bool->Shared->Prop)->Shared->Prop}(d:∀i j C,i<n->j<n->C (c i j) s->b i j C s){Q:W->Shared->Prop}:∀{t:KasT W},KasIn n R t->Q (cO c t) s->t.kasWp b Q s
 |.ret a,_,q=>q
 |.ask i j k,h,q=>d i j _ h.1 h.2.1 (KasIn.wp d (h.2.2 (c i j)) q)
def Bd(n:Nat)(p:Array Nat):Prop:=p.size=n/\∀x∈p,x<n
def Bd.at{p:Array Nat}(h:Bd n p)(a:0<n)(i:Nat):p.getD i 0<n:=by
 rw[Yo];by_cases hi:i<p.size
 .rw[Yy hi];exact h.2 _ (Array.getElem_mem hi)
 .rw[Ad1 ∅];exact a
theorem Bd.of{p q:Array Nat}(h:Bd n p)(e:q.Perm p)(z:q.size=p.size):Bd n q:=(z.trans h.1,λx a=>h.2 x (e.mem_iff.mp a))
theorem Bd.rev(h:Bd n p)(i j:Nat):Bd n (kas_rev p i j):=h.of (mirror_perm _ _ _ _) (mirror_size _ _ _ _)
theorem Bd.bub(h:Bd n p)(i j:Nat):Bd n (bubble p i j):=h.of (bubble_perm _ _ _) (bubble_size _ _ _)
section
variable{n:Nat}(hn:0<n)
include hn
theorem B9{p:Array Nat}(h:Bd n p):∀f k,KasIn n (λ_=>True) (kas_asc p f k)
 |0,k=>trivial
 | f+1,k=>(h.at hn _,h.at hn _,λb=>by
   cases b with
   |true=>dsimp only;rw[if_pos rfl];trivial
   |false=>dsimp only;rw[if_neg Bool.false_ne_true];exact B9 h f (k+1))
theorem rV:∀f (p:Array Nat) k q,Bd n p->KasIn n (λr=>Bd n r.1) (kas_desc f p k q)
 |0,p,k,q,h=>h
 | f+1,p,k,q,h=>(h.at hn _,h.at hn _,λb=>by
   cases b with
   |true=>
     dsimp only;rw[if_pos rfl];by_cases z:q>0
     .rw[Xx z];exact rV f _ _ _ (h.rev _ _)
     .rw[Xy z];exact rV f _ _ _ h
   |false=>
     dsimp only;rw[if_neg Bool.false_ne_true];refine(h.at hn _,h.at hn _,λd=>?_);cases d with
     |true=>dsimp only;rw[if_pos rfl];exact h
     |false=>dsimp only;rw[if_neg Bool.false_ne_true];exact rV f _ _ _ h)
theorem zP{p:Array Nat}(h:Bd n p)(a b:Nat):KasIn n (λr=>Bd n r.2) (kas_tail3 a b p):=(B9 hn (h.rev 0 a) _ _).bind λm _=>h.rev 0 a
theorem qW{p:Array Nat}(h:Bd n p)(a b:Nat):KasIn n (λr=>Bd n r.2) (kas_descPart a b p):=(rV hn _ _ _ _ h).bind λr c=>by
 by_cases z:r.2.2>0
 .rw[Xx z];exact zP hn (c.rev _ _) _ _
 .rw[Xy z];exact zP hn c _ _
theorem JX{p:Array Nat}(h:Bd n p)(b:Nat):KasIn n (λr=>Bd n r.2) (kas_count b p):=(B9 hn h _ _).bind λm _=>by
 by_cases z:(m==b)=true
 .rw[Xx z];exact h
 · rw[Xy z];by_cases y:m>1
   · rw[Xx y];refine(h.at hn _,h.at hn _,λc=>?_);cases c with
     |true=>dsimp only;rw[if_pos rfl];exact h
     |false=>dsimp only;rw[if_neg Bool.false_ne_true];exact qW hn (h.rev _ _) _ _
   .rw[Xy y];exact qW hn h _ _
theorem tO{p:Array Nat}(h:Bd n p)(k:Nat):∀f l r,KasIn n (λ_=>True) (kas_place p k f l r)
 |0,l,r=>trivial
 | f+1,l,r=>by
   ext kas_place;by_cases z:l>=r
   .rw[Xx z];trivial
   · rw[Xy z];refine(h.at hn _,h.at hn _,λc=>?_);cases c with
     |true=>dsimp only;rw[if_pos rfl];exact tO h k f _ _
     |false=>dsimp only;rw[if_neg Bool.false_ne_true];exact tO h k f _ _
theorem JY:∀f (p:Array Nat) k,Bd n p->KasIn n (Bd n) (kas_bin f p k)
 |0,p,k,h=>h
 |f+1,p,k,h=>(tO hn h k _ _ _).bind λl _=>JY f _ _ (h.bub _ _)
def DO:KasIn n (Bd n) (kas_sort n):=by
 have h0:Bd n (List.toArray (List.range n)):=(by simp,λx b=>by simpa using b);refine(JX hn h0 n).bind λr a=>?_;by_cases z:r.1<n
 .rw[Xx z];exact JY hn _ _ _ a
 .rw[Xy z];exact a
end
def bF(a:L (L Int)):L Nat:=if a.length<2 then List.range a.length else (cO (λi j=>HT.cU (a.getD i []) (a.getD j [])) (kas_sort a.length)).toList
def j6(a:L (L Int)):(bF a).length=a.length/\∀i∈bF a,i<a.length:=by
 ext bF;by_cases h:a.length<2
 .rw[Xx h];exact(ZJ,λi hi=>Zl.mp hi)
 · rw[Xy h]
   have:=(DO (n:=a.length) ∅).run (c:=λi j=>HT.cU (a.getD i []) (a.getD j []))
   exact(by rw[YD];exact this.1,λi hi=>this.2 i (by simpa using hi))
def pick{W:Type}(l:L W)(p:L Nat):L W:=p.filterMap λi=>l[i]?
def lR{X:Type}(f:W->X)(l:L W)(p:L Nat):pick (l.map f) p=(pick l p).map f:=by
 ext pick;rw[List.map_filterMap];congr 1;funext i;rw[List.getElem?_map]
def yB(h:Heap)(v:Value)(ks:L Int):Prop:=∃a o xs n,v=.ref a/\h.get? a=J o/\o.cls=.type "tuple" /\ o.data=.seq xs n/\IntsAre xs.toList ks
def IntTups(h:Heap):L Value->L (L Int)->Prop
 |[],[]=>True
 |v::vs,k::ks=>yB h v k/\IntTups h vs ks
 |_,_=>False
theorem IntTups.len:∀{vs:L Value} {a:L (L Int)},IntTups h vs a->vs.length=a.length
 |[],[],_=>rfl
 |[],_::_,h=>h.elim
 |_::_,[],h=>h.elim
 |v::vs,k::ks,h=>by rw[XD,XD,h.2.len]
theorem IntTups.get:∀{vs:L Value} {a:L (L Int)} {i:Nat},IntTups h vs a->i<a.length->yB h (vs.getD i .none) (a.getD i [])
 |[],[],_,_,hi=>by simp at hi
 |[],_::_,_,h,_=>h.elim
 |_::_,[],_,h,_=>h.elim
 |v::vs,k::ks,0,h,_=>h.1
 |v::vs,k::ks,i+1,h,hi=>IntTups.get (i:=i) h.2 (by simpa using hi)
theorem IntTups.mono{h h':Heap}:∀{vs:L Value} {c:L (L Int)},IntTups h vs c->(∀b o,h.get? b=J o->o.cls=.type "tuple" -> h'.get? b=J o)->IntTups h' vs c
 |[],[],_,_=>trivial
 |[],_::_,h,_=>h.elim
 |_::_,[],h,_=>h.elim
 |v::vs,k::ks,h,e=>(let (a,o,xs,n,i,g,d,f):=h.1;(a,o,xs,n,i,e _ _ g d,d,f),h.2.mono e)
section
variable{prog:Program}{w:World}{A:Around}{E:L3}{s:Shared}
def JE{Q:Bool->Shared->Prop}:∀{xs ys:L Value} {ks c:L Int} (i:Nat) (a:Bool),IntsAre xs ks->IntsAre ys c->Q (if (ks.zip c).all (λp=>p.1==p.2) then a else HT.cU ks c) s->KatLex prog w A b a Q (xs.zip ys) i s:=by
 intro xs ys ks c i a k
 induction k generalizing ys c i with
 |nil=>intro _ q;simpa [KatLex] using q
 |cons n t l h=>
   intro j;cases j with
   |nil=>intro q;simpa [KatLex] using q
   |cons m u d=>
     intro q;rw[Ab0];refine kat_cons (wpAny_eqBool_int ?_);by_cases e:n=m
     .subst e;rw[YT];refine kat_yes (h (i+1) d ?_);have f:=q;rw[Ab0,Ag6,YT,Bool.true_and,HT.dI,Xx rfl]at f;exact f
     · rw[Yv.mpr e];refine kat_no ?_
       have g:Q (decide (n<m)) s:=by
        simpa [HT.dI,e] using q
       cases b&&i==0 with
       |true=>exact oneLt_int g
       |false=>exact kat_one _ _ (PyProof.Rows.lt_int g)
def DH:∀{ks a:L Int},(ks.zip a).all (λp=>p.1==p.2)=true->HT.cU ks a=decide (ks.length<a.length)
 |[],[],_=>rfl
 |[],_::_,_=>by rw[HT.tE];simp
 |_::_,[],_=>by rw[HT.tF];simp
 | k::ks,j::a,h=>by
   rw[Ab0,Ag6,Yd]at h;have e:k=j:=by simpa using h.1
   rw[HT.dI,Xx e,DH h.2];simp
def RC{Q:Bool->Shared->Prop}(h:yB s.heap x ks)(g:yB s.heap y d)(q:Q (HT.cU ks d) s):wpAny (model prog w) A (keyLt' (tuples' b) x y) Q E s:=by
 let(a,t,xs,n,rfl,j,_,r,f):=h;let(c,oc,ys,m,rfl,i,_,o,e):=g;refine kat_lt j r i o (JE 0 _ f e ?_);by_cases z:(ks.zip d).all (λp=>p.1==p.2)=true
 · rw[Xx z];have l:xs.size=ks.length:=by rw[<-YD];exact f.length
   have k:ys.size=d.length:=by rw[<-YD];exact e.length
   rw[l,k,<-DH z];exact q
 .rw[Xy z];exact q
theorem JS:∀{vs:L Value} {b:L (L Int)},IntTups s.heap vs b->(∀k∈b,k≠[])->∃fs:L Value,KatTups s.heap vs fs/\fs.length=b.length/\∀v∈fs,∃i t,v=Value.int i t
 |[],[],_,_=>([],trivial,rfl,λ_ h=>(nomatch h))
 |[],_::_,h,_=>h.elim
 |_::_,[],h,_=>h.elim
 | v::vs,k::ks,h,ne=>by
   let(fs,r,p,m):=JS h.2 λx d=>ne x (on _ d);let(a,o,xs,n,rfl,g,j,hd,hi):=h.1;have c:=ne k Xw;cases k with
   |nil=>exact absurd rfl c
   |cons z u=>
     generalize e:xs.toList=l at hi;cases hi with
     |cons _ t w=>
       refine(.int z t::fs,((a,o,xs,n,rfl,g,j,hd,?_),r),by rw[XD,XD,p],λv f=>?_)
       .rw[<-YJ,e];rfl
       · rcases XC.mp f with q|q
         .exact(z,t,q)
         .exact m v q
def GV{vs:L Value}{d:L (L Int)}{P:PySem.Fin->Shared->Prop}(H:s.heap.get? a=J (seqObj "list" vs.toArray n))(O:IntTups s.heap vs d)(ne:∀k∈d,k≠[])(h64:d.length<64)
 (h:∀h' c,(∀b o,b≠a->s.heap.get? b=J o->h'.get? b=J o)->h'.get? a=J (seqObj "list" (pick vs (bF d)).toArray c)->P (.done (.ret .none)) {s with heap:=h'}):
 wpAny (model prog w) A (Builtin.«list.sort» ([.ref a],[])) P E s:=by
 have ln:=O.len;have hlt:a<s.heap.objs.size:=XI H;have V:=Zv s.heap a (Obj.mapSeq λ_=>(#[]:Array Value));obtain⟨M,F⟩:∃M,(s.heap.update a (Obj.mapSeq λ_=>(#[]:Array Value))).get? a=J (seqObj "list" #[] M):=(_,get?_update_seq H λ_=>#[]);rw[list_sort_plain];refine XA (listItems_at H rfl ?_);refine XA (listUpdate_at H rfl ?_ (by rw[XN,Zo];omega) (YM _));refine XA (seqEpoch_at F rfl ?_);refine XA (wpAny_newTuple ?_ (by show vs.length<=_;rw[Zo];omega));refine XA (wpAny_newList ?_ (YM _));refine Zy ?_;have keep:∀b o,b≠a->s.heap.get? b=J o->(((s.heap.update a (Obj.mapSeq λ_=>(#[]:Array Value))).push (seqObj "tuple" vs.toArray 0)).push (seqObj "list" #[] 0)).get? b=J o:=λb o u e=>XB _ (XB _ ((V.2 b u).trans e));have g:(((s.heap.update a (Obj.mapSeq λ_=>(#[]:Array Value))).push (seqObj "tuple" vs.toArray 0)).push (seqObj "list" #[] 0)).get? a=J (seqObj "list" #[] M):=XB _ (XB _ F);show wpAny (model prog w) A _ P E {s with heap:=((s.heap.update a (Obj.mapSeq λ_=>(#[]:Array Value))).push (seqObj "tuple" vs.toArray 0)).push (seqObj "list" #[] 0)};generalize ((s.heap.update a (Obj.mapSeq λ_=>(#[]:Array Value))).push (seqObj "tuple" vs.toArray 0)).push (seqObj "list" #[] 0)=f at keep g;have y:IntTups f vs d:=O.mono λb o e hc=>keep b o (λz=>by subst z;rw[H]at e;cases e;have I0:Value.type "list" = Value.type "tuple" := hc;exact absurd I0 ()) e
 have I:∀out:Array Value,out=(pick vs (bF d)).toArray->out.size<=sizeLine+1->wpAny (model prog w) A (Builtin.List.listUpdate (.ref a) λ_=>out) (λ_ s2=>P (.done (.ret .none)) s2) E {s with heap:=f}:=λout e Z=>by
  refine listUpdate_at (s:={s with heap:=f}) g rfl ?_ (YM _) Z;have s2:=Zv f a (Obj.mapSeq λ_=>out);obtain⟨N,K⟩:∃N,(f.update a (Obj.mapSeq λ_=>out)).get? a=J (seqObj "list" out N):=(_,get?_update_seq g λ_=>out);exact h _ N (λb o u eb=>(s2.2 b u).trans (keep b o u eb)) (by rw[K,e])
 have D:(pick vs (bF d)).toArray.size<=sizeLine+1:=by
  rw[XN]
  have:=List.length_filterMap_le (λi=>vs[i]?) (bF d)
  have:=(j6 d).1
  ext pick;rw[sizeLine_eq];omega
 dsimp only;by_cases B1:vs.length<2
 · have m:vs.toArray.size<2:=by rw[XN];exact B1
   rw[if_pos m,if_pos m];refine wpAny_bind (wpAny_pure (wpAny_bind (wpAny_pure ?_)));dsimp only;refine wpAny_bind (seqEpoch_at (s:={s with heap:=f}) g rfl ?_)
   have B:(arrOf (SortSt.mk' general' (vs.toArray.zip vs.toArray) #[] 7 G)).map (·.2)=(pick vs (bF d)).toArray:=by
    have e0:arrOf (SortSt.mk' general' (vs.toArray.zip vs.toArray) #[] 7 G)=vs.toArray.zip vs.toArray:=rfl
    have e2:pick vs (bF d)=vs:=by
     ext bF pick;rw[if_pos ∅,<-ln]
     match vs,B1 with
     |[],_=>rfl
     |[x],_=>rfl
    rw[e0,e2]
    match vs,B1 with
    |[],_=>simp
    |[x],_=>simp
   refine XA (YO (I _ B (by rw[B];exact D)) (λ_ s2 q=>?_) λ_ _ e=>e);simp only[bne_self_eq_false,Zg,Z1];exact XQ q
 · have m:¬ vs.toArray.size<2:=by rw[XN];exact B1
   rw[Xy m,Xy m];let(fs,W,kl,X):=JS (s:={s with heap:=f}) y ne;refine XA (kat_kind (s:={s with heap:=f}) (T:=.type "int") W ∅ (λv hv=>by let(i,t,rfl):=X v hv;exact .now) () ?_)
   refine XA (YO (kat_run (ks:=vs) (vs:=vs) (Q:=λr s'=>s'={s with heap:=f}/\(arrOf r).map (·.2)=(pick vs (bF d)).toArray/\failedOf r=G)
    (G:=λp s'=>s'={s with heap:=f}/\p=cO (λi j=>HT.cU (d.getD i []) (d.getD j [])) (kas_sort vs.length)) rfl ∅ ∅ (λp r s' a1 a2 a3 U=>?_) ?_) ?_ λ_ _ e=>e)
   · refine(U.1,?_,a3);rw[kat_snds rfl a2];congr 1
     have hp:p.toList=bF d:=by
      ext bF;rw[if_neg ∅,U.2,ln]
     rw[hp];ext pick;have u:=(j6 d).2;generalize bF d=l at u
     induction l with
     |nil=>rfl
     |cons i l Y=>
       have hi:i<vs.length:=by rw[ln];exact u i Xw
       rw[Xz,Y λj R=>u j (on _ R),Zc,XS hi];simp[XV,XS hi]
   .refine(DO (n:=vs.length) ∅).wp (c:=λi j=>HT.cU (d.getD i []) (d.getD j [])) (λi j C hi R q=>?_) (rfl,rfl);exact RC (s:={s with heap:=f}) (y.get ∅) (y.get ∅) q
   .rintro⟨⟨⟩,r⟩ s' ⟨rfl,B,S⟩;dsimp only at B S ⊢;refine wpAny_bind (seqEpoch_at (s:={s with heap:=f}) g rfl ?_);refine wpAny_bind (wpAny_mono (I _ B (by rw[B];exact D)) (λ_ s2 q=>?_) λ_ _ e=>e);rw[S];simp only[bne_self_eq_false,Bool.false_eq_true,if_false];exact wpAny_pure q
end
section
variable{X:Cx}{K:L0}
def TupsI(H:Hp):L Addr->L (L Int)->Prop
 |[],[]=>True
 |a::b,k::ks=>H a=J (.tup (k.map V.int))/\TupsI H b ks
 |_,_=>False
theorem TupsI.len:∀{b:L Addr} {a:L (L Int)},TupsI H b a->b.length=a.length
 |[],[],_=>rfl
 |[],_::_,h=>h.elim
 |_::_,[],h=>h.elim
 |v::vs,k::ks,h=>by rw[XD,XD,h.2.len]
theorem TupsI.raw{s:Shared}(I:Inv X b Z H s):∀{d:L Addr} {c:L (L Int)},TupsI H d c->IntTups s.heap (d.map Value.ref) c
 |[],[],_=>trivial
 |[],_::_,h=>h.elim
 |_::_,[],h=>h.elim
 | a::d,k::ks,h=>by
   let(its,e,(o,f,g,n,hd),i):=I.tuple (a:=a) (xs:=k.map V.int) (.inl (.inl h.1));exact((a,o,_,n,rfl,f,g,hd,by simpa using tN e),h.2.raw I)
def va(l:L Addr):Vals (l.map V.ref) (l.map Value.ref):=by
 induction l with
 |nil=>exact .nil
 |cons x t a=>exact .cons rfl a
def Mz{b:L Addr}:∀{us:L Value},Vals (b.map V.ref) us->us=b.map Value.ref:=by
 induction b with
 |nil=>intro us r;cases r;rfl
 |cons a b c=>
   intro us r;cases r with
   |cons h r=>
     have h':_=Value.ref a:=h;rw[h',c r];rfl
theorem Fn{s:Shared}{vs:L Value}{d:L (L Int)}{Q:L3}(f:s.heap.get? a=J (seqObj "list" vs.toArray n))(g:IntTups s.heap vs d)(ne:∀k∈d,k≠[])(e:d.length<64)
 (h:∀h' c,(∀b o,b≠a->s.heap.get? b=J o->h'.get? b=J o)->h'.get? a=J (seqObj "list" (pick vs (bF d)).toArray c)->Q .none {s with heap:=h'}):wpAny (model prog w) A (call (.builtin "list.sort") [.ref a]) Q E s:=
 wpAny_call_entry slot_list_sort (_,f,rfl) entry_list_sort (GV f g ne e λh' c k1 k2=>(_,rfl,h h' c k1 k2)) (args_list_sort _)
def vq{A:Around}{s:Shared}{a:L (L Int)}{Q:L3}
 (g:∀R:L Value->Shared->Prop,(∀h' f,(∀b o,s.heap.get? b=J o->h'.get? b=J o)->R vs {s with heap:=h',toks:=f})->wpAny (model prog w) A.in1 (collect v) R E s)
 (j:IntTups s.heap vs a) (ne:∀k∈a,k≠[]) (i:a.length<64)
 (h:∀(d:Heap) (f:Nat) (h':Heap) (c:Nat),(∀b o,s.heap.get? b=J o->d.get? b=J o)->(∀b o,d.get? b=J o->h'.get? b=J o)->h'.get? d.objs.size=J (seqObj "list" (pick vs (bF a)).toArray c)->Q (.ref d.objs.size) {s with heap:=h',toks:=f}):
 wpAny (model prog w) A (call (.builtin "sorted") [v]) Q E s:=by
 have ln:=j.len;refine Calls.call_function_entry kind_sorted plain_sorted entry_sorted (args_sorted1 _) ?_;ext Builtin.«sorted»;refine wpAny_bind (m:=checkCount "sorted" 1 1 _) (wpAny_pure ?_);refine wpAny_bind (g _ λd f k1=>?_);refine wpAny_bind (wpAny_newList ?_ (by rw[sizeLine_eq];omega));have n:(d.push (seqObj "list" vs.toArray 0)).get? d.objs.size=J (seqObj "list" vs.toArray 0):=Heap.get?_push_size _ rfl;refine wpAny_bind (wpAny_holding (Fn (s:={s with heap:=d.push (seqObj "list" vs.toArray 0),toks:=f}) n (j.mono λb o e _=>Heap.get?_push_of_some _ (k1 b o e)) ne i λh' c k3 l=>?_));exact wpAny_pure (_,rfl,h d f h' c k1 (λb o e=>k3 b o (Nat.ne_of_lt (Heap.lt_size e)) (Heap.get?_push_of_some _ e)) l)
theorem vG(a:L Addr)(p:L Nat):pick (a.map Value.ref) p=(pick a p).map Value.ref:=lR _ _ _
def vH(l:L W){p:L Nat}(h:∀i∈p,i<l.length):(pick l p).length=p.length:=by
 ext pick
 induction p with
 |nil=>rfl
 |cons i p a=>
   rw[Zc,XS (h i Xw)];simp only[XD];rw[a λj b=>h j (on _ b)]
def Cw(E:X.calm=true):fP X (.builtin "sorted") (λxs H Q=>∃p d a,xs=[.ref p]/\SqL X.K H p (d.map V.ref)/\TupsI H d a/\(∀k∈a,k≠[])/\a.length<64/\∀l,H l=G->Q (.ref l) (upd H l (.lst ((pick d (bF a)).map V.ref)))):=by
 intro f s Z H xs us Q I r h;let(p,d,a,rfl,y,n,ne,j,q):=h;let(u,rfl,x):=Vals.one r;have g:u=Value.ref p:=x;subst g;let(its,w,pl,D):=I.list y;have C:=Mz w;subst C;have ln:=n.len;refine vq (vs:=d.map Value.ref) (λR hR=>collect_list pl.isList (hR _ s.toks λb o e=>?_) (by rw[Xv,Zo];omega)) (n.raw I) ne j λt m h' c k1 k2 B=>?_
 .have A:=XI e;rw[Heap.get?_update_ne _ _ _ _ (X4 A)];exact XB _ e
 · have v:Inv X f Z H {s with heap:=t,toks:=m}:=I.kept k1;refine(.ref t.objs.size,_,v.laid (t':=m) k2 (XH _) ?_,rfl,q _ (v.hok.fresh (XH _)));have z:(pick d (bF a)).length=a.length:=by rw[vH d λi hi=>by rw[ln];exact(j6 a).2 i hi];exact(j6 a).1
   refine(by rw[Xv,z,Zo];omega,(pick d (bF a)).map Value.ref,c,va _,?_);rw[B,vG]
def Cy(hc:X.calm=true):fP X (.builtin "sorted") (λxs H Q=>∃a g b,xs=[.ref a]/\Rd H a (.dT g)/\g.map (·.1)=b.map (λk=>k.map Sum.inl)/\(∀k∈b,k≠[])/\b.length<64/\
 ∀(O:L Addr) (l:Addr),TupsI H O b->H l=G->Q (.ref l) (upd H l (.lst ((pick O (bF b)).map V.ref)))):=by
 intro n s Z H xs us Q I r h;let(a,g,b,rfl,ha,hk,ne,M,q):=h;let(u,rfl,S):=Vals.one r;have Cv:u=Value.ref a:=S;subst Cv;let(z,hd,ys,m,o,es,ep,Y,U,D,B,hnd):=(show ObjOk X.prog X.w H s.heap a (.dT g) from ha.ok I.hok);have t:g.length=ys.length:=ZX m
 have j:es.size=ys.length:=by
  have e:=congrArg List.length B
  rwa [Xv,YD]at e
 have I0:TupsI H (ys.map λy=>y.2.1) b:=by
  have K:∀{B1:L (L cL×V)} {l2:L (L cL×Addr×Value)} {b:L (L Int)},Paired (λ(p:L cL×V) (q:L cL×Addr×Value)=>p.1=q.1/\H q.2.1=J (.tup (p.1.map kV))/\RelV p.2 q.2.2) B1 l2->B1.map (·.1)=b.map (λk=>k.map Sum.inl)->TupsI H (l2.map λy=>y.2.1) b:=by
   intro B1 l2 b hp
   induction hp generalizing b with
   |nil=>intro e;cases b with|nil=>trivial|cons _ _=>cases e
   |cons F _ T=>
     intro e;cases b with
     |nil=>cases e
     |cons k ks=>
       rw[Xz,Xz]at e;injection e with e1 e2
       refine(?_,T e2);rw[F.2.1,e1,X7];rfl
  exact K m hk
 have keys:∀d:Array Value,ItemsOf (λi v=>∃e,es[i]?=J e/\v=e.key) d es.size->d.toList=(ys.map λy=>y.2.1).map Value.ref:=λd f=>by
  apply Ab8;intro i;rw[Ye,Ye];cases N:ys[i]? with
  |none=>
    have hi:ys.length<=i:=YG.mp N;rw[X5 (by rw[YD,f.1];omega)];rfl
  |some y=>
    have hi:i<ys.length:=(XZ.mp N).1;have x:i<d.size:=by rw[f.1,j];exact hi
    let(e,he,W):=f.2 i d[i] (Yy x);have C:es.toList[i]?=J e:=by rw[YJ];exact he
    rw[B,Ye,N]at C;have ee:entryOfKey (tupleKind (cN X.prog X.w)) y=e:=Yc C;rw[YJ,Yy x,W,<-ee,vV];rfl
 have hh:X.A.in1.handled=none:=I.ok.hd hc;refine vq (vs:=(ys.map λy=>y.2.1).map Value.ref) (λR hR=>kdu_collect (Dk (ep:=ep) (es:=es) hd) hh (o,Y,U,D) (by rw[j,<-t];exact z) λh' E d kp f=>?_) (I0.raw I) ne M λF E h' c k1 k2 hS=>?_
 .rw[keys d f];exact hR h' E kp
 · have ln:=I0.len;have P:Inv X n Z H {s with heap:=F,toks:=E}:=I.kept k1;refine(.ref F.objs.size,_,P.laid (t':=E) k2 (XH _) ?_,rfl,q _ _ I0 (P.hok.fresh (XH _)));have hl:(pick (ys.map λy=>y.2.1) (bF b)).length=b.length:=by rw[vH _ λi hi=>by rw[ln];exact(j6 b).2 i hi];exact(j6 b).1
   refine(by rw[Xv,hl,Zo];omega,(pick (ys.map λy=>y.2.1) (bF b)).map Value.ref,c,va _,?_);rw[hS,vG]
def jH(h:X.K=K)(c:X.calm=true):fP X (.builtin "sorted") (λxs H Q=>∃p b a,xs=[.ref p]/\SqL K H p (b.map V.ref)/\TupsI H b a/\(∀k∈a,k≠[])/\a.length<64/\∀l,H l=G->Q (.ref l) (upd H l (.lst ((pick b (bF a)).map V.ref)))):=by subst h;exact Cw c
end
end L2
namespace Mi
open PySem L2
def ig:L D->Option (L (L Int))
 |[]=>J []
 |.tup ds::r=>(match dJ ds,ig r with|some k,J ks=>J (k::ks)|_,_=>G)
 |_::_=>G
def lB:D->Res D
 |.lst ds=>(match ig ds with|some a=>(if (∀k∈a,k≠[])/\a.length<64 then .ok (.lst (pick ds (bF a))) else .bad)|none=>.bad)
 |_=>.bad
def wK(x:D):Res D:=match x with
 |.dT ks _=>lB (.lst (ks.map λk=>.tup (k.map kD)))
 |_=>.bad
section
variable{Y:Cm}{E:XK}{M:L Md}{K:L0}
theorem qq:∀{ds:L D} {b:L (L Int)} {xs:L V},ig ds=J b->Dns Y Cv ds xs->∃f:L Addr,xs=f.map V.ref/\TupsI Cv f b
 |[],b,xs,e,h=>by rw[Dns]at h;cases e;exact([],h,trivial)
 | d::ds,b,xs,e,h=>by
   rw[Dns]at h;let(x,r,rfl,j,m):=h;cases d with
   |tup es=>
     rw[ig]at e;cases c:dJ es with
     |none=>rw[c]at e;cases e
     |some k=>
       cases g:ig ds with
       |none=>rw[c,g]at e;cases e
       |some ks=>
         rw[c,g]at e;cases e;let(f,rfl,t):=qq g m;rw[Dn]at j;let(a,ys,rfl,i,l):=j;rw[jd c l]at i;exact(a::f,rfl,i,t)
   |_=>cases e
theorem TupsI.mono(e:Same Cv d):∀{c:L Addr} {b:L (L Int)},TupsI Cv c b->TupsI d c b
 |[],[],_=>trivial
 |[],_::_,h=>h.elim
 |_::_,[],h=>h.elim
 |a::c,k::ks,h=>(e _ _ h.1,TupsI.mono e h.2)
theorem Dns.pick(h:Dns Y Cv ds xs):∀p:L Nat,Dns Y Cv (L2.pick ds p) (L2.pick xs p)
 |[]=>by show Dns Y Cv [] [];rw[Dns]
 | i::p=>by
   have a:=Dns.pick h p;unfold L2.pick at a ⊢;rw[List.filterMap_cons,List.filterMap_cons];cases e:ds[i]? with
   |none=>
     have:xs[i]?=none:=X5 (by rw[<-h.len];exact YG.mp e)
     rw[this];exact a
   |some d=>
     let(x,ex,b):=h.get e;rw[ex];dsimp only;rw[Dns];exact(x,_,rfl,b,a)
def Dz(i:PJ Y (KC Y .F) E M ta f):PJ Y (KO Y (.ct .fz)) E M
 (Gq (λxs H Q=>∃p c b,xs=[.ref p]/\SqL K H p (c.map V.ref)/\TupsI H c b/\(∀k∈b,k≠[])/\b.length<64/\∀l,H l=G->Q (.ref l) (upd H l (.lst ((L2.pick c (bF b)).map V.ref)))) (bX ta dP)) (un lB f):=by
 intro B U I0 Z H T Q R P;refine i.bnd R P λx v I U1 H1 O _ g n m N s=>?_;cases x with
 |lst ds=>
   let(a,xs,rfl,j,d):=N;replace s:Po Y (KO Y (.ct .fz)) E M I U1 I0 Z H1 T (match ig ds with|some b=>(if (∀k∈b,k≠[])/\b.length<64 then .ok (.lst (L2.pick ds (bF b))) else .bad)|none=>.bad) Q:=s;cases e:ig ds with
   |none=>rw[e]at s;exact s.elim
   |some b=>
     rw[e]at s;dsimp only at s;by_cases z:(∀k∈b,k≠[])/\b.length<64
     .rw[Xx z]at s;have d:Dns Y I ds xs:=d;let(c,rfl,t):=qq e d;refine(a,c,b,rfl,SqL.of j,TupsI.mono g.bh t,z.1,z.2,λl h=>?_);rw[<-lR];exact fH g s (d.pick _) h
     .rw[Xy z]at s;exact s.elim
 |_=>exact s.elim
def JR{ks:L (L cL)}{a:L (L Int)}(e:ig (ks.map λk=>.tup (k.map kD))=J a):ks=a.map λk=>k.map Sum.inl:=by
 have c:∀{k:L cL} {ns:L Int},dJ (k.map kD)=J ns->k=ns.map Sum.inl:=by
  intro k
  induction k with
  |nil=>intro ns e;cases e;rfl
  |cons x k d=>
    intro ns e;cases x with
    |inl i=>
      rw[Xz]at e;have e:(dJ (k.map kD)).map (i::·)=J ns:=e;let(M,b,rfl):=X9.mp e;rw[d b];rfl
    |inr i=>cases e
 induction ks generalizing a with
 |nil=>cases e;rfl
 |cons k ks d=>
   rw[Xz,ig]at e;cases b:dJ (k.map kD) with
   |none=>rw[b]at e;cases e
   |some n=>
     cases f:ig (ks.map λk=>.tup (k.map kD)) with
     |none=>rw[b,f]at e;cases e
     |some ns=>
       rw[b,f]at e;cases e;rw[c b,d f];rfl
theorem we:∀{c:L Addr} {b:L (L Int)},TupsI Cv c b->Dns Y Cv (b.map λk=>.tup (k.map D.int)) (c.map V.ref)
 |[],[],_=>by rw[YA,YA,Dns]
 |[],_::_,h=>h.elim
 |_::_,[],h=>h.elim
 | a::c,k::ks,h=>by
   rw[Xz,Xz,Dns];refine(_,_,rfl,?_,we h.2);rw[Dn];exact(a,_,rfl,h.1,qw k)
def MI{k:Kd}{A:LK->Res D}(r:PJ Y (KC Y k) E M ta A):PJ Y (KO Y (.ct .fz)) E M
 (Gq (λxs H Q=>∃a g d,xs=[.ref a]/\Rd H a (.dT g)/\g.map (·.1)=d.map (λk=>k.map Sum.inl)/\(∀k∈d,k≠[])/\d.length<64/\
 ∀(B1:L Addr) (l:Addr),TupsI H B1 d->H l=G->Q (.ref l) (upd H l (.lst ((L2.pick B1 (bF d)).map V.ref)))) (bX ta dP)) (un wK A):=by
 intro B U I0 Z H T Q R P;refine r.bnd R P λx v I U1 H1 O _ j e1 n1 N s=>?_;cases x with
 |dT ks ds=>
   let(a,g,rfl,W,S,h3):=N;replace s:Po Y (KO Y (.ct .fz)) E M I U1 I0 Z H1 T (match ig (ks.map λk=>.tup (k.map kD)) with|some d=>(if (∀k∈d,k≠[])/\d.length<64 then .ok (.lst (L2.pick (ks.map λk=>.tup (k.map kD)) (bF d))) else .bad)|none=>.bad) Q:=s;cases e:ig (ks.map λk=>.tup (k.map kD)) with
   |none=>rw[e]at s;exact s.elim
   |some d=>
     rw[e]at s;dsimp only at s;by_cases z:(∀k∈d,k≠[])/\d.length<64
     · rw[Xx z]at s;have Cv:=JR e;refine(a,g,d,rfl,W,by rw[S,Cv],z.1,z.2,λbs l C K=>?_)
       have f:∀b∈bs,∃o,H1 b=J o/\kh o:=by
        have m:∀{bs:L Addr} {d:L (L Int)},TupsI H1 bs d->∀b∈bs,∃o,H1 b=J o/\kh o:=by
         intro bs
         induction bs with
         |nil=>intro _ _ b p;cases p
         |cons c bs u=>
           intro d t b p;cases d with
           |nil=>exact t.elim
           |cons k ks=>
             rcases XC.mp p with q|q
             .rw[q];exact(_,t.1,_,rfl)
             .exact u t.2 b q
        exact m C
       have R2:Rel Y M (Mi.frz I H1 bs) (Mi.frz U1 H1 bs) I0 Z H1 T:=j.grow (du j.bh) (du j.uh) (Same.refl _) (tV j.bu) (xx j.uh) λi a r=>by
        ext Mi.frz;split
        .rename_i z;let(o,e,t):=f a z;exact(j.nt r e t).elim
        .exact j.un i a r
       have X:Gw I U1 H1 (Mi.frz I H1 bs) (Mi.frz U1 H1 bs) H1:=by
        refine((du j.bh,du j.uh,λa o q=>?_),Same.refl _,λa o q=>?_)
        · unfold Mi.frz at q;split at q
          .rename_i z;let(o',e,t):=f a z;rw[e]at q;cases q;exact .inr (.inr t)
          .exact .inl q
        · unfold Mi.frz at q;split at q
          .rename_i z;let(o',e,t):=f a z;rw[e]at q;cases q;exact .inr (.inr t)
          .exact .inl q
       have w:TupsI (Mi.frz I H1 bs) bs d:=by
        have m:∀{n:L Addr} {d:L (L Int)},(∀b∈n,b∈bs)->TupsI H1 n d->TupsI (Mi.frz I H1 bs) n d:=by
         intro n
         induction n with
         |nil=>intro d _ t;cases d with|nil=>trivial|cons _ _=>exact t.elim
         |cons c n u=>
           intro d F t;cases d with
           |nil=>exact t.elim
           |cons k ks=>exact(by ext Mi.frz;rw[if_pos (F c List.mem_cons_self)];exact t.1,u (λb p=>F b (List.mem_cons_of_mem _ p)) t.2)
        exact m (λ_ h=>h) C
       have y:(ks.map λk=>D.tup (k.map kD))=d.map λk=>.tup (k.map D.int):=by
        rw[Cv,X7];refine YQ λk _=>?_;show D.tup ((k.map Sum.inl).map kD)=_;rw[X7];rfl
       rw[y]at s;have P2:Po Y (KO Y (.ct .fz)) E M (Mi.frz I H1 bs) (Mi.frz U1 H1 bs) I0 Z H1 T (.ok (.lst (L2.pick (d.map λk=>.tup (k.map D.int)) (bF d)))) Q:=Po.at s X;rw[<-lR];exact fH R2 P2 ((we w).pick _) K
     .rw[Xy z]at s;exact s.elim
 |_=>exact s.elim
end
end Mi
namespace Cl
open PySem L2 Mi
section
variable{Z σ' W X O B1:Type}{Y:Z->LK}{V:σ'->LK}
theorem v3:∀l:L (L Int),ig (l.map (pd D.int))=J l
 |[]=>rfl
 | k::l=>by
   rw[Xz];show(match dJ (k.map D.int),ig (l.map (pd D.int)) with|some k,J ks=>J (k::ks)|_,_=>G)=_;rw[jc,v3 l]
def gD(l:L (L Int)):Res (L (L Int)):=if (∀k∈l,k≠[])/\l.length<64 then .ok (pick l (bF l)) else .bad
def oO(l:L (L Int)):SimR (eL (pd D.int)) (lB (eL (pd D.int) l)) (gD l):=by
 show SimR _ (match ig (l.map (pd D.int)) with|some a=>(if (∀k∈a,k≠[])/\a.length<64 then Res.ok (D.lst (pick (l.map (pd D.int)) (bF a))) else .bad)|none=>.bad) _;rw[v3];ext gD;dsimp only;by_cases h:(∀k∈l,k≠[])/\l.length<64
 .rw[Xx h,Xx h];show Res.ok (D.lst (pick (l.map (pd D.int)) (bF l)))=Res.ok (D.lst ((pick l (bF l)).map (pd D.int)));rw[lR]
 .rw[Xy h,Xy h];trivial
def Be(F:DI X):Res (L (L Int)):=gD (F.map (·.1))
def MS(F:DI X):SimR (eL (pd D.int)) (wK (dC e F)) (Be F):=by
 have:wK (dC e F)=lB (eL (pd D.int) (F.map (·.1))):=by
  show lB (.lst ((F.map λp=>p.1.map (Sum.inl:Int->cL)).map λk=>.tup (k.map kD)))=lB (.lst ((F.map (·.1)).map (pd D.int)));rw[X7,X7];refine congrArg (λz=>lB (D.lst z)) (YQ λp _=>?_);show D.tup ((p.1.map (Sum.inl:Int->cL)).map kD)=D.tup (p.1.map D.int);rw[X7];rfl
 rw[this];exact oO _
@[simp] def pI(g:Z->Option (L W))(p:Z->L W->Z)(k:Z->Option Int):Z->W->Z:=λs y=>match g s,k s with
 |some l,J k=>p s (l.set k.toNat y)
 |_,_=>s
end
end Cl
namespace L2
open PySem PySem.Spec PyProof.Rows
section
variable{X:Cx}{e:Expr}{te:TE}{pos:Pos}
def tFv(te:TE):TE:=λZ H Q=>te Z H λx H1=>(∃i,x=.int i/\i.natAbs.log2<1920/\Q (.str (toString i)) H1)\/∃y,x=.str y/\y.length<=sizeLine/\Q (.str y) H1
def nj(g:PE X e te):PE X (.FormattedValue e (-1) G pos) (tFv te):=by
 intro a s Z H Q I h;refine wpAny_FormattedValue_plain (cf (g a s Z H _ I h) λv j (x,H1,c,d,f)=>?_);rcases f with ⟨i,rfl,b,q⟩|⟨y,rfl,b,q⟩
 .let(t,rfl):=d;exact wpAny_formatField_int b (.str (toString i),H1,c.tok _,(_,rfl),q)
 .let(t,rfl):=d;exact wpAny_formatField_str (.str y,H1,c,(_,rfl),q) (.str y,H1,c.tok _,(_,rfl),q) b
def Lw:=Str->St->Hp->(Str->Hp->Prop)->Prop
def Vt:Lw:=λacc Z H Q=>Q acc H
def DK(te:TE)(r:Lw):Lw:=λacc Z H Q=>te Z H λx H1=>∃y,x=.str y/\(acc++y).length<=sizeLine/\r (acc++y) Z H1 Q
def WV(X:Cx)(es:L Expr)(t:Lw):Prop:=∀(a:L1) (s:Shared) (Z:St) (H:Hp) (acc:Str) (Q:Str->Hp->Prop),Inv X a Z H s->t acc Z H Q->Joins (model X.prog X.w) X.A X.xe (evalEach es X.env) acc (λout b=>∃H1,Inv X a Z H1 b/\Q out H1) s
theorem tL:WV X [] Vt:=λa s Z H acc Q I h=>(H,I,h)
def cu(i:PE X e te)(g:WV X es t):WV X (e::es) (DK te t):=by
 intro a s Z H acc Q I h;rw[arm_evalEach_cons];show wpAny _ _ _ _ _ s;refine cf (i a s Z H _ I h) λv b (x,H1,j,c,d)=>?_;let(y,rfl,f,q):=d;let(t',rfl):=c;exact(y,t',rfl,f,g a b Z H1 _ Q j q)
def tJs(t:Lw):TE:=λZ H Q=>t Str.empty Z H λout H1=>out.length<=sizeLine/\Q (.str out) H1
theorem Joins.mono{Q Q':Str->Shared->Prop}(a:∀o s,Q o s->Q' o s):∀(ps:L (Sem Value)) (acc:Str) (s:Shared),Joins M A E ps acc Q s->Joins M A E ps acc Q' s
 |[],acc,s,h=>a _ _ h
 |x::r,acc,s,h=>YO h (λv b (y,t,e,z,k)=>(y,t,e,z,Joins.mono a r _ _ k)) λ_ _ e=>e
def zk(h:WV X (c::b::es) t):PE X (.JoinedStr (c::b::es) pos) (tJs t):=by
 intro a s Z H Q I q;refine wpAny_JoinedStr (Joins.mono (λo f (H1,e,z,d)=>(z,?_)) _ _ _ (h a s Z H Str.empty _ I q));exact(.str o,H1,e.tok _,(_,rfl),d)
def Dl:V->L V->Hp->VK->Prop:=λx vs H Q=>∃a b,x=.str a/\vs=[.str b]/\Q (.bl (Txt.startswith a b)) H
def Oo:V->L V->Hp->VK->Prop:=λx vs H Q=>∃a b,x=.str a/\vs=[.str b]/\Q (.bl (Txt.endswith a b)) H
def FH:Td X "str.startswith" Dl:=by
 intro c s Z H x vs v us Q I d e h;let(a,b,rfl,rfl,q):=h;let(t,rfl):=d;let(u,rfl,t',rfl):=lM e;exact SC.startswith ⟨.bl _,H,I,rfl,q⟩
def M0:Td X "str.endswith" Oo:=by
 intro c s Z H x vs v us Q I d e h;let(a,b,rfl,rfl,q):=h;let(t,rfl):=d;let(u,rfl,t',rfl):=lM e;exact SC.endswith ⟨.bl _,H,I,rfl,q⟩
theorem u9:∀{xs:L Str} {us:L Value},Vals (xs.map V.str) us->∃l:L (Str×Tok),us=strValues l/\l.map (·.1)=xs
 | [],us,h=>by
   have:=h.length
   rw[YA,Z6]at this;exact([],by rw[YY.mp this.symm];rfl,rfl)
 | x::xs,us,h=>by
   cases h with
   |cons b a=>
     let(l,d,c):=u9 a;let(t,rfl):=b;exact((x,t)::l,by rw[d];rfl,by rw[<-c];rfl)
def HQ(K:L0):V->L V->Hp->VK->Prop:=λx vs H Q=>∃sep l xs,x=.str sep/\vs=[.ref l]/\SqL K H l (xs.map V.str)/\JoinOk sep xs=true/\Q (.str (Txt.join sep xs)) H
def MZ:Td X "str.join" (HQ X.K):=by
 intro a s Z H x vs v us Q I b c h;let(sep,l,xs,rfl,rfl,e,hok,q):=h;let(t,rfl):=b;let(u,rfl,d):=lM c;cases d;let(its,r,pl,j):=I.list e;let(i,g,f):=u9 r;subst g;exact SC.join pl.isList f hok λt' k=>(.str _,H,I.tok _,(_,rfl),q)
theorem vk:∀l:L (Str×Tok),Vals ((l.map (·.1)).map V.str) (strValues l)
 |[]=>.nil
 |p::l=>.cons (p.2,rfl) (vk l)
def HL:V->L V->Hp->VK->Prop:=λx vs H Q=>∃a b,x=.str a/\vs=[.str b]/\(b.length==0)=false/\a.length<=sizeLine/\(Txt.split a b).length<=sizeLine/\∀l,H l=G->Q (.ref l) (upd H l (.lst ((Txt.split a b).map V.str)))
def sY:Td X "str.split" HL:=by
 intro f s Z H x vs v us Q I m n h;let(a,b,rfl,rfl,k,p,j,q):=h;let(t,rfl):=m;let(u,rfl,t',rfl):=lM n
 have c:∀(l:L (Str×Tok)) (i:Nat),l.map (·.1)=Txt.split a b->EP X f Z Q (.ref s.heap.objs.size) {s with toks:=i,heap:=s.heap.push {cls:=.type "list",data:=.seq (strValues l).toArray}}:=λl i e=>by
  refine(.ref s.heap.objs.size,_,I.laid (t':=i) (o:=.lst ((Txt.split a b).map V.str)) (λb o r=>XB _ r) (XH _) ?_,rfl,q _ (I.hok.fresh (XH _)));refine(by rw[Xv];exact j,strValues l,0,by rw[<-e];exact vk l,XU _ rfl)
 cases d:(decide (a.length<b.length)||decide (Builtin.Str.strKind a<Builtin.Str.strKind b))
 · cases g:(Builtin.Str.occurrences a b 0 a.length (a.length+1)).isEmpty
   · have es:Txt.split a b=Builtin.Str.partsBetween a (Builtin.Str.occurrences a b 0 a.length (a.length+1)) b.length:=(Xy (Aa0 d)).trans (Xy (Aa0 g));refine Aa7 Ac5 (Aa6 _ _ _) Ab9 (Ab1 _ _) (meets_str_split_sep a b t t' d k g p (by rw[<-es];exact j)) ?_
     have:=c (numbered s.toks (Builtin.Str.partsBetween a (Builtin.Str.occurrences a b 0 a.length (a.length+1)) b.length)) (s.toks+(Builtin.Str.partsBetween a (Builtin.Str.occurrences a b 0 a.length (a.length+1)) b.length).length) (by rw[numbered_texts,es])
     rw[<-strsFrom_eq]at this;exact this
   .refine Aa7 Ac5 (Aa6 _ _ _) Ab9 (Ab1 _ _) (meets_str_split_not_found a b t t' d k g) ?_;exact c [(a,t)] s.toks ((Xy (Aa0 d)).trans (Xx g)).symm
 .refine Aa7 Ac5 (Aa6 _ _ _) Ab9 (Ab1 _ _) (meets_str_split_cannot_occur a b t t' d) ?_;exact c [(a,t)] s.toks (Xx d).symm
def Gg:fP X (.type "int") (λxs H Q=>∃x n,xs=[.str x]/\PySem.intText? x=J n/\x.length<=640/\Q (.int n) H):=by
 intro a s Z H xs us Q I r h;let(x,n,rfl,b,c,q):=h;let(u,rfl,t,rfl):=lM r;exact PySem.W.KIN.call_text b c (.int n,H,I.tok _,(_,rfl),q)
def HK:L V->Hp->VK->Prop:=λxs H Q=>(∃i,xs=[.int i]/\i.natAbs.log2<1920/\Q (.str (toString i)) H)\/∃x,xs=[.str x]/\Q (.str x) H
def oj:fP X (.type "str") HK:=by
 intro a s Z H xs us Q I r h;rcases h with ⟨i,rfl,b,q⟩|⟨x,rfl,q⟩
 .let(u,rfl,t,rfl):=lM r;exact PySem.P.str_of_int b (.str _,H,I.tok _,(_,rfl),q)
 .let(u,rfl,t,rfl):=lM r;exact PySem.P.str_of_str (.str x,H,I,(_,rfl),q)
def mq(x:Str)(lo hi:Option Int):Str:=if ((Builtin.Str.strSliceIndices lo hi 1 x.length).length==x.length)=true then x else ⟨((Builtin.Str.strSliceIndices lo hi 1 x.length).filterMap (x.cps[·]?)).toArray⟩
def zl(h:IsPart v o):∃p:Option (Int×Tok),v=partValue p/\p.map (·.1)=o:=by
 cases h with
 |none=>exact(G,rfl,rfl)
 |int i t=>exact(J (i,t),rfl,rfl)
def HM:V->Option Int->Option Int->Hp->VK->Prop:=λx lo hi H Q=>∃z,x=.str z/\(mq z lo hi).length<=sizeLine/\Q (.str (mq z lo hi)) H
def wM:WU X HM:=by
 intro d s Z H x v m k lo hi sl Q I f i pl g h;let(z,rfl,b,q):=h;let(t,rfl):=f;let(l,rfl,el):=zl pl;let(u,rfl,j):=zl g;refine("str",_,F.slot_str_getitem.lookup,Aa6 s z t,?_);refine wpAny_getItem_str_slice (l:=l) (u:=u) (st:=G) i rfl ?_
 have e:slicePicked z l u G=Builtin.Str.strSliceIndices lo hi 1 z.length:=by
  ext slicePicked;rw[el,j]<;>rfl
 ext sliceMade;rw[e];unfold mq at q b;by_cases a:((Builtin.Str.strSliceIndices lo hi 1 z.length).length==z.length)=true
 .rw[Xx a]at q;refine Xx (c:=(((none:Option (Int×Tok)).map (·.1)).getD 1==1&&(Builtin.Str.strSliceIndices lo hi 1 z.length).length==z.length)=true) a▸?_;exact(.str z,H,I,(_,rfl),q)
 .rw[Xy a]at q b;rw[Xy (show ¬ (((none:Option (Int×Tok)).map (·.1)).getD 1==1&&_)=true from a)];exact(b,.str _,H,I.tok _,(_,rfl),q)
def Xp(x:Str):It:=(λi _=>i<x.cps.size,λi H v H'=>H'=H/\∃c,x.cps[i]?=J c/\v=.str ⟨#[c]⟩,λi _=>x.cps.size<=i)
def yK{P:Program}{w:World}{K:L0}{O:Expr}{x:Str}{t:Tok}{n:String}{a:Addr}(V:["enumerate","zip","dict_itemiterator","dict_reverseitemiterator","odict_iterator","itertools.zip_longest","itertools.pairwise"].contains n=false)
 (W:∀N:Around,N.handled=G->Walks P w N a [a] [a] x.cps.size (SignAt x) (λi h=>h.IsStrIter a n x t i)) (T:∀(A:Around) (i:Nat) (s:Shared) (Q:L3) (E:L3),s.heap.IsStrIter a n x t i->Q (.ref a) s->wpAny (model P w) A (pyIter (.ref a)) Q E s):
 Turn P w K O (Xp x) [a] a (λi h=>i<=x.cps.size/\h.IsStrIter a n x t i) where
 mem:=by simp
 obj:=λi h st b g=>by
  have e:b=a:=by simpa using g
  subst e;let(_,o,e,c,d):=st;exact(o,e,λv z=>by rw[d]at z;cases z)
 keep:=λi h h' st k=>(st.1,let (o,U,r):=st.2;(o,k a () o U,r))
 item:=by
  intro X C y D B i f s Z H E I m st l;subst C y D;let(M,I0,Y,B1,Cv,F):=m a ();refine(W X.A (I.ok.hd B)).item i s _ _ l st.2 λv h' p S j q=>?_;let(c,u,R,rfl):=S;have I1:Inv X f Z H {s with heap:=h',toks:=p}:=I.turned (λb o g e=>q b o (by simpa using g) e) M I0 B1 Cv F;let(oi,e,cc,d):=id j;exact(_,rfl,J0 (s:={s with heap:=h',toks:=p}) (n:=n) e cc d V (.str ⟨#[c]⟩,H,I1,(u,rfl),(rfl,c,R,rfl),(l,j),λb g=>(m b g).1))
 done:=by
  intro X C y D B i f s Z H E I m st l;subst C y D;let(M,I0,Y,B1,Cv,F):=m a ();have ei:i=x.cps.size:=Nat.le_antisymm st.1 l;subst ei;exact(W X.A (I.ok.hd B)).done s _ _ st.2 λh' p q=>(rfl,I.turned (λb o g e=>q b o (by simpa using g) e) M I0 B1 Cv F)
 self:=λA i s Q E st h=>T A i s Q E st.2 h
def Vw(a:TE):TI:=λZ H R=>a Z H λv H1=>∃x,v=.str x/\R (Xp x) H1
def Qw(r:PE X l i):PI X k l (Vw i):=by
 intro c s Z H R I h;refine cf (r c s Z H _ I h) λv a (x,H1,f,m,p)=>?_;let(x,rfl,q):=p;let(t,rfl):=m
 have d:∀b∈[a.heap.objs.size],kA X c H1 b:=λb d=>by
  have e:b=a.heap.objs.size:=by simpa using d
  subst e;exact f.fpOk (XH _) (f.hok.fresh (XH _))
 cases j:x.cps.all (·<128)
 .refine wpAny_pyIter_wide j ?_;exact(a.heap.objs.size,[a.heap.objs.size],_,_,H1,rfl,f.kept (t':=a.toks) λb o e=>XB _ e,yK (t:=t) (n := "str_iterator") () (λu g=>Walks.strWide g _ x t) (λ_ _ _ _ _ st h=>wpAny_pyIter_striter_wide st h),(YM _,_,XU _ rfl,rfl,rfl),d,q)
 .refine wpAny_pyIter_ascii j ?_;exact(a.heap.objs.size,[a.heap.objs.size],_,_,H1,rfl,f.kept (t':=a.toks) λb o e=>XB _ e,yK (t:=t) (n := "str_ascii_iterator") () (λu g=>Walks.strAscii g _ x t) (λ_ _ _ _ _ st h=>wpAny_pyIter_striter_ascii st h),(YM _,_,XU _ rfl,rfl,rfl),d,q)
end
def Ly(K:L0)(B1:It)(te:TE)(p:Addr)(H1:Hp)(Q:VK):Prop:=
 ∃W:Nat->Nat->L V->Hp->Prop,(∃m,W 0 m [] (upd H1 p (.lst [])))/\∀i m ys b,W i m ys b->b p=J (.lst ys)/\ys.length<sizeLine/\
  ((B1.stop i b/\Q (.ref p) b)\/(B1.go i b/\∀v c,B1.yld i b v c->∃a x y,v=.ref a/\SqT K c a [x,y]/\te [J x,J y] c λz e=>e p=J (.lst ys)/\∃d,d<m/\W (i+1) d (ys++[z]) (upd e p (.lst (ys++[z])))))
def wI(K:L0)(a:TI)(te:TE):TE:=λZ H Q=>a Z H λB1 H1=>∀p,H1 p=G->Ly K B1 te p H1 Q
section
variable{X:Cx}{pins:L1}{Z:St}{H:Hp}{s:Shared}{scope:Scope}{x y:Str}{px py pt pos:Pos}{k:Nat}{fp:L Addr}{elt iter:Expr}{te:TE}
def FU{c:Heap}(I:Inv X pins Z H s)(e:CompSc X.env.scope scope x [])(l:∀b∈fp,kA X pins H b)
 (f:∀b∈fp,b<s.heap.objs.size) (h:c.Ns s.heap.objs.size g) (k:∀b o,s.heap.get? b=J o->c.get? b=J o):
 Inv (dD X scope (bg X.env scope.names []) s.heap.objs.size [x,y] fp s H) [] [G,G] H {s with heap:=c,toks:=t₁}:=by
 have a:=zO (ix:=[]) (t₁:=t₁) I e rfl l f h k;refine((a.ok.mod,a.ok.kind,a.ok.glob,a.ok.blt,a.ok.above,a.ok.inj,a.ok.has,a.ok.cab,a.ok.hd,a.ok.frames,a.ok.stk,a.ok.exf,a.ok.bs,a.ok.bsz,a.ok.noex,a.ok.exfs,a.ok.funs,a.ok.frf),a.os,a.bare,a.base,?_,a.cell,a.free,a.freeC,a.pin,a.hok,rfl);let(m,j,_):=a.loc;refine(m,j,λi z v q d p=>?_)
 match i,d with
 |0,d=>cases d
 |1,d=>cases d
 |n+2,d=>exact absurd d ()
def rA{V:Nat->Heap->Prop}{Qe:VK}{RR:Value->Addr->Result->Shared->Prop}(O:X.calm=true)(I2:Inv X pins Z H s)(l:CompSc X.env.scope scope x [])(hv:scope.names.lookup y=J .local)(hxy:[x,y].Nodup)
 (T:Turn X.prog X.w X.K (.Tuple [.Name x px,.Name y py] k pt) B1 fp it V) (st0:V 0 s.heap) (D:∀b∈fp,kA X pins H b)
 (hte:∀C fp s₀ H₀,PE (dD X scope (bg X.env scope.names []) C [x,y] fp s₀ H₀) elt te)
 (hW:∀p,H p=G->Ly X.K B1 te p H Qe)
 (hRR:∀p C H' s',Inv X pins Z H' s'->kA X pins H' C->(∃m,s'.heap.Ns C m)->Qe (.ref p) H'->RR (.ref p) C (.ok .next) s'):
 j1 X (newList []) (λacc s₃=>j1 X (newFunctionEnv scope X.env.globals (bg X.env scope.names []) [] X.env.qual G .none (J X.env)) (λI0 s₄=>
  codeAny (model X.prog X.w) X.A (.compStart (.ListComp elt [(.Tuple [.Name x px,.Name y py] k pt,iter,[],0)] scope pos) 0 (.ref it) acc { I0 with scope:=relabel scope X.env }) (RR acc I0.locals) s₄) E s₃) E s:=by
 refine wpAny_newObj_type (wpAny_newFunctionEnv l.cell (by intro y hy;simp at hy) (λg j h=>?_) l.kind);dsimp only at j h ⊢;have hD:H s.heap.objs.size=none:=I2.hok.fresh (Nat.le_refl _)
 have I3:Inv X pins Z (upd H s.heap.objs.size (.lst [])) {s with heap:=s.heap.push j0}:=
  I2.laid (t':=s.toks) (λb u e=>XB _ e) (XH _) (YM _,[],0,.nil,XU _ rfl)
 let(W,(m0,w0),F):=hW _ hD
 have I:∀b∈fp,b<s.heap.objs.size:=λb f=>by
  let(o,e,_):=T.obj 0 _ st0 b f;exact XI e
 have hlt:∀b∈fp,b<(s.heap.push j0).objs.size:=λb f=>by
  rw[ZG];exact Ab6 (I b f)
 have hf3:∀b∈fp,kA X pins (upd H s.heap.objs.size (.lst [])) b:=λb f=>(by rw[bq (X4 (I b f))];exact(D b f).1,(D b f).2)
 have kept:∀b o,(s.heap.push j0).get? b=J o->g.get? b=J o:=λb o e=>
  h.extBut b o (X4 (XI e)) (XB _ e)
 have N:∀b o,s.heap.get? b=J o->g.get? b=J o:=λb o e=>kept b o (XB _ e);have I4:=FU (y:=y) (t₁:=s.toks+([]:L (Str×Value)).length) I3 l hf3 hlt j kept;have st4:V 0 g:=T.keep 0 _ _ st0 λb _ o e=>N b o e
 have Cv:codeAny (model X.prog X.w) X.A (.compLoop (.ListComp elt [(.Tuple [.Name x px,.Name y py] k pt,iter,[],0)] scope pos) 0 (.ref it) (.ref s.heap.objs.size) (compEnvC scope (bg X.env scope.names []) (s.heap.push j0).objs.size X.env))
  (RR (.ref s.heap.objs.size) (s.heap.push j0).objs.size) {s with heap:=g,toks:=s.toks+([]:L (Str×Value)).length}:=by
  generalize t:dD X scope (bg X.env scope.names []) (s.heap.push j0).objs.size [x,y] fp {s with heap:=s.heap.push j0} (upd H s.heap.objs.size (.lst []))=Y at I4;have hte':PE Y elt te:=by rw[<-t];exact hte _ _ _ _
  have P:Y.calm=true:=by rw[<-t];exact O
  have hg:PG Y (.Tuple [.Name x px,.Name y py] k pt) (RW Y.K 2 (zW (eB 0) (zW (eB 1) RX))):=by
   refine Ie P (oK ?_ (oK ?_ Dw))
   .rw [<-t];exact b6 hxy rfl (.inl (lookup_relabel_local l.var)) (.inr (lookup_relabel_local l.var))
   .rw [<-t];exact b6 hxy rfl (.inl (lookup_relabel_local hv)) (.inr (lookup_relabel_local hv))
  have f4:∀{H':Hp},(∀b∈fp,H' b=G)->∀b∈fp,kA Y [] H' b:=λ{H'} hn b f=>by
   rw[<-t];refine(hn b f,X4 (hlt b f),λz=>?_,.inl f,λy c e z=>?_,λp hp=>absurd (show p∈([]:L1) from hp) ())
   · rcases XC.mp (I3.stkSub b z) with q|q
     .exact(D b f).2.1 q
     .exact(D b f).2.2.1 q
   · rcases jp (uK I2 l) e with q|q
     .cases q
     .exact(D b f).2.2.2.2.1 y c q z
  have fin:∀{vo:St} {H':Hp} {s':Shared},Inv Y [] vo H' s'->Qe (.ref s.heap.objs.size) H'->RR (.ref s.heap.objs.size) (s.heap.push j0).objs.size (.ok .next) s':=λ{vo H' s'} B1 q=>by
   rw[<-t]at B1;have Ix:Inv X pins Z H' s':=I3.call' (ch:=fp) B1.os B1.base B1.hok B1.bare λb f=>((D b f).2.2.2.1,(D b f).2.1,(D b f).2.2.2.2.1,(D b f).2.2.2.2.2);refine hRR _ _ H' s' Ix (I3.fpOk (XH _) B1.free) ?_ q;let(m,hm,_):=B1.loc;exact(m,hm)
  have eY:compEnvC scope (bg X.env scope.names []) (s.heap.push j0).objs.size X.env=Y.env:=by rw[<-t];rfl
  have eP:X.prog=Y.prog:=by rw[<-t];rfl
  have eW:X.w=Y.w:=by rw[<-t];rfl
  have eK:X.K=Y.K:=by rw[<-t];rfl
  have eA:X.A=Y.A:=by rw[<-t];rfl
  have eX:Y.xe=λ_ _=>False:=by rw[<-t];rfl
  rw[eP,eW,eK]at T;rw[eK]at F;rw[eY,eP,eW,eA];refine AA (λn s'=>∃i ys S R H',Inv Y [] [S,R] H' s'/\V i s'.heap/\(∀b∈fp,H' b=G)/\W i n ys H') ?_ m0 (0,[],G,G,_,I4,st4,λb f=>(hf3 b f).1,w0);rintro n s' ⟨i,ys,S,R,H',I',st',fr',w'⟩;let(hp,hlen,U):=F i n ys H' w';rcases U with ⟨stop,q⟩|⟨go,step⟩
  .refine cf (T.done Y rfl rfl rfl P i [] s' [S,R] H' (λ_ _=>False) I' (f4 fr') st' stop) λr s1 (hr,I1)=>?_;subst hr;exact fin I1 q
  · refine cf (T.item Y rfl rfl rfl P i [] s' [S,R] H' (λ_ _=>False) I' (f4 fr') st' go) λr s1 (u,hr,h4)=>?_;subst hr;refine cf h4 λ_ s2 (v,H2,J2,r2,y2,M,fr2)=>?_;have J2p:=J2.pinned (f4 fr2) (T.obj _ _ M)
    have again:∀{B:St} {H7:Hp} {s7:Shared},Inv Y ([]++qc fp s2.heap) B H7 s7->V (i+1) s7.heap/\∀b∈fp,H7 b=none:=λ{B H7 s7} I7=>by
     refine(T.keep _ _ _ M λb f o e=>(I7.pin (b,o) (XE _ (XE _ (gI f e)))).1,λb f=>?_);let(o,e,d):=T.obj _ _ M b f;exact(I7.pin (b,o) (XE _ (XE _ (gI f e)))).2.1
    let(a,xa,Q,rfl,hsq,q3):=step v H2 y2;have hga:=hg _ s2 [S,R] H2 (.ref a) u (λB H'=>B=[J xa,J Q]/\H'=H2) J2p r2 (a,[xa,Q],rfl,hsq,rfl,xa,[Q],rfl,Q,[],rfl,rfl,rfl,rfl);rw[eX]at hga;refine cf hga λ_ s3 (σ3,H3,J3,e3,e3')=>?_;subst e3 e3';refine wpAny_tests_nil ?_;rw[Xx rfl];have hee:=hte' _ s3 _ H3 _ J3 q3;rw[eX]at hee;refine cf hee λy s5 (yv,H5,J5,r5,hp5,m',hm,w5)=>?_;have hap:=cH (X:=Y) _ s5 _ H5 (.ref s.heap.objs.size) [yv] (.ref s.heap.objs.size) [y] (λ_ H6=>H6=upd H5 s.heap.objs.size (.lst (ys++[yv]))) J5 rfl (.cons r5 .nil) (_,ys,yv,rfl,rfl,hp5,hlen,rfl);rw[eX]at hap;refine cf hap λ_ s6 (_,H6,J6,_,e6)=>?_;subst e6;exact(m',hm,i+1,ys++[yv],J xa,J Q,_,J6.unpinned,(again J6).1,(again J6).2,w5)
 exact codeAny_compStart_list Cv (T.self _ 0 _ _ _ st4 Cv)
def Ii{K:L0}(D:X.K=K)(c:X.calm=true)(hi:PI X (.Tuple [.Name x px,.Name y py] k pt) iter l)(a:CompSc X.env.scope scope x [])(r:scope.names.lookup y=J .local)(f:[x,y].Nodup)
 (g:∀C fp s₀ H₀,PE (dD X scope (bg X.env scope.names []) C [x,y] fp s₀ H₀) elt te)
 (j:closureFor scope X.env=pure (bg X.env scope.names []):=by rfl) (t:∀x,foldedSetIterable iter X.env x=pure x:=by intro _;rfl):
 PE X (.ListComp elt [(.Tuple [.Name x px,.Name y py] k pt,iter,[],0)] scope pos) (wI K l te):=by
 subst D;intro pins s Z H Q I h;rw[eval_ListComp];refine Y9 (use:=G) rfl t j a.kind a.loc (cf (hi pins s Z H _ I h) λv V F=>cf F λn s2 E=>?_);let(Y,fp,U,B1,H2,e,R,T,d,N,B):=E;subst e;refine rA (RR:=λacc C=>compPost (model X.prog X.w) X.A X.xe G (EP X pins Z Q) acc C) c R a r f T d N g B ?_;rintro p C H' s' S ⟨P,O,_,M,I0,Cv⟩ ⟨m,u⟩ q;exact(m,u,λh' i=>(.ref p,H',S.turned (t':=s'.toks) (λb o z e=>i.extBut b o z e) P O M I0 Cv,rfl,q))
def zj{K:L0}{a:Pos}(hK:X.K=K)(f:X.calm=true)(hN:X.N.Nodup)(Cv:X.N[i]?=J z)(hy:LQ X.env.scope z)(hi:PI X (.Tuple [.Name x px,.Name y py] k pt) iter O)(d:CompSc X.env.scope scope x [])(hv:scope.names.lookup y=J .local)(t:[x,y].Nodup)
 (u:∀C fp s₀ H₀,PE (dD X scope (bg X.env scope.names []) C [x,y] fp s₀ H₀) elt te)
 (B:swapsWith (.ListComp elt [(.Tuple [.Name x px,.Name y py] k pt,iter,[],0)] scope pos) (J (.Name z g)) a.line X.env=pure true:=by rfl)
 (I0:closureFor scope X.env=pure (bg X.env scope.names []):=by rfl) (hs:∀x,foldedSetIterable iter X.env x=pure x:=by intro _;rfl)
 (hf:X.fn z=true\/X.env.scope.names.lookup z=J .local:=by first | exact .inl rfl | exact .inr rfl | assumption):
 PS X (.Assign [.Name z g] (.ListComp elt [(.Tuple [.Name x px,.Name y py] k pt,iter,[],0)] scope pos) a) (pU (wI K O te) (eB i)):=by
 subst hK;intro pins s Z H D I h;rw[exec_Assign_Name_used _ _ _ _ B];refine XA (ZY (XA ?_));show wpAny _ X.A (do let _ <-comprehension (.ListComp elt [(.Tuple [.Name x px,.Name y py] k pt,iter,[],0)] scope pos) scope X.env _ (newList []) false (eval iter X.env) (J (assign (.Name z g) X.env))) _ _ s;refine XA (cf (Y9 (Q:=λ_ s'=>SP X pins D .next s') rfl hs I0 d.kind d.loc (cf (hi pins s Z H _ I h) λv s1 h1=>cf h1 λitv s2 h2=>?_)) λ_ s' hq=>XQ (XQ hq));let(it,fp,tn,B1,H2,e,I2,T,r,f2,hW):=h2;subst e;refine rA (RR:=λacc C=>compPost (model X.prog X.w) X.A X.xe (J (assign (.Name z g) X.env)) (λ_ s'=>SP X pins D .next s') acc C) f I2 d hv t T r f2 u hW ?_;rintro p C H' s' S ⟨f0,P,M,f3,f4,f5⟩ ⟨m,hm⟩ q;let(l,es,ep,F,j,V):=hm
 have Ip:Inv X (pins++[(C,l)]) Z H' s':=S.pins_of λp hp=>(XJ.mp hp).elim (λz=>S.pin p (XE _ z)) λz=>by
  have e:p=(C,l):=by simpa using z
  subst e;exact(F,f0,P,M,λv z=>by rw[j]at z;cases z)
 have hg:PG X (.Name z g) (eB i):=b6 hN Cv hy hf;refine cf (hg _ s' Z H' (.ref p) (.ref p) D.nx Ip rfl q) λ_ U (n,H3,R,Y)=>?_;have c:=R.pin (C,l) (XE _ (XE _ ()));refine(m,(l,es,ep,c.1,j,V),λh' E=>?_);exact(n,H3,(R.unpinned).turned (t':=U.toks) (λb o hb e=>E.extBut b o hb e) c.2.1 P f3 f4 f5,Y)
end
end L2
namespace Mi
open PySem L2
def yA:D->D->Res D | .str a,.str b=>if a.length+b.length<=sizeLine then .ok (.str (a++b)) else .bad|_,_=>.bad
def Q8:D->D->Res D | .str i,.str j=>.ok (.bl (!(!(Builtin.Str.occurrences j i 0 j.length 1).isEmpty)))|_,_=>.bad
abbrev ai(i:Int):Str:=toString i
def nG:D->Res D | .int i=>if i.natAbs.log2<1920 then .ok (.str (ai i)) else .bad | .str x=>.ok (.str x)|_=>.bad
def DN:D->Res D | .str x=>if x.length<=640 then (match PySem.intText? x with|some n=>.ok (.int n)|none=>.bad) else .bad|_=>.bad
def zI:D->Res D | .str x=>if x.length<=sizeLine then .ok (.int x.length) else .bad|_=>.bad
def Ni:D->D->Res D | .str z,.int i=>if z.length<=sizeLine then (match jq z.cps.toList i with|some c=>.ok (.str ⟨#[c]⟩)|none=>.bad) else .bad|_,_=>.bad
def Ah:D->D->Res D | .str z,.int i=>if (mq z (J i) G).length<=sizeLine then .ok (.str (mq z (J i) G)) else .bad|_,_=>.bad
def ub:D->D->Res D | .str z,.int i=>if (mq z G (J i)).length<=sizeLine then .ok (.str (mq z G (J i))) else .bad|_,_=>.bad
def oB:L D->Option (L Str)
 |[]=>J []
 |.str x::r=>(oB r).map (x::·)
 |_=>G
def A7(a:Str):D->Res D | .str b=>.ok (.bl (Txt.startswith a b))|_=>.bad
def R7(a:Str):D->Res D | .str b=>.ok (.bl (Txt.endswith a b))|_=>.bad
def kg(a:Str):D->Res D | .lst ds=>(match oB ds with|some xs=>if JoinOk a xs=true then .ok (.str (Txt.join a xs)) else .bad|none=>.bad)|_=>.bad
def pV(a:Str):D->Res D | .str b=>if (b.length==0)=false/\a.length<=sizeLine/\(Txt.split a b).length<=sizeLine then .ok (.lst ((Txt.split a b).map D.str)) else .bad|_=>.bad
def uQ(f:Str->D->Res D)(a b:LK->Res D):LK->Res D:=λT=>(a T).bind λx=>match x with | .str z=>(b T).bind λy=>f z y|_=>.bad
def Pt(a:LK->Res D):LK->Res (L D):=λT=>(a T).bind λd=>match d with | .str x=>.ok (x.cps.toList.map λc=>D.str ⟨#[c]⟩)|_=>.bad
def Nv:D->Option Str | .int i=>if i.natAbs.log2<1920 then J (ai i) else G | .str y=>if y.length<=sizeLine then J y else G|_=>G
def jN:Str->LK->Res Str:=λacc _=>.ok acc
def jC(a:LK->Res D)(r:Str->LK->Res Str):Str->LK->Res Str:=λacc T=>(a T).bind λx=>match Nv x with|some y=>if (acc++y).length<=sizeLine then r (acc++y) T else .bad|none=>.bad
def RZ(m:Str->LK->Res Str):LK->Res D:=λT=>(m Str.empty T).bind λx=>if x.length<=sizeLine then .ok (.str x) else .bad
def iP(te:LK->Res D):L D->Res (L D)
 |[]=>.ok []
 |.tup [x,y]::r=>(te [J x,J y]).calm.bind λz=>(iP te r).bind λa=>.ok (z::a)
 |_::_=>.bad
def AB(src:LK->Res (L D))(te:LK->Res D):LK->Res D:=λT=>(src T).bind λxs=>if xs.length<ak then (iP te xs).bind λys=>.ok (.lst ys) else .bad
section
variable{Y:Cm}{E:XK}{M:L Md}
def p8:S2 Y (λx y H Q=>∃i j,x=.str i/\y=.str j/\i.length+j.length<=sizeLine/\Q (.str (i++j)) H) yA:=by
 intro H x y v u b a;cases x with
 |str i=>
   cases y with
   |str j=>
     rw[Dn]at b;rw[Dn]at a;subst b a;ext yA;dsimp only;by_cases z:i.length+j.length<=sizeLine
     .rw[Xx z];exact(_,λ_=>by rw[Dn],λQ q=>(i,j,rfl,rfl,z,q))
     .rw[Xy z];trivial
   |_=>trivial
 |_=>trivial
def PZ:S2 Y (λx y H Q=>∃i j,x=.str i/\y=.str j/\Q (.bl (!(!(Builtin.Str.occurrences j i 0 j.length 1).isEmpty))) H) Q8:=by
 intro H x y v u b a;cases x with
 |str i=>
   cases y with
   |str j=>
     rw[Dn]at b;rw[Dn]at a;subst b a;exact(_,λ_=>by rw[Dn],λQ q=>(i,j,rfl,rfl,q))
   |_=>trivial
 |_=>trivial
def wP:S1 Y (λv H Q=>HK [v] H Q) nG:=by
 intro H x v a;cases x with
 |int i=>
   rw[Dn]at a;subst a;ext nG;dsimp only;by_cases z:i.natAbs.log2<1920
   .rw[Xx z];exact(_,λ_=>by rw[Dn],λQ q=>.inl (i,rfl,z,q))
   .rw[Xy z];trivial
 |str y=>
   rw[Dn]at a;subst a;exact(_,λ_=>by rw[Dn],λQ q=>.inr (y,rfl,q))
 |_=>trivial
def P9:S1 Y (λv H Q=>∃x n,[v]=[.str x]/\PySem.intText? x=J n/\x.length<=640/\Q (.int n) H) DN:=by
 intro H x v a;cases x with
 |str y=>
   rw[Dn]at a;subst a;ext DN;dsimp only;by_cases z:y.length<=640
   · rw[Xx z];cases e:PySem.intText? y with
     |some n=>exact(.int n,λ_=>by rw[Dn],λQ q=>(y,n,rfl,e,z,q))
     |none=>trivial
   .rw[Xy z];trivial
 |_=>trivial
def G3:S1 Y (λv H Q=>∃z,[v]=[.str z]/\z.length<=sizeLine/\Q (.int z.length) H) zI:=by
 intro H x v a;cases x with
 |str y=>
   rw[Dn]at a;subst a;ext zI;dsimp only;by_cases z:y.length<=sizeLine
   .rw[Xx z];exact(_,λ_=>by rw[Dn],λQ q=>(y,rfl,z,q))
   .rw[Xy z];trivial
 |_=>trivial
def T9:S2 Y Ud Ni:=by
 intro H x y v u b a;cases x with
 |str z=>
   cases y with
   |int i=>
     rw[Dn]at b;rw[Dn]at a;subst b a;ext Ni;dsimp only;by_cases h:z.length<=sizeLine
     · rw[Xx h];cases e:jq z.cps.toList i with
       |some c=>exact(_,λ_=>by rw[Dn],λQ q=>(z,i,c,rfl,rfl,h,e,q))
       |none=>trivial
     .rw[Xy h];trivial
   |_=>trivial
 |_=>trivial
def Mr:S2 Y (λx y H Q=>∃i,y=.int i/\HM x (J i) G H Q) Ah:=by
 intro H x y v u b a;cases x with
 |str z=>
   cases y with
   |int i=>
     rw[Dn]at b;rw[Dn]at a;subst b a;ext Ah;dsimp only;by_cases h:(mq z (J i) G).length<=sizeLine
     .rw[Xx h];exact(_,λ_=>by rw[Dn],λQ q=>(i,rfl,z,rfl,h,q))
     .rw[Xy h];trivial
   |_=>trivial
 |_=>trivial
def Ms:S2 Y (λx y H Q=>∃i,y=.int i/\HM x G (J i) H Q) ub:=by
 intro H x y v u b a;cases x with
 |str z=>
   cases y with
   |int i=>
     rw[Dn]at b;rw[Dn]at a;subst b a;ext ub;dsimp only;by_cases h:(mq z G (J i)).length<=sizeLine
     .rw[Xx h];exact(_,λ_=>by rw[Dn],λQ q=>(i,rfl,z,rfl,h,q))
     .rw[Xy h];trivial
   |_=>trivial
 |_=>trivial
variable{ta tb:TE}{ma mb:LK->Res D}
theorem ML(b:PJ Y (KR Y .X) E M ta ma)(a:PJ Y (KR Y .X) E M tb mb):PJ Y (KR Y .F) E M (Tt HM ta (yO tb) oA) (bn Ah ma mb):=aA Mr b a
theorem xg(b:PJ Y (KR Y .X) E M ta ma)(a:PJ Y (KR Y .X) E M tb mb):PJ Y (KR Y .F) E M (Tt HM ta oA (yO tb)) (bn ub ma mb):=aA Ms b a
def Ll{K:L0}{r:V->L V->Hp->VK->Prop}{f:Str->D->Res D}(h:∀{B U:Hp} {I0:Nat->L Addr} {Z:St} {H:Hp} {T:LK} {Q:VK} {z:Str} {y:D} {u:V},Rel Y M B U I0 Z H T->Dn Y H y u->Po Y a E M B U I0 Z H T (f z y) Q->r (.str z) [u] H Q)
 (c:PJ Y (KR Y .X) E M ta ma) (b:PJ Y (KR Y .X) E M tb mb):PJ Y a E M (Fe K "str" r ta (bX tb dP)) (uQ f ma mb):=by
 intro B U I0 Z H T Q R P;refine c.bnd R P λx v I U1 H1 O _ e l j N s=>?_;have N:Dn Y H1 x v:=N;cases x with
 |str z=>
   rw[Dn]at N;subst N;refine(rfl,b.bnd e s λy u p m o n _ R2 k i d g=>?_);exact h R2 d g
 |_=>exact s.elim
theorem wO{K:L0}{r:V->L V->Hp->VK->Prop}{f:Str->D->Res D}(h:∀z,S1 Y (λu H Q=>r (.str z) [u] H Q) (f z))(g:PJ Y (KR Y .X) E M ta ma)(b:PJ Y (KR Y .X) E M tb mb):PJ Y (KR Y .F) E M (Fe K "str" r ta (bX tb dP)) (uQ f ma mb):=
 Ll (λ{B U I0 Z H T Q z y u} R d P=>by
  have q:=h z H y u d;cases e:f z y with
  |ok d=>
    rw[e]at q P;let(w,a,k):=q;exact k Q (P w B U H [] R (Gw.refl _ _ _) New.nil (a _))
  |exc c=>rw[e]at q;exact q.elim
  |bad=>rw[e]at P;exact P.elim) g b
theorem Io{K:L0}(d:PJ Y (KR Y .X) E M ta ma)(c:PJ Y (KR Y .X) E M tb mb):PJ Y (KR Y .F) E M (Fe K "str" Dl ta (bX tb dP)) (uQ A7 ma mb):=
 wO (λz H x v a=>by
  cases x with
  |str b=>rw[Dn]at a;subst a;exact(_,λ_=>by rw[Dn],λQ q=>(z,b,rfl,rfl,q))
  |_=>trivial) d c
theorem QF{K:L0}(d:PJ Y (KR Y .X) E M ta ma)(c:PJ Y (KR Y .X) E M tb mb):PJ Y (KR Y .F) E M (Fe K "str" Oo ta (bX tb dP)) (uQ R7 ma mb):=
 wO (λz H x v a=>by
  cases x with
  |str b=>rw[Dn]at a;subst a;exact(_,λ_=>by rw[Dn],λQ q=>(z,b,rfl,rfl,q))
  |_=>trivial) d c
theorem yQ:∀{ds:L D} {vs:L V} {xs:L Str},oB ds=J xs->Dns Y Cv ds vs->vs=xs.map V.str
 |[],vs,xs,e,h=>by rw[Dns]at h;cases e;exact h
 | .str x::r,vs,xs,e,h=>by
   rw[Dns]at h;let(v,vr,rfl,a,b):=h;have e:(oB r).map (x::·)=J xs:=e;cases q:oB r with
   |none=>rw[q]at e;cases e
   |some ys=>
     rw[q]at e;cases e;rw[Dn]at a;rw[a,yQ q b]<;>rfl
 |.non::_,_,_,e,_=>nomatch e
 |.bl _::_,_,_,e,_=>nomatch e
 |.int _::_,_,_,e,_=>nomatch e
 |.ty _::_,_,_,e,_=>nomatch e
 |.lst _::_,_,_,e,_=>nomatch e
 |.tup _::_,_,_,e,_=>nomatch e
 |.scr _::_,_,_,e,_=>nomatch e
 |.dK _ _::_,_,_,e,_=>nomatch e
 |.dT _ _::_,_,_,e,_=>nomatch e
 |.obj _ _ _::_,_,_,e,_=>nomatch e
theorem jT{K:L0}(d:PJ Y (KR Y .X) E M ta ma)(c:PJ Y (KR Y .X) E M tb mb):PJ Y (KR Y .F) E M (Fe K "str" (HQ K) ta (bX tb dP)) (uQ kg ma mb):=
 wO (λz H x v b=>by
  cases x with
  |lst ds=>
    rw[Dn]at b;let(a,vs,rfl,g,f):=b;ext kg;dsimp only;cases e:oB ds with
    |none=>trivial
    |some xs=>
      dsimp only;by_cases q:JoinOk z xs=true
      · rw[Xx q]
        have:=yQ e f
        subst this;exact(_,λ_=>by rw[Dn],λQ k=>(z,a,xs,rfl,rfl,SqL.of g,q,k))
      .rw[Xy q];trivial
  |_=>trivial) d c
theorem t8:∀xs:L Str,Dns Y Cv (xs.map D.str) (xs.map V.str)
 |[]=>by rw[YA,YA,Dns]
 |x::xs=>by rw[Xz,Xz,Dns];exact(_,_,rfl,by rw[Dn],t8 xs)
theorem xc{K:L0}(e:PJ Y (KR Y .X) E M ta ma)(c:PJ Y (KR Y .X) E M tb mb):PJ Y (KO Y (.ct .fz)) E M (Fe K "str" HL ta (bX tb dP)) (uQ pV ma mb):=
 Ll (λ{B U I0 Z H T Q z y u} R d P=>by
  cases y with
  |str b=>
    rw[Dn]at d;subst d;unfold pV at P;dsimp only at P;by_cases q:(b.length==0)=false/\z.length<=sizeLine/\(Txt.split z b).length<=sizeLine
    .rw[Xx q]at P;exact(z,b,rfl,rfl,q.1,q.2.1,q.2.2,λl a=>fH R P (t8 _) a)
    .rw[Xy q]at P;exact P.elim
  |_=>exact P.elim) e c
theorem JU(x:Str):Go (Xp x) H (x.cps.toList.map λc=>V.str ⟨#[c]⟩):=λd s=>by
 have a:(x.cps.toList.map λc=>V.str ⟨#[c]⟩).length=x.cps.size:=by simp
 refine(λi hi=>by rw[a]at hi;exact hi,λi hi=>by rw[a]at hi;exact hi,λi v H' hi y=>?_);let(e,c,b,rfl):=y;refine(e,?_);rw[Ye,YJ,b]<;>rfl
def Vu(a:PJ Y (KR Y .X) E M ta ma):PJ Y (KI Y .F .X) E M (Vw ta) (Pt ma):=by
 intro B U I0 Z H T Q R P;refine a.bnd R P λx v I U1 H1 O _ b e d N s=>?_;have N:Dn Y H1 x v:=N;cases x with
 |str z=>
   rw[Dn]at N;subst N;refine(z,rfl,s _ I U1 H1 [] b (Gw.refl _ _ _) New.nil (_,JU z,?_))
   have:=t8 (Y:=Y) (Cv:=Mi.hp .F I U1 H1) (z.cps.toList.map λc=>(⟨#[c]⟩:Str))
   rw[X7,X7]at this;exact this
 |_=>exact s.elim
def KS:KT Str Str:=λa b _ _ _ _=>a=b
theorem zM(acc:Str):PJ Y KS E M (Vt acc) (jN acc):=λB U I0 Z H T Q R P=>P acc B U H [] R (Gw.refl _ _ _) New.nil rfl
def Vs{t:Lw}{m:Str->LK->Res Str}{te:TE}(d:∀{Z:St} {H:Hp} {Q:VK},(ta Z H λx H1=>(∃i,x=.int i/\i.natAbs.log2<1920/\Q (.str (toString i)) H1)\/∃y,x=.str y/\y.length<=sizeLine/\Q (.str y) H1)->te Z H Q)
 (g:PJ Y (KR Y .X) E M ta ma) (f:∀acc,PJ Y KS E M (t acc) (m acc)) (acc:Str):PJ Y KS E M (DK te t acc) (jC ma m acc):=by
 intro B U I0 Z H T Q R P;refine d (g.bnd R P λx v I U1 H1 O _ h k j N s=>?_);have N:Dn Y H1 x v:=N;have s:Po Y KS E M I U1 I0 Z H1 T (match Nv x with|some y=>if (acc++y).length<=sizeLine then m (acc++y) T else .bad|none=>.bad) Q:=s;cases e:Nv x with
 |none=>rw[e]at s;exact s.elim
 |some y=>
   rw[e]at s;replace s:Po Y KS E M I U1 I0 Z H1 T (if (acc++y).length<=sizeLine then m (acc++y) T else .bad) Q:=s;by_cases q:(acc++y).length<=sizeLine
   · rw[Xx q]at s;have a:∃c,V.str y=.str c/\(acc++c).length<=sizeLine/\t (acc++c) Z H1 Q:=(y,rfl,q,f (acc++y) I U1 I0 Z H1 T Q h s);cases x with
     |int i=>
       rw[Dn]at N;subst N;replace e:(if i.natAbs.log2<1920 then J (ai i) else G)=J y:=e;by_cases z:i.natAbs.log2<1920
       .rw[Xx z]at e;cases e;exact .inl (i,rfl,z,a)
       .rw[Xy z]at e;cases e
     |str b=>
       rw[Dn]at N;subst N;replace e:(if b.length<=sizeLine then J b else G)=J y:=e;by_cases z:b.length<=sizeLine
       .rw[Xx z]at e;cases e;exact .inr (_,rfl,z,a)
       .rw[Xy z]at e;cases e
     |_=>cases e
   .rw[Xy q]at s;exact s.elim
theorem uV{t:Lw}{m:Str->LK->Res Str}(b:PJ Y (KR Y .X) E M ta ma)(a:∀acc,PJ Y KS E M (t acc) (m acc))(acc:Str):PJ Y KS E M (DK (tFv ta) t acc) (jC ma m acc):=Vs (λh=>h) b a acc
theorem LN{t:Lw}{m:Str->LK->Res Str}(a:∀acc,PJ Y KS E M (t acc) (m acc))(acc:Str):PJ Y KS E M (DK (tC (.str x)) t acc) (jC (aD (.str x)) m acc):=
 Vs (ta:=tC (.str x)) (λ{Z H Q} h=>by
  have h:(∃i,V.str x=.int i/\i.natAbs.log2<1920/\Q (.str (toString i)) H)\/∃y,V.str x=.str y/\y.length<=sizeLine/\Q (.str y) H:=h;rcases h with ⟨i,e,_⟩|⟨y,e,_,q⟩
  .cases e
  .cases e;exact q) (pS (E:=E)) a acc
def Iu{t:Lw}{m:Str->LK->Res Str}(h:∀acc,PJ Y KS E M (t acc) (m acc)):PJ Y (KR Y .F) E M (tJs t) (RZ m):=by
 intro B U I0 Z H T Q R P;refine(h Str.empty).bnd R P λx v I U1 H1 O _ a c b N s=>?_;have N:x=v:=N;subst N;by_cases z:x.length<=sizeLine
 .rw[Xx z]at s;exact(z,s _ I U1 H1 [] a (Gw.refl _ _ _) New.nil (by show Dn _ _ _ _;rw[Dn]))
 .rw[Xy z]at s;exact s.elim
theorem Rel.inner2{B U:Hp}{I0:Nat->L Addr}{Z:St}{H:Hp}{T:LK}{a:Md}(R:Rel Y M B U I0 Z H T){d e:D}{v u:V}(hd:Lo Y B U H a (J d) (J v) [])(b:Lo Y B U H a (J e) (J u) []):Rel Y [a,a] B U (λ_=>[]) [J v,J u] H [J d,J e] where
 bu:=R.bu
 uh:=R.uh
 nd:=λ_=>YF
 dj:=λ_ _ _ _ h=>(nomatch h)
 un:=λ_ _ h=>(nomatch h)
 lo:=λi=>match i with
  |0=>hd
  |1=>b
  |_+2=>rfl
 len:=rfl
 tb:=R.tb
def KP(h0:∀B U H d v,Same B U->Same U H->Dn Y (hp k B U H) d v->Lo Y B U H m0 (J d) (J v) [])(hs:PJ Y (KI Y k .X) E M wi src)(hte:PJ Y (KR Y .F) E0 [m0,m0] te A):PJ Y (KO Y (.ct .fz)) E M (wI Y.K wi te) (AB src A):=by
 intro B U I0 Z H T Q R P;refine hs.bnd R P λds B1 I U1 H1 O _ R1 e1 n1 (vs,hJ,hd) s p hp=>?_;replace s:Po Y (KO Y (.ct .fz)) E M I U1 I0 Z H1 T (if ds.length<ak then (iP A ds).bind λys=>.ok (.lst ys) else .bad) Q:=s;by_cases z:ds.length<ak
 · rw[Xx z]at s;have hvl:ds.length=vs.length:=hd.len;have hpA:∀i,p∉I0 i:=λi=>R1.fresh hp i
   refine(λi m ys H2=>i<=ds.length/\m=ds.length-i/\H2 p=J (.lst ys)/\ys.length<=i/\∃S Cv n,Rel Y M S Cv I0 Z H2 T/\Gw I U1 H1 S Cv H2/\Cv p=G/\Dns Y S n ys/\
    Po Y (KO Y (.ct .fz)) E M I U1 I0 Z H1 T ((iP A (ds.drop i)).bind λr=>.ok (.lst (n++r))) Q,(ds.length,YM _,rfl,bE,XH _,I,U1,[],R1.new hp,Gw.newO R1 hp,R1.uh.free hp,by rw[Dns],s),?_)
   rintro i m ys H2 ⟨hi,rfl,hy,hle,S,Cv,n,R2,g2,u2,dz,f⟩;have l:=hJ H2 g2.h;refine(hy,Yt hle (fU (Yz (Yt hi z))),?_);by_cases hlt:i<ds.length
   · refine .inr (l.2.1 i ∅,λv H3 hyl=>?_);let(rfl,ev):=l.2.2 i v H3 ∅ hyl;let(d,ed,dd):=hd.geti ev;rw[na ed]at f;have dd:=Dn.mono (kQ g2) dd;cases d with
     |tup xs=>
       match xs,dd,f with
       |[N,d2],dd,f=>
         rw[Dn]at dd;let(a,us,rfl,h1,C):=dd;rw[Dns]at C;let(v1,r1,rfl,k1,C):=C;rw[Dns]at C;let(v2,r2,rfl,k2,C):=C;rw[Dns]at C;subst C;replace f:Po Y (KO Y (.ct .fz)) E M I U1 I0 Z H1 T (((A [J N,J d2]).calm.bind λz=>(iP A (ds.drop (i+1))).bind λn=>.ok (z::n)).bind λr=>.ok (.lst (n++r))) Q:=f;refine(a,v1,v2,rfl,SqT.of (R2.hp k _ _ h1),?_);refine hte S Cv _ _ H3 _ _ (R2.inner2 (h0 S Cv H3 N v1 R2.bu R2.uh k1) (h0 S Cv H3 d2 v2 R2.bu R2.uh k2)) ?_;cases ee:A [J N,J d2] with
         |ok x=>
           rw[ee]at f;intro y B4 V H5 N4 w t n4 hx;have y5:H5 p=J (.lst ys):=t.h _ _ hy
           have W:V p=none:=by
            cases q:V p with
            |none=>rfl
            |some o=>
              rcases t.fr p o q with z|z|⟨xs,z⟩
              .rw[u2]at z;cases z
              .rw[hy]at z;cases z
              .subst z;have:=w.uh p _ q;rw[y5]at this;cases this
           have R4:Rel Y M B4 V I0 Z H5 T:=R2.grow t.b t.u t.h w.bu w.uh λj a ha=>by
            cases q:V a with
            |none=>rfl
            |some o=>
              rcases t.fr a o q with z|z|z
              .rw[R2.un j a ha]at z;cases z
              .let(o',q'):=R2.at ha;rw[z]at q';cases q'
              .let(o',q'):=R2.at ha;have e1:=t.h _ _ q';rw[w.uh a _ q]at e1;cases e1;exact(R2.nt ha q' z).elim
           have g5:Gw I U1 H1 B4 V (upd H5 p (.lst (ys++[y]))):=by
            have g:=g2.trans t;exact(g.toEx,λa o q=>by rw[bq (bD q hp)];exact g.h a o q,g.fr)
           refine(y5,ds.length-(i+1),∅,hlt,rfl,bE,by rw[XF,Y4];omega,B4,V,n++[x],R4.poke W hpA,g5,W,(dz.mono t.b).append (Dns.one hx),?_);cases eg:iP A (ds.drop (i+1)) with
           |ok r=>
             rw[eg]at f;show Po Y (KO Y (.ct .fz)) E M I U1 I0 Z H1 T (.ok (.lst (n++[x]++r))) Q;rw[Yg];exact f
           |exc c=>rw[eg]at f;exact f
           |bad=>rw[eg]at f;exact f
         |exc c=>rw[ee]at f;exact f.elim
         |bad=>rw[ee]at f;exact f.elim
       |[],_,f=>exact f.elim
       |[_],_,f=>exact f.elim
       |_::_::_::_,_,f=>exact f.elim
     |_=>exact f.elim
   · have e:i=ds.length:=by omega
     subst e;rw[ZU]at f;refine .inl (l.1 _ ∅,?_);have P3:Po Y (KO Y (.ct .fz)) E M I U1 I0 Z H1 T (.ok (.lst (n++[]))) Q:=f;rw[XY]at P3;exact R5 R2 g2 hp u2 hpA hy dz P3
 .rw[Xy z]at s;exact s.elim
theorem zn(d:PJ Y (KI Y .U .X) E M b src)(a:PJ Y (KR Y .F) E0 [.R,.R] te c):PJ Y (KO Y (.ct .fz)) E M (wI Y.K b te) (AB src c):=KP (λ_ _ _ _ _=>inU) d a
def zm{K:L0}(h:PJ Y (KC Y .U) E M ta ma):PJ Y (KR Y .U) E M
 (Gq (λxs H Q=>∃p c b,xs=[.ref p]/\SqL K H p (c.map V.ref)/\TupsI H c b/\(∀k∈b,k≠[])/\b.length<64/\∀l,H l=G->Q (.ref l) (upd H l (.lst ((L2.pick c (bF b)).map V.ref)))) (bX ta dP)) (un lB ma):=by
 intro B U I0 Z H T Q R P;refine h.bnd R P λx v I U1 H1 O _ f m j N s=>?_;cases x with
 |lst ds=>
   let(a,xs,rfl,i,d):=N;replace s:Po Y (KR Y .U) E M I U1 I0 Z H1 T (match ig ds with|some b=>(if (∀k∈b,k≠[])/\b.length<64 then .ok (.lst (L2.pick ds (bF b))) else .bad)|none=>.bad) Q:=s;cases e:ig ds with
   |none=>rw[e]at s;exact s.elim
   |some b=>
     rw[e]at s;dsimp only at s;by_cases z:(∀k∈b,k≠[])/\b.length<64
     .rw[Xx z]at s;have d:Dns Y U1 ds xs:=d;let(c,rfl,t):=qq e d;refine(a,c,b,rfl,SqL.of i,TupsI.mono f.uh t,z.1,z.2,λl g=>?_);rw[<-lR];exact IL f s (d.pick _) g
     .rw[Xy z]at s;exact s.elim
 |_=>exact s.elim
end
end Mi
namespace Cl
open PySem L2 Mi
variable{Z W X O:Type}{Y:Z->LK}
def iH(a b:Str):Res Str:=if a.length+b.length<=sizeLine then .ok (a++b) else .bad
theorem qh(a b:Str):SimR D.str (yA (.str a) (.str b)) (iH a b):=SimR.ite rfl trivial
def zx(i j:Str):Res Bool:=.ok (!(!(Builtin.Str.occurrences j i 0 j.length 1).isEmpty))
theorem QV(a b:Str):SimR D.bl (Q8 (.str a) (.str b)) (zx a b):=rfl
def oE(i:Int):Res Str:=if i.natAbs.log2<1920 then .ok (ai i) else .bad
theorem zq(i:Int):SimR D.str (nG (.int i)) (oE i):=SimR.ite rfl trivial
def eA(d:D):D:=d
def ss:D->Res Str | .int i=>if i.natAbs.log2<1920 then .ok (ai i) else .bad | .str x=>.ok x|_=>.bad
def MQ(d:D):SimR D.str (nG (eA d)) (ss d):=by cases d <;> first | exact SimR.ite rfl trivial | exact rfl | trivial
def JW(x:Str):Res Int:=if x.length<=640 then (match PySem.intText? x with|some n=>.ok n|none=>.bad) else .bad
theorem Q0(x:Str):SimR D.int (DN (.str x)) (JW x):=SimR.ite (by cases PySem.intText? x with|none=>trivial|some n=>exact rfl) trivial
def DJ(x:Str):Res Int:=if x.length<=sizeLine then .ok x.length else .bad
theorem zt(x:Str):SimR D.int (zI (.str x)) (DJ x):=SimR.ite rfl trivial
def Nj(z:Str)(i:Int):Res Str:=if z.length<=sizeLine then (match jq z.cps.toList i with|some c=>.ok ⟨#[c]⟩|none=>.bad) else .bad
theorem MU(z:Str)(i:Int):SimR D.str (Ni (.str z) (.int i)) (Nj z i):=SimR.ite (by cases jq z.cps.toList i with|none=>trivial|some c=>exact rfl) trivial
def xI(z:Str)(i:Int):Res Str:=if (mq z (J i) G).length<=sizeLine then .ok (mq z (J i) G) else .bad
theorem MV(z:Str)(i:Int):SimR D.str (Ah (.str z) (.int i)) (xI z i):=SimR.ite rfl trivial
def jX(z:Str)(i:Int):Res Str:=if (mq z G (J i)).length<=sizeLine then .ok (mq z G (J i)) else .bad
theorem xm(z:Str)(i:Int):SimR D.str (ub (.str z) (.int i)) (jX z i):=SimR.ite rfl trivial
def sv(a b:Str):Res Bool:=.ok (Txt.startswith a b)
theorem MR(a b:Str):SimR D.bl (A7 a (.str b)) (sv a b):=rfl
def Nx(a b:Str):Res Bool:=.ok (Txt.endswith a b)
theorem UK(a b:Str):SimR D.bl (R7 a (.str b)) (Nx a b):=rfl
theorem vm:∀xs:L Str,oB (xs.map D.str)=J xs
 |[]=>rfl
 |x::xs=>by show(oB (xs.map D.str)).map (x::·)=_;rw[vm xs];rfl
def gr(a:Str)(xs:L Str):Res Str:=if JoinOk a xs=true then .ok (Txt.join a xs) else .bad
def jU(a:Str)(xs:L Str):SimR D.str (kg a (eL D.str xs)) (gr a xs):=by
 show SimR D.str (match oB (xs.map D.str) with|some xs=>if JoinOk a xs=true then .ok (.str (Txt.join a xs)) else .bad|none=>.bad) _;rw[vm];exact SimR.ite rfl trivial
def jO(a b:Str):Res (L Str):=if (b.length==0)=false/\a.length<=sizeLine/\(Txt.split a b).length<=sizeLine then .ok (Txt.split a b) else .bad
theorem xi(a b:Str):SimR (eL D.str) (pV a (.str b)) (jO a b):=SimR.ite rfl trivial
theorem gb{e:X->D}{F:Str->D->Res D}{f:Str->X->Res O}(h:∀a b,SimR d (F a (e b)) (f a b))(i:EJ Y D.str m c)(g:EJ Y e n c'):EJ Y d (uQ F m n) (aC f c c'):=λs=>(i s).bnd λa=>(g s).bnd λb=>h a b
def Py(x:Str):Res (L Str):=.ok (x.cps.toList.map λc=>⟨#[c]⟩)
theorem Kf(h:EJ Y D.str m c):EJ Y (List.map D.str) (Pt m) (bB Py c):=λs=>(h s).bnd λx=>by
 show Res.ok _=Res.ok _;rw[X7]<;>rfl
def Gs:Str->Z->Res Str:=λacc _=>.ok acc
def io(f:W->Option Str)(a:Z->Res W)(r:Str->Z->Res Str):Str->Z->Res Str:=λacc s=>(a s).bind λx=>match f x with|some y=>if (acc++y).length<=sizeLine then r (acc++y) s else .bad|none=>.bad
def jf(i:Int):Option Str:=if i.natAbs.log2<1920 then J (ai i) else G
def gB(y:Str):Option Str:=if y.length<=sizeLine then J y else G
def DT(m:Str->Z->Res Str):Z->Res Str:=λs=>(m Str.empty s).bind λx=>if x.length<=sizeLine then .ok x else .bad
theorem o8(acc:Str):EJ Y (id:Str->Str) (jN acc) (Gs acc):=λ_=>rfl
theorem Ke{e:W->D}{f:W->Option Str}{r:Str->LK->Res Str}{q:Str->Z->Res Str}(b:∀a,Nv (e a)=f a)(g:EJ Y e m c)(d:∀acc,EJ Y (id:Str->Str) (r acc) (q acc))(acc:Str):EJ Y (id:Str->Str) (jC m r acc) (io f c q acc):=λs=>(g s).bnd λa=>by
 rw[b];cases f a with
 |none=>trivial
 |some y=>exact SimR.ite (d _ s) trivial
theorem o9{r:Str->LK->Res Str}{q:Str->Z->Res Str}(b:EJ Y D.int m c)(a:∀acc,EJ Y (id:Str->Str) (r acc) (q acc))(acc:Str):EJ Y (id:Str->Str) (jC m r acc) (io jf c q acc):=Ke (λ_=>rfl) b a acc
theorem mj{r:Str->LK->Res Str}{q:Str->Z->Res Str}(b:EJ Y D.str m c)(a:∀acc,EJ Y (id:Str->Str) (r acc) (q acc))(acc:Str):EJ Y (id:Str->Str) (jC m r acc) (io gB c q acc):=Ke (λ_=>rfl) b a acc
theorem zZ{r:Str->LK->Res Str}{q:Str->Z->Res Str}(h:∀acc,EJ Y (id:Str->Str) (r acc) (q acc)):EJ Y D.str (RZ r) (DT q):=λs=>(h Str.empty s).bnd λx=>SimR.ite rfl trivial
def eC(x:Str):Res D:=.ok (.str x)
def cq(x:Int):Res D:=.ok (.int x)
theorem g7(x:Str):SimR eA (.ok (D.str x)) (eC x):=rfl
theorem cB(x:Int):SimR eA (.ok (D.int x)) (cq x):=rfl
def rH(e:W->D)(xs:L W):Res (L D):=.ok (xs.map e)
def yy{e:W->D}(xs:L W):SimR (eL eA) (.ok (eL e xs)) (rH e xs):=by
 show Res.ok (D.lst (xs.map e))=Res.ok (D.lst ((xs.map e).map eA));rw[X7]<;>rfl
def CJ(xs:L4):Res (L (L Int)):=.ok (xs.map λp=>[p.1,p.2])
def Lq(xs:L4):SimR (eL (pd D.int)) (.ok (eL (rX D.int D.int) xs)) (CJ xs):=by
 show Res.ok (D.lst (xs.map (rX D.int D.int)))=Res.ok (D.lst ((xs.map λp=>[p.1,p.2]).map (pd D.int)));rw[X7]<;>rfl
def W5(p:Int×Int):LK:=[J (.int p.1),J (.int p.2)]
def mF(d:Int×Int->Res X):L (L Int)->Res (L X)
 |[]=>.ok []
 |[a,b]::r=>(d (a,b)).calm.bind λz=>(mF d r).bind λc=>.ok (z::c)
 |_::_=>.bad
def oh(c:Z->Res (L (L Int)))(d:Int×Int->Res X):Z->Res (L X):=λs=>(c s).bind λxs=>if xs.length<ak then mF d xs else .bad
theorem z0(h:EJ Y (List.map (pd D.int)) src c)(i:EJ W5 e te d):EJ Y (eL e) (AB src te) (oh c d):=λs=>(h s).bnd λxs=>by
 rw[Xv];refine SimR.ite ?_ trivial
 have f:∀l:L (L Int),SimR (List.map e) (iP te (l.map (pd D.int))) (mF d l):=by
  intro l
  induction l with
  |nil=>rfl
  |cons x l g=>
    match x with
    |[a,b]=>exact SimR.bnd (i (a,b)).calm λz=>SimR.bnd g λj=>rfl
    |[]=>trivial
    |[_]=>trivial
    |_::_::_::_=>trivial
 have:=f xs
 cases q:mF d xs with
 |ok ys=>rw[q]at this;rw[show iP te (xs.map (pd D.int))=_ from this];rfl
 |exc x=>rw[q]at this;rw[show iP te (xs.map (pd D.int))=_ from this];rfl
 |bad=>trivial
end Cl
namespace Mi
open PySem L2
def fY{X:Cx}{K:L0}{c a:Pos}{id:String}(n:X.K=K)(i:PlainAttrs T)(slot:Slot T name id)(h:typeOf (.builtin id)=pure (.type "method_descriptor"))(l:Td X id r)(k:PE X o to)(m:PA X (e::es) t)
 (f:attributeBase o name X.env (eval o X.env)=eval o X.env:=by rfl)
 (g:((backTo a (starEach (e::es) X.env)).all (λx=>!x.1)&&(backToKw a (keywordEach [] X.env)).all (λx=>x.1.isSome)
   && decide ((e::es).length+([]:L Keyword).length+(if ([]:L Keyword).isEmpty then 0 else 1)<30))=true:=by rfl)
 (d:(c.endLine==a.line)=true:=by rfl) (j:starEach (e::es) X.env=(false,eval e X.env)::starEach es X.env:=by rfl) (b:(backTo a (starEach es X.env)).any (·.1)=false:=by rfl):
 PE X (.Call (.Attribute o name c) (e::es) [] a) (Fe K T r to t):=by
 subst n;exact gm i slot h l k m f g d j b
def fI{X:Cx}{K:L0}(h:X.K=K):Td X "str.join" (HQ K):=by subst h;exact MZ
end Mi
namespace L2
open PySem PyProof.Rows PySem.W
def o3{W:Type}{l:L W}{i:Nat}{d:W}(h:i<l.length):l.getD i d=l[i]:=by rw[XV,XS h];rfl
def FD{W:Type}{l:L W}(h:l.Nodup)(hi:i<l.length)(a:j<l.length)(e:l[i]=l[j]):i=j:=by
 rcases Nat.lt_trichotomy i j with q|q|q
 .exact absurd e (Zu.mp h i j hi a q)
 .exact q
 .exact absurd e.symm (Zu.mp h j i a hi q)
theorem iR{X:Type}{f:W->KasT X}:∀t:KasT W,cO c (t.bind f)=cO c (f (cO c t))
 |.ret a=>rfl
 |.ask i j k=>iR (c:=c) (f:=f) (k (c i j))
section
variable{c:Nat->Nat->Bool}(tr:∀i j k,c i j=true->c j k=true->c i k=true)(ir:∀i,c i i=false)
def Asc(c:Nat->Nat->Bool)(p:Array Nat)(m:Nat):Prop:=∀i,i+1<m->c (p.getD i 0) (p.getD (i+1) 0)=true
def Tot(c:Nat->Nat->Bool)(p:Array Nat):Prop:=∀i j,i<j->j<p.size->c (p.getD i 0) (p.getD j 0)=true\/c (p.getD j 0) (p.getD i 0)=true
include tr in
theorem Asc.lt{p:Array Nat}{m:Nat}(h:Asc c p m):∀d i,i+d+1<m->c (p.getD i 0) (p.getD (i+d+1) 0)=true
 |0,i,hi=>h i hi
 |d+1,i,hi=>tr _ _ _ (Asc.lt h d i ∅) (h (i+d+1) hi)
include tr in
def Asc.lt'{p:Array Nat}{m i j:Nat}(h:Asc c p m)(a:i<j)(b:j<m):c (p.getD i 0) (p.getD j 0)=true:=by
 have:=Asc.lt tr h (j-i-1) i ∅
 rwa [show i+(j-i-1)+1=j from by omega]at this
theorem wT{p:Array Nat}(j:Tot c p):∀f k,1<=k->k+f<=p.size->Asc c p k->k<=cO c (kas_asc p f k)/\cO c (kas_asc p f k)<=k+f/\Asc c p (cO c (kas_asc p f k))/\(cO c (kas_asc p f k)=k+f\/c (p.getD (cO c (kas_asc p f k)) 0) (p.getD (cO c (kas_asc p f k)-1) 0)=true)
 |0,k,_,_,h=>(XH _,XH _,h,.inl rfl)
 | f+1,k,n,m,h=>by
   have e:cO c (kas_asc p (f+1) k)=cO c (if c (p.getD k 0) (p.getD (k-1) 0)=true then KasT.ret k else kas_asc p f (k+1)):=rfl;rw[e];by_cases q:c (p.getD k 0) (p.getD (k-1) 0)=true
   .rw[Xx q];exact(XH _,by show k<=_;omega,h,.inr q)
   · rw[Xy q]
     have l:Asc c p (k+1):=λi hi=>by
      by_cases z:i+1<k
      .exact h i z
      · have:i=k-1:=by omega
        subst this;rw[show k-1+1=k from by omega];rcases j (k-1) k ∅ ∅ with y|y
        .exact y
        .exact absurd y q
     let(a,b,d,g):=wT j f (k+1) ∅ ∅ l;exact(by omega,∅,d,g.imp (λg=>by omega) id)
def Xs(c:Nat->Nat->Bool)(p:Array Nat)(m:Nat):Prop:=∀i,i+1<m->c (p.getD (i+1) 0) (p.getD i 0)=true
theorem y9{p:Array Nat}(j:Tot c p):∀f k,1<=k->k+f<=p.size->Xs c p k->∃m,cO c (kas_desc f p k 0)=(p,m,0)/\k<=m/\m<=k+f/\Xs c p m
 |0,k,_,_,h=>(k,rfl,XH _,XH _,h)
 | f+1,k,n,l,h=>by
   have e:cO c (kas_desc (f+1) p k 0)=cO c (if c (p.getD k 0) (p.getD (k-1) 0)=true then (if 0>0 then kas_desc f (kas_rev p (k-(0+1)) k) (k+1) 0 else kas_desc f p (k+1) 0) else .ask (p.getD (k-1) 0) (p.getD k 0) λd=>if d=true then .ret (p,k,0) else kas_desc f p (k+1) (0+1)):=rfl;rw[e];by_cases q:c (p.getD k 0) (p.getD (k-1) 0)=true
   · rw[Xx q,Xy ∅]
     let(m,a,b,d,g):=y9 j f (k+1) ∅ ∅ λi hi=>by
      by_cases z:i+1<k
      .exact h i z
      · have:i=k-1:=by omega
        subst this;rw[show k-1+1=k from by omega];exact q
     exact(m,a,∅,∅,g)
   · rw[Xy q];refine(k,?_,XH _,∅,h)
     have y:c (p.getD (k-1) 0) (p.getD k 0)=true:=by
      rcases j (k-1) k ∅ ∅ with y|y
      .exact y
      .exact absurd y q
     show cO c (if c (p.getD (k-1) 0) (p.getD k 0)=true then KasT.ret (p,k,0) else kas_desc f p (k+1) (0+1))=_;rw[Xx y];rfl
def o0{p:Array Nat}(a:m<=p.size)(k:Nat):(kas_rev p 0 m).getD k 0=if k<m then p.getD (m-1-k) 0 else p.getD k 0:=by
 ext kas_rev;rw[Array.getD_eq_getD_getElem?,getElem?_mirror_all a];by_cases h:k<m
 .rw[Xx (YM _,h),Xx h,Nat.zero_add,Yo]
 .rw[Xy (λz=>h z.2),Xy h,Yo]
def Tot.rev{p:Array Nat}(e:m<=p.size)(b:Tot c p):Tot c (kas_rev p 0 m):=by
 intro i j d a;have a:j<p.size:=by have:=mirror_size p 0 m ((m-0) / 2);unfold kas_rev at a;omega
 rw[o0 e,o0 e];by_cases g:j<m
 .rw[Xx ∅,Xx g];exact(b (m-1-j) (m-1-i) ∅ ∅).symm
 · rw[Xy g];by_cases f:i<m
   .rw[Xx f];exact b _ _ ∅ a
   .rw[Xy f];exact b _ _ d a
def Fq{p:Array Nat}(f:Tot c p)(g:1<=m)(e:m<=p.size)(h:Xs c p m):∃k,cO c (kas_tail3 m p.size p)=(k,kas_rev p 0 m)/\1<=k/\k<=p.size/\Asc c (kas_rev p 0 m) k:=by
 have j:(kas_rev p 0 m).size=p.size:=mirror_size _ _ _ _;ext kas_tail3;rw[iR]
 let(a,b,d,_):=wT (p:=kas_rev p 0 m) (f.rev e) (p.size-m) m g ∅ λi hi=>by
  rw[o0 e,o0 e,Xx ∅,Xx hi]
  have:=h (m-1-(i+1)) ∅
  rwa [show m-1-(i+1)+1=m-1-i from by omega]at this
 exact(_,rfl,∅,∅,d)
include tr ir in
def Fs{p:Array Nat}(f:Tot c p)(v:1<=p.size):1<=(cO c (kas_count p.size p)).1/\(cO c (kas_count p.size p)).1<=p.size/\(cO c (kas_count p.size p)).2.size=p.size/\(cO c (kas_count p.size p)).2.Perm p/\Tot c (cO c (kas_count p.size p)).2/\Asc c (cO c (kas_count p.size p)).2 (cO c (kas_count p.size p)).1:=by
 ext kas_count;rw[iR];let(a,b,d,g):=wT f (p.size-1) 1 (Nat.le_refl _) ∅ (λi hi=>by omega);generalize cO c (kas_asc p (p.size-1) 1)=n at a b d g;by_cases h:(n==p.size)=true
 · rw[Xx h]
   have:n=p.size:=by simpa using h
   exact(a,by show n<=_;omega,rfl,Ad8 _,f,d)
 · rw[Xy h];have w:n≠p.size:=by simpa using h
   by_cases j:n>1
   · rw[Xx j];have y:c (p.getD 0 0) (p.getD (n-1) 0)=true:=Asc.lt' tr d ∅ ∅
     have e:cO c (.ask (p.getD 0 0) (p.getD (n-1) 0) λc=>if c=true then .ret (n,p) else kas_descPart n p.size (kas_rev p 0 n))=(n,p):=by
      show cO c (if c (p.getD 0 0) (p.getD (n-1) 0)=true then KasT.ret (n,p) else kas_descPart n p.size (kas_rev p 0 n))=_;rw[Xx y];rfl
     rw[e];exact(a,by show n<=_;omega,rfl,Ad8 _,f,d)
   · rw[Xy j];have l:n=1:=by omega
     subst l
     have q:c (p.getD 1 0) (p.getD 0 0)=true:=by
      rcases g with g|g
      .omega
      .exact g
     ext kas_descPart;rw[iR]
     let(m,s,u,t,o):=y9 f (p.size-(1+1)) (1+1) ∅ ∅ λi hi=>by
      have:i=0:=by omega
      subst this;exact q
     rw[s];dsimp only;rw[if_neg ∅];let(k,r,k1,k2,k3):=Fq f (m:=m) ∅ ∅ o;rw[r];exact(k1,k2,mirror_size _ _ _ _,mirror_perm _ _ _ _,f.rev ∅,k3)
def p9{p:Array Nat}:∀f l r,l<=r->r<=k->r-l<=f->
 (∀i,i<l->c (p.getD i 0) (p.getD k 0)=true)->(∀i,r<=i->i<k->c (p.getD k 0) (p.getD i 0)=true)->
 (∀i j,i<j->j<k->c (p.getD i 0) (p.getD j 0)=true)->(∀i j k,c i j=true->c j k=true->c i k=true)->(∀i,i<k->c (p.getD i 0) (p.getD k 0)=true\/c (p.getD k 0) (p.getD i 0)=true)->
 cO c (kas_place p k f l r)<=k/\(∀i,i<cO c (kas_place p k f l r)->c (p.getD i 0) (p.getD k 0)=true)/\(∀i,cO c (kas_place p k f l r)<=i->i<k->c (p.getD k 0) (p.getD i 0)=true)
 | 0,l,r,t,m,s,g,d,a,_,_=>by
   have:l=r:=by omega
   subst this;exact(m,g,d)
 | f+1,l,r,t,m,s,g,d,a,b,h=>by
   ext kas_place;by_cases q:l>=r
   · rw[Xx q]
     have:l=r:=by omega
     subst this;exact(m,g,d)
   · rw[Xy q];have e:cO c (.ask (p.getD k 0) (p.getD ((l+r) / 2) 0) λc=>if c=true then kas_place p k f l ((l+r) / 2) else kas_place p k f ((l+r) / 2+1) r)=cO c (if c (p.getD k 0) (p.getD ((l+r) / 2) 0)=true then kas_place p k f l ((l+r) / 2) else kas_place p k f ((l+r) / 2+1) r):=rfl;rw[e];by_cases y:c (p.getD k 0) (p.getD ((l+r) / 2) 0)=true
     · rw[Xx y];refine p9 f _ _ ∅ ∅ ∅ g (λi hi o=>?_) a b h;by_cases z:i=(l+r) / 2
       .rw[z];exact y
       .exact b _ _ _ y (a _ _ ∅ o)
     · rw[Xy y];refine p9 f _ _ ∅ ∅ ∅ (λi hi=>?_) d a b h
       have n:c (p.getD ((l+r) / 2) 0) (p.getD k 0)=true:=by
        rcases h ((l+r) / 2) ∅ with z|z
        .exact z
        .exact absurd z y
       by_cases z:i=(l+r) / 2
       .rw[z];exact n
       .exact b _ _ _ (a _ _ ∅ ∅) n
def zV{p:Array Nat}{k l:Nat}(b:k<p.size)(c:l<=k)(i:Nat):(bubble p k (k-l)).getD i 0=if i=l then p.getD k 0 else if l<i/\i<=k then p.getD (i-1) 0 else p.getD i 0:=by
 rw[Yo,getElem?_bubble b (k-l) ∅,show k-(k-l)=l from by omega];by_cases h:i=l
 .rw[Xx h,Xx h,Yo]
 · rw[Xy h,Xy h];by_cases a:l<i/\i<=k
   .rw[Xx a,Xx a,Yo]
   .rw[Xy a,Xy a,Yo]
def Tot.of_perm(g:∀i j,i<n->j<n->i≠j->c i j=true\/c j i=true){p:Array Nat}(hp:p.Perm (List.range n).toArray):Tot c p:=by
 have a:p.toList.Perm (List.range n):=by simpa using hp.toList
 have nd:p.toList.Nodup:=a.nodup_iff.mpr List.nodup_range;intro i j d b;have f:p.getD i 0=p.toList[i]'(by simpa using(by omega:i<p.size)):=by simp[Array.getD,show i<p.size from by omega]
 have e:p.getD j 0=p.toList[j]'(by simpa using b):=by simp[Array.getD,b]
 have k:p.getD i 0<n:=by rw[f];exact Zl.mp (a.mem_iff.mp (YU _))
 have h:p.getD j 0<n:=by rw[e];exact Zl.mp (a.mem_iff.mp (YU _))
 refine g _ _ k h λz=>?_;rw[f,e]at z;exact Zu.mp nd i j (by simpa using(by omega:i<p.size)) (by simpa using b) d z
include tr in
theorem C3{n:Nat}(o:∀i j,i<n->j<n->i≠j->c i j=true\/c j i=true):∀f (p:Array Nat) k,p.Perm (List.range n).toArray->k+f=p.size->Asc c p k->(cO c (kas_bin f p k)).Perm (List.range n).toArray/\Asc c (cO c (kas_bin f p k)) p.size
 |0,p,k,hp,m,a=>(hp,by rw[<-m];exact a)
 | f+1,p,k,hp,m,a=>by
   have w:=Tot.of_perm o hp
   have e:cO c (kas_bin (f+1) p k)=cO c (kas_bin f (bubble p k (k-cO c (kas_place p k k 0 k))) (k+1)):=by
    show cO c ((kas_place p k k 0 k).bind _)=_;rw[iR]
   rw[e];let(b,u,t):=p9 (c:=c) (p:=p) (k:=k) k 0 k ∅ ∅ ∅ (λi hi=>by omega) (λi s q=>by omega) (λi j s q=>Asc.lt' tr a s q) tr (λi hi=>w i k hi ∅);generalize cO c (kas_place p k k 0 k)=l at b u t;have v:=bubble_size p k (k-l)
   have r:=C3 o f (bubble p k (k-l)) (k+1) ((bubble_perm _ _ _).trans hp) ∅ λi hi=>by
    rw[zV ∅ b,zV ∅ b];by_cases h:i=l
    .rw[Xx h,Xy ∅,Xx ∅];exact t _ ∅ ∅
    · rw[Xy h];by_cases g:i+1=l
      .rw[Xx g,Xy ∅];exact u _ ∅
      · rw[Xy g];by_cases d:l<i/\i<=k
        .rw[Xx d,Xx ∅];exact Asc.lt' tr a ∅ ∅
        .rw[Xy d,Xy ∅];exact Asc.lt' tr a ∅ ∅
   rw[v]at r;exact r
include tr ir in
def Hb{n:Nat}(l:1<=n)(d:∀i j,i<n->j<n->i≠j->c i j=true\/c j i=true):(cO c (kas_sort n)).Perm (List.range n).toArray/\Asc c (cO c (kas_sort n)) n:=by
 have f:(List.range n).toArray.size=n:=by simp
 ext kas_sort;rw[iR]
 have:=Fs tr ir (p:=(List.range n).toArray) (Tot.of_perm d (Ad8 _)) ∅
 rw[f]at this;let(k,h,e,b,g,a):=this;generalize cO c (kas_count n (List.range n).toArray)=r at k h e b g a;by_cases q:r.1<n
 · rw[Xx q,show max r.1 1=r.1 from by omega]
   have:=C3 tr d (n-r.1) r.2 r.1 b ∅ a
   rw[e]at this;exact this
 .rw[Xy q];exact(b,by rw[show n=r.1 from by omega];exact a)
end
theorem xr:∀a b d:L Int,HT.cU a b=true->HT.cU b d=true->HT.cU a d=true
 |[],[],d,h,_=>by simp[HT.cU]at h
 |[],_::_,[],_,h=>by simp[HT.cU]at h
 |[],_::_,_::_,_,_=>rfl
 |_::_,[],_,h,_=>by simp[HT.cU]at h
 |_::_,_::_,[],_,h=>by simp[HT.cU]at h
 | x::xs,y::ys,z::i,f,c=>by
   rw[HT.dI]at f c ⊢;by_cases g:x=y
   · rw[Xx g]at f;by_cases e:y=z
     .rw[Xx e]at c;rw[Xx (g.trans e)];exact xr _ _ _ f c
     .rw[Xy e]at c;rw[Xy ∅];have:=YE c;exact Yn ∅
   · rw[Xy g]at f
     have:=YE f
     by_cases e:y=z
     .rw[Xy ∅];exact Yn ∅
     .rw[Xy e]at c;have:=YE c;rw[Xy ∅];exact Yn ∅
theorem DG:∀a b:L Int,a≠b->HT.cU a b=true\/HT.cU b a=true
 |[],[],h=>absurd rfl h
 |[],_::_,_=>.inl rfl
 |_::_,[],_=>.inr rfl
 | x::xs,y::ys,h=>by
   rw[HT.dI,HT.dI];by_cases q:x=y
   .rw[Xx q,Xx q.symm];exact DG xs ys λz=>h (by rw[q,z])
   · rw[Xy q,Xy (λz=>q z.symm)];rcases Int.lt_or_gt_of_ne q with z|z
     .exact .inl (Yn z)
     .exact .inr (Yn z)
abbrev ot(l:L (L Int)):Prop:=l.Pairwise λa b=>HT.cU a b=true
theorem qa:∀{l m:L (L Int)},ot l->ot m->(∀x,x∈l↔x∈m)->l=m
 |[],[],_,_,_=>rfl
 |[],y::m,_,_,h=>absurd ((h y).mpr Xw) ()
 |x::l,[],_,_,h=>absurd ((h x).mp Xw) ()
 | x::l,y::m,k,j,h=>by
   let(f,l2):=ZC.mp k;let(d,i):=ZC.mp j
   have g:∀{a b:L Int},HT.cU a b=true->HT.cU b a=true->False:=λp q=>by
    have:=xr _ _ _ p q
    rw[gJ]at this;exact nomatch this
   have e:x=y:=by
    rcases XC.mp ((h x).mp Xw) with z|z
    .exact z
    · rcases XC.mp ((h y).mpr Xw) with w|w
      .exact w.symm
      .exact(g (d _ z) (f _ w)).elim
   subst e;congr 1;refine qa l2 i λa=>(λc=>?_,λc=>?_)
   · rcases XC.mp ((h a).mp (on _ c)) with z|z
     .subst z;exact absurd (f _ c) (by rw[gJ];exact XO)
     .exact z
   · rcases XC.mp ((h a).mpr (on _ c)) with z|z
     .subst z;exact absurd (d _ c) (by rw[gJ];exact XO)
     .exact z
def FA{l:L W}{p:L Nat}(h:p.Perm (List.range l.length)):(pick l p).Perm l:=by
 have e:pick l (List.range l.length)=l:=by
  ext pick;apply List.ext_getElem?;intro i;rw[show(List.range l.length).filterMap (λi=>l[i]?)=l from ?_]
  have:∀m:L W,(List.range m.length).filterMap (λi=>m[i]?)=m:=by
   intro m
   induction m with
   |nil=>rfl
   |cons a m b=>
     rw[XD,Ad2,Zc,List.filterMap_map];show a::_=_;congr 1
  exact this l
 have:=h.filterMap (λi=>l[i]?)
 ext pick;unfold pick at e;rw[e]at this;exact this
def Bc{l:L (L Int)}(d:l.Nodup):(bF l).Perm (List.range l.length)/\∀i,i+1<l.length->HT.cU (l.getD ((bF l).getD i 0) []) (l.getD ((bF l).getD (i+1) 0) [])=true:=by
 ext bF;by_cases h:l.length<2
 .rw[Xx h];exact(List.Perm.refl _,λi hi=>by omega)
 · rw[Xy h]
   have:=Hb (c:=λi j=>HT.cU (l.getD i []) (l.getD j [])) (λi j k=>xr _ _ _) (λi=>gJ _) (n:=l.length) ∅ (λi j hi b a=>DG _ _ λz=>by
    rw[o3 hi,o3 b]at z
    exact a (FD d hi b z))
   refine(by simpa using this.1.toList,λi hi=>?_)
   have:=this.2 i hi
   simpa [List.getD,Yo] using this
theorem lC{W:Type}{R:W->W->Prop}(c:∀a b d,R a b->R b d->R a d):∀{l:L W},(∀i (h:i+1<l.length),R (l[i]'∅) l[i+1])->l.Pairwise R
 |[],_=>List.Pairwise.nil
 |[a],_=>by simp
 | a::b::l,h=>by
   have e:=lC c (l:=b::l) λi hi=>by
    have:=h (i+1) (by simp only[XD]at hi ⊢;omega)
    simpa using this
   have h0:R a b:=by have:=h 0 ();simpa using this
   refine ZC.mpr (λx f=>?_,e);rcases XC.mp f with z|z
   .rw[z];exact h0
   .exact c _ _ _ h0 ((ZC.mp e).1 x z)
def gF{l:L (L Int)}(j:l.Nodup):(pick l (bF l)).Perm l/\ot (pick l (bF l)):=by
 let(f,k):=Bc j;have hp:=FA f;refine(hp,?_)
 have e:pick l (bF l)=(bF l).map λi=>l.getD i []:=by
  ext pick;have c:∀i∈bF l,i<l.length:=λi hi=>List.mem_range.mp (f.mem_iff.mp hi);generalize bF l=p at c
  induction p with
  |nil=>rfl
  |cons x p h=>
    have g:=c x Xw;rw[Zc,XS g,Xz,h λi hi=>c i (on _ hi),o3 g]
 have m:(bF l).length=l.length:=by rw[f.length_eq,ZJ]
 rw[e];refine lC (λa b d=>xr a b d) λi hi=>?_;rw[Xv]at hi
 have:=k i ∅
 rw[o3 (by omega:i<(bF l).length),o3 hi]at this;rw[List.getElem_map,List.getElem_map];exact this
theorem CP{l:L (L Int)}(a:l.Nodup)(b:ot m)(h:∀x,x∈l↔x∈m):pick l (bF l)=m:=
 qa (gF a).2 b λx=>(gF a).1.mem_iff.trans (h x)
end L2
namespace Mi
open PySem L2
theorem vA:∀{bl:L Bool} {Z:St} {H:Hp} {Q Q':L V->Hp->Prop},(∀xs H1,Q xs H1->Q' xs H1)->Ft bl Z H Q->Ft bl Z H Q'
 |[],_,_,_,_,k,h=>k _ _ h
 |b::_,_,_,Q,Q',k,h=>vA (Q:=λxs H1=>Q (.bl b::xs) H1) (Q':=λxs H1=>Q' (.bl b::xs) H1) (λ_ _=>k _ _) h
theorem zS{K:L0}{I0 L':L (V×Value)}(b:i≠j)(e:SV K C (I0.map (·.2))=bl)(f:SV K C (L'.map (·.2))=bl'):∀(a:Addr) (D:Ends) (Z:St) (H:Hp),Z[j]?=J (J (.ref a))->L6 (pU (Fc (Ft bl)) (eB i)) (pU (LH HR (iu i) (Fc (Ft bl'))) (eB i)) D Z H->L6 (pU (Fc (Mw K a C j I0)) (eB i)) (pU (LH HR (iu i) (Fc (Mw K a C j L'))) (eB i)) D Z H:=λa D Z H c h=>by
 subst e f;refine wU c (vA (λxs H1 q=>(q.1,λp hp=>?_)) h);let(v,d,q):=q.2 p hp;exact(v,d,wU (by rw[Zn b];exact c) q)
end Mi
namespace Cl
open PySem L2 Mi
section
variable{Z W X O:Type}{Y:Z->LK}{e:W->D}{e':X->D}{e'':O->D}
instance decH3 {W X O:Type} [DecidableEq W] [DecidableEq X] [DecidableEq O]:DecidableEq (W×X×O):=inferInstance
end
end Cl
namespace Mi
open PySem L2
section
variable{Y:Cm}{E:XK}{Kr:KT D V}{pr:Nat->Bool}{M:L Md}{K:L0}{B U H:Hp}{I0:Nat->L Addr}{Z:St}{T:LK}
open Classical in
noncomputable def sub(H:Hp)(N:L Addr):Hp:=λa=>if a∈N\/(∃xs,H a=J (.tup xs)) then H a else G
def Nt(H:Hp)(N:L Addr):Prop:=∀a∈N,∃o,H a=J o/\¬ kh o
def CN:D->D->Res D
 |.lst xs,.int k=>if 0<=k then .ok (.lst (xs.take k.toNat)) else .bad
 |_,_=>.bad
def Ks{k:Int}(h:0<=k)(xs:L V):Af xs G (J k)=xs.take k.toNat:=by
 ext Af;have e:HT.yF xs.length xs.length (J k)=min k.toNat xs.length:=by show(if k<0 then _ else _)=_;rw[if_neg ∅]
 rw[e,HT.y8,List.drop_zero,Nat.sub_zero];by_cases z:k.toNat<=xs.length
 .rw[Nat.min_eq_left z]
 .rw[Nat.min_eq_right ∅,List.take_length,Ad4 ∅]
def Im(l:PJ Y (KC Y .F) E M ta f)(j:PJ Y (KR Y .X) E M tb e):PJ Y (KO Y (.ct .fz)) E M (Tt (MC Y.K) ta oA (yO tb)) (bn CN f e):=by
 intro B U I0 Z H T Q R P;refine l.bnd R P λx v I U1 H1 O _ q A w N s=>j.bnd q s λy u r o i C _ R2 g t d c=>?_;have N:Cn Y I H1 x v:=N;have d:Dn Y i y u:=d;cases y with
 |int k=>
   rw[Dn]at d;subst d;refine(k,rfl,?_);cases x with
   |lst ds=>
     let(a,xs,rfl,n,m):=N;replace c:Po Y (KO Y (.ct .fz)) E M r o I0 Z i T (if 0<=k then .ok (.lst (ds.take k.toNat)) else .bad) Q:=c;by_cases z:0<=k
     .rw[Xx z]at c;refine(a,xs,rfl,SqL.of (g.h _ _ n),λp hp=>?_);rw[Ks z];exact fH R2 c ((m.mono g.b).take _) hp
     .rw[Xy z]at c;exact c.elim
   |_=>exact c.elim
 |_=>cases x<;>exact c.elim
end
end Mi
namespace Cl
open PySem L2 Mi
section
variable{Z W X O:Type}{Y:Z->LK}{e:W->D}{e':X->D}{eR:O->D}
@[simp] def yN(xs:L W)(k:Int):Res (L W):=if 0<=k then .ok (xs.take k.toNat) else .bad
def IA(xs:L W)(k:Int):SimR (eL e) (CN (eL e xs) (.int k)) (yN xs k):=by
 show SimR (eL e) (if 0<=k then .ok (.lst ((xs.map e).take k.toNat)) else .bad) (if 0<=k then .ok (xs.take k.toNat) else .bad);rw[<-Ac2];exact SimR.ite rfl trivial
end
end Cl
namespace Mi
open PySem L2
structure Al (i f d s:Nat) (p:Addr) (vf vd vs:V) (B:Hp) (Z:St):Prop where
 sa:rg Z i=J (.ref p)
 bl:B p=J (.lst [vf,vd,vs])
 f:rg Z f=J vf
 d:rg Z d=J vd
 s:rg Z s=J vs
end Mi
namespace L2
open PySem PySem.Spec PyProof.Rows
def AX(h:Heap)(e:Addr):Prop:=∃oe vs,h.get? e=J oe/\oe.data=.fields vs/\vs[2]?=J .none
section
variable{M:Model}{A:Around}{E:L3}{s:Shared}{base:Heap}{env:Env}{outer l:L Env}{I0 e:Addr}{oe:Obj}{vs:Array Value}{cls a0:Value}{Q:Unit->Shared->Prop}
structure Nt (fr:L Addr) (e I0:Addr) (oe:Obj) (h h':Heap) (T:Addr):Prop where
 new:h.get? T=G
 ne:T≠e
 tb:∃oT ts,h'.get? T=J oT/\oT.data=.fields ts/\ts[3]?=J (rawInt I0)
 exc:h'.get? e=J (oe.mapFields (·.setIfInBounds 1 (Value.ref T)))
 rest:∀b o,b≠e->b∉fr->h.get? b=J o->h'.get? b=J o
 slot:∀b o,b≠e->h.get? b=J o->∃sl,h'.get? b=J {o with slots:=sl}
def zu(f:A.frames=J (env::outer))(j:s.heap.FunFrames base (env::outer))(v:env.frame=J I0)(l:s.heap.get? e=J oe)(hd:oe.data=.fields vs)(hsz:1<vs.size)
 (h:∀h' T,Nt (gj (env::outer)) e I0 oe s.heap h' T->Q j2 {s with heap:=h'}):
 wpAny M A (do let a <-frameOf env;let pl <-entryPlaceOf I0 t;let b <-EntryCells.newEntry head a .none (rawInt I0) .none pl;setField (.ref e) 1 b) Q E s:=by
 have p:e∉gj (env::outer):=λu=>by
  let(_,o,i,z):=j.mem u;rw[l]at i;cases i;exact z vs hd
 refine wpAny_bind (wpAny_frameOf_fun f j v λc k=>?_);refine wpAny_bind (wpAny_entryPlaceOf λpl d=>?_);ext EntryCells.newEntry newFields;refine wpAny_bind (wpAny_newObj_type ?_ (d.sizeOk5 _ _ _ _ _));have n:c.get? e=J oe:=(k.2.1 e p).trans l;have m:=Heap.get?_push_of_some (h:=c) {cls:=.type "traceback",dict:=G,data:=.fields ([head,.ref I0,.none,rawInt I0,.none]++(if pl.isEmpty then List.replicate 6 Value.none else pl)).toArray} n;have ne:c.objs.size≠e:=Nat.ne_of_gt (Heap.lt_size n);refine wpAny_setField m hd hsz (h _ c.objs.size (?_,ne,?_,?_,λb o g r q=>?_,λb o g q=>?_))
 .rw[show s.heap.get? c.objs.size=G from Zm (by rw[k.1];exact XH _)]
 · refine(_,_,(X3 _ _ (YS ne)).trans (XU c rfl),rfl,?_)
   first | (simp;done) | (rcases d with rfl | ⟨_,_,_,_,_,_,_,rfl⟩ <;> simp)
 .exact Y5 _ m (ZP (Y3 hd _))
 .rw[X3 _ _ (YS g)];exact XB _ ((k.2.1 b r).trans q)
 .let(sl,z):=k.2.2 b o q;exact(sl,by rw[X3 _ _ (YS g)];exact XB _ z)
def Nt.held(n:Nt (gj (env::outer)) e I0 oe s.heap h' T)(h:s.heap.FunFrames base (env::outer))(a:base.StaysIn s.heap)(d:base.get? e=G)(p:s.heap.get? e=J oe)(hd:oe.data=.fields vs)(hsz:1<vs.size)(h0:vs[0]?=J a0):
 Heap.HeldW base (env::outer) e oe.cls a0 I0 h'/\s.heap.UpToSlots h'/\(vs[2]?=J .none->AX h' e):=by
 let(m,i,l,k,j):=n.tb
 have g:∀b o,s.heap.get? b=J o->(∀vs,o.data≠ .fields vs)->b≠e:=λb o q z w=>by
  rw[w,p]at q;cases q;exact z vs hd
 have f:=Y3 hd (·.setIfInBounds 1 (Value.ref T));refine((λb o q=>?_,d,h.of_keeps λb o q z=>?_,?_),λb o q z=>n.slot b o (g b o q z) q,λc=>(_,_,n.exc,f,by rw[ZN ()];exact c))
 .refine n.rest b o (λw=>by rw[w,d]at q;cases q) (λw=>?_) (a b o q);rw[(h.mem w).1]at q;cases q
 .let(sl,w):=n.slot b o (g b o q z) q;exact(_,w,rfl)
 · refine(_,_,T,m,i,n.exc,(Obj.cls_mapFields _ _,by rw[ZN ()];exact h0),f,by simp[hsz],?_,n.ne,l,k,j);cases q:base.get? T with
   |none=>rfl
   |some o=>have:=a T o q;rw[n.new]at this;cases this
def zv(p:A.frames=J (env::outer))(x:env.frame=J I0)(g:base.StaysIn s.heap)(h:base.get? e=G)(v:s.heap.FunFrames base (env::outer))(D:s.heap.TracedAtW base e cls a0 fl)(c:AX s.heap e)
 (B:∀h',Heap.HeldW base (env::outer) e cls a0 I0 h'->s.heap.UpToSlots h'->AX h' e->Q j2 {s with heap:=h'}):wpAny M A (noteFrame (.ref e) env) Q E s:=by
 let(oe,vs,T,F,t,k,(rfl,h0),hd,l,y,j,m,dT,r):=D
 have H:vs[2]?=J .none:=by
  let(_,_,q,d,c):=c;rw[k]at q;cases q;rw[hd]at d;cases d;exact c
 ext noteFrame;simp only[x];refine wpAny_bind (wpAny_field k hd l ?_);rw[if_pos (show(Value.ref T != Value.none)=true by simp)];refine wpAny_bind (wpAny_field m dT r ?_);by_cases z:(fl==rawInt I0)=true
 · rw[Xx z];have C:fl=rawInt I0:=by simpa using z
   subst C;exact XQ (B s.heap (g,h,v,oe,vs,T,F,t,k,(rfl,h0),hd,l,y,j,m,dT,r) (Heap.UpToSlots.refl _) c)
 rw[Xy z];refine XA (Aa8 m dT (Zr.mp r).1 ?_);have a:∀b,b≠T->(s.heap.update T (Obj.mapFields (·.setIfInBounds 3 Value.none))).get? b=s.heap.get? b:=λb Cv=>X3 _ _ (YS Cv)
 have u:∀b o,s.heap.get? b=J o->(∀vs,o.data≠ .fields vs)->b≠T:=λb o q z w=>by
  rw[w,m]at q;cases q;exact z t dT
 have f:(s.heap.update T (Obj.mapFields (·.setIfInBounds 3 Value.none))).FunFrames base (env::outer):=v.of_keeps λb o q z=>(o,(a b (u b o q z)).trans q,rfl);have i:=(a e (YS j)).trans k;refine zu (s:={s with heap:=_}) p f x i hd (Zr.mp l).1 λh' I n=>?_;let(k1,k2,k3):=Nt.held (s:={s with heap:=_}) n f (λb o q=>(a b λw=>by rw[w,y]at q;cases q).trans (g b o q)) h i hd (Zr.mp l).1 h0;exact B h' k1 (λb o q z=>k2 b o ((a b (u b o q z)).trans q) z) (k3 H)
theorem sV(a:A.frames=J (env::outer))(b:env.frame=J I0)(fl:Heap.FlyingW base (env::outer) e cls a0 s.heap)(c:AX s.heap e)
 (d:∀h',Heap.HeldW base (env::outer) e cls a0 I0 h'->s.heap.UpToSlots h'->AX h' e->Q j2 {s with heap:=h'}):wpAny M A (noteFrame (.ref e) env) Q E s:=zv a b fl.1 fl.2.1 fl.2.2.1 fl.2.2.2.at c d
def vP(b:A.frames=J (env::outer))(h:env.frame=J I0)(g:s.heap.FunFrames base (env::outer))(a:base.StaysIn s.heap)(c:base.get? e=G)(d:s.heap.get? e=J oe)(hd:oe.data=.fields vs)(f:vs[1]?=J .none)(h0:vs[0]?=J a0)
 (i:∀h',Heap.HeldW base (env::outer) e oe.cls a0 I0 h'->s.heap.UpToSlots h'->(vs[2]?=J .none->AX h' e)->Q j2 {s with heap:=h'}):wpAny M A (noteFrame (.ref e) env) Q E s:=by
 ext noteFrame;simp only[h];refine wpAny_bind (wpAny_field d hd f ?_);rw[if_neg ()];refine zu b g h d hd (Array.getElem?_eq_some_iff.mp f).1 λh' T n=>?_;let(k1,k2,k3):=n.held g a c d hd (Array.getElem?_eq_some_iff.mp f).1 h0;exact i h' k1 k2 k3
def tq{f:Option Addr}(h:base.StaysIn s.heap)(u:base.get? e=G)(t:s.heap.FunFrames base l)(r:s.heap.TracedAtW base e cls a0 fl)
 (y:∀h',base.StaysIn h'->h'.FunFrames base l->h'.TracedAtW base e cls a0 (f.elim .none λf=>rawInt f)->s.heap.UpToSlots h'->(AX s.heap e->AX h' e)->Q j2 {s with heap:=h'}):wpAny M A (setFlight (.ref e) f) Q E s:=by
 let(oe,vs,T,C,p,k,v,hd,n,m,g,i,dT,B):=r;have a:∀b,b≠T->(s.heap.update T (Obj.mapFields (·.setIfInBounds 3 (f.elim .none λf=>rawInt f)))).get? b=s.heap.get? b:=λb x=>X3 _ _ (YS x)
 have j:∀b o,s.heap.get? b=J o->(∀vs,o.data≠ .fields vs)->b≠T:=λb o q z w=>by
  rw[w,i]at q;cases q;exact z p dT
 have sz:=(Array.getElem?_eq_some_iff.mp B).1;ext setFlight;refine wpAny_bind (wpAny_field k hd n ?_);rw[if_pos (show(Value.ref T != Value.none)=true by simp)]
 refine Aa8 i dT sz (y _ (λb o q=>(a b λw=>by rw[w,m]at q;cases q).trans (h b o q)) (t.of_keeps λb o q z=>(o,(a b (j b o q z)).trans q,rfl))
  (oe,vs,T,_,_,(a e (YS g)).trans k,v,hd,n,m,g,Y5 _ i (ZP (Y3 dT _)),Y3 dT _,by simp[sz]) (λb o q z=>(o.slots,(a b (j b o q z)).trans q)) λ(_,_,q,d,c)=>(_,_,(a e (YS g)).trans q,d,c))
theorem oV(b:base.StaysIn s.heap)(a:base.get? e=G)(g:s.heap.FunFrames base l)(d:s.heap.TracedAtW base e cls a0 fl)(c:AX s.heap e)
 (h:∀h',Heap.FlyingW base l e cls a0 h'->s.heap.UpToSlots h'->AX h' e->Q j2 {s with heap:=h'}):wpAny M A (setFlight (.ref e) G) Q E s:=tq (f:=G) b a g d λh' k1 k2 k3 u c'=>h h' (k1,a,k2,k3) u (c' c)
def FN(a:A.frames=J (env::outer))(g:env.frame=J I0)(fl:Heap.FlyingW base (env::outer) e cls a0 s.heap)(c:AX s.heap e)
 (h:∀h',Heap.FlyingW base outer e cls a0 h'->s.heap.UpToSlots h'->AX h' e->Q j2 {s with heap:=h'}):wpAny M A («leaving» env (.ref e)) Q E s:=by
 ext «leaving»;refine wpAny_bind (sV a g fl c λj k u m=>?_);let(k1,k2,k3,d):=k;exact oV (s:={s with heap:=j}) k1 k2 k3 d m λi f b l=>h i (f.1,f.2.1,f.2.2.1.2.2,f.2.2.2) (u.trans b) l
def B5{h:Heap}(d:A.frames=J (env::outer))(m:env.frame=J I0)(a:base.StaysIn h)(l:h.FunFrames base (env::outer))(c:Heap.MadeExcOf h s.heap e cls args)
 (p:∀h' t,Heap.FlyingW base outer e cls (.ref t) h'->s.heap.UpToSlots h'->AX h' e->Q j2 {s with heap:=h'}):wpAny M A («leaving» env (.ref e)) Q E s:=by
 let(t,n,_,_):=c.there
 have g:base.get? e=none:=by
  cases q:base.get? e with
  |none=>rfl
  |some o=>have:=a e o q;rw[c.new]at this;cases this
 ext «leaving»;refine wpAny_bind (vP (a0:=.ref t) d m (l.of_keeps λb o q _=>(o,c.keeps b o q,rfl)) (λb o q=>c.keeps b o (a b o q)) g n rfl rfl rfl λv k u x=>?_);let(k1,k2,k3,j):=k;exact oV (s:={s with heap:=v}) k1 k2 k3 j (x rfl) λr f i w=>p r t (f.1,f.2.1,f.2.2.1.2.2,f.2.2.2) (u.trans i) w
end
def ip(P:Program)(w:World):AY:=λouter H s E e s'=>u7 P w outer H s E e s'/\∀a,e=.ref a->AX s'.heap a
structure Own2 (X:Cx) (E:XK):Prop where
 xe:X.xe=λe s'=>j1 X («leaving» X.env e) (λ_ s''=>ip X.prog X.w X.outer X.H₀ X.s₀ E e s'') (λe' s''=>ip X.prog X.w X.outer X.H₀ X.s₀ E e' s'')  s'
 ex:X.ex=[]
 stk:X.stack=X.env::X.outer
 fr:X.env.frame=J X.env.locals
theorem dm{K:L0}:
 Own2 (mo (ip P w) P w K mg base N qual scope f cd A outer s H E) E:=(rfl,rfl,rfl,rfl)
section
variable{X:Cx}{E:XK}{pins:L1}{Z:St}{H:Hp}{s:Shared}
def Own2.passes(O:Own2 X E):gd (ip X.prog X.w) X E:=by
 intro pins Z H s e s' I h;let((g,C,a0,B,H',rfl,os,bare,un,hok,fl,sl,fr,q),c):=h;rw[O.xe];rw[O.stk]at un fl sl fr;rw[dX O.fr]at un sl fr;refine FN (by rw[<-O.stk];exact I.ok.frames) O.fr fl (c g rfl) λh' d up c'=>?_;have f:Un (gj X.outer) [] X.H₀ H X.s₀.heap s.heap:=by have:=I.base;rw[O.ex]at this;exact this
 refine((g,C,a0,B,H',rfl,os.trans I.os,bare,f.cut un I.above,hok,d,λb a o e=>?_,λb a=>fr b (on _ a),q),λj z=>by cases z;exact c');let(n,m):=f.slot b o e (I.ok.frf b a) a ();let(l2,l):=sl b (on _ a) _ m;let(i,k):=dQ up fl.2.2.1.2.2 a l;exact(i,k)
def Own2.raised(O:Own2 X E)(I:Inv X pins Z H s)(m:Heap.MadeExcOf s.heap h' f (.ref C) vs)(q:E (.ref C) G H):X.xe (.ref f) {s with heap:=h'}:=by
 rw[O.xe];have g:Un (gj X.outer) [] X.H₀ H X.s₀.heap s.heap:=by have:=I.base;rw[O.ex]at this;exact this
 have fs:=I.stack;rw[O.stk]at fs;have d:∀b∈gj (X.env::X.outer),H b=none:=by have:=I.stkFree;rw[O.stk]at this;exact this
 have k:s.heap.FunFrames (PySem.W.hideAll s.heap (gj (X.env::X.outer))) (X.env::X.outer):=Ad5 fs λenv j b a=>Zz.mpr (env,j,a);refine B5 (h:=s.heap) (base:=PySem.W.hideAll s.heap (gj (X.env::X.outer))) (by rw[<-O.stk];exact I.ok.frames) O.fr (λb o e=>Zf _ e) k m λw t fl up c=>?_
 have un:Un (X.env.locals::gj X.outer) (X.env.locals::gj X.outer) H H s.heap (PySem.W.hideAll s.heap (gj (X.env::X.outer))):=by
  have:=Un.hide I.hok d
  rw[dX O.fr]at this ⊢;exact this
 refine((f,C,.ref t,_,H,rfl,I.os,I.bare,g.cut un I.above,I.hok.hide d,fl,λb a o e=>?_,λb a=>d b (by rw[dX O.fr];exact on _ a),q),λn z=>by cases z;exact c);let(v,u):=g.slot b o e (I.ok.frf b a) a ();have l:h'.FunFrames X.base X.outer:=I.funs.of_keeps λb o e _=>(o,m.keeps _ _ e,rfl);have r:=m.keeps _ _ u;let(i,p):=dQ up l a r;exact(i,p)
def Own2.own(O:Own2 X E):PassesOwn (model X.prog X.w) X.A X.env X.xe:=by
 rw[O.xe];exact PassesOwn.leaving
end
section
variable{P:Program}{w:World}{K:L0}{mg:Str->Option Value}{base:Heap}
def Fun.okX2{x qual:Str}{st:Stmt}{f:Addr}{fd:FuncData}{N ps:L Str}{k:Nat}{sp:Sp}(F:Fun K x qual st f fd)(S:FnScope N ps (au st))(len:∀vs H Q E,sp vs H Q E->vs.length=ps.length)
 (b:∀(a:Value) (A:Around) (outer:L Env) (s:Shared) (H:Hp) (vs:L V) (Q:VK) (E:XK),Room k (A.deeper (envOfC qual (au st) s.heap.objs.size f a))->sp vs H Q E->
   ∃t,Gn (mo (ip P w) P w K mg base N qual (au st) f a A outer s H E) (fk st) t/\t {nx:=λ_ H'=>Q .non H',rt:=Q} (j4 N vs) H):FnOk P w K mg base (ip P w) (k+1) f fd ps sp:=by
 let(oc,i,kV,h,pm,an,a,ct,e,rfl,lk,d):=F.ex;exact fn_of lk d S len λA outer s H vs Q E g c=>b a A outer s H vs Q E g c
theorem bc:gd (ip P w) (mo (ip P w) P w K mg base N qual scope f cd A outer s H E) E:=dm.passes
theorem i9:PassesOwn (model P w) (mo (ip P w) P w K mg base N qual scope f cd A outer s H E).A (mo (ip P w) P w K mg base N qual scope f cd A outer s H E).env (mo (ip P w) P w K mg base N qual scope f cd A outer s H E).xe:=dm.own
theorem d7{X:Cx}(h:gd (u7 P w) X E):gd (ip P w) X E:=λa Z H s e s' I q=>h a Z H s e s' I q.1
theorem Ik{X:Cx}:gd (ip P w) X E0:=λ_ _ _ _ _ _ _ h=>(no1 h.1).elim
end
section
variable{X:Cx}{E:XK}{x:Str}{C:Addr}{np cpos pos:Pos}{e₀:Expr}{t:TA}
def cF(O:Own2 X E)(r:X.calm=true)(p:Gl X x)(l:X.mg x=J (.ref C))(o:gC X.K C=true)(u:PA X [e₀] t)(hd:(x==("__debug__" : Str))=false:=by decide)
 (f:starEach [e₀] X.env=(false,eval e₀ X.env)::starEach [] X.env:=by rfl) (c:(backTo cpos (starEach [] X.env)).any (·.1)=false:=by rfl):
 PS X (.Raise (J (.Call (.Name x np) [e₀] [] cpos)) G pos) (GH E C t):=by
 intro a s Z H D I h;let(bm,N,nm,j,bs,hdct,sn,sub,ab,col,dd,k0,k1,k2,k3,k5,mN,w,v,d,T,_):=kR I.ok.mod.kin o
 refine wpAny_Raise_call_subT (C:=C) (nm:=nm) (q:=j) (N:=N) (bs:=bs) (bm:=bm) (hdct:=hdct) (sn:=sn) (sub:=sub) (ab:=ab) (col:=col) (dd:=dd) (k0:=k0) (k1:=k1) (k2:=k2) (k3:=k3) (k5:=k5)
  Ab2 (mN:=mN) (T.hasType PySem.F.excBase_ValueError.hasBase) (I.ok.hd r) (by rw[f];show(false||(backTo cpos (starEach [] X.env)).any (·.1))=false;rw[c];rfl) d (jD I p l (rfl,?_) hd)
 have g:=u cpos a s Z H _ I h;rw[f]at g ⊢;refine Zq (cf g λus s2 (vs,y,b,i,n,k)=>(rfl,?_,b.bk _ _ w,v.keeps b.bk,T.keeps b.bk,λh' e m=>O.raised b m k));rw[<-i.length];exact Yz (vt n)
end
section
variable{X:Cx}{E:XK}{x n:Str}{C C0 ea:Addr}{oe:Obj}{np np2 cpos pos:Pos}{e₀:Expr}{t:TA}{pins:L1}{Z:St}{H:Hp}{s:Shared}{j:Nat}{Ex:L3}
def Lj(I:Inv X pins Z H s)(B1:Gl X x)(n:X.mg x=J (.ref C))(Cv:gC X.K C=true)(I0:PA X [e₀] t){P:Hp->Prop}(h:t Z H λvs H'=>vs.length<=1000/\P H'){Q:L3}
 (E:∀s2 h' y H' us,Inv X pins Z H' s2->P H'->Heap.MadeExcOf s2.heap h' y (.ref C) us->Q (.ref y) {s2 with heap:=h'}) (hd:(x==("__debug__" : Str))=false:=by decide)
 (r:starEach [e₀] X.env=(false,eval e₀ X.env)::starEach [] X.env:=by rfl) (l:(backTo cpos (starEach [] X.env)).any (·.1)=false:=by rfl):
 j1 X (eval (.Call (.Name x np) [e₀] [] cpos) X.env) Q X.xe s:=by
 let(bm,N,nm,S,bs,hdct,sn,sub,ab,col,dd,k0,k1,k2,k3,k5,mN,u,M,m,T,_):=kR I.ok.mod.kin Cv;refine wpAny_Call_ofName (jD I B1 n ?_ hd);ext callWith;have v:=I0 cpos pins s Z H _ I h;have c:(backTo cpos (starEach [e₀] X.env)).any (·.1)=false:=by rw[r];show(false||(backTo cpos (starEach [] X.env)).any (·.1))=false;rw[l];rfl
 have O:j1 X (evalArgs (.ref C) true (backTo cpos (starEach [e₀] X.env)) []) (λa b=>a.kw=[]/\a.pos.length<=sizeLine/\∃H',Inv X pins Z H' b/\P H') X.xe s:=by
  rw[r]at v ⊢;refine Zq (cf v λus s2 (vs,q,f,D,F,k)=>(rfl,?_,q,f,k));show us.length<=_;rw[<-D.length];exact Yz (vt F)
 refine XA (Zy (YO O (λa b i=>XA (ZY ?_)) λ_ _ z=>z));let(B,p):=a;let(o,j,q,f,k):=i;obtain rfl:p=[]:=o;let(hp,g,d,R,os):=b;simp only[c];refine XA (wpAny_keeperOf_exc (f.bk _ _ u) ?_);refine XA (wpAny_call_exc_subT (hrest:=j) Ab2 (T.keeps f.bk) (f.bk _ _ u) (M.keeps f.bk) m λh' e n=>XA (Zy (wpAny_point (XQ ?_))));exact E _ h' e q _ f k n
def RG{M:Model}{A:Around}{E:L3}{i:Nat}{v:V}{Q:L3}(I:Inv X pins Z H s)(o:X.N[i]?=J x)(g:Tk X.env.scope x)(n:Z[i]?=J (J v))(d:∀u,RelV v u->Q u s)(hd:(x==("__debug__" : Str))=false:=by decide)(e:(x==("__classdict__" : Str))=false:=by decide):wpAny M A (eval (.Name x np) X.env) Q E s:=by
 let(m,h,k):=I.loc;let(u,r,l):=k i x v o n g;rcases l with ⟨b,j⟩|⟨b,c,f,a⟩
 .exact Aa2 (wpAny_loadName_local I.ok.kind b h j (d u r)) hd
 · rcases b with b|b
   .exact Aa2 (wpAny_loadName_cell I.ok.kind b f a (d u r)) hd
   .exact Aa2 (wpAny_loadName_free I.ok.kind b f a (d u r) e) hd
def efv{M:Model}{A:Around}{E:L3}{h:Heap}{g:Array GenState}{d:Drawn}{j:Nat}{os:OsState}{e:Addr}{oe:Obj}{b:String}{Q:L3}(K:L0)(X:K.In h)(m:h.get? e=J oe)(f:oe.cls=.ref C){a:Array Value}(c:oe.data=.fields a)(kC:gC K C=true)(l:Q (.ref e) (h,g,d,j,os)):
 wpAny M A (excFromValue (.ref e) b) Q E (h,g,d,j,os):=by
 let(bm,N,nm,n,bs,hdct,sn,sub,ab,col,dd,k0,k1,k2,k3,k5,mN,k,_,_,T,_):=kR X kC;have i:(Value.ref C::bm).contains (.type "BaseException")=true:=by rw[Aa9,T.hasType PySem.F.excBase_ValueError.hasBase,Bool.or_true]
 ext excFromValue isExcClass
 repeat (first | (with_reducible refine YH m ?_;first | rw[f] | rw[c]) | with_reducible refine YH k ?_ | (with_reducible refine Zb k ?_;rw[i]) | wp_step)
 exact l
def Q2{M:Model}{A:Around}{E:L3}{h:Heap}{g:Array GenState}{d:Drawn}{f:Nat}{os:OsState}{e:Addr}{oe:Obj}{Q:Bool->Shared->Prop}(K:L0)(X:K.In h)(k:h.get? e=J oe)(c:oe.cls=.ref C){a:Array Value}(b:oe.data=.fields a)(kC:gC K C=true)(j:Q false (h,g,d,f,os)):
 wpAny M A (isType (.ref e)) Q E (h,g,d,f,os):=by
 let(bm,N,nm,l,bs,hdct,sn,sub,ab,col,dd,k0,k1,k2,k3,k5,mN,i,_,_,T,_):=kR X kC
 repeat (first | (with_reducible refine YH k ?_;first | rw[c] | rw[b]) | with_reducible refine YH i ?_ | (with_reducible refine Zb i ?_) | wp_step)
 exact j
def ri{M:Model}{A:Around}{E:L3}{h:Heap}{g:Array GenState}{d:Drawn}{f:Nat}{os:OsState}{e:Addr}{oe:Obj}{Q:L3}(K:L0)(X:K.In h)(k:h.get? e=J oe)(c:oe.cls=.ref C){a:Array Value}(b:oe.data=.fields a)(kC:gC K C=true)(j:Q (.ref e) (h,g,d,f,os)):
 wpAny M A (raisedInstance (.ref e)) Q E (h,g,d,f,os):=by
 let(bm,N,nm,l,bs,hdct,sn,sub,ab,col,dd,k0,k1,k2,k3,k5,mN,i,_,_,T,_):=kR X kC;ext raisedInstance
 repeat (first | (with_reducible refine YH k ?_;first | rw[c] | rw[b]) | with_reducible refine YH i ?_ | (with_reducible refine Zb i ?_) | wp_step)
 exact j
theorem u0:entryFor table "proto.unchain" = J Builtin.«proto.unchain»:=entryFor_of_tree (by kernel_rfl)
def Bt(I:Inv X pins Z H s)(hh:X.A.handled=J (.ref ea))(v:∀s' H',Inv X pins Z H' s'->s'.heap.get? ea=J oe)(l:oe.data=.fields g)(h2:g[2]?=J .none)(S:oe.cls=.ref C0)(B1:gC X.K C0=true)
 (hg:Gl X x) (hm:X.mg x=J (.ref C)) (B:gC X.K C=true) (ha:PA X [e₀] t) {P:Hp->Prop} (h:t Z H λvs H'=>vs.length<=1000/\P H') (hN:X.N[j]?=J n) (hv:Tk X.env.scope n) (hj:Z[j]?=J (J (V.ref ea)))
 (hq:∀s2 h' a H' E,Inv X pins Z H' s2->P H'->s2.heap.get? a=G->(∀b o,s2.heap.get? b=J o->h'.get? b=J o)->h'.get? a=J {cls:=.ref C,data:=.fields #[.ref E,.none,.ref ea,.ref ea,.bool true,.none]}->Ex (.ref a) {s2 with heap:=h'})
 (hx:∀e s',X.xe e s'->Ex e s')  (hd:(x==("__debug__" : Str))=false:=by decide)
 (he:starEach [e₀] X.env=(false,eval e₀ X.env)::starEach [] X.env:=by rfl) (I0:(backTo cpos (starEach [] X.env)).any (·.1)=false:=by rfl) (O:(n==("__debug__" : Str))=false:=by decide) (R:(n==("__classdict__" : Str))=false:=by decide):
 j1 X (exec (.Raise (J (.Call (.Name x np) [e₀] [] cpos)) (J (.Name n np2)) pos) X.env) Q Ex s:=by
 rw[arm_exec_Raise];simp only[evalOpt,Option.map];refine wpAny_bind (wpAny_standAt ?_);ext raiseStmt;dsimp only;refine wpAny_bind (wpAny_bind (wpAny_mono (Lj I hg hm B ha h (λs2 h' a H' us D p m=>?_) hd he I0) (λ_ _ z=>z) hx));refine wpAny_bind (wpAny_standAt (wpAny_pure ?_));have f:Inv X pins Z H' {s2 with heap:=h'}:=D.kept (t':=s2.toks) m.keeps;let(E,Cv,_,_):=m.there;have U:=v _ _ f
 have ne:ea≠a:=λz=>by
  have:=v _ _ D
  rw[z,m.new]at this;cases this
 let(M,g2,d2,W,Y):=s2;refine wpAny_bind (wpAny_holding (wpAny_bind (RG f hN hv hj (λu r=>?_) O R)));obtain rfl:u=Value.ref ea:=r;refine wpAny_bind (wpAny_standAt (wpAny_pure ?_));refine wpAny_bind (wpAny_pure ?_);refine wpAny_bind (wpAny_holding (efv X.K f.kIn Cv rfl rfl B ?_));dsimp only;rw[if_neg (show ¬ ((Value.ref ea==Value.none)=true) by simp)];refine wpAny_bind (wpAny_holding (efv X.K f.kIn U S l B1 ?_));refine wpAny_bind (wpAny_setField Cv rfl () ?_);have i:=Heap.get?_update_self (Obj.mapFields (·.setIfInBounds 3 (Value.ref ea))) Cv rfl;refine wpAny_bind (wpAny_setField i rfl (by simp[Obj.mapFields]) ?_);have c:=Heap.get?_update_self (Obj.mapFields (·.setIfInBounds 4 (Value.bool true))) i rfl;have d:∀b,b≠a->((h'.update a (Obj.mapFields (·.setIfInBounds 3 (Value.ref ea)))).update a (Obj.mapFields (·.setIfInBounds 4 (Value.bool true)))).get? b=h'.get? b:=λb y=>by rw[Heap.get?_update_other _ _ (Ne.symm y),Heap.get?_update_other _ _ (Ne.symm y)]
 have kb:∀b o,X.base.get? b=J o->b≠a:=λb o q z=>by
  have:=D.bk b o q
  rw[z,m.new]at this;cases this
 have kin:=X.K;have k:X.K.In ((h'.update a (Obj.mapFields (·.setIfInBounds 3 (Value.ref ea)))).update a (Obj.mapFields (·.setIfInBounds 4 (Value.bool true)))):=f.ok.mod.kin.keeps λb o q=>(d b (kb b o q)).trans (f.bk b o q);refine wpAny_bind (Q2 X.K k c rfl rfl B ?_);rw[if_neg ()];refine wpAny_bind (ri X.K k c rfl rfl B ?_);refine wpAny_bind ?_;ext setFlight;refine wpAny_bind (wpAny_field c rfl (x:=.none) rfl ?_);rw[if_neg ()];refine wpAny_pure ?_;ext raiseNew;refine wpAny_bind (wpAny_handled ?_);rw[hh];dsimp only;rw[if_pos (show(Value.ref ea != Value.ref a)=true by simp[ne])];have T:=(d ea ne).trans U;refine wpAny_bind (wpAny_holding (wpAny_runValue (codeAny_builtin_at u0 (wpAt_of_any ?_))));ext Builtin.«proto.unchain»;dsimp only;refine wpAny_bind (wpAny_field T l h2 ?_);rw[if_pos ()];refine wpAny_bind (wpAny_bind (wpAny_pure (wpAny_pure ?_)));refine wpAny_pure ?_;show wpAny _ _ (setField (.ref a) 2 (.ref ea) >>= λ_=>throw (Value.ref a)) _ _ _;refine wpAny_bind (wpAny_setField c rfl (by simp[Obj.mapFields]) (wpAny_throw ?_));have F:=Heap.get?_update_self (Obj.mapFields (·.setIfInBounds 2 (Value.ref ea))) c rfl;refine hq (M,g2,d2,W,Y) _ a H' E D p m.new (λb o q=>?_) F;have y:b≠a:=λz=>by rw[z,m.new]at q;cases q
 rw[X3 _ _ (YS y),d b y];exact m.keeps b o q
end
section
variable{M:Model}{A:Around}{E:L3}{s:Shared}{base:Heap}{env:Env}{outer l:L Env}{I0 e:Addr}{cls a0:Value}
theorem qY{h h':Heap}(k:∀b o,h.get? b=J o->(∀vs,o.data≠ .fields vs)->∃o',h'.get? b=J o'/\∀vs,o'.data≠ .fields vs):∀{l:L Env},h.FunFrames base l->h'.FunFrames base l
 |[],_=>trivial
 | env::l,(a,(I0,o,b,c,d,e),f)=>by
   let(o',d',g):=k I0 o d e;exact(a,(I0,o',b,c,d',g),qY k f)
def No{h i:Heap}(k:Heap.HeldW base l e cls a0 I0 h)(c:Heap.SameBut a h i)(n:h.Ns a m)(v:i.Ns a x)(B:base.get? a=G):Heap.HeldW base l e cls a0 I0 i:=by
 let(k1,k2,k3,oe,vs,T,r,p,t,A,hd,E,C,g,u,dT,D):=k;let(o,es,ep,y,dn,_):=n;let(o',F,Cv,f,j,_):=v
 have s:∀b ob vs,h.get? b=J ob->ob.data=.fields vs->b≠a:=λb ob vs q d z=>by
  rw[z,y]at q;cases q;rw[dn]at d;cases d
 refine(λb ob q=>(c.2 b λz=>by rw[z,B]at q;cases q).trans (k1 b ob q),k2,qY (λb ob q z=>?_) k3,oe,vs,T,r,p,(c.2 e (s e oe vs t hd)).trans t,A,hd,E,C,g,(c.2 T (s T r p u dT)).trans u,dT,D);by_cases w:b=a
 .subst w;exact(o',f,λvs z=>by rw[j]at z;cases z)
 .exact(ob,(c.2 b w).trans q,z)
theorem zR{Q:Unit->Shared->Prop}(k:Heap.HeldW base l e cls a0 I0 s.heap)(a:∀h',Heap.HeldW base l e cls a0 I0 h'->s.heap.UpToSlots h'->Q j2 {s with heap:=h'}):wpAny M A (setFlight (.ref e) (J I0)) Q E s:=tq (f:=J I0) k.1 k.2.1 k.2.2.1 k.2.2.2 λh' k1 k2 k3 u _=>a h' (k1,k.2.1,k2,k3) u
def DP{Q:L3}(k:Heap.HeldW base l e cls a0 I0 s.heap)(b:∀T,Q (.ref T) s):wpAny M A (field (.ref e) 1) Q E s:=by
 let(k1,k2,k3,oe,vs,T,f,d,a,g,hd,c,_):=k;exact wpAny_field a hd c (b T)
end
section
variable{X:Cx}{E:XK}{n:Str}{C ea e' tt:Addr}{oe:Obj}{pos:Pos}{pins:L1}{Z:St}{H:Hp}{s2:Shared}{h':Heap}{F Cv:L3}
def Iw(O:Own X E)(hk:X.env.kindOf n=J .local)(B1:Inv X pins Z H s2)(Y:s2.heap.get? e'=G)(kp:∀b o,s2.heap.get? b=J o->h'.get? b=J o)(me:h'.get? e'=J {cls:=.ref C,data:=.fields #[.ref tt,.none,.ref ea,.ref ea,.bool true,.none]})(q:E (.ref C) G H):
 wpAny (model X.prog X.w) (X.hand ea oe).A (noteFrame (.ref e') X.env) (λ_ i=>wpAny (model X.prog X.w) (X.hand ea oe).A (do bindName X.env n .none;unbindBehindTheSuite X.env n pos) (λ_ h=>wpAny (model X.prog X.w) (X.hand ea oe).A (PySem.passOn "try.except-as" (.ref e') X.env:Sem Flow) (λ_ _=>False) (notedBy (model X.prog X.w) (X.hand ea oe).A X.env λx s'=>cameBackBy (model X.prog X.w) X.A X.env X.xe x s') h) F i) Cv {s2 with heap:=h'}:=by
 have I0:Un (gj X.outer) [] X.H₀ H X.s₀.heap s2.heap:=by have:=B1.base;rw[O.ex]at this;exact this
 have fs:=B1.stack;rw[O.stk]at fs;have f:∀b∈gj (X.env::X.outer),H b=none:=by have:=B1.stkFree;rw[O.stk]at this;exact this
 have B:s2.heap.FunFrames (PySem.W.hideAll s2.heap (gj (X.env::X.outer))) (X.env::X.outer):=Ad5 fs λenv he b g=>Zz.mpr (env,he,g);have t:X.A.frames=J (X.env::X.outer):=by rw[<-O.stk];exact B1.ok.frames
 have un:Un (X.env.locals::gj X.outer) (X.env.locals::gj X.outer) H H s2.heap (PySem.W.hideAll s2.heap (gj (X.env::X.outer))):=by
  have:=Un.hide B1.hok f
  rw[dX O.fr]at this ⊢;exact this
 have hL:X.env.locals∈gj (X.env::X.outer):=by rw[dX O.fr];exact Xw
 have y:=(B.mem hL).1
 have u:(PySem.W.hideAll s2.heap (gj (X.env::X.outer))).get? e'=none:=by
  cases z:(PySem.W.hideAll s2.heap (gj (X.env::X.outer))).get? e' with
  |none=>rfl
  |some o=>have:=Zf _ z;rw[Y]at this;cases this
 have j:(X.env.scope.kind == .class||(X.env.scope.kind == .module&&X.env.locals != X.env.globals))=false:=by rw[B1.ok.kind];rfl
 let(m,hn,_):=B1.loc;refine vP (s:={s2 with heap:=h'}) (base:=PySem.W.hideAll s2.heap (gj (X.env::X.outer))) t O.fr (B.of_keeps λb o q _=>(o,kp b o q,rfl)) (λb o q=>kp b o (PySem.W.of_hideAll _ q)) u me rfl rfl rfl λM k8 D _=>?_;have K:M.Ns X.env.locals m:=D.ns (hn.keeps kp);refine wpAny_nameGoes_keeps (s:={s2 with heap:=M}) hk K j λh9 v n9 I=>?_;have r:=No k8 I K n9 y;ext PySem.passOn;refine wpAny_bind (DP r λT=>?_);rw[if_neg (show ¬ ((Value.ref T==Value.none)=true) by simp),O.fr];refine wpAny_bind (zR r λh10 a p=>wpAny_throw ?_);refine wpAny_noteFrame_againW O.fr a.2.2.2 ?_;ext cameBackBy;refine wpAny_bind (DP a λT=>?_);rw[if_neg (show ¬ ((Value.ref T==Value.none)=true) by simp),O.fr];refine zR a λh11 e l=>?_;rw[O.xe];ext «leaving»;refine wpAny_bind (wpAny_noteFrame_againW O.fr e.2.2.2 ?_);refine wpAny_landsW e λh12 d k=>?_;refine(e',C,.ref tt,_,H,rfl,B1.os,B1.bare,I0.cut un B1.above,B1.hok.hide f,(d.1,d.2.1,d.2.2.1.2.2,d.2.2.2),λb g o z=>?_,λb g=>f b (by rw[dX O.fr];exact List.mem_cons_of_mem _ g),q);let(l1,V):=I0.slot b o z (B1.ok.frf b g) g ();have U:=kp _ _ V;have ff:h'.FunFrames (PySem.W.hideAll s2.heap (gj (X.env::X.outer))) (X.env::X.outer):=B.of_keeps λb o q _=>(o,kp b o q,rfl);have c:b∈gj (X.env::X.outer):=by rw[dX O.fr];exact List.mem_cons_of_mem _ g
 let(l3,S):=dQ D ff c U;have nb:b≠X.env.locals:=λw=>by rw[w,B1.above]at z;cases z
 have R:=(I.2 b nb).trans S;let(l5,Q):=dQ p r.2.2.1 c R;let(l6,P):=dQ l a.2.2.1 c Q;let(l7,N):=dQ k e.2.2.1 c P;exact(l7,N)
end
def tR(K:L0)(Cv C:Addr)(E:XK):XK:=λb _ H'=>∃a,b=.ref a/\gC K a=true/\(jb K a).contains (.ref Cv)=true/\E (.ref C) G H'
section
variable{X:Cx}{E:XK}{st:L Stmt}{tb:TS}{gx x n:Str}{Cv C:Addr}{j:Nat}{np np1 np2 hp cpos rpos pos:Pos}{e₀:Expr}{t:TA}
def ME(O:Own X E)(T:∀q,PassesOwn (model X.prog X.w) X.A X.env q->gd (ip X.prog X.w) (X.wish q) (tR X.K Cv C E)->Gn (X.wish q) st tb)(hg:Gl X gx)(hm:X.mg gx=J (.ref Cv))(hG:gC X.K Cv=true)(hN:X.N.Nodup)(hj:X.N[j]?=J n)
 (hk:X.env.kindOf n=J .local) (hx:LQ X.env.scope n) (hv:Tk X.env.scope n) (hgC:Gl X x) (hmC:X.mg x=J (.ref C)) (hC:gC X.K C=true) (ha:∀c oe,PA (X.hand c oe) [e₀] t) (ht:∀Z H (P:Hp->Prop),P H->t Z H λvs H'=>vs.length<=1000/\P H')
 (hd:(gx == ("__debug__" : Str))=false:=by decide) (hf:X.fn n=true\/X.env.scope.names.lookup n=J .local:=by first | exact .inl rfl | exact .inr rfl | assumption) (hd2:(x == ("__debug__" : Str))=false:=by decide)
 (he:starEach [e₀] X.env=(false,eval e₀ X.env)::starEach [] X.env:=by rfl) (hpl:(backTo cpos (starEach [] X.env)).any (·.1)=false:=by rfl) (hdn:(n==("__debug__" : Str))=false:=by decide) (hcd:(n==("__classdict__" : Str))=false:=by decide):
 PS X (.Try st [.ExceptHandler (J (.Name gx np)) (J n) [.Raise (J (.Call (.Name x np1) [e₀] [] cpos)) (J (.Name n np2)) rpos] hp] [] [] pos) tb:=by
 intro k s Z H D I h;refine wpAny_Try_except ?_;refine YO (T (λe F=>j1 X (noteFrame e X.env) (λ_ y=>j1 X (setFlight e G) (λ_ r=>j1 X (handleBy e X.env [.ExceptHandler (J (.Name gx np)) (J n) [.Raise (J (.Call (.Name x np1) [e₀] [] cpos)) (J (.Name n np2)) rpos] hp]) (SP X k D) X.xe r) X.xe y) X.xe F) PassesOwn.looking ?_ k s Z H D (I.wish _) h) (λfl W z=>?_) (λe W z=>z)
 rotate_left
 · cases fl with
   |next=>exact Y6 z.unwish
   |ret v=>exact z.unwish
   |brk=>exact z.unwish
   |cont=>exact z.unwish
 · intro a f H1 W e s' I1 hcx;let((c,C0,a0,B,H',rfl,os,bare,un,hok,fl,sl,fr,C1,hCv,kC,Q,hE),cx):=hcx;cases hCv;replace I1:=I1.unwish;replace un:Un (gj X.stack) (gj X.stack) H1 H' W.heap B:=un;replace fl:Heap.FlyingW B X.stack c (.ref C0) a0 s'.heap:=fl;have c0:=cx c rfl;rw[O.stk]at fl;have ff:=fl.2.2.1;have hH:H' c=none:=hok.none fl.2.1;show wpAny _ _ (noteFrame (.ref c) X.env) _ _ _;have hfr:X.A.frames=J (X.env::X.outer):=by rw[<-O.stk];exact I.ok.frames
   refine sV hfr O.fr fl c0 λh4 g up4 c4=>?_;refine oV (s:={s' with heap:=h4}) g.1 g.2.1 g.2.2.1 g.2.2.2 c4 λh5 d up5 c5=>?_;have up:=up4.trans up5
   have I0:∀{l:Heap},s'.heap.UpToSlots l->∀b∈gj X.stack,∀o,W.heap.get? b=J o->∃sl,l.get? b=J {o with slots:=sl}:=λ{l} u b T o e=>by
    let(l1,e1):=sl b T o e;rw[O.stk]at T;let(l2,e2):=dQ u ff T e1;exact(l2,e2)
   have I5:Inv X a f H' { s' with heap:=h5 }:=I1.fly (s':={ s' with heap:=h5 }) un hok d.1 (I0 up) fr os bare;let(o5,v5,S,hc5,hd5,_):=d.first;have V:Inv (X.hand c o5) a f H' { s' with heap:=h5 }:=I5.hand S hH hd5;refine wpAny_handleBy_cons (codeAny_handlers_test ?_) (by intro z;cases z);refine jD (X:=X.hand c o5) V hg hm ?_ hd;refine mf (K:=X.K) V.kIn kC hG S hc5 Q ?_;show codeAny _ _ _ _ _;refine codeAny_handlers_suite_as ?_;refine oV (s:={ s' with heap:=h5 }) d.1 d.2.1 d.2.2.1 d.2.2.2.at c5 λl U up6 c6=>?_;have I6:Inv X a f H' { s' with heap:=l }:=I1.fly (s':={ s' with heap:=l }) un hok U.1 (I0 (up.trans up6)) fr os bare;let(M,v6,R,hc6,m,_):=U.first;have I6h:Inv (X.hand c M) a f H' { s' with heap:=l }:=I6.hand R hH m
   have c2:v6[2]?=J .none:=by
    let(oo,vv,Y,q2,q3):=c6;replace Y:l.get? c=J oo:=Y;rw[R]at Y;cases Y;rw[m]at q2;cases q2;exact q3
   refine oG (X:=X.hand c M) (i:=j) (v:=.ref c) I6h hN hj hx rfl (λs7 I7=>?_) hf;refine ZQ ?_;have hσ:j<f.length:=by rw[I6.len];exact(XZ.mp hj).1
   refine Bt (X:=X.hand c M) (P:=λH'=>E (.ref C) G H') I7 rfl (λs' H' B1=>B1.exc) m c2 hc6 kC hgC hmC hC (ha c M) (ht _ _ _ hE) hj hv (Y1 hσ) (λs2 h' e' H2 tt B1 p nw kp me=>?_) (λe s' z=>z.elim) hd2 he hpl hdn hcd;exact Iw (oe:=M) O hk (B1.unhand I.ok) nw kp me p
end
def MW{env env':Env}(h:env.frame=env'.frame)(e:Value):noteFrame e env=noteFrame e env':=by
 ext noteFrame PySem.frameOf;rw[h]
def IE{env env':Env}(h:env.frame=env'.frame)(k:notedBy M A env' E e s):notedBy M A env E e s:=by
 unfold notedBy at *;rw[MW h];exact k
section
variable{X:Cx}{E:XK}{pins:L1}{Z:St}{H H':Hp}{s s':Shared}{ea C:Addr}{a0 fl:Value}{B:Heap}
def Own2.later(O:Own2 X E)(f:X.A.frames=J (X.env::X.outer))(os:s'.os=X.s₀.os)(bare:AllBare s'.gens)(un:Un (gj X.outer) (gj X.outer) X.H₀ H' X.s₀.heap B)(hok:HOk X.prog X.w H' B)(k1:B.StaysIn s'.heap)(k2:B.get? ea=G)(k3:s'.heap.FunFrames B (X.env::X.outer))(k:s'.heap.TracedAtW B ea (.ref C) a0 fl)(c:AX s'.heap ea)
 (sl:∀b∈gj X.outer,∀o,X.s₀.heap.get? b=J o->∃sl,s'.heap.get? b=J {o with slots:=sl}) (fr:∀b∈gj X.outer,H' b=G) (q:E (.ref C) G H'):X.xe (.ref ea) s':=by
 rw[O.xe];ext «leaving»;refine wpAny_bind (zv f O.fr k1 k2 k3 k c λl a i t=>?_);refine oV (s:={s' with heap:=l}) a.1 a.2.1 a.2.2.1 a.2.2.2 t λu d h r=>?_;refine((ea,C,a0,B,H',rfl,os,bare,un,hok,(d.1,d.2.1,d.2.2.1.2.2,d.2.2.2),λb g o e=>?_,fr,q),λm z=>by cases z;exact r);let(l2,p):=sl b g o e;let(j,n):=dQ (i.trans h) k3.2.2 g p;exact(j,n)
end
def Un.hideNew{h0:Heap}(u:Un fs ex g H1 h0 B)(n:h0.get? C=G):Un fs ex g H1 h0 (PySem.W.hideAll B [C]):=by
 have ne:∀c o,h0.get? c=J o->c∉[C]:=λc o q z=>by
  rw[XM.mp z,n]at q;cases q
 refine(λc o q f b a=>YC _ (u.keep c o q f b a) (ne c o q),λc o q f b a=>?_,u.free,λc o q a=>?_,u.tups,u.frzs,λc xs q=>((u.tbls c xs q).1,λd o j e=>let (i,h):=(u.tbls c xs q).2 d o j e;(i,YC _ h (ne d o e))))
 .let(sl,z):=u.slot c o q f b a;exact(sl,YC _ z (ne c o q))
 .let(o',z):=u.there c o q a;exact(o',YC _ z (ne c o q))
theorem tW{h h' base g:Heap}(i:∀b,base.get? b=G->g.get? b=G):∀{l:L Env},(∀b∈gj l,h'.get? b=h.get? b)->h.FunFrames base l->h'.FunFrames g l
 |[],_,_=>trivial
 |env::l,k,(a,(I0,o,b,c,d,e),f)=>(a,(I0,o,b,i I0 c,(k I0 (by rw[dX b];exact Xw)).trans d,e),tW i (λx j=>k x (by rw[dX b];exact on _ j)) f)
section
variable{X:Cx}{E:XK}{pins:L1}{Z:St}{H7:Hp}{s7 s8:Shared}{C:Addr}{m:Str->Option Value}{e:Value}
def VE(X:Cx)(C:Addr)(x:Value)(s':Shared):Prop:=∃m,s'.heap.Ns C m/\∀h',Heap.SameBut C s'.heap h'->∀a:Env,a.locals=C->j1 X (PySem.passOn "comprehension.variables-let-go" x a:Sem Value) (λ_ _=>False) X.xe {s' with heap:=h'}
def KJ(O:Own2 X E)(I:Inv X pins Z H7 s7)(t:kA X pins H7 C)(ns:s7.heap.Ns C m)(Cv:ip X.prog X.w X.stack H7 s7 E e s8):notedBy (model X.prog X.w) X.A X.env (VE X C) e s8:=by
 let((c,C0,a0,B,H',rfl,os,bare,un,hok,fl,sl,fr,q),cx):=Cv;have p:X.A.frames=J (X.env::X.outer):=by rw[<-O.stk];exact I.ok.frames
 have V:Un (gj X.outer) [] X.H₀ H7 X.s₀.heap s7.heap:=by have:=I.base;rw[O.ex]at this;exact this
 have k:C∉gj X.stack:=λz=>by
  rcases XC.mp (I.stkSub C z) with w|w
  .exact t.2.1 w
  .exact t.2.2.1 w
 have n0:X.s₀.heap.get? C=none:=by
  rcases t.2.2.2.1 with w|w
  .rw[O.ex]at w;cases w
  .exact Zm w
 let(o,es,ep,Y,hd,r):=ns;have b1:B.get? C=J o:=un.keep C o Y t.1 k k;have B1:H' C=none:=un.free C o Y t.1 k;have n8:s8.heap.Ns C m:=(o,es,ep,fl.1 C o b1,hd,r);rw[O.stk]at un fl sl fr k;rw[dX O.fr]at un sl fr;have ff:=fl.2.2.1;refine sV p O.fr fl (cx c rfl) λh1 K M c1=>?_;have U:=M.ns n8;refine(m,U,λl h cenv hcv=>?_);let(k1,k2,k3,oe,vs,T,S,N,v,hc,g,u,hT,H,gT,dT,h3):=K;let(o1,es1,ep1,i,F,_):=U
 have f:∀b ob vs,h1.get? b=J ob->ob.data=.fields vs->b≠C:=λb ob vs q d z=>by
  replace i:h1.get? C=J o1:=i;rw[z,i]at q;cases q;rw[F]at d;cases d
 have x:∀b,B.get? b=G->(PySem.W.hideAll B [C]).get? b=none:=λb q=>by
  cases z:(PySem.W.hideAll B [C]).get? b with
  |none=>rfl
  |some o=>have:=Zf _ z;rw[q]at this;cases this
 have D:(PySem.W.hideAll B [C]).StaysIn l:=λb ob q=>(h.2 b λz=>by rw[z,PySem.W.hideAll_none [C] Xw]at q;cases q).trans (k1 b ob (Zf _ q));have n:l.FunFrames (PySem.W.hideAll B [C]) (X.env::X.outer):=tW x (λb a=>h.2 b λz=>k (z▸a)) k3;have y:l.TracedAtW (PySem.W.hideAll B [C]) c (.ref C0) a0 (rawInt X.env.locals):=(oe,vs,T,S,N,(h.2 c (f c oe vs v g)).trans v,hc,g,u,x T hT,H,(h.2 T (f T S N gT dT)).trans gT,dT,h3)
 have c2:AX l c:=by
  let(R,I0,Q,P,q3):=c1;exact(R,I0,(h.2 c (f c R I0 Q P)).trans Q,P,q3)
 ext PySem.passOn;refine wpAny_bind (wpAny_field (s:={s8 with heap:=l}) ((h.2 c (f c oe vs v g)).trans v) g u ?_);rw[if_neg (show ¬ ((Value.ref T==Value.none)=true) by simp)];refine wpAny_bind (tq (s:={s8 with heap:=l}) D (x c k2) n y λh5 K g2 g3 u5 c5=>wpAny_throw ?_);refine O.later (s':={s8 with heap:=h5}) p (os.trans I.os) bare ((V.cut un I.above).hideNew n0) (hok.hide λb a=>by rw[List.mem_singleton.mp a];exact B1) K (x c k2) g2 g3 (c5 c2) (λb a o z=>?_) (λb a=>fr b (List.mem_cons_of_mem _ a)) q;let(l1,e1):=V.slot b o z (I.ok.frf b a) a ();let(l2,e2):=sl b (List.mem_cons_of_mem _ a) _ e1;have j:b∈gj (X.env::X.outer):=by rw[dX O.fr];exact List.mem_cons_of_mem _ a
 let(l3,e3):=dQ M ff j e2;have e4:=(h.2 b λw=>k (w▸j)).trans e3;let(l5,e5):=dQ u5 n j e4;exact(l5,e5)
end
section
variable{X:Cx}{pins:L1}{Z:St}{H:Hp}{s:Shared}{scope:Scope}{x:Str}{px pos:Pos}{cs:L Str}{ix:L Nat}{fp:L Addr}{elt iter:Expr}{ifs:L Expr}{ti:TT}{te:TE}
theorem zi(O:Own2 X o){a:Pos}(b:X.calm=true)(v:X.N.Nodup)(k:X.N[i]?=J y)(r:LQ X.env.scope y)(hi:PI X (.Name x px) iter n)(h:CompSc X.env.scope scope x cs)(j:ix.map (λi=>X.N[i]?)=cs.map J)
 (d:∀C fp s₀ H₀,Pk (dD X scope (bg X.env scope.names []) C (x::cs) fp s₀ H₀) ifs ti) (f:∀C fp s₀ H₀ q,gd (ip X.prog X.w) ((dD X scope (bg X.env scope.names []) C (x::cs) fp s₀ H₀).wish q) o->PE ((dD X scope (bg X.env scope.names []) C (x::cs) fp s₀ H₀).wish q) elt te)
 (g:swapsWith (.ListComp elt [(.Name x px,iter,ifs,0)] scope pos) (J (.Name y py)) a.line X.env=pure true:=by rfl)
 (m:closureFor scope X.env=pure (bg X.env scope.names []):=by rfl) (s:∀x,foldedSetIterable iter X.env x=pure x:=by intro _;rfl)
 (u:X.fn y=true\/X.env.scope.names.lookup y=J .local:=by first | exact .inl rfl | exact .inr rfl | assumption):
 PS X (.Assign [.Name y py] (.ListComp elt [(.Name x px,iter,ifs,0)] scope pos) a) (pU (sk n ix ti te) (eB i)):=
 qH b v k r hi h j d (λpins Z C fp s₀ H₀ z=>f C fp s₀ H₀ _ λc p F E e D B1 l=>
  let (B,A,_,t):=z _ _ _ _ B1.unwish;IE (env':=X.env) rfl (KJ O B A t l)) g m s u
end
def wJ:L Expr->Option (L Str)
 |[]=>J []
 |.Constant (.str x) _ _::es=>(wJ es).map (x::·)
 |_=>G
def Qm:L Str->TA
 |[]=>dP
 |x::l=>bX (tC (.str x)) (Qm l)
theorem mV{X:Cx}:∀{es:L Expr} {l:L Str},wJ es=J l->PA X es (Qm l)
 |[],_,h=>by cases h;exact ac
 | .Constant (.str x) _ _::es,l,h=>by
   unfold wJ at h;cases q:wJ es with
   |none=>rw[q]at h;cases h
   |some r=>rw[q]at h;cases h;exact aa ax (mV q)
def zc(x:Str)(n:Int):Str:=⟨(List.replicate n.toNat x.cps).foldl (·++·) #[]⟩
def BA{X:Cx}:rG X (binaryOp .Mult) (λx y H Q=>∃i n,x=.str i/\y=.int n/\(1<n/\n<=1000/\0<i.length/\i.length<=1000)/\Q (.str (zc i n)) H):=by
 intro a s Z H x y v u Q I c b h;let(i,n,rfl,rfl,(p,o,m,f),q):=h;let(t,rfl):=c;let(t',rfl):=b;have l:¬ n<1:=by omega
 have j:(n==1||i.length==0)=false:=by
  rw[Bool.or_eq_false_iff];exact(by simp;omega,by simp;omega)
 have d:i.length*n.toNat<=1000*1000:=Nat.mul_le_mul f ∅
 have g:Txt.mul i n=zc i n:=by
  ext Txt.mul zc;rw[if_neg l,if_neg (by rw[j];decide)]
 refine SB.mul (?_,λ_ _=>?_,λ_ _=>?_) λt' k=>?_
 .rw[X6 ∅,X6 ∅];rfl
 · have:(9223372036854775807:Int) / n>=9223372036854775:=by
    rw[ge_iff_le,Int.le_ediv_iff_mul_le ∅];omega
   show ¬ ((i.length:Int)>(2 ^ 63-1) / n);have e:((2:Int) ^ 63-1)=9223372036854775807:=by decide
   rw[e];omega
 · show decide (i.length*n.toNat>sizeLine)=false;rw[decide_eq_false_iff_not]
   have:=Mi.fU (show i.length*n.toNat<=Mi.ak from d)
   omega
 .rw[g];exact(.str (zc i n),H,I.tok _,(_,rfl),q)
end L2
namespace Mi
open PySem L2
def fW(te:LK->Res D)(cap:LK):L D->Res (L D)
 |[]=>.ok []
 |d::r=>(te (J d::cap)).bind λx=>(fW te cap r).bind λxs=>.ok (x::xs)
def KN(src:LK->Res (L D))(ix:L Nat)(te:LK->Res D):LK->Res D:=λT=>(src T).bind λxs=>if xs.length<ak then (fW te (im T ix) xs).bind λys=>.ok (.lst ys) else .bad
section
variable{Y:Cm}{E:XK}{M:L Md}
def KM{ix:L Nat}(hix:ix.Nodup)(hte:PJ Y (KR Y .F) E (uU .F M ix) te H){ds:L D}{H1:Hp}(R1:Rel Y M I U1 I0 Z H1 T)(hJ:Go B1 H1 vs)(hd:Dns Y (hp .F I U1 H1) ds vs)
 (s:Po Y (KO Y (.ct .fz)) E M I U1 I0 Z H1 T (if ds.length<ak then (fW H (im T ix) ds).bind λr=>.ok (.lst r) else .bad) Q) (p:Addr) (hp:H1 p=G):EW B1 (λv=>J v::lq Z ix) GE te p H1 Q:=by
 by_cases z:ds.length<ak
 · rw[Xx z]at s;have hvl:ds.length=vs.length:=hd.len;have R:∀i,p∉I0 i:=λi=>R1.fresh hp i
   refine(λi m ys U=>i<=ds.length/\m=ds.length-i/\U p=J (.lst ys)/\ys.length<=i/\∃N K B,Rel Y M N K I0 Z U T/\Gw I U1 H1 N K U/\K p=G/\Dns Y N B ys/\
    Po Y (KO Y (.ct .fz)) E M I U1 I0 Z H1 T ((fW H (im T ix) (ds.drop i)).bind λr=>.ok (.lst (B++r))) Q,(ds.length,YM _,rfl,bE,XH _,I,U1,[],R1.new hp,Gw.newO R1 hp,R1.uh.free hp,by rw[Dns],s),?_)
   rintro i m ys U ⟨hi,rfl,W,hle,N,K,B,R2,S,u2,dz,k⟩;have t:=hJ U S.h;refine(W,Yt hle (fU (Yz (Yt hi z))),?_);by_cases hlt:i<ds.length
   · refine .inr (t.2.1 i ∅,λv H3 hyl=>?_);let(rfl,ev):=t.2.2 i v H3 ∅ hyl;let(d,ed,dd):=hd.geti ev;rw[na ed,fW]at k;have RI:=R2.inner hix (WP R2.bu R2.uh (Dn.mono S.b dd));ext GE;dsimp only;rw[if_pos rfl];refine hte N K _ _ H3 _ _ RI ?_
     have out:∀{A n w:Hp} {Cv:Nat->L Addr} {σ':St} {C:LK},Rel Y (uU .F M ix) A n Cv σ' w C->Gw N K H3 A n w->Rel Y M A n I0 Z w T:=λ{A n w _ _ _} f l=>R2.grow l.b l.u l.h f.bu f.uh λj a X=>by
      cases q:n a with
      |none=>rfl
      |some o=>
        rcases l.fr a o q with z|z|z
        .rw[R2.un j a X]at z;cases z
        .let(o',P):=R2.at X;rw[z]at P;cases P
        .let(o',P):=R2.at X;have e1:=l.h _ _ P;rw[f.uh a _ q]at e1;cases e1;exact(R2.nt X P z).elim
     cases ee:H (J d::im T ix) with
     |ok x=>
       rw[ee]at k;intro y A n w N4 f l n4 hx;have y5:w p=J (.lst ys):=l.h _ _ W
       have O:n p=none:=by
        cases q:n p with
        |none=>rfl
        |some o=>
          rcases l.fr p o q with z|z|⟨xs,z⟩
          .rw[u2]at z;cases z
          .rw[W]at z;cases z
          .subst z;have:=f.uh p _ q;rw[y5]at this;cases this
       have R4:=out f l
       have g5:Gw I U1 H1 A n (upd w p (.lst (ys++[y]))):=by
        have g:=S.trans l;exact(g.toEx,λa o q=>by rw[bq (bD q hp)];exact g.h a o q,g.fr)
       refine(y5,ds.length-(i+1),∅,hlt,rfl,bE,by rw[XF,Y4];omega,A,n,B++[x],R4.poke O R,g5,O,(dz.mono l.b).append (Dns.one hx),?_);replace k:Po Y (KO Y (.ct .fz)) E M I U1 I0 Z H1 T (((fW H (im T ix) (ds.drop (i+1))).bind λxs=>.ok (x::xs)).bind λr=>.ok (.lst (B++r))) Q:=k;cases eg:fW H (im T ix) (ds.drop (i+1)) with
       |ok r=>
         rw[eg]at k;show Po Y (KO Y (.ct .fz)) E M I U1 I0 Z H1 T (.ok (.lst (B++[x]++r))) Q;rw[Yg];exact k
       |exc c=>rw[eg]at k;exact k
       |bad=>rw[eg]at k;exact k
     |exc c=>
       rw[ee]at k;exact λA n w f l oa=>k A n w (out f l) (S.trans l) oa
     |bad=>rw[ee]at k;exact k.elim
   · have e:i=ds.length:=by omega
     subst e;rw[ZU,fW]at k;refine .inl (t.1 _ ∅,?_);have P3:Po Y (KO Y (.ct .fz)) E M I U1 I0 Z H1 T (.ok (.lst (B++[]))) Q:=k;rw[XY]at P3;exact R5 R2 S hp u2 R W dz P3
 .rw[Xy z]at s;exact s.elim
def MM{ix:L Nat}(e:PJ Y (KI Y .F .X) E M c src)(b:ix.Nodup)(a:PJ Y (KR Y .F) E (uU .F M ix) te d):PJ Y (KO Y (.ct .fz)) E M (sk c ix GE te) (KN src ix d):=by
 intro B U I0 Z H T Q R P;refine e.bnd R P λds B1 I U1 H1 O _ g i h (vs,f,hd) s p hp=>?_;exact KM b a g f hd s p hp
def LP:L Str->LK->Res (L D)
 |[]=>bO
 |x::l=>aM (aD (.str x)) (LP l)
theorem m8:∀{l:L Str},PJ Y (KL Y .F) E M (Qm l) (LP l)
 |[]=>aH
 |_::_=>ag pS m8
def MY:D->D->Res D | .str a,.int n=>if 1<n/\n<=1000/\0<a.length/\a.length<=1000 then .ok (.str (zc a n)) else .bad|_,_=>.bad
def P4:S2 Y (λx y H Q=>∃i n,x=.str i/\y=.int n/\(1<n/\n<=1000/\0<i.length/\i.length<=1000)/\Q (.str (zc i n)) H) MY:=by
 intro H x y v u b a;cases x with
 |str i=>
   cases y with
   |int n=>
     rw[Dn]at b;rw[Dn]at a;subst b a;ext MY;dsimp only;by_cases z:1<n/\n<=1000/\0<i.length/\i.length<=1000
     .rw[Xx z];exact(_,λ_=>by rw[Dn],λQ q=>(i,n,rfl,rfl,z,q))
     .rw[Xy z];trivial
   |_=>trivial
 |_=>trivial
def yL(a:Nat->Bool)(c':Nat)(b:LK->SO):LK->SO:=λT=>match b T with
 |.exc c C=>if a c=true then .exc c' C else .bad
 |r=>r
def PN{f:KT D V}{K:L0}(h:catOk Y K g (λ_=>True) l)(i:SJ Y (tR K (Y g) (Y c') E) f pr M tb b):SJ Y E f pr M tb (yL (rL l) c' b):=by
 intro B U I0 Z H T D R P;refine i B U I0 Z H T D R ?_;unfold yL at P;cases e:b T with
 |exc c C=>
   rw[e]at P;dsimp only at P;by_cases z:rL l c=true
   .rw[Xx z]at P;let(k1,k2,_):=h.of z;intro a S B1 Cv H' k j k' m;exact(Y c,rfl,k1,k2,P a S B1 Cv H' k j k' G)
   .rw[Xy z]at P;exact P.elim
 |nx C=>rw[e]at P;exact P
 |rt d C=>rw[e]at P;exact P
 |bk C=>rw[e]at P;exact P
 |ct C=>rw[e]at P;exact P
 |bad=>rw[e]at P;exact P.elim
end
end Mi
namespace Cl
open PySem L2 Mi
section
variable{Z W X:Type}{Y:Z->LK}{e:W->D}{e':X->D}{eR:X->D}
def Fg{Z:Type}(l:L Str):Z->Res (L Str):=λ_=>.ok l
theorem m9:∀{l:L Str},EJ Y (List.map D.str) (LP l) (Fg l)
 |[]=>λ_=>rfl
 | x::l=>λs=>by
   have h:=m9 (l:=l) s;ext LP aM;rw[show LP l (Y s)=.ok (l.map D.str) from h];exact rfl
def Oy(a:Str)(n:Int):Res Str:=if 1<n/\n<=1000/\0<a.length/\a.length<=1000 then .ok (zc a n) else .bad
theorem QX(a:Str)(n:Int):SimR D.str (MY (.str a) (.int n)) (Oy a n):=SimR.ite rfl trivial
def jo(te:W->Res X):L W->Res (L X)
 |[]=>.ok []
 |a::r=>(te a).bind λx=>(jo te r).bind λxs=>.ok (x::xs)
def uJ(src:Z->Res (L W))(te:W×Z->Res X):Z->Res (L X):=λs=>(src s).bind λxs=>if xs.length<ak then jo (λa=>te (a,s)) xs else .bad
theorem Ki{d:Z->Res (L W)}{b:W×Z->Res X}
 (h:EJ Y (List.map e) src d) (i:EJ (Qn Y e ix) e' te b):EJ Y (eL e') (KN src ix te) (uJ d b):=λs=>(h s).bnd λxs=>by
 rw[Xv];refine SimR.ite ?_ trivial
 have f:∀l:L W,SimR (List.map e') (fW te (im (Y s) ix) (l.map e)) (jo (λa=>b (a,s)) l):=by
  intro l
  induction l with
  |nil=>rfl
  |cons a l g=>
    rw[List.map_cons];ext fW jo;refine SimR.bnd (i (a,s)) λx=>SimR.bnd g λxs=>?_;rfl
 have:=f xs
 cases q:jo (λa=>b (a,s)) xs with
 |ok ys=>rw[q]at this;rw[show fW te (im (Y s) ix) (xs.map e)=.ok (ys.map e') from this];rfl
 |exc c=>rw[q]at this;rw[show fW te (im (Y s) ix) (xs.map e)=.exc c from this];rfl
 |bad=>trivial
def ve(a:Nat->Bool)(c':Nat)(cb:Z->FlC Z X):Z->FlC Z X:=λs=>match cb s with
 |.exc c s'=>if a c=true then .exc c' s' else .bad
 |r=>r
theorem LX(e:TJ Y eR a cb):TJ Y eR (yL b c' a) (ve b c' cb):=λs=>by
 have h:=e s;ext yL ve;cases q:cb s with
 |exc c s'=>
   rw[q]at h;rw[show a (Y s)=.exc c (Y s') from h];dsimp only;by_cases z:b c=true
   .rw[Xx z,Xx z];exact rfl
   .rw[Xy z,Xy z];trivial
 |nx s'=>rw[q]at h;rw[show a (Y s)=.nx (Y s') from h];exact rfl
 |rt d s'=>rw[q]at h;rw[show a (Y s)=.rt (eR d) (Y s') from h];exact rfl
 |bk s'=>rw[q]at h;rw[show a (Y s)=.bk (Y s') from h];exact rfl
 |ct s'=>rw[q]at h;rw[show a (Y s)=.ct (Y s') from h];exact rfl
 |bad=>trivial
end
end Cl
set_option genInjectivity false
set_option genSizeOf false
open PySem L2 in
theorem L2.Room.mm{j k:Nat}{A:Around}(r:Room k A)(h:j<=k:=by decide):Room j A:=r.mono h
namespace K09
open PySem L2
def top(i:Nat):Stmt:=PySem.Challenge.pw_heraldways_k09_read_or_refused.main.body.getD i (.Pass (0,0,0,0))
abbrev Qk:Stmt:=eh (top 11) 0
abbrev Ha:Stmt:=eh (top 11) 13
abbrev P6:Stmt:=eh (top 11) 1
abbrev G2:Stmt:=eh (top 11) 11
abbrev PV:Stmt:=top 35
abbrev PU:Stmt:=top 34
abbrev PR:Stmt:=top 26
abbrev PM:Stmt:=top 29
abbrev Mp:Stmt:=top 32
abbrev G0:Stmt:=top 27
abbrev G9:Stmt:=top 31
abbrev G7:Stmt:=top 28
abbrev C2:Stmt:=top 24
abbrev G4:Stmt:=top 10
abbrev y7:Stmt:=top 21
abbrev Qc:Stmt:=eh (top 11) 16
abbrev PP:Stmt:=top 30
abbrev Bl:Stmt:=top 33
abbrev PL:Stmt:=top 37
abbrev G8:Stmt:=top 36
abbrev CV:Stmt:=top 19
abbrev Qi:Stmt:=eh (top 11) 6
abbrev Qh:Stmt:=eh (top 11) 7
abbrev Qf:Stmt:=eh (top 11) 2
abbrev Qb:Stmt:=eh (top 11) 18
abbrev Qa:Stmt:=eh (top 11) 17
abbrev P7:Stmt:=eh (top 11) 9
abbrev PY:Stmt:=top 22
abbrev Qj:Stmt:=eh (top 11) 4
abbrev P8:Stmt:=eh (top 11) 8
abbrev P5:Stmt:=eh (top 11) 10
abbrev G6:Stmt:=top 17
abbrev CY:Stmt:=top 18
abbrev CW:Stmt:=top 16
abbrev CZ:Stmt:=top 15
abbrev y0:Stmt:=top 23
abbrev G5:Stmt:=top 20
abbrev PH:Stmt:=top 38
abbrev PX:Stmt:=top 39
def T6:FnScope ["self","size"] ["self","size"] (au Qk):=by ac_rfl
def T5:FnScope ["self","pairs","a"] ["self","pairs","a"] (au Ha):=by ac_rfl
def TU:FnScope ["self"] ["self"] (au P6):=by ac_rfl
def TQ:FnScope ["self"] ["self"] (au G2):=by ac_rfl
def GY:FnScope ["cell","some"] ["cell"] (au PV):=by ac_rfl
def vw:FnScope ["cell","some"] ["cell"] (au PU):=by ac_rfl
def TM:FnScope ["script","k"] ["script","k"] (au PR):=by ac_rfl
def CT:FnScope ["cell","size","fond","k"] ["cell","size"] (au PM):=by ac_rfl
def TL:FnScope ["words"] ["words"] (au Mp):=by ac_rfl
def qG:FnScope ["cell","house","size","rest","road","many"] ["cell","house","size"] (au G0):=by ac_rfl
def p6:FnScope ["cell","size","shy","k","a","b"] ["cell","size"] (au G9):=by ac_rfl
def nH:FnScope ["cell","size","seed","ways","k","a","b"] ["cell","size"] (au G7):=by ac_rfl
def GZ:FnScope ["word","figures"] ["word"] (au C2):=by ac_rfl
def PF:FnScope ["houses","count"] ["houses","count"] (au G4):=by ac_rfl
def PD:FnScope ["text"] ["text"] (au y7):=by ac_rfl
def TZ:FnScope ["self","houses"] ["self","houses"] (au Qc):=by ac_rfl
def yV:FnScope ["cell","size","dear","k","road"] ["cell","size"] (au PP):=by ac_rfl
def CS:FnScope ["ways","fond","dear","shy","lines","pair"] ["ways","fond","dear","shy"] (au Bl):=by ac_rfl
def oI:FnScope ["lines","fond","cell","out","pair","cut","line","words"] ["lines","fond","cell"] (au PL):=by ac_rfl
def pZ:FnScope ["size","lines","ways","cell","head","at","kind","pair","odd"] ["size","lines","ways","cell"] (au G8):=by ac_rfl
def sy:FnScope ["guild","lines","road","rank","houses"] ["guild"] (au CV):=by ac_rfl
def T3:FnScope ["self","a","b","rank"] ["self","a","b","rank"] (au Qi):=by ac_rfl
def T2:FnScope ["self","a","b"] ["self","a","b"] (au Qh):=by ac_rfl
def T1:FnScope ["self","a"] ["self","a"] (au Qf):=by ac_rfl
def TY:FnScope ["self","road"] ["self","road"] (au Qb):=by ac_rfl
def TX:FnScope ["self","a","b"] ["self","a","b"] (au Qa):=by ac_rfl
def TV:FnScope ["self","a"] ["self","a"] (au P7):=by ac_rfl
def TN:FnScope ["words"] ["words"] (au PY):=by ac_rfl
def T4:FnScope ["self","a","b"] ["self","a","b"] (au Qj):=by ac_rfl
def TW:FnScope ["self","a","b"] ["self","a","b"] (au P8):=by ac_rfl
def TR:FnScope ["self","road","rank"] ["self","road","rank"] (au P5):=by ac_rfl
def sD:FnScope ["guild","lines","a","b","rank"] ["guild"] (au G6):=by ac_rfl
def Bj:FnScope ["guild","lines","a"] ["guild"] (au CY):=by ac_rfl
def Bh:FnScope ["guild","lines","a"] ["guild"] (au CW):=by ac_rfl
def Bk:FnScope ["guild","size","lines"] ["guild"] (au CZ):=by ac_rfl
def Bi:FnScope ["guild","words","kind","numbers"] ["guild","words"] (au y0):=by ac_rfl
def sC:FnScope ["text","rows","guild","words","e"] ["text"] (au G5):=by ac_rfl
def yU:FnScope ["text","marks","e"] ["text"] (au PH):=by ac_rfl
def ni:FnScope ["script","size","ways","fond","dear","shy","lines","k","head","text"] ["script"] (au PX):=by ac_rfl
structure Adr where
 C_Guild:Addr
 C_GuildError:Addr
 C_NoHouse:Addr
 C_WayThere:Addr
 C_NoRoad:Addr
 C_BadNote:Addr
 f_a9:Addr
 d_a9:FuncData
 f_b9:Addr
 d_b9:FuncData
 f_l9:Addr
 d_l9:FuncData
 f_n9:Addr
 d_n9:FuncData
 f_q9:Addr
 d_q9:FuncData
 f_r9:Addr
 d_r9:FuncData
 f_s9:Addr
 d_s9:FuncData
 f_u9:Addr
 d_u9:FuncData
 f_v9:Addr
 d_v9:FuncData
 f_z9:Addr
 d_z9:FuncData
 f_ba9:Addr
 d_ba9:FuncData
 f_bc9:Addr
 d_bc9:FuncData
 f_be9:Addr
 d_be9:FuncData
 f_bg9:Addr
 d_bg9:FuncData
 f_bh9:Addr
 d_bh9:FuncData
 f_g9:Addr
 d_g9:FuncData
 f_t9:Addr
 d_t9:FuncData
 f_w9:Addr
 d_w9:FuncData
 f_x9:Addr
 d_x9:FuncData
 f_bb9:Addr
 d_bb9:FuncData
 f_bm9:Addr
 d_bm9:FuncData
 f_d9:Addr
 d_d9:FuncData
 f_e9:Addr
 d_e9:FuncData
 f_f9:Addr
 d_f9:FuncData
 f_h9:Addr
 d_h9:FuncData
 f_i9:Addr
 d_i9:FuncData
 f_k9:Addr
 d_k9:FuncData
 f_o9:Addr
 d_o9:FuncData
 f_c9:Addr
 d_c9:FuncData
 f_j9:Addr
 d_j9:FuncData
 f_m9:Addr
 d_m9:FuncData
 f_bd9:Addr
 d_bd9:FuncData
 f_bj9:Addr
 d_bj9:FuncData
 f_bl9:Addr
 d_bl9:FuncData
 f_bi9:Addr
 d_bi9:FuncData
 f_bk9:Addr
 d_bk9:FuncData
 f_bf9:Addr
 d_bf9:FuncData
 f_y9:Addr
 d_y9:FuncData
 f_p9:Addr
 d_p9:FuncData
structure Txt (K:L0) (mg:Str->Option Value) (a:Adr) (base:Heap):Prop where
 cl_Guild:Cls K a.C_Guild
 mgC_Guild:mg "Guild" = J (.ref a.C_Guild)
 mk_Guild:Mk K a.C_Guild a.f_a9
 n_house_count:NoAttr K a.C_Guild "house_count"
 n_ways:NoAttr K a.C_Guild "ways"
 n_likings:NoAttr K a.C_Guild "likings"
 n_shuns:NoAttr K a.C_Guild "shuns"
 n_wish_ranks:NoAttr K a.C_Guild "wish_ranks"
 mgC_GuildError:mg "GuildError" = J (.ref a.C_GuildError)
 ek_GuildError:gC K a.C_GuildError=true
 xa_GuildError:PySem.W.excAt K a.C_GuildError=true
 mgC_NoHouse:mg "NoHouse" = J (.ref a.C_NoHouse)
 ek_NoHouse:gC K a.C_NoHouse=true
 xa_NoHouse:PySem.W.excAt K a.C_NoHouse=true
 mgC_WayThere:mg "WayThere" = J (.ref a.C_WayThere)
 ek_WayThere:gC K a.C_WayThere=true
 xa_WayThere:PySem.W.excAt K a.C_WayThere=true
 mgC_NoRoad:mg "NoRoad" = J (.ref a.C_NoRoad)
 ek_NoRoad:gC K a.C_NoRoad=true
 xa_NoRoad:PySem.W.excAt K a.C_NoRoad=true
 mgC_BadNote:mg "BadNote" = J (.ref a.C_BadNote)
 ek_BadNote:gC K a.C_BadNote=true
 xa_BadNote:PySem.W.excAt K a.C_BadNote=true
 sb_GuildError_GuildError:(jb K a.C_GuildError).contains (.ref a.C_GuildError)=true
 sb_NoHouse_GuildError:(jb K a.C_NoHouse).contains (.ref a.C_GuildError)=true
 sb_WayThere_GuildError:(jb K a.C_WayThere).contains (.ref a.C_GuildError)=true
 sb_NoRoad_GuildError:(jb K a.C_NoRoad).contains (.ref a.C_GuildError)=true
 sb_BadNote_GuildError:(jb K a.C_BadNote).contains (.ref a.C_GuildError)=true
 kt_GuildError_BadNote:PySem.W.kitOne K (.ref a.C_GuildError) (.ref a.C_BadNote)=J false
 kt_GuildError_ValueError:PySem.W.kitOne K (.ref a.C_GuildError) (.type "ValueError")=J true
 kt_GuildError_NoHouse:PySem.W.kitOne K (.ref a.C_GuildError) (.ref a.C_NoHouse)=J false
 kt_GuildError_WayThere:PySem.W.kitOne K (.ref a.C_GuildError) (.ref a.C_WayThere)=J false
 kt_GuildError_NoRoad:PySem.W.kitOne K (.ref a.C_GuildError) (.ref a.C_NoRoad)=J false
 kt_NoHouse_BadNote:PySem.W.kitOne K (.ref a.C_NoHouse) (.ref a.C_BadNote)=J false
 kt_NoHouse_ValueError:PySem.W.kitOne K (.ref a.C_NoHouse) (.type "ValueError")=J true
 kt_NoHouse_NoHouse:PySem.W.kitOne K (.ref a.C_NoHouse) (.ref a.C_NoHouse)=J true
 kt_NoHouse_WayThere:PySem.W.kitOne K (.ref a.C_NoHouse) (.ref a.C_WayThere)=J false
 kt_NoHouse_NoRoad:PySem.W.kitOne K (.ref a.C_NoHouse) (.ref a.C_NoRoad)=J false
 kt_WayThere_BadNote:PySem.W.kitOne K (.ref a.C_WayThere) (.ref a.C_BadNote)=J false
 kt_WayThere_ValueError:PySem.W.kitOne K (.ref a.C_WayThere) (.type "ValueError")=J true
 kt_WayThere_NoHouse:PySem.W.kitOne K (.ref a.C_WayThere) (.ref a.C_NoHouse)=J false
 kt_WayThere_WayThere:PySem.W.kitOne K (.ref a.C_WayThere) (.ref a.C_WayThere)=J true
 kt_WayThere_NoRoad:PySem.W.kitOne K (.ref a.C_WayThere) (.ref a.C_NoRoad)=J false
 kt_NoRoad_BadNote:PySem.W.kitOne K (.ref a.C_NoRoad) (.ref a.C_BadNote)=J false
 kt_NoRoad_ValueError:PySem.W.kitOne K (.ref a.C_NoRoad) (.type "ValueError")=J true
 kt_NoRoad_NoHouse:PySem.W.kitOne K (.ref a.C_NoRoad) (.ref a.C_NoHouse)=J false
 kt_NoRoad_WayThere:PySem.W.kitOne K (.ref a.C_NoRoad) (.ref a.C_WayThere)=J false
 kt_NoRoad_NoRoad:PySem.W.kitOne K (.ref a.C_NoRoad) (.ref a.C_NoRoad)=J true
 kt_BadNote_BadNote:PySem.W.kitOne K (.ref a.C_BadNote) (.ref a.C_BadNote)=J true
 kt_BadNote_ValueError:PySem.W.kitOne K (.ref a.C_BadNote) (.type "ValueError")=J true
 kt_BadNote_NoHouse:PySem.W.kitOne K (.ref a.C_BadNote) (.ref a.C_NoHouse)=J false
 kt_BadNote_WayThere:PySem.W.kitOne K (.ref a.C_BadNote) (.ref a.C_WayThere)=J false
 kt_BadNote_NoRoad:PySem.W.kitOne K (.ref a.C_BadNote) (.ref a.C_NoRoad)=J false
 F_a9:Fun K "__init__" "Guild.__init__" Qk a.f_a9 a.d_a9
 b_a9:Binds K a.d_a9 ["self","size"] []
 F_b9:Fun K "houses_paired" "Guild.houses_paired" Ha a.f_b9 a.d_b9
 b_b9:Binds K a.d_b9 ["self","pairs","a"] []
 me_b9:Meth K a.C_Guild "houses_paired" a.f_b9
 F_l9:Fun K "size" "Guild.size" P6 a.f_l9 a.d_l9
 b_l9:Binds K a.d_l9 ["self"] []
 me_l9:Meth K a.C_Guild "size" a.f_l9
 F_n9:Fun K "wishes" "Guild.wishes" G2 a.f_n9 a.d_n9
 b_n9:Binds K a.d_n9 ["self"] []
 me_n9:Meth K a.C_Guild "wishes" a.f_n9
 F_q9:Fun K "_law_bad_first" "_law_bad_first" PV a.f_q9 a.d_q9
 b_q9:Binds K a.d_q9 ["cell"] []
 m_q9:mg "_law_bad_first" = J (.ref a.f_q9)
 F_r9:Fun K "_law_bad_line" "_law_bad_line" PU a.f_r9 a.d_r9
 b_r9:Binds K a.d_r9 ["cell"] []
 m_r9:mg "_law_bad_line" = J (.ref a.f_r9)
 F_s9:Fun K "_law_cell_at" "_law_cell_at" PR a.f_s9 a.d_s9
 b_s9:Binds K a.d_s9 ["script","k"] []
 m_s9:mg "_law_cell_at" = J (.ref a.f_s9)
 F_u9:Fun K "_law_fond_by" "_law_fond_by" PM a.f_u9 a.d_u9
 b_u9:Binds K a.d_u9 ["cell","size"] []
 m_u9:mg "_law_fond_by" = J (.ref a.f_u9)
 F_v9:Fun K "_law_line" "_law_line" Mp a.f_v9 a.d_v9
 b_v9:Binds K a.d_v9 ["words"] []
 m_v9:mg "_law_line" = J (.ref a.f_v9)
 F_z9:Fun K "_law_road_by" "_law_road_by" G0 a.f_z9 a.d_z9
 b_z9:Binds K a.d_z9 ["cell","house","size"] []
 m_z9:mg "_law_road_by" = J (.ref a.f_z9)
 F_ba9:Fun K "_law_shy_by" "_law_shy_by" G9 a.f_ba9 a.d_ba9
 b_ba9:Binds K a.d_ba9 ["cell","size"] []
 m_ba9:mg "_law_shy_by" = J (.ref a.f_ba9)
 F_bc9:Fun K "_law_ways_by" "_law_ways_by" G7 a.f_bc9 a.d_bc9
 b_bc9:Binds K a.d_bc9 ["cell","size"] []
 m_bc9:mg "_law_ways_by" = J (.ref a.f_bc9)
 F_be9:Fun K "number_of" "number_of" C2 a.f_be9 a.d_be9
 b_be9:Binds K a.d_be9 ["word"] []
 m_be9:mg "number_of" = J (.ref a.f_be9)
 F_bg9:Fun K "require_within" "require_within" G4 a.f_bg9 a.d_bg9
 b_bg9:Binds K a.d_bg9 ["houses","count"] []
 m_bg9:mg "require_within" = J (.ref a.f_bg9)
 F_bh9:Fun K "rows_of" "rows_of" y7 a.f_bh9 a.d_bh9
 b_bh9:Binds K a.d_bh9 ["text"] []
 m_bh9:mg "rows_of" = J (.ref a.f_bh9)
 F_g9:Fun K "require_houses" "Guild.require_houses" Qc a.f_g9 a.d_g9
 b_g9:Binds K a.d_g9 ["self","houses"] []
 me_g9:Meth K a.C_Guild "require_houses" a.f_g9
 F_t9:Fun K "_law_dear_by" "_law_dear_by" PP a.f_t9 a.d_t9
 b_t9:Binds K a.d_t9 ["cell","size"] []
 m_t9:mg "_law_dear_by" = J (.ref a.f_t9)
 F_w9:Fun K "_law_lines" "_law_lines" Bl a.f_w9 a.d_w9
 b_w9:Binds K a.d_w9 ["ways","fond","dear","shy"] []
 m_w9:mg "_law_lines" = J (.ref a.f_w9)
 F_x9:Fun K "_law_other_order" "_law_other_order" PL a.f_x9 a.d_x9
 b_x9:Binds K a.d_x9 ["lines","fond","cell"] []
 m_x9:mg "_law_other_order" = J (.ref a.f_x9)
 F_bb9:Fun K "_law_spoiled" "_law_spoiled" G8 a.f_bb9 a.d_bb9
 b_bb9:Binds K a.d_bb9 ["size","lines","ways","cell"] []
 m_bb9:mg "_law_spoiled" = J (.ref a.f_bb9)
 F_bm9:Fun K "wish_lines" "wish_lines" CV a.f_bm9 a.d_bm9
 b_bm9:Binds K a.d_bm9 ["guild"] []
 m_bm9:mg "wish_lines" = J (.ref a.f_bm9)
 F_d9:Fun K "like" "Guild.like" Qi a.f_d9 a.d_d9
 b_d9:Binds K a.d_d9 ["self","a","b","rank"] []
 me_d9:Meth K a.C_Guild "like" a.f_d9
 F_e9:Fun K "liking" "Guild.liking" Qh a.f_e9 a.d_e9
 b_e9:Binds K a.d_e9 ["self","a","b"] []
 me_e9:Meth K a.C_Guild "liking" a.f_e9
 F_f9:Fun K "neighbours" "Guild.neighbours" Qf a.f_f9 a.d_f9
 b_f9:Binds K a.d_f9 ["self","a"] []
 me_f9:Meth K a.C_Guild "neighbours" a.f_f9
 F_h9:Fun K "require_long_road" "Guild.require_long_road" Qb a.f_h9 a.d_h9
 b_h9:Binds K a.d_h9 ["self","road"] []
 me_h9:Meth K a.C_Guild "require_long_road" a.f_h9
 F_i9:Fun K "require_two_houses" "Guild.require_two_houses" Qa a.f_i9 a.d_i9
 b_i9:Binds K a.d_i9 ["self","a","b"] []
 me_i9:Meth K a.C_Guild "require_two_houses" a.f_i9
 F_k9:Fun K "shunned" "Guild.shunned" P7 a.f_k9 a.d_k9
 b_k9:Binds K a.d_k9 ["self","a"] []
 me_k9:Meth K a.C_Guild "shunned" a.f_k9
 F_o9:Fun K "guild_of" "guild_of" PY a.f_o9 a.d_o9
 b_o9:Binds K a.d_o9 ["words"] []
 m_o9:mg "guild_of" = J (.ref a.f_o9)
 F_c9:Fun K "lay_way" "Guild.lay_way" Qj a.f_c9 a.d_c9
 b_c9:Binds K a.d_c9 ["self","a","b"] []
 me_c9:Meth K a.C_Guild "lay_way" a.f_c9
 F_j9:Fun K "shun" "Guild.shun" P8 a.f_j9 a.d_j9
 b_j9:Binds K a.d_j9 ["self","a","b"] []
 me_j9:Meth K a.C_Guild "shun" a.f_j9
 F_m9:Fun K "wish" "Guild.wish" P5 a.f_m9 a.d_m9
 b_m9:Binds K a.d_m9 ["self","road","rank"] []
 me_m9:Meth K a.C_Guild "wish" a.f_m9
 F_bd9:Fun K "like_lines" "like_lines" G6 a.f_bd9 a.d_bd9
 b_bd9:Binds K a.d_bd9 ["guild"] []
 m_bd9:mg "like_lines" = J (.ref a.f_bd9)
 F_bj9:Fun K "shun_lines" "shun_lines" CY a.f_bj9 a.d_bj9
 b_bj9:Binds K a.d_bj9 ["guild"] []
 m_bj9:mg "shun_lines" = J (.ref a.f_bj9)
 F_bl9:Fun K "way_lines" "way_lines" CW a.f_bl9 a.d_bl9
 b_bl9:Binds K a.d_bl9 ["guild"] []
 m_bl9:mg "way_lines" = J (.ref a.f_bl9)
 F_bi9:Fun K "shown" "shown" CZ a.f_bi9 a.d_bi9
 b_bi9:Binds K a.d_bi9 ["guild"] []
 m_bi9:mg "shown" = J (.ref a.f_bi9)
 F_bk9:Fun K "take_row" "take_row" y0 a.f_bk9 a.d_bk9
 b_bk9:Binds K a.d_bk9 ["guild","words"] []
 m_bk9:mg "take_row" = J (.ref a.f_bk9)
 F_bf9:Fun K "read" "read" G5 a.f_bf9 a.d_bf9
 b_bf9:Binds K a.d_bf9 ["text"] []
 m_bf9:mg "read" = J (.ref a.f_bf9)
 F_y9:Fun K "_law_refused" "_law_refused" PH a.f_y9 a.d_y9
 b_y9:Binds K a.d_y9 ["text"] []
 m_y9:mg "_law_refused" = J (.ref a.f_y9)
 F_p9:Fun K "law" "law" PX a.f_p9 a.d_p9
 b_p9:Binds K a.d_p9 ["script"] []
 m_p9:mg "law" = J (.ref a.f_p9)
 g_SEAT:∃t,mg "SEAT" = J (.int 0 t)
 g_MOST_HOUSES:∃t,mg "MOST_HOUSES" = J (.int 60 t)
 g_FIGURES:∃t,mg "FIGURES" = J (.str "0123456789" t)
 g_MOST_FIGURES:∃t,mg "MOST_FIGURES" = J (.int 60 t)
 z_len:mg "len" = G
 z_range:mg "range" = G
 z_min:mg "min" = G
 z_max:mg "max" = G
 z_set:mg "set" = G
 z_list:mg "list" = G
 z_tuple:mg "tuple" = G
 z_isinstance:mg "isinstance" = G
 z_bool:mg "bool" = G
 z_int:mg "int" = G
 z_str:mg "str" = G
 z_sorted:mg "sorted" = G
 z_any:mg "any" = G
 z_ValueError:mg "ValueError" = G
def aK(a:Adr)(K:L0):Mi.Cm:=(λc=>match c with|0=>a.C_Guild|10=>a.C_GuildError|11=>a.C_NoHouse|13=>a.C_WayThere|14=>a.C_NoRoad|17=>a.C_BadNote|_=>0,K,[])
end K09
namespace K09
open PySem L2 Mi
noncomputable section
def gk:L (Str×Sh):=[("ways",.ct .fz),("likings",.ct .fz),("shuns",.ct .fz),("wish_ranks",.ct .fz)]
def OZ:L Md:=[.O (.ob gk),.F]
def Vi:L Md:=[]
def JA:LK->SO:=aG (kB (a8 (LM (fB (bn Gr (vr 1) (aD (.int 1)))) (fB (bn LO (vr 1) (aD (.int 60))))))
 (d6 11)
 cz)
 (aG (o4 0 "house_count" 0 (a8 (vr 1)))
 (aG (o4 0 "ways" 0 (a8 (aD (.dT [] []))))
 (aG (o4 0 "likings" 0 (a8 (aD (.dT [] []))))
 (aG (o4 0 "shuns" 0 (a8 (aD (.dT [] []))))
 (o4 0 "wish_ranks" 0 (a8 (aD (.dT [] []))))))))
def BY:L D->Out D:=run 2 JA
theorem zD:JA=(aG (kB (a8 (LM (fB (bn Gr (vr 1) (aD (.int 1)))) (fB (bn LO (vr 1) (aD (.int 60))))))
 (d6 11)
 cz)
 (aG (o4 0 "house_count" 0 (a8 (vr 1)))
 (aG (o4 0 "ways" 0 (a8 (aD (.dT [] []))))
 (aG (o4 0 "likings" 0 (a8 (aD (.dT [] []))))
 (aG (o4 0 "shuns" 0 (a8 (aD (.dT [] []))))
 (o4 0 "wish_ranks" 0 (a8 (aD (.dT [] []))))))))):=rfl
def OY:L Md:=[.R,.R,.F]
def Vh:L Md:=[]
def Jz:LK->SO:=dE (a8 (pK (lA (un (jg 0 "house_count") (vr 0))) [1,2] (fB (bn (Cg false) (DD (aM (vr 2) (aM (vr 0) bO))) (vr 1))) (vr 0)))
def M6:L D->Out D:=jw 3 Jz
def OO:L Md:=[.R]
def U7:L Md:=[]
def Jp:LK->SO:=dE (a8 (yE (un (jg 0 "house_count") (vr 0))))
def BX:L D->Out D:=run 1 Jp
def OM:L Md:=[.R]
def U5:L Md:=[]
def Jn:LK->SO:=dE (a8 (pK (i3 (un wK (un (jg 0 "wish_ranks") (vr 0)))) [0] (λ_=>.ok true) (DD (aM (un tw (vr 0)) (aM (yE (bn ny (un (jg 0 "wish_ranks") (vr 1)) (vr 0))) bO)))))
def Rp:L D->Out D:=jw 1 Jn
def OJ:L Md:=[.F]
def UY:L Md:=[.F]
def Jk:LK->SO:=aG (bM 1 (a8 (iU (LP ["houses","houses 0","houses 61","houses 01","houses -1","house 3","houses 3 ","Houses 3"]))))
 (aG (bM 1 (a8 (bn iQ (vr 1) (iU (aM (aD (.str ("houses 3 3" : Str))) (aM (aD (.str ("houses 1_0" : Str))) (aM (aD (.str ("houses  3" : Str))) (aM (aD (.str ("" : Str))) (aM (aD (.str ("houses x" : Str))) (aM (bn yA (aD (.str ("houses " : Str))) (un nG (bn H8 (aD (.int 10)) (aD (.int 60))))) bO))))))))))
 (dE (a8 (bn qV (vr 1) (bn dH (vr 0) (un kO (vr 1)))))))
def m_q9:L D->Out D:=run 2 Jk
def OH:L Md:=[.F]
def UX:L Md:=[.F]
def Jj:LK->SO:=aG (bM 1 (a8 (iU (LP [""," ","way","way 0","way 0 0","way 0 60","way 0 1 2","way -1 0","way 0 x","ways 0 1"]))))
 (aG (bM 1 (a8 (bn iQ (vr 1) (iU (LP ["like","like 0 0","like 0 0 +1","like 0 0 01","like 0 0 -0","like 0 0 1 ","like  0 0 1"])))))
 (aG (bM 1 (a8 (bn iQ (vr 1) (iU (aM (aD (.str ("like 0 0 1." : Str))) (aM (aD (.str ("like 0 60 1" : Str))) (aM (bn yA (aD (.str ("like 0 0 1" : Str))) (bn MY (aD (.str ("0" : Str))) (aD (.int 60)))) (aM (aD (.str ("Like 0 0 1" : Str))) (aM (aD (.str ("like 0 0 -" : Str))) (aM (aD (.str ("like 0 00 1" : Str))) bO))))))))))
 (aG (bM 1 (a8 (bn iQ (vr 1) (iU (LP ["shun 0","shun 0 0","shun 0 60","wish","wish 1","wish 1 0","wish 1 0 0","wish x 1 0"])))))
 (aG (bM 1 (a8 (bn iQ (vr 1) (iU (LP [" like 0 0 1","houses 7","none","like 0 0 1_0","like 0 0 1__0","like 0 0_0 1","like 0 0 -01"])))))
 (dE (a8 (bn qV (vr 1) (bn dH (vr 0) (un kO (vr 1))))))))))
def m_r9:L D->Out D:=run 2 Jj
def OG:L Md:=[.R,.F]
def UW:L Md:=[]
def Ji:LK->SO:=aG (kB (a8 (fB (bn Gr (vr 1) (un kO (vr 0)))))
 (dE (a8 (yE (bn qV (vr 0) (vr 1)))))
 cz)
 (dE (a8 (aD (.int 0))))
def m_s9:L D->Out D:=run 2 Ji
def OE:L Md:=[.F,.F]
def UU:L Md:=[.O (.ct .fz),.F]
abbrev Nd:LK->SO:=(aG (bM 0 (a8 (bn dH (bn lJ (bn xo (vr 0) (aD (.int 48271))) (aD (.int 11))) (aD (.int 2147483647)))))
 (pe (gf 2) (eJ 2) (DD (aM (bn dH (vr 0) (vr 1)) (aM (bn dH (bn fK (vr 0) (aD (.int 7))) (vr 1)) bO))) (a8 (bn yP (bn dH (bn fK (vr 0) (aD (.int 49))) (aD (.int 7))) (aD (.int 3))))))
def Jg:LK->SO:=aG (bM 2 (a8 (aD (.dT [] []))))
 (aG (gp (a8 (lA (bn dH (vr 0) (aD (.int 5))))) (yD 3)
 Nd)
 (dE (AW 2)))
def m_u9:L D->Out D:=jw 4 Jg
def OD:L Md:=[.F]
def UT:L Md:=[]
def Jf:LK->SO:=dE (a8 (bn yA (uQ kg (aD (.str (" " : Str))) (pK (i3 (vr 0)) [] (λ_=>.ok true) (un nG (vr 0)))) (aD (.str ("\n" : Str)))))
def m_v9:L D->Out D:=run 1 Jf
def Oz:L Md:=[.F,.F,.F]
def UP:L Md:=[.O (.ct .fz),.O (.ct .fz),.F]
abbrev M8:LK->SO:=(aG (b8 (Lr 4 (iM (gf 3) (eJ 3) H9 (bn dH (vr 0) (un kO (vr 3))))))
 (aG (bM 0 (a8 (bn fK (vr 0) (aD (.int 5)))))
 (bM 5 (a8 (bn yP (vr 5) (aD (.int 1)))))))
def Jb:LK->SO:=aG (bM 3 (a8 (pK (GM (aD (.int 1)) (vr 2)) [1] (fB (bn (lI true) (vr 0) (vr 1))) (vr 0))))
 (aG (bM 4 (a8 (iU (aM (vr 1) bO))))
 (aG (bM 5 (a8 (bn dH (vr 0) (aD (.int 4)))))
 (aG (kB (a8 (fB (bn (lI false) (bn dH (bn fK (vr 0) (aD (.int 4))) (aD (.int 8))) (aD (.int 3)))))
 (bM 5 (a8 (vr 2)))
 cz)
 (aG (bM 0 (a8 (bn fK (vr 0) (aD (.int 4)))))
 (aG (E6 (a8 (rM (fB (bn LO (vr 5) (aD (.int 0)))) (fB (bn LO (un kO (vr 3)) (aD (.int 0))))))
 M8 100000)
 (dE (a8 (bn iQ (vr 4) (iU (aM (aD (.int 0)) bO))))))))))
def m_z9:L D->Out D:=jw 6 Jb
def I9:L Md:=[.F,.F]
def Rn:L Md:=[.O (.ct .fz),.F,.F,.F]
abbrev JN:LK->SO:=(aG (bM 0 (a8 (bn dH (bn lJ (bn xo (vr 0) (aD (.int 48271))) (aD (.int 23))) (aD (.int 2147483647)))))
 (aG (bM 4 (a8 (bn dH (vr 0) (vr 1))))
 (aG (bM 5 (a8 (bn dH (bn lJ (bn lJ (vr 4) (aD (.int 1))) (bn dH (bn fK (vr 0) (aD (.int 7))) (bn yP (vr 1) (aD (.int 1))))) (vr 1))))
 (kB (a8 (fB (bn BF (DD (aM (vr 4) (aM (vr 5) bO))) (vr 2))))
 (b8 (iM (gf 2) (eJ 2) kx (DD (aM (vr 4) (aM (vr 5) bO)))))
 cz))))
def BU:LK->SO:=aG (bM 2 (a8 (iU bO)))
 (aG (kB (a8 (fB (bn Gr (vr 1) (aD (.int 2)))))
 (dE (AW 2))
 cz)
 (aG (gp (a8 (lA (bn dH (vr 0) (aD (.int 3))))) (yD 3)
 JN)
 (dE (AW 2))))
def m_ba9:L D->Out D:=jw 6 BU
def IZ:L Md:=[.F,.F]
def Rl:L Md:=[.F,.O (.ct .fz),.F,.F,.F]
abbrev B8:LK->SO:=(aG (kB (a8 (fB (bn (lI false) (bn dH (bn GX (vr 2) (bn dH (vr 4) (aD (.int 29)))) (aD (.int 2))) (aD (.int 1)))))
 (b8 (iM (gf 3) (eJ 3) kx (DD (aM (vr 5) (aM (vr 6) bO)))))
 cz)
 (bM 4 (a8 (bn lJ (vr 4) (aD (.int 1))))))
abbrev JM:LK->SO:=(gp (a8 (GM (bn lJ (vr 5) (aD (.int 1))) (vr 1))) (yD 6)
 B8)
def BR:LK->SO:=aG (bM 2 (a8 (bn dH (bn xo (bn dH (bn xo (bn lJ (vr 0) (aD (.int 1))) (aD (.int 48271))) (aD (.int 2147483647))) (aD (.int 16807))) (aD (.int 2147483647)))))
 (aG (bM 3 (a8 (iU bO)))
 (aG (bM 4 (a8 (aD (.int 0))))
 (aG (gp (a8 (lA (vr 1))) (yD 5)
 JM)
 (dE (AW 3)))))
def m_bc9:L D->Out D:=jw 7 BR
def IX:L Md:=[.F]
def Rj:L Md:=[.F]
def BP:LK->SO:=aG (bM 1 (a8 (RS (fB (uQ A7 (vr 0) (aD (.str ("-" : Str))))) (bn Ah (vr 0) (aD (.int 1))) (vr 0))))
 (aG (kB (a8 (LM (fB (bn Gr (un zI (vr 1)) (aD (.int 1)))) (fB (bn LO (un zI (vr 1)) (aD (.int 60))))))
 (d6 17)
 cz)
 (aG (kB (a8 (fB (un yz (pK (Pt (vr 1)) [] (λ_=>.ok true) (bn Q8 (vr 0) (aD (.str ("0123456789" : Str))))))))
 (d6 17)
 cz)
 (aG (kB (a8 (rM (fB (bn (lI false) (bn Ni (vr 1) (aD (.int 0))) (aD (.str ("0" : Str))))) (fB (bn (lI true) (vr 0) (aD (.str ("0" : Str)))))))
 (d6 17)
 cz)
 (dE (a8 (un DN (vr 0)))))))
def m_be9:L D->Out D:=run 2 BP
def IV:L Md:=[.R,.F]
def Rh:L Md:=[]
def BN:LK->SO:=kB (a8 (LM (fB (bn Gr (bn (tZ gq) (vr 0) (aD (.int 0))) (aD (.int 0)))) (fB (bn WS (bn (tZ ka) (vr 0) (aD (.int 0))) (vr 1)))))
 (d6 11)
 cz
def m_bg9:L D->Out D:=run 2 BN
def IU:L Md:=[.F]
def Rg:L Md:=[]
def BM:LK->SO:=aG (kB (a8 (MX (fB (uQ R7 (vr 0) (aD (.str ("\n" : Str)))))))
 (d6 17)
 cz)
 (dE (a8 (pK (i3 (uQ pV (bn ub (vr 0) (un FF (aD (.int 1)))) (aD (.str ("\n" : Str))))) [] (λ_=>.ok true) (uQ pV (vr 0) (aD (.str (" " : Str)))))))
def m_bh9:L D->Out D:=jw 1 BM
def OT:L Md:=[.R,.R]
def Vc:L Md:=[]
def Ju:LK->SO:=b8 (a8 (pc m_bg9 (aM (vr 1) (aM (yE (un (jg 0 "house_count") (vr 0))) bO))))
def zE:L D->Out D:=run 2 Ju
def OF:L Md:=[.F,.F]
def UV:L Md:=[.O (.ct .fz),.F,.F]
abbrev Nf:LK->SO:=(aG (bM 0 (a8 (bn dH (bn lJ (bn xo (vr 0) (aD (.int 48271))) (aD (.int 17))) (aD (.int 2147483647)))))
 (aG (bM 4 (a8 (pc m_z9 (aM (bn fK (vr 0) (aD (.int 9))) (aM (bn lJ (aD (.int 1)) (bn dH (vr 0) (bn yP (vr 1) (aD (.int 1))))) (aM (vr 1) bO))))))
 (pe (gf 2) (eJ 2) (un LU (vr 4)) (a8 (bn yP (bn dH (bn fK (vr 0) (aD (.int 5))) (aD (.int 9))) (aD (.int 4)))))))
def Jh:LK->SO:=aG (bM 2 (a8 (aD (.dT [] []))))
 (aG (kB (a8 (fB (bn Gr (vr 1) (aD (.int 2)))))
 (dE (AW 2))
 cz)
 (aG (gp (a8 (lA (bn dH (vr 0) (aD (.int 4))))) (yD 3)
 Nf)
 (dE (AW 2))))
def m_t9:L D->Out D:=jw 5 Jh
def OC:L Md:=[.R,.R,.R,.R]
def US:L Md:=[.O (.ct .fz),.F]
abbrev Nc:LK->SO:=(kB (a8 (fB (bn (lI true) (bn ny (vr 1) (vr 5)) (aD (.int 0)))))
 (b8 (iM (gf 4) (eJ 4) kx (pc m_v9 (aM (iU (aM (aD (.str ("like" : Str))) (aM (bn Gu (vr 5) (aD (.int 0))) (aM (bn Gu (vr 5) (aD (.int 1))) (aM (yE (bn ny (vr 1) (vr 5))) bO))))) bO))))
 cz)
def Je:LK->SO:=aG (bM 4 (a8 (AB (i3 (un lB (vr 0))) (pc m_v9 (aM (iU (aM (aD (.str ("way" : Str))) (aM (yE (vr 0)) (aM (yE (vr 1)) bO)))) bO)))))
 (aG (gp (a8 (i3 (un lB (un vU (vr 1))))) (yD 5)
 Nc)
 (aG (bM 4 (a8 (bn iQ (vr 4) (AB (i3 (un lB (vr 3))) (pc m_v9 (aM (iU (aM (aD (.str ("shun" : Str))) (aM (yE (vr 0)) (aM (yE (vr 1)) bO)))) bO))))))
 (dE (a8 (bn iQ (vr 4) (pK (i3 (un lB (un vU (vr 2)))) [2] (λ_=>.ok true) (pc m_v9 (aM (bn iQ (iU (aM (aD (.str ("wish" : Str))) (aM (yE (bn ny (vr 1) (vr 0))) bO))) (un tw (vr 0))) bO))))))))
def m_w9:L D->Out D:=jw 6 Je
def OB:L Md:=[.F,.R,.F]
def UR:L Md:=[.O (.ct .fz),.F,.F,.F,.F]
abbrev Nb:LK->SO:=(b8 (iM (gf 3) (eJ 3) kx (pc m_v9 (aM (iU (aM (aD (.str ("like" : Str))) (aM (bn Gu (vr 4) (aD (.int 0))) (aM (bn Gu (vr 4) (aD (.int 1))) (aM (bn lJ (aD (.int 5)) (bn dH (vr 2) (aD (.int 3)))) bO))))) bO))))
abbrev Na:LK->SO:=(kB (a8 (fB (bn (lI false) (bn ny (vr 1) (vr 4)) (aD (.int 0)))))
 (b8 (iM (gf 3) (eJ 3) kx (pc m_v9 (aM (iU (aM (aD (.str ("like" : Str))) (aM (bn Gu (vr 4) (aD (.int 0))) (aM (bn Gu (vr 4) (aD (.int 1))) (aM (aD (.int 0)) bO))))) bO))))
 cz)
abbrev M9:LK->SO:=(aG (bM 7 (a8 (uQ pV (bn ub (vr 6) (un FF (aD (.int 1)))) (aD (.str (" " : Str))))))
 (aG (kB (a8 (rM (fB (bn (lI false) (bn qV (vr 7) (aD (.int 0))) (aD (.str ("way" : Str))))) (fB (bn (lI false) (bn dH (bn fK (vr 2) (aD (.int 7))) (aD (.int 2))) (aD (.int 1))))))
 (bM 6 (a8 (pc m_v9 (aM (iU (aM (aD (.str ("way" : Str))) (aM (bn qV (vr 7) (aD (.int 2))) (aM (bn qV (vr 7) (aD (.int 1))) bO)))) bO))))
 (kB (a8 (rM (fB (bn (lI false) (bn qV (vr 7) (aD (.int 0))) (aD (.str ("wish" : Str))))) (fB (bn (lI false) (bn dH (bn fK (vr 2) (aD (.int 14))) (aD (.int 3))) (aD (.int 1))))))
 (b8 (iM (gf 3) (eJ 3) kx (pc m_v9 (aM (bn iQ (iU (aM (aD (.str ("wish" : Str))) (aM (bn lJ (aD (.int 5)) (bn dH (vr 2) (aD (.int 4)))) bO))) (bn qZ (vr 7) (aD (.int 2)))) bO))))
 cz))
 (aG (kB (a8 (rM (fB (bn (lI true) (bn qV (vr 7) (aD (.int 0))) (aD (.str ("way" : Str))))) (fB (bn (lI false) (bn dH (bn fK (vr 2) (aD (.int 42))) (aD (.int 2))) (aD (.int 1))))))
 (b8 (iM (gf 3) (eJ 3) kx (vr 6)))
 cz)
 (b8 (iM (gf 3) (eJ 3) kx (vr 6))))))
def Jd:LK->SO:=aG (bM 3 (a8 (iU bO)))
 (aG (gp (a8 (i3 (un vU (vr 1)))) (yD 4)
 Nb)
 (aG (bM 5 (a8 (bn dH (vr 2) (bn lJ (un kO (vr 0)) (aD (.int 1))))))
 (aG (bM 0 (a8 (bn iQ (bn qZ (vr 0) (vr 5)) (bn CN (vr 0) (vr 5)))))
 (aG (gp (a8 (i3 (un vU (vr 1)))) (yD 4)
 Na)
 (aG (gp (a8 (i3 (vr 0))) (yD 6)
 M9)
 (dE (AW 3)))))))
def m_x9:L D->Out D:=jw 8 Jd
def I8:L Md:=[.F,.F,.R,.F]
def Rm:L Md:=[.F,.F,.F,.R,.F]
def BS:LK->SO:=aG (bM 4 (a8 (pc m_v9 (aM (iU (aM (aD (.str ("houses" : Str))) (aM (vr 0) bO))) bO))))
 (aG (bM 5 (a8 (bn dH (bn fK (vr 3) (aD (.int 14))) (bn lJ (un kO (vr 1)) (aD (.int 1))))))
 (aG (bM 6 (a8 (bn dH (vr 3) (aD (.int 7)))))
 (aG (kB (a8 (fB (bn (lI false) (vr 6) (aD (.int 0)))))
 (dE (a8 (uQ kg (aD (.str ("" : Str))) (bn iQ (iU (aM (bn yA (pc m_q9 (aM (bn fK (vr 3) (aD (.int 14))) bO)) (aD (.str ("\n" : Str)))) bO)) (vr 1)))))
 cz)
 (aG (kB (a8 (fB (bn (lI false) (vr 6) (aD (.int 1)))))
 (dE (a8 (bn ub (uQ kg (aD (.str ("" : Str))) (bn iQ (iU (aM (vr 4) bO)) (vr 1))) (un FF (aD (.int 1))))))
 cz)
 (aG (kB (a8 (rM (fB (bn (lI false) (vr 6) (aD (.int 2)))) (fB (bn LO (un kO (vr 2)) (aD (.int 0))))))
 (aG (bM 7 (a8 (bn qV (vr 2) (bn dH (bn fK (vr 3) (aD (.int 14))) (un kO (vr 2))))))
 (dE (a8 (uQ kg (aD (.str ("" : Str))) (bn iQ (bn iQ (iU (aM (vr 4) bO)) (vr 1)) (iU (aM (pc m_v9 (aM (iU (aM (aD (.str ("way" : Str))) (aM (yE (bn Gu (vr 7) (aD (.int 1)))) (aM (yE (bn Gu (vr 7) (aD (.int 0)))) bO)))) bO)) bO)))))))
 cz)
 (aG (kB (a8 (fB (bn (lI false) (vr 6) (aD (.int 3)))))
 (dE (a8 (bn qV (iU (aM (aD (.str ("" : Str))) (aM (aD (.str ("\n" : Str))) (aM (aD (.str ("houses 3" : Str))) (aM (uQ kg (aD (.str ("" : Str))) (vr 1)) bO))))) (bn dH (bn fK (vr 3) (aD (.int 14))) (aD (.int 4))))))
 cz)
 (aG (bM 8 (a8 (bn yA (pc m_r9 (aM (bn fK (bn fK (vr 3) (aD (.int 7))) (aD (.int 3))) bO)) (aD (.str ("\n" : Str))))))
 (dE (a8 (uQ kg (aD (.str ("" : Str))) (bn iQ (bn iQ (bn iQ (iU (aM (vr 4) bO)) (bn CN (vr 1) (vr 5))) (iU (aM (vr 8) bO))) (bn qZ (vr 1) (vr 5)))))))))))))
def m_bb9:L D->Out D:=run 9 BS
def IP:L Md:=[.R]
def Q9:L Md:=[.O (.ct .fz),.F,.F,.F]
abbrev JI:LK->SO:=(aG (bM 4 (a8 (uQ kg (aD (.str (" " : Str))) (pK (i3 (vr 2)) [] (λ_=>.ok true) (un nG (vr 0))))))
 (b8 (iM (gf 1) (eJ 1) kx (RZ (jC (aD (.str ("wish " : Str))) (jC (vr 3) (jC (aD (.str (" " : Str))) (jC (vr 4) jN))))))))
def BH:LK->SO:=aG (bM 1 (a8 (iU bO)))
 (aG (gp (a8 (i3 (pm 0 "wishes" Rp (vr 0) bO))) (Tq 2 3)
 JI)
 (dE (AW 1)))
def m_bm9:L D->Out D:=jw 5 BH
def OW:L Md:=[.O (.ob gk),.F,.F,.F]
def Vf:L Md:=[]
def Jx:LK->SO:=aG (b8 (a8 (pm 0 "require_houses" zE (vr 0) (aM (iU (aM (vr 1) (aM (vr 2) bO))) bO))))
 (pe (Cc 0 "likings" 0) (yT "likings" 0) (DD (aM (vr 1) (aM (vr 2) bO))) (a8 (vr 3)))
def Rz:L D->Out D:=run 4 Jx
def OV:L Md:=[.R,.F,.F]
def Ve:L Md:=[]
def Jw:LK->SO:=aG (b8 (a8 (pm 0 "require_houses" zE (vr 0) (aM (iU (aM (vr 1) (aM (vr 2) bO))) bO))))
 (dE (a8 (yE (J7 (un (jg 0 "likings") (vr 0)) (DD (aM (vr 1) (aM (vr 2) bO))) (aD (.int 0))))))
def Ry:L D->Out D:=run 3 Jw
def OU:L Md:=[.R,.F]
def Vd:L Md:=[]
def Jv:LK->SO:=aG (b8 (a8 (pm 0 "require_houses" zE (vr 0) (aM (iU (aM (vr 1) bO)) bO))))
 (dE (a8 (pm 0 "houses_paired" M6 (vr 0) (aM (un (jg 0 "ways") (vr 0)) (aM (vr 1) bO)))))
def Rx:L D->Out D:=jw 2 Jv
def OS:L Md:=[.R,.R]
def Vb:L Md:=[]
def Jt:LK->SO:=aG (b8 (a8 (pm 0 "require_houses" zE (vr 0) (aM (vr 1) bO))))
 (aG (kB (a8 (fB (bn Gr (un kO (vr 1)) (aD (.int 2)))))
 (d6 14)
 cz)
 (aG (kB (a8 (fB (bn (lI true) (bn qV (vr 1) (un FF (aD (.int 1)))) (aD (.int 0)))))
 (d6 14)
 cz)
 (kB (a8 (fB (bn (lI true) (un tI (vr 1)) (un kO (vr 1)))))
 (d6 14)
 cz)))
def Rv:L D->Out D:=run 2 Jt
def OR:L Md:=[.R,.F,.F]
def Va:L Md:=[]
def Js:LK->SO:=aG (b8 (a8 (pm 0 "require_houses" zE (vr 0) (aM (iU (aM (vr 1) (aM (vr 2) bO))) bO))))
 (kB (a8 (fB (bn (lI false) (vr 1) (vr 2))))
 (d6 11)
 cz)
def M5:L D->Out D:=run 3 Js
def OP:L Md:=[.R,.F]
def U8:L Md:=[]
def Jq:LK->SO:=aG (b8 (a8 (pm 0 "require_houses" zE (vr 0) (aM (iU (aM (vr 1) bO)) bO))))
 (dE (a8 (pm 0 "houses_paired" M6 (vr 0) (aM (un (jg 0 "shuns") (vr 0)) (aM (vr 1) bO)))))
def Rt:L D->Out D:=jw 2 Jq
def OL:L Md:=[.F]
def U0:L Md:=[]
def Jm:LK->SO:=aG (kB (a8 (LM (fB (bn (lI true) (un kO (vr 0)) (aD (.int 2)))) (fB (bn (lI true) (bn qV (vr 0) (aD (.int 0))) (aD (.str ("houses" : Str)))))))
 (d6 17)
 cz)
 (dE (a8 (pk 0 BY (aM (pc m_be9 (aM (bn qV (vr 0) (aD (.int 1))) bO)) bO))))
def m_o9:L D->Out D:=jw 1 Jm
def OX:L Md:=[.O (.ob gk),.F,.F]
def Vg:L Md:=[]
def Jy:LK->SO:=aG (b8 (a8 (pm 0 "require_two_houses" M5 (vr 0) (aM (vr 1) (aM (vr 2) bO)))))
 (aG (kB (a8 (fB (bn (Cg false) (DD (aM (vr 1) (aM (vr 2) bO))) (un (jg 0 "ways") (vr 0)))))
 (d6 13)
 cz)
 (aG (pe (Cc 0 "ways" 0) (yT "ways" 0) (DD (aM (vr 1) (aM (vr 2) bO))) (a8 (aD (.bl true))))
 (pe (Cc 0 "ways" 0) (yT "ways" 0) (DD (aM (vr 2) (aM (vr 1) bO))) (a8 (aD (.bl true))))))
def RB:L D->Out D:=run 3 Jy
def OQ:L Md:=[.O (.ob gk),.F,.F]
def U9:L Md:=[]
def Jr:LK->SO:=aG (b8 (a8 (pm 0 "require_two_houses" M5 (vr 0) (aM (vr 1) (aM (vr 2) bO)))))
 (pe (Cc 0 "shuns" 0) (yT "shuns" 0) (DD (aM (vr 1) (aM (vr 2) bO))) (a8 (aD (.bl true))))
def Ru:L D->Out D:=run 3 Jr
def ON:L Md:=[.O (.ob gk),.R,.F]
def U6:L Md:=[]
def Jo:LK->SO:=aG (b8 (a8 (pm 0 "require_long_road" Rv (vr 0) (aM (vr 1) bO))))
 (pe (Cc 0 "wish_ranks" 0) (yT "wish_ranks" 0) (un LU (Gc (vr 1))) (a8 (vr 2)))
def Rr:L D->Out D:=run 3 Jo
def IY:L Md:=[.R]
def Rk:L Md:=[.O (.ct .fz),.F,.F,.F]
abbrev B7:LK->SO:=(aG (bM 4 (a8 (pm 0 "liking" Ry (vr 0) (aM (vr 2) (aM (vr 3) bO)))))
 (kB (a8 (fB (bn (lI true) (vr 4) (aD (.int 0)))))
 (b8 (iM (gf 1) (eJ 1) kx (RZ (jC (aD (.str ("like " : Str))) (jC (vr 2) (jC (aD (.str (" " : Str))) (jC (vr 3) (jC (aD (.str (" " : Str))) (jC (vr 4) jN)))))))))
 cz))
abbrev JL:LK->SO:=(gp (a8 (lA (pm 0 "size" BX (vr 0) bO))) (yD 3)
 B7)
def BQ:LK->SO:=aG (bM 1 (a8 (iU bO)))
 (aG (gp (a8 (lA (pm 0 "size" BX (vr 0) bO))) (yD 2)
 JL)
 (dE (AW 1)))
def m_bd9:L D->Out D:=jw 5 BQ
def IS:L Md:=[.R]
def Re:L Md:=[.O (.ct .fz),.F]
abbrev JK:LK->SO:=(b8 (iM (gf 1) (eJ 1) xD (pK (i3 (pm 0 "shunned" Rt (vr 0) (aM (vr 2) bO))) [2] (λ_=>.ok true) (RZ (jC (aD (.str ("shun " : Str))) (jC (vr 1) (jC (aD (.str (" " : Str))) (jC (vr 0) jN))))))))
def BK:LK->SO:=aG (bM 1 (a8 (iU bO)))
 (aG (gp (a8 (lA (pm 0 "size" BX (vr 0) bO))) (yD 2)
 JK)
 (dE (AW 1)))
def m_bj9:L D->Out D:=jw 3 BK
def IQ:L Md:=[.R]
def Ra:L Md:=[.O (.ct .fz),.F]
abbrev JJ:LK->SO:=(b8 (iM (gf 1) (eJ 1) xD (pK (i3 (pm 0 "neighbours" Rx (vr 0) (aM (vr 2) bO))) [2] (fB (bn Gr (vr 1) (vr 0))) (RZ (jC (aD (.str ("way " : Str))) (jC (vr 1) (jC (aD (.str (" " : Str))) (jC (vr 0) jN))))))))
def BI:LK->SO:=aG (bM 1 (a8 (iU bO)))
 (aG (gp (a8 (lA (pm 0 "size" BX (vr 0) bO))) (yD 2)
 JJ)
 (dE (AW 1)))
def m_bl9:L D->Out D:=jw 3 BI
def IT:L Md:=[.R]
def Rf:L Md:=[.F,.O (.ct .fz)]
def BL:LK->SO:=aG (bM 1 (a8 (pm 0 "size" BX (vr 0) bO)))
 (aG (bM 2 (a8 (iU (aM (RZ (jC (aD (.str ("houses " : Str))) (jC (vr 1) jN))) bO))))
 (aG (b8 (iM (gf 2) (eJ 2) xD (pc m_bl9 (aM (vr 0) bO))))
 (aG (b8 (iM (gf 2) (eJ 2) xD (pc m_bd9 (aM (vr 0) bO))))
 (aG (b8 (iM (gf 2) (eJ 2) xD (pc m_bj9 (aM (vr 0) bO))))
 (aG (b8 (iM (gf 2) (eJ 2) xD (pc m_bm9 (aM (vr 0) bO))))
 (dE (a8 (uQ kg (aD (.str ("" : Str))) (pK (i3 (vr 2)) [] (λ_=>.ok true) (bn yA (vr 0) (aD (.str ("\n" : Str)))))))))))))
def m_bi9:L D->Out D:=run 3 BL
def IR:L Md:=[.O (.ob gk),.F]
def Rb:L Md:=[.F,.F]
def BJ:LK->SO:=aG (bM 2 (a8 (bn qV (vr 1) (aD (.int 0)))))
 (aG (bM 3 (a8 (KN (i3 (bn qZ (vr 1) (aD (.int 1)))) [] (pc m_be9 (aM (vr 0) bO)))))
 (kB (a8 (rM (fB (bn (lI false) (vr 2) (aD (.str ("way" : Str))))) (fB (bn (lI false) (un kO (vr 3)) (aD (.int 2))))))
 (b8 (mm 0 "lay_way" [(.O 0),.F,.F] RB (vr 0) (aM (bn qV (vr 3) (aD (.int 0))) (aM (bn qV (vr 3) (aD (.int 1))) bO))))
 (kB (a8 (rM (fB (bn (lI false) (vr 2) (aD (.str ("like" : Str))))) (fB (bn (lI false) (un kO (vr 3)) (aD (.int 3))))))
 (b8 (mm 0 "like" [(.O 0),.F,.F,.F] Rz (vr 0) (aM (bn qV (vr 3) (aD (.int 0))) (aM (bn qV (vr 3) (aD (.int 1))) (aM (bn qV (vr 3) (aD (.int 2))) bO)))))
 (kB (a8 (rM (fB (bn (lI false) (vr 2) (aD (.str ("shun" : Str))))) (fB (bn (lI false) (un kO (vr 3)) (aD (.int 2))))))
 (b8 (mm 0 "shun" [(.O 0),.F,.F] Ru (vr 0) (aM (bn qV (vr 3) (aD (.int 0))) (aM (bn qV (vr 3) (aD (.int 1))) bO))))
 (kB (a8 (rM (fB (bn (lI false) (vr 2) (aD (.str ("wish" : Str))))) (fB (bn LO (un kO (vr 3)) (aD (.int 0))))))
 (b8 (mm 0 "wish" [(.O 0),.F,.F] Rr (vr 0) (aM (bn qZ (vr 3) (aD (.int 1))) (aM (bn qV (vr 3) (aD (.int 0))) bO))))
 (d6 17))))))
def m_bk9:L D->Out D:=run 4 BJ
def IW:L Md:=[.F]
def Ri:L Md:=[.F,.O (.ob gk),.F,.F]
abbrev B6:LK->SO:=(b8 (mc [(.O 2),.F] m_bk9 (aM (vr 2) (aM (vr 3) bO))))
def BO:LK->SO:=aG (bM 1 (a8 (pc m_bh9 (aM (vr 0) bO))))
 (aG (yL (rL [10,11,13,14,17]) 17 (aG (bM 2 (a8 (pc m_o9 (aM (bn qV (vr 1) (aD (.int 0))) bO))))
 (gp (a8 (i3 (bn qZ (vr 1) (aD (.int 1))))) (yD 3)
 B6)))
 (dE (AW 2)))
def m_bf9:L D->Out D:=jw 5 BO
def OA:L Md:=[.F]
def UQ:L Md:=[.O (.ct .fz),.F]
def Jc:LK->SO:=aG (bM 1 (a8 (iU bO)))
 (aG (GB (J 2) (rL [10,11,13,14,17]) (b8 (a8 (pc m_bf9 (aM (vr 0) bO)))) λc=>(aG (bM 1 (a8 (iU (aM (aD (.bl (match c with|10=>false|11=>false|13=>false|14=>false|17=>true|_=>false))) (aM (aD (.bl (match c with|10=>true|11=>true|13=>true|14=>true|17=>true|_=>false))) (aM (aD (.bl (match c with|10=>false|11=>true|13=>false|14=>false|17=>false|_=>false))) bO)))))) (bM 1 (a8 (bn iQ (vr 1) (iU (aM (aD (.bl (match c with|10=>false|11=>false|13=>true|14=>false|17=>false|_=>false))) (aM (aD (.bl (match c with|10=>false|11=>false|13=>false|14=>true|17=>false|_=>false))) bO))))))))
 (dE (a8 (bn (Ti false) (vr 1) (iU (aM (aD (.bl true)) (aM (aD (.bl true)) (aM (aD (.bl false)) (aM (aD (.bl false)) (aM (aD (.bl false)) bO))))))))))
def m_y9:L D->Out D:=run 3 Jc
def OK:L Md:=[.R]
def UZ:L Md:=[.F,.O (.ct .fz),.O (.ct .fz),.O (.ct .fz),.O (.ct .fz),.F,.F,.F,.F]
abbrev zJ:LK->SO:=(kB (a8 (MX (fB (pc m_y9 (aM (pc m_bb9 (aM (vr 1) (aM (vr 6) (aM (vr 2) (aM (pc m_s9 (aM (vr 0) (aM (bn lJ (aD (.int 6)) (vr 7)) bO))) bO))))) bO)))))
 (dE (a8 (aD (.bl false))))
 cz)
def Jl:LK->SO:=aG (bM 1 (a8 (bn lJ (aD (.int 1)) (bn dH (pc m_s9 (aM (vr 0) (aM (aD (.int 0)) bO))) (aD (.int 7))))))
 (aG (bM 2 (a8 (pc m_bc9 (aM (pc m_s9 (aM (vr 0) (aM (aD (.int 1)) bO))) (aM (vr 1) bO)))))
 (aG (bM 3 (a8 (pc m_u9 (aM (pc m_s9 (aM (vr 0) (aM (aD (.int 2)) bO))) (aM (vr 1) bO)))))
 (aG (bM 4 (a8 (pc m_t9 (aM (pc m_s9 (aM (vr 0) (aM (aD (.int 3)) bO))) (aM (vr 1) bO)))))
 (aG (bM 5 (a8 (pc m_ba9 (aM (pc m_s9 (aM (vr 0) (aM (aD (.int 4)) bO))) (aM (vr 1) bO)))))
 (aG (bM 6 (a8 (pc m_w9 (aM (vr 2) (aM (vr 3) (aM (vr 4) (aM (vr 5) bO)))))))
 (aG (kB (a8 (fB (bn (lI false) (bn dH (pc m_s9 (aM (vr 0) (aM (aD (.int 5)) bO))) (aD (.int 2))) (aD (.int 1)))))
 (aG (gp (a8 (lA (aD (.int 8)))) (yD 7)
 zJ)
 (dE (a8 (aD (.bl true)))))
 cz)
 (aG (bM 8 (a8 (pc m_v9 (aM (iU (aM (aD (.str ("houses" : Str))) (aM (vr 1) bO))) bO))))
 (aG (bM 9 (a8 (uQ kg (aD (.str ("" : Str))) (bn iQ (iU (aM (vr 8) bO)) (pc m_x9 (aM (vr 6) (aM (vr 3) (aM (pc m_s9 (aM (vr 0) (aM (aD (.int 6)) bO))) bO))))))))
 (dE (a8 (bn (lI false) (pc m_bi9 (aM (pc m_bf9 (aM (vr 9) bO)) bO)) (uQ kg (aD (.str ("" : Str))) (bn iQ (iU (aM (vr 8) bO)) (vr 6))))))))))))))
def m_p9:L D->Out D:=run 10 Jl
end
end K09
seal PySem.wpAny
namespace K09
open PySem L2 Mi
variable{P:Program}{w:World}{K:L0}{mg:Str->Option Value}{base:Heap}{a:Adr}
def UF(T:Txt K mg a base):FnOk P w K mg base (ip P w) 1 a.f_a9 a.d_a9 ["self","size"] (gy (aK a K) OZ (KR (aK a K) .F) BY):=by
 let(b,g_MOST_HOUSES):=T.g_MOST_HOUSES;refine T.F_a9.okX2 T6 (λ_ _ _ _=>aS) (λ_ _ _ _ _ _ _ _ d h=>?_)
 refine(_,(ae (cr (PW.pt (Dp (aJ qK (pv 1) ah (aV _)) (wX (aJ vM (pv 1) (gW rfl g_MOST_HOUSES (v:=.int 60) (_,rfl)) (aV _))))) (aj (cF dm rfl rfl T.mgC_NoHouse T.ek_NoHouse (aa ax ac))) bG)
  (ae (sJ (pv 0) (pv 1) rfl)
  (ae (sJ (pv 0) j9 rfl)
  (ae (sJ (pv 0) j9 rfl)
  (ae (sJ (pv 0) j9 rfl)
  (aj (sJ (pv 0) j9 rfl))))))),?_)
 refine bR (Y:=aK a K) (M:=OZ) (more:=Vi) (body:=JA) ?_ rfl rfl (λ_ _ _=>jP) h
 exact(aw (fj (a9 (Dt (cJ (fx (aA yZ (fx (fF 1)) (fx pI)))) (cJ (fx (aA Fp (fx (fF 1)) (fx pI)))))) (fi (c:=11)) cR)
  (aw (Qd (c:=0) (i:=0) T.cl_Guild T.n_house_count rfl rfl (a9 (fF 1)))
  (aw (wS (c:=0) (i:=0) T.cl_Guild T.n_ways rfl rfl (a9 vL))
  (aw (wS (c:=0) (i:=0) T.cl_Guild T.n_likings rfl rfl (a9 vL))
  (aw (wS (c:=0) (i:=0) T.cl_Guild T.n_shuns rfl rfl (a9 vL))
  (wS (c:=0) (i:=0) T.cl_Guild T.n_wish_ranks rfl rfl (a9 vL)))))))
def Kz:CompSc (au Ha) (Gd.mW (Gd.vn (Gd.nth (fk Ha) 0))) "b" ["pairs","a"]:=by ac_rfl
def Ou(T:Txt K mg a base):FnOk P w K mg base (ip P w) 1 a.f_b9 a.d_b9 ["self","pairs","a"] (gy (aK a K) OY (KO (aK a K) (.ct .fz)) M6):=by
 refine T.F_b9.okX2 T5 (λ_ _ _ _=>aS) (λ_ _ _ _ _ _ _ _ d h=>?_);have b:=l8 d;refine(_,(aj (bA (gX rfl (dY rfl T.z_range (aa (d9 K rfl (pv 0) rfl) ac)) Kz (ix:=[1,2]) rfl (λ_ _ _ _=>wY (HW (Ij b (iw (aa (pv 2) (aa (pv 0) ac))) (pv 1)))) (λ_ _ _ _=>(pv 0))))),?_);refine bP (Y:=aK a K) (M:=OY) (more:=Vh) (body:=Jz) ?_ rfl rfl h;exact(bY (a9 (eT (ix:=[1,2]) (uX (ux (qJ (c:=0) T.cl_Guild T.n_house_count (rc (fR 0))))) () (Fy (fx (Os (fx (lD (ag (fF 2) (ag (fF 0) aH)))) (rc (fR 1))))) (fF 0))))
def zo(T:Txt K mg a base):FnOk P w K mg base (ip P w) 1 a.f_l9 a.d_l9 ["self"] (gy (aK a K) OO (KR (aK a K) .F) BX):=by
 refine T.F_l9.okX2 TU (λ_ _ _ _=>aS) (λ_ _ _ _ _ _ _ _ b h=>?_);refine(_,(aj (bA (d9 K rfl (pv 0) rfl))),?_);refine bR (Y:=aK a K) (M:=OO) (more:=U7) (body:=Jp) ?_ rfl rfl (λ_ _ _=>jP) h;exact(bY (a9 (rS (k:= .X) (ux (qJ (c:=0) T.cl_Guild T.n_house_count (rc (fR 0)))))))
def Ky:CompSc (au G2) (Gd.mW (Gd.vn (Gd.nth (fk G2) 0))) "road" ["self"]:=by ac_rfl
def Uw(T:Txt K mg a base):FnOk P w K mg base (ip P w) 1 a.f_n9 a.d_n9 ["self"] (gy (aK a K) OM (KO (aK a K) (.ct .fz)) Rp):=by
 refine T.F_n9.okX2 TQ (λ_ _ _ _=>aS) (λ_ _ _ _ _ _ _ _ d h=>?_);have b:=l8 d;refine(_,(aj (bA (gX rfl (cj K rfl (a7 (Cy rfl) rfl T.z_sorted Gd.ku (aa (d9 K rfl (pv 0) rfl) ac))) Ky (ix:=[0]) rfl (λ_ _ _ _=>iL) (λ_ _ _ _=>(iw (aa (cG (nD K rfl) rfl T.z_list Gd.ng (aa (pv 0) ac)) (aa (oM b (d9 K rfl (pv 1) rfl) (pv 0) (λ_ _=>rfl)) ac))))))),?_);refine bP (Y:=aK a K) (M:=OM) (more:=U5) (body:=Jn) ?_ rfl rfl h;exact(bY (a9 (eT (ix:=[0]) (je (oc (MI (rc (qJ (c:=0) T.cl_Guild T.n_wish_ranks (rc (fR 0))))))) () lP (lD (ag (oF (Ir (rc (fF 0)))) (ag (rS (k:= .X) (ux (sO (rc (qJ (c:=0) T.cl_Guild T.n_wish_ranks (rc (fR 1)))) (fx (fF 0))))) aH))))))
def Ut(T:Txt K mg a base):FnOk P w K mg base (ip P w) 1 a.f_q9 a.d_q9 ["cell"] (gy (aK a K) OJ (KR (aK a K) .F) m_q9):=by
 refine T.F_q9.okX2 GY (λ_ _ _ _=>aS) (λ_ _ _ _ _ _ _ _ b h=>?_)
 refine(_,(ae (aI (i:=1) GY.nd rfl (Or.inl rfl) (aW (mV (l:=["houses","houses 0","houses 61","houses 01","houses -1","house 3","houses 3 ","Houses 3"]) rfl)))
  (ae (aI (i:=1) GY.nd rfl (Or.inl rfl) (ay cZ (pv 1) (aW (aa ax (aa ax (aa ax (aa ax (aa ax (aa (ay gH ax (cG oj rfl T.z_str Gd.CC (aa (ay QH ah ah) ac))) ac)))))))))
  (aj (bA (cC (bL K rfl) (pv 1) (ay bK (pv 0) (a7 (aZ K rfl) rfl T.z_len Gd.dN (aa (pv 1) ac))) (λ_ _=>rfl)))))),?_)
 refine bR (Y:=aK a K) (M:=OJ) (more:=UY) (body:=Jk) ?_ rfl rfl (λ_ _ _=>jP) h
 exact(aw (bx (i:=1) (a9 (oF (bp m8))) rfl rfl)
  (aw (bx (i:=1) (a9 (oF (dW (rc (fF 1)) (oc (bp (ag pS (ag pS (ag pS (ag pS (ag pS (ag (aA p8 (fx pS) (fx (eU wP (fx (aA T8 (fx pI) (fx pI)))))) aH))))))))))) rfl rfl)
  (bY (a9 (eQ (rc (fF 1)) (fx (aA ci (fx (fF 0)) (fx (eU iE (fx (fF 1)))))))))))
def Us(T:Txt K mg a base):FnOk P w K mg base (ip P w) 1 a.f_r9 a.d_r9 ["cell"] (gy (aK a K) OH (KR (aK a K) .F) m_r9):=by
 refine T.F_r9.okX2 vw (λ_ _ _ _=>aS) (λ_ _ _ _ _ _ _ _ b h=>?_)
 refine(_,(ae (aI (i:=1) vw.nd rfl (Or.inl rfl) (aW (mV (l:=[""," ","way","way 0","way 0 0","way 0 60","way 0 1 2","way -1 0","way 0 x","ways 0 1"]) rfl)))
  (ae (aI (i:=1) vw.nd rfl (Or.inl rfl) (ay cZ (pv 1) (aW (mV (l:=["like","like 0 0","like 0 0 +1","like 0 0 01","like 0 0 -0","like 0 0 1 ","like  0 0 1"]) rfl))))
  (ae (aI (i:=1) vw.nd rfl (Or.inl rfl) (ay cZ (pv 1) (aW (aa ax (aa ax (aa (ay gH ax (ay BA ax ah)) (aa ax (aa ax (aa ax ac)))))))))
  (ae (aI (i:=1) vw.nd rfl (Or.inl rfl) (ay cZ (pv 1) (aW (mV (l:=["shun 0","shun 0 0","shun 0 60","wish","wish 1","wish 1 0","wish 1 0 0","wish x 1 0"]) rfl))))
  (ae (aI (i:=1) vw.nd rfl (Or.inl rfl) (ay cZ (pv 1) (aW (mV (l:=[" like 0 0 1","houses 7","none","like 0 0 1_0","like 0 0 1__0","like 0 0_0 1","like 0 0 -01"]) rfl))))
  (aj (bA (cC (bL K rfl) (pv 1) (ay bK (pv 0) (a7 (aZ K rfl) rfl T.z_len Gd.dN (aa (pv 1) ac))) (λ_ _=>rfl))))))))),?_)
 refine bR (Y:=aK a K) (M:=OH) (more:=UX) (body:=Jj) ?_ rfl rfl (λ_ _ _=>jP) h
 exact(aw (bx (i:=1) (a9 (oF (bp m8))) rfl rfl)
  (aw (bx (i:=1) (a9 (oF (dW (rc (fF 1)) (oc (bp m8))))) rfl rfl)
  (aw (bx (i:=1) (a9 (oF (dW (rc (fF 1)) (oc (bp (ag pS (ag pS (ag (aA p8 (fx pS) (fx (aA P4 (fx pS) (fx pI)))) (ag pS (ag pS (ag pS aH))))))))))) rfl rfl)
  (aw (bx (i:=1) (a9 (oF (dW (rc (fF 1)) (oc (bp m8))))) rfl rfl)
  (aw (bx (i:=1) (a9 (oF (dW (rc (fF 1)) (oc (bp m8))))) rfl rfl)
  (bY (a9 (eQ (rc (fF 1)) (fx (aA ci (fx (fF 0)) (fx (eU iE (fx (fF 1))))))))))))))
def qL(T:Txt K mg a base):FnOk P w K mg base (ip P w) 1 a.f_s9 a.d_s9 ["script","k"] (gy (aK a K) OG (KR (aK a K) .F) m_s9):=by
 refine T.F_s9.okX2 TM (λ_ _ _ _=>aS) (λ_ _ _ _ _ _ _ _ b h=>?_)
 refine(_,(ae (cr (aJ qK (pv 1) (a7 (aZ K rfl) rfl T.z_len Gd.dN (aa (pv 0) ac)) (aV _)) (aj (bA (cC (bL K rfl) (pv 0) (pv 1) (λ_ _=>rfl)))) bG)
  (aj (bA ah))),?_)
 refine bR (Y:=aK a K) (M:=OG) (more:=UW) (body:=Ji) ?_ rfl rfl (λ_ _ _=>jP) h
 exact(aw (fj (a9 (cJ (fx (aA yZ (fx (fF 1)) (fx (eU iE (ux (fR 0)))))))) (bY (a9 (rS (k:= .X) (ux (eQ (rc (fR 0)) (fx (fF 1))))))) cR)
  (bY (a9 pI)))
def Uq(T:Txt K mg a base):FnOk P w K mg base (ip P w) 1 a.f_u9 a.d_u9 ["cell","size"] (gy (aK a K) OE (KO (aK a K) (.ct .fz)) m_u9):=by
 refine T.F_u9.okX2 CT (λ_ _ _ _=>aS) (λ_ _ _ _ _ _ _ _ c h=>?_);have b:=l8 c
 refine(_,(ae (aI (i:=2) CT.nd rfl (Or.inl rfl) j9)
  (ae (fy i9 rfl (dY rfl T.z_range (aa (ay bK (pv 0) ah) ac)) (b6 (i:=3) CT.nd rfl (Or.inl rfl)) (ae (aI (i:=0) CT.nd rfl (Or.inl rfl) (ay bK (ay fZ (ay sQ (pv 0) ah) ah) ah))
  (aj (kM b (pv 2) (iw (aa (ay bK (pv 0) (pv 1)) (aa (ay bK (ay cT (pv 0) ah) (pv 1)) ac))) (ay sP (ay bK (ay cT (pv 0) ah) ah) ah) rfl))))
  (aj (bA (pv 2))))),?_)
 refine bP (Y:=aK a K) (M:=OE) (more:=UU) (body:=Jg) ?_ rfl rfl h
 exact(aw (bW (i:=2) (a9 vL) rfl rfl)
  (aw (iF (a9 (uX (fx (aA ci (fx (fF 0)) (fx pI))))) (.inl rfl) (yM (i:=3) rfl rfl) (aw (bx (i:=0) (a9 (aA ci (fx (aA i6 (fx (aA yY (fx (fF 0)) (fx pI))) (fx pI))) (fx pI))) rfl rfl)
  (nI (kL (i:=2) rfl) (fx (lD (ag (aA ci (fx (fF 0)) (fx (fF 1))) (ag (aA ci (fx (aA eM (fx (fF 0)) (fx pI))) (fx (fF 1))) aH)))) (a9 (aA yX (fx (aA ci (fx (aA eM (fx (fF 0)) (fx pI))) (fx pI))) (fx pI))))))
  (bY (rJ (i:=2) rfl))))
def Kx:CompSc (au Mp) { kind:=.function,names:=[ (".0",.local),("word",.local),("str",.globalImplicit)],isGenerator:=false,isCoroutine:=false,more:=[]:PySem.Scope } "word" []:=by ac_rfl
def lS(T:Txt K mg a base):FnOk P w K mg base (ip P w) 1 a.f_v9 a.d_v9 ["words"] (gy (aK a K) OD (KR (aK a K) .F) m_v9):=by
 refine T.F_v9.okX2 TL (λ_ _ _ _=>aS) (λ_ _ _ _ _ _ _ _ b h=>?_);refine(_,(aj (bA (ay gH (fY (K:=K) rfl XW Yp Yq (fI (K:=K) rfl) ax (aa (gX rfl (cj K rfl (pv 0)) Kx (ix:=[]) rfl (λ_ _ _ _=>iL) (λ_ _ _ _=>(cG oj rfl T.z_str Gd.CC (aa (pv 0) ac)))) ac)) ax))),?_);refine bR (Y:=aK a K) (M:=OD) (more:=UT) (body:=Jf) ?_ rfl rfl (λ_ _ _=>jP) h;exact(bY (a9 (aA p8 (fx (jT (fx pS) (fx (oF (eT (ix:=[]) (je (rc (fF 0))) () lP (eU wP (fx (fF 0)))))))) (fx pS))))
def Kt:CompSc (au G0) (Gd.mW (Gd.vn (Gd.nth (fk G0) 0))) "far" ["house"]:=by ac_rfl
def Ul(T:Txt K mg a base):FnOk P w K mg base (ip P w) 1 a.f_z9 a.d_z9 ["cell","house","size"] (gy (aK a K) Oz (KO (aK a K) (.ct .fz)) m_z9):=by
 refine T.F_z9.okX2 qG (λ_ _ _ _=>aS) (λ_ _ _ _ _ _ _ _ b h=>?_)
 refine(_,(ae (Bu (i:=3) rfl qG.nd rfl (.inl rfl) (vI rfl T.z_range (aa ah (aa (pv 2) ac))) Kt (ix:=[1]) rfl (λ_ _ _ _=>wY (aJ oN (pv 0) (pv 1) (aV _))) (λ_ _ _ _=>(pv 0)))
  (ae (aI (i:=4) qG.nd rfl (Or.inl rfl) (aW (aa (pv 1) ac)))
  (ae (aI (i:=5) qG.nd rfl (Or.inl rfl) (ay bK (pv 0) ah))
  (ae (cr (aJ eV (ay bK (ay cT (pv 0) ah) ah) ah (aV _)) (aj (aI (i:=5) qG.nd rfl (Or.inl rfl) (pv 2))) bG)
  (ae (aI (i:=0) qG.nd rfl (Or.inl rfl) (ay cT (pv 0) ah))
  (ae (HX i9 (PW.pt (jQ (aJ vM (pv 5) ah (aV _)) (gU (aJ vM (a7 (aZ K rfl) rfl T.z_len Gd.dN (aa (pv 3) ac)) ah (aV _))))) (ae (bj (gm XT Yj Yk cH (pv 4) (aa (gm XT PySem.F.slot_list_pop PySem.F.type_list_pop IN (pv 3) (aa (ay bK (pv 0) (a7 (aZ K rfl) rfl T.z_len Gd.dN (aa (pv 3) ac))) ac)) ac)))
  (ae (aI (i:=0) qG.nd rfl (Or.inl rfl) (ay cT (pv 0) ah))
  (aj (aI (i:=5) qG.nd rfl (Or.inl rfl) (ay sP (pv 5) ah))))))
  (aj (bA (ay cZ (pv 4) (aW (aa ah ac))))))))))),?_)
 refine bP (Y:=aK a K) (M:=Oz) (more:=UP) (body:=Jb) ?_ rfl rfl h
 exact(aw (bW (i:=3) (a9 (eT (ix:=[1]) (Vv (fx pI) (fx (fF 2))) () (cJ (fx (aA wQ (fx (fF 0)) (fx (fF 1))))) (fF 0))) rfl rfl)
  (aw (bW (i:=4) (a9 (bp (ag (fF 1) aH))) rfl rfl)
  (aw (bx (i:=5) (a9 (aA ci (fx (fF 0)) (fx pI))) rfl rfl)
  (aw (fj (a9 (cJ (fx (aA i5 (fx (aA ci (fx (aA eM (fx (fF 0)) (fx pI))) (fx pI))) (fx pI))))) (bx (i:=5) (a9 (fF 2)) rfl rfl) cR)
  (aw (bx (i:=0) (a9 (aA eM (fx (fF 0)) (fx pI))) rfl rfl)
  (aw (Mn 100000 (a9 (jR (cJ (fx (aA Fp (fx (fF 5)) (fx pI)))) (cJ (fx (aA Fp (fx (eU iE (cx (fC 3)))) (fx pI)))))) (aw (bQ (FI (i:=4) rfl (M4 (kL (i:=3) rfl) (fx (aA ci (fx (fF 0)) (fx (eU iE (cx (fC 3)))))))))
  (aw (bx (i:=0) (a9 (aA eM (fx (fF 0)) (fx pI))) rfl rfl)
  (bx (i:=5) (a9 (aA yX (fx (fF 5)) (fx pI))) rfl rfl))))
  (bY (a9 (dW (fC 4) (oc (bp (ag pI aH))))))))))))
def QU(T:Txt K mg a base):FnOk P w K mg base (ip P w) 1 a.f_ba9 a.d_ba9 ["cell","size"] (gy (aK a K) I9 (KO (aK a K) (.ct .fz)) m_ba9):=by
 refine T.F_ba9.okX2 p6 (λ_ _ _ _=>aS) (λ_ _ _ _ _ _ _ _ b h=>?_);have RU:=Mi.RU b
 refine(_,(ae (aI (i:=2) p6.nd rfl (Or.inl rfl) (aW ac))
  (ae (cr (aJ qK (pv 1) ah (aV _)) (aj (bA (pv 2))) bG)
  (ae (fy i9 rfl (dY rfl T.z_range (aa (ay bK (pv 0) ah) ac)) (b6 (i:=3) p6.nd rfl (Or.inl rfl)) (ae (aI (i:=0) p6.nd rfl (Or.inl rfl) (ay bK (ay fZ (ay sQ (pv 0) ah) ah) ah))
  (ae (aI (i:=4) p6.nd rfl (Or.inl rfl) (ay bK (pv 0) (pv 1)))
  (ae (aI (i:=5) p6.nd rfl (Or.inl rfl) (ay bK (ay fZ (ay fZ (pv 4) ah) (ay bK (ay cT (pv 0) ah) (ay sP (pv 1) ah))) (pv 1)))
  (aj (cr (aJ (Bz K rfl RU) (iw (aa (pv 4) (aa (pv 5) ac))) (pv 2) (by with_unfolding_all rfl)) (aj (bj (gm PySem.F.plainAttrs_list PySem.F.slot_list_append PySem.F.type_list_append cH (pv 2) (aa (iw (aa (pv 4) (aa (pv 5) ac))) ac)))) bG))))))
  (aj (bA (pv 2)))))),?_)
 refine bP (Y:=aK a K) (M:=I9) (more:=Rn) (body:=BU) ?_ rfl rfl h
 exact(aw (bW (i:=2) (a9 (bp aH)) rfl rfl)
  (aw (fj (a9 (cJ (fx (aA yZ (fx (fF 1)) (fx pI))))) (bY (rJ (i:=2) rfl)) cR)
  (aw (iF (a9 (uX (fx (aA ci (fx (fF 0)) (fx pI))))) (.inl rfl) (yM (i:=3) rfl rfl) (aw (bx (i:=0) (a9 (aA ci (fx (aA i6 (fx (aA yY (fx (fF 0)) (fx pI))) (fx pI))) (fx pI))) rfl rfl)
  (aw (bx (i:=4) (a9 (aA ci (fx (fF 0)) (fx (fF 1)))) rfl rfl)
  (aw (bx (i:=5) (a9 (aA ci (fx (aA i6 (fx (aA i6 (fx (fF 4)) (fx pI))) (fx (aA ci (fx (aA eM (fx (fF 0)) (fx pI))) (fx (aA yX (fx (fF 1)) (fx pI))))))) (fx (fF 1)))) rfl rfl)
  (fj (a9 (cJ (fx (aA P0 (fx (lD (ag (fF 4) (ag (fF 5) aH)))) (cx (fC 2)))))) (bQ (fJ (kL (i:=2) rfl) (lD (ag (fF 4) (ag (fF 5) aH))))) cR)))))
  (bY (rJ (i:=2) rfl)))))
def QS(T:Txt K mg a base):FnOk P w K mg base (ip P w) 1 a.f_bc9 a.d_bc9 ["cell","size"] (gy (aK a K) IZ (KO (aK a K) (.ct .fz)) m_bc9):=by
 refine T.F_bc9.okX2 nH (λ_ _ _ _=>aS) (λ_ _ _ _ _ _ _ _ b h=>?_)
 refine(_,(ae (aI (i:=2) nH.nd rfl (Or.inl rfl) (ay bK (ay sQ (ay bK (ay sQ (ay fZ (pv 0) ah) ah) ah) ah) ah))
  (ae (aI (i:=3) nH.nd rfl (Or.inl rfl) (aW ac))
  (ae (aI (i:=4) nH.nd rfl (Or.inl rfl) ah)
  (ae (fy i9 rfl (dY rfl T.z_range (aa (pv 1) ac)) (b6 (i:=5) nH.nd rfl (Or.inl rfl)) (aj (fy i9 rfl (vI rfl T.z_range (aa (ay fZ (pv 5) ah) (aa (pv 1) ac))) (b6 (i:=6) nH.nd rfl (Or.inl rfl)) (ae (cr (aJ eV (ay bK (ay QG (pv 2) (ay bK (pv 4) ah)) ah) ah (aV _)) (aj (bj (gm XT Yj Yk cH (pv 3) (aa (iw (aa (pv 5) (aa (pv 6) ac))) ac)))) bG)
  (aj (aI (i:=4) nH.nd rfl (Or.inl rfl) (ay fZ (pv 4) ah)))))))
  (aj (bA (pv 3))))))),?_)
 refine bP (Y:=aK a K) (M:=IZ) (more:=Rl) (body:=BR) ?_ rfl rfl h
 exact(aw (bx (i:=2) (a9 (aA ci (fx (aA yY (fx (aA ci (fx (aA yY (fx (aA i6 (fx (fF 0)) (fx pI))) (fx pI))) (fx pI))) (fx pI))) (fx pI))) rfl rfl)
  (aw (bW (i:=3) (a9 (bp aH)) rfl rfl)
  (aw (bx (i:=4) (a9 pI) rfl rfl)
  (aw (iF (a9 (uX (fx (fF 1)))) (.inl rfl) (yM (i:=5) rfl rfl) (iF (a9 (Vv (fx (aA i6 (fx (fF 5)) (fx pI))) (fx (fF 1)))) (.inl rfl) (yM (i:=6) rfl rfl) (aw (fj (a9 (cJ (fx (aA i5 (fx (aA ci (fx (aA T7 (fx (fF 2)) (fx (aA ci (fx (fF 4)) (fx pI))))) (fx pI))) (fx pI))))) (bQ (fJ (kL (i:=3) rfl) (lD (ag (fF 5) (ag (fF 6) aH))))) cR)
  (bx (i:=4) (a9 (aA i6 (fx (fF 4)) (fx pI))) rfl rfl))))
  (bY (rJ (i:=3) rfl))))))
def Ga:CompSc (au C2) { kind:=.function,names:=[ (".0",.local),("sign",.local),("FIGURES",.globalImplicit)],isGenerator:=false,isCoroutine:=false,more:=[]:PySem.Scope } "sign" []:=by ac_rfl
def Iz(T:Txt K mg a base):FnOk P w K mg base (ip P w) 1 a.f_be9 a.d_be9 ["word"] (gy (aK a K) IX (KR (aK a K) .F) m_be9):=by
 let(d,g_FIGURES):=T.g_FIGURES;let(b,g_MOST_FIGURES):=T.g_MOST_FIGURES;refine T.F_be9.okX2 GZ (λ_ _ _ _=>aS) (λ_ _ _ _ _ _ _ _ e h=>?_)
 refine(_,(ae (aI (i:=1) GZ.nd rfl (Or.inl rfl) (Ig (wZ (fY (K:=K) rfl XW PySem.F.slot_str_startswith PySem.F.type_str_startswith FH (pv 0) (aa ax ac))) (dU wM (pv 0) (fS ah) fT) (pv 0)))
  (ae (cr (PW.pt (Dp (aJ qK (a7 pN rfl T.z_len Gd.dN (aa (pv 1) ac)) ah (aV _)) (wX (aJ vM (a7 pN rfl T.z_len Gd.dN (aa (pv 1) ac)) (gW rfl g_MOST_FIGURES (v:=.int 60) (_,rfl)) (aV _))))) (aj (cF dm rfl rfl T.mgC_BadNote T.ek_BadNote (aa ax ac))) bG)
  (ae (cr (wZ (a7 (Gh K rfl rfl) rfl T.z_any Gd.SU (aa (gX rfl (Qw (pv 1)) Ga (ix:=[]) rfl (λ_ _ _ _=>iL) (λ_ _ _ _=>(w8 xh (pv 0) (gW rfl g_FIGURES (v:=.str ("0123456789" : Str)) (_,rfl)) rfl))) ac))) (aj (cF dm rfl rfl T.mgC_BadNote T.ek_BadNote (aa ax ac))) bG)
  (ae (cr (PW.pt (jQ (aJ eV (cC RQ (pv 1) ah (λ_ _=>rfl)) ax (aV _)) (gU (aJ oN (pv 0) ax (aV _))))) (aj (cF dm rfl rfl T.mgC_BadNote T.ek_BadNote (aa ax ac))) bG)
  (aj (bA (cG Gg rfl T.z_int Gd.SS (aa (pv 0) ac)))))))),?_)
 refine bR (Y:=aK a K) (M:=IX) (more:=Rj) (body:=BP) ?_ rfl rfl (λ_ _ _=>jP) h
 exact(aw (bx (i:=1) (a9 (Uh (Fy (fx (Io (fx (fF 0)) (fx pS)))) (ML (fx (fF 0)) (fx pI)) (fF 0))) rfl rfl)
  (aw (fj (a9 (Dt (cJ (fx (aA yZ (fx (eU G3 (fx (fF 1)))) (fx pI)))) (cJ (fx (aA Fp (fx (eU G3 (fx (fF 1)))) (fx pI)))))) (fi (c:=17)) cR)
  (aw (fj (a9 (Fy (fx (eU Ua (fx (oF (eT (ix:=[]) (Vu (fx (fF 1))) () lP (aA PZ (fx (fF 0)) (fx pS))))))))) (fi (c:=17)) cR)
  (aw (fj (a9 (jR (cJ (fx (aA i5 (fx (aA T9 (fx (fF 1)) (fx pI))) (fx pS)))) (cJ (fx (aA wQ (fx (fF 0)) (fx pS)))))) (fi (c:=17)) cR)
  (bY (a9 (eU P9 (fx (fF 0)))))))))
def QQ(T:Txt K mg a base):FnOk P w K mg base (ip P w) 1 a.f_bg9 a.d_bg9 ["houses","count"] (gy (aK a K) IV (KR (aK a K) .F) m_bg9):=by
 let(b,g_SEAT):=T.g_SEAT;refine T.F_bg9.okX2 PF (λ_ _ _ _=>aS) (λ_ _ _ _ _ _ _ _ d h=>?_);refine(_,(aj (cr (PW.pt (Dp (aJ qK (vJ (CA K rfl rfl) rfl T.z_min Gd.SQ (aa (pv 0) ac) (Dv (gW rfl g_SEAT (v:=.int 0) (_,rfl)) Ic)) ah (aV _)) (wX (aJ Ui (vJ (CB K rfl rfl) rfl T.z_max Gd.SR (aa (pv 0) ac) (Dv (gW rfl g_SEAT (v:=.int 0) (_,rfl)) Ic)) (pv 1) (aV _))))) (aj (cF dm rfl rfl T.mgC_NoHouse T.ek_NoHouse (aa ax ac))) bG)),?_);refine bR (Y:=aK a K) (M:=IV) (more:=Rh) (body:=BN) ?_ rfl rfl (λ_ _ _=>jP) h;exact(fj (a9 (Dt (cJ (fx (aA yZ (fx (QA (ux (fR 0)) (fx pI))) (fx pI)))) (cJ (fx (aA W1 (fx (QB (ux (fR 0)) (fx pI))) (fx (fF 1))))))) (fi (c:=11)) cR)
def F9:CompSc (au y7) (Gd.mW (Gd.vn (Gd.nth (fk y7) 1))) "line" []:=by ac_rfl
def QP(T:Txt K mg a base):FnOk P w K mg base (ip P w) 1 a.f_bh9 a.d_bh9 ["text"] (gy (aK a K) IU (KO (aK a K) (.ct .fz)) m_bh9):=by
 refine T.F_bh9.okX2 PD (λ_ _ _ _=>aS) (λ_ _ _ _ _ _ _ _ b h=>?_)
 refine(_,(ae (cr (HV (wZ (fY (K:=K) rfl XW PySem.F.slot_str_endswith PySem.F.type_str_endswith M0 (pv 0) (aa ax ac)))) (aj (cF dm rfl rfl T.mgC_BadNote T.ek_BadNote (aa ax ac))) bG)
  (aj (bA (gX rfl (cj K rfl (fY (K:=K) rfl XW ZK ZL sY (dU wM (pv 0) fT (fS (Dx wH ah))) (aa ax ac))) F9 (ix:=[]) rfl (λ_ _ _ _=>iL) (λ_ _ _ _=>(fY (K:=K) rfl XW ZK ZL sY (pv 0) (aa ax ac))))))),?_)
 refine bP (Y:=aK a K) (M:=IU) (more:=Rg) (body:=BM) ?_ rfl rfl h
 exact(aw (fj (a9 (Du (Fy (fx (QF (fx (fF 0)) (fx pS)))))) (fi (c:=17)) cR)
  (bY (a9 (eT (ix:=[]) (je (oc (xc (fx (xg (fx (fF 0)) (fx (Il CU (fx pI))))) (fx pS)))) () lP (oF (xc (fx (fF 0)) (fx pS)))))))
def vN(T:Txt K mg a base):FnOk P w K mg base (ip P w) 2 a.f_g9 a.d_g9 ["self","houses"] (gy (aK a K) OT (KR (aK a K) .F) zE):=by
 refine T.F_g9.okX2 TZ (λ_ _ _ _=>aS) (λ_ _ _ _ _ _ _ _ b h=>?_);refine(_,(aj (bj (aP (QQ T) b.mm rfl T.m_bg9 T.F_bg9.kp T.b_bg9 .nil bc (aa (pv 1) (aa (d9 K rfl (pv 0) rfl) ac))))),?_);refine bR (Y:=aK a K) (M:=OT) (more:=Vc) (body:=Ju) ?_ rfl rfl (λ_ _ _=>jP) h;exact(bQ (a9 (b9 (av (aU (fR 1)) (av (aF (rS (k:= .X) (ux (qJ (c:=0) T.cl_Guild T.n_house_count (rc (fR 0)))))) aR)) rfl)))
def Ur(T:Txt K mg a base):FnOk P w K mg base (ip P w) 2 a.f_t9 a.d_t9 ["cell","size"] (gy (aK a K) OF (KO (aK a K) (.ct .fz)) m_t9):=by
 refine T.F_t9.okX2 yV (λ_ _ _ _=>aS) (λ_ _ _ _ _ _ _ _ b h=>?_);have c:=l8 b
 refine(_,(ae (aI (i:=2) yV.nd rfl (Or.inl rfl) j9)
  (ae (cr (aJ qK (pv 1) ah (aV _)) (aj (bA (pv 2))) bG)
  (ae (fy i9 rfl (dY rfl T.z_range (aa (ay bK (pv 0) ah) ac)) (b6 (i:=3) yV.nd rfl (Or.inl rfl)) (ae (aI (i:=0) yV.nd rfl (Or.inl rfl) (ay bK (ay fZ (ay sQ (pv 0) ah) ah) ah))
  (ae (aI (i:=4) yV.nd rfl (Or.inl rfl) (aP (Ul T) b.mm rfl T.m_z9 T.F_z9.kp T.b_z9 .nil bc (aa (ay cT (pv 0) ah) (aa (ay fZ ah (ay bK (pv 0) (ay sP (pv 1) ah))) (aa (pv 1) ac)))))
  (aj (kM c (pv 2) (cG (mJ K rfl) rfl T.z_tuple Gd.AI (aa (pv 4) ac)) (ay sP (ay bK (ay cT (pv 0) ah) ah) ah) rfl)))))
  (aj (bA (pv 2)))))),?_)
 refine bP (Y:=aK a K) (M:=OF) (more:=UV) (body:=Jh) ?_ rfl rfl h
 exact(aw (bW (i:=2) (a9 vL) rfl rfl)
  (aw (fj (a9 (cJ (fx (aA yZ (fx (fF 1)) (fx pI))))) (bY (rJ (i:=2) rfl)) cR)
  (aw (iF (a9 (uX (fx (aA ci (fx (fF 0)) (fx pI))))) (.inl rfl) (yM (i:=3) rfl rfl) (aw (bx (i:=0) (a9 (aA ci (fx (aA i6 (fx (aA yY (fx (fF 0)) (fx pI))) (fx pI))) (fx pI))) rfl rfl)
  (aw (bx (i:=4) (a9 (oF (dG (av (aF (aA eM (fx (fF 0)) (fx pI))) (av (aF (aA i6 (fx pI) (fx (aA ci (fx (fF 0)) (fx (aA yX (fx (fF 1)) (fx pI))))))) (av (aF (fF 1)) aR))) rfl))) rfl rfl)
  (nI (kL (i:=2) rfl) (fx (Dy (rc (fF 4)))) (a9 (aA yX (fx (aA ci (fx (aA eM (fx (fF 0)) (fx pI))) (fx pI))) (fx pI)))))))
  (bY (rJ (i:=2) rfl)))))
def Kw:CompSc (au Bl) (Gd.mW (Gd.vn (Gd.nth (fk Bl) 0))) "a" []:=by ac_rfl
def Kv:CompSc (au Bl) { kind:=.function,names:=[ (".0",.local),("a",.local),("b",.local),("_law_line",.globalImplicit)],isGenerator:=false,isCoroutine:=false,more:=[]:PySem.Scope } "a" []:=by ac_rfl
def Ku:CompSc (au Bl) { kind:=.function,names:=[ (".0",.local),("key",.local),("_law_line",.globalImplicit),("list",.globalImplicit),("dear",.free)],isGenerator:=false,isCoroutine:=false,more:=[]:PySem.Scope } "key" ["dear"]:=by ac_rfl
def Up(T:Txt K mg a base):FnOk P w K mg base (ip P w) 2 a.f_w9 a.d_w9 ["ways","fond","dear","shy"] (gy (aK a K) OC (KO (aK a K) (.ct .fz)) m_w9):=by
 refine T.F_w9.okX2 CS (λ_ _ _ _=>aS) (λ_ _ _ _ _ _ _ _ b h=>?_);have c:=l8 b
 refine(_,(ae (zj (K:=K) (i:=4) rfl rfl CS.nd rfl (.inl rfl) (cj K rfl (a7 (jH (K:=K) rfl rfl) rfl T.z_sorted Gd.ku (aa (pv 0) ac))) Kw (by decide +kernel) () (λ_ _ _ _=>(aP (lS T) b.mm rfl T.m_v9 T.F_v9.kp T.b_v9 .nil Ik (aa (aW (aa ax (aa (pv 0) (aa (pv 1) ac)))) ac))))
  (ae (fy i9 rfl (cj K rfl (a7 (jH (K:=K) rfl rfl) rfl T.z_sorted Gd.ku (aa (cG (ls rfl) rfl T.z_list Gd.ng (aa (pv 1) ac)) ac))) (b6 (i:=5) CS.nd rfl (Or.inl rfl)) (aj (cr (aJ oN (oM c (pv 1) (pv 5) (λ_ _=>rfl)) ah (aV _)) (aj (bj (gm XT Yj Yk cH (pv 4) (aa (aP (lS T) b.mm rfl T.m_v9 T.F_v9.kp T.b_v9 .nil bc (aa (aW (aa ax (aa (cC (jF K rfl) (pv 5) ah (λ_ _=>rfl)) (aa (cC (jF K rfl) (pv 5) ah (λ_ _=>rfl)) (aa (oM c (pv 1) (pv 5) (λ_ _=>rfl)) ac))))) ac)) ac)))) bG)))
  (ae (aI (i:=4) CS.nd rfl (Or.inl rfl) (ay cZ (pv 4) (Ii (K:=K) rfl rfl (cj K rfl (a7 (jH (K:=K) rfl rfl) rfl T.z_sorted Gd.ku (aa (pv 3) ac))) Kv (by decide +kernel) () (λ_ _ _ _=>(aP (lS T) b.mm rfl T.m_v9 T.F_v9.kp T.b_v9 .nil Ik (aa (aW (aa ax (aa (pv 0) (aa (pv 1) ac)))) ac))))))
  (aj (bA (ay cZ (pv 4) (gX rfl (cj K rfl (a7 (jH (K:=K) rfl rfl) rfl T.z_sorted Gd.ku (aa (cG (ls rfl) rfl T.z_list Gd.ng (aa (pv 2) ac)) ac))) Ku (ix:=[2]) rfl (λ_ _ _ _=>iL) (λ_ _ _ _=>(aP (lS T) b.mm rfl T.m_v9 T.F_v9.kp T.b_v9 .nil Ik (aa (ay cZ (aW (aa ax (aa (oM c (pv 1) (pv 0) (λ_ _=>rfl)) ac))) (cG (nD K rfl) rfl T.z_list Gd.ng (aa (pv 0) ac))) ac)))))))))),?_)
 refine bP (Y:=aK a K) (M:=OC) (more:=US) (body:=Je) ?_ rfl rfl h
 exact(aw (bW (i:=4) (a9 (zn (je (rc (zm (rc (fR 0))))) (b9 (av (aF (oF (bp (ag pS (ag (rS (k:= .X) (ux (fR 0))) (ag (rS (k:= .X) (ux (fR 1))) aH)))))) aR) rfl))) rfl rfl)
  (aw (iF (a9 (m7 (oF (Dz (oc (rR (rc (fR 1)))))))) (.inl rfl) (yM (i:=5) rfl rfl) (fj (a9 (cJ (fx (aA wQ (ux (sO (rc (fR 1)) (fx (fF 5)))) (fx pI))))) (bQ (fJ (kL (i:=4) rfl) (b9 (av (aF (oF (bp (ag pS (ag (qI (rc (fF 5)) (fx pI)) (ag (qI (rc (fF 5)) (fx pI)) (ag (rS (k:= .X) (ux (sO (rc (fR 1)) (fx (fF 5))))) aH))))))) aR) rfl))) cR))
  (aw (bW (i:=4) (a9 (dW (fC 4) (oc (zn (je (rc (zm (rc (fR 3))))) (b9 (av (aF (oF (bp (ag pS (ag (rS (k:= .X) (ux (fR 0))) (ag (rS (k:= .X) (ux (fR 1))) aH)))))) aR) rfl))))) rfl rfl)
  (bY (a9 (dW (fC 4) (oc (eT (ix:=[2]) (je (oc (Dz (oc (rR (rc (fR 2))))))) () lP (b9 (av (aF (oF (dW (oc (bp (ag pS (ag (rS (k:= .X) (ux (sO (rc (fR 1)) (fx (fF 0))))) aH)))) (oc (Ir (rc (fF 0))))))) aR) rfl)))))))))
def Uo(T:Txt K mg a base):FnOk P w K mg base (ip P w) 2 a.f_x9 a.d_x9 ["lines","fond","cell"] (gy (aK a K) OB (KO (aK a K) (.ct .fz)) m_x9):=by
 refine T.F_x9.okX2 oI (λ_ _ _ _=>aS) (λ_ _ _ _ _ _ _ _ b h=>?_);have c:=l8 b
 refine(_,(ae (aI (i:=3) oI.nd rfl (Or.inl rfl) (aW ac))
  (ae (fy i9 rfl (cj K rfl (cG (ls rfl) rfl T.z_list Gd.ng (aa (pv 1) ac))) (b6 (i:=4) oI.nd rfl (Or.inl rfl)) (aj (bj (gm XT Yj Yk cH (pv 3) (aa (aP (lS T) b.mm rfl T.m_v9 T.F_v9.kp T.b_v9 .nil bc (aa (aW (aa ax (aa (cC (jF K rfl) (pv 4) ah (λ_ _=>rfl)) (aa (cC (jF K rfl) (pv 4) ah (λ_ _=>rfl)) (aa (ay fZ ah (ay bK (pv 2) ah)) ac))))) ac)) ac)))))
  (ae (aI (i:=5) oI.nd rfl (Or.inl rfl) (ay bK (pv 2) (ay fZ (a7 (aZ K rfl) rfl T.z_len Gd.dN (aa (pv 0) ac)) ah)))
  (ae (aI (i:=0) oI.nd rfl (Or.inl rfl) (ay cZ (dU (g8 K rfl) (pv 0) (fS (pv 5)) fT) (dU (g8 K rfl) (pv 0) fT (fS (pv 5)))))
  (ae (fy i9 rfl (cj K rfl (cG (ls rfl) rfl T.z_list Gd.ng (aa (pv 1) ac))) (b6 (i:=4) oI.nd rfl (Or.inl rfl)) (aj (cr (aJ eV (oM c (pv 1) (pv 4) (λ_ _=>rfl)) ah (aV _)) (aj (bj (gm XT Yj Yk cH (pv 3) (aa (aP (lS T) b.mm rfl T.m_v9 T.F_v9.kp T.b_v9 .nil bc (aa (aW (aa ax (aa (cC (jF K rfl) (pv 4) ah (λ_ _=>rfl)) (aa (cC (jF K rfl) (pv 4) ah (λ_ _=>rfl)) (aa ah ac))))) ac)) ac)))) bG)))
  (ae (fy i9 rfl (cj K rfl (pv 0)) (b6 (i:=6) oI.nd rfl (Or.inl rfl)) (ae (aI (i:=7) oI.nd rfl (Or.inl rfl) (fY (K:=K) rfl XW ZK ZL sY (dU wM (pv 6) fT (fS (Dx wH ah))) (aa ax ac)))
  (ae (cr (PW.pt (jQ (aJ eV (cC (bL K rfl) (pv 7) ah (λ_ _=>rfl)) ax (aV _)) (gU (aJ eV (ay bK (ay cT (pv 2) ah) ah) ah (aV _))))) (aj (aI (i:=6) oI.nd rfl (Or.inl rfl) (aP (lS T) b.mm rfl T.m_v9 T.F_v9.kp T.b_v9 .nil bc (aa (aW (aa ax (aa (cC (bL K rfl) (pv 7) ah (λ_ _=>rfl)) (aa (cC (bL K rfl) (pv 7) ah (λ_ _=>rfl)) ac)))) ac)))) (aj (cr (PW.pt (jQ (aJ eV (cC (bL K rfl) (pv 7) ah (λ_ _=>rfl)) ax (aV _)) (gU (aJ eV (ay bK (ay cT (pv 2) ah) ah) ah (aV _))))) (aj (bj (gm XT Yj Yk cH (pv 3) (aa (aP (lS T) b.mm rfl T.m_v9 T.F_v9.kp T.b_v9 .nil bc (aa (ay cZ (aW (aa ax (aa (ay fZ ah (ay bK (pv 2) ah)) ac))) (dU (g8 K rfl) (pv 7) (fS ah) fT)) ac)) ac)))) bG)))
  (ae (cr (PW.pt (jQ (aJ oN (cC (bL K rfl) (pv 7) ah (λ_ _=>rfl)) ax (aV _)) (gU (aJ eV (ay bK (ay cT (pv 2) ah) ah) ah (aV _))))) (aj (bj (gm XT Yj Yk cH (pv 3) (aa (pv 6) ac)))) bG)
  (aj (bj (gm XT Yj Yk cH (pv 3) (aa (pv 6) ac))))))))
  (aj (bA (pv 3))))))))),?_)
 refine bP (Y:=aK a K) (M:=OB) (more:=UR) (body:=Jd) ?_ rfl rfl h
 exact(aw (bW (i:=3) (a9 (bp aH)) rfl rfl)
  (aw (iF (a9 (m7 (oF (rR (rc (fR 1)))))) (.inl rfl) (yM (i:=4) rfl rfl) (bQ (fJ (kL (i:=3) rfl) (b9 (av (aF (oF (bp (ag pS (ag (qI (rc (fF 4)) (fx pI)) (ag (qI (rc (fF 4)) (fx pI)) (ag (aA i6 (fx pI) (fx (aA ci (fx (fF 2)) (fx pI)))) aH))))))) aR) rfl))))
  (aw (bx (i:=5) (a9 (aA ci (fx (fF 2)) (fx (aA i6 (fx (eU iE (fx (fF 0)))) (fx pI))))) rfl rfl)
  (aw (bx (i:=0) (a9 (oF (dW (oc (qd (rc (fF 0)) (fx (fF 5)))) (oc (Im (rc (fF 0)) (fx (fF 5))))))) rfl rfl)
  (aw (iF (a9 (m7 (oF (rR (rc (fR 1)))))) (.inl rfl) (yM (i:=4) rfl rfl) (fj (a9 (cJ (fx (aA i5 (ux (sO (rc (fR 1)) (fx (fF 4)))) (fx pI))))) (bQ (fJ (kL (i:=3) rfl) (b9 (av (aF (oF (bp (ag pS (ag (qI (rc (fF 4)) (fx pI)) (ag (qI (rc (fF 4)) (fx pI)) (ag pI aH))))))) aR) rfl))) cR))
  (aw (iF (a9 (m7 (fF 0))) (.inl rfl) (yM (i:=6) rfl rfl) (aw (bx (i:=7) (a9 (oF (xc (fx (xg (fx (fF 6)) (fx (Il CU (fx pI))))) (fx pS)))) rfl rfl)
  (aw (fj (a9 (jR (cJ (fx (aA i5 (fx (eQ (rc (fF 7)) (fx pI))) (fx pS)))) (cJ (fx (aA i5 (fx (aA ci (fx (aA eM (fx (fF 2)) (fx pI))) (fx pI))) (fx pI)))))) (bx (i:=6) (a9 (b9 (av (aF (oF (bp (ag pS (ag (eQ (rc (fF 7)) (fx pI)) (ag (eQ (rc (fF 7)) (fx pI)) aH)))))) aR) rfl)) rfl rfl) (fj (a9 (jR (cJ (fx (aA i5 (fx (eQ (rc (fF 7)) (fx pI))) (fx pS)))) (cJ (fx (aA i5 (fx (aA ci (fx (aA eM (fx (fF 2)) (fx pI))) (fx pI))) (fx pI)))))) (bQ (fJ (kL (i:=3) rfl) (b9 (av (aF (oF (dW (oc (bp (ag pS (ag (aA i6 (fx pI) (fx (aA ci (fx (fF 2)) (fx pI)))) aH)))) (oc (qd (rc (fF 7)) (fx pI)))))) aR) rfl))) cR))
  (aw (fj (a9 (jR (cJ (fx (aA wQ (fx (eQ (rc (fF 7)) (fx pI))) (fx pS)))) (cJ (fx (aA i5 (fx (aA ci (fx (aA eM (fx (fF 2)) (fx pI))) (fx pI))) (fx pI)))))) (bQ (fJ (kL (i:=3) rfl) (fF 6))) cR)
  (bQ (fJ (kL (i:=3) rfl) (fF 6)))))))
  (bY (rJ (i:=3) rfl))))))))
def QT(T:Txt K mg a base):FnOk P w K mg base (ip P w) 2 a.f_bb9 a.d_bb9 ["size","lines","ways","cell"] (gy (aK a K) I8 (KR (aK a K) .F) m_bb9):=by
 refine T.F_bb9.okX2 pZ (λ_ _ _ _=>aS) (λ_ _ _ _ _ _ _ _ b h=>?_)
 refine(_,(ae (aI (i:=4) pZ.nd rfl (Or.inl rfl) (aP (lS T) b.mm rfl T.m_v9 T.F_v9.kp T.b_v9 .nil bc (aa (aW (aa ax (aa (pv 0) ac))) ac)))
  (ae (aI (i:=5) pZ.nd rfl (Or.inl rfl) (ay bK (ay cT (pv 3) ah) (ay fZ (a7 (aZ K rfl) rfl T.z_len Gd.dN (aa (pv 1) ac)) ah)))
  (ae (aI (i:=6) pZ.nd rfl (Or.inl rfl) (ay bK (pv 3) ah))
  (ae (cr (aJ eV (pv 6) ah (aV _)) (aj (bA (fY (K:=K) rfl XW Yp Yq (fI (K:=K) rfl) ax (aa (ay cZ (aW (aa (ay gH (aP (Ut T) b.mm rfl T.m_q9 T.F_q9.kp T.b_q9 .nil bc (aa (ay cT (pv 3) ah) ac)) ax) ac)) (pv 1)) ac)))) bG)
  (ae (cr (aJ eV (pv 6) ah (aV _)) (aj (bA (dU wM (fY (K:=K) rfl XW Yp Yq (fI (K:=K) rfl) ax (aa (ay cZ (aW (aa (pv 4) ac)) (pv 1)) ac)) fT (fS (Dx wH ah))))) bG)
  (ae (cr (PW.pt (jQ (aJ eV (pv 6) ah (aV _)) (gU (aJ vM (a7 (aZ K rfl) rfl T.z_len Gd.dN (aa (pv 2) ac)) ah (aV _))))) (ae (aI (i:=7) pZ.nd rfl (Or.inl rfl) (cC (bL K rfl) (pv 2) (ay bK (ay cT (pv 3) ah) (a7 (aZ K rfl) rfl T.z_len Gd.dN (aa (pv 2) ac))) (λ_ _=>rfl)))
  (aj (bA (fY (K:=K) rfl XW Yp Yq (fI (K:=K) rfl) ax (aa (ay cZ (ay cZ (aW (aa (pv 4) ac)) (pv 1)) (aW (aa (aP (lS T) b.mm rfl T.m_v9 T.F_v9.kp T.b_v9 .nil bc (aa (aW (aa ax (aa (cC (jF K rfl) (pv 7) ah (λ_ _=>rfl)) (aa (cC (jF K rfl) (pv 7) ah (λ_ _=>rfl)) ac)))) ac)) ac))) ac))))) bG)
  (ae (cr (aJ eV (pv 6) ah (aV _)) (aj (bA (cC (bL K rfl) (aW (aa ax (aa ax (aa ax (aa (fY (K:=K) rfl XW Yp Yq (fI (K:=K) rfl) ax (aa (pv 1) ac)) ac))))) (ay bK (ay cT (pv 3) ah) ah) (λ_ _=>rfl)))) bG)
  (ae (aI (i:=8) pZ.nd rfl (Or.inl rfl) (ay gH (aP (Us T) b.mm rfl T.m_r9 T.F_r9.kp T.b_r9 .nil bc (aa (ay cT (ay cT (pv 3) ah) ah) ac)) ax))
  (aj (bA (fY (K:=K) rfl XW Yp Yq (fI (K:=K) rfl) ax (aa (ay cZ (ay cZ (ay cZ (aW (aa (pv 4) ac)) (dU (g8 K rfl) (pv 1) fT (fS (pv 5)))) (aW (aa (pv 8) ac))) (dU (g8 K rfl) (pv 1) (fS (pv 5)) fT)) ac)))))))))))),?_)
 refine bR (Y:=aK a K) (M:=I8) (more:=Rm) (body:=BS) ?_ rfl rfl (λ_ _ _=>jP) h
 exact(aw (bx (i:=4) (a9 (b9 (av (aF (oF (bp (ag pS (ag (fF 0) aH))))) aR) rfl)) rfl rfl)
  (aw (bx (i:=5) (a9 (aA ci (fx (aA eM (fx (fF 3)) (fx pI))) (fx (aA i6 (fx (eU iE (fx (fF 1)))) (fx pI))))) rfl rfl)
  (aw (bx (i:=6) (a9 (aA ci (fx (fF 3)) (fx pI))) rfl rfl)
  (aw (fj (a9 (cJ (fx (aA i5 (fx (fF 6)) (fx pI))))) (bY (a9 (jT (fx pS) (fx (oF (dW (oc (bp (ag (aA p8 (fx (b9 (av (aF (aA eM (fx (fF 3)) (fx pI))) aR) rfl)) (fx pS)) aH))) (rc (fF 1)))))))) cR)
  (aw (fj (a9 (cJ (fx (aA i5 (fx (fF 6)) (fx pI))))) (bY (a9 (xg (fx (jT (fx pS) (fx (oF (dW (oc (bp (ag (fF 4) aH))) (rc (fF 1))))))) (fx (Il CU (fx pI)))))) cR)
  (aw (fj (a9 (jR (cJ (fx (aA i5 (fx (fF 6)) (fx pI)))) (cJ (fx (aA Fp (fx (eU iE (ux (fR 2)))) (fx pI)))))) (aw (PQ (i:=7) (a9 (eQ (rc (fR 2)) (fx (aA ci (fx (aA eM (fx (fF 3)) (fx pI))) (fx (eU iE (ux (fR 2)))))))) rfl rfl)
  (bY (a9 (jT (fx pS) (fx (oF (dW (oc (dW (oc (bp (ag (fF 4) aH))) (rc (fF 1)))) (oc (bp (ag (b9 (av (aF (oF (bp (ag pS (ag (rS (k:= .X) (ux (qI (rc (fR 7)) (fx pI)))) (ag (rS (k:= .X) (ux (qI (rc (fR 7)) (fx pI)))) aH)))))) aR) rfl) aH)))))))))) cR)
  (aw (fj (a9 (cJ (fx (aA i5 (fx (fF 6)) (fx pI))))) (bY (a9 (eQ (oc (bp (ag pS (ag pS (ag pS (ag (jT (fx pS) (fx (fF 1))) aH)))))) (fx (aA ci (fx (aA eM (fx (fF 3)) (fx pI))) (fx pI)))))) cR)
  (aw (bx (i:=8) (a9 (aA p8 (fx (b9 (av (aF (aA eM (fx (aA eM (fx (fF 3)) (fx pI))) (fx pI))) aR) rfl)) (fx pS))) rfl rfl)
  (bY (a9 (jT (fx pS) (fx (oF (dW (oc (dW (oc (dW (oc (bp (ag (fF 4) aH))) (oc (Im (rc (fF 1)) (fx (fF 5)))))) (oc (bp (ag (fF 8) aH))))) (oc (qd (rc (fF 1)) (fx (fF 5))))))))))))))))))
def F4:CompSc (au CV) { kind:=.function,names:=[ (".0",.local),("house",.local),("str",.globalImplicit)],isGenerator:=false,isCoroutine:=false,more:=[]:PySem.Scope } "house" []:=by ac_rfl
def QK(T:Txt K mg a base):FnOk P w K mg base (ip P w) 2 a.f_bm9 a.d_bm9 ["guild"] (gy (aK a K) IP (KO (aK a K) (.ct .fz)) m_bm9):=by
 refine T.F_bm9.okX2 sy (λ_ _ _ _=>aS) (λ_ _ _ _ _ _ _ _ b h=>?_)
 refine(_,(ae (aI (i:=1) sy.nd rfl (Or.inl rfl) (aW ac))
  (ae (fy i9 rfl (cj K rfl (j8 (pv 0) T.cl_Guild T.me_n9 (Uw T) b.mm T.b_n9 .nil bc)) (Ie rfl (oK (b6 (i:=2) sy.nd rfl (Or.inl rfl)) (oK (b6 (i:=3) sy.nd rfl (Or.inl rfl)) Dw))) (ae (aI (i:=4) sy.nd rfl (Or.inl rfl) (fY (K:=K) rfl XW Yp Yq (fI (K:=K) rfl) ax (aa (gX rfl (cj K rfl (pv 2)) F4 (ix:=[]) rfl (λ_ _ _ _=>iL) (λ_ _ _ _=>(cG oj rfl T.z_str Gd.CC (aa (pv 0) ac)))) ac)))
  (aj (bj (gm XT Yj Yk cH (pv 1) (aa (zk (cu ax (cu (nj (pv 3)) (cu ax (cu (nj (pv 4)) tL))))) ac))))))
  (aj (bA (pv 1))))),?_)
 refine bP (Y:=aK a K) (M:=IP) (more:=Q9) (body:=BH) ?_ rfl rfl h
 exact(aw (bW (i:=1) (a9 (bp aH)) rfl rfl)
  (aw (iF (a9 (m7 (oF (oJ (c:=0) (aU (fR 0)) aR rfl)))) (.inl rfl) (tg2 (yM (i:=2) rfl rfl) (yM (i:=3) rfl rfl)) (aw (bx (i:=4) (a9 (jT (fx pS) (fx (oF (eT (ix:=[]) (je (rc (fF 2))) () lP (eU wP (fx (fF 0)))))))) rfl rfl)
  (bQ (fJ (kL (i:=1) rfl) (Iu (LN (uV (fx (fF 3)) (LN (uV (fx (fF 4)) zM)))))))))
  (bY (rJ (i:=1) rfl))))
def UD(T:Txt K mg a base):FnOk P w K mg base (ip P w) 3 a.f_d9 a.d_d9 ["self","a","b","rank"] (gy (aK a K) OW (KR (aK a K) .F) Rz):=by
 refine T.F_d9.okX2 T3 (λ_ _ _ _=>aS) (λ_ _ _ _ _ _ _ _ b h=>?_);have d:=l8 b
 refine(_,(ae (bj (cM (pv 0) T.cl_Guild T.me_g9 (vN T) b.mm T.b_g9 .nil bc (aa (aW (aa (pv 1) (aa (pv 2) ac))) ac)))
  (aj (kM d (d9 K rfl (pv 0) rfl) (iw (aa (pv 1) (aa (pv 2) ac))) (pv 3) rfl))),?_)
 refine bR (Y:=aK a K) (M:=OW) (more:=Vf) (body:=Jx) ?_ rfl rfl (λ_ _ _=>jP) h
 exact(aw (bQ (a9 (fX (c:=0) (aX (fO 0)) (av (aF (oF (bp (ag (fF 1) (ag (fF 2) aH))))) aR) rfl)))
  (nI (HU (c:=0) (i:=0) T.cl_Guild T.n_likings rfl rfl) (fx (lD (ag (fF 1) (ag (fF 2) aH)))) (a9 (fF 3))))
def UC(T:Txt K mg a base):FnOk P w K mg base (ip P w) 3 a.f_e9 a.d_e9 ["self","a","b"] (gy (aK a K) OV (KR (aK a K) .F) Ry):=by
 refine T.F_e9.okX2 T2 (λ_ _ _ _=>aS) (λ_ _ _ _ _ _ _ _ b h=>?_);have d:=l8 b
 refine(_,(ae (bj (cM (pv 0) T.cl_Guild T.me_g9 (vN T) b.mm T.b_g9 .nil bc (aa (aW (aa (pv 1) (aa (pv 2) ac))) ac)))
  (aj (bA (Ih d (d9 K rfl (pv 0) rfl) (iw (aa (pv 1) (aa (pv 2) ac))) ah (rfl,rfl,rfl,rfl))))),?_)
 refine bR (Y:=aK a K) (M:=OV) (more:=Ve) (body:=Jw) ?_ rfl rfl (λ_ _ _=>jP) h
 exact(aw (bQ (a9 (fX (c:=0) (aU (fR 0)) (av (aF (oF (bp (ag (fF 1) (ag (fF 2) aH))))) aR) rfl)))
  (bY (a9 (rS (k:= .X) (ux (MK (rc (qJ (c:=0) T.cl_Guild T.n_likings (rc (fR 0)))) (fx (lD (ag (fF 1) (ag (fF 2) aH)))) (fu pI)))))))
def UB(T:Txt K mg a base):FnOk P w K mg base (ip P w) 3 a.f_f9 a.d_f9 ["self","a"] (gy (aK a K) OU (KO (aK a K) (.ct .fz)) Rx):=by
 refine T.F_f9.okX2 T1 (λ_ _ _ _=>aS) (λ_ _ _ _ _ _ _ _ b h=>?_)
 refine(_,(ae (bj (cM (pv 0) T.cl_Guild T.me_g9 (vN T) b.mm T.b_g9 .nil bc (aa (aW (aa (pv 1) ac)) ac)))
  (aj (bA (cM (pv 0) T.cl_Guild T.me_b9 (Ou T) b.mm T.b_b9 .nil bc (aa (d9 K rfl (pv 0) rfl) (aa (pv 1) ac)))))),?_)
 refine bP (Y:=aK a K) (M:=OU) (more:=Vd) (body:=Jv) ?_ rfl rfl h
 exact(aw (bQ (a9 (fX (c:=0) (aU (fR 0)) (av (aF (oF (bp (ag (fF 1) aH)))) aR) rfl)))
  (bY (a9 (oJ (c:=0) (aU (fR 0)) (av (aU (qJ (c:=0) T.cl_Guild T.n_ways (rc (fR 0)))) (av (aF (fF 1)) aR)) rfl))))
def UA(T:Txt K mg a base):FnOk P w K mg base (ip P w) 3 a.f_h9 a.d_h9 ["self","road"] (gy (aK a K) OS (KR (aK a K) .F) Rv):=by
 let(b,g_SEAT):=T.g_SEAT;refine T.F_h9.okX2 TY (λ_ _ _ _=>aS) (λ_ _ _ _ _ _ _ _ d h=>?_)
 refine(_,(ae (bj (cM (pv 0) T.cl_Guild T.me_g9 (vN T) d.mm T.b_g9 .nil bc (aa (pv 1) ac)))
  (ae (cr (aJ qK (a7 (aZ K rfl) rfl T.z_len Gd.dN (aa (pv 1) ac)) ah (aV _)) (aj (cF dm rfl rfl T.mgC_NoRoad T.ek_NoRoad (aa ax ac))) bG)
  (ae (cr (aJ oN (cC (bL K rfl) (pv 1) (Dx wH ah) (λ_ _=>rfl)) (gW rfl g_SEAT (v:=.int 0) (_,rfl)) (aV _)) (aj (cF dm rfl rfl T.mgC_NoRoad T.ek_NoRoad (aa ax ac))) bG)
  (aj (cr (aJ oN (a7 Gf rfl T.z_len Gd.dN (aa (cG (Cz K rfl rfl) rfl T.z_set Gd.SN (aa (pv 1) ac)) ac)) (a7 (aZ K rfl) rfl T.z_len Gd.dN (aa (pv 1) ac)) (aV _)) (aj (cF dm rfl rfl T.mgC_NoRoad T.ek_NoRoad (aa ax ac))) bG))))),?_)
 refine bR (Y:=aK a K) (M:=OS) (more:=Vb) (body:=Jt) ?_ rfl rfl (λ_ _ _=>jP) h
 exact(aw (bQ (a9 (fX (c:=0) (aU (fR 0)) (av (aU (fR 1)) aR) rfl)))
  (aw (fj (a9 (cJ (fx (aA yZ (fx (eU iE (ux (fR 1)))) (fx pI))))) (fi (c:=14)) cR)
  (aw (fj (a9 (cJ (fx (aA wQ (ux (eQ (rc (fR 1)) (fx (Il CU (fx pI))))) (fx pI))))) (fi (c:=14)) cR)
  (fj (a9 (cJ (fx (aA wQ (fx (Is (ux (fR 1)))) (fx (eU iE (ux (fR 1)))))))) (fi (c:=14)) cR))))
def Ot(T:Txt K mg a base):FnOk P w K mg base (ip P w) 3 a.f_i9 a.d_i9 ["self","a","b"] (gy (aK a K) OR (KR (aK a K) .F) M5):=by
 refine T.F_i9.okX2 TX (λ_ _ _ _=>aS) (λ_ _ _ _ _ _ _ _ b h=>?_)
 refine(_,(ae (bj (cM (pv 0) T.cl_Guild T.me_g9 (vN T) b.mm T.b_g9 .nil bc (aa (aW (aa (pv 1) (aa (pv 2) ac))) ac)))
  (aj (cr (aJ eV (pv 1) (pv 2) (aV _)) (aj (cF dm rfl rfl T.mgC_NoHouse T.ek_NoHouse (aa ax ac))) bG))),?_)
 refine bR (Y:=aK a K) (M:=OR) (more:=Va) (body:=Js) ?_ rfl rfl (λ_ _ _=>jP) h
 exact(aw (bQ (a9 (fX (c:=0) (aU (fR 0)) (av (aF (oF (bp (ag (fF 1) (ag (fF 2) aH))))) aR) rfl)))
  (fj (a9 (cJ (fx (aA i5 (fx (fF 1)) (fx (fF 2)))))) (fi (c:=11)) cR))
def Uy(T:Txt K mg a base):FnOk P w K mg base (ip P w) 3 a.f_k9 a.d_k9 ["self","a"] (gy (aK a K) OP (KO (aK a K) (.ct .fz)) Rt):=by
 refine T.F_k9.okX2 TV (λ_ _ _ _=>aS) (λ_ _ _ _ _ _ _ _ b h=>?_)
 refine(_,(ae (bj (cM (pv 0) T.cl_Guild T.me_g9 (vN T) b.mm T.b_g9 .nil bc (aa (aW (aa (pv 1) ac)) ac)))
  (aj (bA (cM (pv 0) T.cl_Guild T.me_b9 (Ou T) b.mm T.b_b9 .nil bc (aa (d9 K rfl (pv 0) rfl) (aa (pv 1) ac)))))),?_)
 refine bP (Y:=aK a K) (M:=OP) (more:=U8) (body:=Jq) ?_ rfl rfl h
 exact(aw (bQ (a9 (fX (c:=0) (aU (fR 0)) (av (aF (oF (bp (ag (fF 1) aH)))) aR) rfl)))
  (bY (a9 (oJ (c:=0) (aU (fR 0)) (av (aU (qJ (c:=0) T.cl_Guild T.n_shuns (rc (fR 0)))) (av (aF (fF 1)) aR)) rfl))))
def Uv(T:Txt K mg a base):FnOk P w K mg base (ip P w) 3 a.f_o9 a.d_o9 ["words"] (gy (aK a K) OL (KO (aK a K) (.ob gk)) m_o9):=by
 refine T.F_o9.okX2 TN (λ_ _ _ _=>aS) (λ_ _ _ _ _ _ _ _ b h=>?_)
 refine(_,(ae (cr (PW.pt (Dp (aJ oN (a7 (aZ K rfl) rfl T.z_len Gd.dN (aa (pv 0) ac)) ah (aV _)) (wX (aJ oN (cC (bL K rfl) (pv 0) ah (λ_ _=>rfl)) ax (aV _))))) (aj (cF dm rfl rfl T.mgC_BadNote T.ek_BadNote (aa ax ac))) bG)
  (aj (bA (MG T.mk_Guild (UF T) b.mm rfl T.mgC_Guild T.b_a9 .nil bc (aa (aP (Iz T) b.mm rfl T.m_be9 T.F_be9.kp T.b_be9 .nil bc (aa (cC (bL K rfl) (pv 0) ah (λ_ _=>rfl)) ac)) ac))))),?_)
 refine bP (Y:=aK a K) (M:=OL) (more:=U0) (body:=Jm) ?_ rfl rfl h
 exact(aw (fj (a9 (Dt (cJ (fx (aA wQ (fx (eU iE (fx (fF 0)))) (fx pI)))) (cJ (fx (aA wQ (fx (eQ (rc (fF 0)) (fx pI))) (fx pS)))))) (fi (c:=17)) cR)
  (bY (a9 (Qv (c:=0) (av (aF (b9 (av (aF (eQ (rc (fF 0)) (fx pI))) aR) rfl)) aR) rfl))))
def UE(T:Txt K mg a base):FnOk P w K mg base (ip P w) 4 a.f_c9 a.d_c9 ["self","a","b"] (gy (aK a K) OX (KR (aK a K) .F) RB):=by
 refine T.F_c9.okX2 T4 (λ_ _ _ _=>aS) (λ_ _ _ _ _ _ _ _ d h=>?_);have b:=l8 d
 refine(_,(ae (bj (cM (pv 0) T.cl_Guild T.me_i9 (Ot T) d.mm T.b_i9 .nil bc (aa (pv 1) (aa (pv 2) ac))))
  (ae (cr (HW (Ij b (iw (aa (pv 1) (aa (pv 2) ac))) (d9 K rfl (pv 0) rfl))) (aj (cF dm rfl rfl T.mgC_WayThere T.ek_WayThere (aa ax ac))) bG)
  (ae (kM b (d9 K rfl (pv 0) rfl) (iw (aa (pv 1) (aa (pv 2) ac))) nn rfl)
  (aj (kM b (d9 K rfl (pv 0) rfl) (iw (aa (pv 2) (aa (pv 1) ac))) nn rfl))))),?_)
 refine bR (Y:=aK a K) (M:=OX) (more:=Vg) (body:=Jy) ?_ rfl rfl (λ_ _ _=>jP) h
 exact(aw (bQ (a9 (fX (c:=0) (aX (fO 0)) (av (aF (fF 1)) (av (aF (fF 2)) aR)) rfl)))
  (aw (fj (a9 (Fy (fx (Os (fx (lD (ag (fF 1) (ag (fF 2) aH)))) (QE (c:=0) (i:=0) T.cl_Guild T.n_ways rfl rfl))))) (fi (c:=13)) cR)
  (aw (nI (HU (c:=0) (i:=0) T.cl_Guild T.n_ways rfl rfl) (fx (lD (ag (fF 1) (ag (fF 2) aH)))) (a9 pB))
  (nI (HU (c:=0) (i:=0) T.cl_Guild T.n_ways rfl rfl) (fx (lD (ag (fF 2) (ag (fF 1) aH)))) (a9 pB)))))
def Uz(T:Txt K mg a base):FnOk P w K mg base (ip P w) 4 a.f_j9 a.d_j9 ["self","a","b"] (gy (aK a K) OQ (KR (aK a K) .F) Ru):=by
 refine T.F_j9.okX2 TW (λ_ _ _ _=>aS) (λ_ _ _ _ _ _ _ _ b h=>?_);have d:=l8 b
 refine(_,(ae (bj (cM (pv 0) T.cl_Guild T.me_i9 (Ot T) b.mm T.b_i9 .nil bc (aa (pv 1) (aa (pv 2) ac))))
  (aj (kM d (d9 K rfl (pv 0) rfl) (iw (aa (pv 1) (aa (pv 2) ac))) nn rfl))),?_)
 refine bR (Y:=aK a K) (M:=OQ) (more:=U9) (body:=Jr) ?_ rfl rfl (λ_ _ _=>jP) h
 exact(aw (bQ (a9 (fX (c:=0) (aX (fO 0)) (av (aF (fF 1)) (av (aF (fF 2)) aR)) rfl)))
  (nI (HU (c:=0) (i:=0) T.cl_Guild T.n_shuns rfl rfl) (fx (lD (ag (fF 1) (ag (fF 2) aH)))) (a9 pB)))
def Ux(T:Txt K mg a base):FnOk P w K mg base (ip P w) 4 a.f_m9 a.d_m9 ["self","road","rank"] (gy (aK a K) ON (KR (aK a K) .F) Rr):=by
 refine T.F_m9.okX2 TR (λ_ _ _ _=>aS) (λ_ _ _ _ _ _ _ _ b h=>?_);have d:=l8 b
 refine(_,(ae (bj (cM (pv 0) T.cl_Guild T.me_h9 (UA T) b.mm T.b_h9 .nil bc (aa (pv 1) ac)))
  (aj (kM d (d9 K rfl (pv 0) rfl) (cG (mJ K rfl) rfl T.z_tuple Gd.AI (aa (pv 1) ac)) (pv 2) rfl))),?_)
 refine bR (Y:=aK a K) (M:=ON) (more:=U6) (body:=Jo) ?_ rfl rfl (λ_ _ _=>jP) h
 exact(aw (bQ (a9 (fX (c:=0) (aX (fO 0)) (av (aU (fR 1)) aR) rfl)))
  (nI (HU (c:=0) (i:=0) T.cl_Guild T.n_wish_ranks rfl rfl) (fx (Dy (cS (k':= .F) (rc (fR 1))))) (a9 (fF 2))))
def QR(T:Txt K mg a base):FnOk P w K mg base (ip P w) 4 a.f_bd9 a.d_bd9 ["guild"] (gy (aK a K) IY (KO (aK a K) (.ct .fz)) m_bd9):=by
 refine T.F_bd9.okX2 sD (λ_ _ _ _=>aS) (λ_ _ _ _ _ _ _ _ b h=>?_)
 refine(_,(ae (aI (i:=1) sD.nd rfl (Or.inl rfl) (aW ac))
  (ae (fy i9 rfl (dY rfl T.z_range (aa (j8 (pv 0) T.cl_Guild T.me_l9 (zo T) b.mm T.b_l9 .nil bc) ac)) (b6 (i:=2) sD.nd rfl (Or.inl rfl)) (aj (fy i9 rfl (dY rfl T.z_range (aa (j8 (pv 0) T.cl_Guild T.me_l9 (zo T) b.mm T.b_l9 .nil bc) ac)) (b6 (i:=3) sD.nd rfl (Or.inl rfl)) (ae (aI (i:=4) sD.nd rfl (Or.inl rfl) (cM (pv 0) T.cl_Guild T.me_e9 (UC T) b.mm T.b_e9 .nil bc (aa (pv 2) (aa (pv 3) ac))))
  (aj (cr (aJ oN (pv 4) ah (aV _)) (aj (bj (gm XT Yj Yk cH (pv 1) (aa (zk (cu ax (cu (nj (pv 2)) (cu ax (cu (nj (pv 3)) (cu ax (cu (nj (pv 4)) tL))))))) ac)))) bG))))))
  (aj (bA (pv 1))))),?_)
 refine bP (Y:=aK a K) (M:=IY) (more:=Rk) (body:=BQ) ?_ rfl rfl h
 exact(aw (bW (i:=1) (a9 (bp aH)) rfl rfl)
  (aw (iF (a9 (uX (fx (fX (c:=0) (aU (fR 0)) aR rfl)))) (.inl rfl) (yM (i:=2) rfl rfl) (iF (a9 (uX (fx (fX (c:=0) (aU (fR 0)) aR rfl)))) (.inl rfl) (yM (i:=3) rfl rfl) (aw (bx (i:=4) (a9 (fX (c:=0) (aU (fR 0)) (av (aF (fF 2)) (av (aF (fF 3)) aR)) rfl)) rfl rfl)
  (fj (a9 (cJ (fx (aA wQ (fx (fF 4)) (fx pI))))) (bQ (fJ (kL (i:=1) rfl) (Iu (LN (uV (fx (fF 2)) (LN (uV (fx (fF 3)) (LN (uV (fx (fF 4)) zM))))))))) cR))))
  (bY (rJ (i:=1) rfl))))
def F7:CompSc (au CY) { kind:=.function,names:=[ (".0",.local),("b",.local),("a",.free)],isGenerator:=false,isCoroutine:=false,more:=[]:PySem.Scope } "b" ["a"]:=by ac_rfl
def QN(T:Txt K mg a base):FnOk P w K mg base (ip P w) 4 a.f_bj9 a.d_bj9 ["guild"] (gy (aK a K) IS (KO (aK a K) (.ct .fz)) m_bj9):=by
 refine T.F_bj9.okX2 Bj (λ_ _ _ _=>aS) (λ_ _ _ _ _ _ _ _ b h=>?_)
 refine(_,(ae (aI (i:=1) Bj.nd rfl (Or.inl rfl) (aW ac))
  (ae (fy i9 rfl (dY rfl T.z_range (aa (j8 (pv 0) T.cl_Guild T.me_l9 (zo T) b.mm T.b_l9 .nil bc) ac)) (b6 (i:=2) Bj.nd rfl (Or.inr rfl)) (aj (bj (gm XT YK YL iT (pv 1) (aa (gX rfl (cj K rfl (cM (pv 0) T.cl_Guild T.me_k9 (Uy T) b.mm T.b_k9 .nil bc (aa (pv 2) ac))) F7 (ix:=[2]) rfl (λ_ _ _ _=>iL) (λ_ _ _ _=>(zk (cu ax (cu (nj (pv 1)) (cu ax (cu (nj (pv 0)) tL))))))) ac)))))
  (aj (bA (pv 1))))),?_)
 refine bP (Y:=aK a K) (M:=IS) (more:=Re) (body:=BK) ?_ rfl rfl h
 exact(aw (bW (i:=1) (a9 (bp aH)) rfl rfl)
  (aw (iF (a9 (uX (fx (fX (c:=0) (aU (fR 0)) aR rfl)))) (.inl rfl) (yM (i:=2) rfl rfl) (bQ (kc (kL (i:=1) rfl) (oF (eT (ix:=[2]) (je (oc (oJ (c:=0) (aU (fR 0)) (av (aF (fF 2)) aR) rfl))) () lP (Iu (LN (uV (fx (fF 1)) (LN (uV (fx (fF 0)) zM))))))))))
  (bY (rJ (i:=1) rfl))))
def F5:CompSc (au CW) { kind:=.function,names:=[ (".0",.local),("b",.local),("a",.free)],isGenerator:=false,isCoroutine:=false,more:=[]:PySem.Scope } "b" ["a"]:=by ac_rfl
def QL(T:Txt K mg a base):FnOk P w K mg base (ip P w) 4 a.f_bl9 a.d_bl9 ["guild"] (gy (aK a K) IQ (KO (aK a K) (.ct .fz)) m_bl9):=by
 refine T.F_bl9.okX2 Bh (λ_ _ _ _=>aS) (λ_ _ _ _ _ _ _ _ b h=>?_)
 refine(_,(ae (aI (i:=1) Bh.nd rfl (Or.inl rfl) (aW ac))
  (ae (fy i9 rfl (dY rfl T.z_range (aa (j8 (pv 0) T.cl_Guild T.me_l9 (zo T) b.mm T.b_l9 .nil bc) ac)) (b6 (i:=2) Bh.nd rfl (Or.inr rfl)) (aj (bj (gm XT YK YL iT (pv 1) (aa (gX rfl (cj K rfl (cM (pv 0) T.cl_Guild T.me_f9 (UB T) b.mm T.b_f9 .nil bc (aa (pv 2) ac))) F5 (ix:=[2]) rfl (λ_ _ _ _=>wY (aJ qK (pv 1) (pv 0) (aV _))) (λ_ _ _ _=>(zk (cu ax (cu (nj (pv 1)) (cu ax (cu (nj (pv 0)) tL))))))) ac)))))
  (aj (bA (pv 1))))),?_)
 refine bP (Y:=aK a K) (M:=IQ) (more:=Ra) (body:=BI) ?_ rfl rfl h
 exact(aw (bW (i:=1) (a9 (bp aH)) rfl rfl)
  (aw (iF (a9 (uX (fx (fX (c:=0) (aU (fR 0)) aR rfl)))) (.inl rfl) (yM (i:=2) rfl rfl) (bQ (kc (kL (i:=1) rfl) (oF (eT (ix:=[2]) (je (oc (oJ (c:=0) (aU (fR 0)) (av (aF (fF 2)) aR) rfl))) () (cJ (fx (aA yZ (fx (fF 1)) (fx (fF 0))))) (Iu (LN (uV (fx (fF 1)) (LN (uV (fx (fF 0)) zM))))))))))
  (bY (rJ (i:=1) rfl))))
def F8:CompSc (au CZ) { kind:=.function,names:=[(".0",.local),("line",.local)],isGenerator:=false,isCoroutine:=false,more:=[]:PySem.Scope } "line" []:=by ac_rfl
def QO(T:Txt K mg a base):FnOk P w K mg base (ip P w) 5 a.f_bi9 a.d_bi9 ["guild"] (gy (aK a K) IT (KR (aK a K) .F) m_bi9):=by
 refine T.F_bi9.okX2 Bk (λ_ _ _ _=>aS) (λ_ _ _ _ _ _ _ _ b h=>?_)
 refine(_,(ae (aI (i:=1) Bk.nd rfl (Or.inl rfl) (j8 (pv 0) T.cl_Guild T.me_l9 (zo T) b.mm T.b_l9 .nil bc))
  (ae (aI (i:=2) Bk.nd rfl (Or.inl rfl) (aW (aa (zk (cu ax (cu (nj (pv 1)) tL))) ac)))
  (ae (bj (gm XT YK YL iT (pv 2) (aa (aP (QL T) b.mm rfl T.m_bl9 T.F_bl9.kp T.b_bl9 .nil bc (aa (pv 0) ac)) ac)))
  (ae (bj (gm XT YK YL iT (pv 2) (aa (aP (QR T) b.mm rfl T.m_bd9 T.F_bd9.kp T.b_bd9 .nil bc (aa (pv 0) ac)) ac)))
  (ae (bj (gm XT YK YL iT (pv 2) (aa (aP (QN T) b.mm rfl T.m_bj9 T.F_bj9.kp T.b_bj9 .nil bc (aa (pv 0) ac)) ac)))
  (ae (bj (gm XT YK YL iT (pv 2) (aa (aP (QK T) b.mm rfl T.m_bm9 T.F_bm9.kp T.b_bm9 .nil bc (aa (pv 0) ac)) ac)))
  (aj (bA (fY (K:=K) rfl XW Yp Yq (fI (K:=K) rfl) ax (aa (gX rfl (cj K rfl (pv 2)) F8 (ix:=[]) rfl (λ_ _ _ _=>iL) (λ_ _ _ _=>(ay gH (pv 0) ax))) ac)))))))))),?_)
 refine bR (Y:=aK a K) (M:=IT) (more:=Rf) (body:=BL) ?_ rfl rfl (λ_ _ _=>jP) h
 exact(aw (bx (i:=1) (a9 (fX (c:=0) (aU (fR 0)) aR rfl)) rfl rfl)
  (aw (bW (i:=2) (a9 (bp (ag (Iu (LN (uV (fx (fF 1)) zM))) aH))) rfl rfl)
  (aw (bQ (kc (kL (i:=2) rfl) (oF (dG (av (aU (fR 0)) aR) rfl))))
  (aw (bQ (kc (kL (i:=2) rfl) (oF (dG (av (aU (fR 0)) aR) rfl))))
  (aw (bQ (kc (kL (i:=2) rfl) (oF (dG (av (aU (fR 0)) aR) rfl))))
  (aw (bQ (kc (kL (i:=2) rfl) (oF (dG (av (aU (fR 0)) aR) rfl))))
  (bY (a9 (jT (fx pS) (fx (oF (eT (ix:=[]) (je (fC 2)) () lP (aA p8 (fx (fF 0)) (fx pS))))))))))))))
def F6:CompSc (au y0) (Gd.mW (Gd.vn (Gd.nth (fk y0) 1))) "word" []:=by ac_rfl
def QM(T:Txt K mg a base):FnOk P w K mg base (ip P w) 5 a.f_bk9 a.d_bk9 ["guild","words"] (gy (aK a K) IR (KR (aK a K) .F) m_bk9):=by
 refine T.F_bk9.okX2 Bi (λ_ _ _ _=>aS) (λ_ _ _ _ _ _ _ _ b h=>?_)
 refine(_,(ae (aI (i:=2) Bi.nd rfl (Or.inl rfl) (cC (bL K rfl) (pv 1) ah (λ_ _=>rfl)))
  (ae (zi dm (i:=3) rfl Bi.nd rfl (.inl rfl) (cj K rfl (dU (g8 K rfl) (pv 1) (fS ah) fT)) F6 (ix:=[]) rfl (λ_ _ _ _=>iL) (λ_ _ _ _ q hp=>(aP (Iz T) b.mm rfl T.m_be9 T.F_be9.kp T.b_be9 .nil hp (aa (pv 0) ac))))
  (aj (cr (PW.pt (jQ (aJ eV (pv 2) ax (aV _)) (gU (aJ eV (a7 (aZ K rfl) rfl T.z_len Gd.dN (aa (pv 3) ac)) ah (aV _))))) (aj (bj (cM (pv 0) T.cl_Guild T.me_c9 (UE T) b.mm T.b_c9 .nil bc (aa (cC (bL K rfl) (pv 3) ah (λ_ _=>rfl)) (aa (cC (bL K rfl) (pv 3) ah (λ_ _=>rfl)) ac))))) (aj (cr (PW.pt (jQ (aJ eV (pv 2) ax (aV _)) (gU (aJ eV (a7 (aZ K rfl) rfl T.z_len Gd.dN (aa (pv 3) ac)) ah (aV _))))) (aj (bj (cM (pv 0) T.cl_Guild T.me_d9 (UD T) b.mm T.b_d9 .nil bc (aa (cC (bL K rfl) (pv 3) ah (λ_ _=>rfl)) (aa (cC (bL K rfl) (pv 3) ah (λ_ _=>rfl)) (aa (cC (bL K rfl) (pv 3) ah (λ_ _=>rfl)) ac)))))) (aj (cr (PW.pt (jQ (aJ eV (pv 2) ax (aV _)) (gU (aJ eV (a7 (aZ K rfl) rfl T.z_len Gd.dN (aa (pv 3) ac)) ah (aV _))))) (aj (bj (cM (pv 0) T.cl_Guild T.me_j9 (Uz T) b.mm T.b_j9 .nil bc (aa (cC (bL K rfl) (pv 3) ah (λ_ _=>rfl)) (aa (cC (bL K rfl) (pv 3) ah (λ_ _=>rfl)) ac))))) (aj (cr (PW.pt (jQ (aJ eV (pv 2) ax (aV _)) (gU (aJ vM (a7 (aZ K rfl) rfl T.z_len Gd.dN (aa (pv 3) ac)) ah (aV _))))) (aj (bj (cM (pv 0) T.cl_Guild T.me_m9 (Ux T) b.mm T.b_m9 .nil bc (aa (dU (g8 K rfl) (pv 3) (fS ah) fT) (aa (cC (bL K rfl) (pv 3) ah (λ_ _=>rfl)) ac))))) (aj (cF dm rfl rfl T.mgC_BadNote T.ek_BadNote (aa ax ac))))))))))))),?_)
 refine bR (Y:=aK a K) (M:=IR) (more:=Rb) (body:=BJ) ?_ rfl rfl (λ_ _ _=>jP) h
 exact(aw (bx (i:=2) (a9 (eQ (rc (fF 1)) (fx pI))) rfl rfl)
  (aw (bx (i:=3) (a9 (oF (MM (ix:=[]) (je (oc (qd (rc (fF 1)) (fx pI)))) () (b9 (av (aF (fF 0)) aR) rfl)))) rfl rfl)
  (fj (a9 (jR (cJ (fx (aA i5 (fx (fF 2)) (fx pS)))) (cJ (fx (aA i5 (fx (eU iE (fx (fF 3)))) (fx pI)))))) (bQ (xq (c:=0) (aO (i:=0)) (av (aF (eQ (rc (fF 3)) (fx pI))) (av (aF (eQ (rc (fF 3)) (fx pI))) aR)) (rfl,trivial,trivial,trivial) () ())) (fj (a9 (jR (cJ (fx (aA i5 (fx (fF 2)) (fx pS)))) (cJ (fx (aA i5 (fx (eU iE (fx (fF 3)))) (fx pI)))))) (bQ (xq (c:=0) (aO (i:=0)) (av (aF (eQ (rc (fF 3)) (fx pI))) (av (aF (eQ (rc (fF 3)) (fx pI))) (av (aF (eQ (rc (fF 3)) (fx pI))) aR))) (rfl,trivial,trivial,trivial,trivial) () ())) (fj (a9 (jR (cJ (fx (aA i5 (fx (fF 2)) (fx pS)))) (cJ (fx (aA i5 (fx (eU iE (fx (fF 3)))) (fx pI)))))) (bQ (xq (c:=0) (aO (i:=0)) (av (aF (eQ (rc (fF 3)) (fx pI))) (av (aF (eQ (rc (fF 3)) (fx pI))) aR)) (rfl,trivial,trivial,trivial) () ())) (fj (a9 (jR (cJ (fx (aA i5 (fx (fF 2)) (fx pS)))) (cJ (fx (aA Fp (fx (eU iE (fx (fF 3)))) (fx pI)))))) (bQ (xq (c:=0) (aO (i:=0)) (av (aF (oF (qd (rc (fF 3)) (fx pI)))) (av (aF (eQ (rc (fF 3)) (fx pI))) aR)) (rfl,trivial,trivial,trivial) () ())) (fi (c:=17))))))))
def Iy(T:Txt K mg a base):FnOk P w K mg base (u7 P w) 6 a.f_bf9 a.d_bf9 ["text"] (gy (aK a K) IW (KO (aK a K) (.ob gk)) m_bf9):=by
 refine T.F_bf9.okX sC (λ_ _ _ _=>aS) (λ_ _ _ _ _ _ _ _ b h=>?_)
 refine(_,(ae (aI (i:=1) sC.nd rfl (Or.inl rfl) (aP (QP T) b.mm rfl T.m_bh9 T.F_bh9.kp T.b_bh9 .nil (d7 gg) (aa (pv 0) ac)))
  (ae (ME (j:=4) By (λq c hp=>(ae (aI (i:=2) sC.nd rfl (Or.inl rfl) (aP (Uv T) b.mm rfl T.m_o9 T.F_o9.kp T.b_o9 .nil hp (aa (cC (bL K rfl) (pv 1) ah (λ_ _=>rfl)) ac)))
  (aj (fy c rfl (cj K rfl (dU (g8 K rfl) (pv 1) (fS ah) fT)) (b6 (i:=3) sC.nd rfl (Or.inl rfl)) (aj (bj (aP (QM T) b.mm rfl T.m_bk9 T.F_bk9.kp T.b_bk9 .nil hp (aa (pv 2) (aa (pv 3) ac))))))))) rfl T.mgC_GuildError T.ek_GuildError sC.nd rfl rfl (Or.inl rfl) (Or.inl rfl) rfl T.mgC_BadNote T.ek_BadNote (λ_ _=>(aa ax ac)) (λ_ _ _ p=>(by decide,p)))
  (aj (bA (pv 2))))),?_)
 refine bP (Y:=aK a K) (M:=IW) (more:=Ri) (body:=BO) ?_ rfl rfl h
 exact(aw (bx (i:=1) (a9 (oF (dG (av (aF (fF 0)) aR) rfl))) rfl rfl)
  (aw (PN (g:=10) (c':=17) (l:=[10,11,13,14,17]) (mI T.ek_GuildError T.sb_GuildError_GuildError trivial (mI T.ek_NoHouse T.sb_NoHouse_GuildError trivial (mI T.ek_WayThere T.sb_WayThere_GuildError trivial (mI T.ek_NoRoad T.sb_NoRoad_GuildError trivial (mI T.ek_BadNote T.sb_BadNote_GuildError trivial NF))))) (aw (bW (i:=2) (a9 (dG (av (aF (eQ (rc (fF 1)) (fx pI))) aR) rfl)) rfl rfl)
  (iF (a9 (m7 (oF (qd (rc (fF 1)) (fx pI))))) (.inl rfl) (yM (i:=3) rfl rfl) (bQ (Ro (av (aO (i:=2)) (av (aF (fF 3)) aR)) (rfl,trivial,trivial) () ())))))
  (bY (rJ (i:=2) rfl))))
def Um(T:Txt K mg a base):FnOk P w K mg base (u7 P w) 7 a.f_y9 a.d_y9 ["text"] (gy (aK a K) OA (KR (aK a K) .F) m_y9):=by
 refine T.F_y9.okX yU (λ_ _ _ _=>aS) (λ_ _ _ _ _ _ _ _ f h=>?_);have d:=f.units
 refine(_,(ae (aI (i:=1) yU.nd rfl (Or.inl rfl) (aW ac))
  (ae (HY (j:=2) (ok:=okL K [.ref a.C_BadNote,.type "ValueError",.ref a.C_NoHouse,.ref a.C_WayThere,.ref a.C_NoRoad]) rfl rfl (LY (LZ (Iy T) f.mm rfl T.m_bf9 T.F_bf9.kp T.b_bf9 .nil (aa (pv 0) ac) )) rfl T.mgC_GuildError T.ek_GuildError yU.nd rfl rfl (Or.inl rfl) (λk oe C e b=>(ae (aI (i:=1) yU.nd rfl (Or.inl rfl) (aW (aa (a7 (mK (g:=.ref a.C_BadNote) (c:=.ref a.C_BadNote) e (λ_ h=>h) b.1 (b.kit 0 rfl)) rfl T.z_isinstance Gd.fN (aa (pv 2) (aa (gW rfl T.mgC_BadNote (v:=.ref a.C_BadNote) rfl) ac))) (aa (a7 (mK (g:=.ty "ValueError") (c:=.type "ValueError") e (λ_ h=>h) b.1 (b.kit 1 rfl)) rfl T.z_isinstance Gd.fN (aa (pv 2) (aa (MH rfl T.z_ValueError Gd.u4 (v:=.ty "ValueError") rfl) ac))) (aa (a7 (mK (g:=.ref a.C_NoHouse) (c:=.ref a.C_NoHouse) e (λ_ h=>h) b.1 (b.kit 2 rfl)) rfl T.z_isinstance Gd.fN (aa (pv 2) (aa (gW rfl T.mgC_NoHouse (v:=.ref a.C_NoHouse) rfl) ac))) ac))))) (aj (aI (i:=1) yU.nd rfl (Or.inl rfl) (ay cZ (pv 1) (aW (aa (a7 (mK (g:=.ref a.C_WayThere) (c:=.ref a.C_WayThere) e (λ_ h=>h) b.1 (b.kit 3 rfl)) rfl T.z_isinstance Gd.fN (aa (pv 2) (aa (gW rfl T.mgC_WayThere (v:=.ref a.C_WayThere) rfl) ac))) (aa (a7 (mK (g:=.ref a.C_NoRoad) (c:=.ref a.C_NoRoad) e (λ_ h=>h) b.1 (b.kit 4 rfl)) rfl T.z_isinstance Gd.fN (aa (pv 2) (aa (gW rfl T.mgC_NoRoad (v:=.ref a.C_NoRoad) rfl) ac))) ac)))))))))
  (aj (bA (w8 (MN K rfl d) (pv 1) (aW (aa nn (aa nn (aa nn (aa nn (aa nn ac)))))) (aV _)))))),?_)
 refine bR (Y:=aK a K) (M:=OA) (more:=UQ) (body:=Jc) ?_ rfl rfl (λ_ _ _=>jP) h
 exact(aw (bW (i:=1) (a9 (bp aH)) rfl rfl)
  (aw (Mq (g:=10) (l:=[10,11,13,14,17]) (R6 λE=>(a9 (dG (av (aF (fF 0)) aR) rfl))) rfl (tQ _ T.ek_GuildError T.sb_GuildError_GuildError (T.xa_GuildError,(aE T.kt_GuildError_BadNote (aE T.kt_GuildError_ValueError (aE T.kt_GuildError_NoHouse (aE T.kt_GuildError_WayThere (aE T.kt_GuildError_NoRoad f9))))).1) (aw (bW (i:=1) (a9 (bp (ag pB (ag pB (ag pB aH))))) rfl rfl) (bW (i:=1) (a9 (dW (fC 1) (oc (bp (ag pB (ag pB aH)))))) rfl rfl)) (zS (I0:=[(.ref a.C_BadNote,.ref a.C_BadNote),(.ty "ValueError",.type "ValueError"),(.ref a.C_NoHouse,.ref a.C_NoHouse)]) (bl:=[false,true,false]) (L':=[(.ref a.C_WayThere,.ref a.C_WayThere),(.ref a.C_NoRoad,.ref a.C_NoRoad)]) (bl':=[false,false]) () (aE T.kt_GuildError_BadNote (aE T.kt_GuildError_ValueError (aE T.kt_GuildError_NoHouse f9))).2 (aE T.kt_GuildError_WayThere (aE T.kt_GuildError_NoRoad f9)).2) (tQ _ T.ek_NoHouse T.sb_NoHouse_GuildError (T.xa_NoHouse,(aE T.kt_NoHouse_BadNote (aE T.kt_NoHouse_ValueError (aE T.kt_NoHouse_NoHouse (aE T.kt_NoHouse_WayThere (aE T.kt_NoHouse_NoRoad f9))))).1) (aw (bW (i:=1) (a9 (bp (ag pB (ag pB (ag pB aH))))) rfl rfl) (bW (i:=1) (a9 (dW (fC 1) (oc (bp (ag pB (ag pB aH)))))) rfl rfl)) (zS (I0:=[(.ref a.C_BadNote,.ref a.C_BadNote),(.ty "ValueError",.type "ValueError"),(.ref a.C_NoHouse,.ref a.C_NoHouse)]) (bl:=[false,true,true]) (L':=[(.ref a.C_WayThere,.ref a.C_WayThere),(.ref a.C_NoRoad,.ref a.C_NoRoad)]) (bl':=[false,false]) () (aE T.kt_NoHouse_BadNote (aE T.kt_NoHouse_ValueError (aE T.kt_NoHouse_NoHouse f9))).2 (aE T.kt_NoHouse_WayThere (aE T.kt_NoHouse_NoRoad f9)).2) (tQ _ T.ek_WayThere T.sb_WayThere_GuildError (T.xa_WayThere,(aE T.kt_WayThere_BadNote (aE T.kt_WayThere_ValueError (aE T.kt_WayThere_NoHouse (aE T.kt_WayThere_WayThere (aE T.kt_WayThere_NoRoad f9))))).1) (aw (bW (i:=1) (a9 (bp (ag pB (ag pB (ag pB aH))))) rfl rfl) (bW (i:=1) (a9 (dW (fC 1) (oc (bp (ag pB (ag pB aH)))))) rfl rfl)) (zS (I0:=[(.ref a.C_BadNote,.ref a.C_BadNote),(.ty "ValueError",.type "ValueError"),(.ref a.C_NoHouse,.ref a.C_NoHouse)]) (bl:=[false,true,false]) (L':=[(.ref a.C_WayThere,.ref a.C_WayThere),(.ref a.C_NoRoad,.ref a.C_NoRoad)]) (bl':=[true,false]) () (aE T.kt_WayThere_BadNote (aE T.kt_WayThere_ValueError (aE T.kt_WayThere_NoHouse f9))).2 (aE T.kt_WayThere_WayThere (aE T.kt_WayThere_NoRoad f9)).2) (tQ _ T.ek_NoRoad T.sb_NoRoad_GuildError (T.xa_NoRoad,(aE T.kt_NoRoad_BadNote (aE T.kt_NoRoad_ValueError (aE T.kt_NoRoad_NoHouse (aE T.kt_NoRoad_WayThere (aE T.kt_NoRoad_NoRoad f9))))).1) (aw (bW (i:=1) (a9 (bp (ag pB (ag pB (ag pB aH))))) rfl rfl) (bW (i:=1) (a9 (dW (fC 1) (oc (bp (ag pB (ag pB aH)))))) rfl rfl)) (zS (I0:=[(.ref a.C_BadNote,.ref a.C_BadNote),(.ty "ValueError",.type "ValueError"),(.ref a.C_NoHouse,.ref a.C_NoHouse)]) (bl:=[false,true,false]) (L':=[(.ref a.C_WayThere,.ref a.C_WayThere),(.ref a.C_NoRoad,.ref a.C_NoRoad)]) (bl':=[false,true]) () (aE T.kt_NoRoad_BadNote (aE T.kt_NoRoad_ValueError (aE T.kt_NoRoad_NoHouse f9))).2 (aE T.kt_NoRoad_WayThere (aE T.kt_NoRoad_NoRoad f9)).2) (tQ _ T.ek_BadNote T.sb_BadNote_GuildError (T.xa_BadNote,(aE T.kt_BadNote_BadNote (aE T.kt_BadNote_ValueError (aE T.kt_BadNote_NoHouse (aE T.kt_BadNote_WayThere (aE T.kt_BadNote_NoRoad f9))))).1) (aw (bW (i:=1) (a9 (bp (ag pB (ag pB (ag pB aH))))) rfl rfl) (bW (i:=1) (a9 (dW (fC 1) (oc (bp (ag pB (ag pB aH)))))) rfl rfl)) (zS (I0:=[(.ref a.C_BadNote,.ref a.C_BadNote),(.ty "ValueError",.type "ValueError"),(.ref a.C_NoHouse,.ref a.C_NoHouse)]) (bl:=[true,true,false]) (L':=[(.ref a.C_WayThere,.ref a.C_WayThere),(.ref a.C_NoRoad,.ref a.C_NoRoad)]) (bl':=[false,false]) () (aE T.kt_BadNote_BadNote (aE T.kt_BadNote_ValueError (aE T.kt_BadNote_NoHouse f9))).2 (aE T.kt_BadNote_WayThere (aE T.kt_BadNote_NoRoad f9)).2) Vx))))))
  (bY (a9 (aA Qg (cx (fC 1)) (fx (oF (bp (ag pB (ag pB (ag pB (ag pB (ag pB aH)))))))))))))
def Uu(T:Txt K mg a base):FnOk P w K mg base (u7 P w) 8 a.f_p9 a.d_p9 ["script"] (gy (aK a K) OK (KR (aK a K) .F) m_p9):=by
 refine T.F_p9.okX ni (λ_ _ _ _=>aS) (λ_ _ _ _ _ _ _ _ b h=>?_)
 refine(_,(ae (aI (i:=1) ni.nd rfl (Or.inl rfl) (ay fZ ah (ay bK (aP (qL T) b.mm rfl T.m_s9 T.F_s9.kp T.b_s9 .nil (d7 gg) (aa (pv 0) (aa ah ac))) ah)))
  (ae (aI (i:=2) ni.nd rfl (Or.inl rfl) (aP (QS T) b.mm rfl T.m_bc9 T.F_bc9.kp T.b_bc9 .nil (d7 gg) (aa (aP (qL T) b.mm rfl T.m_s9 T.F_s9.kp T.b_s9 .nil (d7 gg) (aa (pv 0) (aa ah ac))) (aa (pv 1) ac))))
  (ae (aI (i:=3) ni.nd rfl (Or.inl rfl) (aP (Uq T) b.mm rfl T.m_u9 T.F_u9.kp T.b_u9 .nil (d7 gg) (aa (aP (qL T) b.mm rfl T.m_s9 T.F_s9.kp T.b_s9 .nil (d7 gg) (aa (pv 0) (aa ah ac))) (aa (pv 1) ac))))
  (ae (aI (i:=4) ni.nd rfl (Or.inl rfl) (aP (Ur T) b.mm rfl T.m_t9 T.F_t9.kp T.b_t9 .nil (d7 gg) (aa (aP (qL T) b.mm rfl T.m_s9 T.F_s9.kp T.b_s9 .nil (d7 gg) (aa (pv 0) (aa ah ac))) (aa (pv 1) ac))))
  (ae (aI (i:=5) ni.nd rfl (Or.inl rfl) (aP (QU T) b.mm rfl T.m_ba9 T.F_ba9.kp T.b_ba9 .nil (d7 gg) (aa (aP (qL T) b.mm rfl T.m_s9 T.F_s9.kp T.b_s9 .nil (d7 gg) (aa (pv 0) (aa ah ac))) (aa (pv 1) ac))))
  (ae (aI (i:=6) ni.nd rfl (Or.inl rfl) (aP (Up T) b.mm rfl T.m_w9 T.F_w9.kp T.b_w9 .nil (d7 gg) (aa (pv 2) (aa (pv 3) (aa (pv 4) (aa (pv 5) ac))))))
  (ae (cr (aJ eV (ay bK (aP (qL T) b.mm rfl T.m_s9 T.F_s9.kp T.b_s9 .nil (d7 gg) (aa (pv 0) (aa ah ac))) ah) ah (aV _)) (ae (fy W7 rfl (dY rfl T.z_range (aa ah ac)) (b6 (i:=7) ni.nd rfl (Or.inl rfl)) (aj (cr (HV (wZ (aP (Um T) b.mm rfl T.m_y9 T.F_y9.kp T.b_y9 .nil gg (aa (aP (QT T) b.mm rfl T.m_bb9 T.F_bb9.kp T.b_bb9 .nil (d7 gg) (aa (pv 1) (aa (pv 6) (aa (pv 2) (aa (aP (qL T) b.mm rfl T.m_s9 T.F_s9.kp T.b_s9 .nil (d7 gg) (aa (pv 0) (aa (ay fZ ah (pv 7)) ac))) ac))))) ac)))) (aj (bA nn)) bG)))
  (aj (bA nn))) bG)
  (ae (aI (i:=8) ni.nd rfl (Or.inl rfl) (aP (lS T) b.mm rfl T.m_v9 T.F_v9.kp T.b_v9 .nil (d7 gg) (aa (aW (aa ax (aa (pv 1) ac))) ac)))
  (ae (aI (i:=9) ni.nd rfl (Or.inl rfl) (fY (K:=K) rfl XW Yp Yq (fI (K:=K) rfl) ax (aa (ay cZ (aW (aa (pv 8) ac)) (aP (Uo T) b.mm rfl T.m_x9 T.F_x9.kp T.b_x9 .nil (d7 gg) (aa (pv 6) (aa (pv 3) (aa (aP (qL T) b.mm rfl T.m_s9 T.F_s9.kp T.b_s9 .nil (d7 gg) (aa (pv 0) (aa ah ac))) ac))))) ac)))
  (aj (bA (w8 eV (aP (QO T) b.mm rfl T.m_bi9 T.F_bi9.kp T.b_bi9 .nil (d7 gg) (aa (aP (Iy T) b.mm rfl T.m_bf9 T.F_bf9.kp T.b_bf9 .nil gg (aa (pv 9) ac)) ac)) (fY (K:=K) rfl XW Yp Yq (fI (K:=K) rfl) ax (aa (ay cZ (aW (aa (pv 8) ac)) (pv 6)) ac)) (aV _))))))))))))),?_)
 refine bR (Y:=aK a K) (M:=OK) (more:=UZ) (body:=Jl) ?_ rfl rfl (λ_ _ _=>jP) h
 exact(aw (bx (i:=1) (a9 (aA i6 (fx pI) (fx (aA ci (fx (b9 (av (aU (fR 0)) (av (aF pI) aR)) rfl)) (fx pI))))) rfl rfl)
  (aw (bW (i:=2) (a9 (dG (av (aF (b9 (av (aU (fR 0)) (av (aF pI) aR)) rfl)) (av (aF (fF 1)) aR)) rfl)) rfl rfl)
  (aw (bW (i:=3) (a9 (dG (av (aF (b9 (av (aU (fR 0)) (av (aF pI) aR)) rfl)) (av (aF (fF 1)) aR)) rfl)) rfl rfl)
  (aw (bW (i:=4) (a9 (dG (av (aF (b9 (av (aU (fR 0)) (av (aF pI) aR)) rfl)) (av (aF (fF 1)) aR)) rfl)) rfl rfl)
  (aw (bW (i:=5) (a9 (dG (av (aF (b9 (av (aU (fR 0)) (av (aF pI) aR)) rfl)) (av (aF (fF 1)) aR)) rfl)) rfl rfl)
  (aw (bx (i:=6) (a9 (oF (dG (av (aX (cx (fC 2))) (av (aX (cx (fC 3))) (av (aX (cx (fC 4))) (av (aX (cx (fC 5))) aR)))) rfl))) rfl rfl)
  (aw (fj (a9 (cJ (fx (aA i5 (fx (aA ci (fx (b9 (av (aU (fR 0)) (av (aF pI) aR)) rfl)) (fx pI))) (fx pI))))) (aw (iF (a9 (uX (fx pI))) (.inl rfl) (yM (i:=7) rfl rfl) (fj (a9 (Du (Fy (fx (b9 (av (aF (b9 (av (aF (fF 1)) (av (aF (fF 6)) (av (aX (cx (fC 2))) (av (aF (b9 (av (aU (fR 0)) (av (aF (aA i6 (fx pI) (fx (fF 7)))) aR)) rfl)) aR)))) rfl)) aR) rfl))))) (bY (a9 pB)) cR))
  (bY (a9 pB))) cR)
  (aw (bx (i:=8) (a9 (b9 (av (aF (oF (bp (ag pS (ag (fF 1) aH))))) aR) rfl)) rfl rfl)
  (aw (bx (i:=9) (a9 (jT (fx pS) (fx (oF (dW (oc (bp (ag (fF 8) aH))) (oc (dG (av (aF (fF 6)) (av (aX (cx (fC 3))) (av (aF (b9 (av (aU (fR 0)) (av (aF pI) aR)) rfl)) aR))) rfl))))))) rfl rfl)
  (bY (a9 (aA i5 (fx (b9 (av (aF (oF (dG (av (aF (fF 9)) aR) rfl))) aR) rfl)) (fx (jT (fx pS) (fx (oF (dW (oc (bp (ag (fF 8) aH))) (rc (fF 6)))))))))))))))))))
end K09
namespace K09
open PySem L2 Mi Cl
noncomputable section
structure GΩ where
 hω:Int
 U:(DI Bool)
 lω:(DI Int)
 sω:(DI Bool)
 wω:(DI Int)
def aT:GΩ->D:=λg=>.obj 0 ["house_count","ways","likings","shuns","wish_ranks"] [D.int g.hω,(dC D.bl) g.U,(dC D.int) g.lω,(dC D.bl) g.sω,(dC D.int) g.wω]
theorem eZ(g:GΩ):SimR D.int (jg 0 "house_count" (aT g)) (.ok g.hω):=rfl
theorem nr(g:GΩ):SimR (dC D.bl) (jg 0 "ways" (aT g)) (.ok g.U):=rfl
theorem qe(g:GΩ):SimR (dC D.int) (jg 0 "likings" (aT g)) (.ok g.lω):=rfl
theorem sS(g:GΩ):SimR (dC D.bl) (jg 0 "shuns" (aT g)) (.ok g.sω):=rfl
theorem qM(g:GΩ):SimR (dC D.int) (jg 0 "wish_ranks" (aT g)) (.ok g.wω):=rfl
def mk_Guild(size:Int):Res GΩ:=if 1<=size/\size<=60 then .ok (size,[],[],[],[]) else .exc 11
def uY(size:Int):SimR aT (nu 0 BY [.int size]) (mk_Guild size):=by
 ext mk_Guild;by_cases h:1<=size/\size<=60
 · rw[Xx h];have a:¬ size<1:=by omega
   have b:¬ 60<size:=by omega
   show nu 0 BY [.int size]=_;ext nu BY Mi.run;rw[zD];simp[aG,kB,a8,LM,fB,bn,aD,rg,LW,a,b,cz,o4,Ds,gt,yE,c9];rfl
 · rw[if_neg h];show nu 0 BY [.int size]=.exc 11;ext nu BY Mi.run;rw[zD];by_cases a:size<1
   .simp[aG,kB,a8,LM,fB,bn,aD,rg,LW,a,d6]
   · have b:60<size:=by omega
     simp[aG,kB,a8,LM,fB,bn,aD,rg,LW,a,b,d6]
structure S_b9 where
 vvq:GΩ
 voq:(DI Bool)
 v0q:Int
def HF:S_b9->LK:=λs=>[J (aT s.vvq),J ((dC D.bl) s.voq),J (D.int s.v0q)]
abbrev WD:=S_b9->FlC S_b9 (L Int)
def EM:WD:=cI (bv (dF (bB (jx 0) (bB (λg=>.ok g.hω) (pC (·.vvq)))) (aC (NB false) (bB nq (Bv (pC λp=>p.2.v0q) (pC λp=>p.1))) (pC λp=>p.2.voq)) (pC λp=>p.1)))
def Li:WD:=EM
def LG(b:GΩ)(a:DI Bool)(c:Int):OutC S_b9 (L Int):=dh G (Li (b,a,c))
theorem V9:Cl.TJ HF (eL D.int) Jz Li:=bz (aq (gu (gY (bC eZ xp)) (aQ (af (Ox false) (bU jJ (fV xp xp)) xp)) xp))
theorem Pg(b:GΩ)(a:DI Bool)(c:Int):SimO HF (eL D.int) (M6 [aT b,(dC D.bl) a,D.int c]) (LG b a c):=d8 V9 rfl
structure S_l9 where
 vvq:GΩ
def Ht:S_l9->LK:=λs=>[J (aT s.vvq)]
abbrev WB:=S_l9->FlC S_l9 Int
def Ep:WB:=cI (bv (bB (λg=>.ok g.hω) (pC (·.vvq))))
def K9:WB:=Ep
def uP(a:GΩ):OutC S_l9 Int:=dh G (K9 ⟨a⟩)
theorem VZ:Cl.TJ Ht D.int Jp K9:=bz (aq (gL (λ_=>rfl) (bC eZ xp)))
theorem AC(a:GΩ):SimO Ht D.int (BX [aT a]) (uP a):=jh VZ rfl
structure S_n9 where
 vvq:GΩ
def Hr:S_n9->LK:=λs=>[J (aT s.vvq)]
abbrev WA:=S_n9->FlC S_n9 (L ((L Int)×Int))
def Em:WA:=cI (bv (dF (bB Be (bB (λg=>.ok g.wω) (pC (·.vvq)))) (λ_=>.ok true) (Bv (bB Nm (pC λp=>p.1)) (aC Km (bB (λg=>.ok g.wω) (pC λp=>p.2.vvq)) (pC λp=>p.1)))))
def K7:WA:=Em
def N7(a:GΩ):OutC S_n9 (L ((L Int)×Int)):=dh G (K7 ⟨a⟩)
theorem VX:Cl.TJ Hr (eL (rX (eL D.int) D.int)) Jn K7:=bz (aq (gu (cX (bC MS (bC qM xp))) ml (fV (bC DB xp) (gL (λ_=>rfl) (af sT (bC qM xp) xp)))))
theorem Wo(a:GΩ):SimO Hr (eL (rX (eL D.int) D.int)) (Rp [aT a]) (N7 a):=d8 VX rfl
structure S_q9 where
 v3q:Int
 vyq:Option (L Str)
def Hn:S_q9->LK:=λs=>[J (D.int s.v3q),s.vyq.map (eL D.str)]
abbrev NR:=S_q9->FlC S_q9 Str
def Ek:NR:=bI (λa s=>{s with vyq:=J a}) (bv (hZ (Fg ["houses","houses 0","houses 61","houses 01","houses -1","house 3","houses 3 ","Houses 3"])))
def Ej:NR:=bI (λa s=>{s with vyq:=J a}) (bv (aC db (vC (·.vyq)) (hZ (aB (kC ("houses 3 3" : Str)) (aB (kC ("houses 1_0" : Str)) (aB (kC ("houses  3" : Str)) (aB (kC ("" : Str)) (aB (kC ("houses x" : Str)) (aB (aC iH (kC ("houses " : Str)) (bB oE (aC Ue (kC (10:Int)) (kC (60:Int))))) (cK:_->Res (L Str)))))))))))
def Ei:NR:=cI (bv (aC mY (vC (·.vyq)) (aC eE (pC (·.v3q)) (bB kP (vC (·.vyq))))))
def K6:NR:=az Ek
 (az Ej
 Ei)
def N5(a:Int):OutC S_q9 Str:=dh G (K6 (a,G))
theorem VU:Cl.TJ Hn D.str Jk K6:=ao (xs (aq (aY m9)))
 (ao (xs (aq (af fG xv (aY (ar xk (ar xk (ar xk (ar xk (ar xk (ar (af qh xk (bC zq (af UH xk xk))) bf))))))))))
 (bz (aq (af ft xv (af cp xp (bC f7 xv))))))
theorem Wl(a:Int):SimO Hn D.str (m_q9 [D.int a]) (N5 a):=jh VU rfl
structure S_r9 where
 v3q:Int
 vyq:Option (L Str)
def Hl:S_r9->LK:=λs=>[J (D.int s.v3q),s.vyq.map (eL D.str)]
abbrev CI:=S_r9->FlC S_r9 Str
def Eh:CI:=bI (λa s=>{s with vyq:=J a}) (bv (hZ (Fg [""," ","way","way 0","way 0 0","way 0 60","way 0 1 2","way -1 0","way 0 x","ways 0 1"])))
def Eg:CI:=bI (λa s=>{s with vyq:=J a}) (bv (aC db (vC (·.vyq)) (hZ (Fg ["like","like 0 0","like 0 0 +1","like 0 0 01","like 0 0 -0","like 0 0 1 ","like  0 0 1"]))))
def Ef:CI:=bI (λa s=>{s with vyq:=J a}) (bv (aC db (vC (·.vyq)) (hZ (aB (kC ("like 0 0 1." : Str)) (aB (kC ("like 0 60 1" : Str)) (aB (aC iH (kC ("like 0 0 1" : Str)) (aC Oy (kC ("0" : Str)) (kC (60:Int)))) (aB (kC ("Like 0 0 1" : Str)) (aB (kC ("like 0 0 -" : Str)) (aB (kC ("like 0 00 1" : Str)) (cK:_->Res (L Str)))))))))))
def Ee:CI:=bI (λa s=>{s with vyq:=J a}) (bv (aC db (vC (·.vyq)) (hZ (Fg ["shun 0","shun 0 0","shun 0 60","wish","wish 1","wish 1 0","wish 1 0 0","wish x 1 0"]))))
def Ed:CI:=bI (λa s=>{s with vyq:=J a}) (bv (aC db (vC (·.vyq)) (hZ (Fg [" like 0 0 1","houses 7","none","like 0 0 1_0","like 0 0 1__0","like 0 0_0 1","like 0 0 -01"]))))
def Ec:CI:=cI (bv (aC mY (vC (·.vyq)) (aC eE (pC (·.v3q)) (bB kP (vC (·.vyq))))))
def K5:CI:=az Eh
 (az Eg
 (az Ef
 (az Ee
 (az Ed
 Ec))))
def N0(a:Int):OutC S_r9 Str:=dh G (K5 (a,G))
theorem VT:Cl.TJ Hl D.str Jj K5:=ao (xs (aq (aY m9)))
 (ao (xs (aq (af fG xv (aY m9))))
 (ao (xs (aq (af fG xv (aY (ar xk (ar xk (ar (af qh xk (af QX xk xk)) (ar xk (ar xk (ar xk bf))))))))))
 (ao (xs (aq (af fG xv (aY m9))))
 (ao (xs (aq (af fG xv (aY m9))))
 (bz (aq (af ft xv (af cp xp (bC f7 xv)))))))))
theorem Wk(a:Int):SimO Hl D.str (m_r9 [D.int a]) (N0 a):=jh VT rfl
structure S_s9 where
 vtq:(L Int)
 veq:Int
def Hk:S_s9->LK:=λs=>[J (eS s.vtq),J (D.int s.veq)]
abbrev NQ:=S_s9->FlC S_s9 Int
def rh:NQ:=cI (bv (aC mY (pC (·.vtq)) (pC (·.veq))))
def Eb:NQ:=lH (bv (aC M7 (pC (·.veq)) (bB kP (pC (·.vtq)))))
 rh
 cQ
def Ea:NQ:=cI (bv (kC (0:Int)))
def K4:NQ:=az Eb
 Ea
def rO(a:L Int)(b:Int):OutC S_s9 Int:=dh G (K4 (a,b))
theorem VS:Cl.TJ Hk D.int Ji K4:=ao (cy (aq (aQ (af BC xp (bC QZ xp))))
 (bz (aq (gL (λ_=>rfl) (af UI xp xp))))
 bJ)
 (bz (aq xk))
theorem rB(a:L Int)(b:Int):SimO Hk D.int (m_s9 [eS a,D.int b]) (rO a b):=jh VS rfl
structure S_u9 where
 v3q:Int
 vxq:Int
 v9q:Option (DI Int)
 veq:Option Int
def Hi:S_u9->LK:=λs=>[J (D.int s.v3q),J (D.int s.vxq),s.v9q.map (dC D.int),s.veq.map D.int]
abbrev CH:=S_u9->FlC S_u9 (DI Int)
def D7:CH:=bI (λa s=>{s with v9q:=J a}) (bv (kC ([]:DI Int)))
def wo:CH:=bI (λa s=>{s with v3q:=a}) (bv (aC eE (aC mO (aC FG (pC (·.v3q)) (kC (48271:Int))) (kC (11:Int))) (kC (2147483647:Int))))
def wn:CH:=q8 (λs=>s.v9q) (λs y=>{s with v9q:=J y}) (bB nq (Bv (aC eE (pC (·.v3q)) (pC (·.vxq))) (aC eE (aC gE (pC (·.v3q)) (kC (7:Int))) (pC (·.vxq))))) (bv (aC Ff (aC eE (aC gE (pC (·.v3q)) (kC (49:Int))) (kC (7:Int))) (kC (3:Int))))
def yp:CH:=az wo
 wn
def D6:CH:=dt (bB (jx 0) (aC eE (pC (·.v3q)) (kC (5:Int)))) (λa s=>{s with veq:=J a})
 yp
def D5:CH:=cI (DC (λs=>s.v9q) (λs=>{s with v9q:=G}))
def K3:CH:=az D7
 (az D6
 D5)
def NZ(b:Int)(a:Int):OutC S_u9 (DI Int):=dh G (K3 (b,a,G,G))
theorem VQ:Cl.TJ Hi (dC D.int) Jg K3:=ao (xs (aq (xE rfl)))
 (ao (di (gY (af cp xp xk)) (λ_ _=>rfl)
 (ao (xs (aq (af cp (af ja (af zr xp xk) xk) xk)))
 (kF (λ_=>rfl) (λ_ _=>rfl) (bU jJ (fV (af cp xp xp) (af cp (af fc xp xk) xp))) (aq (af zp (af cp (af fc xp xk) xk) xk)))))
 (bz (lE (λ_=>rfl) (λ_=>rfl))))
theorem Wi(b:Int)(a:Int):SimO Hi (dC D.int) (m_u9 [D.int b,D.int a]) (NZ b a):=d8 VQ rfl
structure S_v9 where
 vCq:(L D)
def Hh:S_v9->LK:=λs=>[J ((eL eA) s.vCq)]
abbrev Wz:=S_v9->FlC S_v9 Str
def D4:Wz:=cI (bv (aC iH (aC gr (kC (" " : Str)) (dF (pC (·.vCq)) (λ_=>.ok true) (bB ss (pC λp=>p.1)))) (kC ("\n" : Str))))
def K2:Wz:=D4
def gw(a:L D):OutC S_v9 Str:=dh G (K2 ⟨a⟩)
theorem VP:Cl.TJ Hh D.str Jf K2:=bz (aq (af qh (gb jU xk (gu (cX xp) ml (bC MQ xp))) xk))
theorem mH(a:L D):SimO Hh D.str (m_v9 [(eL eA) a]) (gw a):=jh VP rfl
structure S_z9 where
 v3q:Int
 vcq:Int
 vxq:Int
 vqq:Option (L Int)
 vrq:Option (L Int)
 viq:Option Int
def Bp:S_z9->LK:=λs=>[J (D.int s.v3q),J (D.int s.vcq),J (D.int s.vxq),s.vqq.map (eL D.int),s.vrq.map (eL D.int),s.viq.map D.int]
abbrev qC:=S_z9->FlC S_z9 (L Int)
def xN:qC:=bI (λa s=>{s with vqq:=J a}) (bv (dF (aC jx (kC (1:Int)) (pC (·.vxq))) (aC (kS true) (pC λp=>p.1) (pC λp=>p.2.vcq)) (pC λp=>p.1)))
def xM:qC:=bI (λa s=>{s with vrq:=J a}) (bv (hZ (aB (pC (·.vcq)) (cK:_->Res (L Int)))))
def xL:qC:=bI (λa s=>{s with viq:=J a}) (bv (aC eE (pC (·.v3q)) (kC (4:Int))))
def q9:qC:=bI (λa s=>{s with viq:=J a}) (bv (pC (·.vxq)))
def xK:qC:=lH (bv (aC (kS false) (aC eE (aC gE (pC (·.v3q)) (kC (4:Int))) (kC (8:Int))) (kC (3:Int))))
 q9
 cQ
def xJ:qC:=bI (λa s=>{s with v3q:=a}) (bv (aC gE (pC (·.v3q)) (kC (4:Int))))
def wm:qC:=bS (SZ (λs=>s.vrq) (λs y=>{s with vrq:=J y}) (qj (λs=>s.vqq) (λs y=>{s with vqq:=J y}) Ia (aC eE (pC (·.v3q)) (bB kP (vC (·.vqq))))))
def wk:qC:=bI (λa s=>{s with v3q:=a}) (bv (aC gE (pC (·.v3q)) (kC (5:Int))))
def wj:qC:=bI (λa s=>{s with viq:=J a}) (bv (aC Ff (vC (·.viq)) (kC (1:Int))))
def yn:qC:=az wm
 (az wk
 wj)
def D2:qC:=Pl (bv (rN (aC O8 (vC (·.viq)) (kC (0:Int))) (aC O8 (bB kP (vC (·.vqq))) (kC (0:Int)))))
 yn 100000
def D1:qC:=cI (bv (aC db (vC (·.vrq)) (hZ (aB (kC (0:Int)) (cK:_->Res (L Int))))))
def KY:qC:=az xN
 (az xM
 (az xL
 (az xK
 (az xJ
 (az D2
 D1)))))
def NW(c:Int)(a:Int)(b:Int):OutC S_z9 (L Int):=dh G (KY (c,a,b,G,G,G))
theorem VL:Cl.TJ Bp (eL D.int) Jb KY:=ao (xs (aq (gu (Ce xk xp) (aQ (af (fE true) xp xp)) xp)))
 (ao (xs (aq (aY (ar xp bf))))
 (ao (xs (aq (af cp xp xk)))
 (ao (cy (aq (aQ (af (fE false) (af cp (af fc xp xk) xk) xk)))
 (xs (aq xp))
 bJ)
 (ao (xs (aq (af fc xp xk)))
 (ao (GC (Y:=Bp) (aq (gZ (aQ (af IC xv xk)) (aQ (af IC (bC f7 xv) xk))))
 (ao (ba (Q7 (λ_=>rfl) (λ_ _=>rfl) (hV (λ_=>rfl) (λ_ _=>rfl) VC (af cp xp (bC f7 xv)))))
 (ao (xs (aq (af fc xp xk)))
 (xs (aq (af zp xv xk))))) 100000)
 (bz (aq (af fG xv (aY (ar xk bf))))))))))
theorem Wd(c:Int)(a:Int)(b:Int):SimO Bp (eL D.int) (m_z9 [D.int c,D.int a,D.int b]) (NW c a b):=d8 VL rfl
structure S_ba9 where
 v3q:Int
 vxq:Int
 vwq:Option L4
 veq:Option Int
 v0q:Option Int
 v2q:Option Int
def Dj:S_ba9->LK:=λs=>[J (D.int s.v3q),J (D.int s.vxq),s.vwq.map (eL (rX D.int D.int)),s.veq.map D.int,s.v0q.map D.int,s.v2q.map D.int]
abbrev lG:=S_ba9->FlC S_ba9 L4
def uH:lG:=bI (λa s=>{s with vwq:=J a}) (bv (hZ (cK:_->Res L4)))
def pH:lG:=cI (DC (λs=>s.vwq) (λs=>{s with vwq:=G}))
def uG:lG:=lH (bv (aC M7 (pC (·.vxq)) (kC (2:Int))))
 pH
 cQ
def og:lG:=bI (λa s=>{s with v3q:=a}) (bv (aC eE (aC mO (aC FG (pC (·.v3q)) (kC (48271:Int))) (kC (23:Int))) (kC (2147483647:Int))))
def nZ:lG:=bI (λa s=>{s with v0q:=J a}) (bv (aC eE (pC (·.v3q)) (pC (·.vxq))))
def nY:lG:=bI (λa s=>{s with v2q:=J a}) (bv (aC eE (aC mO (aC mO (vC (·.v0q)) (kC (1:Int))) (aC eE (aC gE (pC (·.v3q)) (kC (7:Int))) (aC Ff (pC (·.vxq)) (kC (1:Int))))) (pC (·.vxq))))
def mE:lG:=bS (qj (λs=>s.vwq) (λs y=>{s with vwq:=J y}) lx (Bv (vC (·.v0q)) (vC (·.v2q))))
def nX:lG:=lH (bv (aC (inC true) (Bv (vC (·.v0q)) (vC (·.v2q))) (vC (·.vwq))))
 mE
 cQ
def pM:lG:=az og
 (az nZ
 (az nY
 nX))
def Az:lG:=dt (bB (jx 0) (aC eE (pC (·.v3q)) (kC (3:Int)))) (λa s=>{s with veq:=J a})
 pM
def Ay:lG:=cI (DC (λs=>s.vwq) (λs=>{s with vwq:=G}))
def yt:lG:=az uH
 (az uG
 (az Az
 Ay))
def AU(b:Int)(a:Int):OutC S_ba9 L4:=dh G (yt (b,a,G,G,G,G))
theorem Sw:Cl.TJ Dj (eL (rX D.int D.int)) BU yt:=ao (xs (aq (aY bf)))
 (ao (cy (aq (aQ (af BC xp xk)))
 (bz (lE (λ_=>rfl) (λ_=>rfl)))
 bJ)
 (ao (di (gY (af cp xp xk)) (λ_ _=>rfl)
 (ao (xs (aq (af cp (af ja (af zr xp xk) xk) xk)))
 (ao (xs (aq (af cp xp xp)))
 (ao (xs (aq (af cp (af ja (af ja xv xk) (af cp (af fc xp xk) (af zp xp xk))) xp)))
 (cy (aq (aQ (af (QW (Se Pd Pd) ()) (fV xv xv) xv)))
 (ba (hV (λ_=>rfl) (λ_ _=>rfl) l9 (fV xv xv)))
 bJ)))))
 (bz (lE (λ_=>rfl) (λ_=>rfl)))))
theorem SL(b:Int)(a:Int):SimO Dj (eL (rX D.int D.int)) (m_ba9 [D.int b,D.int a]) (AU b a):=d8 Sw rfl
structure S_bc9 where
 v3q:Int
 vxq:Int
 vuq:Option Int
 vAq:Option L4
 veq:Option Int
 v0q:Option Int
 v2q:Option Int
def Dh:S_bc9->LK:=λs=>[J (D.int s.v3q),J (D.int s.vxq),s.vuq.map D.int,s.vAq.map (eL (rX D.int D.int)),s.veq.map D.int,s.v0q.map D.int,s.v2q.map D.int]
abbrev mP:=S_bc9->FlC S_bc9 L4
def Ax:mP:=bI (λa s=>{s with vuq:=J a}) (bv (aC eE (aC FG (aC eE (aC FG (aC mO (pC (·.v3q)) (kC (1:Int))) (kC (48271:Int))) (kC (2147483647:Int))) (kC (16807:Int))) (kC (2147483647:Int))))
def Aw:mP:=bI (λa s=>{s with vAq:=J a}) (bv (hZ (cK:_->Res L4)))
def Av:mP:=bI (λa s=>{s with veq:=J a}) (bv (kC (0:Int)))
def kq:mP:=bS (qj (λs=>s.vAq) (λs y=>{s with vAq:=J y}) lx (Bv (vC (·.v0q)) (vC (·.v2q))))
def k7:mP:=lH (bv (aC (kS false) (aC eE (aC TK (vC (·.vuq)) (aC eE (vC (·.veq)) (kC (29:Int)))) (kC (2:Int))) (kC (1:Int))))
 kq
 cQ
def k6:mP:=bI (λa s=>{s with veq:=J a}) (bv (aC mO (vC (·.veq)) (kC (1:Int))))
def lp:mP:=az k7
 k6
def nV:mP:=dt (aC jx (aC mO (vC (·.v0q)) (kC (1:Int))) (pC (·.vxq))) (λa s=>{s with v2q:=J a})
 lp
def Au:mP:=dt (bB (jx 0) (pC (·.vxq))) (λa s=>{s with v0q:=J a})
 nV
def At:mP:=cI (DC (λs=>s.vAq) (λs=>{s with vAq:=G}))
def Ct:mP:=az Ax
 (az Aw
 (az Av
 (az Au
 At)))
def E5(b:Int)(a:Int):OutC S_bc9 L4:=dh G (Ct (b,a,G,G,G,G,G))
theorem Su:Cl.TJ Dh (eL (rX D.int D.int)) BR Ct:=ao (xs (aq (af cp (af zr (af cp (af zr (af ja xp xk) xk) xk) xk) xk)))
 (ao (xs (aq (aY bf)))
 (ao (xs (aq xk))
 (ao (di (gY xp) (λ_ _=>rfl)
 (di (Ce (af ja xv xk) xp) (λ_ _=>rfl)
 (ao (cy (aq (aQ (af (fE false) (af cp (af UG xv (af cp xv xk)) xk) xk)))
 (ba (hV (λ_=>rfl) (λ_ _=>rfl) l9 (fV xv xv)))
 bJ)
 (xs (aq (af ja xv xk))))))
 (bz (lE (λ_=>rfl) (λ_=>rfl))))))
theorem SI(b:Int)(a:Int):SimO Dh (eL (rX D.int D.int)) (m_bc9 [D.int b,D.int a]) (E5 b a):=d8 Su rfl
structure S_be9 where
 vBq:Str
 v8q:Option Str
def Df:S_be9->LK:=λs=>[J (D.str s.vBq),s.v8q.map D.str]
abbrev pP:=S_be9->FlC S_be9 Int
def uz:pP:=bI (λa s=>{s with v8q:=J a}) (bv (Nk (aC sv (pC (·.vBq)) (kC ("-" : Str))) (aC xI (pC (·.vBq)) (kC (1:Int))) (pC (·.vBq))))
def ym:pP:=eO 17
def uy:pP:=lH (bv (WL (aC M7 (bB DJ (vC (·.v8q))) (kC (1:Int))) (aC O8 (bB DJ (vC (·.v8q))) (kC (60:Int)))))
 ym
 cQ
def yk:pP:=eO 17
def uw:pP:=lH (bv (bB S0 (dF (bB Py (vC (·.v8q))) (λ_=>.ok true) (aC zx (pC λp=>p.1) (kC ("0123456789" : Str))))))
 yk
 cQ
def yj:pP:=eO 17
def pw:pP:=lH (bv (rN (aC (kS false) (aC Nj (vC (·.v8q)) (kC (0:Int))) (kC ("0" : Str))) (aC (kS true) (pC (·.vBq)) (kC ("0" : Str)))))
 yj
 cQ
def uv:pP:=cI (bv (bB JW (pC (·.vBq))))
def Cr:pP:=az uz
 (az uy
 (az uw
 (az pw
 uv)))
def pR(a:Str):OutC S_be9 Int:=dh G (Cr (a,G))
theorem Sr:Cl.TJ Df D.int BP Cr:=ao (xs (aq (Sb (aQ (gb MR xp xk)) (af MV xp xk) xp)))
 (ao (cy (aq (Cf (aQ (af BC (bC zt xv) xk)) (aQ (af IC (bC zt xv) xk))))
 dO
 bJ)
 (ao (cy (aq (aQ (bC UL (gu (Kf xv) ml (af QV xp xk)))))
 dO
 bJ)
 (ao (cy (aq (gZ (aQ (af (lT false) (af MU xv xk) xk)) (aQ (af (lT true) xp xk))))
 dO
 bJ)
 (bz (aq (bC Q0 xp))))))
theorem KW(a:Str):SimO Df D.int (m_be9 [D.str a]) (pR a):=jh Sr rfl
structure S_bg9 where
 vdq:(L Int)
 v4q:Int
def Dd:S_bg9->LK:=λs=>[J ((eL D.int) s.vdq),J (D.int s.v4q)]
abbrev Lv:=S_bg9->FlC S_bg9 Unit
def yi:Lv:=eO 11
def Ar:Lv:=lH (bv (WL (aC M7 (aC JH (pC (·.vdq)) (kC (0:Int))) (kC (0:Int))) (aC geC (aC O0 (pC (·.vdq)) (kC (0:Int))) (pC (·.v4q)))))
 yi
 cQ
def Cq:Lv:=Ar
def E3(a:L Int)(b:Int):OutC S_bg9 Unit:=dh (J j2) (Cq (a,b))
theorem Sn:Cl.TJ Dd eN BN Cq:=cy (aq (Cf (aQ (af BC (af MT xp xk) xk)) (aQ (af Xa (af QY xp xk) xp))))
 dO
 bJ
theorem SG(a:L Int)(b:Int):SimO Dd eN (m_bg9 [(eL D.int) a,D.int b]) (E3 a b):=o7 (d:=j2) rfl Sn rfl
structure S_bh9 where
 vzq:Str
def Dc:S_bh9->LK:=λs=>[J (D.str s.vzq)]
abbrev EU:=S_bh9->FlC S_bh9 (L (L Str))
def pp:EU:=eO 17
def pq:EU:=lH (bv (bB Q3 (aC Nx (pC (·.vzq)) (kC ("\n" : Str)))))
 pp
 cQ
def Aq:EU:=cI (bv (dF (aC jO (aC jX (pC (·.vzq)) (bB BG (kC (1:Int)))) (kC ("\n" : Str))) (λ_=>.ok true) (aC jO (pC λp=>p.1) (kC (" " : Str)))))
def yr:EU:=az pq
 Aq
def mR(a:Str):OutC S_bh9 (L (L Str)):=dh G (yr ⟨a⟩)
theorem Sm:Cl.TJ Dc (eL (eL D.str)) BM yr:=ao (cy (aq (DW (aQ (gb UK xp xk))))
 dO
 bJ)
 (bz (aq (gu (cX (gb xi (af xm xp (bC DA xk)) xk)) ml (gb xi xp xk))))
theorem SF(a:Str):SimO Dc (eL (eL D.str)) (m_bh9 [D.str a]) (mR a):=d8 Sm rfl
structure S_g9 where
 vvq:GΩ
 vdq:(L Int)
def Hz:S_g9->LK:=λs=>[J (aT s.vvq),J ((eL D.int) s.vdq)]
abbrev WC:=S_g9->FlC S_g9 Unit
def EC:WC:=bS (bv (g9 E3 (pC (·.vdq)) (bB (λg=>.ok g.hω) (pC (·.vvq)))))
def Le:WC:=EC
def yC(b:GΩ)(a:L Int):OutC S_g9 Unit:=dh (J j2) (Le (b,a))
theorem V4:Cl.TJ Hz eN Ju Le:=ba (aq (gM (λa0 a=>SG a0 a) xp (gL (λ_=>rfl) (bC eZ xp))))
theorem wx(b:GΩ)(a:L Int):SimO Hz eN (zE [aT b,(eL D.int) a]) (yC b a):=o7 (d:=j2) rfl V4 rfl
structure S_t9 where
 v3q:Int
 vxq:Int
 v6q:Option (DI Int)
 veq:Option Int
 vrq:Option (L Int)
def Hj:S_t9->LK:=λs=>[J (D.int s.v3q),J (D.int s.vxq),s.v6q.map (dC D.int),s.veq.map D.int,s.vrq.map (eL D.int)]
abbrev u6:=S_t9->FlC S_t9 (DI Int)
def x6:u6:=bI (λa s=>{s with v6q:=J a}) (bv (kC ([]:DI Int)))
def re:u6:=cI (DC (λs=>s.v6q) (λs=>{s with v6q:=G}))
def x5:u6:=lH (bv (aC M7 (pC (·.vxq)) (kC (2:Int))))
 re
 cQ
def wu:u6:=bI (λa s=>{s with v3q:=a}) (bv (aC eE (aC mO (aC FG (pC (·.v3q)) (kC (48271:Int))) (kC (17:Int))) (kC (2147483647:Int))))
def wt:u6:=bI (λa s=>{s with vrq:=J a}) (bv (w9 NW (aC gE (pC (·.v3q)) (kC (9:Int))) (aC mO (kC (1:Int)) (aC eE (pC (·.v3q)) (aC Ff (pC (·.vxq)) (kC (1:Int))))) (pC (·.vxq))))
def wq:u6:=q8 (λs=>s.v6q) (λs y=>{s with v6q:=J y}) (bB Nm (vC (·.vrq))) (bv (aC Ff (aC eE (aC gE (pC (·.v3q)) (kC (5:Int))) (kC (9:Int))) (kC (4:Int))))
def yq:u6:=az wu
 (az wt
 wq)
def D9:u6:=dt (bB (jx 0) (aC eE (pC (·.v3q)) (kC (4:Int)))) (λa s=>{s with veq:=J a})
 yq
def D8:u6:=cI (DC (λs=>s.v6q) (λs=>{s with v6q:=G}))
def EN:u6:=az x6
 (az x5
 (az D9
 D8))
def LA(b:Int)(a:Int):OutC S_t9 (DI Int):=dh G (EN (b,a,G,G,G))
theorem VR:Cl.TJ Hj (dC D.int) Jh EN:=ao (xs (aq (xE rfl)))
 (ao (cy (aq (aQ (af BC xp xk)))
 (bz (lE (λ_=>rfl) (λ_=>rfl)))
 bJ)
 (ao (di (gY (af cp xp xk)) (λ_ _=>rfl)
 (ao (xs (aq (af cp (af ja (af zr xp xk) xk) xk)))
 (ao (xs (aq (Kh (λa0 b a=>Wd a0 b a) (af fc xp xk) (af ja xk (af cp xp (af zp xp xk))) xp)))
 (kF (λ_=>rfl) (λ_ _=>rfl) (bC Ov xv) (aq (af zp (af cp (af fc xp xk) xk) xk))))))
 (bz (lE (λ_=>rfl) (λ_=>rfl)))))
theorem Wj(b:Int)(a:Int):SimO Hj (dC D.int) (m_t9 [D.int b,D.int a]) (LA b a):=d8 VR rfl
structure S_w9 where
 vAq:L4
 v9q:(DI Int)
 v6q:(DI Int)
 vwq:L4
 vhq:Option (L Str)
 vnq:Option (L Int)
def Hg:S_w9->LK:=λs=>[J ((eL (rX D.int D.int)) s.vAq),J ((dC D.int) s.v9q),J ((dC D.int) s.v6q),J ((eL (rX D.int D.int)) s.vwq),s.vhq.map (eL D.str),s.vnq.map (pd D.int)]
abbrev CG:=S_w9->FlC S_w9 (L Str)
def x4:CG:=bI (λa s=>{s with vhq:=J a}) (bv (oh (bB gD (bB CJ (pC (·.vAq)))) (cA gw (hZ (aB (bB eC (kC ("way" : Str))) (aB (bB cq (pC λp=>p.1)) (aB (bB cq (pC λp=>p.2)) (cK:_->Res (L D)))))))))
def nC:CG:=bS (qj (λs=>s.vhq) (λs y=>{s with vhq:=J y}) lx (cA gw (hZ (aB (bB eC (kC ("like" : Str))) (aB (bB cq (aC mY (vC (·.vnq)) (kC (0:Int)))) (aB (bB cq (aC mY (vC (·.vnq)) (kC (1:Int)))) (aB (bB cq (aC Km (pC (·.v9q)) (vC (·.vnq)))) (cK:_->Res (L D)))))))))
def kn:CG:=lH (bv (aC (kS true) (aC Km (pC (·.v9q)) (vC (·.vnq))) (kC (0:Int))))
 nC
 cQ
def rZ:CG:=dt (bB gD (bB qT (pC (·.v9q)))) (λa s=>{s with vnq:=J a})
 kn
def xZ:CG:=bI (λa s=>{s with vhq:=J a}) (bv (aC db (vC (·.vhq)) (oh (bB gD (bB CJ (pC (·.vwq)))) (cA gw (hZ (aB (bB eC (kC ("shun" : Str))) (aB (bB cq (pC λp=>p.1)) (aB (bB cq (pC λp=>p.2)) (cK:_->Res (L D))))))))))
def xY:CG:=cI (bv (aC db (vC (·.vhq)) (dF (bB gD (bB qT (pC (·.v6q)))) (λ_=>.ok true) (cA gw (aC db (hZ (aB (bB eC (kC ("wish" : Str))) (aB (bB cq (aC Km (pC λp=>p.2.v6q) (pC λp=>p.1))) (cK:_->Res (L D))))) (bB (rH D.int) (bB Nm (pC λp=>p.1))))))))
def K1:CG:=az x4
 (az rZ
 (az xZ
 xY))
def Lz(a:L4)(b:DI Int)(c:DI Int)(d:L4):OutC S_w9 (L Str):=dh G (K1 (a,b,c,d,G,G))
theorem VO:Cl.TJ Hg (eL D.str) Je K1:=ao (xs (aq (z0 (cX (bC oO (bU Lq xp))) (cw (λa0=>mH a0) (aY (ar (bU g7 xk) (ar (bU cB (gL (λ_=>rfl) xp)) (ar (bU cB (gL (λ_=>rfl) xp)) bf))))))))
 (ao (di (cX (bC oO (bC xj xp))) (λ_ _=>rfl)
 (cy (aq (aQ (af (fE true) (af sT xp xv) xk)))
 (ba (hV (λ_=>rfl) (λ_ _=>rfl) l9 (cw (λa0=>mH a0) (aY (ar (bU g7 xk) (ar (bU cB (af qf xv xk)) (ar (bU cB (af qf xv xk)) (ar (bU cB (gL (λ_=>rfl) (af sT xp xv))) bf))))))))
 bJ))
 (ao (xs (aq (af fG xv (z0 (cX (bC oO (bU Lq xp))) (cw (λa0=>mH a0) (aY (ar (bU g7 xk) (ar (bU cB (gL (λ_=>rfl) xp)) (ar (bU cB (gL (λ_=>rfl) xp)) bf)))))))))
 (bz (aq (af fG xv (gu (cX (bC oO (bC xj xp))) ml (cw (λa0=>mH a0) (af fG (aY (ar (bU g7 xk) (ar (bU cB (gL (λ_=>rfl) (af sT xp xp))) bf))) (bU yy (bC DB xp))))))))))
theorem Wh(a:L4)(b:DI Int)(c:DI Int)(d:L4):SimO Hg (eL D.str) (m_w9 [(eL (rX D.int D.int)) a,(dC D.int) b,(dC D.int) c,(eL (rX D.int D.int)) d]) (Lz a b c d):=d8 VO rfl
structure S_x9 where
 vhq:(L Str)
 v9q:(DI Int)
 v3q:Int
 vmq:Option (L Str)
 vnq:Option (L Int)
 v5q:Option Int
 vgq:Option Str
 vCq:Option (L Str)
def Hf:S_x9->LK:=λs=>[J ((eL D.str) s.vhq),J ((dC D.int) s.v9q),J (D.int s.v3q),s.vmq.map (eL D.str),s.vnq.map (pd D.int),s.v5q.map D.int,s.vgq.map D.str,s.vCq.map (eL D.str)]
abbrev ky:=S_x9->FlC S_x9 (L Str)
def xX:ky:=bI (λa s=>{s with vmq:=J a}) (bv (hZ (cK:_->Res (L Str))))
def qy:ky:=bS (qj (λs=>s.vmq) (λs y=>{s with vmq:=J y}) lx (cA gw (hZ (aB (bB eC (kC ("like" : Str))) (aB (bB cq (aC mY (vC (·.vnq)) (kC (0:Int)))) (aB (bB cq (aC mY (vC (·.vnq)) (kC (1:Int)))) (aB (bB cq (aC mO (kC (5:Int)) (aC eE (pC (·.v3q)) (kC (3:Int))))) (cK:_->Res (L D)))))))))
def xW:ky:=dt (bB qT (pC (·.v9q))) (λa s=>{s with vnq:=J a})
 qy
def xV:ky:=bI (λa s=>{s with v5q:=J a}) (bv (aC eE (pC (·.v3q)) (aC mO (bB kP (pC (·.vhq))) (kC (1:Int)))))
def xU:ky:=bI (λa s=>{s with vhq:=a}) (bv (aC db (aC ji (pC (·.vhq)) (vC (·.v5q))) (aC yN (pC (·.vhq)) (vC (·.v5q)))))
def nB:ky:=bS (qj (λs=>s.vmq) (λs y=>{s with vmq:=J y}) lx (cA gw (hZ (aB (bB eC (kC ("like" : Str))) (aB (bB cq (aC mY (vC (·.vnq)) (kC (0:Int)))) (aB (bB cq (aC mY (vC (·.vnq)) (kC (1:Int)))) (aB (bB cq (kC (0:Int))) (cK:_->Res (L D)))))))))
def nc:ky:=lH (bv (aC (kS false) (aC Km (pC (·.v9q)) (vC (·.vnq))) (kC (0:Int))))
 nB
 cQ
def xT:ky:=dt (bB qT (pC (·.v9q))) (λa s=>{s with vnq:=J a})
 nc
def qx:ky:=bI (λa s=>{s with vCq:=J a}) (bv (aC jO (aC jX (vC (·.vgq)) (bB BG (kC (1:Int)))) (kC (" " : Str))))
def nA:ky:=bI (λa s=>{s with vgq:=J a}) (bv (cA gw (bB (rH D.str) (hZ (aB (kC ("way" : Str)) (aB (aC mY (vC (·.vCq)) (kC (2:Int))) (aB (aC mY (vC (·.vCq)) (kC (1:Int))) (cK:_->Res (L Str)))))))))
def jG:ky:=bS (qj (λs=>s.vmq) (λs y=>{s with vmq:=J y}) lx (cA gw (aC db (hZ (aB (bB eC (kC ("wish" : Str))) (aB (bB cq (aC mO (kC (5:Int)) (aC eE (pC (·.v3q)) (kC (4:Int))))) (cK:_->Res (L D))))) (bB (rH D.str) (aC ji (vC (·.vCq)) (kC (2:Int)))))))
def cD:ky:=lH (bv (rN (aC (kS false) (aC mY (vC (·.vCq)) (kC (0:Int))) (kC ("wish" : Str))) (aC (kS false) (aC eE (aC gE (pC (·.v3q)) (kC (14:Int))) (kC (3:Int))) (kC (1:Int)))))
 jG
 cQ
def dZ:ky:=lH (bv (rN (aC (kS false) (aC mY (vC (·.vCq)) (kC (0:Int))) (kC ("way" : Str))) (aC (kS false) (aC eE (aC gE (pC (·.v3q)) (kC (7:Int))) (kC (2:Int))) (kC (1:Int)))))
 nA
 cD
def g6:ky:=bS (qj (λs=>s.vmq) (λs y=>{s with vmq:=J y}) lx (vC (·.vgq)))
def fq:ky:=lH (bv (rN (aC (kS true) (aC mY (vC (·.vCq)) (kC (0:Int))) (kC ("way" : Str))) (aC (kS false) (aC eE (aC gE (pC (·.v3q)) (kC (42:Int))) (kC (2:Int))) (kC (1:Int)))))
 g6
 cQ
def fo:ky:=bS (qj (λs=>s.vmq) (λs y=>{s with vmq:=J y}) lx (vC (·.vgq)))
def r9:ky:=az qx
 (az dZ
 (az fq
 fo))
def xS:ky:=dt (pC (·.vhq)) (λa s=>{s with vgq:=J a})
 r9
def D3:ky:=cI (DC (λs=>s.vmq) (λs=>{s with vmq:=G}))
def K0:ky:=az xX
 (az xW
 (az xV
 (az xU
 (az xT
 (az xS
 D3)))))
def NY(a:L Str)(b:DI Int)(c:Int):OutC S_x9 (L Str):=dh G (K0 (a,b,c,G,G,G,G,G))
theorem VN:Cl.TJ Hf (eL D.str) Jd K0:=ao (xs (aq (aY bf)))
 (ao (di (cX (bC xj xp)) (λ_ _=>rfl)
 (ba (hV (λ_=>rfl) (λ_ _=>rfl) l9 (cw (λa0=>mH a0) (aY (ar (bU g7 xk) (ar (bU cB (af qf xv xk)) (ar (bU cB (af qf xv xk)) (ar (bU cB (af ja xk (af cp xp xk))) bf)))))))))
 (ao (xs (aq (af cp xp (af ja (bC f7 xp) xk))))
 (ao (xs (aq (af fG (af qg xp xv) (af IA xp xv))))
 (ao (di (cX (bC xj xp)) (λ_ _=>rfl)
 (cy (aq (aQ (af (fE false) (af sT xp xv) xk)))
 (ba (hV (λ_=>rfl) (λ_ _=>rfl) l9 (cw (λa0=>mH a0) (aY (ar (bU g7 xk) (ar (bU cB (af qf xv xk)) (ar (bU cB (af qf xv xk)) (ar (bU cB xk) bf))))))))
 bJ))
 (ao (di (cX xp) (λ_ _=>rfl)
 (ao (xs (aq (gb xi (af xm xv (bC DA xk)) xk)))
 (ao (cy (aq (gZ (aQ (af (lT false) (af ft xv xk) xk)) (aQ (af (fE false) (af cp (af fc xp xk) xk) xk))))
 (xs (aq (cw (λa0=>mH a0) (bU yy (aY (ar xk (ar (af ft xv xk) (ar (af ft xv xk) bf))))))))
 (cy (aq (gZ (aQ (af (lT false) (af ft xv xk) xk)) (aQ (af (fE false) (af cp (af fc xp xk) xk) xk))))
 (ba (hV (λ_=>rfl) (λ_ _=>rfl) l9 (cw (λa0=>mH a0) (af fG (aY (ar (bU g7 xk) (ar (bU cB (af ja xk (af cp xp xk))) bf))) (bU yy (af qg xv xk))))))
 bJ))
 (ao (cy (aq (gZ (aQ (af (lT true) (af ft xv xk) xk)) (aQ (af (fE false) (af cp (af fc xp xk) xk) xk))))
 (ba (hV (λ_=>rfl) (λ_ _=>rfl) l9 xv))
 bJ)
 (ba (hV (λ_=>rfl) (λ_ _=>rfl) l9 xv))))))
 (bz (lE (λ_=>rfl) (λ_=>rfl))))))))
theorem Wg(a:L Str)(b:DI Int)(c:Int):SimO Hf (eL D.str) (m_x9 [(eL D.str) a,(dC D.int) b,D.int c]) (NY a b c):=d8 VN rfl
structure S_bb9 where
 vxq:Int
 vhq:(L Str)
 vAq:L4
 v3q:Int
 vbq:Option Str
 v1q:Option Int
 vfq:Option Int
 vnq:Option (Int×Int)
 vlq:Option Str
def Di:S_bb9->LK:=λs=>[J (D.int s.vxq),J ((eL D.str) s.vhq),J ((eL (rX D.int D.int)) s.vAq),J (D.int s.v3q),s.vbq.map D.str,s.v1q.map D.int,s.vfq.map D.int,s.vnq.map (rX D.int D.int),s.vlq.map D.str]
abbrev jr:=S_bb9->FlC S_bb9 Str
def uF:jr:=bI (λa s=>{s with vbq:=J a}) (bv (cA gw (hZ (aB (bB eC (kC ("houses" : Str))) (aB (bB cq (pC (·.vxq))) (cK:_->Res (L D)))))))
def uE:jr:=bI (λa s=>{s with v1q:=J a}) (bv (aC eE (aC gE (pC (·.v3q)) (kC (14:Int))) (aC mO (bB kP (pC (·.vhq))) (kC (1:Int)))))
def uD:jr:=bI (λa s=>{s with vfq:=J a}) (bv (aC eE (pC (·.v3q)) (kC (7:Int))))
def pG:jr:=cI (bv (aC gr (kC ("" : Str)) (aC db (hZ (aB (aC iH (cA N5 (aC gE (pC (·.v3q)) (kC (14:Int)))) (kC ("\n" : Str))) (cK:_->Res (L Str)))) (pC (·.vhq)))))
def mD:jr:=lH (bv (aC (kS false) (vC (·.vfq)) (kC (0:Int))))
 pG
 cQ
def pE:jr:=cI (bv (aC jX (aC gr (kC ("" : Str)) (aC db (hZ (aB (vC (·.vbq)) (cK:_->Res (L Str)))) (pC (·.vhq)))) (bB BG (kC (1:Int)))))
def mB:jr:=lH (bv (aC (kS false) (vC (·.vfq)) (kC (1:Int))))
 pE
 cQ
def lf:jr:=bI (λa s=>{s with vnq:=J a}) (bv (aC mY (pC (·.vAq)) (aC eE (aC gE (pC (·.v3q)) (kC (14:Int))) (bB kP (pC (·.vAq))))))
def lc:jr:=cI (bv (aC gr (kC ("" : Str)) (aC db (aC db (hZ (aB (vC (·.vbq)) (cK:_->Res (L Str)))) (pC (·.vhq))) (hZ (aB (cA gw (hZ (aB (bB eC (kC ("way" : Str))) (aB (bB cq (bB TH (vC (·.vnq)))) (aB (bB cq (bB Vz (vC (·.vnq)))) (cK:_->Res (L D))))))) (cK:_->Res (L Str)))))))
def jm:jr:=lH (bv (rN (aC (kS false) (vC (·.vfq)) (kC (2:Int))) (aC O8 (bB kP (pC (·.vAq))) (kC (0:Int)))))
 (az lf
 lc)
 cQ
def pD:jr:=cI (bv (aC mY (hZ (aB (kC ("" : Str)) (aB (kC ("\n" : Str)) (aB (kC ("houses 3" : Str)) (aB (aC gr (kC ("" : Str)) (pC (·.vhq))) (cK:_->Res (L Str))))))) (aC eE (aC gE (pC (·.v3q)) (kC (14:Int))) (kC (4:Int)))))
def mz:jr:=lH (bv (aC (kS false) (vC (·.vfq)) (kC (3:Int))))
 pD
 cQ
def pA:jr:=bI (λa s=>{s with vlq:=J a}) (bv (aC iH (cA N0 (aC gE (aC gE (pC (·.v3q)) (kC (7:Int))) (kC (3:Int)))) (kC ("\n" : Str))))
def uC:jr:=cI (bv (aC gr (kC ("" : Str)) (aC db (aC db (aC db (hZ (aB (vC (·.vbq)) (cK:_->Res (L Str)))) (aC yN (pC (·.vhq)) (vC (·.v1q)))) (hZ (aB (vC (·.vlq)) (cK:_->Res (L Str))))) (aC ji (pC (·.vhq)) (vC (·.v1q))))))
def Cu:jr:=az uF
 (az uE
 (az uD
 (az mD
 (az mB
 (az jm
 (az mz
 (az pA
 uC)))))))
def wE(c:Int)(a:L Str)(b:L4)(d:Int):OutC S_bb9 Str:=dh G (Cu (c,a,b,d,G,G,G,G,G))
theorem Sv:Cl.TJ Di D.str BS Cu:=ao (xs (aq (cw (λa0=>mH a0) (aY (ar (bU g7 xk) (ar (bU cB xp) bf))))))
 (ao (xs (aq (af cp (af fc xp xk) (af ja (bC f7 xp) xk))))
 (ao (xs (aq (af cp xp xk)))
 (ao (cy (aq (aQ (af (fE false) xv xk)))
 (bz (aq (gb jU xk (af fG (aY (ar (af qh (cw (λa0=>Wl a0) (af fc xp xk)) xk) bf)) xp))))
 bJ)
 (ao (cy (aq (aQ (af (fE false) xv xk)))
 (bz (aq (af xm (gb jU xk (af fG (aY (ar xv bf)) xp)) (bC DA xk))))
 bJ)
 (ao (cy (aq (gZ (aQ (af (fE false) xv xk)) (aQ (af IC (bC f7 xp) xk))))
 (ao (xs (aq (af ft xp (af cp (af fc xp xk) (bC f7 xp)))))
 (bz (aq (gb jU xk (af fG (af fG (aY (ar xv bf)) xp) (aY (ar (cw (λa0=>mH a0) (aY (ar (bU g7 xk) (ar (bU cB (gL (λ_=>rfl) (Pb W8 xv))) (ar (bU cB (gL (λ_=>rfl) (Pb W9 xv))) bf))))) bf)))))))
 bJ)
 (ao (cy (aq (aQ (af (fE false) xv xk)))
 (bz (aq (af ft (aY (ar xk (ar xk (ar xk (ar (gb jU xk xp) bf))))) (af cp (af fc xp xk) xk))))
 bJ)
 (ao (xs (aq (af qh (cw (λa0=>Wk a0) (af fc (af fc xp xk) xk)) xk)))
 (bz (aq (gb jU xk (af fG (af fG (af fG (aY (ar xv bf)) (af IA xp xv)) (aY (ar xv bf))) (af qg xp xv))))))))))))
theorem SK(c:Int)(a:L Str)(b:L4)(d:Int):SimO Di D.str (m_bb9 [D.int c,(eL D.str) a,(eL (rX D.int D.int)) b,D.int d]) (wE c a b d):=jh Sv rfl
structure S_bm9 where
 vaq:GΩ
 vhq:Option (L Str)
 vrq:Option (L Int)
 vpq:Option Int
 vdq:Option Str
def C7:S_bm9->LK:=λs=>[J (aT s.vaq),s.vhq.map (eL D.str),s.vrq.map (eL D.int),s.vpq.map D.int,s.vdq.map D.str]
abbrev uN:=S_bm9->FlC S_bm9 (L Str)
def ue:uN:=bI (λa s=>{s with vhq:=J a}) (bv (hZ (cK:_->Res (L Str))))
def nR:uN:=bI (λa s=>{s with vdq:=J a}) (bv (aC gr (kC (" " : Str)) (dF (vC (·.vrq)) (λ_=>.ok true) (bB oE (pC λp=>p.1)))))
def uc:uN:=bS (qj (λs=>s.vhq) (λs y=>{s with vhq:=J y}) lx (DT (io gB (kC ("wish " : Str)) (io jf (vC (·.vpq)) (io gB (kC (" " : Str)) (io gB (vC (·.vdq)) Gs))))))
def pL:uN:=az nR
 uc
def ud:uN:=dt (cA N7 (pC (·.vaq))) (λa s=>{s with vrq:=J a.1,vpq:=J a.2})
 pL
def KA:uN:=cI (DC (λs=>s.vhq) (λs=>{s with vhq:=G}))
def Ci:uN:=az ue
 (az ud
 KA)
def EY(a:GΩ):OutC S_bm9 (L Str):=dh G (Ci (a,G,G,G,G))
theorem Sg:Cl.TJ C7 (eL D.str) BH Ci:=ao (xs (aq (aY bf)))
 (ao (di (cX (qv (λ_=>rfl) (λa0=>Wo a0) xp)) (λ_ _=>rfl)
 (ao (xs (aq (gb jU xk (gu (cX xv) ml (bC zq xp)))))
 (ba (hV (λ_=>rfl) (λ_ _=>rfl) l9 (zZ (mj xk (o9 xv (mj xk (mj xv o8)))))))))
 (bz (lE (λ_=>rfl) (λ_=>rfl))))
theorem Sy(a:GΩ):SimO C7 (eL D.str) (m_bm9 [aT a]) (EY a):=d8 Sg rfl
structure S_d9 where
 vvq:GΩ
 v0q:Int
 v2q:Int
 vpq:Int
def HC:S_d9->LK:=λs=>[J (aT s.vvq),J (D.int s.v0q),J (D.int s.v2q),J (D.int s.vpq)]
abbrev Ta:=S_d9->FlC S_d9 Unit
def EI:Ta:=bS (bv (g9 yC (pC (·.vvq)) (hZ (aB (pC (·.v0q)) (aB (pC (·.v2q)) (cK:_->Res (L Int)))))))
def EH:Ta:=q8 (λs=>J s.vvq.lω) (λs y=>{s with vvq:={s.vvq with lω:=y}}) (bB nq (Bv (pC (·.v0q)) (pC (·.v2q)))) (bv (pC (·.vpq)))
def Lh:Ta:=az EI
 EH
def Od(a:GΩ)(d:Int)(c:Int)(b:Int):OutC S_d9 Unit:=dh (J j2) (Lh (a,d,c,b))
theorem V7:Cl.TJ HC eN Jx Lh:=ao (ba (aq (kT (λ_=>rfl) (λa0 a=>wx a0 a) xp (aY (ar xp (ar xp bf))))))
 (kF (λ_=>rfl) (λ_ _=>rfl) (bU jJ (fV xp xp)) (aq xp))
theorem Wv(a:GΩ)(e:Int)(c:Int)(b:Int):SimO HC eN (Rz [aT a,D.int e,D.int c,D.int b]) (Od a e c b):=o7 (d:=j2) rfl V7 rfl
structure S_e9 where
 vvq:GΩ
 v0q:Int
 v2q:Int
def HB:S_e9->LK:=λs=>[J (aT s.vvq),J (D.int s.v0q),J (D.int s.v2q)]
abbrev S9:=S_e9->FlC S_e9 Int
def EG:S9:=bS (bv (g9 yC (pC (·.vvq)) (hZ (aB (pC (·.v0q)) (aB (pC (·.v2q)) (cK:_->Res (L Int)))))))
def EF:S9:=cI (bv (O9 (bB (λg=>.ok g.lω) (pC (·.vvq))) (bB nq (Bv (pC (·.v0q)) (pC (·.v2q)))) (kC (0:Int))))
def Lg:S9:=az EG
 EF
def Oc(a:GΩ)(c:Int)(b:Int):OutC S_e9 Int:=dh G (Lg (a,c,b))
theorem V6:Cl.TJ HB D.int Jw Lg:=ao (ba (aq (kT (λ_=>rfl) (λa0 a=>wx a0 a) xp (aY (ar xp (ar xp bf))))))
 (bz (aq (gL (λ_=>rfl) (Ny (bC qe xp) (bU jJ (fV xp xp)) xk))))
theorem Wu(a:GΩ)(c:Int)(b:Int):SimO HB D.int (Ry [aT a,D.int c,D.int b]) (Oc a c b):=jh V6 rfl
structure S_f9 where
 vvq:GΩ
 v0q:Int
def HA:S_f9->LK:=λs=>[J (aT s.vvq),J (D.int s.v0q)]
abbrev S8:=S_f9->FlC S_f9 (L Int)
def EE:S8:=bS (bv (g9 yC (pC (·.vvq)) (hZ (aB (pC (·.v0q)) (cK:_->Res (L Int))))))
def ED:S8:=cI (bv (w9 LG (pC (·.vvq)) (bB (λg=>.ok g.U) (pC (·.vvq))) (pC (·.v0q))))
def Lf:S8:=az EE
 ED
def LD(a:GΩ)(b:Int):OutC S_f9 (L Int):=dh G (Lf (a,b))
theorem V5:Cl.TJ HA (eL D.int) Jv Lf:=ao (ba (aq (kT (λ_=>rfl) (λa0 a=>wx a0 a) xp (aY (ar xp bf)))))
 (bz (aq (t5 (λ_=>rfl) (λa0 a b=>Pg a0 a b) xp (bC nr xp) xp)))
theorem Wt(a:GΩ)(b:Int):SimO HA (eL D.int) (Rx [aT a,D.int b]) (LD a b):=d8 V5 rfl
structure S_h9 where
 vvq:GΩ
 vrq:(L Int)
def Hy:S_h9->LK:=λs=>[J (aT s.vvq),J ((eL D.int) s.vrq)]
abbrev AR:=S_h9->FlC S_h9 Unit
def EB:AR:=bS (bv (g9 yC (pC (·.vvq)) (pC (·.vrq))))
def An:AR:=eO 14
def EA:AR:=lH (bv (aC M7 (bB kP (pC (·.vrq))) (kC (2:Int))))
 An
 cQ
def Am:AR:=eO 14
def Ez:AR:=lH (bv (aC (kS true) (aC mY (pC (·.vrq)) (bB BG (kC (1:Int)))) (kC (0:Int))))
 Am
 cQ
def Ak:AR:=eO 14
def Ey:AR:=lH (bv (aC (kS true) (bB xt (pC (·.vrq))) (bB kP (pC (·.vrq)))))
 Ak
 cQ
def Ld:AR:=az EB
 (az EA
 (az Ez
 Ey))
def Oa(a:GΩ)(b:L Int):OutC S_h9 Unit:=dh (J j2) (Ld (a,b))
theorem V3:Cl.TJ Hy eN Jt Ld:=ao (ba (aq (kT (λ_=>rfl) (λa0 a=>wx a0 a) xp xp)))
 (ao (cy (aq (aQ (af BC (bC f7 xp) xk)))
 dO
 bJ)
 (ao (cy (aq (aQ (af (fE true) (af ft xp (bC DA xk)) xk)))
 dO
 bJ)
 (cy (aq (aQ (af (fE true) (bC IB xp) (bC f7 xp))))
 dO
 bJ)))
theorem Ws(a:GΩ)(b:L Int):SimO Hy eN (Rv [aT a,(eL D.int) b]) (Oa a b):=o7 (d:=j2) rfl V3 rfl
structure S_i9 where
 vvq:GΩ
 v0q:Int
 v2q:Int
def Hw:S_i9->LK:=λs=>[J (aT s.vvq),J (D.int s.v0q),J (D.int s.v2q)]
abbrev NT:=S_i9->FlC S_i9 Unit
def Ew:NT:=bS (bv (g9 yC (pC (·.vvq)) (hZ (aB (pC (·.v0q)) (aB (pC (·.v2q)) (cK:_->Res (L Int)))))))
def Aj:NT:=eO 11
def Ev:NT:=lH (bv (aC (kS false) (pC (·.v0q)) (pC (·.v2q))))
 Aj
 cQ
def Lc:NT:=az Ew
 Ev
def LC(a:GΩ)(c:Int)(b:Int):OutC S_i9 Unit:=dh (J j2) (Lc (a,c,b))
theorem V2:Cl.TJ Hw eN Js Lc:=ao (ba (aq (kT (λ_=>rfl) (λa0 a=>wx a0 a) xp (aY (ar xp (ar xp bf))))))
 (cy (aq (aQ (af (fE false) xp xp)))
 dO
 bJ)
theorem Pe(a:GΩ)(c:Int)(b:Int):SimO Hw eN (M5 [aT a,D.int c,D.int b]) (LC a c b):=o7 (d:=j2) rfl V2 rfl
structure S_k9 where
 vvq:GΩ
 v0q:Int
def Hu:S_k9->LK:=λs=>[J (aT s.vvq),J (D.int s.v0q)]
abbrev S6:=S_k9->FlC S_k9 (L Int)
def Es:S6:=bS (bv (g9 yC (pC (·.vvq)) (hZ (aB (pC (·.v0q)) (cK:_->Res (L Int))))))
def Er:S6:=cI (bv (w9 LG (pC (·.vvq)) (bB (λg=>.ok g.sω) (pC (·.vvq))) (pC (·.v0q))))
def La:S6:=az Es
 Er
def LB(a:GΩ)(b:Int):OutC S_k9 (L Int):=dh G (La (a,b))
theorem V0:Cl.TJ Hu (eL D.int) Jq La:=ao (ba (aq (kT (λ_=>rfl) (λa0 a=>wx a0 a) xp (aY (ar xp bf)))))
 (bz (aq (t5 (λ_=>rfl) (λa0 a b=>Pg a0 a b) xp (bC sS xp) xp)))
theorem Wq(a:GΩ)(b:Int):SimO Hu (eL D.int) (Rt [aT a,D.int b]) (LB a b):=d8 V0 rfl
structure S_o9 where
 vCq:(L Str)
def Hq:S_o9->LK:=λs=>[J ((eL D.str) s.vCq)]
abbrev NS:=S_o9->FlC S_o9 GΩ
def mw:NS:=eO 17
def r6:NS:=lH (bv (WL (aC (kS true) (bB kP (pC (·.vCq))) (kC (2:Int))) (aC (kS true) (aC mY (pC (·.vCq)) (kC (0:Int))) (kC ("houses" : Str)))))
 mw
 cQ
def El:NS:=cI (bv (Uf mk_Guild (cA pR (aC mY (pC (·.vCq)) (kC (1:Int))))))
def EO:NS:=az r6
 El
def mQ(a:L Str):OutC S_o9 GΩ:=dh G (EO ⟨a⟩)
theorem VW:Cl.TJ Hq aT Jm EO:=ao (cy (aq (Cf (aQ (af (fE true) (bC f7 xp) xk)) (aQ (af (lT true) (af ft xp xk) xk))))
 dO
 bJ)
 (bz (aq (R9 uY (cw (λa0=>KW a0) (af ft xp xk)))))
theorem Wn(a:L Str):SimO Hq aT (m_o9 [(eL D.str) a]) (mQ a):=d8 VW rfl
structure S_c9 where
 vvq:GΩ
 v0q:Int
 v2q:Int
def HE:S_c9->LK:=λs=>[J (aT s.vvq),J (D.int s.v0q),J (D.int s.v2q)]
abbrev Gm:=S_c9->FlC S_c9 Unit
def yh:Gm:=bS (bv (w9 LC (pC (·.vvq)) (pC (·.v0q)) (pC (·.v2q))))
def rn:Gm:=eO 13
def yg:Gm:=lH (bv (aC (NB false) (bB nq (Bv (pC (·.v0q)) (pC (·.v2q)))) (bB (λg=>.ok g.U) (pC (·.vvq)))))
 rn
 cQ
def EL:Gm:=q8 (λs=>J s.vvq.U) (λs y=>{s with vvq:={s.vvq with U:=y}}) (bB nq (Bv (pC (·.v0q)) (pC (·.v2q)))) (bv (kC true))
def EK:Gm:=q8 (λs=>J s.vvq.U) (λs y=>{s with vvq:={s.vvq with U:=y}}) (bB nq (Bv (pC (·.v2q)) (pC (·.v0q)))) (bv (kC true))
def EQ:Gm:=az yh
 (az yg
 (az EL
 EK))
def Gp(a:GΩ)(c:Int)(b:Int):OutC S_c9 Unit:=dh (J j2) (EQ (a,c,b))
theorem V8:Cl.TJ HE eN Jy EQ:=ao (ba (aq (t5 (λ_=>rfl) (λa0 b a=>Pe a0 b a) xp xp xp)))
 (ao (cy (aq (aQ (af (Ox false) (bU jJ (fV xp xp)) (bC nr xp))))
 dO
 bJ)
 (ao (kF (λ_=>rfl) (λ_ _=>rfl) (bU jJ (fV xp xp)) (aq xk))
 (kF (λ_=>rfl) (λ_ _=>rfl) (bU jJ (fV xp xp)) (aq xk))))
theorem Ww(a:GΩ)(c:Int)(b:Int):SimO HE eN (RB [aT a,D.int c,D.int b]) (Gp a c b):=o7 (d:=j2) rfl V8 rfl
structure S_j9 where
 vvq:GΩ
 v0q:Int
 v2q:Int
def Hv:S_j9->LK:=λs=>[J (aT s.vvq),J (D.int s.v0q),J (D.int s.v2q)]
abbrev S7:=S_j9->FlC S_j9 Unit
def Eu:S7:=bS (bv (w9 LC (pC (·.vvq)) (pC (·.v0q)) (pC (·.v2q))))
def Et:S7:=q8 (λs=>J s.vvq.sω) (λs y=>{s with vvq:={s.vvq with sω:=y}}) (bB nq (Bv (pC (·.v0q)) (pC (·.v2q)))) (bv (kC true))
def Lb:S7:=az Eu
 Et
def N9(a:GΩ)(c:Int)(b:Int):OutC S_j9 Unit:=dh (J j2) (Lb (a,c,b))
theorem V1:Cl.TJ Hv eN Jr Lb:=ao (ba (aq (t5 (λ_=>rfl) (λa0 b a=>Pe a0 b a) xp xp xp)))
 (kF (λ_=>rfl) (λ_ _=>rfl) (bU jJ (fV xp xp)) (aq xk))
theorem Wr(a:GΩ)(c:Int)(b:Int):SimO Hv eN (Ru [aT a,D.int c,D.int b]) (N9 a c b):=o7 (d:=j2) rfl V1 rfl
structure S_m9 where
 vvq:GΩ
 vrq:(L Int)
 vpq:Int
def Hs:S_m9->LK:=λs=>[J (aT s.vvq),J ((eL D.int) s.vrq),J (D.int s.vpq)]
abbrev S5:=S_m9->FlC S_m9 Unit
def Eo:S5:=bS (bv (g9 Oa (pC (·.vvq)) (pC (·.vrq))))
def En:S5:=q8 (λs=>J s.vvq.wω) (λs y=>{s with vvq:={s.vvq with wω:=y}}) (bB Nm (pC (·.vrq))) (bv (pC (·.vpq)))
def K8:S5:=az Eo
 En
def N8(a:GΩ)(b:L Int)(c:Int):OutC S_m9 Unit:=dh (J j2) (K8 (a,b,c))
theorem VY:Cl.TJ Hs eN Jo K8:=ao (ba (aq (kT (λ_=>rfl) (λa0 a=>Ws a0 a) xp xp)))
 (kF (λ_=>rfl) (λ_ _=>rfl) (bC Ov (Sc (Pz (λ_=>rfl)) xp)) (aq xp))
theorem Wp(a:GΩ)(b:L Int)(c:Int):SimO Hs eN (Rr [aT a,(eL D.int) b,D.int c]) (N8 a b c):=o7 (d:=j2) rfl VY rfl
structure S_bd9 where
 vaq:GΩ
 vhq:Option (L Str)
 v0q:Option Int
 v2q:Option Int
 vpq:Option Int
def Dg:S_bd9->LK:=λs=>[J (aT s.vaq),s.vhq.map (eL D.str),s.v0q.map D.int,s.v2q.map D.int,s.vpq.map D.int]
abbrev pQ:=S_bd9->FlC S_bd9 (L Str)
def uB:pQ:=bI (λa s=>{s with vhq:=J a}) (bv (hZ (cK:_->Res (L Str))))
def iO:pQ:=bI (λa s=>{s with vpq:=J a}) (bv (w9 Oc (pC (·.vaq)) (vC (·.v0q)) (vC (·.v2q))))
def gO:pQ:=bS (qj (λs=>s.vhq) (λs y=>{s with vhq:=J y}) lx (DT (io gB (kC ("like " : Str)) (io jf (vC (·.v0q)) (io gB (kC (" " : Str)) (io jf (vC (·.v2q)) (io gB (kC (" " : Str)) (io jf (vC (·.vpq)) Gs))))))))
def kY:pQ:=lH (bv (aC (kS true) (vC (·.vpq)) (kC (0:Int))))
 gO
 cQ
def lj:pQ:=az iO
 kY
def kZ:pQ:=dt (bB (jx 0) (cA uP (pC (·.vaq)))) (λa s=>{s with v2q:=J a})
 lj
def uA:pQ:=dt (bB (jx 0) (cA uP (pC (·.vaq)))) (λa s=>{s with v0q:=J a})
 kZ
def KH:pQ:=cI (DC (λs=>s.vhq) (λs=>{s with vhq:=G}))
def Cs:pQ:=az uB
 (az uA
 KH)
def E4(a:GΩ):OutC S_bd9 (L Str):=dh G (Cs (a,G,G,G,G))
theorem Ss:Cl.TJ Dg (eL D.str) BQ Cs:=ao (xs (aq (aY bf)))
 (ao (di (gY (qv (λ_=>rfl) (λa0=>AC a0) xp)) (λ_ _=>rfl)
 (di (gY (qv (λ_=>rfl) (λa0=>AC a0) xp)) (λ_ _=>rfl)
 (ao (xs (aq (t5 (λ_=>rfl) (λa0 b a=>Wu a0 b a) xp xv xv)))
 (cy (aq (aQ (af (fE true) xv xk)))
 (ba (hV (λ_=>rfl) (λ_ _=>rfl) l9 (zZ (mj xk (o9 xv (mj xk (o9 xv (mj xk (o9 xv o8)))))))))
 bJ))))
 (bz (lE (λ_=>rfl) (λ_=>rfl))))
theorem SH(a:GΩ):SimO Dg (eL D.str) (m_bd9 [aT a]) (E4 a):=d8 Ss rfl
structure S_bj9 where
 vaq:GΩ
 vhq:Option (L Str)
 v0q:Option Int
def Da:S_bj9->LK:=λs=>[J (aT s.vaq),s.vhq.map (eL D.str),s.v0q.map D.int]
abbrev AT:=S_bj9->FlC S_bj9 (L Str)
def ul:AT:=bI (λa s=>{s with vhq:=J a}) (bv (hZ (cK:_->Res (L Str))))
def kX:AT:=bS (qj (λs=>s.vhq) (λs y=>{s with vhq:=J y}) uZ (dF (g9 LB (pC (·.vaq)) (vC (·.v0q))) (λ_=>.ok true) (DT (io gB (kC ("shun " : Str)) (io jf (vC λp=>p.2.v0q) (io gB (kC (" " : Str)) (io jf (pC λp=>p.1) Gs)))))))
def uk:AT:=dt (bB (jx 0) (cA uP (pC (·.vaq)))) (λa s=>{s with v0q:=J a})
 kX
def KE:AT:=cI (DC (λs=>s.vhq) (λs=>{s with vhq:=G}))
def Co:AT:=az ul
 (az uk
 KE)
def E1(a:GΩ):OutC S_bj9 (L Str):=dh G (Co (a,G,G))
theorem Sk:Cl.TJ Da (eL D.str) BK Co:=ao (xs (aq (aY bf)))
 (ao (di (gY (qv (λ_=>rfl) (λa0=>AC a0) xp)) (λ_ _=>rfl)
 (ba (hV (λ_=>rfl) (λ_ _=>rfl) v9 (gu (cX (kT (λ_=>rfl) (λa0 a=>Wq a0 a) xp xv)) ml (zZ (mj xk (o9 xv (mj xk (o9 xp o8)))))))))
 (bz (lE (λ_=>rfl) (λ_=>rfl))))
theorem SD(a:GΩ):SimO Da (eL D.str) (m_bj9 [aT a]) (E1 a):=d8 Sk rfl
structure S_bl9 where
 vaq:GΩ
 vhq:Option (L Str)
 v0q:Option Int
def C8:S_bl9->LK:=λs=>[J (aT s.vaq),s.vhq.map (eL D.str),s.v0q.map D.int]
abbrev AS:=S_bl9->FlC S_bl9 (L Str)
def ug:AS:=bI (λa s=>{s with vhq:=J a}) (bv (hZ (cK:_->Res (L Str))))
def kU:AS:=bS (qj (λs=>s.vhq) (λs y=>{s with vhq:=J y}) uZ (dF (g9 LD (pC (·.vaq)) (vC (·.v0q))) (aC M7 (vC λp=>p.2.v0q) (pC λp=>p.1)) (DT (io gB (kC ("way " : Str)) (io jf (vC λp=>p.2.v0q) (io gB (kC (" " : Str)) (io jf (pC λp=>p.1) Gs)))))))
def uf:AS:=dt (bB (jx 0) (cA uP (pC (·.vaq)))) (λa s=>{s with v0q:=J a})
 kU
def KD:AS:=cI (DC (λs=>s.vhq) (λs=>{s with vhq:=G}))
def Cj:AS:=az ug
 (az uf
 KD)
def EZ(a:GΩ):OutC S_bl9 (L Str):=dh G (Cj (a,G,G))
theorem Si:Cl.TJ C8 (eL D.str) BI Cj:=ao (xs (aq (aY bf)))
 (ao (di (gY (qv (λ_=>rfl) (λa0=>AC a0) xp)) (λ_ _=>rfl)
 (ba (hV (λ_=>rfl) (λ_ _=>rfl) v9 (gu (cX (kT (λ_=>rfl) (λa0 a=>Wt a0 a) xp xv)) (aQ (af BC xv xp)) (zZ (mj xk (o9 xv (mj xk (o9 xp o8)))))))))
 (bz (lE (λ_=>rfl) (λ_=>rfl))))
theorem Sz(a:GΩ):SimO C8 (eL D.str) (m_bl9 [aT a]) (EZ a):=d8 Si rfl
structure S_bi9 where
 vaq:GΩ
 vxq:Option Int
 vhq:Option (L Str)
def Db:S_bi9->LK:=λs=>[J (aT s.vaq),s.vxq.map D.int,s.vhq.map (eL D.str)]
abbrev rF:=S_bi9->FlC S_bi9 Str
def uu:rF:=bI (λa s=>{s with vxq:=J a}) (bv (cA uP (pC (·.vaq))))
def ut:rF:=bI (λa s=>{s with vhq:=J a}) (bv (hZ (aB (DT (io gB (kC ("houses " : Str)) (io jf (vC (·.vxq)) Gs))) (cK:_->Res (L Str)))))
def ur:rF:=bS (qj (λs=>s.vhq) (λs y=>{s with vhq:=J y}) uZ (cA EZ (pC (·.vaq))))
def uq:rF:=bS (qj (λs=>s.vhq) (λs y=>{s with vhq:=J y}) uZ (cA E4 (pC (·.vaq))))
def uo:rF:=bS (qj (λs=>s.vhq) (λs y=>{s with vhq:=J y}) uZ (cA E1 (pC (·.vaq))))
def um:rF:=bS (qj (λs=>s.vhq) (λs y=>{s with vhq:=J y}) uZ (cA EY (pC (·.vaq))))
def Ao:rF:=cI (bv (aC gr (kC ("" : Str)) (dF (vC (·.vhq)) (λ_=>.ok true) (aC iH (pC λp=>p.1) (kC ("\n" : Str))))))
def Cp:rF:=az uu
 (az ut
 (az ur
 (az uq
 (az uo
 (az um
 Ao)))))
def E2(a:GΩ):OutC S_bi9 Str:=dh G (Cp (a,G,G))
theorem Sl:Cl.TJ Db D.str BL Cp:=ao (xs (aq (qv (λ_=>rfl) (λa0=>AC a0) xp)))
 (ao (xs (aq (aY (ar (zZ (mj xk (o9 xv o8))) bf))))
 (ao (ba (hV (λ_=>rfl) (λ_ _=>rfl) v9 (cw (λa0=>Sz a0) xp)))
 (ao (ba (hV (λ_=>rfl) (λ_ _=>rfl) v9 (cw (λa0=>SH a0) xp)))
 (ao (ba (hV (λ_=>rfl) (λ_ _=>rfl) v9 (cw (λa0=>SD a0) xp)))
 (ao (ba (hV (λ_=>rfl) (λ_ _=>rfl) v9 (cw (λa0=>Sy a0) xp)))
 (bz (aq (gb jU xk (gu (cX xv) ml (af qh xp xk))))))))))
theorem SE(a:GΩ):SimO Db D.str (m_bi9 [aT a]) (E2 a):=jh Sl rfl
structure S_bk9 where
 vaq:GΩ
 vCq:(L Str)
 vfq:Option Str
 vkq:Option (L Int)
def C9:S_bk9->LK:=λs=>[J (aT s.vaq),J ((eL D.str) s.vCq),s.vfq.map D.str,s.vkq.map (eL D.int)]
abbrev lF:=S_bk9->FlC S_bk9 Unit
def uj:lF:=bI (λa s=>{s with vfq:=J a}) (bv (aC mY (pC (·.vCq)) (kC (0:Int))))
def ui:lF:=bI (λa s=>{s with vkq:=J a}) (bv (uJ (aC ji (pC (·.vCq)) (kC (1:Int))) (cA pR (pC λp=>p.1))))
def kW:lF:=bS (M1 Gp (λs' s=>{s with vaq:=s'.vvq}) (pC (·.vaq)) (aC mY (vC (·.vkq)) (kC (0:Int))) (aC mY (vC (·.vkq)) (kC (1:Int))))
def ko:lF:=bS (Vj Od (λs' s=>{s with vaq:=s'.vvq}) (pC (·.vaq)) (aC mY (vC (·.vkq)) (kC (0:Int))) (aC mY (vC (·.vkq)) (kC (1:Int))) (aC mY (vC (·.vkq)) (kC (2:Int))))
def ii:lF:=bS (M1 N9 (λs' s=>{s with vaq:=s'.vvq}) (pC (·.vaq)) (aC mY (vC (·.vkq)) (kC (0:Int))) (aC mY (vC (·.vkq)) (kC (1:Int))))
def fM:lF:=bS (M1 N8 (λs' s=>{s with vaq:=s'.vvq}) (pC (·.vaq)) (aC ji (vC (·.vkq)) (kC (1:Int))) (aC mY (vC (·.vkq)) (kC (0:Int))))
def jZ:lF:=eO 17
def ij:lF:=lH (bv (rN (aC (kS false) (vC (·.vfq)) (kC ("wish" : Str))) (aC O8 (bB kP (vC (·.vkq))) (kC (0:Int)))))
 fM
 jZ
def gN:lF:=lH (bv (rN (aC (kS false) (vC (·.vfq)) (kC ("shun" : Str))) (aC (kS false) (bB kP (vC (·.vkq))) (kC (2:Int)))))
 ii
 ij
def iN:lF:=lH (bv (rN (aC (kS false) (vC (·.vfq)) (kC ("like" : Str))) (aC (kS false) (bB kP (vC (·.vkq))) (kC (3:Int)))))
 ko
 gN
def jj:lF:=lH (bv (rN (aC (kS false) (vC (·.vfq)) (kC ("way" : Str))) (aC (kS false) (bB kP (vC (·.vkq))) (kC (2:Int)))))
 kW
 iN
def Ck:lF:=az uj
 (az ui
 jj)
def ju(b:GΩ)(a:L Str):OutC S_bk9 Unit:=dh (J j2) (Ck (b,a,G,G))
theorem Sj:Cl.TJ C9 eN BJ Ck:=ao (xs (aq (af ft xp xk)))
 (ao (xs (aq (Ki (cX (af qg xp xk)) (cw (λa0=>KW a0) xp))))
 (cy (aq (gZ (aQ (af (lT false) xv xk)) (aQ (af (fE false) (bC f7 xv) xk))))
 (ba (BE (λ_=>rfl) (λ_ _=>rfl) (λa0 b a=>Ww a0 b a) xp (af ft xv xk) (af ft xv xk)))
 (cy (aq (gZ (aQ (af (lT false) xv xk)) (aQ (af (fE false) (bC f7 xv) xk))))
 (ba (Q5 (λ_=>rfl) (λ_ _=>rfl) (λa0 b a c=>Wv a0 b a c) xp (af ft xv xk) (af ft xv xk) (af ft xv xk)))
 (cy (aq (gZ (aQ (af (lT false) xv xk)) (aQ (af (fE false) (bC f7 xv) xk))))
 (ba (BE (λ_=>rfl) (λ_ _=>rfl) (λa0 b a=>Wr a0 b a) xp (af ft xv xk) (af ft xv xk)))
 (cy (aq (gZ (aQ (af (lT false) xv xk)) (aQ (af IC (bC f7 xv) xk))))
 (ba (BE (λ_=>rfl) (λ_ _=>rfl) (λa0 b a=>Wp a0 b a) xp (af qg xv xk) (af ft xv xk)))
 dO)))))
theorem SA(b:GΩ)(a:L Str):SimO C9 eN (m_bk9 [aT b,(eL D.str) a]) (ju b a):=o7 (d:=j2) rfl Sj rfl
structure S_bf9 where
 vzq:Str
 vsq:Option (L (L Str))
 vaq:Option GΩ
 vCq:Option (L Str)
 v7q:Option Int
def De:S_bf9->LK:=λs=>[J (D.str s.vzq),s.vsq.map (eL (eL D.str)),s.vaq.map aT,s.vCq.map (eL D.str),s.v7q.map D.int]
abbrev uO:=S_bf9->FlC S_bf9 GΩ
def my:uO:=bI (λa s=>{s with vsq:=J a}) (bv (cA mR (pC (·.vzq))))
def gc:uO:=bI (λa s=>{s with vaq:=J a}) (bv (cA mQ (aC mY (vC (·.vsq)) (kC (0:Int)))))
def bT:uO:=bS (Vk ju (λs' s=>{s with vaq:=J s'.vaq}) (vC (·.vaq)) (vC (·.vCq)))
def nU:uO:=dt (aC ji (vC (·.vsq)) (kC (1:Int))) (λa s=>{s with vCq:=J a})
 bT
def jk:uO:=ve (rL [10,11,13,14,17]) 17 (az gc
 nU)
def KG:uO:=cI (DC (λs=>s.vaq) (λs=>{s with vaq:=G}))
def qB:uO:=az my
 (az jk
 KG)
def fg(a:Str):OutC S_bf9 GΩ:=dh G (qB (a,G,G,G,G))
theorem Sq:Cl.TJ De aT BO qB:=ao (xs (aq (cw (λa0=>SF a0) xp)))
 (ao (LX (ao (xs (aq (cw (λa0=>Wn a0) (af ft xv xk))))
 (di (cX (af qg xv xk)) (λ_ _=>rfl)
 (ba (Q6 (λ_ _=>rfl) (λa0 a=>SA a0 a) xv xv)))))
 (bz (lE (λ_=>rfl) (λ_=>rfl))))
theorem KU(a:Str):SimO De aT (m_bf9 [D.str a]) (fg a):=d8 Sq rfl
structure S_y9 where
 vzq:Str
 vjq:Option (L Bool)
 v7q:Option Int
def Bq:S_y9->LK:=λs=>[J (D.str s.vzq),s.vjq.map (eL D.bl),s.v7q.map D.int]
abbrev NP:=S_y9->FlC S_y9 Bool
def xQ:NP:=bI (λa s=>{s with vjq:=J a}) (bv (hZ (cK:_->Res (L Bool))))
def xP:NP:=LV (λs=>nQ (Bq s) (J 2)) (rL [10,11,13,14,17]) (bS (bv (cA fg (pC (·.vzq))))) λc=>(az (bI (λa s=>{s with vjq:=J a}) (bv (hZ (aB (kC (match c with|10=>false|11=>false|13=>false|14=>false|17=>true|_=>false)) (aB (kC (match c with|10=>true|11=>true|13=>true|14=>true|17=>true|_=>false)) (aB (kC (match c with|10=>false|11=>true|13=>false|14=>false|17=>false|_=>false)) (cK:_->Res (L Bool)))))))) (bI (λa s=>{s with vjq:=J a}) (bv (aC db (vC (·.vjq)) (hZ (aB (kC (match c with|10=>false|11=>false|13=>true|14=>false|17=>false|_=>false)) (aB (kC (match c with|10=>false|11=>false|13=>false|14=>true|17=>false|_=>false)) (cK:_->Res (L Bool)))))))))
def NC:NP:=cI (bv (aC (kS false) (vC (·.vjq)) (hZ (aB (kC true) (aB (kC true) (aB (kC false) (aB (kC false) (aB (kC false) (cK:_->Res (L Bool))))))))))
def KZ:NP:=az xQ
 (az xP
 NC)
def NX(a:Str):OutC S_y9 Bool:=dh G (KZ (a,G,G))
theorem VM:Cl.TJ Bq D.bl Jc KZ:=ao (xs (aq (aY bf)))
 (ao (Pr (ba (aq (cw (λa0=>KU a0) xp))) λ_=>(ao (xs (aq (aY (ar xk (ar xk (ar xk bf)))))) (xs (aq (af fG xv (aY (ar xk (ar xk bf))))))))
 (bz (aq (af (UJ (VI VJ) () false) xv (aY (ar xk (ar xk (ar xk (ar xk (ar xk bf))))))))))
theorem We(a:Str):SimO Bq D.bl (m_y9 [D.str a]) (NX a):=jh VM rfl
structure S_p9 where
 vtq:(L Int)
 vxq:Option Int
 vAq:Option L4
 v9q:Option (DI Int)
 v6q:Option (DI Int)
 vwq:Option L4
 vhq:Option (L Str)
 veq:Option Int
 vbq:Option Str
 vzq:Option Str
def Ho:S_p9->LK:=λs=>[J (eS s.vtq),s.vxq.map D.int,s.vAq.map (eL (rX D.int D.int)),s.v9q.map (dC D.int),s.v6q.map (dC D.int),s.vwq.map (eL (rX D.int D.int)),s.vhq.map (eL D.str),s.veq.map D.int,s.vbq.map D.str,s.vzq.map D.str]
abbrev oq:=S_p9->FlC S_p9 Bool
def yf:oq:=bI (λa s=>{s with vxq:=J a}) (bv (aC mO (kC (1:Int)) (aC eE (g9 rO (pC (·.vtq)) (kC (0:Int))) (kC (7:Int)))))
def ye:oq:=bI (λa s=>{s with vAq:=J a}) (bv (g9 E5 (g9 rO (pC (·.vtq)) (kC (1:Int))) (vC (·.vxq))))
def yd:oq:=bI (λa s=>{s with v9q:=J a}) (bv (g9 NZ (g9 rO (pC (·.vtq)) (kC (2:Int))) (vC (·.vxq))))
def yc:oq:=bI (λa s=>{s with v6q:=J a}) (bv (g9 LA (g9 rO (pC (·.vtq)) (kC (3:Int))) (vC (·.vxq))))
def yb:oq:=bI (λa s=>{s with vwq:=J a}) (bv (g9 AU (g9 rO (pC (·.vtq)) (kC (4:Int))) (vC (·.vxq))))
def ya:oq:=bI (λa s=>{s with vhq:=J a}) (bv (Qz Lz (vC (·.vAq)) (vC (·.v9q)) (vC (·.v6q)) (vC (·.vwq))))
def pi:oq:=cI (bv (kC false))
def jY:oq:=lH (bv (bB Q3 (cA NX (Qz wE (vC (·.vxq)) (vC (·.vhq)) (vC (·.vAq)) (g9 rO (pC (·.vtq)) (aC mO (kC (6:Int)) (vC (·.veq))))))))
 pi
 cQ
def rk:oq:=dt (bB (jx 0) (kC (8:Int))) (λa s=>{s with veq:=J a})
 jY
def rj:oq:=cI (bv (kC true))
def pj:oq:=lH (bv (aC (kS false) (aC eE (g9 rO (pC (·.vtq)) (kC (5:Int))) (kC (2:Int))) (kC (1:Int))))
 (az rk
 rj)
 cQ
def x9:oq:=bI (λa s=>{s with vbq:=J a}) (bv (cA gw (hZ (aB (bB eC (kC ("houses" : Str))) (aB (bB cq (vC (·.vxq))) (cK:_->Res (L D)))))))
def x8:oq:=bI (λa s=>{s with vzq:=J a}) (bv (aC gr (kC ("" : Str)) (aC db (hZ (aB (vC (·.vbq)) (cK:_->Res (L Str)))) (w9 NY (vC (·.vhq)) (vC (·.v9q)) (g9 rO (pC (·.vtq)) (kC (6:Int)))))))
def Ai:oq:=cI (bv (aC (kS false) (cA E2 (cA fg (vC (·.vzq)))) (aC gr (kC ("" : Str)) (aC db (hZ (aB (vC (·.vbq)) (cK:_->Res (L Str)))) (vC (·.vhq))))))
def AE:oq:=az yf
 (az ye
 (az yd
 (az yc
 (az yb
 (az ya
 (az pj
 (az x9
 (az x8
 Ai))))))))
def N6(a:L Int):OutC S_p9 Bool:=dh G (AE (a,G,G,G,G,G,G,G,G,G))
theorem VV:Cl.TJ Ho D.bl Jl AE:=ao (xs (aq (af ja xk (af cp (gM (λa0 a=>rB a0 a) xp xk) xk))))
 (ao (xs (aq (gM (λa0 a=>SI a0 a) (gM (λa0 a=>rB a0 a) xp xk) xv)))
 (ao (xs (aq (gM (λa0 a=>Wi a0 a) (gM (λa0 a=>rB a0 a) xp xk) xv)))
 (ao (xs (aq (gM (λa0 a=>Wj a0 a) (gM (λa0 a=>rB a0 a) xp xk) xv)))
 (ao (xs (aq (gM (λa0 a=>SL a0 a) (gM (λa0 a=>rB a0 a) xp xk) xv)))
 (ao (xs (aq (Kg (λa0 a b c=>Wh a0 a b c) xv xv xv xv)))
 (ao (cy (aq (aQ (af (fE false) (af cp (gM (λa0 a=>rB a0 a) xp xk) xk) xk)))
 (ao (di (gY xk) (λ_ _=>rfl)
 (cy (aq (DW (aQ (cw (λa0=>We a0) (Kg (λa0 a b c=>SK a0 a b c) xv xv xv (gM (λa0 a=>rB a0 a) xp (af ja xk xv)))))))
 (bz (aq xk))
 bJ))
 (bz (aq xk)))
 bJ)
 (ao (xs (aq (cw (λa0=>mH a0) (aY (ar (bU g7 xk) (ar (bU cB xv) bf))))))
 (ao (xs (aq (gb jU xk (af fG (aY (ar xv bf)) (Kh (λa0 a b=>Wg a0 a b) xv xv (gM (λa0 a=>rB a0 a) xp xk))))))
 (bz (aq (af (lT false) (cw (λa0=>SE a0) (cw (λa0=>KU a0) xv)) (gb jU xk (af fG (aY (ar xv bf)) xv)))))))))))))
theorem Wm(a:L Int):SimO Ho D.bl (m_p9 [eS a]) (N6 a):=jh VV rfl
end
def ce(ns:L Int)(k:Int):Int:=(ns[k.toNat]?).getD 0
def Mj(ns:L Int)(k:Int)(a:0<=k):(rO ns k).res=.ok (ce ns k):=by
 ext rO K4 Eb Ea rh ce;by_cases h:k<ns.length
 .obtain⟨v,e⟩:∃v,ns[k.toNat]?=J v:=(_,XS ∅);simp[h,gv ns a,e]
 .have e:ns[k.toNat]?=none:=X5 ∅;simp[h,e]
def jt(sz:Int)(k:L Int):Prop:=∃a b,k=[a,b]/\0<=a/\a<sz/\0<=b/\b<sz
theorem iA{W:Type}:∀{l:L W} {j:Nat} (h:j<l.length),(l[j]::l.eraseIdx j).Perm l
 |x::l,0,h=>List.Perm.refl _
 | x::l,j+1,h=>by
   have a:=iA (l:=l) (j:=j) (by simpa using h);rw[YZ,List.getElem_cons_succ];exact(List.Perm.swap x _ _).trans (a.cons x)
structure RoadOk (sz:Int) (r:L Int):Prop where
 two:2<=r.length
 last:r.getLast?=J 0
 nd:r.Nodup
 all:∀x∈r,0<=x/\x<sz
def Qu{l:L W}{i:Int}(h0:0<=i)(a:i<l.length)(b:l.length<=20000):∃(h:i.toNat<l.length),Ia l i=J (l[i.toNat],l.eraseIdx i.toNat):=by
 have h:i.toNat<l.length:=by omega
 refine(h,?_);ext Ia;rw[if_pos (h0,a,by ext ak;omega),List.getElem?_eq_getElem h];rfl
def lv{l:L W}(h:l.length<ak):lx l x=J (j2,l++[x]):=by ext lx;rw[if_pos h]
def gR{l m:L W}(h:l.length+m.length<=ak):db l m=.ok (l++m):=by ext db;rw[if_pos h]
def Me(c h sz:Int)(B1:1<=h)(I:h<sz)(S:sz<=1000):∃r,(NW c h sz).res=.ok r/\RoadOk sz r/\(∃t,r=h::t)/\r.length<=1001:=by
 have A:dF (aC jx (kC (1:Int)) (pC (·.vxq))) (aC (kS true) (pC λp=>p.1) (pC λp=>p.2.vcq)) (pC λp=>p.1) ((c,h,sz,G,G,G):S_z9)=.ok ((bN 1 sz).filter λx=>!decide (x=h)):=by
  rw[r8 (l:=bN 1 sz) (λx=>!decide (x=h)) (λx=>x) (by simp[fQ (lo:=1) (hi:=sz) ∅ ∅ ∅ ∅]) (by rw[b7];ext ak;omega) (λa _=>by simp) (λa _ _=>by simp)];simp
 have hR:∀x∈(bN 1 sz).filter (λx=>!decide (x=h)),1<=x/\x<sz/\x≠h:=λx d=>by
  let(D,C):=YB.mp d
  have:=gn.mp D
  exact(this.1,this.2,by simpa using C)
 have f:((bN 1 sz).filter λx=>!decide (x=h)).Nodup:=(BD 1 sz).filter _;have v:((bN 1 sz).filter λx=>!decide (x=h)).length<=999:=Yw (Yu _ _) (by rw[b7];omega);generalize (bN 1 sz).filter (λx=>!decide (x=h))=R0 at A hR f v
 have B:=CK (t:=bv (rN (aC O8 (vC (·.viq)) (kC (0:Int))) (aC O8 (bB kP (vC (·.vqq))) (kC (0:Int))))) (c:=yn)
  (λn (s:S_z9)=>∃c' m rest mid,s=(c',h,sz,J rest,J (h::mid),J m)/\rest.length=n/\(h::mid++rest).Nodup/\(∀x∈h::mid++rest,1<=x/\x<sz)/\(h::mid++rest).length<=1000)
  (λs=>∃c' m rest mid,s=(c',h,sz,J rest,J (h::mid),J m)/\(h::mid).Nodup/\(∀x∈h::mid,1<=x/\x<sz)/\(h::mid).length<=1000) (by
    rintro n s ⟨c',m,rest,mid,rfl,rfl,nd,u,ln⟩;have E:mid.length+rest.length+1<=1000:=by simpa using ln
    by_cases w:0<m/\0<rest.length
    · have Cv:0<=c'%(rest.length:Int):=Yi _ ∅;have F:c'%(rest.length:Int)<rest.length:=Yb _ ∅;let(g,hp):=Qu Cv F ∅;have R:(0:Int)<rest.length:=by omega
      generalize (c'%(rest.length:Int)).toNat=j at g hp;have y:=lv (l:=h::mid) (x:=rest[j]) (by simp only[List.length_cons];ext ak;omega);refine .inr (by simp[w.1,w.2],(rest.eraseIdx j).length,_,by rw[List.length_eraseIdx,if_pos g];omega,.inl (by simp[yn,wm,wk,wj,w.2,hp,y]),c' / 5,m-1,rest.eraseIdx j,mid++[rest[j]],rfl,rfl,?_,?_,?_)
      · have o:(h::(mid++[rest[j]])++rest.eraseIdx j).Perm (h::mid++rest):=by
         have:(rest[j]::rest.eraseIdx j).Perm rest:=iA g
         simpa using(Ae8 (h::mid) this)
        exact o.nodup_iff.mpr nd
      · intro x d;refine u x ?_
        have o:(h::(mid++[rest[j]])++rest.eraseIdx j).Perm (h::mid++rest):=by
         have:(rest[j]::rest.eraseIdx j).Perm rest:=iA g
         simpa using(Ae8 (h::mid) this)
        exact o.mem_iff.mp d
      .simp[List.length_eraseIdx,g];omega
    · refine .inl (?_,c',m,rest,mid,rfl,(Y8.mp nd).1,λx d=>u x (Yl _ d),by simp;omega);by_cases i:0<m
      .have P:rest=[]:=YY.mp ∅;subst P;simp[i]
      .simp[i])
 let(s',e,c',m,rest,mid,rfl,nd,u,ln):=B 100000 R0.length (c / 4,h,sz,J R0,J [h],J (if c / 4%8=3 then sz else c%4))
  (c / 4,_,R0,[],rfl,rfl,Yr.mpr (λz=>(hR h z).2.2 rfl,f),λx d=>by
   rcases XC.mp d with z|z
   .rw[z];exact(B1,I)
   .exact((hR x z).1,(hR x z).2.1),by show(h::R0).length<=1000;rw[XD];omega) ∅
 have Q:mid.length+1<=1000:=by simpa using ln
 have k:=gR (l:=h::mid) (m:=[(0:Int)]) (by simp only[List.length_cons,List.length_nil];ext ak;omega);refine(h::mid++[0],?_,(by simp,List.getLast?_concat ..,?_,λx d=>?_),(_,rfl),by simp;omega)
 · have o:xN (c,h,sz,G,G,G)=.nx (c,h,sz,J R0,G,G):=by
    ext xN bI bv;rw[A];rfl
   have O:xM (c,h,sz,J R0,G,G)=.nx (c,h,sz,J R0,J [h],G):=by simp[xM,ak]
   have N:xL (c,h,sz,J R0,J [h],G)=.nx (c,h,sz,J R0,J [h],J (c%4)):=by simp[xL]
   have M:xK (c,h,sz,J R0,J [h],J (c%4))=.nx (c,h,sz,J R0,J [h],J (if c / 4%8=3 then sz else c%4)):=by
    by_cases q:c / 4%8=3<;>simp[xK,q9,q]
   have I0:∀x,xJ (c,h,sz,J R0,J [h],x)=.nx (c / 4,h,sz,J R0,J [h],x):=λx=>by simp[xJ]
   have K:D2 (c / 4,h,sz,J R0,J [h],J (if c / 4%8=3 then sz else c%4))=_:=e;ext NW KY;simp only[az,o,O,N,M,I0,K];simp[D1,k,ak,-db]
 · exact Y8.mpr (nd,by simp,λa y b H=>by
    rw[XM.mp H]
    have:=(u a y).1
    omega)
 · rcases XJ.mp d with z|z
   .have:=u x z;omega
   .rw[XM.mp z];omega
def qN:∀(n:Nat) (l:L Int),l.Nodup->(∀x∈l,0<=x/\x<n)->l.length<=n:=by
 intro n
 induction n with
 |zero=>
   intro l nd a;cases l with
   |nil=>exact XH _
   |cons x l=>have:=a x Xw;omega
 |succ n d=>
   intro l nd a
   have c:=d (l.erase n) (nd.erase _) λx e=>by
    have b:=(nd.mem_erase_iff).mp e
    have:=a x b.2
    have f:=b.1;omega
   rw[List.length_erase]at c;split at c<;>omega
def RoadOk.len{r:L Int}(h:RoadOk sz r):(r.length:Int)<=sz:=by
 have:=qN sz.toNat r h.nd λx a=>by have:=h.all x a;omega
 let(x,a):=List.exists_mem_of_ne_nil r (λz=>by have:=h.two;rw[z]at this;simp at this)
 have:=h.all x a
 omega
def EV(sz:Int)(p:Int×Int):Prop:=0<=p.1/\p.1<sz/\0<=p.2/\p.2<sz/\p.1≠p.2
theorem sW{W:Type}{l:L W}{a:W}(h:l.Nodup)(d:a∉l):(l++[a]).Nodup:=
 Y8.mpr (h,by simp,λx c y b=>by rw[XM.mp b];rintro rfl;exact d c)
def E7{a x sz:Int}(e:0<=a)(d:a<sz)(c:0<=x)(b:x<sz-1):a≠(a+1+x)%sz:=by
 by_cases q:a+1+x<sz
 .rw[Int.emod_eq_of_lt ∅ q];omega
 · have:(a+1+x)%sz=a+1+x-sz:=by
    rw[<-Int.sub_emod_right,Int.emod_eq_of_lt ∅ ∅]
   rw[this];omega
def Pv(c sz:Int)(B1:1<=sz):∃W:L4,(AU c sz).res=.ok W/\W.length<=3/\W.Nodup/\∀p∈W,EV sz p:=by
 by_cases A:sz<2
 .refine([],?_,by simp,by simp,λ_ h=>(nomatch h));simp[AU,yt,uH,uG,pH,A,ak]
 · have I:0<=c%3/\c%3<3:=(Yi _ ∅,Yb _ ∅);have g:1<sz:=by omega
   have f:0<sz:=by omega
   let(s',e,c',k,a0,v,W,rfl,F,i,j):=dy (u:=λa s=>{s with veq:=J a}) (c:=pM) (λp (s:S_ba9)=>∃c' k a0 v W,s=(c',sz,J W,k,a0,v)/\W.length<=p.length/\W.Nodup/\∀p∈W,EV sz p)
    (bN 0 (c%3)) (c,sz,J [],G,G,G) (c,G,G,G,[],rfl,by simp,by simp,λ_ h=>(nomatch h)) (by
      rintro p x r s Cv ⟨c',k,a0,v,W,rfl,F,i,j⟩
      have hp:p.length<3:=by
       have:=b7 0 (c%3)
       rw[Cv,XF,XD]at this;omega
      generalize B:(c'*48271+23)%2147483647=d;have o:0<=d%sz:=Yi _ ∅;have n:d%sz<sz:=Yb _ f;have E:0<=d / 7%(sz-1):=Yi _ ∅;have D:d / 7%(sz-1)<sz-1:=Yb _ ∅;have y:0<=(d%sz+1+d / 7%(sz-1))%sz:=Yi _ ∅;have w:(d%sz+1+d / 7%(sz-1))%sz<sz:=Yb _ f;have m:=E7 o n E D;generalize t:(d%sz+1+d / 7%(sz-1))%sz=b at y w m;generalize C:d%sz=a at o n m t;by_cases q:(a,b)∈W
      .refine(_,.inl ?_,d,J x,J a,J b,W,rfl,by rw[XF];omega,i,j);simp[pM,og,nZ,nY,nX,B,f,g,C,t,q]
      · have H:=lv (l:=W) (x:=(a,b)) (by ext ak;omega);refine(_,.inl ?_,d,J x,J a,J b,W++[(a,b)],rfl,by rw[List.length_append,List.length_append];simp;omega,sW i q,λp hp=>?_)
        .simp[pM,og,nZ,nY,nX,mE,B,f,g,C,t,q,H]
        · rcases XJ.mp hp with z|z
          .exact j p z
          .rw[XM.mp z];exact(o,n,y,w,m))
   refine(W,?_,?_,i,j)
   .unfold AU yt;simp[uH,uG,Az,Ay,A,fQ (lo:=0) (hi:=c%3) ∅ ∅ ∅ ∅,e,ak]
   .have:=b7 0 (c%3);omega
structure WaysOk (sz:Int) (W:L4):Prop where
 nd:W.Nodup
 all:∀p∈W,0<=p.1/\p.1<p.2/\p.2<sz
 len:W.length<=10000
def Ma(c sz:Int)(O:1<=sz)(N:sz<=60):∃W:L4,(E5 c sz).res=.ok W/\WaysOk sz W:=by
 generalize j:(c+1)*48271%2147483647*16807%2147483647=d
 let(s',e,k,a0,g,W,rfl,y,n,m,v):=dy (u:=λa s=>{s with v0q:=J a}) (c:=nV) (λp (s:S_bc9)=>∃k a0 g W,s=(c,sz,J d,J W,J k,a0,g)/\0<=k/\W.Nodup/\(∀q∈W,0<=q.1/\q.1<q.2/\q.2<sz/\q.1<(p.length:Int))/\W.length<=p.length*100)
  (bN 0 sz) (c,sz,J d,J [],J 0,G,G) (0,G,G,[],rfl,∅,by simp,λ_ h=>(nomatch h),by simp) (by
    rintro p a r s F ⟨k,a0,g,W,rfl,y,n,m,v⟩;have M:=mU F;have D:(p.length:Int)=a:=by omega
    let(s2,Cv,k2,H,I,rfl,w,t,B,E):=dy (u:=λa s=>{s with v2q:=J a}) (c:=lp) (λq (s:S_bc9)=>∃k g W,s=(c,sz,J d,J W,J k,J a,g)/\0<=k/\W.Nodup/\(∀x∈W,0<=x.1/\x.1<x.2/\x.2<sz/\(x.1<a\/x.1=a/\x.2<a+1+(q.length:Int)))/\W.length<=p.length*100+q.length)
     (bN (a+1) sz) (c,sz,J d,J W,J k,J a,g) (k,g,W,rfl,y,n,λx i=>by have:=m x i;omega,by simpa using v) (by
       rintro q b B1 s o ⟨k,g,W,rfl,y,n,m,v⟩;have I0:=mU o
       have K:q.length<60:=by
        have:=b7 (a+1) sz
        rw[o,XF,XD]at this;omega
       have f:0<=k%29:=Yi _ ∅;by_cases C:d / 2 ^ (k%29).toNat%2=1
       · have A:=lv (l:=W) (x:=(a,b)) (by ext ak;omega);refine(_,.inl ?_,k+1,J b,W++[(a,b)],rfl,∅,sW n (λz=>by have:=m _ z;omega),λx i=>?_,by rw[List.length_append,List.length_append];simp;omega)
         .simp[lp,k7,kq,k6,f,C,A]
         · rw[XF];rcases XJ.mp i with z|z
           .have:=m x z;simp;omega
           .rw[XM.mp z];simp;omega
       · refine(_,.inl ?_,k+1,J b,W,rfl,∅,n,λx i=>?_,by rw[XF];omega)
         .simp[lp,k7,k6,f,C]
         .have:=m x i;rw[XF];simp;omega)
    refine(_,.inl ?_,k2,J a,H,I,rfl,w,t,λx i=>?_,?_)
    .simp only[nV,dt,aC,mO,vC,pC,kC,Res.bind];rw[fQ ∅ ∅ ∅ ∅];exact Cv
    .have:=B x i;rw[XF];simp;omega
    .have:=b7 (a+1) sz;rw[XF];simp;omega)
 refine(W,?_,n,λp hp=>by have:=m p hp;omega,by have:=b7 0 sz;omega);ext E5 Ct;simp[Ax,Aw,Av,Au,At,j,ak,fQ (lo:=0) (hi:=sz) ∅ ∅ ∅ ∅,e]
def JG(l:L Int)(m:Int):0<=gq l m↔0<=m/\∀x∈l,0<=x:=by
 let(e,f,d):=lV l m;constructor
 .intro h;exact(by omega,λx c=>by have:=d x c;omega)
 · rintro⟨a,b⟩;rcases e with z|z
   .omega
   .exact b _ z
def Fi(b:L Int)(n:Int)(h:∀x∈b,0<=x/\x<n)(h0:0<n):(E3 b n).res=.ok j2:=by
 ext E3 Cq
 first | unfold Ar | skip
 cases b with
 |nil=>
   have q:¬ n<=0:=by omega
   simp[q]
 |cons a l=>
   have g:0<=gq l a:=(JG l a).mpr ((h a Xw).1,λx e=>(h x (on _ e)).1)
   have f:ka l a<n:=by
    obtain⟨z|z,_⟩:=nN l a
    .rw[z];exact(h a Xw).2
    .exact(h _ (on _ z)).2
   have d:¬ gq l a<0:=by omega
   have c:¬ n<=ka l a:=by omega
   simp[d,c]
def pX(g:GΩ)(a:L Int)(h:∀x∈a,0<=x/\x<g.hω)(h0:0<g.hω):(yC g a).res=.ok j2:=by
 have e:=Fi a g.hω h h0;ext yC Le
 first | unfold EC | skip
 simp[e]
theorem in1{a n:Int}(c:0<=a/\a<n):∀x∈[a],0<=x/\x<n:=λx b=>by rw[XM.mp b];exact c
theorem Xd{a b n:Int}(e:0<=a/\a<n)(d:0<=b/\b<n):∀x∈[a,b],0<=x/\x<n:=λx c=>by
 rcases XC.mp c with z|z
 .rw[z];exact e
 .rw[XM.mp z];exact d
def A8(g:GΩ)(a b:Int)(f:0<=a/\a<g.hω)(d:0<=b/\b<g.hω)(c:a≠b):(LC g a b).res=.ok j2:=by
 have e:=pX g [a,b] (Xd f d) ∅;ext LC Lc;simp[Ew,Ev,e,c,ak]
def Fk(g:GΩ)(a b:Int)(d:0<=a/\a<g.hω)(c:0<=b/\b<g.hω):(Oc g a b).res=.ok ((g.lω.get [a,b]).getD 0):=by
 have e:=pX g [a,b] (Xd d c) ∅;ext Oc Lg;simp[EG,EF,e,ak]
def Mg(g:GΩ)(r:L Int)(a:RoadOk g.hω r)(f:g.hω<=1000):(Oa g r).res=.ok j2:=by
 have ln:=a.len;have two:=a.two;have e:=pX g r a.all ∅;have d:¬ (r.length:Int)<2:=by omega
 have b:r.length<4000:=by omega
 have c:=a.last;ext Oa Ld;simp[EB,EA,Ez,Ey,e,d,b,Cl.AO,c,Kq a.nd]
def Qp(I0 Q:DI Int)(r:L Int):Int:=(Q.get r).getD (match r with|a::b::_=>(I0.get [a,b]).getD 0|_=>0)
def qU(I0 Q:DI Int)(r:L Int):Int×Int×L Int:=(0-Qp I0 Q r,(r.length:Int),r)
def Pj(a b:W)(t:L W):jq (a::b::t) 0=J a:=by rw[gv _ ∅];rfl
def Pi(a b:W)(t:L W):jq (a::b::t) 1=J b:=by rw[gv _ ∅];rfl
def rQ(g:GΩ):(uP g).res=.ok g.hω:=by
 ext uP K9
 first | unfold Ep | skip
 simp
def Mh(g:GΩ)(a b v:Int)(f:0<=a/\a<g.hω)(d:0<=b/\b<g.hω)(c:g.lω.length<ak):Od g a b v=.ok j2 ({g with lω:=g.lω.put [a,b] v},a,b,v):=by
 have e:=pX g [a,b] (Xd f d) ∅;ext Od Lh;simp[EI,EH,e,c,ak]<;>(unfold ak at c;simp[c])
def Mc(g:GΩ)(a b:Int)(h:0<=a/\a<g.hω)(f:0<=b/\b<g.hω)(c:a≠b)(d:g.sω.length<ak):N9 g a b=.ok j2 ({g with sω:=g.sω.put [a,b] true},a,b):=by
 have e:=A8 g a b h f c;ext N9 Lb;simp[Eu,Et,e,d]
def L9(g:GΩ)(r:L Int)(v:Int)(a:RoadOk g.hω r)(c:g.hω<=1000)(b:g.wω.length<ak):N8 g r v=.ok j2 ({g with wω:=g.wω.put r v},r,v):=by
 have e:=Mg g r a c;ext N8 K8;simp[Eo,En,e,b]
def Pw(g:GΩ)(a b:Int)(j:0<=a/\a<g.hω)(i:0<=b/\b<g.hω)(c:a≠b)(f:g.U.get [a,b]=G)(h:g.U.length+1<ak):Gp g a b=.ok j2 ({g with U:=(g.U.put [a,b] true).put [b,a] true},a,b):=by
 have e:=A8 g a b j i c;have d:g.U.length<ak:=by omega
 have l2:(g.U.put [a,b] true).length<ak:=Nat.lt_of_le_of_lt jA h;ext Gp EQ;simp[yh,yg,EL,EK,e,f,d,l2]
def Few(g:GΩ):Prop:=g.U.length<=30000/\g.lω.length<=30000/\g.wω.length<=30000/\g.sω.length<=30000
structure DrawOk (sz:Int) (U:L4) (V Y:DI Int) (S:L4):Prop where
 size:1<=sz/\sz<=60
 U:WaysOk sz U
 V:V.length<=100/\DI.nd V/\∀p∈V,jt sz p.1
 Y:Y.length<=100/\DI.nd Y/\∀p∈Y,RoadOk sz p.1
 S:S.length<=100/\S.Nodup/\∀p∈S,EV sz p
theorem DS{X:Type}(k:L Int):DI.get ([]:DI X) k=none:=rfl
def mX{X:Type}{F:DI X}(a:DI.nd F)(b:k∈F.map (·.1)):∃v,F.get k=J v/\(k,v)∈F:=by
 let(p,hp,rfl):=XG.mp b;exact(p.2,Cb a hp,hp)
def zU{X:Type}{F:DI X}(a:k∉F.map (·.1)):F.get k=none:=by
 cases q:F.get k with
 |none=>rfl
 |some v=>exact absurd (XG.mpr ((J9 k v),oY q,rfl)) a
structure Wf (sz:Int) (g:GΩ):Prop where
 count:g.hω=sz
 U:DI.nd g.U/\∀p∈g.U,jt sz p.1
 lik:DI.nd g.lω/\∀p∈g.lω,jt sz p.1
 shn:DI.nd g.sω/\∀p∈g.sω,jt sz p.1
 wsh:DI.nd g.wω/\∀p∈g.wω,RoadOk sz p.1
theorem Wf.lay{g:GΩ}(h:Wf sz g)(d:0<=a/\a<sz)(c:0<=b/\b<sz):Wf sz {g with U:=(g.U.put [a,b] true).put [b,a] true}:=
 (h.count,(nM (nM h.U.1),kK (P:=jt sz) (kK (P:=jt sz) h.U.2 (a,b,rfl,d.1,d.2,c.1,c.2)) (b,a,rfl,c.1,c.2,d.1,d.2)),h.lik,h.shn,h.wsh)
theorem Wf.like{g:GΩ}(h:Wf sz g)(v:Int)(d:0<=a/\a<sz)(c:0<=b/\b<sz):Wf sz {g with lω:=g.lω.put [a,b] v}:=
 (h.count,h.U,(nM h.lik.1,kK (P:=jt sz) h.lik.2 (a,b,rfl,d.1,d.2,c.1,c.2)),h.shn,h.wsh)
theorem Wf.shun{g:GΩ}(h:Wf sz g)(d:0<=a/\a<sz)(c:0<=b/\b<sz):Wf sz {g with sω:=g.sω.put [a,b] true}:=
 (h.count,h.U,h.lik,(nM h.shn.1,kK (P:=jt sz) h.shn.2 (a,b,rfl,d.1,d.2,c.1,c.2)),h.wsh)
theorem Wf.wish{g:GΩ}(h:Wf sz g)(v:Int)(a:RoadOk sz k):Wf sz {g with wω:=g.wω.put k v}:=
 (h.count,h.U,h.lik,h.shn,(nM h.wsh.1,kK (P:=RoadOk sz) h.wsh.2 a))
theorem Wf.new:Wf sz (sz,[],[],[],[]):=(rfl,(by ext DI.nd;simp,by simp),(by ext DI.nd;simp,by simp),(by ext DI.nd;simp,by simp),(by ext DI.nd;simp,by simp))
abbrev cl(x:Str):L Nat:=x.cps.toList
theorem jM(h:cl a=cl b):a=b:=Str.ext' (Array.toList_inj.mp h)
def bZ(a b:Str):cl (a++b)=cl a++cl b:=by show(a.cps++b.cps).toList=_;rw[Array.toList_append]
theorem nO(x:Str):x.length=(cl x).length:=rfl
def il(sep x y:Str)(r:L Str):cl (Str.join sep (x::y::r))=cl x++(cl sep++cl (Str.join sep (y::r))):=by
 show cl (x++sep++Str.join sep (y::r))=_;rw[bZ,bZ,Yg]
theorem Ac:∀{x y r q:L Nat},c∉x->c∉y->x++c::r=y++c::q->x=y/\r=q
 |[],[],_,_,_,_,e=>(rfl,by injection e)
 |[],b::y,_,_,_,f,e=>by injection e with d _;exact absurd Xw (d▸f)
 |a::x,[],_,_,g,_,e=>by injection e with d _;exact absurd Xw (d▸g)
 | a::x,b::y,_,_,g,f,e=>by
   injection e with d h
   let(p,q):=Ac (λz=>g (on _ z)) (λz=>f (on _ z)) h;exact(by rw[d,p],q)
theorem vX:∀{xs ys:L Str},xs≠[]->ys≠[]->(∀x∈xs,c∉cl x)->(∀y∈ys,c∉cl y)->Str.join ⟨#[c]⟩ xs=Str.join ⟨#[c]⟩ ys->xs=ys
 |[],_,h,_,_,_,_=>absurd rfl h
 |_,[],_,h,_,_,_=>absurd rfl h
 |[x],[y],_,_,_,_,e=>by rw[show x=y from e]
 | [x],y::z::r,_,_,d,_,e=>by
   have e:=congrArg cl e;rw[il]at e;have e:cl x=_:=e;exact absurd (show c∈cl x from by rw[e];simp[cl]) (d x Xw)
 | x::w::s,[y],_,_,_,b,e=>by
   have e:=congrArg cl e;rw[il]at e;have e:_=cl y:=e;exact absurd (show c∈cl y from by rw[<-e];simp[cl]) (b y Xw)
 | x::w::s,y::z::r,_,_,d,b,e=>by
   have e:=congrArg cl e;rw[il,il]at e;let(i,g):=Ac (d x Xw) (b y Xw) e;rw[jM i,vX (xs:=w::s) (ys:=z::r) () () (λa f=>d a (on _ f)) (λa f=>b a (on _ f)) (jM g)]
theorem GN(x:Str)(c:Nat):Txt.split x ⟨#[c]⟩≠[]:=λh=>by
 have e:=StrLaws.join_split x ⟨#[c]⟩;rw[h]at e
 have:x=Str.empty:=e.symm
 subst this;revert h;ext Txt.split;rw[if_pos (by rfl)];simp
theorem kH{c:Nat}{xs:L Str}(h:xs≠[])(a:∀x∈xs,c∉cl x):Txt.split (Txt.join ⟨#[c]⟩ xs) ⟨#[c]⟩=xs:=
 vX (GN _ _) h (StrLaws.split_free _ _) a (by rw[StrLaws.join_split];exact Ym _ _)
def KQ:∀xs:L Str,cl (Txt.join "" xs)=xs.flatMap cl:=by
 intro xs;show cl (Builtin.Str.glued "" xs)=_;rw[Ym]
 induction xs with
 |nil=>rfl
 |cons x xs a=>
   cases xs with
   |nil=>show cl x=_;simp
   |cons y r=>rw[il,a];rfl
def tz:∀xs:L Str,xs≠[]->Txt.join "" (xs.map λx=>x++("\n" : Str))=Txt.join "\n" xs++("\n" : Str):=by
 intro xs h;apply jM;rw[KQ,bZ];show _=cl (Builtin.Str.glued "\n" xs)++_;rw[Ym]
 induction xs with
 |nil=>exact absurd rfl h
 |cons x xs a=>
   cases xs with
   |nil=>show cl (x++("\n" : Str))++[]=_;rw[bZ,XY];rfl
   |cons y r=>
     rw[il,Xz,ZM,a (),bZ,Yg,Yg,Yg]
def ua(y:Str):mq (y++("\n" : Str)) G (J (-1))=y:=by
 have c:(y++("\n" : Str)).length=y.length+1:=by rw[XX];rfl
 have e:Builtin.Str.strSliceIndices G (J (-1)) 1 (y++("\n" : Str)).length=List.range y.length:=by
  rw[c]
  have:=Z3 (a:=0) (b:=y.length) (len:=y.length+1) ∅ ∅
  rw[show(List.range (y.length-0)).map (λk=>0+k)=List.range y.length from by simp]at this;rw[<-this];simp only[Builtin.Str.strSliceIndices];rw[show(if (-1:Int)<0 then -1+((y.length+1:Nat):Int) else -1)=(y.length:Int) from by rw[Xx ∅];omega,show(if ((y.length:Nat):Int)<0 then ((y.length:Nat):Int)+((y.length+1:Nat):Int) else ((y.length:Nat):Int))=(y.length:Int) from Xy ∅,show(if ((0:Nat):Int)<0 then ((0:Nat):Int)+((y.length+1:Nat):Int) else ((0:Nat):Int))=0 from rfl];simp;rw[show max (0:Int) (min 0 ((y.length:Int)+1))=0 from by omega]
 ext mq;rw[e,if_neg (by rw[List.length_range,c];simp)];apply jM;show(List.range y.length).filterMap (λi=>(y++("\n" : Str)).cps[i]?)=cl y
 have:=StrLaws.picks (cl (y++("\n" : Str))) y.length 0 (by rw[<-nO,c];omega)
 rw[show(List.range y.length).map (λk=>0+k)=List.range y.length from by simp]at this;rw[List.drop_zero,bZ,List.take_left' (by rfl)]at this;rw[<-this];congr 1;funext i;rw[<-bZ];simp[cl]
def F3(x:Str)(c:Nat)(r:L Nat)(h:cl x=c::r):mq x (J 1) G=⟨r.toArray⟩:=by
 have d:x.length=r.length+1:=by rw[nO,h];rfl
 have e:Builtin.Str.strSliceIndices (J 1) G 1 x.length=(List.range r.length).map (λk=>1+k):=by
  rw[d]
  have:=Z3 (a:=1) (b:=r.length+1) (len:=r.length+1) ∅ ∅
  rw[show r.length+1-1=r.length from by omega]at this;rw[<-this];simp only[Builtin.Str.strSliceIndices];rw[show(if ((r.length+1:Nat):Int)<0 then ((r.length+1:Nat):Int)+((r.length+1:Nat):Int) else ((r.length+1:Nat):Int))=((r.length+1:Nat):Int) from Xy ∅];simp;rw[show max (0:Int) ((r.length:Int)+1)=(r.length:Int)+1 from by omega]
 ext mq;rw[e,if_neg (by rw[List.length_map,List.length_range,d];simp)];apply jM;show((List.range r.length).map (λk=>1+k)).filterMap (λi=>x.cps[i]?)=r
 have:=StrLaws.picks (cl x) r.length 1 (by rw[h];simp;omega)
 rw[h]at this;rw[show List.take r.length (List.drop 1 (c::r))=r from by simp]at this;refine Eq.trans ?_ this;congr 1;funext i;rw[<-h];simp[cl]
def F0(y:Str):Txt.endswith (y++("\n" : Str)) "\n" = true:=by
 ext Txt.endswith;have b:(y++("\n" : Str)).length=y.length+1:=by rw[Str.length_append];rfl
 have a:("\n" : Str).length=1:=rfl;rw[StrLaws.subAt_eq,b,a]
 have:(cl (y++("\n" : Str))).drop (y.length+1-1)=[10]:=by
  rw[bZ,show y.length+1-1=(cl y).length from by rw[<-nO];omega,List.drop_left];rfl
 rw[this];simp;rfl
abbrev ds(m:Nat):L Nat:=(Nat.toDigits 10 m).map Char.toNat
def kj(h:m<10):ds m=[48+m]:=by
 ext ds;rw[Nat.toDigits_of_lt_base h]
 have:∀d:Nat,d<10->[Nat.digitChar d].map Char.toNat=[48+d]:=by decide
 exact this m h
def rY(h:¬ m<10):ds m=ds (m / 10)++[48+m%10]:=by
 have a:m%10<10:=Nat.mod_lt m ();have t:Nat.toDigits 10 (m / 10)++Nat.toDigits 10 (m%10)=Nat.toDigits 10 (10*(m / 10)+m%10):=Nat.toDigits_append_toDigits () ∅ a;rw[Nat.div_add_mod]at t;ext ds;rw[<-t,List.map_append];exact congrArg _ (kj a)
def km(m:Nat):NumText.AllDigits (ds m):=by
 induction m using Nat.strongRecOn with
 |_ m b=>
   by_cases h:m<10
   .rw[kj h];intro c a;rw[XM.mp a];omega
   · rw[rY h];intro c a;rcases XJ.mp a with z|z
     .exact b (m / 10) ∅ c z
     .rw[XM.mp z];omega
def z8(m:Nat):ds m≠[]:=by
 by_cases h:m<10
 .rw[kj h];simp
 .rw[rY h];simp
theorem t7:∀(k m:Nat),m<10 ^ (k+1)->(ds m).length<=k+1
 |0,m,h=>by rw[kj ∅];simp
 | k+1,m,h=>by
   by_cases q:m<10
   .rw[kj q];simp
   · rw[rY q,XF]
     have:10 ^ (k+1+1)=10 ^ (k+1)*10:=Nat.pow_succ ..
     have:=t7 k (m / 10) ∅
     show(ds (m / 10)).length+1<=_;omega
def Nz:ds m=48::r->m=0:=by
 induction m using Nat.strongRecOn generalizing r with
 |_ m c=>
   intro e;by_cases h:m<10
   · rw[kj h]at e;injection e with b _
     omega
   · rw[rY h]at e;cases q:ds (m / 10) with
     |nil=>exact absurd q (z8 _)
     |cons a l=>
       rw[q]at e;injection e with b _
       subst b
       have:=c (m / 10) ∅ q
       omega
def Wb(m:Nat):cl (ai (m:Int))=ds m:=by
 show(Str.ofString (toString ((m:Nat):Int))).cps.toList=_;rw[Aa1];show(Nat.repr m).toList.map Char.toNat=_;rw[Nat.toList_repr]
def Wc(m:Nat):cl (ai (-((m+1:Nat):Int)))=45::ds (m+1):=by
 show(Str.ofString (toString (Int.negSucc m))).cps.toList=_;rw[Aa1];show("-" ++ Nat.repr (m+1)).toList.map Char.toNat=_;rw[String.toList_append,X8,Nat.toList_repr];rfl
def eG(n:Int):Prop:=n.natAbs<10 ^ 60
def jz(n:Int):(∃m:Nat,n=m/\cl (ai n)=ds m)\/∃m:Nat,n=-((m+1:Nat):Int)/\cl (ai n)=45::ds (m+1):=by
 cases n with
 |ofNat m=>exact .inl (m,rfl,Wb m)
 |negSucc m=>exact .inr (m,rfl,Wc m)
def cP(h:eG n):(ai n).length<=61:=by
 rw[nO];unfold eG at h;rcases jz n with ⟨m,rfl,e⟩|⟨m,rfl,e⟩
 .rw[e];have:=t7 59 m ∅;omega
 .rw[e];have:=t7 59 (m+1) ∅;simp only[XD];omega
def qF(n:Int):∀c∈cl (ai n),c=45\/48<=c/\c<=57:=by
 rcases jz n with ⟨m,rfl,e⟩|⟨m,rfl,e⟩
 .rw[e];exact λc a=>.inr (km m c a)
 · rw[e];intro c a;rcases XC.mp a with z|z
   .exact .inl z
   .exact .inr (km _ c z)
def xn{n:Int}(h:eG n):n.natAbs.log2<1920:=by
 by_cases z:n.natAbs=0
 .rw[z];decide
 .rw[Nat.log2_lt z];unfold eG at h;exact Nat.lt_of_lt_of_le h (Nat.le_trans (show 10 ^ 60<=2 ^ 200 by decide) (Nat.pow_le_pow_right () ()))
def FE(c:Nat)(h:48<=c/\c<=57):zx ⟨#[c]⟩ "0123456789" =.ok false:=by
 have:∀d:Nat,d<10->(Builtin.Str.occurrences "0123456789" ⟨#[48+d]⟩ 0 ("0123456789" : Str).length 1).isEmpty=false:=by decide +kernel
 have:=this (c-48) ∅
 rw[show 48+(c-48)=c from by omega]at this;ext zx;rw[this];rfl
def qE(x:Str):Txt.startswith x "-" = match cl x with|c::_=>decide (c=45) | []=>false:=by
 ext Txt.startswith;rw[StrLaws.subAt_eq,List.drop_zero];have a:("-" : Str).length=1:=rfl;have b:("-" : Str).cps.toList=[45]:=rfl;rw[a,b,nO];show(decide (0+1<=(cl x).length)&&((cl x).take 1==[45]))=_;cases cl x with
 |nil=>rfl
 |cons c r=>simp;rfl
def pY(h:eG n):(pR (ai n)).res=.ok n:=by
 have F:=cP h;have E:sizeLine=16777216:=rfl
 -- the f
 obtain⟨m,a,D,j,I,C⟩:∃(m:Nat) (a:Str),Nk (aC sv (pC (·.vBq)) (kC ("-" : Str))) (aC xI (pC (·.vBq)) (kC (1:Int))) (pC (·.vBq)) ((ai n,G):S_be9)=.ok a/\cl a=ds m/\m<10 ^ 60/\(m=0->ai n=("0" : Str)):=by
  unfold eG at h;rcases jz n with ⟨m,rfl,e⟩|⟨m,rfl,e⟩
  · refine(m,ai m,?_,e,∅,λz=>by rw[z];rfl)
    have:Txt.startswith (ai (m:Int)) "-" = false:=by
     rw[qE,e];cases q:ds m with
     |nil=>rfl
     |cons c r=>
       have:=km m c (by rw[q];exact Xw)
       show decide (c=45)=false;exact X6 ∅
    simp[sv,this]
  · refine(m+1,⟨(ds (m+1)).toArray⟩,?_,by simp[cl],∅,λz=>by omega)
    have:Txt.startswith (ai (-((m+1:Nat):Int))) "-" = true:=by rw[qE,e];rfl
    have b:=F3 _ _ _ e
    have d:(⟨(ds (m+1)).toArray⟩:Str).length<=sizeLine:=by
     have:=t7 59 (m+1) ∅
     show(ds (m+1)).toArray.size<=_;rw[XN];omega
    simp only[Nk,aC,pC,kC,Res.bind,sv,this,Xx,xI,b,Xx d]
 have A:a.length<=60/\1<=a.length:=by
  rw[nO,j];have H:=t7 59 m ∅;have Cv:=List.length_pos_iff.mpr (z8 m);omega
 obtain⟨g,w,hd⟩:∃c r,ds m=c::r:=by
  cases q:ds m with
  |nil=>exact absurd q (z8 m)
  |cons c r=>exact(c,r,rfl)
 have v:uz (ai n,G)=.nx (ai n,J a):=by
  ext uz bI bv;rw[D];rfl
 have s2:uy (ai n,J a)=.nx (ai n,J a):=by
  have o:a.length<=sizeLine:=by omega
  have l:¬ (a.length:Int)<1:=by omega
  have i:¬ (60:Int)<a.length:=by omega
  simp[uy,DJ,o,l,i]
 have u:uw (ai n,J a)=.nx (ai n,J a):=by
  have b:dF (bB Py (vC (·.v8q))) (λ_=>.ok true) (aC zx (pC λp=>p.1) (kC ("0123456789" : Str))) ((ai n,J a):S_be9)=.ok (((cl a).map λc=>(⟨#[c]⟩:Str)).map λ_=>false):=by
   refine ik (λ_=>false) rfl (by rw[List.length_map,<-nO];ext ak;omega) λx y=>?_;let(c,b,rfl):=List.mem_map.mp y;rw[j]at b
   have:=FE c (km m c b)
   simp[this]
  have:(((cl a).map λc=>(⟨#[c]⟩:Str)).map λ_=>false).any id=false:=by simp
  ext uw lH bv;simp only[bB]at b ⊢;rw[b];simp[S0,-List.map_map,-List.any_map,this]
 have t:pw (ai n,J a)=.nx (ai n,J a):=by
  have o:a.length<=sizeLine:=by omega
  have l:jq a.cps.toList 0=J g:=by
   rw[gv _ ∅,show a.cps.toList=g::w from j.trans hd];rfl
  have i:Nj a 0=.ok ⟨#[g]⟩:=by ext Nj;rw[if_pos o,l]
  by_cases z:g=48
  · subst z
    have:=C (Nz hd)
    simp[pw,i,this]
  · have:(⟨#[g]⟩:Str)≠("0" : Str):=λq=>z (by have:=congrArg cl q;injection this)
    simp[pw,i,this]
 have s:uv (ai n,J a)=.rt n (ai n,J a):=by
  have:intText? (ai n)=J n:=by
   rcases jz n with ⟨k,rfl,e⟩|⟨k,rfl,e⟩
   .have e:(ai (k:Int)).cps.toList=ds k:=e;rw[intText_digits (by rw[e];exact km k) (by rw[e];exact z8 k) ∅,e,PySem.W.KIN.val_back]
   .rw[intText_neg e (km _) (z8 _) ∅,PySem.W.KIN.val_back]
  have B:(ai n).length<=640:=by omega
  ext uv cI bv;simp only[bB,pC,Res.bind,JW];rw[if_pos B,this];rfl
 ext pR Cr;simp only[az,v,s2,u,t,s];rfl
def dq(sz:Int)(P:DI Bool)(a:Int):L Int:=(bN 0 sz).filter λb=>(P.get [a,b]).isSome
def vp(g:GΩ)(P:DI Bool)(a:Int)(h0:0<=g.hω)(c:g.hω<=1000):(LG g P a).res=.ok (dq g.hω P a):=by
 have e:∀s:S_b9,s=(g,P,a)->dF (bB (jx 0) (bB (λg=>.ok g.hω) (pC (·.vvq)))) (aC (NB false) (bB nq (Bv (pC λp=>p.2.v0q) (pC λp=>p.1))) (pC λp=>p.2.voq)) (pC λp=>p.1) s=.ok (dq g.hω P a):=by
  rintro s rfl;rw[r8 (l:=bN 0 g.hω) (λb=>(P.get [a,b]).isSome) (λx=>x) (by simp[fQ (lo:=0) (hi:=g.hω) ∅ ∅ ∅ ∅]) (by rw[b7];ext ak;omega) (λb _=>by simp) (λb _ _=>by simp)];simp[dq]
 ext LG Li EM;simp only[cI,bv];rw[e _ rfl];rfl
def uR(g:GΩ)(a:Int)(b:0<=a/\a<g.hω)(c:g.hω<=1000):(LD g a).res=.ok (dq g.hω g.U a):=by
 have e:=pX g [a] (in1 b) ∅;have d:=vp g g.U a ∅ c;ext LD Lf;simp[EE,ED,e,d,ak]
def Ba(g:GΩ)(a:Int)(b:0<=a/\a<g.hω)(c:g.hω<=1000):(LB g a).res=.ok (dq g.hω g.sω a):=by
 have e:=pX g [a] (in1 b) ∅;have d:=vp g g.sω a ∅ c;ext LB La;simp[Es,Er,e,d,ak]
structure GI (g:GΩ) (sz:Int) (U:L4) (V Y:DI Int) (S:L4):Prop where
 wf:Wf sz g
 way:∀x y,(g.U.get [x,y]).isSome=true↔(x,y)∈U\/(y,x)∈U
 lik:∀k,(g.lω.get k).getD 0=(V.get k).getD 0
 wsh:∀k,g.wω.get k=Y.get k
 shn:∀x y,(g.sω.get [x,y]).isSome=true↔(x,y)∈S
structure Dr (sz:Int) (U:L4) (V Y:DI Int) (S:L4):Prop where
 ok:DrawOk sz U V Y S
 wl:U.length<64
 fl:V.length<64
 dl:Y.length<64
 sl:S.length<64
 fn:∀p∈V,eG p.2
 dn:∀p∈Y,eG p.2
def pl(sz:Int)(P:Int->Int->Bool):L4:=(bN 0 sz).flatMap λa=>((bN 0 sz).filter (P a)).map λb=>(a,b)
def pr(p:Int×Int):L Int:=[p.1,p.2]
def iy{p:Int×Int}:p∈pl sz P↔(0<=p.1/\p.1<sz)/\(0<=p.2/\p.2<sz)/\P p.1 p.2=true:=by
 let(x,y):=p;ext pl;rw[List.mem_flatMap];constructor
 · rintro⟨a,g,h⟩;let(b,f,e):=XG.mp h;injection e with k j
   subst k j;let(d,c):=YB.mp f;exact(gn.mp g,gn.mp d,c)
 .rintro⟨d,c,i⟩;exact(x,gn.mpr d,XG.mpr (y,YB.mpr (gn.mpr c,i),rfl))
def vB(lo hi:Int):(bN lo hi).Pairwise (·<·):=by
 ext bN;rw[List.pairwise_map];exact List.pairwise_lt_range.imp λh=>by omega
def O5:HT.cU [a,b] [x,y]=true↔a<x\/a=x/\b<y:=by
 rw[HT.dI];by_cases h:a=x
 · rw[Xx h,HT.dI];by_cases q:b=y
   · rw[Xx q];constructor
     .intro z;simp[HT.cU]at z
     .intro z;omega
   .rw[Xy q,YV];omega
 .rw[Xy h,YV];omega
def sK(sz:Int)(P:Int->Int->Bool):ot ((pl sz P).map pr):=by
 ext ot pl;rw[List.pairwise_map,List.pairwise_flatMap];refine(λa _=>?_,(vB 0 sz).imp λ{a b} h x d y c=>?_)
 .rw[List.pairwise_map];exact((vB 0 sz).filter _).imp λh=>O5.mpr (.inr (rfl,h))
 .let(_,_,rfl):=XG.mp d;let(_,_,rfl):=XG.mp c;exact O5.mpr (.inl h)
theorem tY{W:Type}{f:Int->L W}:∀l:L Int,(∀a∈l,(f a).length<=n)->(l.flatMap f).length<=l.length*n
 |[],_=>by simp
 | a::l,h=>by
   have:=tY l λx b=>h x (on _ b)
   have:=h a Xw
   rw[ZM,XF,XD,Nat.succ_mul];omega
def Bx(h:sz<=60)(P:Int->Int->Bool):(pl sz P).length<=3600:=by
 have c:(bN 0 sz).length<=60:=by rw[b7];omega
 have:=tY (f:=λa=>((bN 0 sz).filter (P a)).map λb=>(J9 a b)) (n:=60) (bN 0 sz) λa _=>by
  rw[Xv];exact Yw (Yu _ _) c
 have:(bN 0 sz).length*60<=60*60:=Nat.mul_le_mul_right _ c
 ext pl;omega
abbrev ln(ws:L Str):Str:=Txt.join " " ws
def qA(x:Str):cl (ln [x])=cl x:=by show cl (Builtin.Str.glued " " [x])=_;rw[Ym];rfl
def iD(x y:Str)(r:L Str):cl (ln (x::y::r))=cl x++32::cl (ln (y::r)):=by
 show cl (Builtin.Str.glued " " (x::y::r))=cl x++32::cl (Builtin.Str.glued " " (y::r));rw[Ym,Ym,il];rfl
def jI{c:Z->Res Int}{r:Str->Z->Res Str}{acc:Str}(B:Nat)(h:c st=.ok a)(b:eG a)(f:acc.length<=B)(g:B+61<=16000000):io jf c r acc st=r (acc++ai a) st:=by
 have e:sizeLine=16777216:=rfl;have d:(acc++ai a).length<=sizeLine:=by rw[XX];have:=cP b;omega
 ext io jf;rw[h];show(match (if a.natAbs.log2<1920 then J (ai a) else G) with|some y=>if (acc++y).length<=sizeLine then r (acc++y) st else Res.bad|none=>.bad)=_;rw[if_pos (xn b)];show(if (acc++ai a).length<=sizeLine then r (acc++ai a) st else Res.bad)=_;rw[if_pos d]
def jS{c:Z->Res Str}{r:Str->Z->Res Str}{acc y:Str}(B:Nat)(h:c st=.ok y)(d:y.length<=4000)(e:acc.length<=B)(f:B+4000<=16000000):io gB c r acc st=r (acc++y) st:=by
 have b:sizeLine=16777216:=rfl;have a:(acc++y).length<=sizeLine:=by rw[XX];omega
 ext io gB;rw[h];show(match (if y.length<=sizeLine then J y else G) with|some y=>if (acc++y).length<=sizeLine then r (acc++y) st else Res.bad|none=>.bad)=_;rw[if_pos ∅];show(if (acc++y).length<=sizeLine then r (acc++y) st else Res.bad)=_;rw[if_pos a]
theorem jK{r:Str->Z->Res Str}{acc y:Str}(B:Nat)(a:y.length<=4000)(b:acc.length<=B)(d:B+4000<=16000000):io gB (kC y) r acc st=r (acc++y) st:=jS (c:=kC y) B rfl a b d
def WT{m:Str->Z->Res Str}{x:Str}(h:m Str.empty st=.ok x)(b:x.length<=16000000):DT m st=.ok x:=by
 have a:sizeLine=16777216:=rfl;ext DT;rw[h];show(if x.length<=sizeLine then Res.ok x else .bad)=_;rw[if_pos ∅]
def fs2{ca cb:Z->Res Int}(x:Str)(k:x.length<=10)(f:ca st=.ok a)(e:cb st=.ok b)(d:eG a)(c:eG b):
 DT (io gB (kC x) (io jf ca (io gB (kC (" " : Str)) (io jf cb Gs)))) st=.ok (Str.empty++x++ai a++(" " : Str)++ai b):=by
 have h:=cP d;have g:=cP c;have j:Str.empty.length=0:=rfl;have i:(" " : Str).length=1:=rfl;refine WT ?_ (by simp only[XX];omega);rw[jK 10 ∅ ∅ ∅,jI 100 f d (by simp only[XX];omega) ∅,jK 200 ∅ (by simp only[XX];omega) ∅,jI 300 e c (by simp only[XX];omega) ∅];rfl
def fs3{ca cb cd:Z->Res Int}(x:Str)(m:x.length<=10)(h:ca st=.ok a)(g:cb st=.ok b)(f:cd st=.ok d)(e:eG a)(c:eG b)(hd:eG d):
 DT (io gB (kC x) (io jf ca (io gB (kC (" " : Str)) (io jf cb (io gB (kC (" " : Str)) (io jf cd Gs)))))) st=.ok (Str.empty++x++ai a++(" " : Str)++ai b++(" " : Str)++ai d):=by
 have j:=cP e;have i:=cP c;have ld:=cP hd;have l:Str.empty.length=0:=rfl;have k:(" " : Str).length=1:=rfl;refine WT ?_ (by simp only[XX];omega);rw[jK 10 ∅ ∅ ∅,jI 100 h e (by simp only[XX];omega) ∅,jK 200 ∅ (by simp only[XX];omega) ∅,jI 300 g c (by simp only[XX];omega) ∅,jK 400 ∅ (by simp only[XX];omega) ∅,jI 500 f hd (by simp only[XX];omega) ∅];rfl
def fsW{ca:Z->Res Int}{cb:Z->Res Str}{y:Str}(e:ca st=.ok a)(d:cb st=.ok y)(b:eG a)(c:y.length<=4000):
 DT (io gB (kC ("wish " : Str)) (io jf ca (io gB (kC (" " : Str)) (io gB cb Gs)))) st=.ok (Str.empty++("wish " : Str)++ai a++(" " : Str)++y):=by
 have f:=cP b;have h:Str.empty.length=0:=rfl;have g:(" " : Str).length=1:=rfl;have l2:("wish " : Str).length=5:=rfl;refine WT ?_ (by simp only[XX];omega);rw[jK 10 ∅ ∅ ∅,jI 100 e b (by simp only[XX];omega) ∅,jK 200 ∅ (by simp only[XX];omega) ∅,jS 300 d c (by simp only[XX];omega) ∅];rfl
def fs1{ca:Z->Res Int}(x:Str)(f:x.length<=10)(c:ca st=.ok a)(b:eG a):
 DT (io gB (kC x) (io jf ca Gs)) st=.ok (Str.empty++x++ai a):=by
 have d:=cP b;have e:Str.empty.length=0:=rfl;refine WT ?_ (by simp only[XX];omega);rw[jK 10 ∅ ∅ ∅,jI 100 c b (by simp only[XX];omega) ∅];rfl
def wR(p:Int×Int):L Str:=["way",ai p.1,ai p.2]
def fR(V:DI Int)(p:Int×Int):L Str:=["like",ai p.1,ai p.2,ai ((V.get [p.1,p.2]).getD 0)]
def sR(p:Int×Int):L Str:=["shun",ai p.1,ai p.2]
def dR(Y:DI Int)(k:L Int):L Str := "wish" :: ai ((Y.get k).getD 0)::k.map ai
def hR(sz:Int):L Str:=["houses",ai sz]
def eW(a b:Int):Str.empty++("way " : Str)++ai a++(" " : Str)++ai b=ln (wR (a,b)):=by
 apply jM;ext wR;rw[iD,iD,qA,bZ,bZ,bZ,bZ];simp only[List.append_assoc];rfl
def eS2(a b:Int):Str.empty++("shun " : Str)++ai a++(" " : Str)++ai b=ln (sR (a,b)):=by
 apply jM;ext sR;rw[iD,iD,qA,bZ,bZ,bZ,bZ];simp only[List.append_assoc];rfl
def eF(V:DI Int)(a b:Int):Str.empty++("like " : Str)++ai a++(" " : Str)++ai b++(" " : Str)++ai ((V.get [a,b]).getD 0)=ln (fR V (a,b)):=by
 apply jM;ext fR;rw[iD,iD,iD,qA,bZ,bZ,bZ,bZ,bZ,bZ];simp only[List.append_assoc];rfl
def eD(Y:DI Int)(k:L Int)(b:k≠[]):Str.empty++("wish " : Str)++ai ((Y.get k).getD 0)++(" " : Str)++Txt.join " " (k.map ai)=ln (dR Y k):=by
 apply jM;ext dR;cases k with
 |nil=>exact absurd rfl b
 |cons a k=>
   rw[iD,Xz,iD,bZ,bZ,bZ,bZ];simp only[Yg];rfl
def eH(sz:Int):Str.empty++("houses " : Str)++ai sz=ln (hR sz):=by
 apply jM;ext hR;rw[iD,qA,bZ,bZ];simp only[List.append_assoc];rfl
def aL(h:0<=a/\a<sz)(b:sz<=61):eG a:=by
 ext eG
 have:a.natAbs<61:=by omega
 exact Nat.lt_trans this ()
abbrev pW(U:L4):Int->Int->Bool:=λa b=>decide (a<b/\(a,b)∈U)
abbrev pF(V:DI Int):Int->Int->Bool:=λa b=>decide ((V.get [a,b]).getD 0≠0)
abbrev pS(S:L4):Int->Int->Bool:=λa b=>decide ((a,b)∈S)
abbrev ks(Y:DI Int):L (L Int):=pick (Y.map (·.1)) (bF (Y.map (·.1)))
def Bw{W:Type}(sz:Int)(P:Int->Int->Bool)(f:Int×Int->W):(pl sz P).map f=(bN 0 sz).flatMap λa=>((bN 0 sz).filter (P a)).map λb=>f (a,b):=by
 ext pl;rw[List.map_flatMap];simp only[List.map_map];rfl
def qt{W:Type}(f:Int->L W)(p:L Int)(a:Int):(p++[a]).flatMap f=p.flatMap f++f a:=by
 rw[List.flatMap_append];simp
def sM{W:Type}(d:sz<=60){p:L Int}(c:bN 0 sz=p++a::r)(P:Int->Int->Bool)(f:Int->Int->W):(p.flatMap λa=>((bN 0 sz).filter (P a)).map (f a)).length<=3600:=by
 have b:(bN 0 sz).length<=60:=by rw[b7];omega
 have:=tY (f:=λa=>((bN 0 sz).filter (P a)).map (f a)) (n:=60) p λa _=>by
  rw[Xv];exact Yw (Yu _ _) b
 have hp:p.length<=60:=by rw[c,XF]at b;omega
 have:p.length*60<=60*60:=Nat.mul_le_mul_right _ hp
 omega
def C4{W:Type}(a:sz<=60)(P:Int->Bool)(f:Int->W):(((bN 0 sz).filter P).map f).length<=60:=by
 rw[Xv];exact Yw (Yu _ _) (by rw[b7];omega)
def qu{l m:L W}(h:l.length+m.length<=ak):uZ l m=J (j2,l++m):=by ext uZ;rw[if_pos h]
def sN(sz:Int)(h:sz<=60)(P:DI Bool)(a:Int):(dq sz P a).length<ak:=by
 have:=Yu (λb=>(P.get [a,b]).isSome) (bN 0 sz)
 have:=b7 0 sz
 ext dq ak;omega
def A0{g:GΩ}{V:DI Int}(Cv:GI g sz U V Y S)(W:WaysOk sz U)(a:Int):(dq sz g.U a).filter (λb=>decide (a<b))=(bN 0 sz).filter (pW U a):=by
 ext dq;rw[List.filter_filter];congr 1;funext b
 have:=Cv.way a b
 rw[Zh,Zd,YV,YV,this];constructor
 · rintro⟨d,c|c⟩
   .exact(d,c)
   · have:=W.all _ c
     simp only at this;omega
 .rintro⟨d,c⟩;exact(d,.inl c)
def yS{g:GΩ}{V:DI Int}(Cv:GI g sz U V Y S)(a:Int):dq sz g.sω a=(bN 0 sz).filter (pS S a):=by
 ext dq;congr 1;funext b
 have:=Cv.shn a b
 rw[Zh,YV,this]
section
variable{g:GΩ}{sz:Int}{U:L4}{V Y:DI Int}{S:L4}
def Mb(Cv:GI g sz U V Y S)(h:DrawOk sz U V Y S):(EZ g).res=.ok ((pl sz (pW U)).map λp=>ln (wR p)):=by
 have d:=h.size;have f:=Cv.wf.count;have q:jx 0 sz=.ok (bN 0 sz):=fQ ∅ ∅ ∅ ∅;have o:(uP g).res=.ok sz:=by rw[rQ,f]
 let(s',e,x,rfl):=dy (u:=λa s=>{s with v0q:=J a}) (c:=kU) (λp (s:S_bl9)=>∃a0,s=(g,J (p.flatMap λa=>((bN 0 sz).filter (pW U a)).map λb=>ln (wR (a,b))),a0))
  (bN 0 sz) (g,J [],G) (G,rfl) (by
    rintro p a r s j ⟨a0,rfl⟩;have k:=(mU j).2;have m:=uR g a (by rw[f];exact k) ∅;rw[f]at m
    have t:dF (g9 LD (pC (·.vaq)) (vC (·.v0q))) (aC M7 (vC λp=>p.2.v0q) (pC λp=>p.1)) (DT (io gB (kC ("way " : Str)) (io jf (vC λp=>p.2.v0q) (io gB (kC (" " : Str)) (io jf (pC λp=>p.1) Gs))))) ((g,J (p.flatMap λa=>((bN 0 sz).filter (pW U a)).map λb=>ln (wR (a,b))),J a):S_bl9)=.ok (((bN 0 sz).filter (pW U a)).map λb=>ln (wR (a,b))):=by
     rw[r8 (l:=dq sz g.U a) (λb=>decide (a<b)) (λb=>ln (wR (a,b))) (by simp[m]) (sN sz d.2 _ _) (λb _=>by simp) (λb i _=>by
      have i:=gn.mp (YB.mp i).1;rw[<-eW]
      exact fs2 "way " () rfl rfl (aL k ∅) (aL i ∅)),A0 Cv h.U]
    have w:=sM d.2 j (pW U) λa b=>ln (wR (a,b));have l2:=C4 d.2 (pW U a) λb=>ln (wR (a,b));refine((g,J ((p.flatMap λa=>((bN 0 sz).filter (pW U a)).map λb=>ln (wR (a,b)))++((bN 0 sz).filter (pW U a)).map λb=>ln (wR (a,b))),J a),.inl ?_,J a,by rw[qt]);simp only[kU,bS,qj];rw[t];simp only[bndO];rw[qu (by ext ak;omega)]
    rfl)
 have v:ug (g,G,G)=.nx (g,J [],G):=by simp[ug,ak]
 have n:uf (g,J [],G)=gA (λa s=>{s with v0q:=J a}) kU (bN 0 sz) (g,J [],G):=by
  ext uf dt;simp only[bB,cA,pC,Res.bind,o,q]
 rw[e]at n;ext EZ Cj;simp only[az,v,n];rw[Bw];rfl
def GP(Cv:GI g sz U V Y S)(h:DrawOk sz U V Y S):(E1 g).res=.ok ((pl sz (pS S)).map λp=>ln (sR p)):=by
 have d:=h.size;have f:=Cv.wf.count;have q:jx 0 sz=.ok (bN 0 sz):=fQ ∅ ∅ ∅ ∅;have o:(uP g).res=.ok sz:=by rw[rQ,f]
 let(s',e,x,rfl):=dy (u:=λa s=>{s with v0q:=J a}) (c:=kX) (λp (s:S_bj9)=>∃a0,s=(g,J (p.flatMap λa=>((bN 0 sz).filter (pS S a)).map λb=>ln (sR (a,b))),a0))
  (bN 0 sz) (g,J [],G) (G,rfl) (by
    rintro p a r s j ⟨a0,rfl⟩;have k:=(mU j).2;have m:=Ba g a (by rw[f];exact k) ∅;rw[f]at m
    have t:dF (g9 LB (pC (·.vaq)) (vC (·.v0q))) (λ_=>.ok true) (DT (io gB (kC ("shun " : Str)) (io jf (vC λp=>p.2.v0q) (io gB (kC (" " : Str)) (io jf (pC λp=>p.1) Gs))))) ((g,J (p.flatMap λa=>((bN 0 sz).filter (pS S a)).map λb=>ln (sR (a,b))),J a):S_bj9)=.ok (((bN 0 sz).filter (pS S a)).map λb=>ln (sR (a,b))):=by
     rw[ik (l:=dq sz g.sω a) (λb=>ln (sR (a,b))) (by simp[m]) (sN sz d.2 _ _) (λb i=>by
      have i:=gn.mp (YB.mp i).1;rw[<-eS2]
      exact fs2 "shun " () rfl rfl (aL k ∅) (aL i ∅)),yS Cv]
    have w:=sM d.2 j (pS S) λa b=>ln (sR (a,b));have l2:=C4 d.2 (pS S a) λb=>ln (sR (a,b));refine((g,J ((p.flatMap λa=>((bN 0 sz).filter (pS S a)).map λb=>ln (sR (a,b)))++((bN 0 sz).filter (pS S a)).map λb=>ln (sR (a,b))),J a),.inl ?_,J a,by rw[qt]);simp only[kX,bS,qj];rw[t];simp only[bndO];rw[qu (by ext ak;omega)]
    rfl)
 have v:ul (g,G,G)=.nx (g,J [],G):=by simp[ul,ak]
 have n:uk (g,J [],G)=gA (λa s=>{s with v0q:=J a}) kX (bN 0 sz) (g,J [],G):=by
  ext uk dt;simp only[bB,cA,pC,Res.bind,o,q]
 rw[e]at n;ext E1 Co;simp only[az,v,n];rw[Bw];rfl
def tX(D:Dr sz U V Y S)(k:L Int):eG ((V.get k).getD 0):=by
 cases q:V.get k with
 |none=>exact(by ext eG;decide:eG 0)
 |some v=>exact D.fn _ (oY q)
def t9(D:Dr sz U V Y S)(k:L Int):eG ((Y.get k).getD 0):=by
 cases q:Y.get k with
 |none=>exact(by ext eG;decide:eG 0)
 |some v=>exact D.dn _ (oY q)
def GS(Cv:GI g sz U V Y S)(D:Dr sz U V Y S):(E4 g).res=.ok ((pl sz (pF V)).map λp=>ln (fR V p)):=by
 have H:=D.ok.size;have l:=Cv.wf.count;have y:jx 0 sz=.ok (bN 0 sz):=fQ ∅ ∅ ∅ ∅;have x:(uP g).res=.ok sz:=by rw[rQ,l]
 let(s',e,O,N,M,rfl):=dy (u:=λa s=>{s with v0q:=J a}) (c:=kZ) (λp (s:S_bd9)=>∃a0 i f,s=(g,J (p.flatMap λa=>((bN 0 sz).filter (pF V a)).map λb=>ln (fR V (a,b))),a0,i,f))
  (bN 0 sz) (g,J [],G,G,G) (G,G,G,rfl) (by
    rintro p a r s o ⟨a0,i,f,rfl⟩;have v:=(mU o).2;have F:=sM H.2 o (pF V) λa b=>ln (fR V (a,b));generalize I:(p.flatMap λa=>((bN 0 sz).filter (pF V a)).map λb=>ln (fR V (a,b)))=d at F
    let(s2,k,C,n,rfl):=dy (u:=λa s=>{s with v2q:=J a}) (c:=lj) (λq (s:S_bd9)=>∃i f,s=(g,J (d++(q.filter (pF V a)).map λb=>ln (fR V (a,b))),J a,i,f))
     (bN 0 sz) (g,J d,J a,i,f) (i,f,by simp) (by
       rintro q b r s j ⟨i,f,rfl⟩;have t:=(mU j).2;have m:=Fk g a b (by rw[l];exact v) (by rw[l];exact t);rw[Cv.lik]at m
       have l2:q.length<=60:=by
        have:=b7 0 sz
        rw[j,XF]at this;omega
       have E:=Yu (pF V a) q;generalize B:(q.filter (pF V a))=h at E;by_cases z:(V.get [a,b]).getD 0=0
       · have ep:pF V a b=false:=X6 (λw=>w z);refine((g,J (d++(h.map λb=>ln (fR V (a,b)))),J a,J b,J ((V.get [a,b]).getD 0)),.inl ?_,J b,J ((V.get [a,b]).getD 0),?_)
         rotate_left
         .rw[ZD,Ze,ep,B];simp only[Zg,Z1,Ad9,XY]
         .simp[lj,iO,kY,m,z]
       · have ep:pF V a b=true:=Yn z;refine((g,J (d++(h.map λb=>ln (fR V (a,b)))++[ln (fR V (a,b))]),J a,J b,J ((V.get [a,b]).getD 0)),.inl ?_,J b,J ((V.get [a,b]).getD 0),?_)
         · have A:=fs3 (Z:=S_bd9) (ca:=vC (·.v0q)) (cb:=vC (·.v2q)) (cd:=vC (·.vpq)) (st:=(g,J (d++(h.map λb=>ln (fR V (a,b)))),J a,J b,J ((V.get [a,b]).getD 0))) "like " () rfl rfl rfl (aL v ∅) (aL t ∅) (tX D [a,b]);rw[eF]at A;have I0:iO (g,J (d++(h.map λb=>ln (fR V (a,b)))),J a,J b,f)=.nx (g,J (d++(h.map λb=>ln (fR V (a,b)))),J a,J b,J ((V.get [a,b]).getD 0)):=by simp[iO,m]
           have K:gO (g,J (d++(h.map λb=>ln (fR V (a,b)))),J a,J b,J ((V.get [a,b]).getD 0))=.nx (g,J (d++(h.map λb=>ln (fR V (a,b)))++[ln (fR V (a,b))]),J a,J b,J ((V.get [a,b]).getD 0)):=by
            simp only[gO,bS,qj];rw[A];simp only[bndO];rw[lv (by rw[List.length_append,List.length_map];ext ak;omega)];rfl
           simp only[lj,az];rw[I0];simp only[kY,lH,bv,aC,vC,kC,Res.bind,kS];rw[X6 z];exact K
         · rw[ZD,Ze,ep,B]
           simp)
    refine((g,J (d++((bN 0 sz).filter (pF V a)).map λb=>ln (fR V (a,b))),J a,C,n),.inl ?_,J a,C,n,by rw[qt,I]);ext kZ dt;simp only[bB,cA,pC,Res.bind,x,y]
    exact k)
 have B1:uB (g,G,G,G,G)=.nx (g,J [],G,G,G):=by simp[uB,ak]
 have k:uA (g,J [],G,G,G)=gA (λa s=>{s with v0q:=J a}) kZ (bN 0 sz) (g,J [],G,G,G):=by
  ext uA dt;simp only[bB,cA,pC,Res.bind,x,y]
 rw[e]at k;ext E4 Cs;simp only[az,B1,k];rw[Bw];rfl
end
def oW{X:Type}{F:DI X}(a:DI.nd F)(k:L Int):k∈F.map (·.1)↔(F.get k).isSome=true:=by
 constructor
 .intro h;let(v,e,_):=mX a h;rw[e];rfl
 .intro h;let(v,e):=Zx.mp h;exact XG.mpr ((k,v),oY e,rfl)
theorem lY{Y:DI Int}(a:DI.nd Y)(k:L Int):k∈ks Y↔k∈Y.map (·.1):=(gF a).1.mem_iff
def qk{Y:DI Int}(a:DI.nd Y):(ks Y).length=Y.length:=by rw[(gF a).1.length_eq,Xv]
def rT{sep:Str}{xs:L Str}(B:Nat)(a:∀y∈xs,y.length<=B)(h:xs.length*B+xs.length*sep.length<=16777216):gr sep xs=.ok (Txt.join sep xs):=by
 ext gr JoinOk;rw[StrLaws.joinFits a h];rfl
def tM(sep:Str)(xs:L Str):(Txt.join sep xs).length<=(xs.map (·.length)).sum+xs.length*sep.length:=by
 show(Builtin.Str.glued sep xs).length<=_;rw[Ym];exact StrLaws.join_length_le sep xs
def BZ(ws:L Str):(ln ws).length<=(ws.map (·.length)).sum+ws.length:=by
 have:=tM " " ws
 have e:(" " : Str).length=1:=rfl;rw[e,Nat.mul_one]at this;exact this
theorem sr:∀xs:L Str,(∀y∈xs,y.length<=B)->(xs.map (·.length)).sum<=xs.length*B:=StrLaws.sumLen_le
def zb(sz:Int)(U:L4)(V Y:DI Int)(S:L4):L (L Str):=
 [hR sz]++(pl sz (pW U)).map wR++(pl sz (pF V)).map (fR V)++(pl sz (pS S)).map sR++(ks Y).map (dR Y)
def O2(sz:Int)(U:L4)(V Y:DI Int)(S:L4):L Str:=(zb sz U V Y S).map λr=>ln r
def Pq(sz:Int)(U:L4)(V Y:DI Int)(S:L4):Str:=Txt.join "" ((O2 sz U V Y S).map λx=>x++("\n" : Str))
section
variable{g:GΩ}{sz:Int}{U:L4}{V Y:DI Int}{S:L4}
def sL(sz:Int)(P:Int->Int->Bool):(pl sz P).Nodup:=by
 have:=(sK sz P)
 unfold ot at this;rw[List.pairwise_map]at this;exact this.imp λ{a b} h e=>by subst e;rw[gJ]at h;exact nomatch h
def lK(D:Dr sz U V Y S)(p:Int×Int):p∈U↔p∈pl sz (pW U):=by
 rw[iy,YV];constructor
 .intro h;have:=D.ok.U.all p h;exact(by omega,∅,∅,h)
 .rintro⟨_,_,_,h⟩;exact h
def oH(D:Dr sz U V Y S)(p:Int×Int):p∈S↔p∈pl sz (pS S):=by
 rw[iy,YV];constructor
 .intro h;have:=D.ok.S.2.2 p h;unfold EV at this;exact(by omega,∅,h)
 .rintro⟨_,_,h⟩;exact h
abbrev nz(V:DI Int):L Int->Bool:=λk=>decide ((V.get k).getD 0≠0)
def v7(D:Dr sz U V Y S):(ks V).filter (nz V)=(pl sz (pF V)).map pr:=by
 refine qa (List.Pairwise.filter _ (gF D.ok.V.2.1).2) (sK sz _) λk=>?_;rw[YB,lY D.ok.V.2.1];constructor
 .rintro⟨g,c⟩;let(q,d,rfl):=XG.mp g;let(a,b,e,h):=D.ok.V.2.2 q d;rw[e]at c ⊢;exact XG.mpr ((a,b),iy.mpr ((h.1,h.2.1),(h.2.2.1,h.2.2.2),c),rfl)
 · intro f;let(p,hp,rfl):=XG.mp f;have h:=(iy.mp hp).2.2;refine((oW D.ok.V.2.1 _).mpr ?_,h);cases q:V.get (pr p) with
   |some v=>rfl
   |none=>
     have h:=YE h;exact absurd (by show(V.get (pr p)).getD 0=0;rw[q];rfl) h
def mT(D:Dr sz U V Y S)(a:k∈ks Y):RoadOk sz k:=by
 let(p,hp,rfl):=XG.mp ((lY D.ok.Y.2.1 k).mp a);exact D.ok.Y.2.2 p hp
def Fj(Cv:GI g sz U V Y S)(D:Dr sz U V Y S):(N7 g).res=.ok ((ks Y).map λk=>(k,(Y.get k).getD 0)):=by
 have b:∀k,k∈g.wω.map (·.1)↔k∈Y.map (·.1):=λk=>by rw[oW Cv.wf.wsh.1,oW D.ok.Y.2.1,Cv.wsh]
 have hp:(g.wω.map (·.1)).Perm (Y.map (·.1)):=(Ab3 Cv.wf.wsh.1 D.ok.Y.2.1).mpr b;have d:g.wω.length=Y.length:=by have:=hp.length_eq;rwa [Xv,Xv]at this
 have hd:=D.dl
 have es:gD (g.wω.map (·.1))=.ok (ks Y):=by
  ext gD
  rw[Xx (λk a z=>by
   let(p,hp,rfl):=XG.mp a
   have:=(Cv.wf.wsh.2 p hp).two
   rw[z]at this
   simp at this,by rw[Xv];omega)]
  rw[CP Cv.wf.wsh.1 (gF D.ok.Y.2.1).2 λk=>(b k).trans (lY D.ok.Y.2.1 k).symm]
 have e:∀s:S_n9,s=⟨g⟩->dF (bB Be (bB (λg=>.ok g.wω) (pC (·.vvq)))) (λ_=>.ok true) (Bv (bB Nm (pC λp=>p.1)) (aC Km (bB (λg=>.ok g.wω) (pC λp=>p.2.vvq)) (pC λp=>p.1))) s=.ok ((ks Y).map λk=>(k,(Y.get k).getD 0)):=by
  rintro s rfl;refine ik (l:=ks Y) _ ?_ (by rw[qk D.ok.Y.2.1];ext ak;omega) λk a=>?_
  .exact es
  .let(v,c,_):=mX D.ok.Y.2.1 ((lY D.ok.Y.2.1 k).mp a);simp[Cv.wsh,c]
 ext N7 K7 Em;simp only[cI,bv];rw[e _ rfl];rfl
def GO(Cv:GI g sz U V Y S)(D:Dr sz U V Y S):(EY g).res=.ok ((ks Y).map λk=>ln (dR Y k)):=by
 have H:=Fj Cv D;have M:=D.ok.size;have A:=qk D.ok.Y.2.1;have hd:=D.dl
 let(s',e,a,b,c,rfl):=dy (u:=λa s=>{s with vrq:=J a.1,vpq:=J a.2}) (c:=pL) (λp (s:S_bm9)=>∃a b c,s=(g,J (p.map λx=>ln (dR Y x.1)),a,b,c))
  ((ks Y).map λk=>(J9 k ((Y.get k).getD 0))) (g,J [],G,G,G) (G,G,G,rfl) (by
    rintro p ⟨k,v⟩ r s j ⟨a,b,c,rfl⟩;have w:(J9 k v)∈(ks Y).map λk=>(J9 k ((Y.get k).getD 0)):=by rw[j];simp
    let(k',B,K):=XG.mp w;injection K with i f
    subst i f;have d:=mT D B;have q:=d.len
    have t:p.length<=64:=by
     have e:((ks Y).map λk=>(J9 k ((Y.get k).getD 0))).length=(ks Y).length:=Xv ..;rw[j,XF]at e;omega
    have m:∀y∈k'.map ai,y.length<=61:=λy o=>by
     let(x,h,rfl):=XG.mp o;exact cP (aL (d.all x h) ∅)
    have I:=rT (sep := " ") 61 m (by rw[Xv,show(" " : Str).length=1 from rfl];omega)
    have C:(Txt.join " " (k'.map ai)).length<=4000:=by
     have F:=BZ (k'.map ai);have E:=sr _ m;rw[Xv]at F E;show(ln _).length<=_;omega
    have B1:dF (vC (·.vrq)) (λ_=>.ok true) (bB oE (pC λp=>p.1)) ((g,J (p.map λx=>ln (dR Y x.1)),J k',J ((Y.get k').getD 0),c):S_bm9)=.ok (k'.map ai):=by
     refine ik (l:=k') _ rfl (by ext ak;omega) λx h=>?_
     have:=xn (aL (d.all x h) ∅)
     simp[oE,this]
    have I0:nR (g,J (p.map λx=>ln (dR Y x.1)),J k',J ((Y.get k').getD 0),c)=.nx (g,J (p.map λx=>ln (dR Y x.1)),J k',J ((Y.get k').getD 0),J (Txt.join " " (k'.map ai))):=by
     ext nR bI bv;simp only[aC,kC,Res.bind];rw[B1];simp only[I];rfl
    have n:=fsW (Z:=S_bm9) (ca:=vC (·.vpq)) (cb:=vC (·.vdq)) (st:=(g,J (p.map λx=>ln (dR Y x.1)),J k',J ((Y.get k').getD 0),J (Txt.join " " (k'.map ai)))) rfl rfl (t9 D k') C;rw[eD Y k' (λz=>by have:=d.two;rw[z]at this;simp at this)]at n;refine((g,J ((p.map λx=>ln (dR Y x.1))++[ln (dR Y k')]),J k',J ((Y.get k').getD 0),J (Txt.join " " (k'.map ai))),.inl ?_,J k',J ((Y.get k').getD 0),J (Txt.join " " (k'.map ai)),by simp);simp only[pL,az];rw[I0];simp only[uc,bS,qj];rw[n];simp only[bndO];rw[lv (by rw[List.length_map];ext ak;omega)]
    rfl)
 have i:ue (g,G,G,G,G)=.nx (g,J [],G,G,G):=by simp[ue,ak]
 have f:ud (g,J [],G,G,G)=gA (λa s=>{s with vrq:=J a.1,vpq:=J a.2}) pL ((ks Y).map λk=>(J9 k ((Y.get k).getD 0))) (g,J [],G,G,G):=by
  ext ud dt;simp only[cA,pC,Res.bind,H]
 rw[e]at f;ext EY Ci;simp only[az,i,f];rw[List.map_map];rfl
def jL(x:Str):Prop:=10∉cl x/\32∉cl x/\x.length<=61
def fw(r:L Str):Prop:=r≠[]/\r.length<=62/\∀w∈r,jL w
theorem vF(h:eG n):jL (ai n):=(λh=>by have:=qF n _ h;omega,λh=>by have:=qF n _ h;omega,cP h)
theorem fD{r:L Str}(h:jL w)(b:∀w∈r,jL w)(c:r.length<=61):fw (w::r):=(by simp,by simp;omega,λx a=>by
 rcases XC.mp a with rfl|a
 .exact h
 .exact b x a)
theorem cY{k:L Int}(h:∀x∈k,eG x):∀w∈k.map ai,jL w:=λw b=>by
 let(x,a,rfl):=XG.mp b;exact vF (h x a)
def nL:jL "way" /\ jL "like" /\ jL "shun" /\ jL "wish" /\ jL "houses" := by ext jL;decide
theorem ID{p:Int×Int}(e:sz<=60)(hp:p∈pl sz P)(b:∀x∈l,eG x):∀x∈p.1::p.2::l,eG x:=λx a=>by
 let(d,c,_):=iy.mp hp;rcases XC.mp a with rfl|a
 .exact aL d ∅
 · rcases XC.mp a with rfl|a
   .exact aL c ∅
   .exact b x a
def Mv(D:Dr sz U V Y S):∀r∈zb sz U V Y S,fw r:=by
 let(k1,k2,k3,e,k5):=nL;have c:=D.ok.size;intro r a;have d:∀x∈([]:L Int),eG x:=λ_ h=>(nomatch h);have one:∀{v:Int},eG v->∀x∈[v],eG x:=λf x b=>by rw[XM.mp b];exact f
 unfold zb at a;simp only[List.mem_append,List.mem_map,List.mem_singleton]at a;rcases a with (((rfl|⟨p,hp,rfl⟩)|⟨p,hp,rfl⟩)|⟨p,hp,rfl⟩)|⟨k,i,rfl⟩
 .exact fD k5 (cY (k:=[sz]) (one (aL (sz:=sz+1) ∅ ∅))) ()
 .exact fD k1 (cY (ID c.2 hp d)) ()
 .exact fD k2 (cY (ID c.2 hp (one (tX D _)))) ()
 .exact fD k3 (cY (ID c.2 hp d)) ()
 · have a:=mT D i;have g:=a.len
   exact fD e (cY (k:=(Y.get k).getD 0::k) λx b=>by
    rcases XC.mp b with rfl|b
    .exact t9 D k
    .exact aL (a.all x b) ∅) (by simp;omega)
def gG(h:fw r):(ln r).length<=4000:=by
 have d:=BZ r;have c:=sr r λw a=>(h.2.2 w a).2.2;have b:=h.2.1;omega
def vK{l:L4}(a:l.Nodup)(c:l.length<64)(b:∀p,p∈l↔p∈pl sz P):(pl sz P).length<64:=by
 have:=(Ab3 a (sL sz P)).mpr b
 rw[<-this.length_eq];exact c
def za(D:Dr sz U V Y S):(zb sz U V Y S).length<=300:=by
 have:=vK D.ok.U.nd D.wl (lK D)
 have:=vK D.ok.S.2.1 D.sl (oH D)
 have a:=congrArg List.length (v7 D)
 have:=Yu (nz V) (ks V)
 have:=qk D.ok.V.2.1
 have:=qk D.ok.Y.2.1
 have:=D.dl
 have:=D.fl
 rw[List.length_map]at a;ext zb;simp only[List.length_append,List.length_map,List.length_cons,List.length_nil];omega
def IK(x:Str):(x++("\n" : Str)).length=x.length+1:=by rw[XX];rfl
theorem vR(D:Dr sz U V Y S):∀y∈O2 sz U V Y S,y.length<=4000:=λy a=>by
 let(r,b,rfl):=XG.mp a;exact gG (Mv D r b)
def DF(D:Dr sz U V Y S):(O2 sz U V Y S).length<=300:=by
 ext O2;rw[List.length_map];exact za D
def Pp(D:Dr sz U V Y S):gr "" ((O2 sz U V Y S).map λx=>x++("\n" : Str))=.ok (Pq sz U V Y S):=by
 have c:=DF D
 exact rT 4001 (λy a=>by
  let(x,b,rfl):=XG.mp a;rw[IK]
  have:=vR D x b
  omega) (by rw[Xv,show("" : Str).length=0 from rfl];omega)
def FL:O2 sz U V Y S=[ln (hR sz)]++((pl sz (pW U)).map λp=>ln (wR p))++((pl sz (pF V)).map λp=>ln (fR V p))++((pl sz (pS S)).map λp=>ln (sR p))++((ks Y).map λk=>ln (dR Y k)):=by
 ext O2 zb;simp only[List.map_append,List.map_map,List.map_cons,List.map_nil];rfl
def Px(Cv:GI g sz U V Y S)(D:Dr sz U V Y S):(E2 g).res=.ok (Pq sz U V Y S):=by
 have y:=D.ok.size;have n:=Mb Cv D.ok;have m:=GS Cv D;have j:=GP Cv D.ok;have i:=GO Cv D;have d:=DF D;have b:=vR D;have c:=Pp D;rw[FL]at d b c;generalize (pl sz (pW U)).map (λp=>ln (wR p))=A at *;generalize (pl sz (pF V)).map (λp=>ln (fR V p))=B at *;generalize (pl sz (pS S)).map (λp=>ln (sR p))=C at *;generalize (ks Y).map (λk=>ln (dR Y k))=E at *;generalize Pq sz U V Y S=T at *;simp only[XF,XD,Z6]at d;have v:uu (g,G,G)=.nx (g,J sz,G):=by simp[uu,rQ,Cv.wf.count]
 have e:=fs1 (Z:=S_bi9) (ca:=vC (·.vxq)) (st:=(g,J sz,G)) (a:=sz) "houses " () rfl (aL (a:=sz) (sz:=sz+1) ∅ ∅);rw[eH]at e
 have u:ut (g,J sz,G)=.nx (g,J sz,J [ln (hR sz)]):=by
  simp only[ut,bI,bv,hZ,aB];rw[e];simp[ak]
 have t:ur (g,J sz,J [ln (hR sz)])=.nx (g,J sz,J ([ln (hR sz)]++A)):=by
  simp only[ur,bS,qj,cA,pC,Res.bind,n,bndO];rw[qu (by simp only[List.length_cons,List.length_nil];ext ak;omega)];rfl
 have s:uq (g,J sz,J ([ln (hR sz)]++A))=.nx (g,J sz,J ([ln (hR sz)]++A++B)):=by
  simp only[uq,bS,qj,cA,pC,Res.bind,m,bndO];rw[qu (by simp only[List.length_append,List.length_cons,List.length_nil];ext ak;omega)];rfl
 have r:uo (g,J sz,J ([ln (hR sz)]++A++B))=.nx (g,J sz,J ([ln (hR sz)]++A++B++C)):=by
  simp only[uo,bS,qj,cA,pC,Res.bind,j,bndO];rw[qu (by simp only[List.length_append,List.length_cons,List.length_nil];ext ak;omega)];rfl
 have q:um (g,J sz,J ([ln (hR sz)]++A++B++C))=.nx (g,J sz,J ([ln (hR sz)]++A++B++C++E)):=by
  simp only[um,bS,qj,cA,pC,Res.bind,i,bndO];rw[qu (by simp only[List.length_append,List.length_cons,List.length_nil];ext ak;omega)];rfl
 generalize h:[ln (hR sz)]++A++B++C++E=I0 at *;have F:I0.length<=300:=by rw[<-h];simp only[XF,XD,Z6];omega
 have o:dF (vC (·.vhq)) (λ_=>.ok true) (aC iH (pC λp=>p.1) (kC ("\n" : Str))) ((g,J sz,J I0):S_bi9)=.ok (I0.map λx=>x++("\n" : Str)):=by
  refine ik (l:=I0) _ rfl (by ext ak;omega) λx f=>?_
  have:=b x f
  have w:sizeLine=16777216:=rfl;have z:("\n" : Str).length=1:=rfl;simp only[aC,pC,kC,Res.bind,iH];rw[Xx ∅]
 ext E2 Cp;simp only[az,v,u,t,s,r,q];simp only[Ao,cI,bv,aC,kC,Res.bind];rw[o];simp only[c];rfl
end
def wd:D->Str | .int i=>ai i | .str x=>x|_ => ""
def Tb(d:D):Prop:=(∃i,d=.int i/\eG i)\/∃x,d=.str x/\x.length<=61
def Oe(h:Tb d):ss d=.ok (wd d)/\(wd d).length<=61:=by
 rcases h with ⟨i,rfl,h⟩|⟨x,rfl,h⟩
 .refine(?_,cP h);ext ss;simp[xn h,wd]
 .exact(rfl,h)
def wD:L D->Prop | []=>True|d::l=>Tb d/\wD l
theorem AZ:∀{l:L D},wD l->∀d∈l,Tb d
 | d::l,h,x,a=>by
   rcases XC.mp a with rfl|a
   .exact h.1
   .exact AZ h.2 x a
def mS(l:L D)(h:wD l)(m:l.length<=1000):(gw l).res=.ok (ln (l.map wd)++("\n" : Str)):=by
 have i:dF (pC (·.vCq)) (λ_=>.ok true) (bB ss (pC λp=>p.1)) (⟨l⟩:S_v9)=.ok (l.map wd):=by
  refine ik (l:=l) _ rfl (by ext ak;omega) λd hd=>?_
  have:=(Oe (AZ h d hd)).1
  simp[this]
 have b:∀y∈l.map wd,y.length<=61:=λy c=>by
  let(d,hd,rfl):=XG.mp c;exact(Oe (AZ h d hd)).2
 have g:=rT (sep := " ") 61 b (by rw[List.length_map,show(" " : Str).length=1 from rfl];omega);have f:=BZ (l.map wd);have e:=sr _ b;rw[List.length_map]at f e;have j:sizeLine=16777216:=rfl;have k:("\n" : Str).length=1:=rfl;have a:iH (ln (l.map wd)) "\n" =.ok (ln (l.map wd)++("\n" : Str)):=by ext iH;rw[if_pos ∅]
 ext gw K2;simp only[D4,cI,bv,aC,kC,Res.bind];rw[i];simp only[g];have a:iH (Txt.join " " (l.map wd)) "\n" = _:=a;rw[a];rfl
theorem B0{k:Str}(c:k.length<=61)(e:eG a)(d:eG b):(gw [.str k,.int a,.int b]).res=.ok (ln [k,ai a,ai b]++("\n" : Str)):=
 mS _ (.inr (_,rfl,c),.inl (_,rfl,e),.inl (_,rfl,d),trivial) ()
theorem JD{k:Str}(d:k.length<=61)(f:eG a)(e:eG b)(c:eG v):(gw [.str k,.int a,.int b,.int v]).res=.ok (ln [k,ai a,ai b,ai v]++("\n" : Str)):=
 mS _ (.inr (_,rfl,d),.inl (_,rfl,f),.inl (_,rfl,e),.inl (_,rfl,c),trivial) ()
theorem O4{k:Str}(b:k.length<=61)(c:eG a):(gw [.str k,.int a]).res=.ok (ln [k,ai a]++("\n" : Str)):=
 mS _ (.inr (_,rfl,b),.inl (_,rfl,c),trivial) ()
theorem CM:∀{k:L Int},(∀x∈k,eG x)->wD (k.map D.int)
 |[],_=>trivial
 |x::k,h=>(.inl (_,rfl,h x Xw),CM λy a=>h y (on _ a))
def Vn{k:L Int}(a:eG v)(b:∀x∈k,eG x)(c:k.length<=100):(gw ([.str "wish",.int v]++k.map D.int)).res=.ok (ln ("wish" :: ai v::k.map ai)++("\n" : Str)):=by
 have:=mS (.str "wish" :: .int v::k.map D.int) (.inr (_,rfl,by decide),.inl (_,rfl,a),CM b) (by simp;omega)
 rw[Xz,Xz,X7]at this;exact this
theorem qz{X:Type}{d:Int×Int->Res X}(f:Int×Int->X):∀{l:L4},(∀p∈l,d p=.ok (f p))->mF d (l.map pr)=.ok (l.map f)
 |[],_=>rfl
 | (a,b)::l,h=>by
   show(d (a,b)).calm.bind _=_;rw[h (a,b) Xw];simp only[Res.calm,Res.bind];rw[qz f λp hp=>h p (on _ hp)];rfl
def Qt(h:pr p=pr q):p=q:=by
 unfold pr at h;injection h with b a
 injection a with a _
 exact Prod.ext b a
theorem IH{l:L4}(h:l.Nodup):(l.map pr).Nodup:=List.Pairwise.map _ (λa b c e=>c (Qt e)) h
def sx{l:L4}(b:l.Nodup)(c:l.length<64)(a:∀p,p∈l↔p∈pl sz P):gD (l.map λp=>[p.1,p.2])=.ok ((pl sz P).map pr):=by
 ext gD
 rw[Xx (λk d z=>by
  let(p,_,rfl):=XG.mp d
  exact(nomatch z),by rw[Xv];exact c)]
 rw[show l.map (λp=>[p.1,p.2])=l.map pr from rfl,CP (IH b) (sK sz P) λx=>by
  rw[XG,XG];constructor
  .rintro⟨p,h,e⟩;exact(p,(a p).mp h,e)
  .rintro⟨p,h,e⟩;exact(p,(a p).mpr h,e)]
def fL(V:DI Int)(k:L Int):Str:=match k with | [a,b]=>ln (fR V (a,b))++("\n" : Str)|_ => ""
section
variable{g:GΩ}{sz:Int}{U:L4}{V Y:DI Int}{S:L4}
def Fl(D:Dr sz U V Y S):gD (V.map (·.1))=.ok (ks V):=by
 ext gD
 rw[Xx (λk c z=>by
  let(p,hp,rfl):=XG.mp c;let(a,b,e,_):=D.ok.V.2.2 p hp;rw[e]at z
  exact(nomatch z),by rw[Xv];exact D.fl)]
def Fm(D:Dr sz U V Y S):gD (Y.map (·.1))=.ok (ks Y):=by
 ext gD
 rw[Xx (λk a z=>by
  let(p,hp,rfl):=XG.mp a
  have:=(D.ok.Y.2.2 p hp).two
  rw[z]at this
  simp at this,by rw[Xv];exact D.dl)]
def GR(D:Dr sz U V Y S):(Lz U V Y S).res=.ok (((pl sz (pW U)).map λp=>ln (wR p)++("\n" : Str))++((pl sz (pF V)).map λp=>ln (fR V p)++("\n" : Str))++((pl sz (pS S)).map λp=>ln (sR p)++("\n" : Str))++((ks Y).map λk=>ln (dR Y k)++("\n" : Str))):=by
 have t:=D.ok.size;have B1:=Bx t.2 (pW U);have l2:=Bx t.2 (pF V);have I:=Bx t.2 (pS S);have l4:=qk D.ok.Y.2.1;have l5:=D.dl;have H:=qk D.ok.V.2.1;have l7:=D.fl
 -- U
 have ew:oh (bB gD (bB CJ (pC (·.vAq)))) (cA gw (hZ (aB (bB eC (kC ("way" : Str))) (aB (bB cq (pC λp=>p.1)) (aB (bB cq (pC λp=>p.2)) (cK:_->Res (L Mi.D))))))) ((U,V,Y,S,G,G):S_w9)=.ok ((pl sz (pW U)).map λp=>ln (wR p)++("\n" : Str)):=by
  have:=sx (sz:=sz) (P:=pW U) D.ok.U.nd D.wl (lK D)
  ext oh;simp only[bB,pC,CJ,Res.bind,this,List.length_map];rw[if_pos (by ext ak;omega)];refine qz _ λp hp=>?_;let(B,A,_):=iy.mp hp
  have:=B0 (k := "way") () (aL B ∅) (aL A ∅)
  simp[eC,cq,this,ak];rfl
 have e1:x4 (U,V,Y,S,G,G)=.nx (U,V,Y,S,J ((pl sz (pW U)).map λp=>ln (wR p)++("\n" : Str)),G):=by
  simp only[x4,bI,bv];rw[ew];rfl
 have R:((pl sz (pW U)).map λp=>ln (wR p)++("\n" : Str)).length<=3600:=by rw[Xv];exact B1
 generalize ((pl sz (pW U)).map λp=>ln (wR p)++("\n" : Str))=d at *
 -- lω
 let(s2,e2,e,rfl):=dy (u:=λa s=>{s with vnq:=J a}) (c:=kn) (λp (s:S_w9)=>∃C,s=(U,V,Y,S,J (d++(p.filter (nz V)).map (fL V)),C))
  (ks V) (U,V,Y,S,J d,G) (G,by simp) (by
    rintro p k r s Cv ⟨C,rfl⟩;have o:k∈ks V:=by rw[Cv];simp
    let(v,f,n):=mX D.ok.V.2.1 ((lY D.ok.V.2.1 k).mp o);let(a,b,y,Z,X,W,T):=D.ok.V.2.2 _ n;have y:k=[a,b]:=y;subst y;have hp:p.length<=64:=by rw[Cv,XF]at H;omega
    have M:=Yu (nz V) p;by_cases z:v=0
    · refine((U,V,Y,S,J (d++(p.filter (nz V)).map (fL V)),J [a,b]),.inl ?_,J [a,b],?_)
      .simp[kn,f,z]
      · have:nz V [a,b]=false:=X6 λw=>w (by rw[f];exact z)
        rw[ZD,Ze,this];simp
    · refine((U,V,Y,S,J (d++(p.filter (nz V)).map (fL V)++[fL V [a,b]]),J [a,b]),.inl ?_,J [a,b],?_)
      · have F:=JD (k := "like") (a:=a) (b:=b) (v:=v) () (aL (Z,X) ∅) (aL (W,T) ∅) (D.fn _ n);have ef:fL V [a,b]=ln ["like",ai a,ai b,ai v]++("\n" : Str):=by show ln (fR V (a,b))++_=_;ext fR;simp only[f,Option.getD_some]
        rw[<-ef]at F;generalize (p.filter (nz V))=q at M;simp only[kn,lH,bv,aC,pC,vC,kC,Res.bind,Km,f,kS];rw[decide_eq_false z];have ea:lx (d++q.map (fL V)) (fL V [a,b])=J (j2,d++q.map (fL V)++[fL V [a,b]]):=lv (by rw[List.length_append,List.length_map];ext ak;omega);simp[nC,Pj,Pi,eC,cq,f,F,ak,-List.append_assoc,ea]
      · have:nz V [a,b]=true:=Yn (by rw[f];exact z)
        rw[ZD,Ze,this]
        simp)
 have j:rZ (U,V,Y,S,J d,G)=gA (λa s=>{s with vnq:=J a}) kn (ks V) (U,V,Y,S,J d,G):=by
  ext rZ dt;simp only[bB,pC,qT,Res.bind,Fl D]
 rw[e2,v7 D,X7]at j;have i:rZ (U,V,Y,S,J d,G)=.nx (U,V,Y,S,J (d++(pl sz (pF V)).map λp=>ln (fR V p)++("\n" : Str)),e):=j;have Q:(d++(pl sz (pF V)).map λp=>ln (fR V p)++("\n" : Str)).length<=7200:=by rw[XF,Xv];omega
 generalize (d++(pl sz (pF V)).map λp=>ln (fR V p)++("\n" : Str))=L2 at *
 -- h
 have ey:oh (bB gD (bB CJ (pC (·.vwq)))) (cA gw (hZ (aB (bB eC (kC ("shun" : Str))) (aB (bB cq (pC λp=>p.1)) (aB (bB cq (pC λp=>p.2)) (cK:_->Res (L Mi.D))))))) ((U,V,Y,S,J L2,e):S_w9)=.ok ((pl sz (pS S)).map λp=>ln (sR p)++("\n" : Str)):=by
  have:=sx (sz:=sz) (P:=pS S) D.ok.S.2.1 D.sl (oH D)
  ext oh;simp only[bB,pC,CJ,Res.bind,this,List.length_map];rw[if_pos (by ext ak;omega)];refine qz _ λp hp=>?_;let(B,A,_):=iy.mp hp
  have:=B0 (k := "shun") () (aL B ∅) (aL A ∅)
  simp[eC,cq,this,ak];rfl
 have O:((pl sz (pS S)).map λp=>ln (sR p)++("\n" : Str)).length<=3600:=by rw[Xv];exact I
 generalize ((pl sz (pS S)).map λp=>ln (sR p)++("\n" : Str))=g at *
 have e3:xZ (U,V,Y,S,J L2,e)=.nx (U,V,Y,S,J (L2++g),e):=by
  simp only[xZ,bI,bv]
  rw[show aC db (vC (·.vhq)) _ ((U,V,Y,S,J L2,e):S_w9)=db L2 g from by
   simp only[aC,vC,Res.bind]
   rw[ey],gR (by ext ak;omega)]
  rfl
 -- m
 have ed:dF (bB gD (bB qT (pC (·.v6q)))) (λ_=>.ok true) (cA gw (aC db (hZ (aB (bB eC (kC ("wish" : Str))) (aB (bB cq (aC Km (pC λp=>p.2.v6q) (pC λp=>p.1))) (cK:_->Res (L Mi.D))))) (bB (rH Mi.D.int) (bB Nm (pC λp=>p.1))))) ((U,V,Y,S,J (L2++g),e):S_w9)=.ok ((ks Y).map λk=>ln (dR Y k)++("\n" : Str)):=by
  refine ik (l:=ks Y) _ (by simp only[bB,pC,qT,Res.bind,Fm D]) (by ext ak;omega) λk o=>?_;have E:=mT D o;have I0:=E.len;let(v,f,n):=mX D.ok.Y.2.1 ((lY D.ok.Y.2.1 k).mp o)
  have:=Vn (v:=v) (k:=k) (D.dn _ n) (λx K=>aL (E.all x K) ∅) ∅
  have N:db ([.str "wish",.int v]:L Mi.D) (k.map Mi.D.int)=.ok ([.str "wish",.int v]++k.map Mi.D.int):=gR (by rw[List.length_map];simp only[List.length_cons,List.length_nil];ext ak;omega);have hd:dR Y k=("wish" : Str)::ai v::k.map ai:=by ext dR;rw[f];rfl
  rw[hd];simp only[cA,aC,hZ,aB,bB,kC,cK,pC,Nm,eC,cq,rH,Res.bind,Km,f];rw[if_pos (by simp only[List.length_cons,List.length_nil];ext ak;omega)];simp only[Res.bind,N,this]
 have e4:xY (U,V,Y,S,J (L2++g),e)=.rt (L2++g++(ks Y).map λk=>ln (dR Y k)++("\n" : Str)) (U,V,Y,S,J (L2++g),e):=by
  simp only[xY,cI,bv]
  rw[show aC db (vC (·.vhq)) _ ((U,V,Y,S,J (L2++g),e):S_w9)=db (L2++g) ((ks Y).map λk=>ln (dR Y k)++("\n" : Str)) from by
   simp only[aC,vC,Res.bind]
   rw[ed],gR (by rw[List.length_append,List.length_map];ext ak;omega)]
  rfl
 ext Lz K1;simp only[az,e1,i,e3,e4];rfl
end
def DU{Z W X O:Type}{u:W->Z->Z}{c:Z->FlC Z X}(f:O->W)(R:L O->Z->Prop)(l:L O)(s:Z)(h:R [] s)(st:∀p a r s,l=p++a::r->R p s->∃s',c (u (f a) s)=.nx s'/\R (p++[a]) s'):∃s',R l s'/\∀m,gA u c (l.map f++m) s=gA u c m s':=by
 have b:∀(r p:L O) (s:Z),l=p++r->R p s->∃s',R l s'/\∀m,gA u c (r.map f++m) s=gA u c m s':=by
  intro r
  induction r with
  |nil=>intro p s e h;exact(s,by rw[e,XY];exact h,λm=>rfl)
  |cons a r g=>
    intro p s e h;let(d,n,j):=st p a r s e h;let(s2,i,k):=g (p++[a]) d (by rw[e];simp) j;refine(s2,i,λm=>?_);rw[Xz,Zs];show(match c (u (f a) s) with | .nx s'=>gA u c (r.map f++m) s' | .ct s'=>gA u c (r.map f++m) s' | .bk s'=>.nx s' | o=>o)=_;rw[n];exact k m
 exact b l [] s rfl h
theorem xy(a:c≠32):∀ws:L Str,(∀w∈ws,c∉cl w)->c∉cl (ln ws)
 |[],_=>by show c∉cl (Builtin.Str.glued " " []);rw[Ym];exact λh=>nomatch h
 |[x],h=>by rw[qA];exact h x Xw
 | x::y::r,h=>by
   rw[iD];intro z;rcases XJ.mp z with z|z
   .exact h x Xw z
   · rcases XC.mp z with z|z
     .exact a z
     .exact xy a (y::r) (λw b=>h w (on _ b)) z
def eI(rs:L (L Str)):Str:=Txt.join "" (rs.map λr=>ln r++("\n" : Str))
theorem vz{rs:L (L Str)}(b:∀r∈rs,fw r):∀y∈rs.map (λr=>ln r),y.length<=4000:=λy a=>by
 let(r,h,rfl):=XG.mp a;exact gG (b r h)
def sE{rs:L (L Str)}(j:rs≠[])(b:∀r∈rs,fw r)(u:rs.length<=1000):(mR (eI rs)).res=.ok rs:=by
 have s:sizeLine=16777216:=rfl;have ne:rs.map (λr=>ln r)≠[]:=by simpa using j
 have m:eI rs=Txt.join "\n" (rs.map λr=>ln r)++("\n" : Str):=by
  have:=tz (rs.map λr=>ln r) ne
  rw[X7]at this;exact this
 have t:(Txt.join "\n" (rs.map λr=>ln r)).length<=5000000:=by
  have e:=tM "\n" (rs.map λr=>ln r);have k:=sr _ (vz b);rw[show("\n" : Str).length=1 from rfl]at e;rw[Xv]at e k;omega
 have f:Txt.split (Txt.join "\n" (rs.map λr=>ln r)) "\n" = rs.map λr=>ln r:=kH (c:=10) ne λx d=>by
  let(r,h,rfl):=XG.mp d;exact xy ∅ r λw a=>((b r h).2.2 w a).1
 rw[m];generalize Txt.join "\n" (rs.map λr=>ln r)=B1 at *
 have q:pq ⟨B1++("\n" : Str)⟩=.nx ⟨B1++("\n" : Str)⟩:=by
  simp[pq,Nx,F0]
 have o:dF (aC jO (aC jX (pC (·.vzq)) (bB BG (kC (1:Int)))) (kC ("\n" : Str))) (λ_=>.ok true) (aC jO (pC λp=>p.1) (kC (" " : Str))) (⟨B1++("\n" : Str)⟩:S_bh9)=.ok ((rs.map λr=>ln r).map λx=>Txt.split x " "):=by
  refine ik (l:=rs.map λr=>ln r) _ ?_ (by rw[List.length_map];ext ak;omega) λx d=>?_
  .simp only[aC,pC,bB,kC,BG,Res.bind,jX];rw[ua,Xx ∅];simp only[Res.bind,jO];rw[f,Xx (rfl,∅,by rw[Xv];omega)]
  .let(r,h,rfl):=XG.mp d;have hp:=b r h;have i:=gG hp;have es:Txt.split (ln r) " " = r:=kH (c:=32) hp.1 λw a=>(hp.2.2 w a).2.1;simp only[aC,pC,kC,Res.bind,jO];rw[es,Xx (rfl,∅,by have:=hp.2.1;omega)]
 have n:(rs.map λr=>ln r).map (λx=>Txt.split x " ")=rs:=by
  rw[X7];refine(YQ (g:=id) λr h=>?_).trans (List.map_id _);exact kH (c:=32) (b r h).1 λw a=>((b r h).2.2 w a).2.1
 ext mR yr;simp only[az,q];simp only[Aq,cI,bv];rw[o,n];rfl
section
variable{g:GΩ}{sz:Int}{U:L4}{V Y:DI Int}{S:L4}
def Gb{X:Type}{src:Z->Res (L W)}{te:W×Z->Res X}{l:L W}(f:W->X)(e:src s=.ok l)(g:l.length<ak)(h:∀a∈l,te (a,s)=.ok (f a)):uJ src te s=.ok (l.map f):=by
 have c:∀r:L W,(∀a∈r,te (a,s)=.ok (f a))->jo (λa=>te (a,s)) r=.ok (r.map f):=by
  intro r
  induction r with
  |nil=>intro _;rfl
  |cons a r d=>
    intro h;ext jo;rw[h a List.mem_cons_self,d λb i=>h b (List.mem_cons_of_mem _ i)];rfl
 ext uJ;rw[e];show(if l.length<ak then _ else _)=_;rw[if_pos g,c l h]
def Mf{ws:L Int}(h:∀n∈ws,eG n)(d:ws.length<=1000):uJ (aC ji (pC (·.vCq)) (kC (1:Int))) (cA pR (pC λp=>p.1)) ((g,k::ws.map ai,b,G):S_bk9)=.ok ws:=by
 have:=Gb (Z:=S_bk9) (src:=aC ji (pC (·.vCq)) (kC (1:Int))) (te:=cA pR (pC λp=>p.1)) (s:=(g,k::ws.map ai,b,G)) (l:=ws.map ai) (λx=>match (pR x).res with | .ok n=>n|_=>0) () (by rw[List.length_map];ext ak;omega) (λx c=>by
  let(n,a,rfl):=XG.mp c
  simp[pY (h n a)])
 rw[this,X7];refine congrArg Res.ok ((YQ (g:=id) λn a=>?_).trans (List.map_id _));show(match (pR (ai n)).res with | .ok n=>n|_=>0)=n;rw[pY (h n a)]
def iZ{ws:L Int}(h:∀n∈ws,eG n)(a:ws.length<=1000)(k:Str):ju g (k::ws.map ai)=dh (J j2) (jj (g,k::ws.map ai,J k,J ws)):=by
 have c:uj (g,k::ws.map ai,G,G)=.nx (g,k::ws.map ai,J k,G):=by
  have:jq (k::ws.map ai) 0=J k:=by rw[gv _ ∅];rfl
  simp[uj,this]
 have b:ui (g,k::ws.map ai,J k,G)=.nx (g,k::ws.map ai,J k,J ws):=by
  simp only[ui,bI,bv];rw[Mf h a];rfl
 ext ju Ck;simp only[az,c,b]
theorem Q1(e:0<=a/\a<g.hω)(d:0<=b/\b<g.hω)(f:g.hω<=60):∀n∈[a,b],eG n:=λn c=>by
 simp only[XC,List.not_mem_nil,or_false]at c;rcases c with rfl|rfl
 .exact aL e ∅
 .exact aL d ∅
def RO:(("like" : Str) ≠ "way" /\ ("shun" : Str) ≠ "way" /\ ("shun" : Str) ≠ "like" /\ ("wish" : Str) ≠ "way" /\ ("wish" : Str) ≠ "like" /\ ("wish" : Str) ≠ "shun"):=by decide
def GD(i:g.hω<=60)(f:0<=a/\a<g.hω)(d:0<=b/\b<g.hω)(c:a≠b)(h:g.U.get [a,b]=G)(j:g.U.length+1<ak):∃s',ju g (wR (a,b))=.ok j2 s'/\s'.vaq={g with U:=(g.U.put [a,b] true).put [b,a] true}:=by
 have e:=iZ (g:=g) (ws:=[a,b]) (Q1 f d i) () "way";have sp:=Pw g a b f d c h j;exact(_,e.trans (by simp[jj,kW,Pj,Pi,sp];rfl),rfl)
def Fa(h:g.hω<=60)(f:0<=a/\a<g.hω)(d:0<=b/\b<g.hω)(c:a≠b)(i:g.sω.length<ak):∃s',ju g (sR (a,b))=.ok j2 s'/\s'.vaq={g with sω:=g.sω.put [a,b] true}:=by
 have e:=iZ (g:=g) (ws:=[a,b]) (Q1 f d h) () "shun";have sp:=Mc g a b f d c i;exact(_,e.trans (by simp[jj,iN,gN,ii,RO,Pj,Pi,sp];rfl),rfl)
def Fb(k:g.hω<=60)(f:0<=a/\a<g.hω)(d:0<=b/\b<g.hω)(h:eG v)(i:g.lω.length<ak):∃s',ju g ["like",ai a,ai b,ai v]=.ok j2 s'/\s'.vaq={g with lω:=g.lω.put [a,b] v}:=by
 have e:=iZ (g:=g) (ws:=[a,b,v]) (λn c=>by
  simp only[XC,List.not_mem_nil,or_false]at c;rcases c with rfl|rfl|rfl
  .exact aL f ∅
  .exact aL d ∅
  .exact h) () "like"
 have sp:=Mh g a b v f d i;have j:jq [a,b,v] 2=J v:=by rw[gv _ ∅];rfl
 exact(_,e.trans (by simp[jj,iN,ko,RO,Pj,Pi,j,sp];rfl),rfl)
def E9{k:L Int}(h:g.hω<=60)(a:RoadOk g.hω k)(c:eG v)(f:g.wω.length<ak):∃s',ju g ("wish" :: ai v::k.map ai)=.ok j2 s'/\s'.vaq={g with wω:=g.wω.put k v}:=by
 have d:=a.len
 have e:=iZ (g:=g) (ws:=v::k) (λn b=>by
  rcases XC.mp b with rfl|b
  .exact c
  .exact aL (a.all n b) ∅) (by rw[XD];omega) "wish"
 have sp:=L9 g k v a ∅ f;have a0:jq (v::k) 0=J v:=by rw[gv _ ∅];rfl
 have h0:(0:Int)<(k.length:Int)+1:=by omega
 exact(_,e.trans (by simp[jj,iN,gN,ij,fM,RO,a0,sp,h0];rfl),rfl)
def sw(b:1<=sz/\sz<=60):(mQ (hR sz)).res=.ok (sz,[],[],[],[]):=by
 have e:=pY (n:=sz) (aL (sz:=sz+1) ∅ ∅);have c:mk_Guild sz=.ok (sz,[],[],[],[]):=by ext mk_Guild;rw[if_pos b]
 have a:hR sz=[("houses" : Str),ai sz]:=rfl;have a0:jq [("houses" : Str),ai sz] 0=J "houses" := Pj _ _ _;have d:jq [("houses" : Str),ai sz] 1=J (ai sz):=Pi _ _ _;ext mQ EO;rw[a];simp[r6,El,a0,d,e,c]
def Fu(h:∃s',ju g r=.ok j2 s'/\s'.vaq=g'):bT (t,rs,J g,J r,x)=.nx (t,rs,J g',J r,x):=by
 let(s',b,a):=h;simp[bT,b,a]
end
def jv{X:Type}{a b:Z->FlC Z X}(h:a s=.nx s'):az a b s=b s':=by ext az;rw[h]
abbrev uW:L Str->S_bf9->S_bf9:=λa s=>{s with vCq:=J a}
abbrev NG:L Nat:=[10,11,13,14,17]
section
variable{t:Str}{h:L Str}{rs:L (L Str)}{g0 g4:GΩ}{w4:Option (L Str)}{c:Nat}{s':S_bf9}
def Br(a:(mR t).res=.ok (h::rs)):my (t,G,G,G,G)=.nx (t,J (h::rs),G,G,G):=by simp[my,a]
def SY:jq (h::rs) 0=J h:=by rw[gv _ ∅];rfl
def vD(s:S_bf9)(e:s.vsq=J (h::rs)):nU s=gA uW bT rs s:=by
 ext nU dt;simp only[aC,vC,kC,Res.bind,ji,e];rw[if_pos ∅];rfl
def MA(a:(mR t).res=.ok (h::rs))(b:(mQ h).res=.ok g0)(el:gA uW bT rs (t,J (h::rs),J g0,G,G)=.nx (t,J (h::rs),J g4,w4,G)):(fg t).res=.ok g4:=by
 have d:gc (t,J (h::rs),G,G,G)=.nx (t,J (h::rs),J g0,G,G):=by simp[gc,SY,b]
 have c:jk (t,J (h::rs),G,G,G)=.nx (t,J (h::rs),J g4,w4,G):=by
  ext jk ve;rw[jv d,vD _ rfl,el]
 ext fg qB;rw[jv (Br a),jv c];rfl
def HG(b:(mR t).res=.ok (h::rs))(d:(mQ h).res=.ok g0)(el:gA uW bT rs (t,J (h::rs),J g0,G,G)=.exc c s')(a:rL NG c=true):(fg t).res=.exc 17:=by
 have f:gc (t,J (h::rs),G,G,G)=.nx (t,J (h::rs),J g0,G,G):=by simp[gc,SY,d]
 have e:jk (t,J (h::rs),G,G,G)=.exc 17 s':=by
  ext jk ve;rw[jv f,vD _ rfl,el];exact if_pos a
 ext fg qB;rw[jv (Br b)];ext az;rw[e];rfl
def Fw(b:(mR t).res=.ok (h::rs))(d:(mQ h).res=.exc c)(a:rL NG c=true):(fg t).res=.exc 17:=by
 have f:gc (t,J (h::rs),G,G,G)=.exc c (t,J (h::rs),G,G,G):=by simp[gc,SY,d]
 have e:jk (t,J (h::rs),G,G,G)=.exc 17 (t,J (h::rs),G,G,G):=by
  ext jk ve az;rw[f];exact if_pos a
 ext fg qB;rw[jv (Br b)];ext az;rw[e];rfl
def Fv(a:(mR t).res=.exc 17):(fg t).res=.exc 17:=by
 have b:my (t,G,G,G,G)=.exc 17 (t,G,G,G,G):=by simp[my,a]
 ext fg qB az;rw[b];rfl
def My(a:(fg t).res=.exc 17):(NX t).res=.ok true:=by
 have c:xQ (t,G,G)=.nx (t,J [],G):=by simp[xQ,ak]
 have cb:(bS (bv (cA fg (pC (·.vzq)))):S_y9->FlC S_y9 Bool) (t,J [],G)=.exc 17 (t,J [],G):=by simp[a]
 have b:xP (t,J [],G)=.nx (t,J [true,true,false,false,false],G):=by
  ext xP LV;rw[cb];dsimp only;rw[if_pos (rfl,rfl)];rfl
 ext NX KZ;rw[jv c,jv b];rfl
end
def FS{Z W:Type}:OutC Z W->Bool
 |.exc c _=>rL NG c
 |_=>false
def pO:L (L Str):=[[""],["",""],["way"],["way","0"],["way","0","0"],["way","0","60"],["way","0","1","2"],["way","-1","0"],["way","0","x"],["ways","0","1"]]
def uM:L (L Str):=[["like"],["like","0","0"],["like","0","0","+1"],["like","0","0","01"],["like","0","0","-0"],["like","0","0","1",""],["like","","0","0","1"]]
def AM:L (L Str):=[["like","0","0","1."],["like","0","60","1"],(["like","0","0",("1" : Str)++zc "0" 60]:L Str),["Like","0","0","1"],["like","0","0","-"],["like","0","00","1"]]
def Lp:L (L Str):=[["shun","0"],["shun","0","0"],["shun","0","60"],["wish"],["wish","1"],["wish","1","0"],["wish","1","0","0"],["wish","x","1","0"]]
def Wx:L (L Str):=[["","like","0","0","1"],["houses","7"],["none"],["like","0","0","1_0"],["like","0","0","1__0"],["like","0","0_0","1"],["like","0","0","-01"]]
def om:L (L Str):=pO++uM++AM++Lp++Wx
def dM:L (L Str):=[["houses"],["houses","0"],["houses","61"],["houses","01"],["houses","-1"],["house","3"],["houses","3",""],["Houses","3"],
 ["houses","3","3"],["houses","1_0"],["houses","","3"],[""],["houses","x"],["houses",ai (10 ^ 60)]]
def Lm(w l s r):(om.all λp=>[1,2,3,4,5,6,7].all λn=>FS (ju (n,w,l,s,r) p))=true:=by kernel_rfl
def FX:(dM.all λp=>FS (mQ p))=true:=by kernel_rfl
noncomputable instance {w:Str}:Decidable (jL w):=by ext jL;infer_instance
noncomputable instance {r:L Str}:Decidable (fw r):=by ext fw;infer_instance
def Ln:(om.all λp=>decide (fw p))=true:=by kernel_rfl
def Cd:(dM.all λp=>decide (fw p))=true:=by kernel_rfl
theorem ER:om.length=38:=rfl
theorem v8:dM.length=14:=rfl
abbrev zH(rs:L (L Str)):L Str:=rs.map λr=>ln r
def ES{rs:L (L Str)}(b:(rs.length:Int)=n)(h0:0<n):jq (zH rs) (c%n)=J (ln (rs.getD (c%n).toNat [])):=by
 have a:=Yi c (show n≠0 by omega);have d:=Yb c h0;have hi:(c%n).toNat<rs.length:=by omega
 rw[gv _ a,Ye,XV,XS hi];rfl
def Bb(c:Int):(N0 c).res=.ok (ln (om.getD (c%38).toNat [])):=by
 have e1:Eh (c,G)=.nx (c,J (zH pO)):=by kernel_rfl
 have e2:Eg (c,J (zH pO))=.nx (c,J (zH (pO++uM))):=by kernel_rfl
 have e3:Ef (c,J (zH (pO++uM)))=.nx (c,J (zH (pO++uM++AM))):=by kernel_rfl
 have e4:Ee (c,J (zH (pO++uM++AM)))=.nx (c,J (zH (pO++uM++AM++Lp))):=by kernel_rfl
 have e5:Ed (c,J (zH (pO++uM++AM++Lp)))=.nx (c,J (zH om)):=by kernel_rfl
 have hl:(om.length:Int)=38:=by rw[ER];rfl
 have ha:=ES (rs:=om) (c:=c) hl ∅;have hl':((zH om).length:Int)=38:=by rw[Xv];exact hl
 ext N0 K5;rw[jv e1,jv e2,jv e3,jv e4,jv e5];generalize zH om=I0 at ha hl';simp[Ec,hl',ha]
def yR(c:Int):(N5 c).res=.ok (ln (dM.getD (c%14).toNat [])):=by
 have e1:Ek (c,G)=.nx (c,J (zH (dM.take 8))):=by kernel_rfl
 have e2:Ej (c,J (zH (dM.take 8)))=.nx (c,J (zH dM)):=by kernel_rfl
 have hl:(dM.length:Int)=14:=by rw[v8];rfl
 have ha:=ES (rs:=dM) (c:=c) hl ∅;have hl':((zH dM).length:Int)=14:=by rw[Xv];exact hl
 ext N5 K6;rw[jv e1,jv e2];generalize zH dM=I0 at ha hl';simp[Ei,hl',ha]
def SX(c:Int):fw (om.getD (c%38).toNat [])/\∀g:GΩ,1<=g.hω->g.hω<=7->FS (ju g (om.getD (c%38).toNat []))=true:=by
 have a:om.getD (c%38).toNat []∈om:=by
  have hi:(c%38).toNat<om.length:=by rw[ER];omega
  rw[XV,XS hi];exact YU hi
 refine(YE (YN.mp Ln _ a),λg d b=>?_);let(n,w,l,s,r):=g
 have:=YN.mp (Lm w l s r) _ a
 refine YN.mp this n ?_;have d:1<=n:=d;have b:n<=7:=b
 have:n=1\/n=2\/n=3\/n=4\/n=5\/n=6\/n=7:=by omega
 rcases this with rfl|rfl|rfl|rfl|rfl|rfl|rfl<;>simp
def Kb(c:Int):fw (dM.getD (c%14).toNat [])/\FS (mQ (dM.getD (c%14).toNat []))=true:=by
 have a:dM.getD (c%14).toNat []∈dM:=by
  have hi:(c%14).toNat<dM.length:=by rw[v8];omega
  rw[XV,XS hi];exact YU hi
 exact(YE (YN.mp Cd _ a),YN.mp FX _ a)
def DM(h:FS o=true):∃c s,o=.exc c s/\rL NG c=true:=by
 cases o with
 |exc c s=>exact(c,s,rfl,h)
 |ok a s=>cases h
 |bad=>cases h
set_option genInjectivity true in
inductive Rw where
 |way (a b:Int)|like (a b v:Int)|shun (a b:Int)|wish (k:List Int) (v:Int)
def Rw.row:Rw->L Str
 |.way a b=>["way",ai a,ai b]
 |.like a b v=>["like",ai a,ai b,ai v]
 |.shun a b=>["shun",ai a,ai b]
 |.wish k v => "wish" :: ai v::k.map ai
def Rw.put(g:GΩ):Rw->GΩ
 |.way a b=>{g with U:=(g.U.put [a,b] true).put [b,a] true}
 |.like a b v=>{g with lω:=g.lω.put [a,b] v}
 |.shun a b=>{g with sω:=g.sω.put [a,b] true}
 |.wish k v=>{g with wω:=g.wω.put k v}
def Rw.ok(sz:Int):Rw->Prop
 |.way a b=>(0<=a/\a<sz)/\(0<=b/\b<sz)/\a≠b
 |.like a b v=>(0<=a/\a<sz)/\(0<=b/\b<sz)/\eG v
 |.shun a b=>(0<=a/\a<sz)/\(0<=b/\b<sz)/\a≠b
 |.wish k v=>RoadOk sz k/\eG v
def Rw.new(g:GΩ):Rw->Prop
 |.way a b=>g.U.get [a,b]=G
 |_=>True
def L5{g:GΩ}{x:Rw}(f:g.hω=sz)(c:sz<=60)(h:x.ok sz)(d:x.new g)(e:Few g):∃s',ju g x.row=.ok j2 s'/\s'.vaq=x.put g:=by
 let(m,l,j,i):=e;subst f;cases x with
 |way a b=>exact GD c h.1 h.2.1 h.2.2 d (by ext ak;omega)
 |like a b v=>exact Fb c h.1 h.2.1 h.2.2 (by ext ak;omega)
 |shun a b=>exact Fa c h.1 h.2.1 h.2.2 (by ext ak;omega)
 |wish k v=>exact E9 c h.1 h.2 (by ext ak;omega)
theorem oQ(h:0<=a/\a<sz)(b:sz<=60):eG a:=aL h ∅
def nJ{x:Rw}(d:sz<=60)(h:x.ok sz):fw x.row:=by
 let(i,g,f,e,_):=nL;have one:∀{n:Int},eG n->jL (ai n):=vF;cases x with
 | way a b=>exact fD i (cY (k:=[a,b]) λx c=>by
    simp at c;rcases c with rfl|rfl
    .exact oQ h.1 d
    .exact oQ h.2.1 d) ()
 | like a b v=>exact fD g (cY (k:=[a,b,v]) λx c=>by
    simp at c;rcases c with rfl|rfl|rfl
    .exact oQ h.1 d
    .exact oQ h.2.1 d
    .exact h.2.2) ()
 | shun a b=>exact fD f (cY (k:=[a,b]) λx c=>by
    simp at c;rcases c with rfl|rfl
    .exact oQ h.1 d
    .exact oQ h.2.1 d) ()
 |wish k v=>
   have j:=h.1.len
   exact fD e (cY (k:=v::k) λx c=>by
    rcases XC.mp c with rfl|c
    .exact h.2
    .exact oQ (h.1.all x c) d) (by simp;omega)
def wF:Rw->Option (Int×Int)
 |.way a b=>J (min a b,max a b)
 |_=>G
def ly(xs:L Rw):L4:=xs.filterMap wF
def jV(k:L Int):Rw->Option Int
 |.like a b v=>if k=[a,b] then J v else G
 |_=>G
def kE(k:L Int):Rw->Option Int
 |.wish j v=>if k=j then J v else G
 |_=>G
def c8(f:Rw->Option Int):L Rw->Option Int->Option Int
 |[],o=>o
 |x::xs,o=>c8 f xs ((f x).or o)
theorem cV(f:Rw->Option Int)(x:Rw):∀(xs:L Rw) (o:Option Int),c8 f (xs++[x]) o=(f x).or (c8 f xs o)
 |[],o=>rfl
 |y::xs,o=>cV f x xs _
structure RI (sz:Int) (p:L Rw) (g:GΩ):Prop where
 wf:Wf sz g
 wl:g.U.length<=2*p.length
 ll:g.lω.length<=p.length
 ql:g.wω.length<=p.length
 sl:g.sω.length<=p.length
 way:∀x y,(g.U.get [x,y]).isSome=true↔(min x y,max x y)∈ly p
 lik:∀k,g.lω.get k=c8 (jV k) p G
 wsh:∀k,g.wω.get k=c8 (kE k) p G
 shn:∀x y,(g.sω.get [x,y]).isSome=true↔Rw.shun x y∈p
theorem RI.nil(sz:Int):RI sz [] (sz,[],[],[],[]):=(Wf.new,by simp,by simp,by simp,by simp,λx y=>by simp[DS,ly],λk=>rfl,λk=>rfl,λx y=>by simp[DS])
def ou(p:L Rw)(x:Rw):ly (p++[x])=ly p++(match wF x with|some q=>[q]|none=>[]):=by
 ext ly;rw[List.filterMap_append];cases x<;>rfl
def RI.step{x:Rw}(h:RI sz p g)(e:x.ok sz):RI sz (p++[x]) (x.put g):=by
 have l:(p++[x]).length=p.length+1:=by simp
 cases x with
 |way a b=>
   have i:=jA (F:=g.U.put [a,b] true) (k:=[b,a]) (v:=true);have l2:=jA (F:=g.U) (k:=[a,b]) (v:=true);refine(h.wf.lay e.1 e.2.1,?_,?_,?_,?_,λx y=>?_,λk=>?_,λk=>?_,λx y=>?_)
   · show((g.U.put [a,b] true).put [b,a] true).length<=_
     have:=h.wl
     omega
   .have:=h.ll;show g.lω.length<=_;omega
   .have:=h.ql;show g.wω.length<=_;omega
   .have:=h.sl;show g.sω.length<=_;omega
   · rw[ou];show(((g.U.put [a,b] true).put [b,a] true).get [x,y]).isSome=true↔(min x y,max x y)∈ly p++[(min a b,max a b)];rw[oZ,oZ];have f:=h.way x y;by_cases d:[x,y]=[b,a]
     .rw[Xx d];simp at d;let(rfl,rfl):=d;simp[Int.min_comm,Int.max_comm]
     · rw[Xy d];by_cases c:[x,y]=[a,b]
       .rw[Xx c];simp at c;let(rfl,rfl):=c;simp
       · rw[Xy c,f,XJ];constructor
         .exact .inl
         · rintro(z|z)
           .exact z
           .simp at d c z;exfalso;omega
   .rw[cV];exact h.lik k
   .rw[cV];exact h.wsh k
   .rw[XJ];simp;exact h.shn x y
 |like a b v=>
   have l2:=jA (F:=g.lω) (k:=[a,b]) (v:=v);refine(h.wf.like v e.1 e.2.1,?_,?_,?_,?_,λx y=>?_,λk=>?_,λk=>?_,λx y=>?_)
   .have:=h.wl;show g.U.length<=_;omega
   .have:=h.ll;show(g.lω.put [a,b] v).length<=_;omega
   .have:=h.ql;show g.wω.length<=_;omega
   .have:=h.sl;show g.sω.length<=_;omega
   .rw[ou];show(g.U.get [x,y]).isSome=true↔(min x y,max x y)∈ly p++[];rw[XY];exact h.way x y
   · rw[cV];show(g.lω.put [a,b] v).get k=(if k=[a,b] then J v else G).or _;rw[oZ];by_cases z:k=[a,b]
     .rw[Xx z,Xx z];rfl
     .rw[Xy z,Xy z];exact h.lik k
   .rw[cV];exact h.wsh k
   .rw[XJ];simp;exact h.shn x y
 |shun a b=>
   have l2:=jA (F:=g.sω) (k:=[a,b]) (v:=true);refine(h.wf.shun e.1 e.2.1,?_,?_,?_,?_,λx y=>?_,λk=>?_,λk=>?_,λx y=>?_)
   .have:=h.wl;show g.U.length<=_;omega
   .have:=h.ll;show g.lω.length<=_;omega
   .have:=h.ql;show g.wω.length<=_;omega
   .have:=h.sl;show(g.sω.put [a,b] true).length<=_;omega
   .rw[ou];show(g.U.get [x,y]).isSome=true↔(min x y,max x y)∈ly p++[];rw[XY];exact h.way x y
   .rw[cV];exact h.lik k
   .rw[cV];exact h.wsh k
   · show((g.sω.put [a,b] true).get [x,y]).isSome=true↔_;rw[oZ,XJ];by_cases z:[x,y]=[a,b]
     .rw[Xx z];simp at z;let(rfl,rfl):=z;simp
     .rw[Xy z,h.shn x y];simp at z ⊢;exact λd c=>absurd c (z d)
 |wish j v=>
   have l2:=jA (F:=g.wω) (k:=j) (v:=v);refine(h.wf.wish v e.1,?_,?_,?_,?_,λx y=>?_,λk=>?_,λk=>?_,λx y=>?_)
   .have:=h.wl;show g.U.length<=_;omega
   .have:=h.ll;show g.lω.length<=_;omega
   .have:=h.ql;show(g.wω.put j v).length<=_;omega
   .have:=h.sl;show g.sω.length<=_;omega
   .rw[ou];show(g.U.get [x,y]).isSome=true↔(min x y,max x y)∈ly p++[];rw[XY];exact h.way x y
   .rw[cV];exact h.lik k
   · rw[cV];show(g.wω.put j v).get k=(if k=j then J v else G).or _;rw[oZ];by_cases z:k=j
     .rw[Xx z,Xx z];rfl
     .rw[Xy z,Xy z];exact h.wsh k
   .rw[XJ];simp;exact h.shn x y
def DE(k:sz<=60)(xs:L Rw)(ok:∀x∈xs,x.ok sz)(nd:(ly xs).Nodup)(i:xs.length<=1000):∃g w,RI sz xs g/\∀m,gA uW bT (xs.map Rw.row++m) (t,R0,J (sz,[],[],[],[]),G,G)=gA uW bT m (t,R0,J g,w,G):=by
 let(s',(g,w,rfl,d),e):=DU (u:=uW) (c:=bT) Rw.row (λp (s:S_bf9)=>∃g w,s=(t,R0,J g,w,G)/\RI sz p g) xs (t,R0,J (sz,[],[],[],[]),G,G) (_,G,rfl,RI.nil sz) (by
  rintro p x r s f ⟨g,w,rfl,d⟩;have h:=ok x (by rw[f];simp);have hp:p.length<=1000:=by rw[f]at i;simp at i;omega
  have l:x.new g:=by
   cases x with
   |way a b=>
     show g.U.get [a,b]=G;cases q:g.U.get [a,b] with
     |none=>rfl
     |some v=>
       have o:=(d.way a b).mp (by rw[q];rfl);have n:(ly p++ly (Rw.way a b::r)).Nodup:=by rw[f]at nd;unfold ly at nd ⊢;rw[List.filterMap_append]at nd;exact nd
       exact absurd rfl ((List.nodup_append.mp n).2.2 _ o (min a b,max a b) (by ext ly;rw[List.filterMap_cons];exact List.mem_cons_self))
   |_=>trivial
  have j:=L5 d.wf.count k h l (by have:=d.wl;omega,by have:=d.ll;omega,by have:=d.ql;omega,by have:=d.sl;omega)
  exact(_,Fu j,x.put g,J x.row,rfl,d.step h))
 exact(g,w,d,e)
def FO(g:GΩ)(a b:Int)(h:0<=a/\a<g.hω)(f:0<=b/\b<g.hω)(c:a≠b)(d:(g.U.get [a,b]).isSome=true):Gp g a b=.exc 13 (g,a,b):=by
 have e:=A8 g a b h f c;ext Gp EQ;simp[yh,yg,rn,e,d,eO]
def A6{g:GΩ}(i:g.hω<=60)(f:0<=a/\a<g.hω)(d:0<=b/\b<g.hω)(c:a≠b)(h:(g.U.get [a,b]).isSome=true):FS (ju g ["way",ai a,ai b])=true:=by
 have e:=iZ (g:=g) (ws:=[a,b]) (Q1 f d i) () "way";have sp:=FO g a b f d c h;have j:ju g ["way",ai a,ai b]=.exc 13 (g,["way",ai a,ai b],J "way",J [a,b]):=e.trans (by simp[jj,kW,Pj,Pi,sp]);rw[j];rfl
section
variable{sz:Int}{U:L4}{V Y:DI Int}{S:L4}
def bH(sz:Int)(U:L4)(V Y:DI Int)(S:L4):L Rw:=(pl sz (pW U)).map (λp=>.way p.1 p.2)++(pl sz (pF V)).map (λp=>.like p.1 p.2 ((V.get [p.1,p.2]).getD 0))++(pl sz (pS S)).map (λp=>.shun p.1 p.2)++(ks Y).map λk=>.wish k ((Y.get k).getD 0)
abbrev aN(r:L Str):Str:=ln r++("\n" : Str)
def wy:zb sz U V Y S=hR sz::(bH sz U V Y S).map Rw.row:=by
 ext zb bH;simp only[List.map_append,List.map_map];rfl
def CD(D:Dr sz U V Y S):(Lz U V Y S).res=.ok ((bH sz U V Y S).map λx=>aN x.row):=by
 rw[GR D];ext bH;simp only[List.map_append,List.map_map];rfl
def mM(D:Dr sz U V Y S):(bH sz U V Y S).length<=300:=by
 have:=za D
 rw[wy,XD,Xv]at this;omega
theorem Gz{p:Int×Int}(D:Dr sz U V Y S)(h:p∈pl sz (pW U)):p.1<p.2:=(D.ok.U.all p ((lK D p).mpr h)).2.1
def sf(D:Dr sz U V Y S):∀x∈bH sz U V Y S,x.ok sz:=by
 intro x a;unfold bH at a;rcases List.mem_append.mp a with a|a
 · rcases XJ.mp a with a|a
   · rcases XJ.mp a with a|a
     · let(p,hp,rfl):=XG.mp a;let(c,b,_):=iy.mp hp
       have:=Gz D hp
       exact(c,b,by omega)
     .let(p,hp,rfl):=XG.mp a;let(c,b,_):=iy.mp hp;exact(c,b,tX D _)
   · let(p,hp,rfl):=XG.mp a;let(c,b,_):=iy.mp hp
     have:=D.ok.S.2.2 p ((oH D p).mpr hp)
     exact(c,b,this.2.2.2.2)
 .let(k,d,rfl):=XG.mp a;exact(mT D d,t9 D k)
def uL(D:Dr sz U V Y S):ly (bH sz U V Y S)=pl sz (pW U):=by
 ext ly bH;rw[List.filterMap_append,List.filterMap_append,List.filterMap_append,List.filterMap_map,List.filterMap_map,List.filterMap_map,List.filterMap_map]
 have e:∀l:L4,(∀p∈l,p.1<p.2)->l.filterMap (wF∘λp=>Rw.way p.1 p.2)=l:=by
  intro l
  induction l with
  |nil=>intro _;rfl
  |cons p l c=>
    intro h;rw[Zc]
    have:=h p Xw
    show(J9 (min p.1 p.2) (max p.1 p.2))::_=_;rw[c λq d=>h q (on _ d),Int.min_eq_left ∅,Int.max_eq_right ∅]
 have b:∀{W:Type} (f:W->Rw) (l:L W),(∀a,wF (f a)=G)->l.filterMap (wF∘f)=[]:=λf l h=>List.filterMap_eq_nil_iff.mpr λa _=>h a;rw[e _ λp hp=>Gz D hp,b _ _ λ_=>rfl,b _ _ λ_=>rfl,b _ _ λ_=>rfl];simp
theorem iV{rs:L (L Str)}(b:∀r∈rs,fw r)(c:rs.length<=1000):gr "" (rs.map aN)=.ok (eI rs):=rT 4001 (λy a=>by
 let(r,h,rfl):=XG.mp a;rw[IK]
 have:=gG (b r h)
 omega) (by rw[Xv,show("" : Str).length=0 from rfl];omega)
theorem oX(b:1<=sz/\sz<=60):fw (hR sz):=fD nL.2.2.2.2 (cY (k:=[sz]) λx a=>by rw[XM.mp a];exact aL (sz:=sz+1) ∅ ∅) ()
def zd(b:1<=sz/\sz<=60)(xs:L Rw)(ok:∀x∈xs,x.ok sz)(nd:(ly xs).Nodup)(n:xs.length<=400){post:L (L Str)}(h:fw bad)(f:∀r∈post,fw r)(hp:post.length<=400)(l:∀g,RI sz xs g->FS (ju g bad)=true):(fg (eI (hR sz::(xs.map Rw.row++bad::post)))).res=.exc 17:=by
 have d:=sE (rs:=hR sz::(xs.map Rw.row++bad::post)) () (λr a=>by
  rcases XC.mp a with rfl|a
  .exact oX b
  · rcases XJ.mp a with a|a
    .let(x,i,rfl):=XG.mp a;exact nJ b.2 (ok x i)
    · rcases XC.mp a with rfl|a
      .exact h
      .exact f r a) (by simp;omega)
 generalize eI (hR sz::(xs.map Rw.row++bad::post))=t at d;let(g,w,j,e):=DE b.2 (t:=t) (R0:=J (hR sz::(xs.map Rw.row++bad::post))) xs ok nd ∅;let(c,s0,m,k):=DM (l g j);refine HG (s':=(t,J (hR sz::(xs.map Rw.row++bad::post)),J s0.vaq,J bad,G)) (c:=c) d (sw b) ?_ k;rw[e (bad::post)]
 have:bT (uW bad (t,J (hR sz::(xs.map Rw.row++bad::post)),J g,w,G))=.exc c (t,J (hR sz::(xs.map Rw.row++bad::post)),J s0.vaq,J bad,G):=by
  show bT (t,J (hR sz::(xs.map Rw.row++bad::post)),J g,J bad,G)=_;simp[bT,m]
 ext gA;rw[this]
end
section
variable{sz:Int}{U:L4}{V Y:DI Int}{S:L4}
def Ng{rs:L (L Str)}(g:rs≠[])(h:∀r∈rs,10∉cl (ln r)/\cl (ln r)≠[]):(cl (Txt.join "\n" (rs.map λr=>ln r))).getLast?≠J 10:=by
 have a:∀rs:L (L Str),rs≠[]->(∀r∈rs,10∉cl (ln r)/\cl (ln r)≠[])->∃p x,cl (Txt.join "\n" (rs.map λr=>ln r))=p++[x]/\x≠10:=by
  intro rs
  induction rs with
  |nil=>intro h;exact absurd rfl h
  |cons r rs d=>
    intro _ h;cases rs with
    |nil=>
      let(j,i):=h r Xw;obtain⟨p,x,e⟩:∃p x,cl (ln r)=p++[x]:=(_,_,(List.dropLast_concat_getLast i).symm);refine(p,x,?_,λz=>j (by rw[e,z];simp));show cl (Builtin.Str.glued "\n" [ln r])=_;rw[Ym];exact e
    |cons c rs=>
      let(p,x,e,b):=d () λq f=>h q (on _ f);refine(cl (ln r)++[10]++p,x,?_,b)
      have k:cl (Txt.join "\n" ((r::c::rs).map λr=>ln r))=cl (ln r)++[10]++cl (Txt.join "\n" ((c::rs).map λr=>ln r)):=by
       show cl (Builtin.Str.glued "\n" _)=_++_++cl (Builtin.Str.glued "\n" _);rw[Ym,Ym,Xz,Xz,il,Yg];rfl
      rw[k,e,Yg,Yg,Yg]
 let(p,x,e,b):=a rs g h;rw[e,List.getLast?_concat];intro z;exact b (Yc z)
def Q4(h:(cl y).getLast?≠J 10):Txt.endswith y "\n" = false:=by
 ext Txt.endswith;have a:("\n" : Str).length=1:=rfl;rw[StrLaws.subAt_eq,a,Bool.and_eq_false_iff];right;rw[beq_eq_false_iff_ne];intro z;have b:y.length=(cl y).length:=rfl;rw[b]at z;replace z:((cl y).drop ((cl y).length-1)).take 1=[10]:=z;rcases List.eq_nil_or_concat (cl y) with e|⟨p,x,e⟩
 .rw[e]at z;simp at z
 .rw[List.concat_eq_append]at e;rw[e,XF,Y4,Nat.add_sub_cancel,List.drop_left]at z;rw[e,List.getLast?_concat]at h;simp at z;exact h (by rw[z])
def Hd{rs:L (L Str)}(c:rs≠[])(a:∀r∈rs,fw r/\cl (ln r)≠[])(k:rs.length<=1000):jX (eI rs) (-1)=.ok (Txt.join "\n" (rs.map λr=>ln r))/\(mR (Txt.join "\n" (rs.map λr=>ln r))).res=.exc 17:=by
 have ne:rs.map (λr=>ln r)≠[]:=by simpa using c
 have g:eI rs=Txt.join "\n" (rs.map λr=>ln r)++("\n" : Str):=by
  have:=tz (rs.map λr=>ln r) ne
  rw[X7]at this;exact this
 have i:sizeLine=16777216:=rfl
 have j:(Txt.join "\n" (rs.map λr=>ln r)).length<=5000000:=by
  have d:=tM "\n" (rs.map λr=>ln r);have f:=sr _ (vz λr h=>(a r h).1);rw[show("\n" : Str).length=1 from rfl]at d;rw[Xv]at d f;omega
 have b:=Q4 (Ng c λr h=>(xy ∅ r λw e=>((a r h).1.2.2 w e).1,(a r h).2));rw[g];generalize Txt.join "\n" (rs.map λr=>ln r)=B1 at *;constructor
 .unfold jX;rw[ua,if_pos ∅]
 .unfold mR yr;simp[pq,pp,Nx,b,eO]
def O3(h:cl w≠[]):cl (ln (w::r))≠[]:=by
 cases r with
 |nil=>rw[qA];exact h
 |cons x r=>rw[iD];simp
def Ql(x:Rw):cl (ln x.row)≠[]:=by
 cases x<;>exact O3 ()
def IF(x:Rw):FS (mQ x.row)=true:=by
 have d:(("way" : Str) ≠ "houses")/\(("like" : Str) ≠ "houses")/\(("shun" : Str) ≠ "houses")/\(("wish" : Str) ≠ "houses"):=by decide
 have c:∀(w:Str) (r:L Str),w ≠ "houses" -> mQ (w::r)=.exc 17 ⟨w::r⟩:=λw r h=>by
  have a0:jq (w::r) 0=J w:=by rw[gv _ ∅];rfl
  ext mQ EO;by_cases z:(r.length:Int)+1=2
  .simp[r6,mw,a0,z,h,eO]
  .simp[r6,mw,a0,z,h,eO]
 cases x with
 |way a b=>show FS (mQ (_::_))=true;rw[c _ _ d.1];rfl
 |like a b v=>show FS (mQ (_::_))=true;rw[c _ _ d.2.1];rfl
 |shun a b=>show FS (mQ (_::_))=true;rw[c _ _ d.2.2.1];rfl
 |wish k v=>show FS (mQ (_::_))=true;rw[c _ _ d.2.2.2];rfl
end
section
variable{sz:Int}{U:L4}{V Y:DI Int}{S:L4}
def sF{rs:L (L Str)}(d:FS (mQ h)=true)(a:∀r∈h::rs,fw r)(f:rs.length<=900):(fg (eI (h::rs))).res=.exc 17:=by
 let(c,s,e,b):=DM d;exact Fw (sE () a (by simp;omega)) (by rw[e];rfl) b
def A9(D:Dr sz U V Y S)(h7:sz<=7)(c:Int):∃t,(wE sz ((bH sz U V Y S).map λx=>aN x.row) U c).res=.ok t/\(fg t).res=.exc 17:=by
 have hs:1<=sz/\sz<=60:=(D.ok.size.1,by omega);have bl:=mM D;have bo:=sf D;have bw:=uL D;have nd:(ly (bH sz U V Y S)).Nodup:=by rw[bw];exact sL _ _
 have ro:∀r∈(bH sz U V Y S).map Rw.row,fw r:=λr h=>by
  let(x,hx,rfl):=XG.mp h;exact nJ hs.2 (bo x hx)
 generalize hX:bH sz U V Y S=X at *;have em:X.map (λx=>aN x.row)=(X.map Rw.row).map aN:=by rw[X7];rfl
 rw[em];have rl:(X.map Rw.row).length<=300:=by rw[Xv];exact bl
 generalize hR':X.map Rw.row=Rs at *;have ll:(Rs.map aN).length<=300:=by rw[Xv];exact rl
 have hd:=oX hs
 have jn:∀h,fw h->gr "" (aN h::Rs.map aN)=.ok (eI (h::Rs)):=λh hh=>iV (rs:=h::Rs) (λr hr=>by
  rcases XC.mp hr with rfl|hr
  .exact hh
  .exact ro r hr) (by simp;omega)
 have ct:∀x:Str,db [x] (Rs.map aN)=.ok (x::Rs.map aN):=λx=>gR (l:=[x]) (by simp only[List.length_singleton];ext ak;omega)
 have e1:uF (sz,Rs.map aN,U,c,G,G,G,G,G)=.nx (sz,Rs.map aN,U,c,J (aN (hR sz)),G,G,G,G):=by
  have:=O4 (k := "houses") (a:=sz) () (aL (sz:=sz+1) ∅ ∅)
  simp[uF,ak,eC,cq,this];rfl
 have p0:(0:Int)<(Rs.map aN).length+1:=by omega
 obtain⟨i,hi⟩:∃i,i=c / 14%((Rs.map aN).length+1):=(_,rfl);have i0:0<=i/\i<(Rs.map aN).length+1:=(by rw[hi];exact Yi _ ∅,by rw[hi];exact Yb _ p0)
 have e2:uE (sz,Rs.map aN,U,c,J (aN (hR sz)),G,G,G,G)=.nx (sz,Rs.map aN,U,c,J (aN (hR sz)),J i,G,G,G):=by
  rw[hi];generalize Rs.map aN=Ls at p0;simp[uE,p0]
 have e3:uD (sz,Rs.map aN,U,c,J (aN (hR sz)),J i,G,G,G)=.nx (sz,Rs.map aN,U,c,J (aN (hR sz)),J i,J (c%7),G,G):=by simp[uD]
 have go:∀t s,(az mD (az mB (az jm (az mz (az pA uC))))) (sz,Rs.map aN,U,c,J (aN (hR sz)),J i,J (c%7),G,G)=.rt t s->(wE sz (Rs.map aN) U c).res=.ok t:=λt s h=>by
  ext wE Cu;rw[jv e1,jv e2,jv e3,h];rfl
 by_cases k0:c%7=0
 · let(fr,fb):=Kb (c / 14)
   refine(_,go (eI (dM.getD (c / 14%14).toNat []::Rs)) (sz,Rs.map aN,U,c,J (aN (hR sz)),J i,J (c%7),G,G) ?_,sF fb (λr hr=>by
    rcases XC.mp hr with rfl|hr
    .exact fr
    .exact ro r hr) ∅)
   have sb:=yR (c / 14);have j:=jn _ fr;have hsh:=gG fr;have c1:=ct (aN (dM.getD (c / 14%14).toNat []));generalize dM.getD (c / 14%14).toNat []=F at *
   have ad:iH (ln F) "\n" =.ok (aN F):=by
    ext iH;rw[if_pos (by rw[show("\n" : Str).length=1 from rfl,show sizeLine=16777216 from rfl];omega)]
   generalize Rs.map aN=Ls at *;ext az;simp[mD,pG,k0,sb,ad,ak,c1,j,-db]
 have s4:mD (sz,Rs.map aN,U,c,J (aN (hR sz)),J i,J (c%7),G,G)=.nx (sz,Rs.map aN,U,c,J (aN (hR sz)),J i,J (c%7),G,G):=by simp[mD,k0]
 rw[jv s4]at go;by_cases k1:c%7=1
 · let(r1,r2):=Hd (rs:=hR sz::Rs) () (λr hr=>by
    rcases XC.mp hr with rfl|hr
    .exact(hd,O3 ())
    · refine(ro r hr,?_);rw[<-hR']at hr;let(x,_,rfl):=XG.mp hr
      exact Ql x) (by simp;omega)
   refine(_,go _ (sz,Rs.map aN,U,c,J (aN (hR sz)),J i,J (c%7),G,G) ?_,Fv r2);have j:=jn _ hd;have c1:=ct (aN (hR sz));generalize Txt.join "\n" _=B1 at *;generalize Rs.map aN=Ls at *;ext az;simp[mB,pE,k1,ak,c1,j,r1,-db]
 have s5:mB (sz,Rs.map aN,U,c,J (aN (hR sz)),J i,J (c%7),G,G)=.nx (sz,Rs.map aN,U,c,J (aN (hR sz)),J i,J (c%7),G,G):=by simp[mB,k1]
 rw[jv s5]at go;by_cases k2:c%7=2/\0<U.length
 · let(k2,w0):=k2;obtain⟨m,hm⟩:∃m,m=c / 14%(U.length:Int):=(_,rfl);have m0:0<=m/\m<U.length:=(by rw[hm];exact Yi _ ∅,by rw[hm];exact Yb _ ∅);have hmi:m.toNat<U.length:=by omega
   have am:jq U m=J U[m.toNat]:=by rw[gv _ m0.1,XS hmi]
   have pm:=YU hmi;have pa:=D.ok.U.all _ pm;have w1:ly X=pl sz (pW U):=bw;obtain⟨⟨a,b⟩,hq⟩:∃p,U[m.toNat]=p:=(_,rfl);rw[hq]at am pm pa;have pa:0<=a/\a<b/\b<sz:=pa;have wr:fw (Rw.way b a).row:=nJ hs.2 (by omega,∅,by omega)
   have rm:=zd hs X bo nd ∅ (bad:=(Rw.way b a).row) (post:=[]) wr (λ_ h=>nomatch h) () (λg hg=>by
    have hc:=hg.wf.count;refine A6 ∅ (by rw[hc];omega) (by rw[hc];omega) ∅ ((hg.way b a).mpr ?_);rw[w1,<-lK D,Int.min_eq_right ∅,Int.max_eq_left ∅]
    exact pm)
   rw[hR']at rm;refine(_,go _ (sz,Rs.map aN,U,c,J (aN (hR sz)),J i,J (c%7),J (a,b),G) ?_,rm);have lk:=B0 (k := "way") (a:=b) (b:=a) () (aL (sz:=sz) ∅ ∅) (aL (sz:=sz) ∅ ∅);have c1:=ct (aN (hR sz));have c2:=gR (l:=aN (hR sz)::Rs.map aN) (m:=[aN (Rw.way b a).row]) (by simp[ak];omega)
   have j:=iV (rs:=hR sz::(Rs++[(Rw.way b a).row])) (λr hr=>by
    rcases XC.mp hr with rfl|hr
    .exact hd
    · rcases XJ.mp hr with hr|hr
      .exact ro r hr
      .rw[XM.mp hr];exact wr) (by simp;omega)
   rw[Xz,X8,List.map_singleton,<-Zs]at j;replace lk:(gw [.str "way",.int b,.int a]).res=.ok (aN (Rw.way b a).row):=lk;generalize aN (Rw.way b a).row=ww at *;generalize eI (hR sz::(Rs++[(Rw.way b a).row]))=tt at *;have wp:(0:Int)<U.length:=by omega
   have t1:lf (sz,Rs.map aN,U,c,J (aN (hR sz)),J i,J (c%7),G,G)=.nx (sz,Rs.map aN,U,c,J (aN (hR sz)),J i,J (c%7),J (a,b),G):=by
    rw[hm]at am;simp[lf,wp,w0,am]
   have t2:lc (sz,Rs.map aN,U,c,J (aN (hR sz)),J i,J (c%7),J (a,b),G)=.rt tt (sz,Rs.map aN,U,c,J (aN (hR sz)),J i,J (c%7),J (a,b),G):=by
    generalize Rs.map aN=Ls at *;simp[lc,ak,eC,cq,lk,c1,-db];rw[c2];simp only[Res.bind];rw[j]
   have t6:jm (sz,Rs.map aN,U,c,J (aN (hR sz)),J i,J (c%7),G,G)=.rt tt (sz,Rs.map aN,U,c,J (aN (hR sz)),J i,J (c%7),J (a,b),G):=by
    rw[k2]at t1 t2 ⊢;ext jm;simp[w0,t1,t2]
   ext az;rw[t6]
 have s6:jm (sz,Rs.map aN,U,c,J (aN (hR sz)),J i,J (c%7),G,G)=.nx (sz,Rs.map aN,U,c,J (aN (hR sz)),J i,J (c%7),G,G):=by
  by_cases z:c%7=2
  .have z2:¬ 0<U.length:=λw=>k2 (z,w);simp[jm,z,z2]
  .simp[jm,z]
 rw[jv s6]at go;by_cases k3:c%7=3
 · have j:gr "" (Rs.map aN)=.ok (eI Rs):=iV ro ∅;have r0:(fg "").res=.exc 17:=by kernel_rfl
   have r1:(fg "\n").res=.exc 17:=by kernel_rfl
   have r2:(fg "houses 3").res=.exc 17:=by kernel_rfl
   have r3:(fg (eI Rs)).res=.exc 17:=by
    cases X with
    |nil=>rw[<-hR'];exact r0
    |cons x X=>
      rw[<-hR',Xz];rw[<-hR',Xz]at ro;exact sF (IF x) ro (by rw[<-hR',Xv]at rl;simp at rl ⊢;omega)
   have fin:∀t,jq ([("" : Str), "\n","houses 3",eI Rs]:L Str) (c / 14%4)=J t->(fg t).res=.exc 17->∃t,(wE sz (Rs.map aN) U c).res=.ok t/\(fg t).res=.exc 17:=λt ha hr=>by
    refine(t,go t (sz,Rs.map aN,U,c,J (aN (hR sz)),J i,J (c%7),G,G) ?_,hr);generalize eI Rs=tt at *;generalize Rs.map aN=Ls at *;ext az;simp[mz,pD,k3,j,ak,ha]
   have:c / 14%4=0\/c / 14%4=1\/c / 14%4=2\/c / 14%4=3:=by omega
   rcases this with q|q|q|q
   .exact fin "" (by rw[q];rfl) r0
   .exact fin "\n" (by rw[q];rfl) r1
   .exact fin "houses 3" (by rw[q];rfl) r2
   .exact fin (eI Rs) (by rw[q];rfl) r3
 have s7:mz (sz,Rs.map aN,U,c,J (aN (hR sz)),J i,J (c%7),G,G)=.nx (sz,Rs.map aN,U,c,J (aN (hR sz)),J i,J (c%7),G,G):=by simp[mz,k3]
 rw[jv s7]at go;let(br,bb):=SX (c / 7 / 3);have sb:=Bb (c / 7 / 3);have hsh:=gG br;generalize om.getD (c / 7 / 3%38).toNat []=Bd at *
 have ad:iH (ln Bd) "\n" =.ok (aN Bd):=by
  ext iH;rw[if_pos (by rw[show("\n" : Str).length=1 from rfl,show sizeLine=16777216 from rfl];omega)]
 have s8:pA (sz,Rs.map aN,U,c,J (aN (hR sz)),J i,J (c%7),G,G)=.nx (sz,Rs.map aN,U,c,J (aN (hR sz)),J i,J (c%7),G,J (aN Bd)):=by simp[pA,sb,ad]
 rw[jv s8]at go;have et:Rs.take i.toNat=(X.take i.toNat).map Rw.row:=by rw[<-hR',Ac2]
 have rm:=zd hs (X.take i.toNat) (λx hx=>bo x (Z4 hx)) (by
  refine nd.sublist ?_;ext ly
  exact(List.take_sublist _ _).filterMap _) (by rw[ZT];omega) (bad:=Bd) (post:=Rs.drop i.toNat) br (λr hr=>ro r (Z5 hr)) (by rw[ZV];omega) (λg hg=>by
   have hc:=hg.wf.count
   exact bb g ∅ ∅)
 rw[<-et]at rm;refine(_,go _ (sz,Rs.map aN,U,c,J (aN (hR sz)),J i,J (c%7),G,J (aN Bd)) ?_,rm)
 have j:=iV (rs:=hR sz::(Rs.take i.toNat++Bd::Rs.drop i.toNat)) (λr hr=>by
  rcases XC.mp hr with rfl|hr
  .exact hd
  · rcases XJ.mp hr with hr|hr
    .exact ro r (Z4 hr)
    · rcases XC.mp hr with rfl|hr
      .exact br
      .exact ro r (Z5 hr)) (by simp;omega)
 rw[Xz,X8,Xz,Ac2,Ag7]at j;have l1:((Rs.map aN).take i.toNat).length<=300:=by rw[ZT];omega
 have l2:((Rs.map aN).drop i.toNat).length<=300:=by rw[ZV];omega
 have c1:=gR (l:=[aN (hR sz)]) (m:=(Rs.map aN).take i.toNat) (by simp only[List.length_singleton];ext ak;omega);have c2:=gR (l:=[aN (hR sz)]++(Rs.map aN).take i.toNat) (m:=[aN Bd]) (by simp only[List.length_append,List.length_singleton];ext ak;omega);have c3:=gR (l:=[aN (hR sz)]++(Rs.map aN).take i.toNat++[aN Bd]) (m:=(Rs.map aN).drop i.toNat) (by simp only[List.length_append,List.length_singleton];ext ak;omega);have el:[aN (hR sz)]++(Rs.map aN).take i.toNat++[aN Bd]++(Rs.map aN).drop i.toNat=aN (hR sz)::((Rs.map aN).take i.toNat++aN Bd::(Rs.map aN).drop i.toNat):=by simp
 rw[<-el]at j;generalize eI _=tt at *;generalize Rs.map aN=Ls at *;have tk:yN Ls i=.ok (Ls.take i.toNat):=by ext yN;rw[if_pos i0.1]
 have dk:ji Ls i=.ok (Ls.drop i.toNat):=by ext ji;rw[if_pos i0.1]
 ext uC;simp only[cI,bv,aC,kC,vC,pC,hZ,aB,cK,Res.bind,tk,dk,List.length_singleton];rw[if_pos (by ext ak;omega)];simp only[Res.bind];rw[c1];simp only[Res.bind];rw[if_pos (by ext ak;omega)];simp only[Res.bind];rw[c2];simp only[Res.bind];rw[c3];simp only[Res.bind];rw[j];rfl
end
theorem f8(f:Rw->Option Int):∀(p q:L Rw) (o:Option Int),c8 f (p++q) o=c8 f q (c8 f p o)
 |[],_,_=>rfl
 |_::p,q,o=>f8 f p q _
theorem gK{f:Rw->Option Int}:∀{p:L Rw} {o:Option Int},(∀x∈p,f x=G)->c8 f p o=o
 |[],_,_=>rfl
 | x::p,o,h=>by
   show c8 f p ((f x).or o)=o;rw[h x Xw];exact gK λy a=>h y (on _ a)
theorem lX{W:Type}{f:Rw->Option Int}{h:W->L Rw}:∀{l:L W} {o:Option Int},(∀x∈l,(∀o,c8 f (h x) o=o)\/∀o,c8 f (h x) o=J v)->(o=J v\/∃x∈l,∀o,c8 f (h x) o=J v)->c8 f (l.flatMap h) o=J v
 | [],o,_,b=>by
   rcases b with e|⟨_,b,_⟩
   .exact e
   .cases b
 | x::l,o,d,b=>by
   rw[ZM,f8];refine lX (λy a=>d y (on _ a)) ?_;rcases d x Xw with n|s
   · rw[n];rcases b with e|⟨y,a,c⟩
     .exact .inl e
     · rcases XC.mp a with rfl|a
       .exact .inl (by have:=c o;rw[n]at this;exact this)
       .exact .inr (y,a,c)
   .exact .inl (s o)
theorem lW{W:Type}{f:Rw->Option Int}{h:W->L Rw}{l:L W}(c:∀x∈l,∀y∈h x,f y=G):c8 f (l.flatMap h) o=o:=gK λy a=>by
 let(x,b,a):=ZW.mp a;exact c x b y a
def gh(c:Int):Rw->L Rw
 |.way a b=>[if c / 7%2=1 then .way b a else .way a b]
 |.wish k v=>(if c / 14%3=1 then [.wish k (5+c%4)] else [])++if c / 42%2=1 then [.wish k v,.wish k v] else [.wish k v]
 |x=>if c / 42%2=1 then [x,x] else [x]
def dg(k:L Int)(v:Int):Rw:=match k with
 |[a,b]=>.like a b v
 |_=>.like 0 0 v
def iq(X:L Rw)(V:DI Int)(c:Int)(cut:Nat):L Rw:=(V.map (·.1)).map (λk=>dg k (5+c%3))++((V.map (·.1)).filter λk=>decide ((V.get k).getD 0=0)).map (λk=>dg k 0)++(X.drop cut++X.take cut).flatMap (gh c)
def DR(c:Int)(x:Rw):(gh c x).length<=3:=by
 cases x<;>simp only[gh]
 .simp
 .split<;>simp
 .split<;>simp
 .split<;>split<;>simp
def RV{x:Rw}(h:x.ok sz):∀y∈gh c x,y.ok sz:=by
 have e:eG (5+c%4):=by
  have:(5+c%4).natAbs<=8:=by omega
  exact Yt this ()
 cases x with
 |way a b=>
   intro y d;rw[XM.mp d];split
   .exact(h.2.1,h.1,λz=>h.2.2 z.symm)
   .exact h
 |like a b v=>
   intro y d;simp only[gh]at d
   have:y=Rw.like a b v:=by split at d<;>simpa using d
   rw[this];exact h
 |shun a b=>
   intro y d;simp only[gh]at d
   have:y=Rw.shun a b:=by split at d<;>simpa using d
   rw[this];exact h
 |wish k v=>
   intro y d;simp only[gh]at d;rcases XJ.mp d with d|d
   · split at d
     .rw[XM.mp d];exact(h.1,e)
     .cases d
   · have:y=Rw.wish k v:=by split at d<;>simpa using d
     rw[this];exact h
def Np(c:Int)(x:Rw):ly (gh c x)=(match wF x with|some q=>[q]|none=>[]):=by
 cases x with
 |way a b=>
   simp only[gh,ly];split
   .simp[wF,Int.min_comm,Int.max_comm]
   .rfl
 |like a b v=>simp only[gh];split<;>rfl
 |shun a b=>simp only[gh];split<;>rfl
 |wish k v=>simp only[gh];split<;>split<;>rfl
def yI(c:Int):∀l:L Rw,ly (l.flatMap (gh c))=ly l
 |[]=>rfl
 | x::l=>by
   have e:ly (gh c x++l.flatMap (gh c))=ly (gh c x)++ly (l.flatMap (gh c)):=by ext ly;rw[List.filterMap_append]
   rw[List.flatMap_cons,e,Np,yI c l];ext ly;rw[List.filterMap_cons];cases wF x<;>rfl
def rP(p q:L Rw):ly (p++q)=ly p++ly q:=by ext ly;rw[List.filterMap_append]
def yH(l:L (L Int))(v:Int):ly (l.map λk=>dg k v)=[]:=by
 ext ly;rw[List.filterMap_map];refine List.filterMap_eq_nil_iff.mpr λk _=>?_;show wF (dg k v)=G;ext dg;split<;>rfl
def Gv(X:L Rw)(V:DI Int)(c:Int)(cut:Nat):(ly (iq X V c cut)).Perm (ly X):=by
 ext iq;rw[rP,rP,yH,yH,yI,rP,List.nil_append,List.nil_append];refine List.perm_append_comm.trans ?_;rw[<-rP,List.take_append_drop]
section
variable{sz:Int}
def Gx(h:fw r):jX (aN r) (-1)=.ok (ln r)/\jO (ln r) " " =.ok r:=by
 have b:=gG h;have d:sizeLine=16777216:=rfl;constructor
 .unfold jX;rw[ua,if_pos ∅]
 .have es:Txt.split (ln r) " " = r:=kH (c:=32) h.1 λw a=>(h.2.2 w a).2.1;ext jO;rw[es,if_pos (rfl,∅,by have:=h.2.1;omega)]
def NK(x:W)(l:L W):jq (x::l) 0=J x:=by rw[gv _ ∅];rfl
def LR:("like" : Str) ≠ "way" /\ ("shun" : Str) ≠ "way" /\ ("wish" : Str) ≠ "way" /\ ("like" : Str) ≠ "wish" /\ ("shun" : Str) ≠ "wish" /\ ("way" : Str) ≠ "wish" := by decide
theorem Vm{a b:Str}(d:a.length<=61)(c:b.length<=61):(gw [.str "way",.str a,.str b]).res=.ok (aN ["way",a,b]):=
 mS [.str "way",.str a,.str b] (.inr (_,rfl,by decide),.inr (_,rfl,d),.inr (_,rfl,c),trivial) ()
theorem CL:∀{l:L Str},(∀w∈l,w.length<=61)->wD (l.map D.str)/\(l.map D.str).map wd=l
 |[],_=>(trivial,rfl)
 | w::l,h=>by
   let(c,b):=CL (l:=l) λx a=>h x (on _ a);exact((.inr (_,rfl,h w Xw),c),by rw[Xz,Xz,b];rfl)
def RF{l:L Str}(a:eG v)(b:∀w∈l,w.length<=61)(e:l.length<=100):(gw ([.str "wish",.int v]++l.map D.str)).res=.ok (aN ("wish" :: ai v::l)):=by
 let(d,c):=CL b
 have:=mS ([.str "wish",.int v]++l.map D.str) (show wD (D.str "wish" :: D.int v::l.map D.str) from(.inr (_,rfl,by decide),.inl (_,rfl,a),d)) (by simp;omega)
 rw[this,X8,c];rfl
theorem oP{v:Int}(h:v.natAbs<=100):eG v:=Yt h ()
def MO{x:Rw}(Cv:sz<=60)(t:x.ok sz){Ls:L Str}{V:DI Int}{c:Int}{out:L Str}{pr:Option (L Int)}{cut:Option Int}{w:Option (L Str)}(Q:out.length<=5000):∃line,r9 (Ls,V,c,J out,pr,cut,J (aN x.row),w)=.nx (Ls,V,c,J (out++(gh c x).map λy=>aN y.row),pr,cut,line,J x.row):=by
 have j:=nJ Cv t;let(A,z):=Gx j;have ap:∀(l:L Str) (y:Str),l.length<=5010->lx l y=J (j2,l++[y]):=λl y h=>lv (by ext ak;omega)
 have B1:qx (Ls,V,c,J out,pr,cut,J (aN x.row),w)=.nx (Ls,V,c,J out,pr,cut,J (aN x.row),J x.row):=by
  ext qx;simp[A,z]
 have C:eG (5+c%4):=oP ∅;let(p,o,i,n,m,B):=LR;ext r9;rw[jv B1];have pl:∀y∈x.row,y.length<=61:=λy E=>(j.2.2 y E).2.2;cases x with
 |way a b=>
   have e:=Vm (pl (ai b) (by simp[Rw.row])) (pl (ai a) (by simp[Rw.row]));have a0:jq (Rw.way a b).row 0=J "way" := NK _ _;have N:jq (Rw.way a b).row 1=J (ai a):=by rw[gv _ ∅];rfl
   have M:jq (Rw.way a b).row 2=J (ai b):=by rw[gv _ ∅];rfl
   by_cases q:c / 7%2=1
   · refine(J (aN (Rw.way b a).row),?_);have g:(gh c (Rw.way a b)).map (λy=>aN y.row)=[aN (Rw.way b a).row]:=by simp only[gh,Xx q];rfl
     rw[g];replace e:(gw [.str "way",.str (ai b),.str (ai a)]).res=.ok (aN (Rw.way b a).row):=e;generalize (Rw.way a b).row=r at *;generalize aN (Rw.way b a).row=l2 at *;simp[dZ,nA,fq,fo,a0,N,M,q,ak,rH,e,ap out _ ∅]
   · refine(J (aN (Rw.way a b).row),?_);have g:(gh c (Rw.way a b)).map (λy=>aN y.row)=[aN (Rw.way a b).row]:=by simp only[gh,Xy q];rfl
     rw[g];generalize (Rw.way a b).row=r at *;generalize aN r=l2 at *;simp[dZ,cD,fq,fo,a0,q,B,ap out _ ∅]
 |like a b v=>
   refine(J (aN (Rw.like a b v).row),?_);have a0:jq (Rw.like a b v).row 0=J "like" := NK _ _;by_cases q:c / 42%2=1
   · have g:(gh c (Rw.like a b v)).map (λy=>aN y.row)=[aN (Rw.like a b v).row,aN (Rw.like a b v).row]:=by simp only[gh,Xx q];rfl
     rw[g];generalize (Rw.like a b v).row=r at *;generalize aN r=l2 at *;simp[dZ,cD,fq,g6,fo,a0,q,p,n,ap out _ ∅,ap (out++[l2]) _ (by simp;omega)]
   · have g:(gh c (Rw.like a b v)).map (λy=>aN y.row)=[aN (Rw.like a b v).row]:=by simp only[gh,Xy q];rfl
     rw[g];generalize (Rw.like a b v).row=r at *;generalize aN r=l2 at *;simp[dZ,cD,fq,fo,a0,q,p,n,ap out _ ∅]
 |shun a b=>
   refine(J (aN (Rw.shun a b).row),?_);have a0:jq (Rw.shun a b).row 0=J "shun" := NK _ _;by_cases q:c / 42%2=1
   · have g:(gh c (Rw.shun a b)).map (λy=>aN y.row)=[aN (Rw.shun a b).row,aN (Rw.shun a b).row]:=by simp only[gh,Xx q];rfl
     rw[g];generalize (Rw.shun a b).row=r at *;generalize aN r=l2 at *;simp[dZ,cD,fq,g6,fo,a0,q,o,m,ap out _ ∅,ap (out++[l2]) _ (by simp;omega)]
   · have g:(gh c (Rw.shun a b)).map (λy=>aN y.row)=[aN (Rw.shun a b).row]:=by simp only[gh,Xy q];rfl
     rw[g];generalize (Rw.shun a b).row=r at *;generalize aN r=l2 at *;simp[dZ,cD,fq,fo,a0,q,o,m,ap out _ ∅]
 |wish k v=>
   refine(J (aN (Rw.wish k v).row),?_);have a0:jq (Rw.wish k v).row 0=J "wish" := NK _ _;have K:(Rw.wish k v).row.drop 2=k.map ai:=rfl;have P:=t.1.len;have e:=RF (v:=5+c%4) (l:=k.map ai) C (λw F=>pl w (by show w∈("wish" : Str)::ai v::k.map ai;exact on _ (on _ F))) (by rw[Xv];omega);have I0:db [D.str "wish",D.int (5+c%4)] ((k.map ai).map D.str)=.ok ([D.str "wish",D.int (5+c%4)]++(k.map ai).map D.str):=gR (by simp[ak];omega);have lk:(gw ([D.str "wish",D.int (5+c%4)]++(k.map ai).map D.str)).res=.ok (aN (Rw.wish k (5+c%4)).row):=e
   have H:(gh c (Rw.wish k v)).map (λy=>aN y.row)=(if c / 14%3=1 then [aN (Rw.wish k (5+c%4)).row] else [])++if c / 42%2=1 then [aN (Rw.wish k v).row,aN (Rw.wish k v).row] else [aN (Rw.wish k v).row]:=by
    simp only[gh,X8];split<;>split<;>rfl
   rw[H];generalize (Rw.wish k v).row=r at *;generalize aN (Rw.wish k (5+c%4)).row=s at *;generalize aN r=l2 at *;generalize (k.map ai)=ks at *;have dd:ji r 2=.ok ks:=by ext ji;rw[if_pos ∅];exact congrArg Res.ok K
   obtain⟨d,u,I⟩:∃d,d=out++(if c / 14%3=1 then [s] else [])/\dZ (Ls,V,c,J out,pr,cut,J l2,J r)=.nx (Ls,V,c,J d,pr,cut,J l2,J r):=by
    by_cases f:c / 14%3=1
    · refine(_,rfl,?_);rw[Xx f];simp[dZ,cD,jG,a0,i,f,ak,eC,cq,rH,dd,I0,lk,ap out _ ∅,-ji,-db]
      try (rw[show(gw (D.str "wish" :: D.int (5+c%4)::ks.map D.str)).res=.ok s from lk])
    .refine(_,rfl,?_);rw[Xy f,XY];simp[dZ,cD,a0,i,f]
   have O:d.length<=5001:=by rw[u,XF];split<;>simp<;>omega
   rw[jv I,<-Yg,<-u];by_cases q:c / 42%2=1
   .simp[fq,g6,fo,a0,q,i,ap d _ ∅,ap (d++[l2]) _ (by simp;omega)]
   .simp[fq,fo,a0,q,i,ap d _ ∅]
end
theorem xA{W X:Type}(f:W->L X)(n:Nat):∀l:L W,(∀a∈l,(f a).length<=n)->(l.flatMap f).length<=l.length*n
 |[],_=>by simp
 | a::l,h=>by
   rw[ZM,XF,XD,Nat.add_mul,Nat.one_mul]
   have:=xA f n l λb c=>h b (on _ c)
   have:=h a Xw
   omega
section
variable{sz:Int}
def GQ(Cv:sz<=60)(X:L Rw)(ok:∀x∈X,x.ok sz)(hl:X.length<=300)(V:DI Int)(Z:DI.nd V)(hp:∀p∈V,jt sz p.1)(hf:V.length<=20)(c:Int):∃cut:Nat,(NY (X.map λx=>aN x.row) V c).res=.ok ((iq X V c cut).map λy=>aN y.row):=by
 have kp:∀k∈V.map (·.1),∃a b,k=[a,b]/\eG a/\eG b:=λk C=>by
  let(p,hm,rfl):=XG.mp C;let(a,b,e,h1,h2,h3,h4):=hp p hm;exact(a,b,e,oQ (h1,h2) Cv,oQ (h3,h4) Cv)
 have R:eG (5+c%3):=oP ∅;have S:eG 0:=oP ();have n:(V.map (·.1)).length<=20:=by rw[Xv];exact hf
 have O:∀(a b v:Int),eG a->eG b->eG v->(gw [.str "like",.int a,.int b,.int v]).res=.ok (aN (dg [a,b] v).row):=λa b v t q W=>JD (k := "like") () t q W;generalize d:V.map (·.1)=ks at *
 let(s2,f2,f,rfl):=dy (u:=λa s=>{s with vnq:=J a}) (c:=qy) (λp (s:S_x9)=>∃pr,s=(X.map λx=>aN x.row,V,c,J (p.map λk=>aN (dg k (5+c%3)).row),pr,G,G,G)) ks (X.map λx=>aN x.row,V,c,J [],G,G,G,G) (G,rfl) (by
  rintro p k r s g ⟨pr,rfl⟩;let(a,b,rfl,t,q):=kp k (by rw[g];simp);have pl:p.length<=20:=by rw[g]at n;simp at n;omega
  have lk:=O a b _ t q R;have H:=lv (l:=p.map λk=>aN (dg k (5+c%3)).row) (x:=aN (dg [a,b] (5+c%3)).row) (by rw[List.length_map];ext ak;omega);refine((X.map λx=>aN x.row,V,c,J ((p++[[a,b]]).map λk=>aN (dg k (5+c%3)).row),J [a,b],G,G,G),.inl ?_,_,rfl);rw[List.map_append,List.map_singleton];generalize aN (dg [a,b] (5+c%3)).row=l2 at *;generalize (p.map λk=>aN (dg k (5+c%3)).row)=T at *
  simp[qy,Pj,Pi,ak,eC,cq,lk,H])
 have e1:xX (X.map λx=>aN x.row,V,c,G,G,G,G,G)=.nx (X.map λx=>aN x.row,V,c,J [],G,G,G,G):=by simp[xX,ak]
 have N:xW (X.map λx=>aN x.row,V,c,J [],G,G,G,G)=.nx (X.map λx=>aN x.row,V,c,J (ks.map λk=>aN (dg k (5+c%3)).row),f,G,G,G):=by
  ext xW;rw[<-f2];simp[d]
 obtain⟨i,hi⟩:∃i,i=c%(((X.map λx=>aN x.row).length:Int)+1):=(_,rfl);have I:(0:Int)<((X.map λx=>aN x.row).length:Int)+1:=by omega
 have U:0<=i:=by rw[hi];exact Yi _ ∅
 have P:(X.map λx=>aN x.row).length<=300:=by rw[Xv];exact hl
 have er:(X.map λx=>aN x.row).drop i.toNat++(X.map λx=>aN x.row).take i.toNat=(X.drop i.toNat++X.take i.toNat).map λx=>aN x.row:=by rw[X8,Ag7,Ac2]
 have e3:∀o,xV (X.map λx=>aN x.row,V,c,o,f,G,G,G)=.nx (X.map λx=>aN x.row,V,c,o,f,J i,G,G):=λo=>by
  rw[hi];generalize (X.map λx=>aN x.row)=Ls at I;simp[xV,I]
 have e4:∀o,xU (X.map λx=>aN x.row,V,c,o,f,J i,G,G)=.nx ((X.drop i.toNat++X.take i.toNat).map λx=>aN x.row,V,c,o,f,J i,G,G):=λo=>by
  rw[<-er];generalize (X.map λx=>aN x.row)=Ls at P;have cc:=gR (l:=Ls.drop i.toNat) (m:=Ls.take i.toNat) (by rw[List.length_drop,List.length_take];ext ak;omega);simp[xU,U,cc,-db]
 have E:∀x∈X.drop i.toNat++X.take i.toNat,x.ok sz:=λx h=>by
  rcases XJ.mp h with h|h
  .exact ok x (Z5 h)
  .exact ok x (Z4 h)
 have B1:(X.drop i.toNat++X.take i.toNat).length<=300:=by rw[XF,ZV,ZT];omega
 refine(i.toNat,?_);ext iq;rw[d];generalize X.drop i.toNat++X.take i.toNat=Y at *;obtain⟨A,I0,al⟩:∃A,A=(ks.map λk=>aN (dg k (5+c%3)).row)/\A.length<=20:=(_,rfl,by rw[List.length_map];exact n);rw[<-I0]at N
 let(s5,f5,j,rfl):=dy (u:=λa s=>{s with vnq:=J a}) (c:=nc) (λp (s:S_x9)=>∃pr,s=(Y.map λx=>aN x.row,V,c,J (A++(p.filter λk=>decide ((V.get k).getD 0=0)).map λk=>aN (dg k 0).row),pr,J i,G,G)) ks (Y.map λx=>aN x.row,V,c,J A,f,J i,G,G) (f,by simp) (by
  rintro p k r s g ⟨pr,rfl⟩;have C:k∈ks:=by rw[g];simp
  let(a,b,rfl,t,q):=kp k C;let(v,D,_):=mX Z (by rw[d];exact C);have pl:p.length<=20:=by rw[g]at n;simp at n;omega
  have fl:=List.length_filter_le (λk=>decide ((V.get k).getD 0=0)) p;have lk:=O a b 0 t q S;have H:=lv (l:=A++(p.filter λk=>decide ((V.get k).getD 0=0)).map λk=>aN (dg k 0).row) (x:=aN (dg [a,b] 0).row) (by rw[List.length_append,List.length_map];ext ak;omega);refine((Y.map λx=>aN x.row,V,c,J (A++((p++[[a,b]]).filter λk=>decide ((V.get k).getD 0=0)).map λk=>aN (dg k 0).row),J [a,b],J i,G,G),.inl ?_,_,rfl);rw[List.filter_append,List.map_append,<-List.append_assoc];by_cases z:v=0
  .rw[List.filter_cons_of_pos (by rw[D,z];rfl),Ad9,List.map_singleton];generalize aN (dg [a,b] 0).row=l2 at *;generalize (A++(p.filter λk=>decide ((V.get k).getD 0=0)).map λk=>aN (dg k 0).row)=T at *;simp[nc,nB,D,z,Pj,Pi,ak,eC,cq,lk,H]
  · rw[List.filter_cons_of_neg (by rw[D];simpa using z),Ad9,YA,XY]
    simp[nc,D,z])
 have M:xT (Y.map λx=>aN x.row,V,c,J A,f,J i,G,G)=.nx (Y.map λx=>aN x.row,V,c,J (A++(ks.filter λk=>decide ((V.get k).getD 0=0)).map λk=>aN (dg k 0).row),j,J i,G,G):=by
  ext xT;rw[<-f5];simp[d]
 obtain⟨B,K,bl⟩:∃B,B=A++(ks.filter λk=>decide ((V.get k).getD 0=0)).map (λk=>aN (dg k 0).row)/\B.length<=40:=(_,rfl,by
  have:=Yu (λk=>decide ((V.get k).getD 0=0)) ks
  rw[XF,Xv];omega)
 rw[<-K]at M
 let(s6,(F,Q,rfl),f6):=DU (u:=λa (s:S_x9)=>{s with vgq:=J a}) (c:=r9) (λx:Rw=>aN x.row) (λp (s:S_x9)=>∃l w,s=(Y.map λx=>aN x.row,V,c,J (B++(p.flatMap (gh c)).map λy=>aN y.row),j,J i,l,w)) Y (Y.map λx=>aN x.row,V,c,J B,j,J i,G,G) (G,G,by simp) (by
  rintro p x r s g ⟨l,w,rfl⟩;have h:=E x (by rw[g];simp);have pl:p.length<=300:=by rw[g]at B1;simp at B1;omega
  have fl:=xA (gh c) 3 p λa _=>DR c a;let(line,e):=MO Cv h (Ls:=Y.map λx=>aN x.row) (V:=V) (c:=c) (out:=B++(p.flatMap (gh c)).map λy=>aN y.row) (pr:=j) (cut:=J i) (w:=w) (by rw[XF,Xv];omega);refine(_,e,line,J x.row,?_)
  rw[List.flatMap_append,List.flatMap_singleton,X8,<-Yg])
 have e6:xS (Y.map λx=>aN x.row,V,c,J B,j,J i,G,G)=.nx (Y.map λx=>aN x.row,V,c,J (B++(Y.flatMap (gh c)).map λy=>aN y.row),j,J i,F,Q):=by
  have:=f6 []
  rw[List.append_nil]at this;ext xS;simp only[dt,pC];rw[this];rfl
 ext NY K0;rw[jv e1,jv N,jv (e3 _),jv (e4 _),jv M,jv e6];rw[List.map_append,List.map_append,List.map_map,List.map_map];simp[D3];rw[K,I0];simp;rfl
end
section
variable{sz:Int}{U:L4}{V Y:DI Int}{S:L4}
def Pm(W:WaysOk sz U)(a b:Int):((a,b)∈U\/(b,a)∈U)↔(min a b,max a b)∈U:=by
 constructor
 · rintro(h|h)
   · have:=W.all _ h
     simp only at this;rw[show min a b=a from by omega,show max a b=b from by omega];exact h
   · have:=W.all _ h
     simp only at this;rw[show min a b=b from by omega,show max a b=a from by omega];exact h
 · intro h;by_cases q:a<=b
   .rw[show min a b=a from by omega,show max a b=b from by omega]at h;exact .inl h
   .rw[show min a b=b from by omega,show max a b=a from by omega]at h;exact .inr h
theorem tK{W:Type}{f:Rw->Option Int}{h:W->Rw}:∀{l:L W} {o:Option Int},(∀x∈l,f (h x)=G\/f (h x)=J v)->(o=J v\/∃x∈l,f (h x)=J v)->c8 f (l.map h) o=J v
 | [],o,_,b=>by
   rcases b with e|⟨_,b,_⟩
   .exact e
   .cases b
 | x::l,o,d,b=>by
   rw[Xz];show c8 f (l.map h) ((f (h x)).or o)=J v;refine tK (λy a=>d y (on _ a)) ?_;rcases d x Xw with n|s
   · rw[n];rcases b with e|⟨y,a,c⟩
     .exact .inl e
     · rcases XC.mp a with rfl|a
       .rw[n]at c;cases c
       .exact .inr (y,a,c)
   .rw[s];exact .inl rfl
def tm:Rw.like a b v∈bH sz U V Y S↔(a,b)∈pl sz (pF V)/\(V.get [a,b]).getD 0=v:=by
 ext bH;simp;constructor
 .rintro⟨p,q,h,rfl,rfl,e⟩;exact(h,e)
 .rintro⟨h,e⟩;exact(a,b,h,rfl,rfl,e)
def zB:Rw.shun a b∈bH sz U V Y S↔(a,b)∈pl sz (pS S):=by
 ext bH;simp
def sZ:Rw.wish k v∈bH sz U V Y S↔k∈ks Y/\(Y.get k).getD 0=v:=by
 ext bH;simp;constructor
 .rintro⟨p,h,rfl,e⟩;exact(h,e)
 .rintro⟨h,e⟩;exact(k,h,rfl,e)
def tT:(∀y∈gh c x,jV k y=G)\/∃a b v,x=.like a b v/\k=[a,b]/\∀o,c8 (jV k) (gh c x) o=J v:=by
 cases x with
 |way a b=>left;intro y d;simp only[gh]at d;rw[XM.mp d];split<;>rfl
 |shun a b=>
   left;intro y d;simp only[gh]at d
   have:y=Rw.shun a b:=by split at d<;>simpa using d
   rw[this];rfl
 |wish j v=>
   left;intro y d;simp only[gh]at d;rcases XJ.mp d with d|d
   · split at d
     .rw[XM.mp d];rfl
     .cases d
   · have:y=Rw.wish j v:=by split at d<;>simpa using d
     rw[this];rfl
 |like a b v=>
   by_cases z:k=[a,b]
   · right;refine(a,b,v,rfl,z,λo=>?_);have e:jV k (.like a b v)=J v:=Xx z;simp only[gh];split
     .show(jV k (.like a b v)).or ((jV k (.like a b v)).or o)=_;rw[e];rfl
     .show(jV k (.like a b v)).or o=_;rw[e];rfl
   · left;intro y d;simp only[gh]at d
     have:y=Rw.like a b v:=by split at d<;>simpa using d
     rw[this];exact Xy z
def tS:(∀y∈gh c x,kE k y=G)\/∃v,x=.wish k v/\∀o,c8 (kE k) (gh c x) o=J v:=by
 cases x with
 |way a b=>left;intro y d;simp only[gh]at d;rw[XM.mp d];split<;>rfl
 |shun a b=>
   left;intro y d;simp only[gh]at d
   have:y=Rw.shun a b:=by split at d<;>simpa using d
   rw[this];rfl
 |like a b v=>
   left;intro y d;simp only[gh]at d
   have:y=Rw.like a b v:=by split at d<;>simpa using d
   rw[this];rfl
 |wish j v=>
   by_cases z:k=j
   · right;subst z;refine(v,rfl,λo=>?_);have e:kE k (.wish k v)=J v:=Xx rfl;simp only[gh];rw[f8];split
     .show(kE k (.wish k v)).or ((kE k (.wish k v)).or _)=_;rw[e];rfl
     .show(kE k (.wish k v)).or _=_;rw[e];rfl
   · left;intro y d;simp only[gh]at d;rcases XJ.mp d with d|d
     · split at d
       .rw[XM.mp d];exact Xy z
       .cases d
     · have:y=Rw.wish j v:=by split at d<;>simpa using d
       rw[this];exact Xy z
def zT:Rw.shun a b∈gh c x↔x=.shun a b:=by
 cases x with
 |way p q=>
   simp only[gh];constructor
   · intro h
     have:=XM.mp h
     split at this<;>cases this
   .intro h;cases h
 |like p q v=>simp only[gh];split<;>simp
 |shun p q=>simp only[gh];split<;>simp[eq_comm]
 |wish j v=>simp only[gh];split<;>split<;>simp
def iJ{X:L Rw}:x∈X.drop n++X.take n↔x∈X:=by
 rw[XJ,or_comm,<-XJ,List.take_append_drop]
def Vy(D:Dr sz U V Y S)(h:RI sz (iq (bH sz U V Y S) V c cut) g):GI g sz U V Y S:=by
 have A:∀k∈V.map (·.1),∃a b,k=[a,b]/\(0<=a/\a<sz)/\(0<=b/\b<sz):=λk A=>by
  let(p,I,rfl):=XG.mp A;let(a,b,e,O,N,M,I0):=D.ok.V.2.2 p I;exact(a,b,e,(O,N),(M,I0))
 have lk:∀{k j:L Int} {v:Int},j∈V.map (·.1)->jV k (dg j v)=if k=j then J v else none:=λ{k j v} f=>by
  let(a,b,rfl,_):=A j f;rfl
 refine(h.wf,λx y=>?_,λk=>?_,λk=>?_,λx y=>?_)
 .rw[h.way,(Gv _ V c cut).mem_iff,uL D,<-lK D];exact(Pm D.ok.U x y).symm
 · rw[h.lik];ext iq;rw[f8,f8]
   have r:(V.get k).getD 0=0->∀o,c8 (jV k) (((bH sz U V Y S).drop cut++(bH sz U V Y S).take cut).flatMap (gh c)) o=o:=λz o=>lW λx d y B=>by
    rcases tT (c:=c) (k:=k) (x:=x) with n|⟨a,b,v,rfl,rfl,_⟩
    .exact n y B
    · let(H,_):=tm.mp (iJ.mp d)
      have:=YE (iy.mp H).2.2
      exact absurd z this
   cases q:V.get k with
   |none=>
     have Cv:k∉V.map (·.1):=λw=>by rw[oW D.ok.V.2.1,q]at w;cases w
     rw[r (by rw[q];rfl)]
     rw[gK (p:=((V.map (·.1)).filter _).map _) λx d=>by
      let(j,f,rfl):=XG.mp d;have f:=(YB.mp f).1
      rw[lk f,Xy λz:k=j=>Cv (by rw[z];exact f)]]
     rw[gK λx d=>by
      let(j,f,rfl):=XG.mp d
      rw[lk f,Xy λz:k=j=>Cv (by rw[z];exact f)]]
   |some v=>
     have i:k∈V.map (·.1):=(oW D.ok.V.2.1 k).mpr (by rw[q];rfl);by_cases z:v=0
     · rw[r (by rw[q];exact z),z]
       rw[tK (v:=0) (λj f=>by
        rw[lk (YB.mp f).1];by_cases w:k=j
        .rw[Xx w];exact .inr rfl
        .rw[Xy w];exact .inl rfl) (.inr (k,YB.mpr (i,by rw[q,z];rfl),by rw[lk i,Xx rfl]))]
     · let(a,b,rfl,K,B1):=A k i
       rw[lX (v:=v) (λx d=>by
        rcases tT (c:=c) (k:=[a,b]) (x:=x) with n|⟨Q,P,m,rfl,e,s⟩
        .exact .inl λo=>gK n
        · let(_,t):=tm.mp (iJ.mp d);rw[<-e,q]at t
          have:v=m:=t
          rw[this]
          exact .inr s) (.inr (.like a b v,iJ.mpr (tm.mpr (iy.mpr (K,B1,Yn (by rw[q];exact z)),by rw[q];rfl)),by
          rcases tT (c:=c) (k:=[a,b]) (x:=.like a b v) with n|⟨Q,P,m,E,e,s⟩
          · have:Rw.like a b v∈gh c (.like a b v):=by simp only[gh];split<;>simp
            have:=n _ this
            rw[show jV [a,b] (.like a b v)=J v from Xx rfl]at this;cases this
          .cases E;exact s))]
 · rw[h.wsh];ext iq;rw[f8,f8]
   have ln:∀(l:L (L Int)) (v:Int) (o:Option Int),c8 (kE k) (l.map λj=>dg j v) o=o:=λl v o=>gK λx d=>by
    let(j,_,rfl):=List.mem_map.mp d;ext dg;split<;>rfl
   rw[ln,ln];by_cases z:k∈ks Y
   · let(v,C,_):=mX D.ok.Y.2.1 ((lY D.ok.Y.2.1 k).mp z);rw[C];refine lX (v:=v) (λx d=>?_) (.inr (.wish k v,iJ.mpr (sZ.mpr (z,by rw[C];rfl)),?_))
     · rcases tS (c:=c) (k:=k) (x:=x) with n|⟨m,rfl,s⟩
       .exact .inl λo=>gK n
       · let(_,t):=sZ.mp (iJ.mp d);rw[C]at t
         have:v=m:=t
         rw[this];exact .inr s
     · rcases tS (c:=c) (k:=k) (x:=.wish k v) with n|⟨m,E,s⟩
       · have:Rw.wish k v∈gh c (.wish k v):=by simp only[gh];rw[XJ];right;split<;>simp
         have:=n _ this
         rw[show kE k (.wish k v)=J v from Xx rfl]at this;cases this
       .cases E;exact s
   · rw[zU λw=>z ((lY D.ok.Y.2.1 k).mpr w)]
     exact lW λx d y B=>by
      rcases tS (c:=c) (k:=k) (x:=x) with n|⟨m,rfl,_⟩
      .exact n y B
      .exact absurd (sZ.mp (iJ.mp d)).1 z
 · rw[h.shn,oH D];ext iq;rw[List.mem_append,List.mem_append]
   have F:∀(l:L (L Int)) (v:Int),Rw.shun x y∉l.map λj=>dg j v:=λl v w=>by
    let(j,_,e):=List.mem_map.mp w;unfold dg at e;split at e<;>cases e
   constructor
   · rintro((w|w)|w)
     .exact absurd w (F _ _)
     .exact absurd w (F _ _)
     .let(R,u,w):=ZW.mp w;rw[zT.mp w]at u;exact zB.mp (iJ.mp u)
   .intro w;exact .inr (ZW.mpr (.shun x y,iJ.mpr (zB.mpr w),zT.mpr rfl))
end
def Dq{F:DI Int}(h:∀p∈F,eG p.2)(a:eG v):∀p∈F.put k v,eG p.2:=by
 intro p hp;unfold DI.put at hp;split at hp
 · let(q,b,rfl):=XG.mp hp;split
   .exact a
   .exact h q b
 · rcases XJ.mp hp with z|z
   .exact h p z
   .rw[XM.mp z];exact a
theorem vO{v:Int}(h:v.natAbs<=1000):eG v:=Yt h ()
def GT(c sz:Int)(b:0<sz):∃F:DI Int,(NZ c sz).res=.ok F/\F.length<=5/\DI.nd F/\(∀p∈F,jt sz p.1)/\∀p∈F,eG p.2:=by
 have m:0<=c%5/\c%5<5:=(Yi _ ∅,Yb _ ∅)
 let(s',e,c',k,F,rfl,j,d,hF,f):=dy (u:=λa s=>{s with veq:=J a}) (c:=yp) (λp (s:S_u9)=>∃c' k F,s=(c',sz,J F,k)/\F.length<=p.length/\DI.nd F/\(∀p∈F,jt sz p.1)/\∀p∈F,eG p.2)
  (bN 0 (c%5)) (c,sz,J [],G) (c,G,[],rfl,by simp,by simp[DI.nd],λ_ h=>(nomatch h),λ_ h=>(nomatch h)) (by
    rintro p a r s l ⟨c',k,F,rfl,j,d,hF,f⟩
    have hp:p.length<5:=by
     have:=b7 0 (c%5)
     rw[l,XF,XD]at this;omega
    have g:F.length<ak:=by ext ak;omega
    have i:eG ((c'*48271+11)%2147483647 / 49%7-3):=by
     have o:0<=(c'*48271+11)%2147483647 / 49%7:=Yi _ ∅;have n:(c'*48271+11)%2147483647 / 49%7<7:=Yb _ ∅;exact vO ∅
    refine(_,.inl ?_,(c'*48271+11)%2147483647,J a,F.put [(c'*48271+11)%2147483647%sz,(c'*48271+11)%2147483647 / 7%sz] ((c'*48271+11)%2147483647 / 49%7-3),rfl,?_,nM d,kK hF (_,_,rfl,Yi _ ∅,Yb _ b,Yi _ ∅,Yb _ b),Dq f i)
    .simp[yp,wo,wn,b,g]
    .rw[XF];exact Yw jA (by simp;omega))
 refine(F,?_,?_,d,hF,f)
 .unfold NZ K3 D7 D6 D5;simp[fQ (lo:=0) (hi:=c%5) ∅ ∅ ∅ ∅,e]
 .have:=b7 0 (c%5);omega
def GU(c sz:Int)(v:1<=sz)(t:sz<=1000):∃F:DI Int,(LA c sz).res=.ok F/\F.length<=4/\DI.nd F/\(∀p∈F,RoadOk sz p.1)/\∀p∈F,eG p.2:=by
 by_cases j:sz<2
 .refine([],?_,by simp,by simp[DI.nd],λ_ h=>(nomatch h),λ_ h=>(nomatch h));simp[LA,EN,x6,x5,re,j]
 · have A:0<=c%4/\c%4<4:=(Yi _ ∅,Yb _ ∅)
   let(s',e,c',k,F,r,rfl,o,g,hF,i):=dy (u:=λa s=>{s with veq:=J a}) (c:=yq) (λp (s:S_t9)=>∃c' k F r,s=(c',sz,J F,k,r)/\F.length<=p.length/\DI.nd F/\(∀p∈F,RoadOk sz p.1)/\∀p∈F,eG p.2)
    (bN 0 (c%4)) (c,sz,J [],G,G) (c,G,[],G,rfl,by simp,by simp[DI.nd],λ_ h=>(nomatch h),λ_ h=>(nomatch h)) (by
      rintro p a r s q ⟨c',k,F,rd,rfl,o,g,hF,i⟩
      have hp:p.length<4:=by
       have:=b7 0 (c%4)
       rw[q,XF,XD]at this;omega
      have l:F.length<ak:=by ext ak;omega
      have f:1<sz:=by omega
      generalize x:(c'*48271+17)%2147483647=b;have z:0<=b%(sz-1):=Yi _ ∅;have y:b%(sz-1)<sz-1:=Yb _ ∅
      have m:eG (b / 5%9-4):=by
       have v:0<=b / 5%9:=Yi _ ∅;have B:b / 5%9<9:=Yb _ ∅;exact vO ∅
      let(d,w,n,_,_):=Me (b / 9) (1+b%(sz-1)) sz ∅ ∅ t;refine(_,.inl ?_,b,J a,F.put d (b / 5%9-4),J d,rfl,?_,nM g,kK hF n,Dq i m)
      .simp[yq,wu,wt,wq,x,l,f,w]
      .rw[XF];exact Yw jA (by simp;omega))
   refine(F,?_,?_,g,hF,i)
   .unfold LA EN;simp[x6,x5,D9,D8,j,fQ (lo:=0) (hi:=c%4) ∅ ∅ ∅ ∅,e]
   .have:=b7 0 (c%4);omega
def Gy{W:L4}(h:WaysOk sz W)(f:sz<=7):W.length<=49:=by
 have nd:(W.map λp=>p.1*7+p.2).Nodup:=by
  have:=List.Pairwise.and_mem.mp h.nd
  refine List.Pairwise.map _ (λa b c e=>?_) this;have i:=h.all a c.1;have g:=h.all b c.2.1;exact c.2.2 (Prod.ext ∅ ∅)
 have:=qN 49 _ nd λx d=>by
  let(p,hp,rfl):=XG.mp d
  have:=h.all p hp
  omega
 rwa [Xv]at this
def Ch(ns:L Int):∃s,N6 ns=.ok true s:=by
 have o:∀k:Int,0<=k->(rO ns k).res=.ok (ce ns k):=λk n=>Mj ns k n;obtain⟨sz,hz⟩:∃z,z=1+ce ns 0%7:=(_,rfl);have I0:1<=sz:=by omega
 have U:sz<=7:=by omega
 have j:1<=sz/\sz<=60:=by omega
 have e1:yf (ns,G,G,G,G,G,G,G,G,G)=.nx (ns,J sz,G,G,G,G,G,G,G,G):=by simp[yf,o,hz]
 let(W,w1,S):=Ma (ce ns 1) sz I0 ∅;have wl:=Gy S U;let(F,f1,f2,Z,P,f5):=GT (ce ns 2) sz ∅;let(Q,N,d2,d3,d4,d5):=GU (ce ns 3) sz I0 ∅;let(Y,y1,y2,y3,y4):=Pv (ce ns 4) sz I0;have D:Dr sz W F Q Y:=((j,S,(by omega,Z,P),(by omega,d3,d4),(by omega,y3,y4)),∅,∅,∅,∅,f5,d5);have e2:ye (ns,J sz,G,G,G,G,G,G,G,G)=.nx (ns,J sz,J W,G,G,G,G,G,G,G):=by simp[ye,o,w1]
 have e3:yd (ns,J sz,J W,G,G,G,G,G,G,G)=.nx (ns,J sz,J W,J F,G,G,G,G,G,G):=by simp[yd,o,f1]
 have e4:yc (ns,J sz,J W,J F,G,G,G,G,G,G)=.nx (ns,J sz,J W,J F,J Q,G,G,G,G,G):=by simp[yc,o,N]
 have e5:yb (ns,J sz,J W,J F,J Q,G,G,G,G,G)=.nx (ns,J sz,J W,J F,J Q,J Y,G,G,G,G):=by simp[yb,o,y1]
 have bl:=CD D;have sp:=A9 D U;let(cut,K):=GQ j.2 (bH sz W F Q Y) (sf D) (mM D) F Z P ∅ (ce ns 6)
 have sh:Pq sz W F Q Y=eI (hR sz::(bH sz W F Q Y).map Rw.row):=by
  ext Pq eI O2;rw[<-wy,List.map_map];rfl
 have I:gr "" (aN (hR sz)::(bH sz W F Q Y).map λx=>aN x.row)=.ok (Pq sz W F Q Y):=by
  rw[sh]
  have:=iV (rs:=hR sz::(bH sz W F Q Y).map Rw.row) (λr i=>by
   rcases XC.mp i with rfl|i
   .exact oX j
   · let(x,A,rfl):=XG.mp i
     exact nJ j.2 (sf D x A)) (by have:=mM D;simp;omega)
  rw[Xz,X7]at this;exact this
 have B1:∀y∈iq (bH sz W F Q Y) F (ce ns 6) cut,y.ok sz:=λy d=>by
  have lo:∀v,eG v->∀k∈F.map (·.1),(dg k v).ok sz:=λv hv k n=>by
   let(p,hm,rfl):=XG.mp n;let(a,b,e,X,O,M,h4):=P p hm;rw[e];exact((X,O),(M,h4),hv)
  unfold iq at d;rcases List.mem_append.mp d with d|d
  · rcases XJ.mp d with d|d
    .let(k,n,rfl):=XG.mp d;exact lo _ (oP ∅) k n
    .let(k,n,rfl):=XG.mp d;exact lo _ (oP ()) k (YB.mp n).1
  .let(x,A,d):=ZW.mp d;exact RV (sf D x (iJ.mp A)) y d
 have yl:(iq (bH sz W F Q Y) F (ce ns 6) cut).length<=990:=by
  ext iq;have X:=mM D;have O:=xA (gh (ce ns 6)) 3 ((bH sz W F Q Y).drop cut++(bH sz W F Q Y).take cut) λa _=>DR _ a;have M:=List.length_filter_le (λk=>decide ((F.get k).getD 0=0)) (F.map (·.1));rw[List.length_append,List.length_drop,List.length_take]at O;rw[List.length_map]at M;rw[List.length_append,List.length_append,List.length_map,List.length_map,List.length_map];omega
 obtain⟨g,rd,gi⟩:∃g,(fg (eI (hR sz::(iq (bH sz W F Q Y) F (ce ns 6) cut).map Rw.row))).res=.ok g/\GI g sz W F Q Y:=by
  have nd:(ly (iq (bH sz W F Q Y) F (ce ns 6) cut)).Nodup:=by
   rw[(Gv _ F _ cut).nodup_iff,uL D];exact sL _ _
  have er:=sE (rs:=hR sz::(iq (bH sz W F Q Y) F (ce ns 6) cut).map Rw.row) () (λr i=>by
   rcases XC.mp i with rfl|i
   .exact oX j
   · let(x,A,rfl):=XG.mp i
     exact nJ j.2 (B1 x A)) (by simp;omega)
  generalize eI _=t at er;let(g,w,hg,e):=DE j.2 (t:=t) (R0:=J (hR sz::(iq (bH sz W F Q Y) F (ce ns 6) cut).map Rw.row)) _ B1 nd ∅;have e0:=e [];rw[XY]at e0;exact(g,MA (w4:=w) er (sw j) e0,Vy D hg)
 have B:=Px gi D
 have H:gr "" (aN (hR sz)::(iq (bH sz W F Q Y) F (ce ns 6) cut).map λy=>aN y.row)=.ok (eI (hR sz::(iq (bH sz W F Q Y) F (ce ns 6) cut).map Rw.row)):=by
  have:=iV (rs:=hR sz::(iq (bH sz W F Q Y) F (ce ns 6) cut).map Rw.row) (λr i=>by
   rcases XC.mp i with rfl|i
   .exact oX j
   · let(x,A,rfl):=XG.mp i
     exact nJ j.2 (B1 x A)) (by simp;omega)
  rw[Xz,X7]at this;exact this
 have bn:=mM D;have bn':((bH sz W F Q Y).map λx=>aN x.row).length<=300:=by rw[Xv];exact bn
 have yn':((iq (bH sz W F Q Y) F (ce ns 6) cut).map λy=>aN y.row).length<=990:=by rw[Xv];exact yl
 have V:(gw [.str "houses",.int sz]).res=.ok (aN (hR sz)):=O4 (k := "houses") (a:=sz) () (aL (sz:=sz+1) ∅ ∅);have Cv:=gR (l:=[aN (hR sz)]) (m:=(bH sz W F Q Y).map λx=>aN x.row) (by simp only[List.length_singleton];ext ak;omega);have E:=gR (l:=[aN (hR sz)]) (m:=(iq (bH sz W F Q Y) F (ce ns 6) cut).map λy=>aN y.row) (by simp only[List.length_singleton];ext ak;omega);replace Cv:db [aN (hR sz)] ((bH sz W F Q Y).map λx=>aN x.row)=.ok (aN (hR sz)::(bH sz W F Q Y).map λx=>aN x.row):=Cv;replace E:db [aN (hR sz)] ((iq (bH sz W F Q Y) F (ce ns 6) cut).map λy=>aN y.row)=.ok (aN (hR sz)::(iq (bH sz W F Q Y) F (ce ns 6) cut).map λy=>aN y.row):=E;generalize ((iq (bH sz W F Q Y) F (ce ns 6) cut).map λy=>aN y.row)=Ys at K H E;generalize eI (hR sz::(iq (bH sz W F Q Y) F (ce ns 6) cut).map Rw.row)=T at rd H;generalize ((bH sz W F Q Y).map λx=>aN x.row)=Ls at bl sp K I Cv;generalize Pq sz W F Q Y=t0 at I B;generalize aN (hR sz)=hd at I H V Cv E;have e6:ya (ns,J sz,J W,J F,J Q,J Y,G,G,G,G)=.nx (ns,J sz,J W,J F,J Q,J Y,J Ls,G,G,G):=by simp[ya,bl]
 have C:∀v s,AE (ns,G,G,G,G,G,G,G,G,G)=.rt v s->N6 ns=.ok v s:=λv s h=>by
  ext N6;rw[h];rfl
 by_cases q:ce ns 5%2=1
 · let(s',f,k,rfl):=J8 (u:=λa s=>{s with veq:=J a}) (c:=jY) (λs:S_p9=>∃k,s=(ns,J sz,J W,J F,J Q,J Y,J Ls,k,G,G)) (bN 0 8) (ns,J sz,J W,J F,J Q,J Y,J Ls,G,G,G) (G,rfl) (by
    rintro k s n ⟨k0,rfl⟩;have n:=gn.mp n;let(t,t1,t2):=sp (ce ns (6+k));have t3:=My t2
    exact((ns,J sz,J W,J F,J Q,J Y,J Ls,J k,G,G),.inl (by simp[jY,o (6+k) ∅,t1,t3]),J k,rfl))
   have R:pj (ns,J sz,J W,J F,J Q,J Y,J Ls,G,G,G)=.rt true (ns,J sz,J W,J F,J Q,J Y,J Ls,k,G,G):=by
    ext pj rk;simp[o,q,fQ (lo:=0) (hi:=8) ∅ ∅ ∅ ∅,f,rj]
   refine(_,C true (ns,J sz,J W,J F,J Q,J Y,J Ls,k,G,G) ?_);ext AE;rw[jv e1,jv e2,jv e3,jv e4,jv e5,jv e6];ext az;rw[R]
 · have R:pj (ns,J sz,J W,J F,J Q,J Y,J Ls,G,G,G)=.nx (ns,J sz,J W,J F,J Q,J Y,J Ls,G,G,G):=by simp[pj,o,q]
   have e8:x9 (ns,J sz,J W,J F,J Q,J Y,J Ls,G,G,G)=.nx (ns,J sz,J W,J F,J Q,J Y,J Ls,G,J hd,G):=by simp[x9,ak,eC,cq,V]
   have e9:x8 (ns,J sz,J W,J F,J Q,J Y,J Ls,G,J hd,G)=.nx (ns,J sz,J W,J F,J Q,J Y,J Ls,G,J hd,J T):=by simp[x8,o,ak,K,E,H,-db]
   refine(_,C true (ns,J sz,J W,J F,J Q,J Y,J Ls,G,J hd,J T) ?_);ext AE;rw[jv e1,jv e2,jv e3,jv e4,jv e5,jv e6,jv R,jv e8,jv e9];simp[Ai,rd,B,ak,Cv,I,-db]
def JO(ns:L Int)(a:ns.length<=63):∃T,m_p9 [.scr (ns.map D.int)]=.ok (.bl true) T:=by
 let(s,e):=Ch ns
 have:=Wm ns
 rw[e]at this;exact(_,this)
end K09
namespace K09
open PySem L2
def dL{K:L0}(h:HD.fnO K f q=HD.fnE x q st)(e:st=s2):∃d,Fun K x q s2 f d:=by
 subst e;have b:=HD.fn_keep h;let(oc,n,kV,k,pm,an,m,ct,a,l,c):=HD.fn_of h;have j:HD.dA st=ph st:=by cases st<;>rfl
 have i:HD.dB st=fk st:=by cases st<;>rfl
 have g:HD.dS st=au st:=by cases st<;>rfl
 rw[j,i,g]at l;exact(_,RY l c b)
def W0:Tns:=[]
def S3{K:L0}{h:Heap}{mg:Str->Option Value}(X:K.In h)(Cv:h.Ns mainGlobals mg)(o:mg "law" = J (.ref q))(TO:TabsOf mg h W0 T)(y:HD.obK UM UO VA Wa VG VD Vr K=Tn PySem.Challenge.pw_heraldways_k09_read_or_refused):∃fd:FuncData,(∀(s:Shared) (v:Value),BindsTo s fd ([v],[]) [("script",v)])/\∀base:Heap,K.In base->base.Ns mainGlobals mg->(∀c P,PySem.W.CodeHd h c P->PySem.W.CodeHd base c P)->FnOk PySem.Challenge.rw_heraldways_k09_read_or_refused.prog w K mg base Xu 8 q fd ["script"] (Mi.spT K T):=by
 have b:=congrArg (·.1) y;have g:=congrArg (·.2.1) y;have j:=congrArg (·.2.2.1) y;have d:=congrArg (·.2.2.2.1) y;have i:=congrArg (·.2.2.2.2.1) y;have f:=congrArg (·.2.2.2.2.2) y;clear y;have e:=o.symm.trans (XR X Cv (HD.nth b 25 rfl rfl));cases e;let(d_a9,F_a9):=dL (s2:=Qk) (HD.nth d 0 rfl rfl) rfl;let(d_b9,F_b9):=dL (s2:=Ha) (HD.nth d 1 rfl rfl) rfl;let(d_l9,F_l9):=dL (s2:=P6) (HD.nth d 2 rfl rfl) rfl;let(d_n9,F_n9):=dL (s2:=G2) (HD.nth d 3 rfl rfl) rfl;let(d_q9,F_q9):=dL (s2:=PV) (HD.nth d 4 rfl rfl) rfl;let(d_r9,F_r9):=dL (s2:=PU) (HD.nth d 5 rfl rfl) rfl;let(d_s9,F_s9):=dL (s2:=PR) (HD.nth d 6 rfl rfl) rfl;let(d_u9,F_u9):=dL (s2:=PM) (HD.nth d 7 rfl rfl) rfl;let(d_v9,F_v9):=dL (s2:=Mp) (HD.nth d 8 rfl rfl) rfl;let(d_z9,F_z9):=dL (s2:=G0) (HD.nth d 9 rfl rfl) rfl;let(d_ba9,F_ba9):=dL (s2:=G9) (HD.nth d 10 rfl rfl) rfl;let(d_bc9,F_bc9):=dL (s2:=G7) (HD.nth d 11 rfl rfl) rfl;let(d_be9,F_be9):=dL (s2:=C2) (HD.nth d 12 rfl rfl) rfl;let(d_bg9,F_bg9):=dL (s2:=G4) (HD.nth d 13 rfl rfl) rfl;let(d_bh9,F_bh9):=dL (s2:=y7) (HD.nth d 14 rfl rfl) rfl;let(d_g9,F_g9):=dL (s2:=Qc) (HD.nth d 15 rfl rfl) rfl;let(d_t9,F_t9):=dL (s2:=PP) (HD.nth d 16 rfl rfl) rfl;let(d_w9,F_w9):=dL (s2:=Bl) (HD.nth d 17 rfl rfl) rfl;let(d_x9,F_x9):=dL (s2:=PL) (HD.nth d 18 rfl rfl) rfl;let(d_bb9,F_bb9):=dL (s2:=G8) (HD.nth d 19 rfl rfl) rfl;let(d_bm9,F_bm9):=dL (s2:=CV) (HD.nth d 20 rfl rfl) rfl;let(d_d9,F_d9):=dL (s2:=Qi) (HD.nth d 21 rfl rfl) rfl;let(d_e9,F_e9):=dL (s2:=Qh) (HD.nth d 22 rfl rfl) rfl;let(d_f9,F_f9):=dL (s2:=Qf) (HD.nth d 23 rfl rfl) rfl;let(d_h9,F_h9):=dL (s2:=Qb) (HD.nth d 24 rfl rfl) rfl;let(d_i9,F_i9):=dL (s2:=Qa) (HD.nth d 25 rfl rfl) rfl;let(d_k9,F_k9):=dL (s2:=P7) (HD.nth d 26 rfl rfl) rfl;let(d_o9,F_o9):=dL (s2:=PY) (HD.nth d 27 rfl rfl) rfl;let(d_c9,F_c9):=dL (s2:=Qj) (HD.nth d 28 rfl rfl) rfl;let(d_j9,F_j9):=dL (s2:=P8) (HD.nth d 29 rfl rfl) rfl;let(d_m9,F_m9):=dL (s2:=P5) (HD.nth d 30 rfl rfl) rfl;let(d_bd9,F_bd9):=dL (s2:=G6) (HD.nth d 31 rfl rfl) rfl;let(d_bj9,F_bj9):=dL (s2:=CY) (HD.nth d 32 rfl rfl) rfl;let(d_bl9,F_bl9):=dL (s2:=CW) (HD.nth d 33 rfl rfl) rfl;let(d_bi9,F_bi9):=dL (s2:=CZ) (HD.nth d 34 rfl rfl) rfl;let(d_bk9,F_bk9):=dL (s2:=y0) (HD.nth d 35 rfl rfl) rfl;let(d_bf9,F_bf9):=dL (s2:=G5) (HD.nth d 36 rfl rfl) rfl;let(d_y9,F_y9):=dL (s2:=PH) (HD.nth d 37 rfl rfl) rfl;let(d_p9,F_p9):=dL (s2:=PX) (HD.nth d 38 rfl rfl) rfl;let(l,n,k,mk_Guild,m):=HD.cls_of (HD.nth j 14 rfl rfl)
 have C:∀(s:Shared) (v:Value),BindsTo s d_p9 ([v],[]) [("script",v)]:=by
  let(oc,I0,kV,D,pm,an,F,ct,r,rfl,lk,B):=F_p9.ex;exact λs v=>.of_eq rfl
 refine(d_p9,C,λbase _ _ B1=>?_)
 have I:Txt K mg (228,31,44,56,68,80,103,d_a9,190,d_b9,110,d_l9,178,d_n9,352,d_q9,345,d_r9,295,d_s9,314,d_u9,333,d_v9,300,d_z9,328,d_ba9,307,d_bc9,288,d_be9,89,d_bg9,271,d_bh9,211,d_g9,321,d_t9,338,d_w9,366,d_x9,359,d_bb9,259,d_bm9,145,d_d9,152,d_e9,117,d_f9,225,d_h9,218,d_i9,166,d_k9,278,d_o9,131,d_c9,159,d_j9,173,d_m9,249,d_bd9,254,d_bj9,242,d_bl9,237,d_bi9,283,d_bk9,266,d_bf9,373,d_y9,380,d_p9) base:={
  cl_Guild:=(l,n,k,HD.nth g 14 rfl rfl)
  mgC_Guild:=XR X Cv (HD.nth b 0 rfl rfl)
  mk_Guild:=(mk_Guild,HD.nth g 0 rfl rfl,HD.nth j 0 rfl rfl,m)
  n_house_count:=HD.nth g 15 rfl rfl
  n_ways:=HD.nth g 16 rfl rfl
  n_likings:=HD.nth g 17 rfl rfl
  n_shuns:=HD.nth g 18 rfl rfl
  n_wish_ranks:=HD.nth g 19 rfl rfl
  mgC_GuildError:=XR X Cv (HD.nth b 44 rfl rfl)
  ek_GuildError:=(Yd.mp (YI (HD.nth i 0 rfl rfl)).1).1
  xa_GuildError:=(Yd.mp (YI (HD.nth i 0 rfl rfl)).1).2
  mgC_NoHouse:=XR X Cv (HD.nth b 45 rfl rfl)
  ek_NoHouse:=(Yd.mp (YI (HD.nth i 1 rfl rfl)).1).1
  xa_NoHouse:=(Yd.mp (YI (HD.nth i 1 rfl rfl)).1).2
  mgC_WayThere:=XR X Cv (HD.nth b 46 rfl rfl)
  ek_WayThere:=(Yd.mp (YI (HD.nth i 2 rfl rfl)).1).1
  xa_WayThere:=(Yd.mp (YI (HD.nth i 2 rfl rfl)).1).2
  mgC_NoRoad:=XR X Cv (HD.nth b 47 rfl rfl)
  ek_NoRoad:=(Yd.mp (YI (HD.nth i 3 rfl rfl)).1).1
  xa_NoRoad:=(Yd.mp (YI (HD.nth i 3 rfl rfl)).1).2
  mgC_BadNote:=XR X Cv (HD.nth b 48 rfl rfl)
  ek_BadNote:=(Yd.mp (YI (HD.nth i 4 rfl rfl)).1).1
  xa_BadNote:=(Yd.mp (YI (HD.nth i 4 rfl rfl)).1).2
  sb_GuildError_GuildError:=by rw[show jb K 31=_ from(YI (HD.nth i 0 rfl rfl)).2];rfl
  sb_NoHouse_GuildError:=by rw[show jb K 44=_ from(YI (HD.nth i 1 rfl rfl)).2];rfl
  sb_WayThere_GuildError:=by rw[show jb K 56=_ from(YI (HD.nth i 2 rfl rfl)).2];rfl
  sb_NoRoad_GuildError:=by rw[show jb K 68=_ from(YI (HD.nth i 3 rfl rfl)).2];rfl
  sb_BadNote_GuildError:=by rw[show jb K 80=_ from(YI (HD.nth i 4 rfl rfl)).2];rfl
  kt_GuildError_BadNote:=HD.nth f 0 rfl rfl
  kt_GuildError_ValueError:=HD.nth f 1 rfl rfl
  kt_GuildError_NoHouse:=HD.nth f 2 rfl rfl
  kt_GuildError_WayThere:=HD.nth f 3 rfl rfl
  kt_GuildError_NoRoad:=HD.nth f 4 rfl rfl
  kt_NoHouse_BadNote:=HD.nth f 5 rfl rfl
  kt_NoHouse_ValueError:=HD.nth f 6 rfl rfl
  kt_NoHouse_NoHouse:=HD.nth f 7 rfl rfl
  kt_NoHouse_WayThere:=HD.nth f 8 rfl rfl
  kt_NoHouse_NoRoad:=HD.nth f 9 rfl rfl
  kt_WayThere_BadNote:=HD.nth f 10 rfl rfl
  kt_WayThere_ValueError:=HD.nth f 11 rfl rfl
  kt_WayThere_NoHouse:=HD.nth f 12 rfl rfl
  kt_WayThere_WayThere:=HD.nth f 13 rfl rfl
  kt_WayThere_NoRoad:=HD.nth f 14 rfl rfl
  kt_NoRoad_BadNote:=HD.nth f 15 rfl rfl
  kt_NoRoad_ValueError:=HD.nth f 16 rfl rfl
  kt_NoRoad_NoHouse:=HD.nth f 17 rfl rfl
  kt_NoRoad_WayThere:=HD.nth f 18 rfl rfl
  kt_NoRoad_NoRoad:=HD.nth f 19 rfl rfl
  kt_BadNote_BadNote:=HD.nth f 20 rfl rfl
  kt_BadNote_ValueError:=HD.nth f 21 rfl rfl
  kt_BadNote_NoHouse:=HD.nth f 22 rfl rfl
  kt_BadNote_WayThere:=HD.nth f 23 rfl rfl
  kt_BadNote_NoRoad:=HD.nth f 24 rfl rfl
  F_a9:=F_a9
  b_a9:=F_a9.binds λ_ _ _ _ _ _=>L2.ke λ_ _=>rfl
  F_b9:=F_b9
  b_b9:=F_b9.binds λ_ _ _ _ _ _=>L2.oU λ_ _ _=>rfl
  me_b9:=(HD.nth g 1 rfl rfl,HD.nth j 1 rfl rfl,F_b9.kp)
  F_l9:=F_l9
  b_l9:=F_l9.binds λ_ _ _ _ _ _=>L2.ie λ_=>rfl
  me_l9:=(HD.nth g 2 rfl rfl,HD.nth j 2 rfl rfl,F_l9.kp)
  F_n9:=F_n9
  b_n9:=F_n9.binds λ_ _ _ _ _ _=>L2.ie λ_=>rfl
  me_n9:=(HD.nth g 3 rfl rfl,HD.nth j 3 rfl rfl,F_n9.kp)
  F_q9:=F_q9
  b_q9:=F_q9.binds λ_ _ _ _ _ _=>L2.ie λ_=>rfl
  m_q9:=XR X Cv (HD.nth b 1 rfl rfl)
  F_r9:=F_r9
  b_r9:=F_r9.binds λ_ _ _ _ _ _=>L2.ie λ_=>rfl
  m_r9:=XR X Cv (HD.nth b 2 rfl rfl)
  F_s9:=F_s9
  b_s9:=F_s9.binds λ_ _ _ _ _ _=>L2.ke λ_ _=>rfl
  m_s9:=XR X Cv (HD.nth b 3 rfl rfl)
  F_u9:=F_u9
  b_u9:=F_u9.binds λ_ _ _ _ _ _=>L2.ke λ_ _=>rfl
  m_u9:=XR X Cv (HD.nth b 4 rfl rfl)
  F_v9:=F_v9
  b_v9:=F_v9.binds λ_ _ _ _ _ _=>L2.ie λ_=>rfl
  m_v9:=XR X Cv (HD.nth b 5 rfl rfl)
  F_z9:=F_z9
  b_z9:=F_z9.binds λ_ _ _ _ _ _=>L2.oU λ_ _ _=>rfl
  m_z9:=XR X Cv (HD.nth b 6 rfl rfl)
  F_ba9:=F_ba9
  b_ba9:=F_ba9.binds λ_ _ _ _ _ _=>L2.ke λ_ _=>rfl
  m_ba9:=XR X Cv (HD.nth b 7 rfl rfl)
  F_bc9:=F_bc9
  b_bc9:=F_bc9.binds λ_ _ _ _ _ _=>L2.ke λ_ _=>rfl
  m_bc9:=XR X Cv (HD.nth b 8 rfl rfl)
  F_be9:=F_be9
  b_be9:=F_be9.binds λ_ _ _ _ _ _=>L2.ie λ_=>rfl
  m_be9:=XR X Cv (HD.nth b 9 rfl rfl)
  F_bg9:=F_bg9
  b_bg9:=F_bg9.binds λ_ _ _ _ _ _=>L2.ke λ_ _=>rfl
  m_bg9:=XR X Cv (HD.nth b 10 rfl rfl)
  F_bh9:=F_bh9
  b_bh9:=F_bh9.binds λ_ _ _ _ _ _=>L2.ie λ_=>rfl
  m_bh9:=XR X Cv (HD.nth b 11 rfl rfl)
  F_g9:=F_g9
  b_g9:=F_g9.binds λ_ _ _ _ _ _=>L2.ke λ_ _=>rfl
  me_g9:=(HD.nth g 4 rfl rfl,HD.nth j 4 rfl rfl,F_g9.kp)
  F_t9:=F_t9
  b_t9:=F_t9.binds λ_ _ _ _ _ _=>L2.ke λ_ _=>rfl
  m_t9:=XR X Cv (HD.nth b 12 rfl rfl)
  F_w9:=F_w9
  b_w9:=F_w9.binds λ_ _ _ _ _ _=>L2.JF λ_ _ _ _=>rfl
  m_w9:=XR X Cv (HD.nth b 13 rfl rfl)
  F_x9:=F_x9
  b_x9:=F_x9.binds λ_ _ _ _ _ _=>L2.oU λ_ _ _=>rfl
  m_x9:=XR X Cv (HD.nth b 14 rfl rfl)
  F_bb9:=F_bb9
  b_bb9:=F_bb9.binds λ_ _ _ _ _ _=>L2.JF λ_ _ _ _=>rfl
  m_bb9:=XR X Cv (HD.nth b 15 rfl rfl)
  F_bm9:=F_bm9
  b_bm9:=F_bm9.binds λ_ _ _ _ _ _=>L2.ie λ_=>rfl
  m_bm9:=XR X Cv (HD.nth b 16 rfl rfl)
  F_d9:=F_d9
  b_d9:=F_d9.binds λ_ _ _ _ _ _=>L2.JF λ_ _ _ _=>rfl
  me_d9:=(HD.nth g 5 rfl rfl,HD.nth j 5 rfl rfl,F_d9.kp)
  F_e9:=F_e9
  b_e9:=F_e9.binds λ_ _ _ _ _ _=>L2.oU λ_ _ _=>rfl
  me_e9:=(HD.nth g 6 rfl rfl,HD.nth j 6 rfl rfl,F_e9.kp)
  F_f9:=F_f9
  b_f9:=F_f9.binds λ_ _ _ _ _ _=>L2.ke λ_ _=>rfl
  me_f9:=(HD.nth g 7 rfl rfl,HD.nth j 7 rfl rfl,F_f9.kp)
  F_h9:=F_h9
  b_h9:=F_h9.binds λ_ _ _ _ _ _=>L2.ke λ_ _=>rfl
  me_h9:=(HD.nth g 8 rfl rfl,HD.nth j 8 rfl rfl,F_h9.kp)
  F_i9:=F_i9
  b_i9:=F_i9.binds λ_ _ _ _ _ _=>L2.oU λ_ _ _=>rfl
  me_i9:=(HD.nth g 9 rfl rfl,HD.nth j 9 rfl rfl,F_i9.kp)
  F_k9:=F_k9
  b_k9:=F_k9.binds λ_ _ _ _ _ _=>L2.ke λ_ _=>rfl
  me_k9:=(HD.nth g 10 rfl rfl,HD.nth j 10 rfl rfl,F_k9.kp)
  F_o9:=F_o9
  b_o9:=F_o9.binds λ_ _ _ _ _ _=>L2.ie λ_=>rfl
  m_o9:=XR X Cv (HD.nth b 17 rfl rfl)
  F_c9:=F_c9
  b_c9:=F_c9.binds λ_ _ _ _ _ _=>L2.oU λ_ _ _=>rfl
  me_c9:=(HD.nth g 11 rfl rfl,HD.nth j 11 rfl rfl,F_c9.kp)
  F_j9:=F_j9
  b_j9:=F_j9.binds λ_ _ _ _ _ _=>L2.oU λ_ _ _=>rfl
  me_j9:=(HD.nth g 12 rfl rfl,HD.nth j 12 rfl rfl,F_j9.kp)
  F_m9:=F_m9
  b_m9:=F_m9.binds λ_ _ _ _ _ _=>L2.oU λ_ _ _=>rfl
  me_m9:=(HD.nth g 13 rfl rfl,HD.nth j 13 rfl rfl,F_m9.kp)
  F_bd9:=F_bd9
  b_bd9:=F_bd9.binds λ_ _ _ _ _ _=>L2.ie λ_=>rfl
  m_bd9:=XR X Cv (HD.nth b 18 rfl rfl)
  F_bj9:=F_bj9
  b_bj9:=F_bj9.binds λ_ _ _ _ _ _=>L2.ie λ_=>rfl
  m_bj9:=XR X Cv (HD.nth b 19 rfl rfl)
  F_bl9:=F_bl9
  b_bl9:=F_bl9.binds λ_ _ _ _ _ _=>L2.ie λ_=>rfl
  m_bl9:=XR X Cv (HD.nth b 20 rfl rfl)
  F_bi9:=F_bi9
  b_bi9:=F_bi9.binds λ_ _ _ _ _ _=>L2.ie λ_=>rfl
  m_bi9:=XR X Cv (HD.nth b 21 rfl rfl)
  F_bk9:=F_bk9
  b_bk9:=F_bk9.binds λ_ _ _ _ _ _=>L2.ke λ_ _=>rfl
  m_bk9:=XR X Cv (HD.nth b 22 rfl rfl)
  F_bf9:=F_bf9
  b_bf9:=F_bf9.binds λ_ _ _ _ _ _=>L2.ie λ_=>rfl
  m_bf9:=XR X Cv (HD.nth b 23 rfl rfl)
  F_y9:=F_y9
  b_y9:=F_y9.binds λ_ _ _ _ _ _=>L2.ie λ_=>rfl
  m_y9:=XR X Cv (HD.nth b 24 rfl rfl)
  F_p9:=F_p9
  b_p9:=F_p9.binds λ_ _ _ _ _ _=>L2.ie λ_=>rfl
  m_p9:=XR X Cv (HD.nth b 25 rfl rfl)
  g_SEAT:=(_,XR X Cv (HD.nth b 26 rfl rfl))
  g_MOST_HOUSES:=(_,XR X Cv (HD.nth b 27 rfl rfl))
  g_FIGURES:=(_,XR X Cv (HD.nth b 28 rfl rfl))
  g_MOST_FIGURES:=(_,XR X Cv (HD.nth b 29 rfl rfl))
  z_len:=Yh X Cv (HD.nth b 30 rfl rfl)
  z_range:=Yh X Cv (HD.nth b 31 rfl rfl)
  z_min:=Yh X Cv (HD.nth b 32 rfl rfl)
  z_max:=Yh X Cv (HD.nth b 33 rfl rfl)
  z_set:=Yh X Cv (HD.nth b 34 rfl rfl)
  z_list:=Yh X Cv (HD.nth b 35 rfl rfl)
  z_tuple:=Yh X Cv (HD.nth b 36 rfl rfl)
  z_isinstance:=Yh X Cv (HD.nth b 37 rfl rfl)
  z_bool:=Yh X Cv (HD.nth b 38 rfl rfl)
  z_int:=Yh X Cv (HD.nth b 39 rfl rfl)
  z_str:=Yh X Cv (HD.nth b 40 rfl rfl)
  z_sorted:=Yh X Cv (HD.nth b 41 rfl rfl)
  z_any:=Yh X Cv (HD.nth b 42 rfl rfl)
  z_ValueError:=Yh X Cv (HD.nth b 43 rfl rfl)
 }
 refine(Uu I).calm.imp λvs H Q E u=>?_;let(a,xs,t,x,z,M,A):=u;refine Mi.RH JO t x z (λp hp=>?_) A;cases hp
theorem WZ{K:L0}{d:DefRec}(e:d.params.defaults=[])(b:d.name = "law")(y:HD.obK UM UO VA Wa VG VD Vr K=Tn PySem.Challenge.pw_heraldways_k09_read_or_refused):PySem.W.WalkO q loose XP (λ_ h=>K.In h) PySem.Challenge.rw_heraldways_k09_read_or_refused.row.toRowW d [] (λf vs=>PySem.call f vs):=
 L2.LS (l:=PySem.Challenge.rw_heraldways_k09_read_or_refused) (K:=λ_=>K) (n:=63) (k:=8) (x := "script") (CX:=λ_=>Xu) (sp:=λ_ T=>Mi.spT K T) W0 rfl () e (rfl,by decide,by decide) (λ_ _ Y=>Y) (λ_ h=>absurd rfl h) (λ_ h=>(nomatch h)) (by ext Tns.ok W0;decide) (λw mg j h T X Cv c TO=>S3 X Cv (b▸c) TO y) (λw T H a ns g hO i=>(a,ns,rfl,Mi.Pu hO i,g,Mi.Tr hO,λ_=>rfl)) λ_ _ _ _ _ z=>z
end K09
open PySem PySem.W PyProof.Rows
set_option maxRecDepth 100000 in
set_option maxHeartbeats 0 in
theorem PySem.Challenge.cw_heraldways_k09_read_or_refused_holds : PySem.Challenge.rw_heraldways_k09_read_or_refused.Holds := by
 refine K09.hd0 λsaid=>?_;refine holds_openX (q:=K09.qP PySem.Challenge.pw_heraldways_k09_read_or_refused) (loose:=[]) (Xt:=λs=>xlAt (K09.qP PySem.Challenge.pw_heraldways_k09_read_or_refused) [] s&&recOk (RowW.records PySem.Challenge.rw_heraldways_k09_read_or_refused.row.toRowW) s) (XP:=XL (K09.qP PySem.Challenge.pw_heraldways_k09_read_or_refused) []) (Yf:=HD.ob K09.Xj K09.UM K09.UO K09.VA K09.Wa K09.VG K09.VD K09.Vr) (Ya:=λ_=>K09.Tn PySem.Challenge.pw_heraldways_k09_read_or_refused) (N:=5510) (λw=>HD.two (K09.Vq w) (K09.Vp w)) (λs e=>xl_of s (Yd.mp e).1) XL.keeps (by rfl) (by rfl) (by rfl) (λs e=>recFacts_of (Yd.mp e).2) (by rfl) said (by decide +kernel) (rfl,rfl,rfl,rfl,rfl,by decide +kernel) ?hw (HD.walkX λK y=>K09.WZ rfl rfl y)
 case hw=>w_witness2
