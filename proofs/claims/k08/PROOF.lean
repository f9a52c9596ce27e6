import PyProof.Rows.All
import Wide.All
import Wide.FinOn
import OpenK.XOpen
import OpenK.KWalk
import OpenK.KMake
import OpenK.KOwn
import OpenK.Peek
import OpenK.KCall
import OpenK.KGet
import KE.KIsAll
import KE.KBytesAny
import KE.BytesK
import KE.KxBytes
import KE.KDictOf
import KE.KItem
import Lean
import PyProof.EqAt
import PyProof.EqKinds
import PyProof.TupleCall
import KE.KLam
import KE.KMinKey
import KE.KDictList
import KE.KRevIter
import PyProof.WalksMore
import PyProof.Rows.SetFrom
import KE.KSortTup
import KE.KDictSum
import PyProof.DictUpdate
import PyProof.FString
import PyProof.StrCalls
import PyProof.StrCalls2
import PyProof.StrCalls3
import PyProof.SliceStr2
import KE.KIntText
import PyProof.StrWalks
import PySem.Challenge.RW_heraldways_k08_a_guild_written
set_option Elab.async false
set_option linter.all false
set_option maxRecDepth 100000
abbrev L0:=PySem.W.Frag
abbrev L1:=List (PySem.Addr×PySem.Obj)
abbrev L3:=PySem.Value->PySem.Shared->Prop
abbrev P1:=List (Int×Int)
local macro_rules|`(tactic|ac_rfl)=>`(tactic|(constructor<;>first|rfl|decide +kernel))
def on:=@if_pos
def VM:=@if_neg
def VN:=@List.length_map
def VO:=@PySem.wpAny_bind
def VP:=@List.mem_cons_self
def VQ:=@List.map_cons
def VR:=@List.mem_cons_of_mem
def VS:=@PySem.Heap.get?_push_of_some
def VT:=@List.length_append
def VU:=@List.length_cons
def VV:=@List.mem_append_right
def VW:=@Nat.le_refl
def VX:=@PySem.Heap.lt_size
def VY:=@PySem.wpAny_pure
def VZ:=@List.size_toArray
def V0:=@Bool.false_ne_true
def V1:=@List.getElem?_eq_getElem
def V2:=@PySem.W.mg_of
def V3:=@PySem.Heap.get?_push_size
def V4:=@Nat.le_trans
def V5:=@Int.emod_lt_of_pos
def V6:=@List.getD_eq_getElem?_getD
def V7:=@PySem.Str.length_append
def V8:=@PySem.F.plainAttrs_list
def V9:=@List.mem_append_left
def Wa:=@PySem.PassesOwn.never
def Wb:=@Int.emod_nonneg
def Wc:=@Nat.ne_of_lt
def Wd:=@List.getElem?_eq_none
def We:=@decide_eq_false
def Wg:=@Nat.lt_of_lt_of_le
def Wh:=@Option.some.inj
def Wi:=@PySem.Heap.get?_update_other
def Wj:=@List.getElem?_map
def Wk:=@List.map_map
def Wl:=@PySem.W.mg_none_of
def Wm:=@decide_eq_true
def Wn:=@Array.getD_eq_getD_getElem?
def Wo:=@List.length_filter_le
def Wp:=@List.append_nil
def Wq:=@List.map_append
def Wr:=@Array.length_toList
def Ws:=@List.lookup_cons
def Wt:=@List.eraseIdx_cons_succ
def Wu:=@Array.getElem?_eq_getElem
def Wv:=@List.map_nil
def Ww:=@PySem.F.plainAttrs_str
def Wx:=@PySem.StrLaws.glued_eq_join
def Wy:=@of_decide_eq_true
def Wz:=@List.nodup_nil
def WA:=@Nat.lt_of_le_of_lt
def WB:=@PySem.Around.under_plainId
def WC:=@Nat.lt_irrefl
def WD:=@PySem.W.kia_one
def WE:=@PySem.F.plain_min_loop
def WF:=@PySem.F.plain_max_loop
def WG:=@List.filter_cons
def WH:=@List.append_assoc
def WI:=@Array.getElem?_toList
def WJ:=@PySem.Heap.get?_update_self
def WK:=@PySem.F.slot_list_append
def WL:=@PySem.F.type_list_append
def WM:=@PySem.F.slot_list_extend
def WN:=@PySem.F.type_list_extend
def WO:=@Nat.le_of_lt
def WP:=@Nat.zero_le
def WQ:=@PySem.wpAny_truthy_bool
def WR:=@PySem.wpAny_tryCatch
def WS:=@List.find?_cons
def WT:=@List.length_set
def WU:=@beq_self_eq_true
def WV:=@decide_eq_true_iff
def WW:=@PySem.plainId_quiet
def WX:=@PySem.wpAny_typeNameOfWhole_keyiter
def WY:=@PySem.codeAny_builtin
def WZ:=@PySem.mem_of_lookup
def W1:=@List.map_congr_left
def W3:=@List.mem_cons
def W4:=@Bool.false_eq_true
def W5:=@PySem.wpAny_passesOwn
def W6:=@List.mem_of_getElem?
def W7:=@PySem.wpAny_letGo
def W8:=@PySem.wpAny_mono
def W9:=@PySem.wpAny_comprehension_free
def Xa:=@PySem.wpAny_holding
def Xb:=@PySem.wpAny_typeNameOf_keyiter
def Xc:=@List.eraseIdxIfInBounds_toArray
def Xd:=@PySem.Heap.SameBut.update
def Xe:=@Bool.and_eq_true
def Xf:=@List.getElem_mem
def Xg:=@PySem.sizeLine_eq
def Xh:=@PySem.wpAny_Call_Name_kw
def Xi:=@PySem.tupleKind_room_in1
def Xj:=@List.mem_singleton
def Xk:=@Bool.eq_iff_iff
def Xl:=@Option.map_some
def Xm:=@PySem.wpAny_updateSeq
def Xn:=@PySem.Paired.length
def Xo:=@PySem.F.slot_str_join
def Xp:=@PySem.F.type_str_join
def Xq:=@PyProof.Rows.callWith_type1
def Xr:=@PySem.Heap.size_push
def Xs:=@List.getElem?_append_right
def Xu:=@PySem.wpAny_seqItems
def Xv:=@Ne.symm
def Xw:=@Nat.lt_succ_self
def Xx:=@List.not_mem_nil
def Xy:=@List.getElem?_append_left
def Xz:=@List.getD_cons_succ
def XA:=@List.filterMap_cons
def XB:=@PySem.wpAny_execs_nil
def XC:=@List.length_nil
def XD:=@List.mem_append
def XE:=@PySem.Calls.spliced_cons
def XF:=@List.filter_append
def XG:=@List.getElem?_replicate
def XH:=@List.getElem?_cons_succ
def XI:=@PySem.wpAny_pyIter_list
def XJ:=@PySem.Calls.callWith_builtin
def XM:=@if_false
def XN:=@Nat.lt_succ_of_lt
def XO:=@PySem.F.entry_min_loop
def XQ:=@PySem.wpAny_newObj_type
def XR:=@PySem.F.entry_max_loop
def XS:=@List.length_range
def XT:=@Nat.succ.inj
def XU:=@PySem.F.slot_dict_get
def XV:=@List.length_singleton
def XW:=@PySem.call_meets
def XX:=@List.cons_append
def XY:=@List.any_cons
def XZ:=@PySem.Calls.evalArgs_plain
def X0:=@PySem.Obj.data_mapDictKeys
def X3:=@PySem.StrLaws.strSliceIndices_plain
def X4:=@PySem.W.plainGet_of
def X5:=@List.getElem_of_mem
def X6:=@List.getElem?_range
def X7:=@ne_true_of_eq_false
def X9:=@PyProof.Rows.signs_ofString
def Yb:=@PySem.Calls.Name_function_global
def Yc:=@Int.fdiv_eq_ediv_of_nonneg
def Yd:=@PySem.W.callWith_K
def Ye:=@PySem.typeIs_str
def Yg:=@List.zip_cons_cons
def Yh:=@PySem.F.args_str_split_2
def Yi:=@List.perm_ext_iff_of_nodup
def Yj:=@PySem.Calls.spliced_nil
def Yk:=@Option.isSome_map
def Yl:=@List.ext_getElem?
def Ym:=@PySem.wpAny_dictEntries
def Yn:=@PySem.F.entry_str_split
def Yo:=@List.Pairwise.map
def Yp:=@PySem.wpAny_standAt
def Yq:=@PySem.F.slot_list_remove
def Yr:=@List.set_eq_of_length_le
def Ys:=@PySem.F.args_dict_get_3
def Yt:=@PySem.F.plainAttrs_dict
def Yu:=@List.drop_length
def Yv:=@List.all_eq_true
def Yw:=@PySem.F.slot_str_split
def Yx:=@List.getElem?_set_self
def Yy:=@PySem.codeAny_mono
def Yz:=@PySem.W.cellsFrom_some
def YA:=@PySem.F.entry_dict_get
def YD:=@Array.getElem?_eq_none
def YF:=@List.range_succ_eq_map
def YG:=@decide_false
def YH:=@PySem.F.slot_str_split
def YI:=@PySem.F.type_str_split
def YJ:=@Array.Perm.refl
def YL:=@PySem.W.methodCall_KW
def YN:=@List.getElem?_toArray
def YQ:=@List.length_replicate
def YR:=@PySem.F.slot_dict_len
def YS:=@List.Perm.append_left
def YU:=@List.getElem?_set_ne
def YV:=@PySem.W.KIN.val_back
def YW:=@Nat.mul_le_mul_right
def YY:=@List.all_cons
def Y3:=@Nat.ne_of_gt
def Y7:=@if_true
def Zc:=@List.all_map
def Zf:=@or_false
namespace HD
open PySem PySem.W PyProof.Rows
def top(p:Program)(i:Nat):Stmt:=p.main.body.getD i (.Pass ⟨0,0,0,0⟩)
def iC(s:Stmt)(j:Nat):Stmt:=match s with
 |.ClassDef _ _ _ body _ _ _ _ _ _ _=>body.getD j (.Pass ⟨0,0,0,0⟩)
 |_=> .Pass ⟨0,0,0,0⟩
def dA(s:Stmt):Arguments:=match s with
 |.FunctionDef _ a _ _ _ _ _ _ _ _=>a
 |_=>{posonlyargs:=[],args:=[],vararg:=none,kwonlyargs:=[],kw_defaults:=[],kwarg:=none,defaults:=[]}
def dB(s:Stmt):List Stmt:=match s with
 |.FunctionDef _ _ b _ _ _ _ _ _ _=>b
 |_=>[]
def dS(s:Stmt):Scope:=match s with
 |.FunctionDef _ _ _ _ _ _ sc _ _ _=>sc
 |_=>{kind:= .function,names:=[],isGenerator:=false,isCoroutine:=false}
def LU(b:List Addr)(h:Heap):Frag:=b.filterMap λa=>(h.get? a).map λo=>(a,o)
theorem LS(c:List Addr)(h:Heap):(LU c h).In h:=by
 intro a o e
 induction c with
 |nil=>cases e
 |cons b c d=>
   unfold LU at e;rw[List.filterMap_cons] at e;cases q:h.get? b with
   |none=>
     rw[q] at e;exact d e
   |some x=>
     rw[q] at e;replace e:List.lookup a ((b,x)::LU c h)=some o:=e;rw[Ws] at e;by_cases z:a=b
     ·subst z;rw[WU a] at e;cases e;exact q
     ·rw[beq_eq_false_iff_ne.mpr z] at e;exact d e
abbrev VI:=Str×Str×Arguments×FuncBody×Scope×Addr×List (Str×Addr)×Value×Addr×Bool
def fnO(K:Frag)(f:Addr)(q:Str):Option VI:=match K.lookup f with
 |some ⟨_,_,.func fd,_⟩=>some (fd.name,fd.qualname,fd.params,fd.body,fd.scope,fd.globals,fd.closure,fd.defaults,fd.builtins,codeIn K fd.code q)
 |_=>none
def fnE(x q:Str)(st:Stmt):Option VI:=some (x,q,dA st,.stmts (dB st),dS st,mainGlobals,[],.none,builtinsNs,true)
theorem fn_of{K:Frag}{f:Addr}{x q:Str}{st:Stmt}(h:fnO K f q=fnE x q st):∃ (oc:Value) (c:Option Addr) (kV d pm:Value) (an:Option Addr) (b ct:Value) (a:Array (Option Value)),
 K.lookup f=some ⟨oc,c,.func (fnOf x q (dA st) (dB st) (dS st) .none kV d pm an b ct),a⟩/\codeIn K b q=true:=by
 unfold fnO at h;split at h
 · next oc c fd a e=>
   obtain⟨n,k,pr,bd,sc,l,cl,m,g,j,pm,an,cd,ct,o⟩:=fd;unfold fnE at h;simp only[Option.some.injEq,Prod.mk.injEq] at h;obtain⟨rfl,rfl,rfl,rfl,rfl,rfl,rfl,rfl,rfl,i⟩:=h;exact⟨oc,c,g,j,pm,an,cd,ct,a,e,i⟩
 ·exact nomatch h
theorem fn_keep{K:Frag}{f:Addr}{x q:Str}{st:Stmt}(h:fnO K f q=fnE x q st):keepIn K (.ref f)=true:=by
 obtain⟨oc,d,kV,b,pm,an,c,ct,a,e,_⟩:=fn_of h;show(match K.lookup f with|some ⟨_,_,.func _,_⟩=>true|some ⟨_,_,.cls _,_⟩=>specialIn K (.ref f) "__call__" == some (some (.builtin "type.__call__"))|_=>false)=true;rw[e]
def S6(K:Frag)(C:Addr):List Value:=match K.lookup C with
 |some ⟨_,_,.cls cd,_⟩=>cd.mro
 |_=>[]
def T2(K:Frag)(C:Addr):Bool:=excIn K C [.type "ValueError",.type "Exception",.type "BaseException",.type "object"] "ValueError.__new__"
def M3(K:Frag)(D:Addr):Bool:=findIn K (.ref D) "__getattribute__" == some (some (.builtin "BaseException.__getattribute__"))&&(findIn K (.ref D) "__getattr__" == some none&&(findIn K (.ref D) "__class__" == some (some (.builtin "object.__class__")) &&
 (specialIn K (.builtin "object.__class__") "__get__" == some (some (.builtin "getset_descriptor.__get__"))&&(takesIn K (.builtin "object.__class__")==some true&&(mroIn K D (.type "object")==some true&&(mroIn K D (.type "BaseException")==some true&&(clsIn K D).isSome))))))
abbrev Ob:=List (Option (Option Value))×List (Option (Option Value))×List Bool×List (Option VI)×List (Bool×List Value)×List (Option Bool)
def cls(K:Frag)(C:Addr):Bool:=plainGet K C Str.empty&&(hasDictIn K C&&(plainOver K C&&(makesIn K C&&keepIn K (.ref C))))
def obK(ns:List Str)(T:List (Addr×Str))(fs a:List Addr)(ds:List (Addr×Str))(es:List Addr)(ks:List (Addr×Value))(K:Frag):Ob:=
 (ns.map (nsIn K mainGlobals),T.map (λp=>findIn K (.ref p.1) p.2),(fs.map λf=>isFn K (.ref f))++a.map (cls K),ds.map (λp=>fnO K p.1 p.2),es.map (λC=>(T2 K C&&M3 K C,S6 K C)),ks.map λp=>kitOne K (.ref p.1) p.2)
def ob(n:List Addr)(ns:List Str)(T:List (Addr×Str))(fs a:List Addr)(ds:List (Addr×Str))(es:List Addr)(ks:List (Addr×Value))(s:Shared):Ob:=obK ns T fs a ds es ks (LU n s.heap)
theorem two{W X O:Type}{o:Option W}{f:W->X}{g:W->O}{a:X}{b:O}(c:o.map f=some a)(d:o.map g=some b):o.map (λs=>(f s,g s))=some (a,b):=by
 cases o with
 |none=>cases c
 |some s=>cases c; cases d; rfl
theorem nth{W:Type}{l m:List W}(h:l=m)(i:Nat){a b:W}(d:l[i]?=some a)(c:m[i]?=some b):a=b:=by
 subst h;rw[d] at c;exact Wh c
theorem cls_of{K:Frag}{C:Addr}(h:cls K C=true):plainGet K C Str.empty=true/\hasDictIn K C=true/\plainOver K C=true/\makesIn K C=true/\keepIn K (.ref C)=true:=by
 unfold cls at h;simpa only[Bool.and_eq_true] using h
theorem walkX{q:Program}{loose:List Str}{XP:(Str->Option Value)->Heap->Prop}{n:List Addr}{ns:List Str}{T:List (Addr×Str)}{fs g:List Addr}{ds:List (Addr×Str)}{es:List Addr}{ks:List (Addr×Value)}{E:Ob}{r:RowW}{d:DefRec}{c:List (Str×Expr)}{run:Value->List Value->Sem Value}
 (W:∀ K:Frag,obK ns T fs g ds es ks K=E->WalkO q loose XP (λ_ h=>K.In h) r d c run):WalkX q loose XP (ob n ns T fs g ds es ks) (λ_=>E) r d c run:=
 λw j i mg k G y a o pm cd e v kV u t s p m l args b f L C B A z x=>W _ y w j i mg k G ((LS _ _).keeps L.keeps) a o pm cd e v kV u t s p m l args b f C B A z x
end HD
set_option maxHeartbeats 4000000
namespace K08
open PySem PySem.W PyProof.Rows
theorem hd0(h:PySem.Challenge.rw_heraldways_k08_a_guild_written.row.wellSaid=true->PySem.Challenge.rw_heraldways_k08_a_guild_written.row.Holds):PySem.Challenge.rw_heraldways_k08_a_guild_written.Holds:=by
 w_on; o_law; exact h (by assumption)
abbrev qP(p:Program):Program:=view p [0,2,3,4,5,6,7,9,10,11,12,14,15,16,17,18,19,20,21,22,23,24,25,27,28,29,30,31,32,33,34,35,36,37,38,39,40,41,42,43]
def asL:List Addr:=List.range 408
def U5:List Str := "Guild" :: "_law_cell_at" :: "_law_fond_by" :: "_law_great" :: "_law_line" :: "_law_road_by" :: "_law_shy_by" :: "_law_ties" :: "_law_ways_by" :: "_law_whole" :: "number_of" :: "require_within" :: "rows_of" :: "_law_dear_by" :: "_law_lines" :: "_law_same_road" :: "wish_lines" :: "guild_of" :: "_law_same_guild" :: "like_lines" :: "shun_lines" :: "way_lines" :: "_law_guild_by" :: "_law_said" :: "shown" :: "take_row" :: "read" :: "_law_written" :: "law" :: "SEAT" :: "MOST_HOUSES" :: "FIGURES" :: "MOST_FIGURES" :: "len" :: "range" :: "min" :: "max" :: "set" :: "list" :: "tuple" :: "isinstance" :: "bool" :: "int" :: "str" :: "sorted" :: "any" :: []
def U6:List (Addr×Str):=(240, "__init__")::(240, "houses_paired")::(240, "size")::(240, "wishes")::(240, "require_houses")::(240, "like")::(240, "liking")::(240, "neighbours")::(240, "require_long_road")::(240, "require_two_houses")::(240, "shunned")::(240, "lay_way")::(240, "lift_way")::(240, "shun")::(240, "wish")::(240, "__setattr__")::(240, "house_count")::(240, "ways")::(240, "likings")::(240, "shuns")::(240, "wish_ranks")::[]
def Vc:List Addr:=[115,202,122,190,223,157,164,129,237,230,178,143,150,171,185]
def Vg:List Addr:=[240]
def Vf:List (Addr×Str):=(115, "Guild.__init__")::(202, "Guild.houses_paired")::(122, "Guild.size")::(190, "Guild.wishes")::(307, "_law_cell_at")::(340, "_law_fond_by")::(383, "_law_great")::(371, "_law_line")::(326, "_law_road_by")::(354, "_law_shy_by")::(366, "_law_ties")::(333, "_law_ways_by")::(314, "_law_whole")::(300, "number_of")::(101, "require_within")::(283, "rows_of")::(223, "Guild.require_houses")::(347, "_law_dear_by")::(376, "_law_lines")::(321, "_law_same_road")::(271, "wish_lines")::(157, "Guild.like")::(164, "Guild.liking")::(129, "Guild.neighbours")::(237, "Guild.require_long_road")::(230, "Guild.require_two_houses")::(178, "Guild.shunned")::(290, "guild_of")::(143, "Guild.lay_way")::(150, "Guild.lift_way")::(171, "Guild.shun")::(185, "Guild.wish")::(388, "_law_same_guild")::(261, "like_lines")::(266, "shun_lines")::(254, "way_lines")::(361, "_law_guild_by")::(402, "_law_said")::(249, "shown")::(295, "take_row")::(278, "read")::(395, "_law_written")::(407, "law")::[]
def Ve:List Addr:=[]
def U8:List (Addr×Value):=[]
def UU(p:Program):HD.Ob:=(some (some (.ref 240))::some (some (.ref 307))::some (some (.ref 340))::some (some (.ref 383))::some (some (.ref 371))::some (some (.ref 326))::some (some (.ref 354))::some (some (.ref 366))::some (some (.ref 333))::some (some (.ref 314))::some (some (.ref 300))::some (some (.ref 101))::some (some (.ref 283))::some (some (.ref 347))::some (some (.ref 376))::some (some (.ref 321))::some (some (.ref 271))::some (some (.ref 290))::some (some (.ref 388))::some (some (.ref 261))::some (some (.ref 266))::some (some (.ref 254))::some (some (.ref 361))::some (some (.ref 402))::some (some (.ref 249))::some (some (.ref 295))::some (some (.ref 278))::some (some (.ref 395))::some (some (.ref 407))::some (some (.int 0 296))::some (some (.int 60 298))::some (some (.str "0123456789" 491))::some (some (.int 60 493))::some none::some none::some none::some none::some none::some none::some none::some none::some none::some none::some none::some none::some none::[],some (some (.ref 115))::some (some (.ref 202))::some (some (.ref 122))::some (some (.ref 190))::some (some (.ref 223))::some (some (.ref 157))::some (some (.ref 164))::some (some (.ref 129))::some (some (.ref 237))::some (some (.ref 230))::some (some (.ref 178))::some (some (.ref 143))::some (some (.ref 150))::some (some (.ref 171))::some (some (.ref 185))::some (some (.builtin "object.__setattr__"))::some none::some none::some none::some none::some none::[],true::true::true::true::true::true::true::true::true::true::true::true::true::true::true::true::[],HD.fnE "__init__" "Guild.__init__" (HD.iC (HD.top p 12) 0)::HD.fnE "houses_paired" "Guild.houses_paired" (HD.iC (HD.top p 12) 13)::HD.fnE "size" "Guild.size" (HD.iC (HD.top p 12) 1)::HD.fnE "wishes" "Guild.wishes" (HD.iC (HD.top p 12) 11)::HD.fnE "_law_cell_at" "_law_cell_at" (HD.top p 27)::HD.fnE "_law_fond_by" "_law_fond_by" (HD.top p 32)::HD.fnE "_law_great" "_law_great" (HD.top p 39)::HD.fnE "_law_line" "_law_line" (HD.top p 37)::HD.fnE "_law_road_by" "_law_road_by" (HD.top p 30)::HD.fnE "_law_shy_by" "_law_shy_by" (HD.top p 34)::HD.fnE "_law_ties" "_law_ties" (HD.top p 36)::HD.fnE "_law_ways_by" "_law_ways_by" (HD.top p 31)::HD.fnE "_law_whole" "_law_whole" (HD.top p 28)::HD.fnE "number_of" "number_of" (HD.top p 25)::HD.fnE "require_within" "require_within" (HD.top p 11)::HD.fnE "rows_of" "rows_of" (HD.top p 22)::HD.fnE "require_houses" "Guild.require_houses" (HD.iC (HD.top p 12) 16)::HD.fnE "_law_dear_by" "_law_dear_by" (HD.top p 33)::HD.fnE "_law_lines" "_law_lines" (HD.top p 38)::HD.fnE "_law_same_road" "_law_same_road" (HD.top p 29)::HD.fnE "wish_lines" "wish_lines" (HD.top p 20)::HD.fnE "like" "Guild.like" (HD.iC (HD.top p 12) 6)::HD.fnE "liking" "Guild.liking" (HD.iC (HD.top p 12) 7)::HD.fnE "neighbours" "Guild.neighbours" (HD.iC (HD.top p 12) 2)::HD.fnE "require_long_road" "Guild.require_long_road" (HD.iC (HD.top p 12) 18)::HD.fnE "require_two_houses" "Guild.require_two_houses" (HD.iC (HD.top p 12) 17)::HD.fnE "shunned" "Guild.shunned" (HD.iC (HD.top p 12) 9)::HD.fnE "guild_of" "guild_of" (HD.top p 23)::HD.fnE "lay_way" "Guild.lay_way" (HD.iC (HD.top p 12) 4)::HD.fnE "lift_way" "Guild.lift_way" (HD.iC (HD.top p 12) 5)::HD.fnE "shun" "Guild.shun" (HD.iC (HD.top p 12) 8)::HD.fnE "wish" "Guild.wish" (HD.iC (HD.top p 12) 10)::HD.fnE "_law_same_guild" "_law_same_guild" (HD.top p 40)::HD.fnE "like_lines" "like_lines" (HD.top p 18)::HD.fnE "shun_lines" "shun_lines" (HD.top p 19)::HD.fnE "way_lines" "way_lines" (HD.top p 17)::HD.fnE "_law_guild_by" "_law_guild_by" (HD.top p 35)::HD.fnE "_law_said" "_law_said" (HD.top p 42)::HD.fnE "shown" "shown" (HD.top p 16)::HD.fnE "take_row" "take_row" (HD.top p 24)::HD.fnE "read" "read" (HD.top p 21)::HD.fnE "_law_written" "_law_written" (HD.top p 41)::HD.fnE "law" "law" (HD.top p 43)::[],[],[])
theorem TN(w:World):(openEnds treeTable PySem.Challenge.pw_heraldways_k08_a_guild_written w 6090).map (openSeen (qP PySem.Challenge.pw_heraldways_k08_a_guild_written) [] (importedModules PySem.Challenge.pw_heraldways_k08_a_guild_written.main.body) (λs=>xlAt (qP PySem.Challenge.pw_heraldways_k08_a_guild_written) [] s&&recOk (RowW.records PySem.Challenge.rw_heraldways_k08_a_guild_written.row.toRowW) s) true)=some (openGood (qP PySem.Challenge.pw_heraldways_k08_a_guild_written) []):=by
 rw[Fast.te14364793385576792824,Fast.te4187177175401517315,Fast.te5923862056798008813,Fast.te12387299047800748907]
 kernel_rfl
theorem TM(w:World):(openEnds treeTable PySem.Challenge.pw_heraldways_k08_a_guild_written w 6090).map (HD.ob asL U5 U6 Vc Vg Vf Ve U8)=some (UU PySem.Challenge.pw_heraldways_k08_a_guild_written):=by
 rw[Fast.te14364793385576792824,Fast.te12387299047800748907]
 kernel_rfl
end K08
namespace L2
open PySem PySem.Spec PyProof.Rows
abbrev b6:=Sum Int Str
def ui:b6->Value->Bool
 |.inl k,v=>Value.isInt k v
 |.inr x,v=>Value.isStrOf x v
def Vu(w:World):b6->Int
 |.inl k=>hashInt k
 |.inr x=>hashStr w x
theorem cR:∀ {k:b6} {v:Value},ui k v=true->(∃ i t,k=Sum.inl i/\v=Value.int i t)\/(∃ x t,k=Sum.inr x/\v=Value.str x t)
 | .inl i,v,h=>by
   obtain⟨t,e⟩:=Value.isInt_shape (k:=i) (v:=v) h;exact .inl ⟨i,t,rfl,e⟩
 | .inr x,v,h=>by
   obtain⟨t,e⟩:=Value.isStrOf_shape (x:=x) (v:=v) h;exact .inr ⟨x,t,rfl,e⟩
theorem Ec(i:Int)(t:Tok):ui (.inl i) (.int i t)=true:=by simp[ui,Value.isInt]
theorem Eb(x:Str)(t:Tok):ui (.inr x) (.str x t)=true:=by simp[ui,Value.isStrOf]
theorem PN(a b:Int):decide ((Sum.inl a:b6)=Sum.inl b)=(a==b):=by
 by_cases e:a=b
 ·subst e; simp
 ·have h:¬ (Sum.inl a:b6)=Sum.inl b:=λq=>e (Sum.inl.inj q);rw[We h];exact(beq_eq_false_iff_ne.mpr e).symm
theorem PH(a b:Str):decide ((Sum.inr a:b6)=Sum.inr b)=decide (a=b):=by
 by_cases e:a=b
 ·subst e; simp
 ·have h:¬ (Sum.inr a:b6)=Sum.inr b:=λq=>e (Sum.inr.inj q);rw[We h,We e]
theorem PM(a:Int)(b:Str):decide ((Sum.inl a:b6)=Sum.inr b)=false:=We (λq=>nomatch q)
theorem PL(a:Str)(b:Int):decide ((Sum.inr a:b6)=Sum.inl b)=false:=We (λq=>nomatch q)
def bF(prog:Program)(w:World):PySem.KeyKind prog w b6 where
 is:=ui
 hash:=Vu w
 inj:=λv a b l f=>by
  rcases cR l with ⟨i,t,rfl,rfl⟩|⟨x,t,rfl,rfl⟩
  · rcases cR f with ⟨j,u,rfl,e⟩|⟨y,u,rfl,e⟩
    ·injection e with c _; rw[c]
    ·exact nomatch e
  · rcases cR f with ⟨j,u,rfl,e⟩|⟨y,u,rfl,e⟩
    ·exact nomatch e
    ·injection e with c _; rw[c]
 byValue:=λk v h=>by
  rcases cR h with ⟨i,t,rfl,rfl⟩|⟨x,t,rfl,rfl⟩<;>rfl
 pyHash:=λd h=>by
  rcases cR d with ⟨i,t,rfl,rfl⟩|⟨x,t,rfl,rfl⟩
  ·exact wpAny_pyHash_int h
  ·exact wpAny_pyHash_str h
 eqBool:=λg d h=>by
  rcases cR g with ⟨i,t,rfl,rfl⟩|⟨x,t,rfl,rfl⟩
  · rcases cR d with ⟨j,u,rfl,rfl⟩|⟨y,u,rfl,rfl⟩
    ·rw[PN] at h; exact wpAny_eqBool_int h
    ·rw[PM] at h; exact SeqAt.EqAt.int_str i t y u _ _ _ _ h
  · rcases cR d with ⟨j,u,rfl,rfl⟩|⟨y,u,rfl,rfl⟩
    ·rw[PL] at h; exact SeqAt.EqAt.str_int x t j u _ _ _ _ h
    ·rw[PH] at h; exact wpAny_eqBool_str h
 «strs»:=λk x t v h=>by
  rcases cR h with ⟨i,u,rfl,e⟩|⟨y,u,rfl,e⟩
  ·exact nomatch e
  · injection e with c _
    subst c;cases v<;>rfl
theorem xt(prog:Program)(w:World)(i:Int)(t:Tok):(bF prog w).is (.inl i) (.int i t)=true:=Ec i t
theorem xr(prog:Program)(w:World)(x:Str)(t:Tok):(bF prog w).is (.inr x) (.str x t)=true:=Eb x t
inductive V where
 |non|bl (b:Bool)|int (i:Int)|str (x:Str)|byt (b:Array UInt8)|flt (b:UInt64)|ref (a:Addr)|ty (n:String)
 deriving DecidableEq
def RelV:V->Value->Prop
 |.non,u=>u=Value.none
 |.bl b,u=>u=Value.bool b
 |.int i,u=>∃ t,u=Value.int i t
 |.str x,u=>∃ t,u=Value.str x t
 |.byt b,u=>∃ t,u=Value.bytes b t
 |.flt b,u=>∃ t,u=Value.float b t
 |.ref a,u=>u=Value.ref a
 |.ty n,u=>u=Value.type n
abbrev Vals:List V->List Value->Prop:=Paired RelV
theorem Vals.length{xs:List V}{us:List Value}(r:Vals xs us):xs.length=us.length:=Xn r
theorem Vals.get:∀ {xs:List V} {us:List Value} {i:Nat} {x:V},Vals xs us->xs[i]?=some x->∃ u,us[i]?=some u/\RelV x u
 |_,_,_,_,.nil,e=>by simp at e
 |_,_,0,_,.cons r _,e=>by simp at e; subst e; exact⟨_,rfl,r⟩
 | _,_,i+1,x,.cons _ t,e=>by
   obtain⟨u,b,a⟩:=Vals.get (i:=i) (x:=x) t (by simpa using e);exact⟨u,by simpa using b,a⟩
theorem Vals.set{x:V}{u:Value}(r:RelV x u):∀ {xs:List V} {us:List Value} (i:Nat),Vals xs us->Vals (xs.set i x) (us.set i u)
 |_,_,_,.nil=> .nil
 |_,_,0,.cons _ t=> .cons r t
 |_,_,i+1,.cons q t=> .cons q (Vals.set r i t)
theorem Vals.append:∀ {xs ys:List V} {us ws:List Value},Vals xs us->Vals ys ws->Vals (xs++ys) (us++ws)
 |_,_,_,_,.nil,s=>s
 |_,_,_,_,.cons r t,s=> .cons r (Vals.append t s)
theorem Vals.take:∀ {xs:List V} {us:List Value} (n:Nat),Vals xs us->Vals (xs.take n) (us.take n)
 |_,_,0,_=> .nil
 |_,_,_+1,.nil=> .nil
 |_,_,n+1,.cons r t=> .cons r (Vals.take n t)
theorem Vals.drop:∀ {xs:List V} {us:List Value} (n:Nat),Vals xs us->Vals (xs.drop n) (us.drop n)
 |_,_,0,r=>r
 |_,_,_+1,.nil=> .nil
 |_,_,n+1,.cons _ t=>Vals.drop n t
def RelO:Option V->Option Value->Prop
 |some v,some u=>RelV v u
 |none,none=>True
 |_,_=>False
def KV{W:Type}:List (W×V)->List (W×Value)->Prop:=Paired λ(p:W×V) (q:W×Value)=>p.1=q.1/\RelV p.2 q.2
def kV:b6->V
 |.inl i=> .int i
 |.inr x=> .str x
inductive HO where
 /-- a list -/
 |lst (xs:List V)
 /-- a tuple (never changes) -/
 |tup (xs:List V)
 /-- a dict whose keys are ints and texts; one whose keys are tuples of ints and texts (the empty one is both) -/
 |dK (kvs:List (b6×V))|dT (kvs:List (List b6×V))
 /-- a set of ints: its members,its size -/
 |set (S:Int->Bool) (n:Nat)
 /-- an instance of the class at C,its dict at dx,its attributes -/
 |ins (C dx:Addr) (fs:List (Str×V))
 /-- the dict of the instance at x -/
 |own (x:Addr)
 /-- the dict of an exception -/
 |xd (fs:List (Str×V))
 /-- a bound method,f of x -/
 |met (f x:Addr)
 /-- a range object lo,lo+1,.. below hi -/
 |rng (lo hi:Int)
 /-- a thing that is known to the object (the script; a dict while a loop walks it): read,never written while it is so -/
 |frz (o:Obj) (u:HO)
 /-- a code object's table: at each of these places nothing,or a code of that name -/
 |tbl (l:List (Pos×Str))
 /-- any other thing,by what is true of its one object (a def of one's own: SetO a S n:=HO.ext λh=> ..) -/
 |ext (φ:Heap->Prop)
abbrev Hp:=Addr->Option HO
def upd(H:Hp)(a:Addr)(o:HO):Hp:=λb=>if b=a then some o else H b
theorem bv{H:Hp}{a:Addr}{o:HO}:upd H a o a=some o:=by unfold upd; rw[if_pos rfl]
theorem bc{H:Hp}{a b:Addr}{o:HO}(h:b≠a):upd H a o b=H b:=by unfold upd; rw[if_neg h]
theorem BO{H:Hp}{a b:Addr}{o u:HO}(h:H a=some o)(h':H b=some u)(d:o≠u):a≠b:=by
 intro e; subst e; rw[h] at h'; exact d (Wh h')
theorem bD{H:Hp}{a b:Addr}{o:HO}(h:H a=some o)(h':H b=none):a≠b:=by
 intro e; subst e; rw[h] at h'; cases h'
section
variable(P:Program)(w:World)
def ObjOk(H:Hp)(h:Heap)(a:Addr):HO->Prop
 |.lst xs=>xs.length<=sizeLine/\∃ (its:List Value) (n:Nat),Vals xs its/\h.get? a=some {cls:= .type "list",data:= .seq its.toArray n}
 |.tup xs=>xs.length<=sizeLine/\∃ its:List Value,Vals xs its/\IsTup h a its.toArray
 |.dK b=>b.length<=sizeLine/\(a==sysModules)=false/\∃ vs,KV b vs/\h.DictOf (bF P w) a vs
 | .dT b=>b.length<=sizeLine/\(a==sysModules)=false/\∃ xs:List (List b6×Addr×Value),
    Paired (λ(p:List b6×V) (q:List b6×Addr×Value)=>p.1=q.1/\H q.2.1=some (.tup (p.1.map kV))/\RelV p.2 q.2.2) b xs/\
    ∃ o es ep,h.get? a=some o/\o.ExactDict/\o.data= .dict es ep/\es.toList=xs.map (entryOfKey (tupleKind (bF P w)))/\(xs.map (·.1)).Nodup
 |.set S n=>h.SetOf (intKind P w) a S n
 | .ins C dx fs=>H dx=some (.own a)/\fs.length<=1000/\dx≠a/\h.get? a=some (PySem.W.instObj C dx)/\
    ∃ d,h.Ns1 dx d/\(∀ f,RelO (fs.lookup f) (d f))/\PySem.Within d (fs.map (·.1))
 |.own _=>∃ o,h.get? a=some o
 |.xd fs=>∃ d,h.Ns1 a d/\∀ f,RelO (fs.lookup f) (d f)
 |.rng lo hi=>∃ t u v,h.get? a=some {cls:= .type "range",data:= .fields #[.int lo t,.int hi u,.int 1 v]}
 |.frz o u=>h.get? a=some o/\ObjOk H h a u
 |.tbl l=>(∀ y∈l,∀ z∈l,y.1.line=z.1.line->y.1.col=z.1.col->y.2=z.2)/\∃ ps:Array Value,h.get? a=some {cls:= .none,data:= .fields ps}/\TriplesOk ps.toList/\∀ x∈l,codeAmong x.1 ps.toList=none\/∃ c,codeAmong x.1 ps.toList=some (.ref c)/\H c=some (.own a)/\h.CodeRec (.ref c) x.2
 |.met f x=>h.get? a=some (PySem.W.methodObj (.ref f) (.ref x))
 |.ext e=>e h/\(∃ o,h.get? a=some o)/\∀ i g:Heap,e i->(∀ o,i.get? a=some o->g.get? a=some o)->e g
def HOk(H:Hp)(h:Heap):Prop:=∀ a o,H a=some o->ObjOk P w H h a o
end
section
variable{P:Program}{w:World}{H H':Hp}{h h':Heap}{a:Addr}{o:HO}
theorem ObjOk.lt(x:ObjOk P w H h a o):a<h.objs.size:=by
 cases o with
 |lst xs=>obtain⟨_,_,_,_,e⟩:=x; exact VX e
 |tup xs=>obtain⟨_,_,_,p⟩:=x; exact p.lt
 |dK b=>obtain⟨_,_,_,_,o,_,_,e,_⟩:=x; exact VX e
 |dT b=>obtain⟨_,_,_,_,o,_,_,e,_⟩:=x; exact VX e
 |set S n=>obtain⟨o,_,_,_,e,_⟩:=x; exact VX e
 |ins C dx fs=>obtain⟨_,_,_,e,_⟩:=x; exact VX e
 |own y=>obtain⟨_,e⟩:=x; exact VX e
 |xd fs=>obtain⟨_,⟨_,_,_,e,_⟩,_⟩:=x; exact VX e
 |rng lo hi=>obtain⟨_,_,_,e⟩:=x; exact VX e
 |frz ob u=>obtain⟨e,_⟩:=x; exact VX e
 |tbl l=>obtain⟨_,_,e,_⟩:=x; exact VX e
 |met f y=>exact VX (show h.get? a=some _ from x)
 |ext c=>obtain⟨_,⟨_,e⟩,_⟩:=x; exact VX e
theorem Paired.mapP{W X:Type}{F G:W->X->Prop}:∀ {d:List W} {c:List X},Paired F d c->(∀ a b,F a b->G a b)->Paired G d c
 |_,_,.nil,_=> .nil
 |_,_,.cons r t,f=> .cons (f _ _ r) (Paired.mapP t f)
theorem ObjOk.stay(x:ObjOk P w H h a o)(k:∀ b u,(b=a\/H b=some (.own a))->h.get? b=some u->h'.get? b=some u)
 (s:∀ b,H b=some (.own a)->H' b=some (.own a)) (F:∀ b xs,H b=some (.tup xs)->H' b=some (.tup xs)):ObjOk P w H' h' a o:=by
 induction o with
 |lst xs=>obtain⟨z,its,n,r,e⟩:=x; exact⟨z,its,n,r,k _ _ (.inl rfl) e⟩
 |tup xs=>obtain⟨z,its,r,ob,e,c⟩:=x; exact⟨z,its,r,ob,k _ _ (.inl rfl) e,c⟩
 |dK m=>obtain⟨z,y,vs,r,ob,es,ep,e,c⟩:=x; exact⟨z,y,vs,r,ob,es,ep,k _ _ (.inl rfl) e,c⟩
 |dT m=>
   obtain⟨z,y,xs,r,ob,es,ep,e,c⟩:=x;exact⟨z,y,xs,Paired.mapP r λp q z=>⟨z.1,F _ _ z.2.1,z.2.2⟩,ob,es,ep,k _ _ (.inl rfl) e,c⟩
 |set S n=>obtain⟨ob,es,ep,t,e,c⟩:=x; exact⟨ob,es,ep,t,k _ _ (.inl rfl) e,c⟩
 |ins C dx fs=>
   obtain⟨d,z,ne,e,j,⟨i,es,ep,I,c⟩,r⟩:=x;exact⟨s _ d,z,ne,k _ _ (.inl rfl) e,j,⟨i,es,ep,k _ _ (.inr d) I,c⟩,r⟩
 |own y=>obtain⟨ob,e⟩:=x; exact⟨ob,k _ _ (.inl rfl) e⟩
 |xd fs=>obtain⟨j,⟨i,es,ep,e,c⟩,r⟩:=x; exact⟨j,⟨i,es,ep,k _ _ (.inl rfl) e,c⟩,r⟩
 |rng lo hi=>obtain⟨t,u,v,e⟩:=x; exact⟨t,u,v,k _ _ (.inl rfl) e⟩
 |frz ob u D=>obtain⟨e,q⟩:=x; exact⟨k _ _ (.inl rfl) e,D q⟩
 |tbl l=>
   obtain⟨cl,ps,e,t,q⟩:=x;refine⟨cl,ps,k _ _ (.inl rfl) e,t,λy E=>?_⟩;rcases q y E with z|⟨c,z,A,⟨K,o,vs,B,G,g,r⟩⟩
   ·exact .inl z
   ·cases G;exact .inr ⟨c,z,s _ A,⟨c,o,vs,B,rfl,k _ _ (.inr A) g,r⟩⟩
 |met f y=>
   have e:h.get? a=some (PySem.W.methodObj (.ref f) (.ref y)):=x;show h'.get? a=some (PySem.W.methodObj (.ref f) (.ref y));exact k a _ (.inl rfl) e
 |ext J=>obtain⟨p,⟨o,e⟩,st⟩:=x; exact⟨st _ _ p λo q=>k _ _ (.inl rfl) q,⟨o,k _ _ (.inl rfl) e⟩,st⟩
theorem HOk.lt(x:HOk P w H h)(e:H a=some o):a<h.objs.size:=(x a o e).lt
theorem HOk.fresh(x:HOk P w H h)(e:h.objs.size<=a):H a=none:=by
 cases q:H a with
 |none=>rfl
 |some u=>exact absurd (Wg (x.lt q) e) (WC _)
theorem HOk.kept(x:HOk P w H h)(k:∀ b u,h.get? b=some u->h'.get? b=some u):HOk P w H h':=λa o e=>
 (x a o e).stay (λb u _ q=>k b u q) (λ_ q=>q) λ_ _ q=>q
theorem HOk.laid(x:HOk P w H h)(k:∀ b u,h.get? b=some u->h'.get? b=some u)(hp:h.objs.size<=a)(new:ObjOk P w (upd H a o) h' a o):HOk P w (upd H a o) h':=λb u e=>by
 have d:=x.fresh hp;by_cases f:b=a
 ·subst f; rw[bv] at e; cases e; exact new
 ·rw[bc f] at e;exact(x b u e).stay (λc v _ q=>k c v q) (λc q=>by rw[bc (bD q d)]; exact q) λc xs q=>by rw[bc (bD q d)]; exact q
end
def Rd(H:Hp)(a:Addr)(u:HO):Prop:=H a=some u\/∃ o,H a=some (.frz o u)
theorem Rd.ok{P:Program}{w:World}{H:Hp}{h:Heap}{a:Addr}{u:HO}(r:Rd H a u)(x:HOk P w H h):ObjOk P w H h a u:=by
 rcases r with r|⟨o,r⟩
 ·exact x a u r
 ·obtain⟨_,q⟩:=x a _ r;exact q
def UR:Option HO->Prop
 |some (.lst _)=>True
 |some (.dK _)=>True
 |some (.dT _)=>True
 |some (.set _ _)=>True
 |some (.ins _ _ _)=>True
 |some (.ext _)=>True
 |_=>False
section
variable{P:Program}{w:World}{H:Hp}{h h':Heap}{x e:Addr}{o':HO}
theorem HOk.write(ok:HOk P w H h)(g:UR (H x))(n:e=x\/H e=some (.own x))(k:∀ b u,b≠e->h.get? b=some u->h'.get? b=some u)(l:∃ u,h'.get? e=some u)
 (new:ObjOk P w (upd H x o') h' x o'):HOk P w (upd H x o') h':=λb u q=>by
 have d:∀ c y,H c=some (.own y)->c≠x:=λc y r z=>by subst z; rw[r] at g; exact g
 have f:∀ c xs,H c=some (.tup xs)->c≠x:=λc xs r z=>by subst z; rw[r] at g; exact g
 by_cases j:b=x
 ·subst j; rw[bv] at q; cases q; exact new
 · rw[bc j] at q;by_cases a:b=e
   · have m:H b=some (.own x):=by
      rcases n with z|z
      ·exact absurd (a.trans z) j
      ·rw[a]; exact z
     rw[q] at m; cases m;obtain⟨v,o⟩:=l;exact⟨v,by rw[a]; exact o⟩
   · refine(ok b u q).stay (λc v i r=>k c v ?_ r) (λc r=>by rw[bc (d c b r)]; exact r) λc xs r=>by rw[bc (f c xs r)]; exact r
     rcases i with rfl|i
     ·exact a
     · rintro rfl;rcases n with z|z
       ·exact d c b i z
       ·rw[i] at z; cases z; exact j rfl
end
structure Un (fs ex:List Addr) (H H':Hp) (h h':Heap):Prop where
 keep:∀ b o,h.get? b=some o->H b=none->b∉fs->b∉ex->h'.get? b=some o
 slot:∀ b o,h.get? b=some o->H b=none->b∈fs->b∉ex->∃ sl,h'.get? b=some {o with slots:=sl}
 free:∀ b o,h.get? b=some o->H b=none->b∉ex->H' b=none
 there:∀ b o,h.get? b=some o->b∉ex->∃ o',h'.get? b=some o'
 tups:∀ b xs,H b=some (.tup xs)->H' b=some (.tup xs)
 frzs:∀ b o u,H b=some (.frz o u)->H' b=some (.frz o u)
 tbls:∀ b l,H b=some (.tbl l)->H' b=some (.tbl l)/\∀ c o,H c=some (.own b)->h.get? c=some o->H' c=some (.own b)/\h'.get? c=some o
section
variable{fs fs' ex ex':List Addr}{H L H2:Hp}{h h1 h2 h':Heap}{a x e:Addr}{o:HO}
theorem Un.any(u:Un fs ex H L h h1){b:Addr}{ob:Obj}(q:h.get? b=some ob)(n:H b=none)(a:b∉ex):∃ sl,h1.get? b=some {ob with slots:=sl}:=by
 by_cases c:b∈fs
 ·exact u.slot b ob q n c a
 ·exact⟨ob.slots,u.keep b ob q n c a⟩
theorem Un.kept(k:∀ b u,h.get? b=some u->h'.get? b=some u):Un fs ex H H h h':=
 ⟨λb ob q _ _ _=>k b ob q,λb ob q _ _ _=>⟨ob.slots,k b ob q⟩,λ_ _ _ n _=>n,λb ob q _=>⟨ob,k b ob q⟩,λ_ _ q=>q,λ_ _ _ q=>q,λ_ _ q=>⟨q,λc o d a=>⟨d,k c o a⟩⟩⟩
theorem Un.refl:Un fs ex H H h h:=Un.kept λ_ _ q=>q
theorem Un.laid(k:∀ b u,h.get? b=some u->h'.get? b=some u)(hp:h.objs.size<=a)(d:H a=none):Un fs ex H (upd H a o) h h' where
 keep:=λb u q _ _ _=>k b u q
 slot:=λb u q _ _ _=>⟨u.slots,k b u q⟩
 free:=λb u q n _=>by rw[bc (Wc (Wg (VX q) hp))]; exact n
 there:=λb u q _=>⟨u,k b u q⟩
 tups:=λb xs q=>by rw[bc (bD q d)]; exact q
 frzs:=λb u xs q=>by rw[bc (bD q d)]; exact q
 tbls:=λb xs q=>⟨by rw[bc (bD q d)]; exact q,λc o e f=>⟨by rw[bc (bD e d)]; exact e,k c o f⟩⟩
theorem Un.write(a:UR (H x))(l:e=x\/H e=some (.own x))(k:∀ b u,b≠e->h.get? b=some u->h'.get? b=some u)(i:∃ u,h'.get? e=some u):Un fs ex H (upd H x o) h h':=by
 have j:∀ b,H b=none->b≠x:=λb n z=>by subst z; rw[n] at a; exact a
 have m:∀ b,H b=none->b≠e:=λb n z=>by
  subst z;rcases l with r|r
  ·exact j b n r
  ·rw[n] at r; cases r
 have d:∀ b u,H b=some u->¬ UR (some u)->b≠x:=λb u q p z=>by subst z; rw[q] at a; exact p a
 refine⟨λb u q n _ _=>k b u (m b n) q,λb u q n _ _=>⟨u.slots,k b u (m b n) q⟩,λb u q n _=>by rw[bc (j b n)]; exact n,λb u q _=>?_,
  λb xs q=>by rw[bc (d b _ q λz=>z)]; exact q,λb u xs q=>by rw[bc (d b _ q λz=>z)]; exact q,λb ps q=>⟨by rw[bc (d b _ q λz=>z)]; exact q,λc o g s=>⟨by rw[bc (d c _ g λz=>z)]; exact g,k c o (λz=>by
   rcases l with r|r
   ·exact d c _ g (λz=>z) (z.trans r)
   ·rw[<-z,g] at r; cases r; rw[q] at a; exact a) s⟩⟩⟩
 by_cases f:b=e
 ·subst f; exact i
 ·exact⟨u,k b u f q⟩
end
def UV(h:Heap)(H:Hp):List Addr:=(List.range h.objs.size).filter λa=>(H a).isSome
def rD(h:Heap)(H:Hp):Heap:=PySem.W.hideAll h (UV h H)
theorem Eh(h:Heap)(H:Hp):(rD h H).objs.size=h.objs.size:=PySem.W.hideAll_size _ _
theorem IK{h:Heap}{H:Hp}{b:Addr}{o:Obj}(e:h.get? b=some o)(n:H b=none):(rD h H).get? b=some o:=
 PySem.W.hideAll_get _ e λa=>by
  have q:(H b).isSome=true:=(List.mem_filter.mp a).2;rw[n] at q; simp at q
theorem Li{h:Heap}{H:Hp}{b:Addr}{o:Obj}(e:(rD h H).get? b=some o):h.get? b=some o/\H b=none:=by
 have a:h.get? b=some o:=PySem.W.of_hideAll (UV h H) e;refine⟨a,?_⟩;cases q:H b with
 |none=>rfl
 |some x=>
   have c:b∈UV h H:=List.mem_filter.mpr ⟨List.mem_range.mpr (VX a),by simp[q]⟩;have z:(rD h H).get? b=none:=PySem.W.hideAll_none (UV h H) c;rw[z] at e; cases e
def Mc(g h:Heap)(L:Addr):L1:=(List.range h.objs.size).filterMap λa=>if a=L\/(g.get? a).isSome=true then none else (h.get? a).map λo=>(a,o)
def cJ(g h:Heap)(L d:Addr):L1:=(Mc g h L).filter λp=>decide (p.1≠d)
structure Mod (K:L0) (mg:Str->Option Value) (base:Heap):Prop where
 kin:K.In base
 glob:base.Ns mainGlobals mg
 blt:∃ mb,base.Ns builtinsNs mb/\∀ x:Str,x ≠ "__name__" -> mb x=bootBuiltins x
 nolimit:base.NoLimit
 bmod:∃ bm o,mg "__builtins__" = some (.ref bm)/\bm≠builtinsNs/\base.get? bm=some o/\o.cls= .type "module" /\ o.dict=some builtinsNs/\o.data= .plain
structure Cx where
 prog:Program
 w:World
 K:L0
 mg:Str->Option Value
 base:Heap
 A:Around
 N:List Str
 s₀:Shared
 H₀:Hp
 env:Env
 outer:List Env
 stack:List Env
 ex:List Addr
 fn:Str->Bool
 calm:Bool
 pn:L1
 xe:Value->Shared->Prop
def z9(l:List Env):List Addr:=l.filterMap (·.frame)
abbrev Cx.fs(X:Cx):List Addr:=z9 X.outer
def VD(sc:Scope)(x:Str):Prop:=sc.names.lookup x=some .local\/sc.names.lookup x=some .cell\/sc.names.lookup x=some .free
def Rg(sc:Scope)(x:Str):Prop:=sc.names.lookup x=some .local\/sc.names.lookup x=some .cell
def VF(env:Env)(h:Heap)(m:Str->Option Value)(x:Str)(u:Value):Prop:=
 (env.kindOf x=some .local/\m x=some u)\/((env.kindOf x=some .cell\/env.kindOf x=some .free)/\∃ c,env.cells.lookup x=some c/\h.IsCell c (some u))
structure Cx.Ok (X:Cx):Prop where
 mod:Mod X.K X.mg X.base
 kind:X.env.scope.kind= .function
 glob:X.env.globals=mainGlobals
 blt:X.env.builtins=builtinsNs
 above:X.s₀.heap.objs.size<=X.env.locals
 inj:∀ x y c,X.env.cells.lookup x=some c->X.env.cells.lookup y=some c->x=y
 has:∀ x,(X.env.kindOf x=some .cell\/X.env.kindOf x=some .free)->∃ c,X.env.cells.lookup x=some c
 cab:∀ x c,X.fn x=true->X.env.cells.lookup x=some c->X.s₀.heap.objs.size<=c
 hd:X.calm=true->X.A.handled=none
 frames:X.A.frames=some X.stack
 stk:X.stack=X.outer\/(X.stack=X.env::X.outer/\X.env.frame=some X.env.locals)
 exf:∀ b∈X.ex,b≠X.env.locals/\∀ x c,X.env.cells.lookup x=some c->c≠b
 bs:∀ b o,X.base.get? b=some o->X.s₀.heap.get? b=some o/\X.H₀ b=none
 bsz:X.base.objs.size<=X.s₀.heap.objs.size
 noex:∀ b o,X.base.get? b=some o->b∉X.ex
 exfs:∀ b∈X.ex,b∉X.fs
 funs:X.s₀.heap.FunFrames X.base X.outer
 frf:∀ b∈X.fs,X.H₀ b=none
structure Inv (X:Cx) (G:L1) (Z:List (Option V)) (H:Hp) (s:Shared):Prop where
 ok:X.Ok
 os:s.os=X.s₀.os
 bare:AllBare s.gens
 base:Un X.fs X.ex X.H₀ H X.s₀.heap s.heap
 loc:∃ m,s.heap.Ns X.env.locals m/\∀ (i:Nat) (x:Str) (v:V),X.N[i]?=some x->Z[i]?=some (some v)->VD X.env.scope x->∃ u,RelV v u/\VF X.env s.heap m x u
 cell:∀ x c,X.env.cells.lookup x=some c->∃ v,s.heap.IsCell c v
 free:H X.env.locals=none
 freeC:∀ x c,X.env.cells.lookup x=some c->H c=none
 pin:∀ p∈X.pn++G,s.heap.get? p.1=some p.2/\H p.1=none/\p.1≠X.env.locals/\p.1∉X.fs/\∀ v,p.2.data≠ .cell v
 hok:HOk X.prog X.w H s.heap
 len:Z.length=X.N.length
section
variable{X:Cx}{G:L1}{Z:List (Option V)}{H H':Hp}{s:Shared}{h':Heap}
theorem Cx.Ok.nofr(ok:X.Ok){b:Addr}{o:Obj}(e:X.base.get? b=some o):b∉X.fs:=λa=>by
 have:=(ok.funs.mem a).1
 rw[e] at this; cases this
theorem Inv.bs(I:Inv X G Z H s):∀ b o,X.base.get? b=some o->s.heap.get? b=some o/\H b=none:=λb o e=>
 ⟨I.base.keep b o (I.ok.bs b o e).1 (I.ok.bs b o e).2 (I.ok.nofr e) (I.ok.noex b o e),I.base.free b o (I.ok.bs b o e).1 (I.ok.bs b o e).2 (I.ok.noex b o e)⟩
theorem Inv.bk(I:Inv X G Z H s):∀ b o,X.base.get? b=some o->s.heap.get? b=some o:=λb o e=>(I.bs b o e).1
theorem Inv.mod(I:Inv X G Z H s):Mod X.K X.mg X.base:=I.ok.mod
theorem Inv.kIn(I:Inv X G Z H s):X.K.In s.heap:=I.ok.mod.kin.keeps I.bk
theorem Inv.nolimit(I:Inv X G Z H s):s.heap.NoLimit:=I.ok.mod.nolimit.keeps I.bk
theorem Inv.fr(I:Inv X G Z H s):∃ m,Fr X.base X.env.locals s.heap m:=
 let ⟨m,a,_⟩:=I.loc
 ⟨m,a,I.bk,V4 I.ok.bsz I.ok.above⟩
theorem Inv.lt(I:Inv X G Z H s):X.env.locals<s.heap.objs.size:=let ⟨_,a,_⟩:=I.loc; a.lt
theorem Inv.sz(I:Inv X G Z H s):X.s₀.heap.objs.size<=s.heap.objs.size:=V4 I.ok.above (WO I.lt)
theorem Inv.nofs(I:Inv X G Z H s){a:Addr}(h:s.heap.objs.size<=a):a∉X.fs:=λc=>by
 obtain⟨_,o,b,_⟩:=I.ok.funs.mem c;exact absurd (Wg (VX b) (V4 I.sz h)) (WC _)
theorem Inv.cne(I:Inv X G Z H s):∀ x c,X.env.cells.lookup x=some c->c≠X.env.locals:=λx c e z=>by
 obtain⟨v,o,d,hd⟩:=I.cell x c e;obtain⟨m,⟨o',es,ep,a,b,_⟩,_⟩:=I.loc;rw[z,a] at d; cases d; rw[b] at hd; cases hd
theorem Inv.funs(I:Inv X G Z H s):s.heap.FunFrames X.base X.outer:=by
 have all:∀ (l:List Env),(∀ b∈z9 l,b∈X.fs)->X.s₀.heap.FunFrames X.base l->s.heap.FunFrames X.base l:=by
  intro l
  induction l with
  |nil=>intro _ _; trivial
  |cons env r g=>
    intro f k;obtain⟨m,⟨L,o,a,j,i,hd⟩,h⟩:=k;have d:L∈X.fs:=f L (by unfold z9; rw[List.filterMap_cons,a]; exact List.mem_cons_self);obtain⟨sl,e⟩:=I.base.slot L o i (I.ok.frf L d) d λz=>I.ok.exfs L z d;exact⟨m,⟨L,_,a,j,e,hd⟩,g (λb c=>f b (by unfold z9; rw[List.filterMap_cons,a]; exact List.mem_cons_of_mem _ c)) h⟩
 exact all X.outer (λ_ c=>c) I.ok.funs
theorem Inv.stack(I:Inv X G Z H s):s.heap.FunFrames X.base X.stack:=by
 rcases I.ok.stk with e|⟨e,b⟩
 ·rw[e]; exact I.funs
 ·rw[e];obtain⟨m,a,_⟩:=I.loc;refine .cons (by rw[I.ok.kind]; decide) b a ?_ I.funs;exact Heap.get?_none_of_le (V4 I.ok.bsz I.ok.above)
theorem Inv.stkSub(I:Inv X G Z H s):∀ b∈z9 X.stack,b∈X.env.locals::X.fs:=λb a=>by
 rcases I.ok.stk with e|⟨e,c⟩
 ·rw[e] at a; exact VR _ a
 ·rw[e] at a;unfold z9 at a;rw[List.filterMap_cons,c] at a;exact a
theorem Inv.stkFree(I:Inv X G Z H s):∀ b∈z9 X.stack,H b=none:=λb a=>by
 rcases List.mem_cons.mp (I.stkSub b a) with e|a
 ·rw[e]; exact I.free
 ·obtain⟨_,o,c,_⟩:=I.ok.funs.mem a;exact I.base.free b o c (I.ok.frf b a) λz=>I.ok.exfs b z a
theorem Inv.step{g':Array GenState}{t':Nat}{d':Drawn}{ch:List Addr}(I:Inv X G Z H s)
 (g:∀ b∈ch,(b∈X.ex\/X.s₀.heap.objs.size<=b)/\b≠X.env.locals/\(∀ x c,X.env.cells.lookup x=some c->c≠b)/\∀ p∈X.pn++G,p.1≠b)
 (keep:∀ b o,b≠X.env.locals->b∉X.fs->b∉ch->s.heap.get? b=some o->H b=none->h'.get? b=some o)
 (slot:∀ b o,b≠X.env.locals->b∈X.fs->b∉ch->s.heap.get? b=some o->H b=none->∃ sl,h'.get? b=some {o with slots:=sl}) (free:∀ b o,b∉ch->s.heap.get? b=some o->H b=none->H' b=none)
 (there:∀ b o,b∉ch->s.heap.get? b=some o->∃ o',h'.get? b=some o')
 (tups:∀ b xs,H b=some (.tup xs)->H' b=some (.tup xs)) (frzs:∀ b o u,H b=some (.frz o u)->H' b=some (.frz o u)) (tbls:∀ b l,H b=some (.tbl l)->H' b=some (.tbl l)/\∀ c o,H c=some (.own b)->s.heap.get? c=some o->H' c=some (.own b)/\h'.get? c=some o)
 (ns:∀ m,s.heap.Ns X.env.locals m->h'.Ns X.env.locals m) (hok:HOk X.prog X.w H' h') (L:AllBare g'):
 Inv X G Z H' {s with heap:=h',gens:=g',drawn:=d',toks:=t'}:=by
 have B:∀ b o,X.s₀.heap.get? b=some o->b≠X.env.locals:=λb o e=>Wc (Wg (VX e) I.ok.above)
 have j:∀ b o,X.s₀.heap.get? b=some o->b∉X.ex->b∉ch:=λb o e a y=>by
  rcases(g b y).1 with z|z
  ·exact a z
  ·exact absurd (Wg (VX e) z) (WC _)
 have h:∀ x c,X.env.cells.lookup x=some c->∀ v,s.heap.IsCell c v->h'.IsCell c v:=λx c e v ⟨o,A,hd⟩=>by
  have f:c∉ch:=λz=>(g c z).2.2.1 x c e rfl;by_cases F:c∈X.fs
  ·obtain⟨sl,q⟩:=slot c o (I.cne x c e) F f A (I.freeC x c e);exact⟨_,q,hd⟩
  ·exact⟨o,keep c o (I.cne x c e) F f A (I.freeC x c e),hd⟩
 refine⟨I.ok,I.os,L,⟨λb o e n y a=>?_,λb o e n y a=>?_,λb o e n a=>?_,λb o e a=>?_,λb xs e=>tups b xs (I.base.tups b xs e),λb o xs e=>frzs b o xs (I.base.frzs b o xs e),λb ps e=>⟨(tbls b ps (I.base.tbls b ps e).1).1,λc o t C=>let ⟨N,M⟩:=(I.base.tbls b ps e).2 c o t C; (tbls b ps (I.base.tbls b ps e).1).2 c o N M⟩⟩,?_,λx c e=>?_,?_,λx c e=>?_,λp hp=>?_,hok,I.len⟩
 ·exact keep b o (B b o e) y (j b o e a) (I.base.keep b o e n y a) (I.base.free b o e n a)
 ·obtain⟨sl,t⟩:=I.base.slot b o e n y a;obtain⟨D,C⟩:=slot b _ (B b o e) y (j b o e a) t (I.base.free b o e n a);exact⟨D,C⟩
 ·obtain⟨o',t⟩:=I.base.there b o e a;exact free b o' (j b o e a) t (I.base.free b o e n a)
 ·obtain⟨o',t⟩:=I.base.there b o e a;exact there b o' (j b o e a) t
 · obtain⟨m,J,K⟩:=I.loc;refine⟨m,ns m J,λi x v t C O=>?_⟩;obtain⟨u,r,l⟩:=K i x v t C O;refine⟨u,r,?_⟩;rcases l with l|⟨k,c,e,z⟩
   ·exact .inl l
   ·exact .inr ⟨k,c,e,h x c e _ z⟩
 ·obtain⟨v,z⟩:=I.cell x c e;exact⟨v,h x c e v z⟩
 ·obtain⟨m,⟨o,_,_,A,_⟩,_⟩:=I.loc;exact free _ o (λz=>(g _ z).2.1 rfl) A I.free
 ·obtain⟨v,o,A,hd⟩:=I.cell x c e;exact free c o (λz=>(g c z).2.2.1 x c e rfl) A (I.freeC x c e)
 ·obtain⟨e,n,ne,E,d⟩:=I.pin p hp;have f:p.1∉ch:=λz=>(g p.1 z).2.2.2 p hp rfl;exact⟨keep p.1 p.2 ne E f e n,free p.1 p.2 f e n,ne,E,d⟩
theorem Inv.un{t':Nat}(I:Inv X G Z H s)(u:Un X.fs [] H H' s.heap h')(hok:HOk X.prog X.w H' h'):Inv X G Z H' {s with heap:=h',toks:=t'}:=by
 obtain⟨m,⟨o,es,ep,g,r⟩,_⟩:=id I.loc;obtain⟨sl,j⟩:=u.any g I.free (by simp)
 exact I.step (g':=s.gens) (d':=s.drawn) (ch:=[]) (λ_ z=>nomatch z) (λb o _ c _ e n=>u.keep b o e n c (by simp)) (λb o _ c _ e n=>u.slot b o e n c (by simp)) (λb o _ e n=>u.free b o e n (by simp)) (λb o _ e=>u.there b o e (by simp)) u.tups u.frzs u.tbls (λk i=>by
  obtain⟨o',d,f,a,h⟩:=i;rw[g] at a; cases a
  exact⟨_,d,f,j,h⟩) hok I.bare
theorem Inv.call{g':Array GenState}{t':Nat}{d':Drawn}{ch:List Addr}(I:Inv X G Z H s)(u:Un (z9 X.stack) ch H H' s.heap h')(hok:HOk X.prog X.w H' h')(q:AllBare g')
 (f:∀ b∈ch,(b∈X.ex\/X.s₀.heap.objs.size<=b)/\b≠X.env.locals/\(∀ x c,X.env.cells.lookup x=some c->c≠b)/\∀ p∈X.pn++G,p.1≠b):
 Inv X G Z H' {s with heap:=h',gens:=g',drawn:=d',toks:=t'}:=by
 obtain⟨m,⟨o,es,ep,j,r⟩,_⟩:=id I.loc;obtain⟨sl,g⟩:=u.any j I.free λz=>(f _ z).2.1 rfl
 exact I.step (ch:=ch) f (λb o g t a e n=>u.keep b o e n (λz=>(List.mem_cons.mp (I.stkSub b z)).elim g t) a) (λb o _ _ a e n=>u.any e n a) (λb o a e n=>u.free b o e n a) (λb o a e=>u.there b o e a) u.tups u.frzs u.tbls (λv l=>by
  obtain⟨o',h,i,d,k⟩:=l;rw[j] at d; cases d
  exact⟨_,h,i,g,k⟩) hok q
theorem Inv.turned{t':Nat}{a:Addr}(I:Inv X G Z H s)(k:∀ b o,b≠a->s.heap.get? b=some o->h'.get? b=some o)(g:H a=none)(h:a≠X.env.locals)
 (A:a∈X.ex\/X.s₀.heap.objs.size<=a) (y:∀ x c,X.env.cells.lookup x=some c->c≠a) (w:∀ p∈X.pn++G,p.1≠a):Inv X G Z H {s with heap:=h',toks:=t'}:=by
 have f:∀ b u,H b=some u->b≠a:=λb u e z=>by rw[z,g] at e; cases e
 refine I.step (g':=s.gens) (d':=s.drawn) (ch:=[a]) (λb t=>?_) (λb o _ _ d e _=>k b o (λz=>d (by simp[z])) e) (λb o _ _ d e _=>⟨o.slots,k b o (λz=>d (by simp[z])) e⟩) (λ_ _ _ _ n=>n)
  (λb o d e=>⟨o,k b o (λz=>d (by simp[z])) e⟩) (λ_ _ e=>e) (λ_ _ _ e=>e) (λ_ _ e=>⟨e,λc o i B=>⟨i,k c o (bD i g) B⟩⟩) (λm l=>?_) (λb u e=>?_) I.bare
 · have e:b=a:=by simpa using t
   subst e;exact⟨A,h,y,w⟩
 ·obtain⟨o,es,ep,j,r⟩:=l;exact⟨o,es,ep,k _ o (Xv h) j,r⟩
 · refine(I.hok b u e).stay (λc v d q=>k c v ?_ q) (λ_ q=>q) λ_ _ q=>q;rcases d with z|z
   ·rw[z]; exact f b u e
   ·exact f c _ z
theorem Inv.tok(I:Inv X G Z H s)(t:Nat):Inv X G Z H {s with toks:=t}:=I.un (h':=s.heap) (t':=t) Un.refl I.hok
theorem Inv.kept{t':Nat}(I:Inv X G Z H s)(k:∀ b u,s.heap.get? b=some u->h'.get? b=some u):Inv X G Z H {s with heap:=h',toks:=t'}:=I.un (Un.kept k) (I.hok.kept k)
theorem Inv.laid{a:Addr}{o:HO}{t':Nat}(I:Inv X G Z H s)(k:∀ b u,s.heap.get? b=some u->h'.get? b=some u)(hp:s.heap.objs.size<=a)(new:ObjOk X.prog X.w (upd H a o) h' a o):
 Inv X G Z (upd H a o) {s with heap:=h',toks:=t'}:=I.un (Un.laid k hp (I.hok.fresh hp)) (I.hok.laid k hp new)
theorem Inv.write{x e:Addr}{o:HO}{t':Nat}(I:Inv X G Z H s)(c:UR (H x))(d:e=x\/H e=some (.own x))(k:∀ b u,b≠e->s.heap.get? b=some u->h'.get? b=some u)(a:∃ u,h'.get? e=some u)
 (new:ObjOk X.prog X.w (upd H x o) h' x o):Inv X G Z (upd H x o) {s with heap:=h',toks:=t'}:=I.un (Un.write c d k a) (I.hok.write c d k a new)
theorem Inv.pins_of{a:L1}(I:Inv X G Z H s)(h:∀ p∈a,s.heap.get? p.1=some p.2/\H p.1=none/\p.1≠X.env.locals/\p.1∉X.fs/\∀ v,p.2.data≠ .cell v):Inv X a Z H s:=
 ⟨I.ok,I.os,I.bare,I.base,I.loc,I.cell,I.free,I.freeC,λp hp=>(List.mem_append.mp hp).elim (λz=>I.pin p (V9 _ z)) (h p),I.hok,I.len⟩
theorem xj{N:List Str}(c:N.Nodup){i j:Nat}{x:Str}(a:N[i]?=some x)(b:N[j]?=some x):i=j:=by
 obtain⟨g,e⟩:=List.getElem?_eq_some_iff.mp a;obtain⟨f,d⟩:=List.getElem?_eq_some_iff.mp b;exact(List.getElem_inj c).mp (e.trans d.symm)
theorem DD{M:Model}{A:Around}{E:L3}{i:Nat}{x:Str}{v:V}{u:Value}{Q:Unit->Shared->Prop}(I:Inv X G Z H s)(hN:X.N.Nodup)(hi:X.N[i]?=some x)(C:Rg X.env.scope x)(r:RelV v u)
 (h:∀ s',Inv X G (Z.set i (some v)) H s'->(∃ a,Heap.SameBut a s.heap s'.heap/\(a=X.env.locals\/X.env.cells.lookup x=some a))->Q () s') (hf:X.fn x=true\/X.env.scope.names.lookup x=some .local:=by first | exact .inl rfl | exact .inr rfl | assumption):wpAny M A (storeName X.env x u) Q E s:=by
 obtain⟨m,hn,hl⟩:=id I.loc;have U:(X.env.scope.kind == .class||(X.env.scope.kind == .module&&X.env.locals != X.env.globals))=false:=by rw[I.ok.kind]; rfl
 have K:i<Z.length:=by rw[I.len]; exact(List.getElem?_eq_some_iff.mp hi).1
 have cne:=I.cne
 have t:∀ {a:Addr} {h':Heap},(∃ o,s.heap.get? a=some o/\H a=none)->Heap.SameBut a s.heap h'->HOk X.prog X.w H h':=λ{a h'} ha f b ob e=>by
  obtain⟨_,_,F⟩:=ha;refine(I.hok b ob e).stay (λc w' B q=>(f.2 c ?_).trans q) (λ_ q=>q) λ_ _ q=>q;rintro rfl;rcases B with rfl|B
  ·rw[F] at e; cases e
  ·rw[F] at B; cases B
 rcases C with J|J
 · refine wpAny_storeName_local J hn (λh' hn' f=>?_) U;obtain⟨oL,_,_,hoL,_⟩:=id hn;refine h _ ⟨I.ok,I.os,I.bare,⟨λb o e n P C=>?_,λb o e n P C=>?_,I.base.free,λb o e C=>?_,I.base.tups,I.base.frzs,λb l q=>⟨(I.base.tbls b l q).1,λc o g D=>let ⟨f1,f2⟩:=(I.base.tbls b l q).2 c o g D; ⟨f1,(f.2 c (bD f1 I.free)).trans f2⟩⟩⟩,⟨_,hn',λj y v' g D e3=>?_⟩,λy c e=>?_,I.free,I.freeC,λp hp=>?_,t ⟨oL,hoL,I.free⟩ f,by simpa using I.len⟩ ⟨_,f,.inl rfl⟩
   ·exact(f.2 b (Wc (Wg (VX e) I.ok.above))).trans (I.base.keep b o e n P C)
   ·obtain⟨sl,g⟩:=I.base.slot b o e n P C;exact⟨sl,(f.2 b (Wc (Wg (VX e) I.ok.above))).trans g⟩
   ·obtain⟨o',g⟩:=I.base.there b o e C;exact⟨o',(f.2 b (Wc (Wg (VX e) I.ok.above))).trans g⟩
   · by_cases L:j=i
     ·subst L;rw[hi] at g; cases g;rw[Yx K] at D;cases D;exact⟨u,r,.inl ⟨J,by simp⟩⟩
     · rw[YU (Xv L)] at D;obtain⟨u',r',q⟩:=hl j y v' g D e3;refine⟨u',r',?_⟩;rcases q with ⟨k,e⟩|⟨k,c,e,z⟩
       · refine .inl ⟨k,?_⟩
         have:y≠x:=λe=>L (xj hN g (e▸hi))
         simp[this,e]
       ·exact .inr ⟨k,c,e,z.sameBut f (cne y c e)⟩
   ·obtain⟨w',z⟩:=I.cell y c e;exact⟨w',z.sameBut f (cne y c e)⟩
   ·obtain⟨e,n,ne,nf,d⟩:=I.pin p hp;exact⟨(f.2 p.1 ne).trans e,n,ne,nf,d⟩
 · have O:X.fn x=true:=by
    rcases hf with z|z
    ·exact z
    ·rw[z] at J; cases J
   obtain⟨c,B⟩:=I.ok.has x (.inl J);obtain⟨w',z⟩:=I.cell x c B;refine wpAny_storeName_cell I.ok.kind J B z (λh' Y f=>?_);obtain⟨oc,T,S⟩:=id z;refine h {s with heap:=h'} ⟨I.ok,I.os,I.bare,⟨λb o e n P C=>?_,λb o e n P C=>?_,I.base.free,λb o e C=>?_,I.base.tups,I.base.frzs,λb l q=>⟨(I.base.tbls b l q).1,λR o g D=>let ⟨f1,f2⟩:=(I.base.tbls b l q).2 R o g D; ⟨f1,(f.2 R (bD f1 (I.freeC x c B))).trans f2⟩⟩⟩,⟨m,hn.sameBut f (Xv (cne x c B)),λj y v' g D e3=>?_⟩,λy R e=>?_,I.free,I.freeC,λp hp=>?_,t ⟨oc,T,I.freeC x c B⟩ f,by simpa using I.len⟩ ⟨c,f,.inr B⟩
   ·exact(f.2 b (Wc (Wg (VX e) (I.ok.cab x c O B)))).trans (I.base.keep b o e n P C)
   ·obtain⟨sl,g⟩:=I.base.slot b o e n P C;exact⟨sl,(f.2 b (Wc (Wg (VX e) (I.ok.cab x c O B)))).trans g⟩
   ·obtain⟨o',g⟩:=I.base.there b o e C;exact⟨o',(f.2 b (Wc (Wg (VX e) (I.ok.cab x c O B)))).trans g⟩
   · by_cases L:j=i
     ·subst L;rw[hi] at g; cases g;rw[Yx K] at D;cases D;exact⟨u,r,.inr ⟨.inl J,c,B,Y⟩⟩
     · rw[YU (Xv L)] at D;obtain⟨u',r',q⟩:=hl j y v' g D e3;refine⟨u',r',?_⟩;rcases q with q|⟨k,R,e,z'⟩
       ·exact .inl q
       ·refine .inr ⟨k,R,e,z'.sameBut f ?_⟩;rintro rfl;exact L (xj hN g (I.ok.inj _ _ _ e B▸hi))
   · by_cases W:R=c
     ·subst W; exact⟨_,Y⟩
     ·obtain⟨w2,z2⟩:=I.cell y R e;exact⟨w2,z2.sameBut f W⟩
   ·obtain⟨e,n,ne,nf,d⟩:=I.pin p hp;refine⟨(f.2 p.1 ?_).trans e,n,ne,nf,d⟩;intro q;rw[q,T] at e;have q':oc=p.2:=Wh e;exact d w' (by rw[<-q']; exact S)
theorem wG{M:Model}{A:Around}{E:L3}{i:Nat}{x:Str}{v:V}{u:Value}{Q:Unit->Shared->Prop}(I:Inv X G Z H s)(d:X.N.Nodup)(hi:X.N[i]?=some x)(b:Rg X.env.scope x)(r:RelV v u)
 (h:∀ a,Inv X G (Z.set i (some v)) H a->Q () a) (c:X.fn x=true\/X.env.scope.names.lookup x=some .local:=by first | exact .inl rfl | exact .inr rfl | assumption):wpAny M A (storeName X.env x u) Q E s:=
 DD I d hi b r (λa e _=>h a e) c
theorem Inv.call'{a:Shared}{ch:List Addr}(I:Inv X G Z H s)(f:a.os=s.os)(u:Un (z9 X.stack) ch H H' s.heap a.heap)(hok:HOk X.prog X.w H' a.heap)(g:AllBare a.gens)
 (d:∀ b∈ch,(b∈X.ex\/X.s₀.heap.objs.size<=b)/\b≠X.env.locals/\(∀ x c,X.env.cells.lookup x=some c->c≠b)/\∀ p∈X.pn++G,p.1≠b):Inv X G Z H' a:=by
 obtain⟨h',g',d',t',o'⟩:=a;have e:o'=s.os:=f;subst e;exact I.call (g':=g') (t':=t') (d':=d') u hok g d
end
abbrev XK:=Value->Option Addr->Hp->Prop
abbrev St:=List (Option V)
abbrev VK:=V->Hp->Prop
abbrev TE:=St->Hp->VK->Prop
abbrev TT:=St->Hp->(Bool->Hp->Prop)->Prop
abbrev TA:=St->Hp->(List V->Hp->Prop)->Prop
structure Ends where
 nx:St->Hp->Prop
 rt:VK
 bk:St->Hp->Prop:=λ_ _=>False
 ct:St->Hp->Prop:=λ_ _=>False
abbrev TS:=Ends->St->Hp->Prop
def EP(X:Cx)(G:L1)(Z:St)(Q:VK)(u:Value)(a:Shared):Prop:=∃ v H',Inv X G Z H' a/\RelV v u/\Q v H'
def TP(X:Cx)(G:L1)(Z:St)(Q:Bool->Hp->Prop)(b:Bool)(a:Shared):Prop:=∃ H',Inv X G Z H' a/\Q b H'
def AP(X:Cx)(G:L1)(Z:St)(Q:List V->Hp->Prop)(us:List Value)(a:Shared):Prop:=∃ vs H',Inv X G Z H' a/\Vals vs us/\Q vs H'
def SP(X:Cx)(G:L1)(D:Ends)(f:Flow)(b:Shared):Prop:=
 match f with
 |.next=>∃ a H',Inv X G a H' b/\D.nx a H'
 |.brk=>∃ a H',Inv X G a H' b/\D.bk a H'
 |.cont=>∃ a H',Inv X G a H' b/\D.ct a H'
 |.ret u=>∃ v a H',Inv X G a H' b/\RelV v u/\D.rt v H'
def PE(X:Cx)(e:Expr)(t:TE):Prop:=
 ∀ (G:L1) (s:Shared) (Z:St) (H:Hp) (Q:VK),Inv X G Z H s->t Z H Q->wpAny (model X.prog X.w) X.A (eval e X.env) (EP X G Z Q) X.xe s
def PT(X:Cx)(e:Expr)(t:TT):Prop:=
 ∀ (G:L1) (s:Shared) (Z:St) (H:Hp) (Q:Bool->Hp->Prop),Inv X G Z H s->t Z H Q->wpAny (model X.prog X.w) X.A (isTrue e X.env (eval e X.env)) (TP X G Z Q) X.xe s
def PW(X:Cx)(e:Expr)(t:TT):Prop:=
 ∀ (whole:Sem Value) (G:L1) (s:Shared) (Z:St) (H:Hp) (Q:Bool->Hp->Prop),Inv X G Z H s->t Z H Q->wpAny (model X.prog X.w) X.A (isTrue e X.env whole) (TP X G Z Q) X.xe s
theorem PW.pt{X:Cx}{e:Expr}{t:TT}(h:PW X e t):PT X e t:=h _
def PA(X:Cx)(es:List Expr)(t:TA):Prop:=
 ∀ (a:Pos) (G:L1) (s:Shared) (Z:St) (H:Hp) (Q:List V->Hp->Prop),Inv X G Z H s->t Z H Q->wpAny (model X.prog X.w) X.A (spliced (backTo a (starEach es X.env))) (AP X G Z Q) X.xe s
def PS(X:Cx)(st:Stmt)(t:TS):Prop:=
 ∀ (G:L1) (s:Shared) (Z:St) (H:Hp) (D:Ends),Inv X G Z H s->t D Z H->wpAny (model X.prog X.w) X.A (exec st X.env) (SP X G D) X.xe s
def PSs(X:Cx)(st:List Stmt)(t:TS):Prop:=
 ∀ (G:L1) (s:Shared) (Z:St) (H:Hp) (D:Ends),Inv X G Z H s->t D Z H->wpAny (model X.prog X.w) X.A (execs st X.env) (SP X G D) X.xe s
theorem b8{W:Type}{t:Sem W}{Q b:W->Shared->Prop}{M:Model}{A:Around}{E:L3}{s:Shared}(h:wpAny M A t Q E s)(c:∀ a s,Q a s->b a s):wpAny M A t b E s:=W8 h c λ_ _ x=>x
section
variable{X:Cx}
def iz(i:Nat):TE:=λZ H Q=>∃ v,Z[i]?=some (some v)/\Q v H
def tC(v:V):TE:=λ_ H Q=>Q v H
theorem Od{i:Nat}{x:Str}{f:Pos}(q:X.N[i]?=some x)(k:VD X.env.scope x)(hd:(x==("__debug__" : Str))=false:=by decide)(g:(x==("__classdict__" : Str))=false:=by decide):PE X (.Name x f) (iz i):=by
 intro G s Z H Q I h;obtain⟨v,e,h⟩:=h;obtain⟨m,n,p⟩:=I.loc;obtain⟨u,r,l⟩:=p i x v q e k;have d:EP X G Z Q u s:=⟨v,H,I,r,h⟩;rcases l with ⟨b,o⟩|⟨b,c,j,a⟩
 ·exact wpAny_Name (wpAny_loadName_local I.ok.kind b n o d) hd
 · rcases b with b|b
   ·exact wpAny_Name (wpAny_loadName_cell I.ok.kind b j a d) hd
   ·exact wpAny_Name (wpAny_loadName_free I.ok.kind b j a d g) hd
theorem ah{i j a}:PE X (.Constant (.int i) j a) (tC (.int i)):=λ_ _ _ H _ I h=>wpAny_Constant_int ⟨.int i,H,I.tok _,⟨_,rfl⟩,h⟩
theorem g9{b j a}:PE X (.Constant (.bool b) j a) (tC (.bl b)):=λ_ _ _ H _ I h=>Constant_bool ⟨.bl b,H,I,rfl,h⟩
theorem GF{j a}:PE X (.Constant .none j a) (tC .non):=λ_ _ _ H _ I h=>Constant_none ⟨.non,H,I,rfl,h⟩
theorem bG{x j a}:PE X (.Constant (.str x) j a) (tC (.str x)):=λ_ _ _ H _ I h=>Calls.Constant_str ⟨.str x,H,I.tok _,⟨_,rfl⟩,h⟩
def Gl(X:Cx)(x:Str):Prop:=X.env.kindOf x=some .globalImplicit
theorem vp{E:L3}{G:L1}{s:Shared}{Z:St}{H:Hp}{x:Str}{u:Value}{a:Pos}{Q:L3}(I:Inv X G Z H s)(c:Gl X x)(b:X.mg x=some u)(h:Q u s)
 (hd:(x==("__debug__" : Str))=false:=by decide):wpAny (model X.prog X.w) X.A (eval (.Name x a) X.env) Q E s:=
 Yb I.ok.kind c (Calls.loadGlobal_global (by rw[I.ok.glob]; exact I.mod.glob.keeps I.bk) b h) hd
theorem oq{E:L3}{G:L1}{s:Shared}{Z:St}{H:Hp}{x:Str}{u:Value}{a:Pos}{Q:L3}(I:Inv X G Z H s)(e:Gl X x)(d:X.mg x=none)(b:bootBuiltins x=some u)(h:Q u s)
 (c:x ≠ "__name__" := by decide) (hd:(x==("__debug__" : Str))=false:=by decide):wpAny (model X.prog X.w) X.A (eval (.Name x a) X.env) Q E s:=by
 obtain⟨i,g,f⟩:=I.mod.blt;exact Yb I.ok.kind e (Calls.loadGlobal_builtin (by rw[I.ok.glob]; exact I.mod.glob.keeps I.bk) d (by rw[I.ok.blt]; exact g.keeps I.bk) ((f x c).trans b) h) hd
theorem lv{x:Str}{v:V}{u:Value}{a:Pos}(c:Gl X x)(b:X.mg x=some u)(r:RelV v u)(hd:(x==("__debug__" : Str))=false:=by decide):PE X (.Name x a) (tC v):=
 λ_ _ _ H _ I h=>vp I c b ⟨v,H,I,r,h⟩ hd
theorem p9{x:Str}{v:V}{u:Value}{a:Pos}(e:Gl X x)(d:X.mg x=none)(b:bootBuiltins x=some u)(r:RelV v u)(c:x ≠ "__name__" := by decide)(hd:(x==("__debug__" : Str))=false:=by decide):PE X (.Name x a) (tC v):=
 λ_ _ _ H _ I h=>oq I e d b ⟨v,H,I,r,h⟩ c hd
variable{a b:Expr}{ta tb:TE}{pos:Pos}
def PC(X:Cx)(e:CmpOp)(a b:Expr)(t:TE):Prop:=
 ∀ (G:L1) (s:Shared) (Z:St) (H:Hp) (Q:VK),Inv X G Z H s->t Z H Q->
  wpAny (model X.prog X.w) X.A (eval a X.env) (λv d=>wpAny (model X.prog X.w) X.A (eval b X.env) (λu c=>wpAny (model X.prog X.w) X.A (compareOp e v u) (EP X G Z Q) X.xe c) X.xe d) X.xe s
theorem Hf(b:Expr){a:CmpOp}(h:a≠ .In)(c:a≠ .NotIn):behindInMarks a b=false:=by
 have e:(a == CmpOp.In)=false:=by cases a <;> first | rfl | exact absurd rfl h
 have d:(a == CmpOp.NotIn)=false:=by cases a <;> first | rfl | exact absurd rfl c
 cases b<;>simp[behindInMarks,e,d]
def tB(t:TE):TT:=λZ H Q=>t Z H λx L=>∃ c,x= .bl c/\Q c L
theorem u8{e:CmpOp}{t:TE}(h:PC X e a b t)(f:behindInMarks e b=false:=by first | exact Hf _ (by decide) (by decide) | rfl):PT X (.Compare a [e] [b] pos) (tB t):=by
 intro G s Z H Q I j;refine wpAny_isTrue_Compare1 (b8 (h G s Z H _ I j) λv n f=>b8 f λu s2 k=>b8 k λc m ⟨x,L,l,g,i⟩=>?_) f;obtain⟨d,rfl,q⟩:=i;cases g;exact WQ ⟨L,l,q⟩
theorem gj{e:Expr}{t:TE}(h:PE X e t)(f:∀ whole,isTrue e X.env whole=(do let v <-whole; standAt e.pos; holding [v] (truthy v)):=by intro _; rfl):PT X e (tB t):=by
 intro G s Z H Q I c;refine isTrue_plain (b8 (h G s Z H _ I c) λv i ⟨x,L,g,a,b⟩=>?_) (f _);obtain⟨d,rfl,q⟩:=b;cases a;exact WQ ⟨L,g,q⟩
variable{tA tB':TT}{cJ:List Expr}
def Rv(t u:TT):TT:=λZ H Q=>t Z H λc L=>if c=true then u Z L Q else Q false L
def tOr(t u:TT):TT:=λZ H Q=>t Z H λc L=>if c=true then Q true L else u Z L Q
def Rq(t:TT):TT:=λZ H Q=>t Z H λc L=>Q (!c) L
theorem gC(b:PT X a tA):PW X (.BoolOp .And [a] pos) tA:=by
 intro d G s Z H Q I h;refine isTrue_and (b8 (b G s Z H Q I h) λc f e=>?_);cases c with
 |true=>exact isTrue_and_nil e
 |false=>exact e
theorem iU(b:PT X a tA):PW X (.BoolOp .Or [a] pos) tA:=by
 intro d G s Z H Q I h;refine isTrue_or (b8 (b G s Z H Q I h) λc f e=>?_);cases c with
 |false=>exact isTrue_or_nil e
 |true=>exact e
theorem ju(j:PT X a tA)(i:PW X (.BoolOp .And (b::cJ) pos) tB'):PW X (.BoolOp .And (a::b::cJ) pos) (Rv tA tB'):=by
 intro f G s Z H Q I h;refine isTrue_and (b8 (j G s Z H _ I h) λc g ⟨L,e,d⟩=>?_);cases c with
 |true=>exact i f G g Z L Q e d
 |false=>exact⟨L,e,d⟩
theorem kx(j:PT X a tA)(i:PW X (.BoolOp .Or (b::cJ) pos) tB'):PW X (.BoolOp .Or (a::b::cJ) pos) (tOr tA tB'):=by
 intro f G s Z H Q I h;refine isTrue_or (b8 (j G s Z H _ I h) λc g ⟨L,e,d⟩=>?_);cases c with
 |true=>exact⟨L,e,d⟩
 |false=>exact i f G g Z L Q e d
theorem iW(b:PT X a tA):PT X (.UnaryOp .Not a pos) (Rq tA):=by
 intro G s Z H Q I h;exact isTrue_not (b G s Z H (λc L=>Q (!c) L) I h)
def Mw(ta tb:TE):TE:=λZ H Q=>ta Z H λx L=>∃ c,x= .bl c/\if c=true then tb Z L Q else Q (.bl false) L
def Ms(ta:TE):TE:=λZ H Q=>ta Z H λx L=>∃ c,x= .bl c/\Q (.bl (!c)) L
theorem Oe{b}{t:TE}(h:PE X a t):PE X (.BoolOp b [a] pos) t:=λG s Z H Q I c=>BoolOp_one (h G s Z H Q I c)
theorem Oh(j:PE X a ta)(i:PE X (.BoolOp .And (b::cJ) pos) tb):PE X (.BoolOp .And (a::b::cJ) pos) (Mw ta tb):=by
 intro G s Z H Q I h;refine BoolOp_and (b8 (j G s Z H _ I h) λv f ⟨x,L,e,g,d⟩=>?_);obtain⟨c,rfl,d⟩:=d;cases g;refine WQ ?_;cases c with
 |true=>exact i G f Z L Q e d
 |false=>exact⟨.bl false,L,e,rfl,d⟩
theorem Of(e:PE X a ta):PE X (.UnaryOp .Not a pos) (Ms ta):=by
 intro G s Z H Q I h;refine UnaryOp_ (b8 (e G s Z H _ I h) λv g ⟨x,L,f,d,b⟩=>?_);obtain⟨c,rfl,b⟩:=b;cases d;exact not_of (WQ ⟨.bl (!c),L,f,rfl,b⟩)
def tIf(t:TT)(ta tb:TE):TE:=λZ H Q=>t Z H λc L=>if c=true then ta Z L Q else tb Z L Q
theorem GG{c:Expr}(i:PT X c tA)(k:PE X a ta)(j:PE X b tb):PE X (.IfExp c a b pos) (tIf tA ta tb):=by
 intro G s Z H Q I h;refine wpAny_IfExp (b8 (i G s Z H _ I h) λd e ⟨L,g,f⟩=>?_);cases d with
 |true=>exact k G e Z L Q g f
 |false=>exact j G e Z L Q g f
end
def SqL(K:L0)(H:Hp)(a:Addr)(xs:List V):Prop:=
 Rd H a (.lst xs)\/
  ∃ (o:Obj) (its:Array Value) (n:Nat),K.lookup a=some o/\o.cls= .type "list" /\ o.dict=none/\o.data= .seq its n/\its.size<=sizeLine/\Vals xs its.toList
def SqT(K:L0)(H:Hp)(a:Addr)(xs:List V):Prop:=
 Rd H a (.tup xs)\/
  ∃ (o:Obj) (its:Array Value) (n:Nat),K.lookup a=some o/\o.cls= .type "tuple" /\ o.data= .seq its n/\its.size<=sizeLine/\Vals xs its.toList
def VC:Value->Option V
 |.none=>some .non
 |.bool b=>some (.bl b)
 |.int i _=>some (.int i)
 |.str x _=>some (.str x)
 |.bytes b _=>some (.byt b)
 |.float b _=>some (.flt b)
 |.ref a=>some (.ref a)
 |.type n=>some (.ty n)
 |_=>none
theorem RelV.abs{x:V}{u:Value}(r:RelV x u):VC u=some x:=by
 cases x with
 |non=>cases r; rfl
 |bl _=>cases r; rfl
 |int _=>obtain⟨t,rfl⟩:=r; rfl
 |str _=>obtain⟨t,rfl⟩:=r; rfl
 |byt _=>obtain⟨t,rfl⟩:=r; rfl
 |flt _=>obtain⟨t,rfl⟩:=r; rfl
 |ref _=>cases r; rfl
 |ty _=>cases r; rfl
theorem RelV.inj{x y:V}{u:Value}(r:RelV x u)(q:RelV y u):x=y:=Wh (r.abs.symm.trans q.abs)
theorem Vals.inj:∀ {xs ys:List V} {us:List Value},Vals xs us->Vals ys us->xs=ys
 |_,_,_,.nil,.nil=>rfl
 |_,_,_,.cons r t,.cons a t'=>by rw[r.inj a,Vals.inj t t']
section
variable{X:Cx}{G:L1}{Z:St}{H:Hp}{s:Shared}{a:Addr}{xs ys:List V}
theorem SqL.of{K:L0}(h:H a=some (.lst xs)):SqL K H a xs:= .inl (.inl h)
theorem SqT.of{K:L0}(h:H a=some (.tup xs)):SqT K H a xs:= .inl (.inl h)
theorem Inv.list(I:Inv X G Z H s)(h:SqL X.K H a xs):∃ its:List Value,Vals xs its/\PlainL s.heap a its.toArray/\xs.length<=sizeLine:=by
 rcases h with h|⟨o,its,n,c,d,hd,b,hz,r⟩
 ·obtain⟨z,its,n,r,e⟩:=h.ok I.hok;exact⟨its,r,⟨_,n,e,rfl,rfl,rfl⟩,z⟩
 ·refine⟨its.toList,r,⟨o,n,I.kIn a o c,d,hd,by simpa using b⟩,?_⟩;have e:=r.length;simp only[Wr] at e;omega
theorem Inv.tuple(I:Inv X G Z H s)(h:SqT X.K H a xs):∃ its:List Value,Vals xs its/\IsTup s.heap a its.toArray/\xs.length<=sizeLine:=by
 rcases h with h|⟨o,its,n,c,d,b,hz,r⟩
 ·obtain⟨z,its,r,p⟩:=h.ok I.hok;exact⟨its,r,p,z⟩
 ·refine⟨its.toList,r,⟨o,I.kIn a o c,d,n,by simpa using b⟩,?_⟩;have e:=r.length;simp only[Wr] at e;omega
theorem Inv.list_inj(I:Inv X G Z H s)(h:SqL X.K H a xs)(h':SqL X.K H a ys):xs=ys:=by
 obtain⟨its,r,⟨o,n,e,_,_,d⟩,_⟩:=I.list h;obtain⟨its',c,⟨o',f,b,_,_,d'⟩,_⟩:=I.list h';rw[e] at b; cases b;rw[d] at d';injection d' with N _
 have:its=its':=by simpa using congrArg Array.toList N
 subst this;exact r.inj c
end
abbrev Cx.wish(X:Cx)(E:L3):Cx:={X with xe:=E}
abbrev Cx.nox(X:Cx):Cx:=X.wish λ_ _=>False
theorem Cx.Ok.wish{X:Cx}(ok:X.Ok)(E:L3):(X.wish E).Ok:=
 ⟨ok.mod,ok.kind,ok.glob,ok.blt,ok.above,ok.inj,ok.has,ok.cab,ok.hd,ok.frames,ok.stk,ok.exf,ok.bs,ok.bsz,ok.noex,ok.exfs,ok.funs,ok.frf⟩
theorem Cx.Ok.unwish{X:Cx}{E:L3}(ok:(X.wish E).Ok):X.Ok:=
 ⟨ok.mod,ok.kind,ok.glob,ok.blt,ok.above,ok.inj,ok.has,ok.cab,ok.hd,ok.frames,ok.stk,ok.exf,ok.bs,ok.bsz,ok.noex,ok.exfs,ok.funs,ok.frf⟩
section
variable{X:Cx}{G:L1}{Z:St}{H:Hp}{s:Shared}{E:L3}
theorem Inv.wish(I:Inv X G Z H s)(E:L3):Inv (X.wish E) G Z H s:=⟨I.ok.wish E,I.os,I.bare,I.base,I.loc,I.cell,I.free,I.freeC,I.pin,I.hok,I.len⟩
theorem Inv.unwish(I:Inv (X.wish E) G Z H s):Inv X G Z H s:=⟨I.ok.unwish,I.os,I.bare,I.base,I.loc,I.cell,I.free,I.freeC,I.pin,I.hok,I.len⟩
theorem SP.unwish{D:Ends}{f:Flow}{b:Shared}(h:SP (X.wish E) G D f b):SP X G D f b:=by
 cases f with
 |next=>obtain⟨a,H',I,q⟩:=h; exact⟨a,H',I.unwish,q⟩
 |brk=>obtain⟨a,H',I,q⟩:=h; exact⟨a,H',I.unwish,q⟩
 |cont=>obtain⟨a,H',I,q⟩:=h; exact⟨a,H',I.unwish,q⟩
 |ret u=>obtain⟨v,a,H',I,r,q⟩:=h; exact⟨v,a,H',I.unwish,r,q⟩
theorem PSs.nox{st:List Stmt}{t:TS}(h:PSs X.nox st t):PSs X st t:=λG s Z H D I a=>
 W8 (h G s Z H D (I.wish _) a) (λ_ _ q=>q.unwish) λ_ _ z=>False.elim z
end
section
variable{X:Cx}{st:Stmt}{cJ:List Stmt}{t u:TS}{e:Expr}{te:TE}{pos:Pos}
def Mt:TS:=λD Z H=>D.nx Z H
def Ro(t u:TS):TS:=λD Z H=>t {D with nx:=u D} Z H
theorem aR:PSs X [] Mt:=λ_ _ Z H _ I h=>XB ⟨Z,H,I,h⟩
theorem ac(d:PS X st t)(c:PSs X cJ u):PSs X (st::cJ) (Ro t u):=by
 intro G s Z H D I h;refine wpAny_execs_cons (b8 (d G s Z H {D with nx:=u D} I h) λf b q=>?_);cases f with
 |next=>
   obtain⟨a,H',e,q⟩:=q;exact c G b a H' D e q
 |ret v=>exact q
 |brk=>exact q
 |cont=>exact q
theorem af(a:PS X st t):PSs X [st] t:=by
 intro G s Z H D I h;refine wpAny_execs_cons (b8 (a G s Z H D I h) λf b q=>?_);cases f with
 |next=>exact XB q
 |ret v=>exact q
 |brk=>exact q
 |cont=>exact q
theorem Inv.quiet{G:L1}{Z:St}{H:Hp}{s:Shared}(I:Inv X G Z H s):interactive X.env=false:=by simp[interactive,I.ok.kind]
def Mu(te:TE):TS:=λD Z H=>te Z H λ_ L=>D.nx Z L
theorem aK(c:PE X e te)(b:swapsWith e none pos.line X.env=pure false:=by rfl):PS X (.Expr e pos) (Mu te):=by
 intro G s Z H D I h;exact wpAny_Expr_any (b8 (c G s Z H _ I h) λv f ⟨x,L,d,g,a⟩=>⟨Z,L,d,a⟩) I.quiet b
def Rp(te:TE):TS:=λD Z H=>te Z H D.rt
theorem aT(c:PE X e te):PS X (.Return (some e) pos) (Rp te):=by
 intro G s Z H D I h;exact wpAny_Return_some (b8 (c G s Z H _ I h) λv f ⟨x,L,d,a,b⟩=>⟨x,Z,L,d,a,b⟩)
def Rs(c:TT)(t u:TS):TS:=λD Z H=>c Z H λb L=>if b=true then t D Z L else u D Z L
theorem bA{c:Expr}{a b:List Stmt}{e:TT}(j:PT X c e)(l:PSs X a t)(k:PSs X b u):PS X (.If c a b pos) (Rs e t u):=by
 intro G s Z H D I h;refine wpAny_If (b8 (j G s Z H _ I h) λd f ⟨L,i,g⟩=>?_);cases d with
 |true=>exact l G f Z L D i g
 |false=>exact k G f Z L D i g
def Fb:TS:=λ_ _ _=>False
theorem cO:PS X st Fb:=λ_ _ _ _ _ _ h=>h.elim
end
abbrev TG:=V->St->Hp->(St->Hp->Prop)->Prop
abbrev Q7:=List V->St->Hp->(St->Hp->Prop)->Prop
def PG(X:Cx)(a:Expr)(t:TG):Prop:=
 ∀ (G:L1) (s:Shared) (Z:St) (H:Hp) (v:V) (u:Value) (Q:St->Hp->Prop),Inv X G Z H s->RelV v u->t v Z H Q->
  wpAny (model X.prog X.w) X.A (assign a X.env u) (λ_ c=>∃ b H',Inv X G b H' c/\Q b H') X.xe s
def Vk(X:Cx)(b:List Expr)(t:Q7):Prop:=
 ∀ (G:L1) (s:Shared) (Z:St) (H:Hp) (vs:List V) (us:List Value) (Q:St->Hp->Prop),Inv X G Z H s->Vals vs us->t vs Z H Q->
  wpAny (model X.prog X.w) X.A (assignInOrder ((assignEach b X.env).map (·.2)) us) (λ_ c=>∃ a H',Inv X G a H' c/\Q a H') X.xe s
section
variable{X:Cx}{pos:Pos}
def fE(i:Nat):TG:=λv Z H Q=>Q (Z.set i (some v)) H
theorem bo{i:Nat}{x:Str}(c:X.N.Nodup)(hi:X.N[i]?=some x)(a:Rg X.env.scope x)(b:X.fn x=true\/X.env.scope.names.lookup x=some .local:=by first | exact .inl rfl | exact .inr rfl | assumption):PG X (.Name x pos) (fE i):=by
 intro G s Z H v u Q I r h;exact wpAny_assign_Name (wG I c hi a r (λe d=>⟨_,H,d,h⟩) b)
def PZ:Q7:=λvs Z H Q=>vs=[]/\Q Z H
def xK(t:TG)(u:Q7):Q7:=λvs Z H Q=>∃ v r,vs=v::r/\t v Z H λa H'=>u r a H' Q
theorem mS:Vk X [] PZ:=by
 intro G s Z H vs us Q I r h;obtain⟨e,h⟩:=h;subst e;cases r;exact assignInOrder_nil ⟨Z,H,I,h⟩
theorem eM{e:Expr}{es:List Expr}{t:TG}{u:Q7}(i:PG X e t)(g:Vk X es u)
 (f:(assignEach (e::es) X.env).map (·.2)=assign e X.env::(assignEach es X.env).map (·.2):=by rfl):Vk X (e::es) (xK t u):=by
 intro G s Z H vs us Q I r h;obtain⟨v,vr,j,h⟩:=h;subst j;cases r with
 |cons r c=>
   rw[f];refine assignInOrder_cons (b8 (i G s Z H _ _ _ I r h) λ_ b ⟨a,L,k,d⟩=>?_);exact g G b a L _ _ Q k c d
def PY(K:L0)(n:Nat)(t:Q7):TG:=λv Z H Q=>∃ a xs,v= .ref a/\SqT K H a xs/\xs.length=n/\t xs Z H Q
theorem qL{es:List Expr}{k:Nat}{t:Q7}{n:Nat}(p:X.calm=true)(h:Vk X es t)
 (l:(assignEach es X.env).length=n:=by rfl) (d:(assignEach es X.env).findIdx? (·.1)=none:=by rfl):PG X (.Tuple es k pos) (PY X.K n t):=by
 intro G s Z H v u Q I r c;obtain⟨a,xs,q,j,m,c⟩:=c;subst q;cases r;obtain⟨its,f,i,hz⟩:=I.tuple j;refine assign_Tuple_tuple (I.ok.hd p) i (by simp[l,<-m,f.length]) d λh' g=>?_;have w:Inv X G Z H {s with heap:=h'}:=I.kept (t':=s.toks) λb o e=>g b o (Wc (VX e)) e;exact h G _ Z H xs _ Q w (by simpa using f) c
def DC(te:TE)(g:TG):TS:=λD Z H=>te Z H λx L=>g x Z L D.nx
theorem aP{i:Nat}{x:Str}{e:Expr}{te:TE}{a:Pos}(k:X.N.Nodup)(hi:X.N[i]?=some x)(d:Rg X.env.scope x)(j:PE X e te)(f:swapsWith e (some (.Name x a)) pos.line X.env=pure false:=by rfl)(g:X.fn x=true\/X.env.scope.names.lookup x=some .local:=by first | exact .inl rfl | exact .inr rfl | assumption):
 PS X (.Assign [.Name x a] e pos) (DC te (fE i)):=by
 intro G s Z H D I h;refine wpAny_Assign_Name (b8 (j G s Z H _ I h) λv n ⟨y,L,m,b,c⟩=>?_) f;exact wG m k hi d b (λs2 l=>⟨_,L,l,c⟩) g
end
section
variable{X:Cx}{pos:Pos}
def Fa(c:TT)(tb:TS):TS:=λD Z H=>∃ W:Nat->St->Hp->Prop,(∃ m,W m Z H)/\∀ m Z H,W m Z H->
 c Z H λb L=>if b=true then ∃ N:St->Hp->Prop,(∀ a H',N a H'->∃ d,d<m/\W d a H')/\tb {D with nx:=N,ct:=N,bk:=D.nx} Z L else D.nx Z L
theorem Gx{c:Expr}{body:List Stmt}{r:TT}{tb:TS}(hp:PassesOwn (model X.prog X.w) X.A X.env X.xe)(F:PT X c r)(J:PSs X body tb):PS X (.While c body [] pos) (Fa r tb):=by
 intro G s Z H D I h;obtain⟨W,⟨E,z⟩,g⟩:=h;refine wpAny_While (codeAny_whileLoop (λn C=>∃ e H',Inv X G e H' C/\W n e H') ?_ E ⟨Z,H,I,z⟩);rintro n B ⟨d,L,K,y⟩;refine W5 hp (b8 (F G B d L _ K (g n d L y)) λb s2 ⟨x,u,k⟩=>?_);cases b with
 |true=>
   obtain⟨N,t,k⟩:=k;rw[on rfl];refine W5 hp (b8 (J G s2 d x _ u k) λf M j=>?_);cases f with
   |next=>
     obtain⟨a,i,q,m⟩:=j;obtain⟨o,p,l⟩:=t a i m;exact⟨o,p,a,i,q,l⟩
   |cont=>
     obtain⟨a,i,q,m⟩:=j;obtain⟨o,p,l⟩:=t a i m;exact⟨o,p,a,i,q,l⟩
   |brk=>exact j
   |ret v=>exact j
 |false=>
   rw[VM V0];exact XB ⟨d,x,u,k⟩
end
structure It where
 go:Nat->Hp->Prop
 yld:Nat->Hp->V->Hp->Prop
 stop:Nat->Hp->Prop
def li(X:Cx)(G:L1)(H:Hp)(b:Addr):Prop:=
 H b=none/\b≠X.env.locals/\b∉X.fs/\(b∈X.ex\/X.s₀.heap.objs.size<=b)/\(∀ x c,X.env.cells.lookup x=some c->c≠b)/\∀ p∈X.pn++G,p.1≠b
theorem Inv.fpOk{X:Cx}{G:L1}{Z:St}{H H':Hp}{s:Shared}{b:Addr}(I:Inv X G Z H s)(a:s.heap.objs.size<=b)(d:H' b=none):li X G H' b:=by
 refine⟨d,Y3 (Wg I.lt a),I.nofs a,.inr (V4 I.sz a),λx c e z=>?_,λp hp z=>?_⟩
 ·obtain⟨v,q⟩:=I.cell x c e;exact absurd (Wg q.lt (by rw[z]; exact a)) (WC _)
 ·exact absurd (Wg (VX (I.pin p hp).1) (by rw[z]; exact a)) (WC _)
structure Turn (P:Program) (w:World) (K:L0) (tg:Expr) (J:It) (fp:List Addr) (it:Addr) (tn:Nat->Heap->Prop):Prop where
 mem:it∈fp
 obj:∀ i h,tn i h->∀ b∈fp,∃ o,h.get? b=some o/\∀ v,o.data≠ .cell v
 keep:∀ i h h',tn i h->(∀ b∈fp,∀ o,h.get? b=some o->h'.get? b=some o)->tn i h'
 item:∀ (X:Cx),X.prog=P->X.w=w->X.K=K->X.calm=true->∀ (i:Nat) (G:L1) (s:Shared) (Z:St) (H:Hp) (E:L3),Inv X G Z H s->(∀ b∈fp,li X G H b)->tn i s.heap->J.go i H->
  wpAny (model P w) X.A (pyNext (.ref it)) (λr s1=>∃ u,r=some u/\
   wpAny (model P w) X.A (letOwnedTupleGo tg (.ref it) u) (λ_ s2=>∃ x H',Inv X G Z H' s2/\RelV x u/\J.yld i H x H'/\tn (i+1) s2.heap/\∀ b∈fp,H' b=none) E s1) E s
 done:∀ (X:Cx),X.prog=P->X.w=w->X.K=K->X.calm=true->∀ (i:Nat) (G:L1) (s:Shared) (Z:St) (H:Hp) (E:L3),Inv X G Z H s->(∀ b∈fp,li X G H b)->tn i s.heap->J.stop i H->
  wpAny (model P w) X.A (pyNext (.ref it)) (λr s1=>r=none/\Inv X G Z H s1) E s
 self:∀ (A:Around) (i:Nat) (s:Shared) (Q:L3) (E:L3),tn i s.heap->Q (.ref it) s->wpAny (model P w) A (pyIter (.ref it)) Q E s
abbrev TI:=St->Hp->(It->Hp->Prop)->Prop
def PIE(X:Cx)(G:L1)(Z:St)(f:Expr)(R:It->Hp->Prop)(a:Value)(s2:Shared):Prop:=
 ∃ (d:Addr) (e:List Addr) (c:Nat->Heap->Prop) (J:It) (H':Hp),a= .ref d/\Inv X G Z H' s2/\Turn X.prog X.w X.K f J e d c/\c 0 s2.heap/\(∀ b∈e,li X G H' b)/\R J H'
def PI(X:Cx)(b iter:Expr)(a:TI):Prop:=
 ∀ (G:L1) (s:Shared) (Z:St) (H:Hp) (R:It->Hp->Prop),Inv X G Z H s->a Z H R->
  wpAny (model X.prog X.w) X.A (eval iter X.env) (λv c=>wpAny (model X.prog X.w) X.A (pyIter v) (PIE X G Z b R) X.xe c) X.xe s
theorem IN{M:Model}{A:Around}{E:L3}{s:Shared}{b:Expr}{c:Addr}{u:Value}{o:Obj}{n:String}{vs:Array Value}{Q:Unit->Shared->Prop}(d:s.heap.get? c=some o)(f:o.cls= .type n)(hd:o.data= .fields vs)
 (e:["enumerate","zip","dict_itemiterator","dict_reverseitemiterator","odict_iterator","itertools.zip_longest","itertools.pairwise"].contains n=false) (a:Q () s):wpAny M A (letOwnedTupleGo b (.ref c) u) Q E s:=by
 unfold letOwnedTupleGo
 cases b <;> first
  |exact VY a
  | (cases u <;> first
      |exact VY a
      | (refine VO (wpAny_load d ?_)
         rw[f,hd];show wpAny M A (if (["enumerate","zip","dict_itemiterator","dict_reverseitemiterator","odict_iterator","itertools.zip_longest","itertools.pairwise"].contains n&&vs[0]?==some (rawInt _))=true then _ else _) Q E s;rw[VM (by intro h; rw[e,Bool.false_and] at h; cases h)]
         exact VY a))
def VH(K:L0)(a:Addr):It:=
 ⟨λi H=>∃ xs x,SqL K H a xs/\xs[i]?=some x,λi H x H'=>H'=H/\∀ xs,SqL K H a xs->xs[i]?=some x,λi H=>∃ xs,SqL K H a xs/\xs.length<=i⟩
def US(lo:Int)(n:Nat):It:=⟨λi _=>i<n,λi H x H'=>H'=H/\x= .int (lo+i),λi _=>n<=i⟩
theorem Dv{P:Program}{w:World}{K:L0}{M:Expr}(a f:Addr):Turn P w K M (VH K a) [f] f (λi h=>h.IsListIter f a i) where
 mem:=by simp
 obj:=λi h st b g=>by
  have e:b=f:=by simpa using g
  subst e;obtain⟨o,e,c,d⟩:=st;exact⟨o,e,λv z=>by rw[d] at z; cases z⟩
 keep:=λi h h' st k=>st.at λo e=>k f (by simp) o e
 item:=by
  intro X y r A L i G s Z H E I m st t;subst y r A;obtain⟨xs,x,l,q⟩:=t;obtain⟨its,n,p,hz⟩:=I.list l;obtain⟨u,R,O⟩:=n.get q;obtain⟨J,F,S,D,C,B⟩:=m f (by simp);refine wpAny_pyNext_list_item st p.isList (x:=u) (by simpa using R) λh' j N=>?_;have U:Inv X G Z H {s with heap:=h'}:=I.turned (t':=s.toks) (λb o g e=>(N.2 b g).trans e) J F D C B;obtain⟨o,e,c,d⟩:=id j;exact⟨u,rfl,IN (s:={s with heap:=h'}) e c d (by decide) ⟨x,H,U,O,⟨rfl,λys Q=>by rw[I.list_inj Q l]; exact q⟩,j,λb g=>(m b g).1⟩⟩
 done:=by
  intro X y r A L i G s Z H E I m st t;subst y r A;obtain⟨xs,l,q⟩:=t;obtain⟨its,n,p,hz⟩:=I.list l;obtain⟨J,F,S,D,C,B⟩:=m f (by simp);have V:=n.length;exact wpAny_pyNext_list_end (I.ok.hd L) st p.isList (by simp; omega) λh' T=>⟨rfl,I.turned (t':=s.toks) (λb o g e=>T b o g e) J F D C B⟩
 self:=λ_ _ _ _ _ st h=>wpAny_pyIter_listiter st h
theorem yZ{P:Program}{w:World}{K:L0}{C:Expr}(a:Addr)(lo:Int)(n:Nat):Turn P w K C (US lo n) [a] a (λi h=>IsRangeIter h a (lo+(i:Nat)*1) ((n:Int)-(i:Nat)) 1) where
 mem:=by simp
 obj:=λi h st b c=>by
  have e:b=a:=by simpa using c
  subst e
  exact⟨_,st,λv z=>by
   have B:Data.fields _=Data.cell v:=z
   cases B⟩
 keep:=λi h h' st k=>k a (by simp) _ st
 item:=by
  intro X m g p l i G s Z H E I f st j;subst m g p;obtain⟨y,x,J,u,r,q⟩:=f a (by simp);have W:=Walks.range (prog:=X.prog) (w:=X.w) (I.ok.hd l) a lo 1 n;refine W.item i s _ _ j st λv h' A F d D=>?_;obtain⟨t,rfl⟩:=F;have M:Inv X G Z H {s with heap:=h',toks:=A}:=I.turned (λb o c e=>D b o (by simpa using c) e) y x u r q;refine⟨_,rfl,IN (s:={s with heap:=h',toks:=A}) (n := "range_iterator") d rfl rfl (by decide) ⟨.int (lo+i),H,M,⟨t,?_⟩,⟨rfl,rfl⟩,d,λb c=>(f b c).1⟩⟩;rw[Int.mul_one]
 done:=by
  intro X m g p l i G s Z H E I f st j;subst m g p;obtain⟨y,x,J,u,r,q⟩:=f a (by simp);exact wpAny_pyNext_range_end (I.ok.hd l) st (by have:n<=i:=j; omega) λh' L=>⟨rfl,I.turned (t':=s.toks) (λb o c e=>L b o c e) y x u r q⟩
 self:=λ_ _ _ _ _ st h=>wpAny_pyIter_rangeiter st h
section
variable{X:Cx}{tg:Expr}
def xI(K:L0)(b:TE):TI:=λZ H R=>b Z H λx L=>∃ a,x= .ref a/\(∃ xs,SqL K L a xs)/\R (VH K a) L
theorem Lb{l:Expr}{f:TE}(k:PE X l f):PI X tg l (xI X.K f):=by
 intro G s Z H R I h;refine b8 (k G s Z H _ I h) λv c ⟨x,L,d,g,i⟩=>?_;obtain⟨a,e,⟨xs,j⟩,q⟩:=i;subst e;cases g;obtain⟨its,n,p,hz⟩:=d.list j;refine XI p.isList ?_;refine⟨c.heap.objs.size,[c.heap.objs.size],_,_,L,rfl,d.kept (t':=c.toks) λb o e=>VS _ e,Dv a _,⟨_,V3 _ rfl,rfl,rfl⟩,λb m=>?_,q⟩;have e:b=c.heap.objs.size:=by simpa using m
 subst e;exact d.fpOk (VW _) (d.hok.fresh (VW _))
theorem wT{G:L1}{Z:St}{H:Hp}{s:Shared}{R:It->Hp->Prop}{E:L3}{lo hi:Int}{t u v:Tok}{a:Nat}(I:Inv X G Z H s)(i:-(2 ^ 62)<=lo)(h:lo<2 ^ 62)(g:-(2 ^ 62)<=hi)(f:hi<2 ^ 62)
 (q:R (US lo (hi-lo).toNat) H):wpAny (model X.prog X.w) X.A (pyIter (.ref s.heap.objs.size)) (PIE X G Z tg R) E {s with heap:=s.heap.push {cls:= .type "range",data:= .fields #[.int lo t,.int hi u,.int 1 v]},toks:=a}:=by
 refine wpAny_pyIter_range (IsRange.new ..) (small_one i h g f) ?_;have c:Inv X G Z H {s with heap:=s.heap.push {cls:= .type "range",data:= .fields #[.int lo t,.int hi u,.int 1 v]},toks:=a}:=I.kept λb o e=>VS _ e
 refine⟨(s.heap.push {cls:= .type "range",data:= .fields #[.int lo t,.int hi u,.int 1 v]}).objs.size,[(s.heap.push {cls:= .type "range",data:= .fields #[.int lo t,.int hi u,.int 1 v]}).objs.size],_,_,H,rfl,
  c.kept (t':=a) λb o e=>VS _ e,yZ _ lo (hi-lo).toNat,?_,λb d=>?_,q⟩
 · have k:lo+((0:Nat):Int)*1=lo:=by simp
   have j:(((hi-lo).toNat:Nat):Int)-((0:Nat):Int)=Builtin.Range.rangeSize lo hi 1:=by rw[rangeSize_one]; split<;>omega
   show IsRangeIter _ _ (lo+((0:Nat):Int)*1) ((((hi-lo).toNat:Nat):Int)-((0:Nat):Int)) 1;rw[k,j];exact V3 _ rfl
 · have e:b=(s.heap.push {cls:= .type "range",data:= .fields #[.int lo t,.int hi u,.int 1 v]}).objs.size:=by simpa using d
   subst e;exact c.fpOk (VW _) (c.hok.fresh (VW _))
def M0(ta:TA):TI:=λZ H R=>ta Z H λvs L=>∃ j:Int,vs=[.int j]/\-(2 ^ 62)<=j/\j<2 ^ 62/\R (US 0 j.toNat) L
def MZ(ta:TA):TI:=λZ H R=>ta Z H λvs L=>∃ i j:Int,vs=[.int i,.int j]/\(-(2 ^ 62)<=i/\i<2 ^ 62/\-(2 ^ 62)<=j/\j<2 ^ 62)/\R (US i (j-i).toNat) L
theorem cA{a:Expr}{ta:TA}{p b:Pos}(l:Gl X "range")(k:X.mg "range" = none)(m:PA X [a] ta)(i:starEach [a] X.env=[(false,eval a X.env)]:=by rfl):PI X tg (.Call (.Name "range" p) [a] [] b) (M0 ta):=by
 intro G s Z H R I h;refine Call_ (oq I l k boot_range (Xq (b8 (m b G s Z H _ I h) λus o ⟨vs,L,n,f,c⟩=>?_) i rfl));obtain⟨j,e,c,g,q⟩:=c;subst e;cases f with
 |cons r d=>
   cases d;obtain⟨t,rfl⟩:=r;exact call_range_1 (wT n (by omega) (by omega) c g (by simpa using q))
theorem t7{a b:Expr}{ta:TA}{p c:Pos}(w:Gl X "range")(v:X.mg "range" = none)(x:PA X [a,b] ta)(u:starEach [a,b] X.env=[(false,eval a X.env),(false,eval b X.env)]:=by rfl)(d:starEach [b] X.env=[(false,eval b X.env)]:=by rfl):
 PI X tg (.Call (.Name "range" p) [a,b] [] c) (MZ ta):=by
 intro G s Z H R I h;refine Call_ (oq I w v boot_range (Xq (b8 (x c G s Z H _ I h) λus z ⟨vs,L,y,k,g⟩=>?_) (by rw[u,d]) (by rw[d]; rfl)));obtain⟨i,j,e,⟨g,o,n,m⟩,q⟩:=g;subst e;cases k with
 |cons r f=>
   cases f with
   |cons l f=>
     cases f;obtain⟨t,rfl⟩:=r;obtain⟨t',rfl⟩:=l;exact call_range_2 (wT y g o n m q)
def Rt(d:TI)(g:TG)(tb:TS):TS:=λD Z H=>d Z H λJ L=>∃ W:Nat->Nat->St->Hp->Prop,(∃ m,W 0 m Z L)/\∀ i m Z H,W i m Z H->
 (J.stop i H/\D.nx Z H)\/(J.go i H/\∃ N:St->Hp->Prop,(∀ a H',N a H'->∃ c,c<m/\W (i+1) c a H')/\∀ x H',J.yld i H x H'->g x Z H' λb e=>tb {D with nx:=N,ct:=N,bk:=D.nx} b e)
def n5(a:List Addr)(h:Heap):L1:=a.filterMap λb=>(h.get? b).map λo=>(b,o)
theorem fS{a:List Addr}{h:Heap}{b:Addr}{o:Obj}(c:b∈a)(e:h.get? b=some o):(b,o)∈n5 a h:=List.mem_filterMap.mpr ⟨b,c,by rw[e]; rfl⟩
theorem DW{a:List Addr}{h:Heap}{p:Addr×Obj}(hp:p∈n5 a h):p.1∈a/\h.get? p.1=some p.2:=by
 obtain⟨b,c,e⟩:=List.mem_filterMap.mp hp;cases q:h.get? b with
 |none=>rw[q] at e; cases e
 |some o=>
   rw[q] at e;have d:(b,o)=p:=Wh e;subst d;exact⟨c,q⟩
theorem Inv.pinned{G:L1}{Z:St}{H:Hp}{s:Shared}{a:List Addr}(I:Inv X G Z H s)(h:∀ b∈a,li X G H b)(g:∀ b∈a,∃ o,s.heap.get? b=some o/\∀ v,o.data≠ .cell v):Inv X (G++n5 a s.heap) Z H s:=
 I.pins_of λp hp=>(List.mem_append.mp hp).elim (λz=>I.pin p (VV _ z)) λz=>by
  obtain⟨c,e⟩:=DW z;obtain⟨k,j,i,_⟩:=h p.1 c;obtain⟨o,f,d⟩:=g p.1 c;rw[e] at f; cases f;exact⟨e,k,j,i,d⟩
theorem Inv.unpinned{G pl:L1}{Z:St}{H:Hp}{s:Shared}(I:Inv X (G++pl) Z H s):Inv X G Z H s:=I.pins_of λp hp=>I.pin p (VV _ (V9 _ hp))
theorem cW{iter:Expr}{body:List Stmt}{wi:TI}{g:TG}{tb:TS}{S:Pos}(hp:PassesOwn (model X.prog X.w) X.A X.env X.xe)(hc:X.calm=true)(hi:PI X tg iter wi)(hg:PG X tg g)(l:PSs X body tb)
 (hs:∀ x,foldedSetIterable iter X.env x=pure x:=by intro _; rfl):PS X (.For tg iter body [] S) (Rt wi g tb):=by
 intro G s Z H D I h;refine wpAny_For (b8 (hi G s Z H _ I h) λv s1 h1=>b8 h1 λitv s2 h2=>?_) hs;obtain⟨it,L,tn,J,H2,e,I2,T,Q,f2,W,⟨m0,w0⟩,B⟩:=h2;subst e
 -- what P true of the y E through the loop
 have k:∀ {H':Hp},(∀ b∈L,H' b=none)->∀ b∈L,li X G H' b:=λhn b l=>⟨hn b l,(f2 b l).2⟩;refine codeAny_forLoop_any (λn s'=>∃ i j H',Inv X G j H' s'/\tn i s'.heap/\(∀ b∈L,H' b=none)/\W i n j H') ?_ m0 ⟨0,Z,H2,I2,Q,λb l=>(f2 b l).1,w0⟩;rintro n s3 ⟨i,c,M,I3,C,K,w3⟩;rcases B i n c M w3 with ⟨stop,qn⟩|⟨go,N,hN,step⟩
 ·refine W5 hp (b8 (T.done X rfl rfl rfl hc i G s3 c M X.xe I3 (k K) C stop) λr s4 ⟨U,I4⟩=>?_);subst U;exact XB ⟨c,M,I4,qn⟩
 · refine W5 hp (b8 (T.item X rfl rfl rfl hc i G s3 c M X.xe I3 (k K) C go) λr s4 ⟨u,U,h4⟩=>?_);subst U;refine W5 hp (b8 h4 λ_ s5 ⟨x,H5,I5,r5,y5,z,V⟩=>?_);have Y:=I5.pinned (k V) (T.obj _ _ z);refine W5 hp (b8 (hg _ s5 c H5 x u _ Y r5 (step x H5 y5)) λ_ s6 ⟨O,H6,I6,q6⟩=>?_);refine W5 hp (b8 (l _ s6 O H6 _ I6 q6) λf R t=>?_)
   have again:∀ {a:St} {q:Hp},Inv X (G++n5 L s5.heap) a q R->N a q->∃ m,m<n/\∃ i j H',Inv X G j H' R/\tn i R.heap/\(∀ b∈L,H' b=none)/\W i m j H':=λ{a q} p F=>by
    obtain⟨m',hm,w7⟩:=hN a q F;refine⟨m',hm,i+1,a,q,p.unpinned,T.keep _ _ _ z λb l o e=>(p.pin (b,o) (VV _ (VV _ (fS l e)))).1,λb l=>?_,w7⟩;obtain⟨o,e,d⟩:=T.obj _ _ z b l;exact(p.pin (b,o) (VV _ (VV _ (fS l e)))).2.1
   cases f with
   |next=>obtain⟨a,q,p,F⟩:=t; exact again p F
   |cont=>obtain⟨a,q,p,F⟩:=t; exact again p F
   |brk=>obtain⟨a,q,p,t⟩:=t; exact⟨a,q,p.unpinned,t⟩
   |ret v=>obtain⟨x7,a,q,p,r7,t⟩:=t; exact⟨x7,a,q,p.unpinned,r7,t⟩
end
abbrev R2:=V->V->Hp->VK->Prop
def nK(X:Cx)(f:Value->Value->Sem Value)(r:R2):Prop:=
 ∀ (G:L1) (s:Shared) (Z:St) (H:Hp) (x y:V) (v u:Value) (Q:VK),Inv X G Z H s->RelV x v->RelV y u->r x y H Q->
  wpAny (model X.prog X.w) X.A (f v u) (EP X G Z Q) X.xe s
def VE(X:Cx)(f:Value->Sem Value)(r:V->Hp->VK->Prop):Prop:=
 ∀ (G:L1) (s:Shared) (Z:St) (H:Hp) (x:V) (v:Value) (Q:VK),Inv X G Z H s->RelV x v->r x H Q->
  wpAny (model X.prog X.w) X.A (f v) (EP X G Z Q) X.xe s
def dJ(X:Cx)(f:Value)(r:List V->Hp->VK->Prop):Prop:=
 ∀ (G:L1) (s:Shared) (Z:St) (H:Hp) (xs:List V) (us:List Value) (Q:VK),Inv X G Z H s->Vals xs us->r xs H Q->
  wpAny (model X.prog X.w) X.A (call f us) (EP X G Z Q) X.xe s
def Mr(r:R2)(ta tb:TE):TE:=λZ H Q=>ta Z H λx L=>tb Z L λy a=>r x y a Q
def tUn(r:V->Hp->VK->Prop)(ta:TE):TE:=λZ H Q=>ta Z H λx L=>r x L Q
def rI(C:Int->Int->Prop)(g:Int->Int->V):R2:=λx y H Q=>∃ i j,x= .int i/\y= .int j/\C i j/\Q (g i j) H
def BA(g:Int->Int->V):R2:=λx y H Q=>∃ i j,x= .int i/\y= .int j/\Q (g i j) H
def rU(g:Int->V):V->Hp->VK->Prop:=λx H Q=>∃ i,x= .int i/\Q (g i) H
section
variable{X:Cx}{a b c:Expr}{ta tb tc:TE}{pos:Pos}
theorem QM(o:PE X a ta)(n:PE X b tb){G:L1}{s:Shared}{Z:St}{H:Hp}{R:V->V->Hp->Prop}(I:Inv X G Z H s)
 (h:ta Z H λx L=>tb Z L λy c=>R x y c) {Q:L3} {f:Value->Value->Sem Value}
 (m:∀ v u s2 x y c,Inv X G Z c s2->RelV x v->RelV y u->R x y c->wpAny (model X.prog X.w) X.A (f v u) Q X.xe s2):
 wpAny (model X.prog X.w) X.A (eval a X.env) (λv e=>wpAny (model X.prog X.w) X.A (eval b X.env) (λu d=>wpAny (model X.prog X.w) X.A (f v u) Q X.xe d) X.xe e) X.xe s:=by
 refine b8 (o G s Z H _ I h) λv g ⟨x,L,q,j,l⟩=>?_;refine b8 (n G g Z L _ q l) λu s2 ⟨y,c,p,i,k⟩=>?_;exact m v u s2 x y c p j i k
theorem aB{c:Operator}{r:R2}(f:nK X (binaryOp c) r)(i:PE X a ta)(g:PE X b tb):PE X (.BinOp a c b pos) (Mr r ta tb):=by
 intro G s Z H Q I h;exact wpAny_BinOp (QM i g I h λv u s2 x y k j e d q=>f G s2 Z k x y v u Q j e d q)
theorem MH{b:UnaryOp}{r:V->Hp->VK->Prop}(f:VE X (unaryOp b) r)(g:PE X a ta):PE X (.UnaryOp b a pos) (tUn r ta):=by
 intro G s Z H Q I h;exact UnaryOp_ (b8 (g G s Z H _ I h) λv c ⟨x,L,i,d,e⟩=>f G c Z L x v Q i d e)
theorem Sc{f:Value->Value->Sem Value}{C:Int->Int->Prop}{g:Int->Int->Int}
 (rule:∀ (i j:Int) (t u:Tok) (s:Shared) (Q:L3) (E:L3),C i j->Q (.int (g i j) s.toks) {s with toks:=s.toks+1}->wpAny (model X.prog X.w) X.A (f (.int i t) (.int j u)) Q E s):
 nK X f (rI C λi j=> .int (g i j)):=by
 intro G s Z H x y v u Q I b a h;obtain⟨i,j,rfl,rfl,c,q⟩:=h;obtain⟨t,rfl⟩:=b;obtain⟨t',rfl⟩:=a;exact rule i j t t' s _ _ c ⟨.int (g i j),H,I.tok _,⟨_,rfl⟩,q⟩
theorem Sb{f:Value->Value->Sem Value}{g:Int->Int->Int}
 (rule:∀ (i j:Int) (t u:Tok) (s:Shared) (Q:L3) (E:L3),Q (.int (g i j) s.toks) {s with toks:=s.toks+1}->wpAny (model X.prog X.w) X.A (f (.int i t) (.int j u)) Q E s):
 nK X f (BA λi j=> .int (g i j)):=by
 intro G s Z H x y v u Q I b a h;obtain⟨i,j,rfl,rfl,q⟩:=h;obtain⟨t,rfl⟩:=b;obtain⟨t',rfl⟩:=a;exact rule i j t t' s _ _ ⟨.int (g i j),H,I.tok _,⟨_,rfl⟩,q⟩
theorem Ou{f:Value->Value->Sem Value}{g:Int->Int->Bool}
 (rule:∀ (i j:Int) (t u:Tok) (s:Shared) (Q:L3) (E:L3),Q (.bool (g i j)) s->wpAny (model X.prog X.w) X.A (f (.int i t) (.int j u)) Q E s):
 nK X f (BA λi j=> .bl (g i j)):=by
 intro G s Z H x y v u Q I b a h;obtain⟨i,j,rfl,rfl,q⟩:=h;obtain⟨t,rfl⟩:=b;obtain⟨t',rfl⟩:=a;exact rule i j t t' s _ _ ⟨.bl (g i j),H,I,rfl,q⟩
def Rb(i j:Int):Prop:=0<j/\j<1073741824
def Ra(i j:Int):Prop:=0<=j/\j<=1000000/\i.natAbs<2 ^ 64
def CMul(i j:Int):Prop:=(-(2 ^ 64)<i/\i<2 ^ 64)\/(-(2 ^ 64)<j/\j<2 ^ 64)
theorem CMul.ok{i j:Int}(h:CMul i j):IntMulOk i j:=by
 rcases h with ⟨b,a⟩|⟨b,a⟩
 ·exact .of_left (intBits_le_64 b a)
 ·exact .of_right (intBits_le_64 b a)
theorem yY(k:Nat):(0:Int)<=2 ^ k:=by
 rw[two_pow_cast];exact Int.natCast_nonneg _
theorem eE:nK X (binaryOp .Add) (BA λi j=> .int (i+j)):=Sb λ_ _ _ _ _ _ _ q=>add_int q
theorem hE:nK X (binaryOp .Sub) (BA λi j=> .int (i-j)):=Sb λ_ _ _ _ _ _ _ q=>sub_int q
theorem lX:nK X (binaryOp .Mult) (rI CMul λi j=> .int (i*j)):=Sc λ_ _ _ _ _ _ _ a q=>mul_int q a.ok
theorem fA:nK X (binaryOp .FloorDiv) (rI Rb λi j=> .int (i / j)):=Sc λi j _ _ _ _ _ a q=>by
 have c:(0:Int)<j:=a.1;have b:j<1073741824:=a.2;exact floordiv_int (by omega) (by rw[Yc i (by omega)]; exact q) (.inl (PyProof.noPylong_small (by omega)))
theorem bw:nK X (binaryOp .Mod) (rI (λ_ j=>0<j) λi j=> .int (i%j)):=Sc λi j _ _ _ _ _ a q=>by
 have b:(0:Int)<j:=a;exact mod_int' (by omega) (by rw[Int.fmod_eq_emod_of_nonneg i (by omega)]; exact q)
theorem GT:nK X (binaryOp .Pow) (rI Ra λi j=> .int (i ^ j.toNat)):=Sc λ_ _ _ _ _ _ _ a q=>pow_int_small a.1 a.2.1 a.2.2 q
theorem Oq:nK X (binaryOp .RShift) (rI (λ_ j=>0<=j) λi j=> .int (i / 2 ^ j.toNat)):=Sc λi j _ _ _ _ _ a q=>
 rshift_int a (by rw[Yc i (yY _)]; exact q)
theorem unI{f:Value->Sem Value}{g:Int->Int}
 (rule:∀ (i:Int) (t:Tok) (s:Shared) (Q:L3) (E:L3),Q (.int (g i) s.toks) {s with toks:=s.toks+1}->wpAny (model X.prog X.w) X.A (f (.int i t)) Q E s):
 VE X f (rU λi=> .int (g i)):=by
 intro G s Z H x v Q I a h;obtain⟨i,rfl,q⟩:=h;obtain⟨t,rfl⟩:=a;exact rule i t s _ _ ⟨.int (g i),H,I.tok _,⟨_,rfl⟩,q⟩
theorem E5:VE X (unaryOp .USub) (rU λi=> .int (-i)):=unI λ_ _ _ _ _ q=>neg_int q
end
def Nu:V->V->Bool
 |.non,.non=>true | .non,.int _=>true | .int _,.non=>true | .non,.bl _=>true | .bl _,.non=>true | .non,.str _=>true | .str _,.non=>true
 |.int _,.int _=>true | .bl _,.bl _=>true | .str _,.str _=>true | .byt _,.byt _=>true
 |.int _,.str _=>true | .str _,.int _=>true | .bl _,.str _=>true | .str _,.bl _=>true
 |_,_=>false
def rEq:R2:=λx y H Q=>Nu x y=true/\Q (.bl (decide (x=y))) H
def rNe:R2:=λx y H Q=>Nu x y=true/\Q (.bl (!decide (x=y))) H
theorem Cg{i j:Int}:decide (V.int i=V.int j)=(i==j):=by
 rw[Xk];simp
theorem Jb{i j:Bool}:decide (V.bl i=V.bl j)=(i==j):=by
 rw[Xk];simp
theorem Cf{i j:Str}:decide (V.str i=V.str j)=(i==j):=by
 rw[Xk];simp
theorem Ch{i j:Array UInt8}:decide (V.byt i=V.byt j)=(i.toList==j.toList):=by
 rw[Xk];cases i;cases j;simp
section
variable{X:Cx}{a b c:Expr}{ta tb tc:TE}{pos:Pos}
theorem bI{G:L1}{Z:St}{H:Hp}{s:Shared}{Q:VK}{k k':Bool}(I:Inv X G Z H s)(q:Q (.bl k) H)(e:k=k'):EP X G Z Q (.bool k') s:=by
 subst e;exact⟨.bl k,H,I,rfl,q⟩
theorem hG:nK X (compareOp .Eq) rEq:=by
 intro G s Z H x y v u Q I c a h;obtain⟨b,q⟩:=h;cases x with
 |non=>
   cases c;cases y with
   |non=>cases a; exact PySem.EqNone.eq_none_none (bI I q (by simp))
   |bl j=>cases a; exact PySem.EqNone.eq_none_bool (bI I q (by simp))
   |int j=>obtain⟨t',rfl⟩:=a; exact PySem.EqNone.eq_none_int (bI I q (by simp))
   |str j=>obtain⟨t',rfl⟩:=a; exact PySem.EqNone.eq_none_str (bI I q (by simp))
   |_=>exact absurd (show false=true from b) V0
 |bl i=>
   cases c;cases y with
   |non=>cases a; exact PySem.EqNone.eq_bool_none (bI I q (by simp))
   |bl j=>cases a; exact eq_bool (bI I q Jb)
   |str j=>obtain⟨t',rfl⟩:=a; exact PySem.EqMixed.eq_bool_str (bI I q (by simp))
   |_=>exact absurd (show false=true from b) V0
 |int i=>
   obtain⟨t,rfl⟩:=c;cases y with
   |non=>cases a; exact PySem.EqNone.eq_int_none (bI I q (by simp))
   |int j=>obtain⟨t',rfl⟩:=a; exact eq_int (bI I q Cg)
   |str j=>obtain⟨t',rfl⟩:=a; exact PySem.EqMixed.eq_int_str (bI I q (by simp))
   |_=>exact absurd (show false=true from b) V0
 |str i=>
   obtain⟨t,rfl⟩:=c;cases y with
   |non=>cases a; exact PySem.EqNone.eq_str_none (bI I q (by simp))
   |bl j=>cases a; exact PySem.EqMixed.eq_str_bool (bI I q (by simp))
   |int j=>obtain⟨t',rfl⟩:=a; exact PySem.EqMixed.eq_str_int (bI I q (by simp))
   |str j=>obtain⟨t',rfl⟩:=a; exact eq_str (bI I q Cf)
   |_=>exact absurd (show false=true from b) V0
 |byt i=>
   obtain⟨t,rfl⟩:=c;cases y with
   |byt j=>obtain⟨t',rfl⟩:=a; exact PySem.W.eq_bytes (bI I q Ch)
   |_=>exact absurd (show false=true from b) V0
 |_=>cases y<;>exact absurd (show false=true from b) V0
theorem fg:nK X (compareOp .NotEq) rNe:=by
 intro G s Z H x y v u Q I c a h;obtain⟨b,q⟩:=h;cases x with
 |non=>
   cases c;cases y with
   |non=>cases a; exact PySem.EqNone.ne_none_none (bI I q (by simp))
   |bl j=>cases a; exact PySem.EqNone.ne_none_bool (bI I q (by simp))
   |int j=>obtain⟨t',rfl⟩:=a; exact PySem.EqNone.ne_none_int (bI I q (by simp))
   |str j=>obtain⟨t',rfl⟩:=a; exact PySem.EqNone.ne_none_str (bI I q (by simp))
   |_=>exact absurd (show false=true from b) V0
 |bl i=>
   cases c;cases y with
   |non=>cases a; exact PySem.EqNone.ne_bool_none (bI I q (by simp))
   |bl j=>cases a; exact ne_bool (bI I q (congrArg not Jb))
   |str j=>obtain⟨t',rfl⟩:=a; exact PySem.EqMixed.ne_bool_str (bI I q (by simp))
   |_=>exact absurd (show false=true from b) V0
 |int i=>
   obtain⟨t,rfl⟩:=c;cases y with
   |non=>cases a; exact PySem.EqNone.ne_int_none (bI I q (by simp))
   |int j=>obtain⟨t',rfl⟩:=a; exact ne_int (bI I q (congrArg not Cg))
   |str j=>obtain⟨t',rfl⟩:=a; exact PySem.EqMixed.ne_int_str (bI I q (by simp))
   |_=>exact absurd (show false=true from b) V0
 |str i=>
   obtain⟨t,rfl⟩:=c;cases y with
   |non=>cases a; exact PySem.EqNone.ne_str_none (bI I q (by simp))
   |bl j=>cases a; exact PySem.EqMixed.ne_str_bool (bI I q (by simp))
   |int j=>obtain⟨t',rfl⟩:=a; exact PySem.EqMixed.ne_str_int (bI I q (by simp))
   |str j=>obtain⟨t',rfl⟩:=a; exact ne_str (bI I q (congrArg not Cf))
   |_=>exact absurd (show false=true from b) V0
 |byt i=>
   obtain⟨t,rfl⟩:=c;cases y with
   |byt j=>obtain⟨t',rfl⟩:=a; exact PySem.W.ne_bytes (bI I q (congrArg not Ch))
   |_=>exact absurd (show false=true from b) V0
 |_=>cases y<;>exact absurd (show false=true from b) V0
theorem o5:nK X (compareOp .Lt) (BA λi j=> .bl (decide (i<j))):=Ou λ_ _ _ _ _ _ _ q=>lt_int q
theorem qQ:nK X (compareOp .Gt) (BA λi j=> .bl (decide (j<i))):=Ou λ_ _ _ _ _ _ _ q=>gt_int q
theorem Sa:nK X (compareOp .GtE) (BA λi j=> .bl (decide (j<=i))):=Ou λ_ _ _ _ _ _ _ q=>ge_int q
theorem GU:nK X (compareOp .Is) (λx y H Q=>y= .non/\Q (.bl (decide (x= .non))) H):=by
 intro G s Z H x y v u Q I a b h;obtain⟨rfl,q⟩:=h;cases b;refine is_none_gen (bI I q ?_)
 cases x <;> first
  |(cases a; rfl)
  |(obtain⟨t,rfl⟩:=a; rfl)
theorem vd:nK X (compareOp .NotIn) (λx y H Q=>∃ i j,x= .str i/\y= .str j/\Q (.bl (!(!(Builtin.Str.occurrences j i 0 j.length 1).isEmpty))) H):=by
 intro G s Z H x y v u Q I b a h;obtain⟨i,j,rfl,rfl,q⟩:=h;obtain⟨t,rfl⟩:=b;obtain⟨t',rfl⟩:=a;exact notIn_str (bI I q rfl)
theorem aL(b:Expr){a:CmpOp}(h:a≠ .In:=by decide)(c:a≠ .NotIn:=by decide):behindInMarks a b=false:=by
 have e:(a == CmpOp.In)=false:=by cases a <;> first | rfl | exact absurd rfl h
 have d:(a == CmpOp.NotIn)=false:=by cases a <;> first | rfl | exact absurd rfl c
 cases b<;>simp[behindInMarks,e,d]
theorem u9{c:CmpOp}{r:R2}(f:nK X (compareOp c) r)(j:PE X a ta)(i:PE X b tb)(g:behindInMarks c b=false):PE X (.Compare a [c] [b] pos) (Mr r ta tb):=by
 intro G s Z H Q I h;exact wpAny_Compare1 (QM j i I h λv u s2 x y l k e d q=>f G s2 Z l x y v u Q k e d q) g
def Mq(t:TE):TT:=λZ H Q=>t Z H λx H'=>∃ k,x= .bl k/\Q k H'
theorem ax{d:CmpOp}{r:R2}(o:nK X (compareOp d) r)(t:PE X a ta)(q:PE X b tb)(p:behindInMarks d b=false):PT X (.Compare a [d] [b] pos) (Mq (Mr r ta tb)):=by
 intro G s Z H Q I h
 refine wpAny_isTrue_Compare1 (b8 (t G s Z H _ I h) λv f ⟨x,L,B,j,n⟩=>b8 (q G f Z L _ B n) λu s2 ⟨y,D,A,i,m⟩=>
  b8 (o G s2 Z D x y v u _ A j i m) λc E ⟨z,C,w,g,k,e,l⟩=>?_) p
 subst e;cases g;exact WQ ⟨C,w,l⟩
theorem rf:(sizeLine:Nat)<2 ^ 63:=by rw[Xg]; decide
theorem qS:nK X (binaryOp .Add) (λx y H Q=>∃ i j,x= .str i/\y= .str j/\i.length+j.length<=sizeLine/\Q (.str (i++j)) H):=by
 intro G s Z H x y v u Q I b a h;obtain⟨i,j,rfl,rfl,hz,q⟩:=h;obtain⟨t,rfl⟩:=b;obtain⟨t',rfl⟩:=a;exact add_str (λt' c=>⟨.str (i++j),H,I.tok _,⟨_,rfl⟩,q⟩) hz
theorem jZ{x:V}{us:List Value}(r:Vals [x] us):∃ u,us=[u]/\RelV x u:=by
 cases r with
 |cons b a=>cases a; exact⟨_,rfl,b⟩
theorem E3{x y:V}{us:List Value}(r:Vals [x,y] us):∃ u a,us=[u,a]/\RelV x u/\RelV y a:=by
 cases r with
 |cons e d=>
   cases d with
   |cons c b=>cases b; exact⟨_,_,rfl,e,c⟩
theorem fY(b:X.calm=true):dJ X (.builtin "max") (λxs H Q=>∃ i j,xs=[.int i,.int j]/\Q (.int (if j>i then j else i)) H):=by
 intro G s Z H xs us Q I r h;obtain⟨i,j,rfl,q⟩:=h;obtain⟨u,c,rfl,⟨t,rfl⟩,⟨t',rfl⟩⟩:=E3 r;refine max_two_ints (I.ok.hd b) λh' d k=>⟨_,H,I.kept k,?_,q⟩;by_cases a:j>i
 ·rw[on a,on a]; exact⟨_,rfl⟩
 ·rw[VM a,VM a]; exact⟨_,rfl⟩
theorem lA(b:X.calm=true):dJ X (.builtin "min") (λxs H Q=>∃ i j,xs=[.int i,.int j]/\Q (.int (if j<i then j else i)) H):=by
 intro G s Z H xs us Q I r h;obtain⟨i,j,rfl,q⟩:=h;obtain⟨u,c,rfl,⟨t,rfl⟩,⟨t',rfl⟩⟩:=E3 r;refine min_two_ints (I.ok.hd b) λh' d k=>⟨_,H,I.kept k,?_,q⟩;by_cases a:j<i
 ·rw[on a,on a]; exact⟨_,rfl⟩
 ·rw[VM a,VM a]; exact⟨_,rfl⟩
end
structure ObjM (h:Heap) (x dx C:Addr) (mA:Str->Option Value):Prop where
 obj:h.get? x=some (PySem.W.instObj C dx)
 ns:h.Ns1 dx mA
 ne:dx≠x
theorem D8{h:Heap}{dx:Addr}{d:Str->Option Value}(n:h.Ns1 dx d):∃ c,h.get? dx=some c/\∀ name,PySem.W.lookIn name c=some (d name):=by
 obtain⟨o,es,ep,g,hd,j,_,i⟩:=n;refine⟨o,g,λname=>?_⟩;have e:=i name;unfold nsFind findBy at e;rw[<-Array.find?_toList] at e;unfold PySem.W.lookIn;rw[hd];dsimp only;split
 ·rename_i y q;rw[q] at e;exact congrArg some e
 · rename_i q;rw[q] at e
   have a:es.toList.any (·.refKey)=false:=by
    rw[List.any_eq_false];intro y f;obtain⟨z,t,b⟩:=j y (Array.mem_toList_iff.mp f);simp[DictEntry.refKey,b]
   have k:¬ es.toList.any (·.refKey)=true:=by rw[a]; exact V0
   rw[VM k];exact congrArg some e
theorem ObjM.look{h:Heap}{x dx C:Addr}{b:Str->Option Value}(I:ObjM h x dx C b):∃ a,PySem.W.InstAt h x (PySem.W.instObj C dx) C (some a)/\∀ name,PySem.W.lookIn name a=some (b name):=
 let ⟨a,c,d⟩:=D8 I.ns
 ⟨a,⟨I.obj,rfl,rfl,c⟩,d⟩
section
variable{prog:Program}{w:World}{A:Around}{E:L3}{s:Shared}{K:L0}{x dx C f:Addr}{mA:Str->Option Value}{name:Str}{v:Value}
theorem LR{a:Bool}{Q:L3}(X:K.In s.heap)(I:ObjM s.heap x dx C mA)(f:PySem.W.plainGet K C name=true)(e:PySem.W.hasDictIn K C=true)
 (g:PySem.W.findIn K (.ref C) name=some none) (c:mA name=some v) (b:PySem.W.handedIn v=true) (h:Q v {s with toks:=s.toks+1}):
 wpAny (model prog w) A (getAttr (.ref x) name a) Q E s:=by
 obtain⟨i,J,d⟩:=I.look;exact PySem.W.get_value X J (X4 f).1 (PySem.W.findObj_own e g rfl (by rw[d,c])) b h
theorem IP{pl:Sem Bool}{Q:Value×List Value->Shared->Prop}(X:K.In s.heap)(I:ObjM s.heap x dx C mA)(a:PySem.W.plainGet K C name=true)
 (g:PySem.W.findIn K (.ref C) name=some (some (.ref f))) (d:PySem.W.isFn K (.ref f)=true) (c:mA name=none) (h:Q (.ref f,[.ref x]) s):
 wpAny (model prog w) A (getMethod (.ref x) name pl) Q E s:=by
 obtain⟨b,J,e⟩:=I.look;exact PySem.W.method_fn X J (X4 a).1 (X4 a).2 g (beq_iff_eq.mp d) (by show(PySem.W.lookIn name b).map (·.isSome)=some false; rw[e,c]; rfl) h
theorem K1{ns:List Str}{Q:Unit->Shared->Prop}(X:K.In s.heap)(I:ObjM s.heap x dx C mA)
 (m:PySem.W.findIn K (.ref C) "__setattr__" = some (some (.builtin "object.__setattr__"))) (hp:PySem.W.plainOver K C=true) (l:PySem.W.takerIn K C name=some none) (n:PySem.W.hasDictIn K C=true)
 (k:PySem.Within mA ns) (hsz:ns.length<=sizeLine)
 (h:∀ h',ObjM h' x dx C (λy=>if y=name then some v else mA y)->Heap.SameBut dx s.heap h'->Q () {s with heap:=h',toks:=s.toks+2}):
 wpAny (model prog w) A (setAttr (.ref x) name v) Q E s:=by
 obtain⟨t,J,z⟩:=I.look;refine PySem.W.set_plain X J m (PySem.W.osa_open (s:={s with toks:=s.toks+1}) (r:=none) X J hp l λb=>?_);obtain⟨cd,o,g⟩:=PySem.W.any_some n;have j:s.heap.get? x=some ⟨.ref C,some dx,.plain,#[]⟩:=I.obj;refine VO (VY (VO (VO (wpAny_loadPart j (VO (PySem.W.Looks.here (s:={s with toks:=s.toks+1}) (PySem.W.looks_clsIn X o) ?_))))));rw[g];refine VY (a:=some dx) (VO (VY (VO ?_)));refine wpAny_nsSet1 (s:={s with toks:=s.toks+1}) I.ns λh' d c=>?_;obtain⟨u,p,q,e,f,i⟩:=d.count (PySem.Within.cons name v k);refine VO (wpAny_lookBehind e (by rw[f]; exact pastItsLine_dict (V4 i (by rw[VU]; omega))) ?_);exact VY (h _ ⟨(c.2 _ (Xv I.ne)).trans I.obj,d,I.ne⟩ c)
theorem HS{R:Result->Shared->Prop}{vs:List Value}{a:List (Str×Value)}(X:K.In s.heap)(b:PySem.W.makesIn K C=true)
 (hi:PySem.W.findIn K (.ref C) "__init__" = some (some (.ref f))) (c:PySem.W.typeIn K (.ref f)=some (.type "function"))
 (h:codeAny (model prog w) (A.under (.builtin "type.__call__" ⟨.ref C::vs,a⟩)) (.call (.ref f) ⟨.ref (s.heap.objs.size+1)::vs,a⟩) (PySem.W.InitBack (s.heap.objs.size+1) R)
   {s with heap:=(s.heap.push PySem.W.emptyDict).push (PySem.W.instObj C s.heap.objs.size)}):
 codeAny (model prog w) A (.call (.ref C) ⟨vs,a⟩) R s:=by
 obtain⟨e,g,d,t,os⟩:=s;exact PySem.W.make_core (PySem.W.makes_of X b) (PySem.W.looks_findIn X hi) (λself=>PySem.W.bind_fn X self c) (.inl rfl) h
end
def g7(f:Str)(v:V):List (Str×V)->List (Str×V)
 |[]=>[(f,v)]
 |(g,x)::r=>if g=f then (g,v)::r else (g,x)::g7 f v r
theorem o9(f g:Str)(v:V):∀ fs:List (Str×V),(g7 f v fs).lookup g=if g=f then some v else fs.lookup g
 | []=>by
   show List.lookup g [(f,v)]=_;by_cases h:g=f
   ·have a:(g==f)=true:=beq_iff_eq.mpr h;simp only[List.lookup,a,on h]
   ·have a:(g==f)=false:=beq_eq_false_iff_ne.mpr h;simp only[List.lookup,a,VM h]
 | (k,x)::r=>by
   have c:=o9 f g v r;rw[show g7 f v ((k,x)::r)=(if k=f then (k,v)::r else (k,x)::g7 f v r) from rfl];by_cases b:k=f
   · rw[on b];by_cases h:g=k
     ·have a:(g==k)=true:=beq_iff_eq.mpr h;simp only[List.lookup,a,on (h.trans b)]
     ·have a:(g==k)=false:=beq_eq_false_iff_ne.mpr h;simp only[List.lookup,a,VM (λe:g=f=>h (e.trans b.symm))]
   · rw[VM b];by_cases h:g=k
     ·have a:(g==k)=true:=beq_iff_eq.mpr h;simp only[List.lookup,a,VM (λe:g=f=>b (h.symm.trans e))]
     ·have a:(g==k)=false:=beq_eq_false_iff_ne.mpr h;simp only[List.lookup,a];exact c
theorem ot(f:Str)(v:V):∀ fs:List (Str×V),f∈(g7 f v fs).map (·.1)/\∀ g,g∈fs.map (·.1)->g∈(g7 f v fs).map (·.1)
 |[]=>⟨by simp[g7],λg h=>by simp at h⟩
 | (k,x)::r=>by
   obtain⟨c,b⟩:=ot f v r;rw[show g7 f v ((k,x)::r)=(if k=f then (k,v)::r else (k,x)::g7 f v r) from rfl];by_cases a:k=f
   ·rw[on a];subst a;exact⟨by simp,λg h=>by simpa using h⟩
   · rw[VM a];refine⟨?_,λg h=>?_⟩
     ·rw[VQ];exact VR _ c
     · rw[VQ] at h ⊢;rcases List.mem_cons.mp h with e|e
       ·exact List.mem_cons.mpr (.inl e)
       ·exact VR _ (b g e)
theorem pf(f:Str)(v:V):∀ fs:List (Str×V),(g7 f v fs).length<=fs.length+1
 |[]=>by simp[g7]
 | (k,x)::r=>by
   have b:=pf f v r;rw[show g7 f v ((k,x)::r)=(if k=f then (k,v)::r else (k,x)::g7 f v r) from rfl];by_cases a:k=f
   ·rw[on a,VU,VU]; omega
   ·rw[VM a,VU,VU]; omega
theorem RelO.some_of{v:V}{o:Option Value}(r:RelO (some v) o):∃ u,o=some u/\RelV v u:=by
 cases o with
 |none=>exact(show False from r).elim
 |some u=>exact⟨u,rfl,r⟩
theorem RelO.none_of{o:Option Value}(r:RelO none o):o=none:=by
 cases o with
 |none=>rfl
 |some u=>exact(show False from r).elim
theorem Ei{v:V}{u:Value}(r:RelV v u):PySem.W.handedIn u=true:=by
 cases v with
 |non=>cases(show u=Value.none from r); rfl
 |bl b=>cases(show u=Value.bool b from r); rfl
 |int i=>obtain⟨t,e⟩:=(show ∃ t,u=Value.int i t from r); cases e; rfl
 |str x=>obtain⟨t,e⟩:=(show ∃ t,u=Value.str x t from r); cases e; rfl
 |byt b=>obtain⟨t,e⟩:=(show ∃ t,u=Value.bytes b t from r); cases e; rfl
 |flt b=>obtain⟨t,e⟩:=(show ∃ t,u=Value.float b t from r); cases e; rfl
 |ref a=>cases(show u=Value.ref a from r); rfl
 |ty n=>cases(show u=Value.type n from r); rfl
section
variable{P:Program}{w:World}{H H':Hp}{h h':Heap}{a C dx:Addr}{fs fs':List (Str×V)}
theorem qf(hok:HOk P w H h)(e:H a=some (.ins C dx fs)):∃ b,ObjM h a dx C b/\(∀ f,RelO (fs.lookup f) (b f))/\PySem.Within b (fs.map (·.1))/\fs.length<=1000/\H dx=some (.own a):=by
 obtain⟨d,z,ne,ob,b,n,r,q⟩:=(show ObjOk P w H h a (.ins C dx fs) from hok a _ e);exact⟨b,⟨ob,n,ne⟩,r,q,z,d⟩
end
structure Cls (K:L0) (C:Addr):Prop where
 pg:PySem.W.plainGet K C Str.empty=true
 hd:PySem.W.hasDictIn K C=true
 po:PySem.W.plainOver K C=true
 sa:PySem.W.findIn K (.ref C) "__setattr__" = some (some (.builtin "object.__setattr__"))
theorem Cls.get{K:L0}{C:Addr}(c:Cls K C)(f:Str):PySem.W.plainGet K C f=true:=c.pg
def NoAttr(K:L0)(C:Addr)(f:Str):Prop:=PySem.W.findIn K (.ref C) f=some none
theorem NoAttr.taker{K:L0}{C:Addr}{f:Str}(n:NoAttr K C f):PySem.W.takerIn K C f=some none:=by
 unfold PySem.W.takerIn;rw[show PySem.W.findIn K (.ref C) f=some none from n];rfl
structure Meth (K:L0) (C:Addr) (m:Str) (f:Addr):Prop where
 at_:PySem.W.findIn K (.ref C) m=some (some (.ref f))
 fn:PySem.W.isFn K (.ref f)=true
 kp:PySem.W.keepIn K (.ref f)=true
section
variable{X:Cx}{G:L1}{Z:St}{H:Hp}{s:Shared}{a C dx:Addr}{fs:List (Str×V)}{f:Str}{v:V}{A:Around}{E:L3}
theorem z7{b:Bool}{Q:L3}(I:Inv X G Z H s)(e:H a=some (.ins C dx fs))(c:Cls X.K C)(n:NoAttr X.K C f)(l:fs.lookup f=some v)
 (h:∀ u d,Inv X G Z H d->RelV v u->Q u d):wpAny (model X.prog X.w) A (getAttr (.ref a) f b) Q E s:=by
 obtain⟨i,O,r,_,_,_⟩:=qf I.hok e;obtain⟨u,j,g⟩:=RelO.some_of (v:=v) (o:=i f) (by rw[<-l]; exact r f);exact LR I.kIn O (c.get f) c.hd n j (Ei g) (h u _ (I.tok _) g)
theorem rE{m:Str}{g:Addr}{pl:Sem Bool}{Q:Value×List Value->Shared->Prop}(I:Inv X G Z H s)(e:H a=some (.ins C dx fs))(c:Cls X.K C)(k:Meth X.K C m g)(l:fs.lookup m=none)
 (h:Q (.ref g,[.ref a]) s):wpAny (model X.prog X.w) A (getMethod (.ref a) m pl) Q E s:=by
 obtain⟨b,O,r,_,_,_⟩:=qf I.hok e;have d:b m=none:=RelO.none_of (by rw[<-l]; exact r m);exact IP I.kIn O (c.get m) k.at_ k.fn d h
theorem zd{y:V}{u:Value}{Q:Unit->Shared->Prop}(I:Inv X G Z H s)(e:H a=some (.ins C dx fs))(c:Cls X.K C)(n:NoAttr X.K C f)(D:fs.length<1000)(p:RelV y u)
 (h:∀ j,Inv X G Z (upd H a (.ins C dx (g7 f y fs))) j->Q () j):wpAny (model X.prog X.w) A (setAttr (.ref a) f u) Q E s:=by
 obtain⟨k,O,r,i,_,l⟩:=qf I.hok e;have hz:(fs.map (·.1)).length<=sizeLine:=by rw[VN,Xg]; omega
 refine K1 I.kIn O c.sa c.po n.taker c.hd i hz λh' d m=>h _ ?_;have hd:∃ o,h'.get? dx=some o:=let ⟨o,_,_,B,_⟩:=d.ns; ⟨o,B⟩
 refine I.write (x:=a) (e:=dx) (by rw[e]; exact True.intro) (.inr l) (λb q v z=>(m.2 b v).trans z) hd ?_;refine⟨by rw[bc O.ne]; exact l,?_,O.ne,d.obj,_,d.ns,λg=>?_,λg t=>?_⟩
 ·have:=pf f y fs; omega
 · show RelO ((g7 f y fs).lookup g) (if g=f then some u else k g);rw[o9];by_cases q:g=f
   ·rw[on q,on q]; exact p
   ·rw[VM q,VM q]; exact r g
 · by_cases q:g=f
   ·rw[q]; exact(ot f y fs).1
   ·refine(ot f y fs).2 g (i g λz=>t ?_);show(if g=f then some u else k g)=none;rw[VM q]; exact z
theorem Inv.made(I:Inv X G Z H s):Inv X G Z (upd (upd H s.heap.objs.size (.own (s.heap.objs.size+1))) (s.heap.objs.size+1) (.ins C s.heap.objs.size []))
 {s with heap:=(s.heap.push PySem.W.emptyDict).push (PySem.W.instObj C s.heap.objs.size)}:=by
 have c:(s.heap.push PySem.W.emptyDict).get? s.heap.objs.size=some PySem.W.emptyDict:=V3 s.heap rfl
 have h:((s.heap.push PySem.W.emptyDict).push (PySem.W.instObj C s.heap.objs.size)).get? (s.heap.objs.size+1)=some (PySem.W.instObj C s.heap.objs.size):=by
  have:=V3 (s.heap.push PySem.W.emptyDict) (o:=PySem.W.instObj C s.heap.objs.size) rfl
  rwa [Xr] at this
 have g:(s.heap.push PySem.W.emptyDict).Ns s.heap.objs.size (λ_=>none):=⟨PySem.W.emptyDict,#[],_,c,rfl,(λe f=>absurd f (by simp)),λ_=>rfl⟩;have i:=I.laid (a:=s.heap.objs.size) (o:= .own (s.heap.objs.size+1)) (h':=s.heap.push PySem.W.emptyDict) (t':=s.toks) (λb u q=>VS _ q) (VW _) ⟨_,c⟩;refine i.laid (a:=s.heap.objs.size+1) (o:= .ins C s.heap.objs.size []) (t':=s.toks) (λb u q=>VS _ q) (Nat.le_of_eq (Xr _ _)) ?_;have ne:s.heap.objs.size≠s.heap.objs.size+1:=Wc (Xw _);refine⟨by rw[bc ne,bv],WP _,ne,h,λ_=>none,(Heap.Ns1.of_empty g).at λo q=>VS _ q,λ_=>True.intro,λy d=>absurd rfl d⟩
theorem L7{prog:Program}{w:World}{env:Env}{e:Expr}{f:Str}{b:Pos}{s:Shared}{Q:L3}(c:attributeBase e f env (eval e env)=eval e env)
 (h:wpAny (model prog w) A (eval e env) (λo a=>wpAny (model prog w) A (getAttr o f true) Q E a) E s):wpAny (model prog w) A (eval (.Attribute e f b) env) Q E s:=
 Attribute_any_ h (by rw[arm_eval_Attribute,c])
end
def DA(K:L0)(ta:TE)(f:Str):TE:=λZ H Q=>ta Z H λx L=>∃ a C dx fs v,x= .ref a/\L a=some (.ins C dx fs)/\Cls K C/\NoAttr K C f/\fs.lookup f=some v/\Q v L
def K7(K:L0)(ta c:TE)(f:Str):TS:=λD Z H=>c Z H λy L=>ta Z L λx b=>∃ a C dx fs,x= .ref a/\b a=some (.ins C dx fs)/\Cls K C/\NoAttr K C f/\fs.length<1000/\
 D.nx Z (upd b a (.ins C dx (g7 f y fs)))
section
variable{X:Cx}{o e value:Expr}{f:Str}{pos pos' tpos:Pos}{ta tv:TE}
theorem Og(g:PE X e ta)(i:attributeBase e f X.env (eval e X.env)=eval e X.env):PE X (.Attribute e f pos) (DA X.K ta f):=by
 intro G s Z H Q I h;refine L7 i (b8 (g G s Z H _ I h) λu p ⟨x,L,m,b,a,C,dx,fs,v,ex,j,c,n,l,q⟩=>?_);subst ex;obtain rfl:u=Value.ref a:=b;exact z7 m j c n l λo s2 k d=>⟨v,L,k,d,q⟩
theorem qJ(k:PE X o ta)(i:PE X value tv)(j:swapsWith value (some (.Attribute o f pos')) pos.line X.env=pure false):PS X (.Assign [.Attribute o f pos'] value pos) (K7 X.K ta tv f):=by
 intro G s Z H D I h;refine plainObj_wpAny_Assign_Attribute (b8 (i G s Z H _ I h) λu b ⟨y,L,t,d,q⟩=>b8 (k G b Z L _ t q) λov s2 ⟨x,w,r,e,a,C,dx,fs,ex,m,c,n,l,g⟩=>?_) j;subst ex;obtain rfl:ov=Value.ref a:=e;exact zd r m c n l d λv p=>⟨Z,_,p,g⟩
end
section
variable{X:Cx}{G:L1}{Z:St}{H:Hp}{s:Shared}{A:Around}{E:L3}{Q:L3}{c:Value}{b:Bool}
inductive TyOf (K:L0) (H:Hp):V->Value->Prop where
 |non:TyOf K H .non (.type "NoneType")
 |bl (x:Bool):TyOf K H (.bl x) (.type "bool")
 |int (i:Int):TyOf K H (.int i) (.type "int")
 |str (x:Str):TyOf K H (.str x) (.type "str")
 |flt (x:UInt64):TyOf K H (.flt x) (.type "float")
 |lst {a:Addr} {xs:List V} (e:H a=some (.lst xs)):TyOf K H (.ref a) (.type "list")
 |frz {a:Addr} {o:Obj} {xs:List V} (e:H a=some (.frz o (.lst xs))):TyOf K H (.ref a) (.type "list")
 |tup {a:Addr} {xs:List V} (e:H a=some (.tup xs)):TyOf K H (.ref a) (.type "tuple")
 |dK {a:Addr} {kvs:List (b6×V)} (e:H a=some (.dK kvs)):TyOf K H (.ref a) (.type "dict")
 |dT {a:Addr} {kvs:List (List b6×V)} (e:H a=some (.dT kvs)):TyOf K H (.ref a) (.type "dict")
 | ins {a C dx:Addr} {fs:List (Str×V)} (e:H a=some (.ins C dx fs)) (cl:Cls K C) (ha:PySem.W.findIn K (.ref C) "__class__" = some (some (.builtin "object.__class__")))
    (hn:PySem.W.specialIn K (.builtin "object.__class__") "__get__" = some (some (.builtin "getset_descriptor.__get__"))) (htk:PySem.W.takesIn K (.builtin "object.__class__")=some true)
    (hm:PySem.W.mroIn K C (.type "object")=some true):TyOf K H (.ref a) (.ref C)
theorem Ed{x:V}{u t:Value}(I:Inv X G Z H s)(d:RelV x u)(ty:TyOf X.K H x t)(e:PySem.W.kitOne X.K t c=some b)(h:∀ m,Q (.bool b) {s with toks:=m}):
 wpAny (model X.prog X.w) A (call (.builtin "isinstance") [u,c]) Q E s:=by
 cases ty with
 |non=>cases(show u=Value.none from d); exact WD PySem.W.kitx_none I.kIn True.intro e (λz=>nomatch z) h
 |bl y=>cases(show u=Value.bool y from d); exact WD PySem.W.kitx_bool I.kIn True.intro e (λz=>nomatch z) h
 |int i=>obtain⟨t,q⟩:=(show ∃ t,u=Value.int i t from d); cases q; exact WD PySem.W.kitx_int I.kIn True.intro e (λz=>nomatch z) h
 |str y=>obtain⟨t,q⟩:=(show ∃ t,u=Value.str y t from d); cases q; exact WD PySem.W.kitx_str I.kIn True.intro e (λz=>nomatch z) h
 |flt y=>obtain⟨t,q⟩:=(show ∃ t,u=Value.float y t from d); cases q; exact WD PySem.W.kitx_float I.kIn True.intro e (λz=>nomatch z) h
 |@lst a xs f=>
   cases(show u=Value.ref a from d);obtain⟨_,_,n,_,g⟩:=(show ObjOk X.prog X.w H s.heap a (.lst xs) from I.hok a _ f);exact WD PySem.W.kitx_list I.kIn ⟨_,g,rfl⟩ e (λz=>nomatch z) h
 |@frz a ob xs f=>
   cases(show u=Value.ref a from d);obtain⟨_,_,_,n,_,g⟩:=(show ObjOk X.prog X.w H s.heap a (.frz ob (.lst xs)) from I.hok a _ f);exact WD PySem.W.kitx_list I.kIn ⟨_,g,rfl⟩ e (λz=>nomatch z) h
 |@tup a xs f=>
   cases(show u=Value.ref a from d);obtain⟨_,_,_,p⟩:=(show ObjOk X.prog X.w H s.heap a (.tup xs) from I.hok a _ f);obtain⟨o,g,k,_⟩:=p;exact WD PySem.W.kitx_tuple I.kIn ⟨o,g,k⟩ e (λz=>nomatch z) h
 |@dK a j f=>
   cases(show u=Value.ref a from d);obtain⟨_,_,vs,_,p⟩:=(show ObjOk X.prog X.w H s.heap a (.dK j) from I.hok a _ f);obtain⟨o,es,ep,g,k,_⟩:=p;exact WD PySem.W.kitx_dict I.kIn ⟨o,g,k.1⟩ e (λz=>nomatch z) h
 |@dT a j f=>
   cases(show u=Value.ref a from d);obtain⟨_,_,xs,_,o,es,ep,g,k,_⟩:=(show ObjOk X.prog X.w H s.heap a (.dT j) from I.hok a _ f);exact WD PySem.W.kitx_dict I.kIn ⟨o,g,k.1⟩ e (λz=>nomatch z) h
 |@ins a C dx fs f cl B r l v=>
   cases(show u=Value.ref a from d);obtain⟨F,O,_⟩:=qf I.hok f;obtain⟨D,J,_⟩:=O.look;exact WD (PySem.W.kitx_own (cl.get _) cl.hd B r l v) I.kIn J e (λz=>nomatch z) h
end
structure Room (k:Nat) (A:Around):Prop where
 hd:A.handled=none
 dp:A.depth+3*k+5<recursionLimit
 un:A.units+16*k+200<cLine
theorem Room.mono{j k:Nat}{A:Around}(r:Room k A)(h:j<=k):Room j A:=⟨r.hd,by have:=r.dp; omega,by have:=r.un; omega⟩
theorem Room.deeper{k:Nat}{A:Around}(r:Room (k+1) A)(env:Env):Room k (A.deeper env):=
 ⟨r.hd,by have:=r.dp; show A.depth+1+3*k+5<_; omega,by have:=r.un; show A.units+3+16*k+200<_; omega⟩
theorem zU{A:Around}{C:Addr}{us:List Value}{a:List (Str×Value)}:(A.under (.builtin "type.__call__" ⟨.ref C::us,a⟩)).depth=A.depth+1:=by
 first | rfl | simp[Around.under,Code.weight,Code.isCreation,Code.isGuard,Code.isCaller,Code.frames,Code.isFrame,guardIds]
theorem zT{A:Around}{C:Addr}{us:List Value}{a:List (Str×Value)}:(A.under (.builtin "type.__call__" ⟨.ref C::us,a⟩)).units=A.units+1:=by
 first | rfl | simp[Around.under,Code.cUnits,Code.frames,Code.isFrame]
theorem Room.make{k:Nat}{A:Around}(r:Room (k+1) A)(C:Addr)(us:List Value)(a:List (Str×Value)):Room k (A.under (.builtin "type.__call__" ⟨.ref C::us,a⟩)):=
 ⟨r.hd,by have:=r.dp; rw[zU]; omega,by have:=r.un; rw[zT]; omega⟩
theorem Room.depth{k:Nat}{A:Around}(r:Room k A):A.depth<recursionLimit:=by have:=r.dp; omega
theorem Room.units{k:Nat}{A:Around}(r:Room k A):A.units+64<cLine:=by have:=r.un; omega
def d8:TA:=λ_ H Q=>Q [] H
def b9(ta:TE)(a:TA):TA:=λZ H Q=>ta Z H λx L=>a Z L λxs b=>Q (x::xs) b
section
variable{X:Cx}{e:Expr}{es:List Expr}{te:TE}{t:TA}{pos:Pos}
theorem ab:PA X [] d8:=λ_ _ _ _ H Q I h=>Yj ⟨[],H,I,.nil,h⟩
theorem aa(j:PE X e te)(i:PA X es t)(g:starEach (e::es) X.env=(false,eval e X.env)::starEach es X.env:=by rfl):PA X (e::es) (b9 te t):=by
 intro pos G s Z H Q I h;rw[g];show wpAny _ _ (spliced ((false,eval e X.env)::backTo pos (starEach es X.env))) _ _ s;refine XE (b8 (j G s Z H _ I h) λu a ⟨x,L,l,c,f⟩=>?_);exact b8 (i pos G a Z L _ l f) λus s2 ⟨xs,m,k,b,d⟩=>⟨x::xs,m,k,.cons c b,d⟩
def Rn(t:TA):TE:=λZ H Q=>t Z H λxs L=>xs.length<=sizeLine/\∀ p,L p=none->Q (.ref p) (upd L p (.tup xs))
def Rr(t:TA):TE:=λZ H Q=>t Z H λxs L=>xs.length<=sizeLine/\∀ p,L p=none->Q (.ref p) (upd L p (.lst xs))
theorem bT{d}(h:PA X es t):PE X (.Tuple es d pos) (Rn t):=by
 intro G s Z H Q I f;refine wpAny_Tuple_spliced (b8 (h pos G s Z H _ I f) λus a ⟨xs,L,c,r,z,q⟩=>⟨by rw[<-r.length]; exact z,?_⟩);have g:L a.heap.objs.size=none:=c.hok.fresh (VW _);refine⟨.ref a.heap.objs.size,upd L a.heap.objs.size (.tup xs),c.laid (t':=a.toks) (λb u e=>VS _ e) (VW _) ?_,rfl,q _ g⟩;exact⟨z,us,r,⟨_,V3 _ rfl,rfl,_,rfl⟩⟩
theorem cK(h:PA X es t):PE X (.List es pos) (Rr t):=by
 intro G s Z H Q I d;refine wpAny_List_spliced (b8 (h pos G s Z H _ I d) λus a ⟨xs,L,c,r,z,q⟩=>⟨by rw[<-r.length]; exact z,?_⟩);have f:L a.heap.objs.size=none:=c.hok.fresh (VW _);refine⟨.ref a.heap.objs.size,upd L a.heap.objs.size (.lst xs),c.laid (t':=a.toks) (λb u e=>VS _ e) (VW _) ?_,rfl,q _ f⟩;exact⟨z,us,0,r,V3 _ rfl⟩
end
abbrev Sp:=List V->Hp->VK->XK->Prop
abbrev EX:=List Env->Hp->Shared->XK->Value->Shared->Prop
structure Env0 (P:Program) (w:World) (K:L0) (mg:Str->Option Value) (base:Heap) (A:Around) (outer:List Env) (s:Shared) (H:Hp):Prop where
 frames:A.frames=some outer
 mod:Mod K mg base
 bs:∀ b o,base.get? b=some o->s.heap.get? b=some o/\H b=none
 bsz:base.objs.size<=s.heap.objs.size
 funs:s.heap.FunFrames base outer
 frf:∀ b∈z9 outer,H b=none
 hok:HOk P w H s.heap
 bare:AllBare s.gens
def CE(outer:List Env)(P:Program)(w:World)(H:Hp)(s:Shared)(Q:VK)(u:Value)(a:Shared):Prop:=
 ∃ v H',a.os=s.os/\AllBare a.gens/\Un (z9 outer) [] H H' s.heap a.heap/\HOk P w H' a.heap/\RelV v u/\Q v H'
def CR(CX:EX)(outer:List Env)(P:Program)(w:World)(H:Hp)(s:Shared)(Q:VK)(E:XK)(r:Result)(a:Shared):Prop:=
 match r with
 |.ok (.ret u)=>CE outer P w H s Q u a
 |.ok _=>False
 |.error e=>CX outer H s E e a
structure FnOk (P:Program) (w:World) (K:L0) (mg:Str->Option Value) (base:Heap) (CX:EX) (k:Nat) (f:Addr) (fd:FuncData) (ps:List Str) (sp:Sp):Prop where
 len:∀ vs H Q E,sp vs H Q E->vs.length=ps.length
 run:∀ (A:Around) (outer:List Env) (s:Shared) (H:Hp) (args:Args) (us:List Value) (vs:List V) (Q:VK) (E:XK),Room k A->Env0 P w K mg base A outer s H->BindsTo s fd args (ps.zip us)->Vals vs us->sp vs H Q E->
  codeAny (model P w) A (.call (.ref f) args) (CR CX outer P w H s Q E) s
theorem FnOk.imp{P:Program}{w:World}{K:L0}{mg:Str->Option Value}{base:Heap}{CX:EX}{k:Nat}{f:Addr}{fd:FuncData}{ps:List Str}{sp a:Sp}(F:FnOk P w K mg base CX k f fd ps sp)
 (h:∀ vs H Q E,a vs H Q E->sp vs H Q E):FnOk P w K mg base CX k f fd ps a:=
 ⟨λvs H Q E q=>F.len vs H Q E (h _ _ _ _ q),λA outer s H args us vs Q E d e g b c=>F.run A outer s H args us vs Q E d e g b (h _ _ _ _ c)⟩
theorem Env0.make{P:Program}{w:World}{K:L0}{mg:Str->Option Value}{base:Heap}{A:Around}{outer:List Env}{s:Shared}{H:Hp}(e:Env0 P w K mg base A outer s H)(C:Addr)(us:List Value)(a:List (Str×Value)):
 Env0 P w K mg base (A.under (.builtin "type.__call__" ⟨.ref C :: us,a⟩)) outer s H:=⟨by first | exact e.frames | (simpa [Around.under,Code.envs,Code.isFrame,pushEnvs] using e.frames),e.mod,e.bs,e.bsz,e.funs,e.frf,e.hok,e.bare⟩
section
variable{X:Cx}{G:L1}{Z:St}{H:Hp}{s s':Shared}
theorem Inv.env0(I:Inv X G Z H s):Env0 X.prog X.w X.K X.mg X.base X.A X.stack s H:=
 ⟨I.ok.frames,I.ok.mod,I.bs,V4 I.ok.bsz I.sz,I.stack,I.stkFree,I.hok,I.bare⟩
theorem Inv.after{Q:VK}{u:Value}(I:Inv X G Z H s)(h:CE X.stack X.prog X.w H s Q u s'):EP X G Z Q u s':=by
 obtain⟨v,H',os,bare,un,hok,r,q⟩:=h;obtain⟨c,g,d,t,a⟩:=s';obtain rfl:a=s.os:=os;exact⟨v,H',I.call (h':=c) (g':=g) (d':=d) (t':=t) (ch:=[]) un hok bare (λb z=>absurd z (by simp)),r,q⟩
end
def tS(sp:Sp)(a:List V)(E:XK)(t:TA):TE:=λZ H Q=>t Z H λvs L=>sp (vs++a) L Q E
def qr(C:Addr)(m:Str)(sp:Sp)(b:List V)(E:XK)(ta:TE)(t:TA):TE:=λZ H Q=>ta Z H λx L=>∃ a dx fs,x= .ref a/\L a=some (.ins C dx fs)/\fs.lookup m=none/\
 t Z L λvs c=>sp (x::(vs++b)) c Q E
def Fc(C:Addr)(sp:Sp)(a:List V)(E:XK)(t:TA):TE:=λZ H Q=>t Z H λvs L=>∀ x dx,L x=none->L dx=none->dx≠x->
 sp (.ref x::(vs++a)) (upd (upd L dx (.own x)) x (.ins C dx [])) (λv b=>v= .non/\Q (.ref x) b) E
def Binds(K:L0)(fd:FuncData)(ps:List Str)(ds:List Value):Prop:=
 ∀ (s:Shared) (us:List Value),K.In s.heap->(us++ds).length=ps.length->BindsTo s fd ⟨us,[]⟩ (ps.zip (us++ds))
theorem Binds.all{K:L0}{fd:FuncData}{ps:List Str}(h:∀ us:List Value,us.length=ps.length->bindArgs fd ⟨us,[]⟩=pure (ps.zip us)):Binds K fd ps []:=λs us _ a=>by
 rw[Wp] at a ⊢;exact .of_eq (h us a)
def mI(CX:EX)(X:Cx)(E:XK):Prop:=∀ (G:L1) (Z:St) (H:Hp) (s:Shared) (e:Value) (a:Shared),Inv X G Z H s->CX X.stack H s E e a->X.xe e a
section
variable{X:Cx}{CX:EX}{k:Nat}{f C:Addr}{fd:FuncData}{ps:List Str}{sp:Sp}{dvs:List V}{ds:List Value}{E:XK}{x m:Str}{p pos apos:Pos}{e o:Expr}{es:List Expr}{ta:TE}{t:TA}
theorem zk{G:L1}{Z:St}{H:Hp}{s:Shared}{Q:VK}{us:List Value}{vs:List V}(F:FnOk X.prog X.w X.K X.mg X.base CX k f fd ps sp)(g:Room k X.A)(j:Binds X.K fd ps ds)(hd:Vals dvs ds)(d:mI CX X E)
 (I:Inv X G Z H s) (r:Vals vs us) (h:sp (vs++dvs) H Q E):wpAny (model X.prog X.w) X.A (call (.ref f) us) (EP X G Z Q) X.xe s:=by
 have b:Vals (vs++dvs) (us++ds):=r.append hd;have i:(us++ds).length=ps.length:=by rw[<-b.length]; exact F.len _ _ _ _ h
 refine wpAny_call (Yy (F.run X.A X.stack s H ⟨us,[]⟩ (us++ds) (vs++dvs) Q E g I.env0 (j s us I.kIn i) b h) λr c a=>?_);cases r with
 |error e=>exact d G Z H s e c I a
 |ok fl=>
   cases fl with
   |ret u=>exact I.after a
   |next=>exact False.elim a
   |brk=>exact False.elim a
   |cont=>exact False.elim a
theorem aE(F:FnOk X.prog X.w X.K X.mg X.base CX k f fd ps sp)(g:Room k X.A)(l:Gl X x)(i:X.mg x=some (.ref f))(j:PySem.W.keepIn X.K (.ref f)=true)(n:Binds X.K fd ps ds)(hd:Vals dvs ds)(d:mI CX X E)
 (o:PA X (e::es) t) (b:(x==("__debug__" : Str))=false:=by decide) (m:starEach (e::es) X.env=(false,eval e X.env)::starEach es X.env:=by rfl) (a:(backTo pos (starEach es X.env)).any (·.1)=false:=by rfl):
 PE X (.Call (.Name x p) (e::es) [] pos) (tS sp dvs E t):=by
 intro G s Z H Q I h;refine Xh (vp I l i ?_ b);refine Yd (h₀:=X.base) I.ok.mod.kin j (b8 (o pos G s Z H _ I h) λus u ⟨vs,L,c,r,q⟩=>⟨c.kIn,?_⟩) m a;exact zk F g n hd d c r q
theorem a9{pl:Sem Bool}(D:PE X o ta)(c:Cls X.K C)(g:Meth X.K C m f)(F:FnOk X.prog X.w X.K X.mg X.base CX k f fd ps sp)(B:Room k X.A)(J:Binds X.K fd ps ds)(hd:Vals dvs ds)(y:mI CX X E)(M:PA X (e::es) t)
 (b:starEach (e::es) X.env=(false,eval e X.env)::starEach es X.env:=by rfl) (d:(backTo pos (starEach es X.env)).any (·.1)=false:=by rfl)
 (z:eval (.Call (.Attribute o m apos) (e::es) [] pos) X.env=(do
   let ov <-eval o X.env
   standAt apos.atName
   let (f,first) <-holding [ov] (getMethod ov m pl)
   callWith pos f first (backTo pos (starEach (e :: es) X.env)) (backToKw pos (keywordEach [] X.env))):=by rfl):
 PE X (.Call (.Attribute o m apos) (e::es) [] pos) (qr C m sp dvs E ta t):=by
 intro G s Z H Q I h;refine YL (pl:=pl) (b8 (D G s Z H _ I h) λu n ⟨x,L,j,p,a,dx,fs,ex,N,l,q⟩=>?_) z;subst ex;obtain rfl:u=Value.ref a:=p;refine rE j N c g l ?_;refine Yd (first:=[.ref a]) (h₀:=X.base) I.ok.mod.kin g.kp (b8 (M pos G n Z L _ j q) λus s2 ⟨vs,O,i,r,v⟩=>⟨i.kIn,?_⟩) b d;exact zk (us:= .ref a :: us) (vs:= .ref a :: vs) F B J hd y i (.cons rfl r) v
theorem eQ{pl:Sem Bool}(n:PE X o ta)(c:Cls X.K C)(d:Meth X.K C m f)(F:FnOk X.prog X.w X.K X.mg X.base CX k f fd ps sp)(j:Room k X.A)(p:Binds X.K fd ps ds)(hd:Vals dvs ds)(g:mI CX X E)
 (i:eval (.Call (.Attribute o m apos) [] [] pos) X.env=(do
   let ov <-eval o X.env
   standAt apos.atName
   let (f,first) <-holding [ov] (getMethod ov m pl)
   callWith pos f first (backTo pos (starEach [] X.env)) (backToKw pos (keywordEach [] X.env))):=by rfl):
 PE X (.Call (.Attribute o m apos) [] [] pos) (qr C m sp dvs E ta d8):=by
 intro G s Z H Q I h;refine YL (pl:=pl) (b8 (n G s Z H _ I h) λu t ⟨x,L,b,e,a,dx,fs,ex,r,l,q⟩=>?_) i;subst ex;obtain rfl:u=Value.ref a:=e;refine rE b r c d l ?_;exact PySem.W.callWith_K0 (first:=[.ref a]) b.kIn d.kp (zk (us:=[.ref a]) (vs:=[.ref a]) F j p hd g b (.cons rfl .nil) q)
structure Mk (K:L0) (C f:Addr):Prop where
 makes:PySem.W.makesIn K C=true
 init:PySem.W.findIn K (.ref C) "__init__" = some (some (.ref f))
 fn:PySem.W.isFn K (.ref f)=true
 kp:PySem.W.keepIn K (.ref C)=true
theorem FO{G:L1}{Z:St}{H:Hp}{s:Shared}{Q:VK}{us:List Value}{vs:List V}(M:Mk X.K C f)(F:FnOk X.prog X.w X.K X.mg X.base CX k f fd ps sp)(m:Room (k+1) X.A)(o:Binds X.K fd ps ds)(hd:Vals dvs ds)
 (l:mI CX X E) (I:Inv X G Z H s) (r:Vals vs us)
 (h:∀ x dx,H x=none->H dx=none->dx≠x->sp (.ref x::(vs++dvs)) (upd (upd H dx (.own x)) x (.ins C dx [])) (λv t=>v= .non/\Q (.ref x) t) E):
 wpAny (model X.prog X.w) X.A (call (.ref C) us) (EP X G Z Q) X.xe s:=by
 have d:=h (s.heap.objs.size+1) s.heap.objs.size (I.hok.fresh (Nat.le_succ _)) (I.hok.fresh (VW _)) (Wc (Xw _));have b:=Inv.made (C:=C) I;have c:Vals (V.ref (s.heap.objs.size+1)::(vs++dvs)) (Value.ref (s.heap.objs.size+1)::(us++ds)):= .cons rfl (r.append hd)
 have n:(Value.ref (s.heap.objs.size+1)::us++ds).length=ps.length:=by
  have e:=c.length;rw[F.len _ _ _ _ d] at e;exact e.symm
 refine wpAny_call (HS (f:=f) I.kIn M.makes M.init (beq_iff_eq.mp M.fn) (Yy (F.run _ X.stack _ _ ⟨Value.ref (s.heap.objs.size+1)::us,[]⟩ (Value.ref (s.heap.objs.size+1)::(us++ds)) _ _ E (m.make C us [])
  (b.env0.make C us []) (o _ (Value.ref (s.heap.objs.size+1)::us) b.kIn n) c d) λr g a=>?_))
 cases r with
 |error e=>exact l G Z _ _ e g b a
 |ok fl=>
   cases fl with
   |ret u=>
     obtain⟨v,H',q,i,p,j⟩:=b.after a;subst p;exact⟨i,⟨V.ref (s.heap.objs.size+1),H',q,rfl,j⟩⟩
   |next=>exact False.elim a
   |brk=>exact False.elim a
   |cont=>exact False.elim a
theorem BE(M:Mk X.K C f)(F:FnOk X.prog X.w X.K X.mg X.base CX k f fd ps sp)(g:Room (k+1) X.A)(j:Gl X x)(i:X.mg x=some (.ref C))(m:Binds X.K fd ps ds)(hd:Vals dvs ds)(d:mI CX X E)
 (n:PA X (e::es) t) (b:(x==("__debug__" : Str))=false:=by decide) (l:starEach (e::es) X.env=(false,eval e X.env)::starEach es X.env:=by rfl) (a:(backTo pos (starEach es X.env)).any (·.1)=false:=by rfl):
 PE X (.Call (.Name x p) (e::es) [] pos) (Fc C sp dvs E t):=by
 intro G s Z H Q I h;refine Xh (vp I j i ?_ b);refine Yd (h₀:=X.base) I.ok.mod.kin M.kp (b8 (n pos G s Z H _ I h) λus o ⟨vs,L,c,r,q⟩=>⟨c.kIn,?_⟩) l a;exact FO M F g m hd d c r q
end
def PK(X:Cx)(b:List Keyword)(t:TA):Prop:=
 ∀ (a:Pos) (G:L1) (s:Shared) (Z:St) (H:Hp) (Q:List V->Hp->Prop),Inv X G Z H s->t Z H Q->wpAny (model X.prog X.w) X.A (evalAll ((backToKw a (keywordEach b X.env)).map (·.2))) (AP X G Z Q) X.xe s
section
variable{X:Cx}{CX:EX}{k:Nat}{f C:Addr}{fd:FuncData}{ps ks:List Str}{sp:Sp}{E:XK}{x m:Str}{p pos apos kpos:Pos}{e o:Expr}{es:List Expr}{kws:List Keyword}{te ta:TE}{t tk:TA}{nm:Option Str}
theorem GE:PK X [] d8:=λ_ _ _ _ H Q I h=>wpAny_evalAll_nil ⟨[],H,I,.nil,h⟩
theorem BD(i:PE X e te)(g:PK X kws t):PK X (⟨nm,e,kpos⟩::kws) (b9 te t):=by
 intro pos G s Z H Q I h;show wpAny _ _ (evalAll ((do let v <-eval e X.env; standAt pos; pure v)::(backToKw pos (keywordEach kws X.env)).map (·.2))) _ _ s;refine wpAny_evalAll_cons (VO (b8 (i G s Z H _ I h) λu a ⟨x,L,k,c,f⟩=>VO (Yp (VY ?_))));exact b8 (g pos G a Z L _ k f) λus s2 ⟨xs,l,j,b,d⟩=>⟨x::xs,l,j,.cons c b,d⟩
variable{g:List Value->List Value->List Value}{gV:List V->List V->List V}
end
structure FnScope (N P:List Str) (sc:Scope):Prop where
 kind:sc.kind= .function
 co:sc.isCoroutine=false
 gen:sc.isGenerator=false
 nd:N.Nodup
 pre:N.take P.length=P
 par:∀ x∈P,sc.names.lookup x=some .local\/sc.names.lookup x=some .cell
 nofree:∀ y∈sc.names,y.2≠ .free
theorem uG{kindOf:Str->Option NameKind}{x:Str}:∀ {binds:List (Str×Value)} {m:Str->Option Value},(∀ v,(x,v)∉binds)->bindL kindOf binds m x=m x
 |[],_,_=>rfl
 | (n,v)::r,m,h=>by
   unfold bindL;rw[uG λw a=>h w (List.mem_cons_of_mem _ a)];split
   · have:x≠n:=by rintro rfl; exact h v VP
     simp[this]
   ·rfl
theorem uI{kindOf:Str->Option NameKind}{x:Str}:∀ {binds:List (Str×Value)} {m:Str->Option Value},(∀ v,(x,v)∉binds)->bindC kindOf binds m x=m x
 |[],_,_=>rfl
 | (n,v)::r,m,h=>by
   unfold bindC;rw[uI λw a=>h w (List.mem_cons_of_mem _ a)];split
   ·rfl
   · have:x≠n:=by rintro rfl; exact h v VP
     simp[this]
theorem uH{kindOf:Str->Option NameKind}{x:Str}{v:Value}:∀ {P:List Str} {vs:List Value} {i:Nat} {m:Str->Option Value},P.Nodup->P[i]?=some x->vs[i]?=some v->kindOf x=some .local->
 bindL kindOf (P.zip vs) m x=some v
 |[],_,_,_,_,h,_,_=>by simp at h
 |_::_,[],_,_,_,_,h,_=>by simp at h
 | p::P,w::vs,0,m,nd,b,a,c=>by
   simp at b a; subst b; subst a;show bindL kindOf ((p,w)::P.zip vs) m p=_;unfold bindL;rw[uG λv d=>(List.nodup_cons.mp nd).1 (List.of_mem_zip d).1,if_pos c];simp
 | p::P,w::vs,i+1,m,nd,b,a,c=>by
   show bindL kindOf ((p,w)::P.zip vs) m x=_;unfold bindL;exact uH (i:=i) (List.nodup_cons.mp nd).2 (by simpa using b) (by simpa using a) c
theorem uJ{kindOf:Str->Option NameKind}{x:Str}{v:Value}:∀ {P:List Str} {vs:List Value} {i:Nat} {m:Str->Option Value},P.Nodup->P[i]?=some x->vs[i]?=some v->kindOf x≠some .local->
 bindC kindOf (P.zip vs) m x=some v
 |[],_,_,_,_,h,_,_=>by simp at h
 |_::_,[],_,_,_,_,h,_=>by simp at h
 | p::P,w::vs,0,m,nd,b,a,c=>by
   simp at b a; subst b; subst a;show bindC kindOf ((p,w)::P.zip vs) m p=_;unfold bindC;rw[uI λv d=>(List.nodup_cons.mp nd).1 (List.of_mem_zip d).1,if_neg c];simp
 | p::P,w::vs,i+1,m,nd,b,a,c=>by
   show bindC kindOf ((p,w)::P.zip vs) m x=_;unfold bindC;exact uJ (i:=i) (List.nodup_cons.mp nd).2 (by simpa using b) (by simpa using a) c
def j2(N:List Str)(vs:List V):St:=vs.map some++List.replicate (N.length-vs.length) none
def ya(CX:EX)(P:Program)(w:World)(K:L0)(mg:Str->Option Value)(base:Heap)(N:List Str)(qual:Str)(scope:Scope)(f:Addr)(cd:Value)(A:Around)(outer:List Env)(s:Shared)(H:Hp)(E:XK):Cx where
 prog:=P
 w:=w
 K:=K
 mg:=mg
 base:=base
 A:=A.deeper (envOfC qual scope s.heap.objs.size f cd)
 N:=N
 s₀:=s
 H₀:=H
 env:=envOfC qual scope s.heap.objs.size f cd
 outer:=outer
 stack:=envOfC qual scope s.heap.objs.size f cd::outer
 ex:=[]
 calm:=true
 fn:=λ_=>true
 pn:=[]
 xe:=λe b=>wpAny (model P w) (A.deeper (envOfC qual scope s.heap.objs.size f cd)) (leaving (envOfC qual scope s.heap.objs.size f cd) e) (λ_ a=>CX outer H s E e a) (λc a=>CX outer H s E c a) b
theorem yE{sc:Scope}{n:Nat}{x:Str}(h:sc.names.lookup x=some .cell):∃ c,(cellsFrom n sc.names []).lookup x=some c:=by
 have q:=Yz sc.names n [] (.inl h);exact Option.isSome_iff_exists.mp q
theorem Ef{CX:EX}{P:Program}{w:World}{K:L0}{mg:Str->Option Value}{base:Heap}{N ps:List Str}{qual:Str}{scope:Scope}{f:Addr}{cd:Value}{A:Around}{outer:List Env}{s t:Shared}{H:Hp}{E:XK}{us:List Value}{vs:List V}
 (S:FnScope N ps scope) (hd:A.handled=none) (g:Env0 P w K mg base A outer s H) (J:vs.length=ps.length) (r:Vals vs us)
 (x:InCallC s s.heap.objs.size (bindL (envOfC qual scope s.heap.objs.size f cd).kindOf (ps.zip us) λ_=>none) (cellsFrom (s.heap.objs.size+1) scope.names []) (bindC (envOfC qual scope s.heap.objs.size f cd).kindOf (ps.zip us) λ_=>none) t):
 Inv (ya CX P w K mg base N qual scope f cd A outer s H E) [] (j2 N vs) H t:=by
 have F:ps.length<=N.length:=by have:=congrArg List.length S.pre; rw[List.length_take] at this; omega
 obtain⟨o,I,rfl,C⟩:=x.done;have j:∀ b:Addr,b∉(ya CX P w K mg base N qual scope f cd A outer s H E).ex:=λb z=>absurd (show b∈([]:List Addr) from z) (by simp)
 refine⟨⟨g.mod,S.kind,rfl,rfl,VW _,λy z c o d=>?_,λy l=>?_,λy c _ h=>?_,λ_=>hd,Around.frames_deeper g.frames,.inr ⟨rfl,rfl⟩,λb z=>absurd z (j b),g.bs,g.bsz,λb _ _=>j b,λb z=>absurd z (j b),g.funs,g.frf⟩,
  rfl,g.bare,Un.kept C,⟨_,x.toInCall.ns,λi y v o d L=>?_⟩,λy c h=>⟨_,x.cell y c h⟩,g.hok.fresh (VW _),λy c h=>?_,λp hp=>absurd (show p∈([]:L1) from hp) (by simp),g.hok.kept C,?_⟩
 ·exact name_of_addr x.apart (WZ o) (WZ d)
 · have l:scope.names.lookup y=some .cell\/scope.names.lookup y=some .free:=l;rcases l with l|l
   ·exact yE l
   ·exact absurd rfl (S.nofree _ (WZ l))
 ·exact WO (x.above y c (WZ h))
 · have hi:i<vs.length:=by
    unfold j2 at d;by_cases hi:i<vs.length
    ·exact hi
    ·rw[Xs (by simpa using hi)] at d;rw[XG] at d;split at d<;>cases d
   have G:vs[i]?=some v:=by
    unfold j2 at d;rw[List.getElem?_append_left (by simpa using hi),List.getElem?_map] at d;cases e:vs[i]? with
    |none=>rw[e] at d; cases d
    |some a=>rw[e] at d; cases d; rfl
   obtain⟨u,B,D⟩:=r.get G
   have hp:ps[i]?=some y:=by
    rw[<-S.pre,List.getElem?_take_of_lt (by omega)]; exact o
   have m:ps.Nodup:=by rw[<-S.pre]; exact S.nd.sublist (List.take_sublist _ _)
   refine⟨u,D,?_⟩;rcases S.par y (W6 hp) with k|k
   ·exact .inl ⟨k,uH m hp B k⟩
   ·obtain⟨c,e⟩:=yE (n:=s.heap.objs.size+1) k;refine .inr ⟨.inl k,c,e,?_⟩;have q:=x.cell y c e;rw[uJ m hp B (by show scope.names.lookup y≠_; rw[k]; decide)] at q;exact q
 ·exact g.hok.fresh (WO (x.above y c (WZ h)))
 ·unfold j2;show _=N.length;rw[List.length_append,List.length_map,List.length_replicate];omega
theorem fn_of{CX:EX}{P:Program}{w:World}{K:L0}{mg:Str->Option Value}{base:Heap}{k:Nat}{f:Addr}{name qual:Str}{c:Arguments}{body:List Stmt}{scope:Scope}{M kV p pm a ct oc:Value}{an R:Option Addr}
 {C:Array (Option Value)} {N ps:List Str} {sp:Sp} (T:K.lookup f=some ⟨oc,R,.func (PySem.W.fnOf name qual c body scope M kV p pm an a ct),C⟩) (G:PySem.W.codeIn K a qual=true) (S:FnScope N ps scope)
 (len:∀ vs H Q E,sp vs H Q E->vs.length=ps.length)
 (h:∀ (A:Around) (outer:List Env) (s:Shared) (H:Hp) (vs:List V) (Q:VK) (E:XK),Room k (A.deeper (envOfC qual scope s.heap.objs.size f a))->sp vs H Q E->
   ∃ t,PSs (ya CX P w K mg base N qual scope f a A outer s H E) body t/\t {nx:=λ_ H'=>Q .non H',rt:=Q} (j2 N vs) H):
 FnOk P w K mg base CX (k+1) f (PySem.W.fnOf name qual c body scope M kV p pm an a ct) ps sp:=by
 refine⟨len,λA outer s H args us vs Q E F m hb r j=>?_⟩;have Z:=len _ _ _ _ j;have O:K.In s.heap:=m.mod.kin.keeps λb o e=>(m.bs b o e).1;have D:s.heap.NoLimit:=m.mod.nolimit.keeps λb o e=>(m.bs b o e).1
 have g:∀ y∈ps.zip us,scope.names.lookup y.1=some .local\/(scope.names.lookup y.1=some .cell/\((cellsFrom (s.heap.objs.size+1) scope.names []).lookup y.1).isSome=true):=λ⟨n,v⟩ U=>by
  rcases S.par n (List.of_mem_zip U).1 with q|q
  ·exact .inl q
  ·exact .inr ⟨q,Yz _ _ _ (.inl q)⟩
 refine codeAny_call_function F.depth (O _ _ T) rfl S.co S.gen rfl (PySem.W.codeRec_of O G) (hb _ _ _ _ ?_);refine wpAny_newFunctionEnv_cells S.kind g λenv he L x=>?_;subst he;refine⟨D.keeps x.toInCall.keep,codeAny_func ?_⟩;obtain⟨t,X,Y⟩:=h A outer s H vs Q E (F.deeper _) j;have I:Inv (ya CX P w K mg base N qual scope f a A outer s H E) [] (j2 N vs) H L:=Ef S F.hd m Z r x;refine W8 (X [] L (j2 N vs) H _ I Y) (λfl z i=>?_) λe z i=>i
 have l:∀ {d:St} {H':Hp} {v:V} {u:Value},Inv (ya CX P w K mg base N qual scope f a A outer s H E) [] d H' z->RelV v u->Q v H'->CE outer P w H s Q u z:=
  λ{d H' v u} J B q=>⟨v,H',J.os,J.bare,J.base,J.hok,B,q⟩
 cases fl with
 |ret u=>
   obtain⟨v,d,H',J,B,q⟩:=i;exact l J B q
 |next=>
   obtain⟨d,H',J,q⟩:=i;exact l (v:=V.non) (u:=Value.none) J rfl q
 |brk=>
   obtain⟨_,_,_,q⟩:=i;exact False.elim q
 |cont=>
   obtain⟨_,_,_,q⟩:=i;exact False.elim q
section
variable{X:Cx}{x:Str}{p pos:Pos}{e:Expr}{es:List Expr}{t:TA}{id T:String}{r:List V->Hp->VK->Prop}
def DB(r:List V->Hp->VK->Prop)(t:TA):TE:=λZ H Q=>t Z H λvs L=>r vs L Q
theorem aH(m:dJ X (.builtin id) r)(k:Gl X x)(j:X.mg x=none)(g:bootBuiltins x=some (.builtin id))(n:PA X (e::es) t)(i:x ≠ "__name__" := by decide)(b:(x==("__debug__" : Str))=false:=by decide)
 (l:starEach (e::es) X.env=(false,eval e X.env)::starEach es X.env:=by rfl) (a:(backTo pos (starEach es X.env)).any (·.1)=false:=by rfl):PE X (.Call (.Name x p) (e::es) [] pos) (DB r t):=by
 intro G s Z H Q I h;refine Xh (oq I k j g ?_ i b);exact PyProof.Rows.callWith_builtin1 (b8 (n pos G s Z H _ I h) λus c ⟨vs,L,o,d,f⟩=>m G c Z L vs us Q o d f) l a
theorem bQ(m:dJ X (.type T) r)(k:Gl X x)(j:X.mg x=none)(g:bootBuiltins x=some (.type T))(n:PA X (e::es) t)(i:x ≠ "__name__" := by decide)(b:(x==("__debug__" : Str))=false:=by decide)
 (l:starEach (e::es) X.env=(false,eval e X.env)::starEach es X.env:=by rfl) (a:(backTo pos (starEach es X.env)).any (·.1)=false:=by rfl):PE X (.Call (.Name x p) (e::es) [] pos) (DB r t):=by
 intro G s Z H Q I h;refine Xh (oq I k j g ?_ i b);exact Xq (b8 (n pos G s Z H _ I h) λus c ⟨vs,L,o,d,f⟩=>m G c Z L vs us Q o d f) l a
end
section
variable{W:Type}[DecidableEq W]
def km(a:List (W×V))(k:W):Option V:=(a.find? λb=>decide (b.1=k)).map (·.2)
def gD(a:List (W×V))(k:W)(v:V):List (W×V):=
 if (a.any λb=>decide (b.1=k))=true then a.map (λb=>if b.1=k then (b.1,v) else b) else a++[(k,v)]
def pw(a:List (W×V))(k:W):List (W×V):=a.filter λb=>decide (b.1≠k)
theorem E4{k:W}:km ([]:List (W×V)) k=none:=rfl
theorem mK{p:W×V}{r:List (W×V)}{k:W}(e:p.1=k):km (p::r) k=some p.2:=by simp[km,WS,e]
theorem mL{p:W×V}{r:List (W×V)}{k:W}(e:¬ p.1=k):km (p::r) k=km r k:=by simp[km,WS,e]
theorem wD(k:W):∀ a:List (W×V),(a.any λb=>decide (b.1=k))=(km a k).isSome
 |[]=>rfl
 | p::r=>by
   rw[XY];by_cases e:p.1=k
   ·simp only[mK e,Wm e,Bool.true_or,Option.isSome_some]
   ·rw[mL e,We e,Bool.false_or]; exact wD k r
theorem pe(a:List (W×V))(k:W)(v:V):(gD a k v).length<=a.length+1:=by
 unfold gD;split
 ·rw[VN]; omega
 ·rw[VT,VU,XC]; omega
theorem RelO.isSome_eq{o:Option V}{u:Option Value}(r:RelO o u):o.isSome=u.isSome:=by
 cases o with
 | none=>cases u with
   |none=>rfl
   |some _=>exact(show False from r).elim
 | some _=>cases u with
   |none=>exact(show False from r).elim
   |some _=>rfl
theorem RelO.getD{o:Option V}{u:Option Value}{d:V}{d':Value}(r:RelO o u)(rd:RelV d d'):RelV (o.getD d) (u.getD d'):=by
 cases o with
 | none=>cases u with
   |none=>exact rd
   |some _=>exact(show False from r).elim
 | some _=>cases u with
   |none=>exact(show False from r).elim
   |some _=>exact r
theorem KV.val{a:List (W×V)}{vs:List (W×Value)}(r:KV a vs)(k:W):RelO (km a k) (valueAt vs k):=by
 unfold KV at r
 induction r with
 |nil=>exact True.intro
 |@cons p q ps c h t g=>
   obtain⟨f,i⟩:=h;by_cases e:p.1=k
   · have d:q.1=k:=f.symm.trans e;have b:valueAt (q::c) k=some q.2:=by simp[valueAt,WS,d]
     rw[mK e,b]; exact i
   · have d:¬ q.1=k:=λz=>e (f.trans z);have b:valueAt (q::c) k=valueAt c k:=by simp[valueAt,WS,d]
     rw[mL e,b]; exact g
theorem KV.any{a:List (W×V)}{vs:List (W×Value)}(r:KV a vs)(k:W):(a.any λb=>decide (b.1=k))=vs.any λb=>decide (b.1=k):=by
 unfold KV at r
 induction r with
 |nil=>rfl
 |cons h t c=>rw[XY,XY,c,h.1]
theorem KV.repl{b:List (W×V)}{vs:List (W×Value)}(r:KV b vs)(k:W){y:V}{u:Value}(d:RelV y u):
 KV (b.map λa=>if a.1=k then (a.1,y) else a) (vs.map λa=>if a.1=k then (a.1,u) else a):=by
 unfold KV at r ⊢
 induction r with
 |nil=>exact .nil
 |@cons p q ps i h t f=>
   rw[VQ,VQ];refine .cons ?_ f;obtain⟨c,g⟩:=h;by_cases e:p.1=k
   ·rw[on e,on (c.symm.trans e)]; exact⟨c,d⟩
   ·rw[VM e,VM (λz=>e (c.trans z))]; exact⟨c,g⟩
theorem KV.put{a:List (W×V)}{vs:List (W×Value)}(r:KV a vs)(k:W){y:V}{u:Value}(b:RelV y u):KV (gD a k y) (stored vs k u):=by
 unfold gD stored;rw[r.any k];by_cases e:(vs.any λc=>decide (c.1=k))=true
 ·rw[on e,on e]; exact r.repl k b
 ·rw[VM e,VM e]; exact Paired.snoc r ⟨rfl,b⟩
theorem KV.length{a:List (W×V)}{vs:List (W×Value)}(r:KV a vs):a.length=vs.length:=Xn r
theorem IZ(a:List (W×V))(k:W):(pw a k).length<=a.length:=Wo _ _
end
theorem uj{P:Program}{w:World}{k:b6}{u:Value}(r:RelV (kV k) u):(bF P w).is k u=true:=by
 cases k with
 |inl i=>obtain⟨t,e⟩:=(show ∃ t,u=Value.int i t from r); subst e; exact xt P w i t
 |inr x=>obtain⟨t,e⟩:=(show ∃ t,u=Value.str x t from r); subst e; exact xr P w x t
theorem ul{P:Program}{w:World}:∀ {ks:List b6} {us:List Value},Vals (ks.map kV) us->ItemsAre (bF P w) ks us
 |[],_,r=>by rw[Wv] at r; cases r; exact .nil
 | k::ks,_,r=>by
   rw[VQ] at r;cases r with
   |cons h t=>exact .cons (uj h) (ul t)
abbrev KT(H:Hp):List (List b6×V)->List (List b6×Addr×Value)->Prop:=Paired λp q=>p.1=q.1/\H q.2.1=some (.tup (p.1.map kV))/\RelV p.2 q.2.2
theorem KT.val{H:Hp}{a:List (List b6×V)}{xs:List (List b6×Addr×Value)}(r:KT H a xs)(k:List b6):RelO (km a k) ((atKey xs k).map (·.2)):=by
 induction r with
 |nil=>exact True.intro
 |@cons p q ps c h t g=>
   obtain⟨f,_,i⟩:=h;by_cases e:p.1=k
   · have d:q.1=k:=f.symm.trans e;have b:atKey (q::c) k=some q.2:=by simp[atKey,WS,d]
     rw[mK e,b]; exact i
   · have d:¬ q.1=k:=λz=>e (f.trans z);have b:atKey (q::c) k=atKey c k:=by simp[atKey,WS,d]
     rw[mL e,b]; exact g
theorem KT.repl{H:Hp}{a:List (List b6×V)}{xs:List (List b6×Addr×Value)}(r:KT H a xs)(k:List b6){y:V}{u:Value}(f:RelV y u):
 KT H (a.map λc=>if c.1=k then (c.1,y) else c) (xs.map (putAt k u)):=by
 induction r with
 |nil=>exact .nil
 |@cons p q ps j h t g=>
   rw[List.map_cons,List.map_cons];refine .cons ?_ g;obtain⟨b,d,i⟩:=h;unfold putAt;by_cases e:p.1=k
   ·rw[on e,on (b.symm.trans e)]; exact⟨b,d,f⟩
   ·rw[VM e,VM (λz=>e (b.trans z))]; exact⟨b,d,i⟩
theorem KT.put{H:Hp}{a:List (List b6×V)}{xs:List (List b6×Addr×Value)}(r:KT H a xs)(k:List b6){b:Addr}{y:V}{u:Value}(f:H b=some (.tup (k.map kV)))(c:RelV y u):
 KT H (gD a k y) (storedH xs k b u):=by
 have e:(a.any λd=>decide (d.1=k))=(atKey xs k).isSome:=by
  rw[wD,(r.val k).isSome_eq,Yk]
 unfold gD storedH;rw[e];by_cases q:(atKey xs k).isSome=true
 ·rw[on q,on q]; exact r.repl k c
 ·rw[VM q,VM q]; exact Paired.snoc r ⟨rfl,f,c⟩
theorem KT.keeps{H H':Hp}{a:List (List b6×V)}{xs:List (List b6×Addr×Value)}(r:KT H a xs)(c:∀ b ys,H b=some (.tup ys)->H' b=some (.tup ys)):KT H' a xs:=
 Paired.mapP r λ_ _ z=>⟨z.1,c _ _ z.2.1,z.2.2⟩
section
variable{P:Program}{w:World}{H:Hp}{h:Heap}{a:Addr}
theorem ME{u:HO}(ok:HOk P w H h)(e:Rd H a u):ObjOk P w H h a u:=e.ok ok
theorem rP{b:List (b6×V)}(ok:HOk P w H h)(e:Rd H a (.dK b)):b.length<=sizeLine/\(a==sysModules)=false/\∃ vs,KV b vs/\h.DictOf (bF P w) a vs:=
 show ObjOk P w H h a (.dK b) from ME ok e
theorem T4{b:List (b6×V)}(ok:HOk P w H h)(e:H a=some (.dK b)):b.length<=sizeLine/\(a==sysModules)=false/\∃ vs,KV b vs/\h.DictOf (bF P w) a vs:=rP ok (.inl e)
theorem kO{ks:List b6}(ok:HOk P w H h)(e:H a=some (.tup (ks.map kV))):(tupleKind (bF P w)).is h ks a:=by
 obtain⟨_,its,r,o,d,c,n,b⟩:=(show ObjOk P w H h a (.tup (ks.map kV)) from ok a _ e);exact⟨o,its.toArray,n,d,c,b,by simpa using ul r⟩
theorem rL{b:List (List b6×V)}(ok:HOk P w H h)(e:Rd H a (.dT b)):b.length<=sizeLine/\(a==sysModules)=false/\
 ∃ xs,KT H b xs/\h.DictOfH (tupleKind (bF P w)) a xs:=by
 obtain⟨z,y,xs,r,o,es,ep,n,k,j,i,g⟩:=(show ObjOk P w H h a (.dT b) from ME ok e);refine⟨z,y,xs,r,o,es,ep,n,k,j,i,λx c=>?_,g⟩
 have all:∀ {l:List (List b6×V)} {m:List (List b6×Addr×Value)},KT H l m->∀ x∈m,(tupleKind (bF P w)).is h x.1 x.2.1:=by
  intro l m q
  induction q with
  |nil=>intro x c; exact nomatch c
  |@cons p q ps s d t f=>
    intro x c;rcases List.mem_cons.mp c with e|c
    ·subst e;exact kO ok (by rw[<-d.1]; exact d.2.1)
    ·exact f x c
 exact all r x c
theorem M5{b:List (List b6×V)}(ok:HOk P w H h)(e:H a=some (.dT b)):b.length<=sizeLine/\(a==sysModules)=false/\
 ∃ xs,KT H b xs/\h.DictOfH (tupleKind (bF P w)) a xs:=rL ok (.inl e)
end
def DGet(H:Hp)(a:Addr)(y:V)(r:Option V):Prop:=
 (∃ c k,Rd H a (.dK c)/\y=kV k/\r=km c k)\/∃ c k b,Rd H a (.dT c)/\y= .ref b/\H b=some (.tup (k.map kV))/\r=km c k
def DPut(H:Hp)(a:Addr)(y v:V)(H':Hp):Prop:=
 (∃ c k,H a=some (.dK c)/\y=kV k/\c.length<sizeLine/\H'=upd H a (.dK (gD c k v)))\/
 ∃ c k b,H a=some (.dT c)/\y= .ref b/\H b=some (.tup (k.map kV))/\c.length<sizeLine/\H'=upd H a (.dT (gD c k v))
theorem DGet.k{H:Hp}{a:Addr}{b:List (b6×V)}{k:b6}(e:H a=some (.dK b)):DGet H a (kV k) (km b k):= .inl ⟨b,k,.inl e,rfl,rfl⟩
theorem DPut.k{H:Hp}{a:Addr}{b:List (b6×V)}{k:b6}{v:V}(e:H a=some (.dK b))(c:b.length<sizeLine):DPut H a (kV k) v (upd H a (.dK (gD b k v))):= .inl ⟨b,k,e,rfl,c,rfl⟩
theorem DPut.t{H:Hp}{a b:Addr}{c:List (List b6×V)}{k:List b6}{v:V}(e:H a=some (.dT c))(f:H b=some (.tup (k.map kV)))(d:c.length<sizeLine):
 DPut H a (.ref b) v (upd H a (.dT (gD c k v))):= .inr ⟨c,k,b,e,rfl,f,d,rfl⟩
section
variable{X:Cx}{G:L1}{Z:St}{H:Hp}{s:Shared}{a:Addr}{y v:V}{u r:Value}{o:Option V}{A:Around}{E:L3}
theorem Inv.big(I:Inv X G Z H s):sysModules<s.heap.objs.size:=by
 have h:mainGlobals<s.heap.objs.size:=(I.mod.glob.keeps I.bk).lt;exact Nat.lt_trans (by decide) h
theorem En{Q:L3}(t:A.units+1<cLine)(I:Inv X G Z H s)(g:DGet H a y (some v))(r:RelV y u)(h:∀ f q,Inv X G Z H q->RelV v f->Q f q):
 wpAny (model X.prog X.w) A (getItem (.ref a) u) Q E s:=by
 rcases g with ⟨i,k,e,n,l⟩|⟨i,k,b,e,n,x,l⟩
 ·subst n;obtain⟨z,hd,vs,d,dd⟩:=rP I.hok e;obtain⟨f,j,c⟩:=RelO.some_of (v:=v) (o:=valueAt vs k) (by rw[l]; exact d.val k);exact wpAny_getItem_of (uj r) dd.mapOf j (h f _ (I.tok _) c)
 ·subst n;cases(show u=Value.ref b from r);obtain⟨z,hd,xs,d,dd⟩:=rL I.hok e;obtain⟨f,j,c⟩:=RelO.some_of (v:=v) (o:=(atKey xs k).map (·.2)) (by rw[l]; exact d.val k);obtain⟨p,hp,m⟩:=Option.map_eq_some_iff.mp j;refine wpAny_getItem_heap (Xi t) (kO I.hok x) dd hp ?_;rw[m];exact h f _ (I.tok _) c
theorem Vz{Q:L3}(m:A.units+1<cLine)(I:Inv X G Z H s)(g:DGet H a y o)(j:RelV y u)(h:∀ i,Inv X G Z H i->Q (.bool o.isSome) i):
 wpAny (model X.prog X.w) A (compareOp .In u (.ref a)) Q E s:=by
 rcases g with ⟨d,k,e,f,l⟩|⟨d,k,b,e,f,n,l⟩
 ·subst f;obtain⟨z,hd,vs,c,dd⟩:=rP I.hok e;refine wpAny_in_of (uj j) hd dd.mapOf ?_;rw[<-(c.val k).isSome_eq,<-l];exact h _ (I.tok _)
 ·subst f;cases(show u=Value.ref b from j);obtain⟨z,hd,xs,c,dd⟩:=rL I.hok e;refine wpAny_in_heap (Xi m) (kO I.hok n) hd dd ?_;have q:=(c.val k).isSome_eq;rw[Yk] at q;rw[<-q,<-l];exact h _ (I.tok _)
theorem LZ{Q:L3}(m:A.units+1<cLine)(I:Inv X G Z H s)(g:DGet H a y o)(j:RelV y u)(h:∀ i,Inv X G Z H i->Q (.bool (!o.isSome)) i):
 wpAny (model X.prog X.w) A (compareOp .NotIn u (.ref a)) Q E s:=by
 rcases g with ⟨d,k,e,f,l⟩|⟨d,k,b,e,f,n,l⟩
 ·subst f;obtain⟨z,hd,vs,c,dd⟩:=rP I.hok e;refine wpAny_notIn_of (uj j) hd dd.mapOf ?_;rw[<-(c.val k).isSome_eq,<-l];exact h _ (I.tok _)
 ·subst f;cases(show u=Value.ref b from j);obtain⟨z,hd,xs,c,dd⟩:=rL I.hok e;refine wpAny_notIn_heap (Xi m) (kO I.hok n) hd dd ?_;have q:=(c.val k).isSome_eq;rw[Yk] at q;rw[<-q,<-l];exact h _ (I.tok _)
theorem vI{h':Heap}{t':Nat}{ob:HO}(I:Inv X G Z H s)(c:UR (H a))(d:Heap.SameBut a s.heap h')(f:∃ q,h'.get? a=some q)(new:ObjOk X.prog X.w (upd H a ob) h' a ob):
 Inv X G Z (upd H a ob) {s with heap:=h',toks:=t'}:=
 I.write (x:=a) (e:=a) c (.inl rfl) (λb q g z=>(d.2 b g).trans z) f new
theorem Qd{P:Program}{w:World}{H':Hp}{h':Heap}{b:List (b6×V)}{vs:List (b6×Value)}(z:b.length<=sizeLine)(hd:(a==sysModules)=false)(c:KV b vs)(dd:h'.DictOf (bF P w) a vs):
 ObjOk P w H' h' a (.dK b):=⟨z,hd,vs,c,dd⟩
theorem Em{H':Hp}{Q:Unit->Shared->Prop}(D:A.units+1<cLine)(I:Inv X G Z H s)(g:DPut H a y v H')(t:RelV y u)(x:RelV v r)(h:∀ p,Inv X G Z H' p->Q () p):
 wpAny (model X.prog X.w) A (setItem (.ref a) u r) Q E s:=by
 rcases g with ⟨f,k,e,o,l,eH⟩|⟨f,k,b,e,o,C,l,eH⟩
 · subst o eH;obtain⟨z,hd,vs,d,dd⟩:=T4 I.hok e;have hz:vs.length<=sizeLine:=by rw[<-d.length]; exact z
   have n:(gD f k v).length<=sizeLine:=by have:=pe f k v; omega
   refine wpAny_setItem_pairs (hsz:=hz) (uj t) dd λh' i m=>h _ ?_;have F:∃ q,h'.get? a=some q:=let ⟨q,_,_,j,_⟩:=i; ⟨q,j⟩
   exact vI I (by rw[e]; exact True.intro) m F (Qd n hd (d.put k x) i)
 · subst o eH;cases(show u=Value.ref b from t);obtain⟨z,hd,xs,d,dd⟩:=M5 I.hok e;have hz:xs.length<=sizeLine:=by rw[<-Xn d]; exact z
   have n:(gD f k v).length<=sizeLine:=by have:=pe f k v; omega
   refine wpAny_setItem_heap (hsz:=hz) (Xi D) (kO I.hok C) dd λh' i m=>h _ ?_;obtain⟨q,es,ep,j,M,L,K,_,J⟩:=i;refine vI I (by rw[e]; exact True.intro) m ⟨q,j⟩ ⟨n,hd,_,(d.put k C x).keeps λc ys B=>?_,q,es,ep,j,M,L,K,J⟩;rw[bc (BO B e (λz=>nomatch z))];exact B
end
def UQ(i:Expr):Prop:=∀ ov a,subscripted i false ov a=operate [ov,a] (getItem ov a)
theorem KG{prog:Program}{w:World}{A:Around}{E:L3}{s:Shared}{env:Env}{b a:Expr}{l:Pos}{T id:String}{Q:L3}
 (p:typeLookup (.type T) "__getitem__" = pure (some (.builtin id))) (n:UQ a)
 (h:wpAny (model prog w) A (eval b env) (λo f=>wpAny (model prog w) A (eval a env) (λi c=>c.TypeIs o T/\wpAny (model prog w) A (getItem o i) Q E c) E f) E s):
 wpAny (model prog w) A (eval (.Subscript b a l) env) Q E s:=by
 refine Subscript_ (wpAny_mono h (λo f k=>wpAny_mono k (λi c d=>?_) λ_ _ x=>x) λ_ _ x=>x);obtain⟨m,d⟩:=d;unfold subscriptTail;refine wpAny_bind ?_;rw[getitemInPython_of_ne m.not_modules];refine wpAny_bind (wpAny_specialOf m p ?_)
 have g:wpAny (model prog w) A (subscripted a false o i) (λr e=>wpAny (model prog w) A (letTemporaryGo b o r >>= λ_=>pure r) Q E e) E c:=by
  rw[n o i];exact wpAny_operating (W8 d (λr e j=>VO (wpAny_letTemporaryGo (VY j))) λ_ _ x=>x)
 first
  |exact VY (VO g)
  |exact VO (VY (VO g))
  |exact VO g
theorem xY{X:Cx}{G:L1}{Z:St}{H:Hp}{s:Shared}{a:Addr}{y:V}{o:Option V}(I:Inv X G Z H s)(g:DGet H a y o):s.TypeIs (.ref a) "dict" := by
 rcases g with ⟨c,k,e,_,_⟩|⟨c,k,b,e,_,_,_⟩
 ·obtain⟨_,_,vs,_,dd⟩:=rP I.hok e;exact dd.typeIs
 ·obtain⟨_,_,xs,_,dd⟩:=rL I.hok e;exact dd.typeIs
def Mv(c ty:TE):TE:=λZ H Q=>c Z H λx L=>ty Z L λy b=>∃ a v,x= .ref a/\DGet b a y (some v)/\Q v b
def Ru(ty c:TE):TE:=λZ H Q=>ty Z H λy L=>c Z L λx b=>∃ a o,x= .ref a/\DGet b a y o/\Q (.bl o.isSome) b
def AO(ty c:TE):TE:=λZ H Q=>ty Z H λy L=>c Z L λx b=>∃ a o,x= .ref a/\DGet b a y o/\Q (.bl (!o.isSome)) b
def MC(d ty c:TE):TS:=λD Z H=>c Z H λv L=>d Z L λx f=>ty Z f λy e=>∃ a b,x= .ref a/\DPut e a y v b/\D.nx Z b
section
variable{X:Cx}{o i e value:Expr}{pos pos' tpos:Pos}{td ty tv:TE}
theorem iG(l:X.A.units+1<cLine)(n:PE X o td)(hi:PE X i ty)(m:UQ i):PE X (.Subscript o i pos) (Mv td ty):=by
 intro G s Z H Q I h;refine KG PySem.F.slot_dict_getitem.lookup m (b8 (n G s Z H _ I h) λu d ⟨x,L,q,f,k⟩=>b8 (hi G d Z L _ q k) λz s2 ⟨y,r,c,e,a,v,ex,g,j⟩=>?_);subst ex;obtain rfl:u=Value.ref a:=f;exact⟨xY c g,En l c g e λt w p b=>⟨v,r,p,b,j⟩⟩
theorem GJ(j:X.A.units+1<cLine)(hi:PE X i ty)(k:PE X o td):PC X .In i o (Ru ty td):=by
 intro G s Z H Q I h;refine b8 (hi G s Z H _ I h) λr b ⟨y,L,n,c,f⟩=>b8 (k G b Z L _ n f) λu s2 ⟨x,p,m,d,a,ov,ex,g,e⟩=>?_;subst ex;obtain rfl:u=Value.ref a:=d;exact Vz j m g c λq l=>⟨.bl ov.isSome,p,l,rfl,e⟩
theorem t9(j:X.A.units+1<cLine)(hi:PE X i ty)(k:PE X o td):PC X .NotIn i o (AO ty td):=by
 intro G s Z H Q I h;refine b8 (hi G s Z H _ I h) λr b ⟨y,L,n,c,f⟩=>b8 (k G b Z L _ n f) λu s2 ⟨x,p,m,d,a,ov,ex,g,e⟩=>?_;subst ex;obtain rfl:u=Value.ref a:=d;exact LZ j m g c λq l=>⟨.bl (!ov.isSome),p,l,rfl,e⟩
theorem fw(m:X.A.units+1<cLine)(p:PE X o td)(hi:PE X i ty)(l:PE X value tv)(n:swapsWith value (some (.Subscript o i pos')) pos.line X.env=pure false):
 PS X (.Assign [.Subscript o i pos'] value pos) (MC td ty tv):=by
 intro G s Z H D I h;refine wpAny_Assign_Subscript (b8 (l G s Z H _ I h) λr b ⟨v,L,z,e,k⟩=>b8 (p G b Z L _ z k) λu s2 ⟨x,C,w,d,j⟩=>b8 (hi G s2 Z C _ w j) λJ F ⟨y,K,t,c,a,B,ex,g,f⟩=>?_) n;subst ex;obtain rfl:u=Value.ref a:=d;exact Em m t g c e λE q=>⟨Z,B,q,f⟩
end
theorem IY{P:Program}{w:World}{H:Hp}(h:Heap)(a:sysModules<h.objs.size):ObjOk P w H (h.push {cls:= .type "dict",data:= .dict #[]}) h.objs.size (.dT []):=
 ⟨WP _,beq_eq_false_iff_ne.mpr (Xv (Wc a)),[],.nil,_,#[],0,V3 _ rfl,⟨rfl,rfl,rfl⟩,rfl,rfl,Wz⟩
def Fe:TE:=λ_ H Q=>∀ p,H p=none->Q (.ref p) (upd H p (.dT []))
section
variable{X:Cx}{pos:Pos}
theorem jb:PE X (.Dict [] [] pos) Fe:=λG s Z H Q I h=>
 wpAny_Dict_empty ⟨.ref s.heap.objs.size,_,I.laid (a:=s.heap.objs.size) (o:= .dT []) (t':=s.toks) (λ_ _ q=>VS _ q) (VW _) (IY s.heap I.big),rfl,h _ (I.hok.fresh (VW _))⟩
end
structure M1 (X:Cx) (o:Expr) (m:Str) (apos:Pos) (e:Expr) (cpos:Pos):Prop where
 base:attributeBase o m X.env (eval o X.env)=eval o X.env
 few:((backTo cpos (starEach [e] X.env)).all (λx=>!x.1)&&(backToKw cpos (keywordEach [] X.env)).all (λx=>x.1.isSome)
  && decide (([e]:List Expr).length+([]:List Keyword).length+(if ([]:List Keyword).isEmpty then 0 else 1)<30))=true
 line:(apos.endLine==cpos.line)=true
 trees:backTo cpos (starEach [e] X.env)=[(false,eval e X.env)]
structure M2 (X:Cx) (o:Expr) (m:Str) (apos:Pos) (e f:Expr) (cpos:Pos):Prop where
 base:attributeBase o m X.env (eval o X.env)=eval o X.env
 few:((backTo cpos (starEach [e,f] X.env)).all (λx=>!x.1)&&(backToKw cpos (keywordEach [] X.env)).all (λx=>x.1.isSome)
  && decide (([e,f]:List Expr).length+([]:List Keyword).length+(if ([]:List Keyword).isEmpty then 0 else 1)<30))=true
 line:(apos.endLine==cpos.line)=true
 trees:backTo cpos (starEach [e,f] X.env)=[(false,eval e X.env),(false,eval f X.env)]
def UT(H:Hp)(a:Addr):Prop:=(∃ b,Rd H a (.dK b))\/∃ b,Rd H a (.dT b)
theorem IF{X:Cx}{G:L1}{Z:St}{H:Hp}{s:Shared}{a:Addr}(I:Inv X G Z H s)(d:UT H a):
 s.TypeIs (.ref a) "dict" /\ (∀ b,Value.ref a= .ref b->∃ ob,s.heap.get? b=some ob/\ob.dict=none)/\(a==sysModules)=false:=by
 rcases d with ⟨c,e⟩|⟨c,e⟩
 ·obtain⟨_,hd,vs,_,dd⟩:=rP I.hok e;refine⟨dd.typeIs,λb q=>?_,hd⟩;cases q;obtain⟨ob,_,_,g,f,_⟩:=dd;exact⟨ob,g,f.2.1⟩
 ·obtain⟨_,hd,xs,_,dd⟩:=rL I.hok e;refine⟨dd.typeIs,λb q=>?_,hd⟩;cases q;obtain⟨ob,_,_,g,f,_⟩:=dd;exact⟨ob,g,f.2.1⟩
section
variable{X:Cx}{G:L1}{Z:St}{H:Hp}{s:Shared}{a:Addr}{y d:V}{u r:Value}{o:Option V}{A:Around}{E:L3}
theorem Qg{Q:L3}(p:A.units+1<cLine)(I:Inv X G Z H s)(g:DGet H a y o)(n:RelV y u)(rd:RelV d r)(h:∀ j m,Inv X G Z H m->RelV (o.getD d) j->Q j m):
 wpAny (model X.prog X.w) A (call (.builtin "dict.get") [.ref a,u,r]) Q E s:=by
 rcases g with ⟨f,k,e,i,l⟩|⟨f,k,b,e,i,q,l⟩
 ·subst i;obtain⟨z,hd,vs,c,dd⟩:=rP I.hok e;refine call_meetsIn XU dd.typeIs YA (Ys _ _ _) (meets_dict_get_default (bF X.prog X.w) a (uj n) hd r) ⟨_,dd.mapOf,h _ _ (I.tok _) ?_⟩;rw[l];exact(c.val k).getD rd
 ·subst i;cases(show u=Value.ref b from n);obtain⟨z,hd,xs,c,dd⟩:=rL I.hok e;refine call_meetsIn XU dd.typeIs YA (Ys _ _ _) (meetsH_dict_get_default (tupleKind (bF X.prog X.w)) a b hd r) ⟨Xi p,k,xs,kO I.hok q,dd,h _ _ (I.tok _) ?_⟩;rw[l];exact(c.val k).getD rd
end
def Ff(d ty c:TE):TE:=λZ H Q=>d Z H λx L=>∃ a,x= .ref a/\UT L a/\ty Z L λy e=>c Z e λz b=>∃ o,DGet b a y o/\Q (o.getD z) b
section
variable{X:Cx}{o e f:Expr}{apos cpos:Pos}{td ty tx:TE}
theorem w6(v:X.A.units+1<cLine)(w:PE X o td)(C:PE X e ty)(B:PE X f tx)(m:M2 X o "get" apos e f cpos):PE X (.Call (.Attribute o "get" apos) [e,f] [] cpos) (Ff td ty tx):=by
 intro G s Z H Q I h;refine wpAny_Call_method m.base m.few m.line Yt XU PySem.F.type_dict_get (b8 (w G s Z H _ I h) λu k ⟨x,L,c,p,a,ex,d,t⟩=>?_);subst ex;obtain rfl:u=Value.ref a:=p;obtain⟨j,i,_⟩:=IF c d;refine⟨j,i,?_⟩;rw[m.trees]
 refine XJ rfl (XZ (XE (b8 (C G k Z L _ c t) λR s2 ⟨y,M,J,n,r⟩=>
  XE (b8 (B G s2 Z M _ J r) λS P ⟨z,K,E,l,ov,g,q⟩=>Yj ?_))))
 exact Qg v E g n l λN O D b=>⟨_,K,D,b,q⟩
end
end L2
namespace HT
open PySem PyProof.Rows
def cQ:List Int->List Int->Bool
 |[],[]=>false
 |[],_::_=>true
 |_::_,[]=>false
 |x::xs,y::ys=>if x=y then cQ xs ys else decide (x<y)
theorem dC(x y:Int)(xs ys:List Int):cQ (x::xs) (y::ys)=if x=y then cQ xs ys else decide (x<y):=rfl
theorem rh(y:Int)(ys:List Int):cQ [] (y::ys)=true:=rfl
theorem ri(x:Int)(xs:List Int):cQ (x::xs) []=false:=rfl
section
variable{prog:Program}{w:World}{A:Around}{E:L3}{s:Shared}
def wQ(n d:Nat):Option Int->Nat
 |none=>d
 |some v=>if v<0 then (v+(n:Int)).toNat else min v.toNat n
theorem FM(n d:Nat):wQ n d none=d:=rfl
end
end HT
namespace L2
open PySem PySem.Spec PyProof.Rows
abbrev TO:=St->Hp->(Option Int->Hp->Prop)->Prop
def PO(X:Cx)(e:Option Expr)(t:TO):Prop:=
 ∀ (G:L1) (s:Shared) (Z:St) (H:Hp) (Q:Option Int->Hp->Prop),Inv X G Z H s->t Z H Q->
  wpAny (model X.prog X.w) X.A (evalPart e X.env) (λu a=>∃ o H',Inv X G Z H' a/\IsPart u o/\Q o H') X.xe s
def p5:TO:=λ_ H Q=>Q none H
def AN(t:TE):TO:=λZ H Q=>t Z H λx L=>∃ i,x= .int i/\Q (some i) L
theorem rA{ns:List Int}:∀ {us:List Value},Vals (ns.map V.int) us->IntsAre us ns:=by
 induction ns with
 |nil=>intro us r; rw[Wv] at r; cases r; exact .nil
 |cons n ns c=>
   intro us r;rw[VQ] at r;cases r with
   |cons b a=>
     obtain⟨t,e⟩:=b;subst e;exact .cons n t (c a)
section
variable{X:Cx}{e:Expr}{te:TE}{lo hi:Option Expr}{tl th:TO}{pos p2:Pos}
theorem mR:PO X none p5:=by
 intro G s Z H Q I h;rw[evalPart_none];exact VY ⟨none,H,I,.none,h⟩
theorem mQ(h:PE X e te):PO X (some e) (AN te):=by
 intro G s Z H Q I c;rw[evalPart_some];refine b8 (h G s Z H _ I c) λu f ⟨x,L,d,a,b⟩=>?_;obtain⟨i,rfl,q⟩:=b;obtain⟨t,rfl⟩:=a;exact⟨some i,L,d,.int i t,q⟩
def Vi(X:Cx)(r:V->Option Int->Option Int->Hp->VK->Prop):Prop:=
 ∀ (G:L1) (s:Shared) (Z:St) (H:Hp) (x:V) (v b a:Value) (lo hi:Option Int) (sl:Addr) (Q:VK),Inv X G Z H s->RelV x v->s.heap.IsSliceOf sl b a .none->IsPart b lo->IsPart a hi->r x lo hi H Q->
  ∃ T id,typeLookup (.type T) "__getitem__" = pure (some (.builtin id))/\s.TypeIs v T/\wpAny (model X.prog X.w) X.A (getItem v (.ref sl)) (EP X G Z Q) X.xe s
def UX(r:V->Option Int->Option Int->Hp->VK->Prop)(te:TE)(tl th:TO):TE:=λZ H Q=>te Z H λx L=>tl Z L λl b=>th Z b λu a=>r x l u a Q
theorem kE{r:V->Option Int->Option Int->Hp->VK->Prop}(t:Vi X r)(B:PE X e te)(y:PO X lo tl)(o:PO X hi th):PE X (.Subscript e (.Slice lo hi none p2) pos) (UX r te tl th):=by
 intro G s Z H Q I h;refine Subscript_ (b8 (B G s Z H _ I h) λv g ⟨x,L,J,i,m⟩=>?_);refine wpAny_Slice (b8 (y G g Z L _ J m) λd s2 ⟨l,K,F,pl,k⟩=>b8 (o G s2 Z K _ F k) λc a ⟨u,f,E,n,j⟩=>?_);rw[evalPart_none];refine wpAny_pure ?_;have D:Inv X G Z f {a with heap:=a.heap.push {cls:= .type "slice",data:= .fields #[d,c,.none]}}:=E.kept (t':=a.toks) λb ob q=>Heap.get?_push_of_some _ q;obtain⟨T,id,C,p,z⟩:=t G {a with heap:=a.heap.push {cls:= .type "slice",data:= .fields #[d,c,.none]}} Z f x v d c l u a.heap.objs.size Q D i (Heap.IsSliceOf.new ..) pl n j;show wpAny (model X.prog X.w) X.A (subscriptTail e (.Slice lo hi none p2) v (.ref a.heap.objs.size)) (EP X G Z Q) X.xe {a with heap:=a.heap.push {cls:= .type "slice",data:= .fields #[d,c,.none]}};exact tail_any (ops:=[.ref a.heap.objs.size,v]) p C z (by with_unfolding_all rfl)
def Ep(xs:List V)(lo hi:Option Int):List V:=(xs.drop (HT.wQ xs.length 0 lo)).take (HT.wQ xs.length xs.length hi-HT.wQ xs.length 0 lo)
theorem yd(xs:List V)(lo hi:Option Int):(Ep xs lo hi).length<=xs.length:=by
 unfold Ep;rw[List.length_take,List.length_drop];omega
end
def IB(n:Nat)(i:Int):Option Nat:=if 0<=i then (if i<n then some i.toNat else none) else if -(n:Int)<=i then some (i+n).toNat else none
def kj{W:Type}(xs:List W)(i:Int):Option W:=(IB xs.length i).bind λj=>xs[j]?
theorem BY{n:Nat}{i:Int}{j:Nat}(h:IB n i=some j):seqIndex? i n=some j/\j<n/\-(n:Int)<=i/\i<n:=by
 unfold IB at h;by_cases h0:0<=i
 · rw[on h0] at h;by_cases a:i<n
   ·rw[on a] at h;have e:i.toNat=j:=Wh h;exact⟨by rw[seqIndex_of h0 a,e],by omega,by omega,a⟩
   ·rw[VM a] at h; cases h
 · rw[VM h0] at h;by_cases a:-(n:Int)<=i
   ·rw[on a] at h;have e:(i+n).toNat=j:=Wh h;exact⟨by rw[seqIndex_neg (by omega) a,e],by omega,a,by omega⟩
   ·rw[VM a] at h; cases h
theorem wx{W:Type}{xs:List W}{i:Int}{v:W}(h:kj xs i=some v):∃ j,seqIndex? i xs.length=some j/\xs[j]?=some v/\j<xs.length/\-(xs.length:Int)<=i/\i<xs.length:=by
 unfold kj at h;cases e:IB xs.length i with
 |none=>rw[e] at h; cases h
 |some j=>
   rw[e] at h;obtain⟨d,c,b,a⟩:=BY e;exact⟨j,d,h,c,b,a⟩
theorem yK{W:Type}(xs:List W)(v:W):kj (xs++[v]) (-1)=some v:=by
 have a:(xs++[v]).length=xs.length+1:=by simp
 have e:IB (xs++[v]).length (-1)=some xs.length:=by
  unfold IB;rw[a,if_neg (by decide),if_pos (by omega)];congr 1;omega
 unfold kj;rw[e];show(xs++[v])[xs.length]?=some v;simp
def Mf(b:Expr):Prop:=∀ o i,subscripted b false o i=operate [o,i] (getItem o i)
def Rh(X:Cx)(r:R2):Prop:=
 ∀ (b a:Expr) (G:L1) (s:Shared) (Z:St) (H:Hp) (x y:V) (v u:Value) (Q:VK),Inv X G Z H s->RelV x v->RelV y u->r x y H Q->
  subscripted a false v u=operate [v,u] (getItem v u)->wpAny (model X.prog X.w) X.A (subscriptTail b a v u) (EP X G Z Q) X.xe s
def Q8(X:Cx)(id:String)(r:V->List V->Hp->VK->Prop):Prop:=
 ∀ (G:L1) (s:Shared) (Z:St) (H:Hp) (x:V) (xs:List V) (v:Value) (us:List Value) (Q:VK),Inv X G Z H s->RelV x v->Vals xs us->r x xs H Q->
  wpAny (model X.prog X.w) X.A (call (.builtin id) (v::us)) (EP X G Z Q) X.xe s
section
variable{X:Cx}{a b:Expr}{ta tb:TE}{pos:Pos}
theorem dY{r:R2}(f:Rh X r)(i:PE X a ta)(g:PE X b tb)(e:Mf b):PE X (.Subscript a b pos) (Mr r ta tb):=by
 intro G s Z H Q I h;exact Subscript_ (QM i g I h λv u s2 x y k j d c q=>f a b G s2 Z k x y v u Q j d c q (e _ _))
def N5(K:L0):R2:=λx y H Q=>∃ p xs i v,x= .ref p/\y= .int i/\SqL K H p xs/\kj xs i=some v/\Q v H
def N0(K:L0):R2:=λx y H Q=>∃ p xs i v,x= .ref p/\y= .int i/\SqT K H p xs/\kj xs i=some v/\Q v H
def RZ:R2:=λx y H Q=>∃ z i c,x= .str z/\y= .int i/\z.length<=sizeLine/\kj z.cps.toList i=some c/\Q (.str ⟨#[c]⟩) H
theorem LL:Rh X (N5 X.K):=by
 intro c d G s Z H x y v u Q I n m h g;obtain⟨p,xs,i,z,rfl,rfl,o,B,q⟩:=h;cases n;obtain⟨t,rfl⟩:=m;obtain⟨its,r,pl,hz⟩:=I.list o;obtain⟨j,b,E,J,D,C⟩:=wx B;obtain⟨w,k,e⟩:=r.get E;have A:=r.length;have F:=rf;have a:EP X G Z Q w s:=⟨z,H,I,e,q⟩;by_cases h0:0<=i
 · have f:i.toNat=j:=by
    rw[seqIndex_of h0 C] at b;exact Wh b
   exact item_listR pl.isList h0 (by omega) (by rw[f]; simpa using k) a g
 · have f:(i+(its.toArray.size:Int)).toNat=j:=by
    rw[seqIndex_neg (by omega) D] at b;rw[VZ,<-A];exact Wh b
   exact subscriptTail_builtinR (x:=w) pl.isList.typeIs slot_list_getitem.lookup
    (wpAny_getItem_list_neg (Q:=λr l=>r=w/\EP X G Z Q r l) pl.isList (by omega) (by rw[VZ]<;>omega) (by omega) (by rw[f]; simpa using k) ⟨rfl,a⟩) g
theorem PR:Rh X (N0 X.K):=by
 intro a b G s Z H x y v u Q I g f h k;obtain⟨p,xs,i,z,rfl,rfl,l,n,q⟩:=h;cases g;obtain⟨t,rfl⟩:=f;obtain⟨its,r,pl,hz⟩:=I.tuple l;obtain⟨j,A,o,F,E,D⟩:=wx n;obtain⟨w,B,c⟩:=r.get o;have m:=r.length;have C:=rf;have d:EP X G Z Q w s:=⟨z,H,I,c,q⟩
 exact subscriptTail_builtinR (x:=w) pl.typeIs slot_tuple_getitem.lookup
  (getItem_tuple (j:=j) (Q:=λr e=>r=w/\EP X G Z Q r e) pl (by omega) (by omega) (by rw[VZ,<-m]; exact A) (by simpa using B) ⟨rfl,d⟩) k
theorem PU:Rh X RZ:=by
 intro a b G s Z H x y v u Q I f e h g;obtain⟨z,i,c,rfl,rfl,hz,l,q⟩:=h;obtain⟨t,rfl⟩:=f;obtain⟨t',rfl⟩:=e;obtain⟨j,d,o,A,n,m⟩:=wx l;have k:z.cps.toList.length=z.length:=by simp[Str.length]
 rw[k] at d n m;have w:=rf
 exact tail_any (Ye s z t) slot_str_getitem.lookup (getItem_str (c:=c) (by
  have r:decide (i < -(2 ^ 63:Int))=false:=We (by omega);have p:decide (i>=2 ^ 63)=false:=We (by omega)
  rw[r,p,Bool.or_false]) (by rw[d]; simpa using o) ⟨.str ⟨#[c]⟩,H,I.tok _,⟨_,rfl⟩,q⟩) g
theorem uW(lo hi:Option Int)(n:Nat):(sliceBounds lo hi none n).1=((HT.wQ n 0 lo:Nat):Int)/\(sliceBounds lo hi none n).2.1=((HT.wQ n n hi:Nat):Int)/\(sliceBounds lo hi none n).2.2=1:=by
 refine⟨?_,?_,rfl⟩
 · cases lo with
   |none=>simp[sliceBounds,HT.wQ]
   |some i=>
     simp only[sliceBounds,HT.wQ,Option.getD_none,show(1:Int)>0 by decide,Y7];by_cases h:i<0
     ·simp only[h,Y7]<;>omega
     ·simp only[h,XM]<;>omega
 · cases hi with
   |none=>simp[sliceBounds,HT.wQ]
   |some i=>
     simp only[sliceBounds,HT.wQ,Option.getD_none,show(1:Int)>0 by decide,Y7];by_cases h:i<0
     ·simp only[h,Y7]<;>omega
     ·simp only[h,XM]<;>omega
theorem tE(its:List Value)(lo hi:Option Int):slicePick its.toArray lo hi none=((its.drop (HT.wQ its.length 0 lo)).take (HT.wQ its.length its.length hi-HT.wQ its.length 0 lo)).toArray:=by
 obtain⟨c,b,a⟩:=uW lo hi its.toArray.size;unfold slicePick;rw[c,b,a];simp only[sliceRange_one,pick_run,List.size_toArray]<;>rfl
def NZ(K:L0):V->Option Int->Option Int->Hp->VK->Prop:=λx lo hi H Q=>∃ a xs,x= .ref a/\SqL K H a xs/\∀ p,H p=none->Q (.ref p) (upd H p (.lst (Ep xs lo hi)))
theorem K0:Vi X (NZ X.K):=by
 intro G s Z H x v k j lo hi sl Q I e i pl f h;obtain⟨a,xs,rfl,g,q⟩:=h;cases e;obtain⟨its,r,d,hz⟩:=I.list g;have c:=r.length;refine⟨"list",_,slot_list_getitem.lookup,d.isList.typeIs,?_⟩;refine wpAny_getItem_list_slice d.isList i pl f .none (by simp) ?_ (by rw[VZ]<;>omega);rw[tE,<-c];refine⟨.ref s.heap.objs.size,_,I.laid (t':=s.toks) (o:= .lst (Ep xs lo hi)) (λb ob q=>VS _ q) (VW _) ?_,rfl,q _ (I.hok.fresh (VW _))⟩;exact⟨V4 (yd xs lo hi) hz,_,0,(r.drop (HT.wQ xs.length 0 lo)).take (HT.wQ xs.length xs.length hi-HT.wQ xs.length 0 lo),V3 _ rfl⟩
theorem wv:dJ X (.builtin "len") (λxs H Q=>∃ p ys,xs=[.ref p]/\(SqL X.K H p ys\/SqT X.K H p ys)/\Q (.int ys.length) H):=by
 intro G s Z H xs us Q I r h;obtain⟨p,ys,rfl,b,q⟩:=h;obtain⟨u,rfl,d⟩:=jZ r;cases d;have e:=rf;rcases b with b|b
 ·obtain⟨its,c,pl,hz⟩:=I.list b;have a:=c.length;exact Calls.call_len_list pl.isList (by simp only[VZ]<;>omega) ⟨.int ys.length,H,I.tok _,⟨s.toks+1,by rw[VZ,a]⟩,q⟩
 ·obtain⟨its,c,pl,hz⟩:=I.tuple b;have a:=c.length;exact len_tuple pl (by simp only[VZ]<;>omega) ⟨.int ys.length,H,I.tok _,⟨s.toks+1,by rw[VZ,a]⟩,q⟩
theorem nB:dJ X (.builtin "len") (λxs H Q=>∃ z,xs=[.str z]/\z.length<=sizeLine/\Q (.int z.length) H):=by
 intro G s Z H xs us Q I r h;obtain⟨z,rfl,hz,q⟩:=h;obtain⟨u,rfl,t,rfl⟩:=jZ r;have a:=rf;exact len_str (by omega) ⟨.int z.length,H,I.tok _,⟨_,rfl⟩,q⟩
theorem wu:dJ X (.type "list") (λxs H Q=>∃ p ys,xs=[.ref p]/\(SqL X.K H p ys\/SqT X.K H p ys)/\∀ l,H l=none->Q (.ref l) (upd H l (.lst ys))):=by
 intro G s Z H xs us Q I r h;obtain⟨p,ys,rfl,d,q⟩:=h;obtain⟨u,rfl,k⟩:=jZ r;cases k
 have g:∀ (its:List Value),Vals ys its->ys.length<=sizeLine->∀ (h':Heap) (c:Nat),(∀ b o',s.heap.get? b=some o'->h'.get? b=some o')->
  h'.get? s.heap.objs.size=some {cls:= .type "list",dict:=none,data:= .seq its.toArray c,slots:=#[]}->EP X G Z Q (.ref s.heap.objs.size) {s with heap:=h'}:=λits a hz h' c kp e=>
  ⟨.ref s.heap.objs.size,_,I.laid (t':=s.toks) kp (VW _) (show ObjOk X.prog X.w _ h' _ (.lst ys) from⟨hz,its,c,a,e⟩),rfl,q _ (I.hok.fresh (VW _))⟩
 rcases d with d|d
 ·obtain⟨its,a,pl,hz⟩:=I.list d;have f:=a.length;obtain⟨o,i,j,n,hd⟩:=pl.isList;exact call_list_seq p (.inl rfl) i j hd (λh' c kp e=>g its a hz h' c kp e) (by simp only[VZ]<;>omega)
 ·obtain⟨its,a,pl,hz⟩:=I.tuple d;have f:=a.length;obtain⟨o,i,j,n,hd⟩:=pl;exact call_list_seq p (.inr rfl) i j hd (λh' c kp e=>g its a hz h' c kp e) (by simp only[VZ]<;>omega)
theorem tM:dJ X (.type "tuple") (λxs H Q=>∃ p ys,xs=[.ref p]/\((SqL X.K H p ys/\∀ l,H l=none->Q (.ref l) (upd H l (.tup ys)))\/(SqT X.K H p ys/\Q (.ref p) H))):=by
 intro G s Z H xs us Q I r h;obtain⟨p,ys,rfl,h⟩:=h;obtain⟨u,rfl,g⟩:=jZ r;cases g;rcases h with ⟨c,q⟩|⟨c,q⟩
 · obtain⟨its,a,pl,hz⟩:=I.list c;have d:=a.length;refine call_tuple_list pl.isList (λh' kp=>?_) (by simp only[VZ]<;>omega);have f:Inv X G Z H {s with heap:=h'}:=I.kept (t':=s.toks) kp
   have i:Inv X G Z (upd H h'.objs.size (.tup ys)) {s with heap:=h'.push {cls:= .type "tuple",data:= .seq its.toArray}}:=
    f.laid (t':=s.toks) (λb o e=>VS _ e) (VW _) (show ObjOk X.prog X.w _ _ _ (.tup ys) from⟨hz,its,a,IsTup.new _ _⟩)
   exact⟨.ref h'.objs.size,_,i,rfl,q _ (f.hok.fresh (VW _))⟩
 ·obtain⟨its,a,pl,hz⟩:=I.tuple c;exact call_tuple_same pl ⟨.ref p,H,I,rfl,q⟩
def tyV(K:L0)(T:String)(x:V)(H:Hp):Prop:=match x with
 |.str _=>T = "str"
 |.int _=>T = "int"
 | .ref p=>(T = "list" /\ ∃ xs,SqL K H p xs)\/(T = "tuple" /\ ∃ o,K.lookup p=some o/\o.cls= .type "tuple" /\ o.dict=none)\/
    (T = "dict" /\ ((∃ a,H p=some (.dK a))\/∃ a,H p=some (.dT a)))\/(T = "set" /\ ∃ S n,H p=some (.set S n))
 |_=>False
theorem Ni{G:L1}{Z:St}{H:Hp}{s:Shared}{T:String}{x:V}{v:Value}(I:Inv X G Z H s)(r:RelV x v)(ty:tyV X.K T x H):
 s.TypeIs v T/\∀ a,v= .ref a->∃ ob,s.heap.get? a=some ob/\ob.dict=none:=by
 cases x with
 |str z=>
   obtain⟨t,rfl⟩:=r;cases(show T = "str" from ty);exact⟨Ye s z t,λ_ e=>nomatch e⟩
 |int i=>
   obtain⟨t,rfl⟩:=r;cases(show T = "int" from ty);exact⟨typeIs_int s i t,λ_ e=>nomatch e⟩
 |ref p=>
   cases r;rcases ty with ⟨rfl,xs,g⟩|⟨rfl,o,b,h,hd⟩|⟨rfl,b⟩|⟨rfl,S,n,b⟩
   ·obtain⟨its,_,pl,_⟩:=I.list g;refine⟨pl.isList.typeIs,λa e=>?_⟩;cases e;obtain⟨o,n,e,c,hd,_⟩:=pl;exact⟨o,e,hd⟩
   ·refine⟨⟨o,I.kIn p o b,h⟩,λa e=>?_⟩;cases e;exact⟨o,I.kIn _ o b,hd⟩
   · have z:∃ o,s.heap.get? p=some o/\o.ExactDict:=by
      rcases b with ⟨d,b⟩|⟨d,b⟩
      ·obtain⟨_,_,_,_,o,_,_,e,ex,_⟩:=I.hok p _ b;exact⟨o,e,ex⟩
      ·obtain⟨_,_,_,_,o,_,_,e,ex,_⟩:=I.hok p _ b;exact⟨o,e,ex⟩
     obtain⟨o,e,ex⟩:=z;refine⟨⟨o,e,ex.1⟩,λa f=>?_⟩;cases f;exact⟨o,e,ex.2.1⟩
   ·obtain⟨o,_,_,_,e,ex,_⟩:=I.hok p _ b;refine⟨⟨o,e,ex.1⟩,λa f=>?_⟩;cases f;exact⟨o,e,ex.2.1⟩
 |_=>exact False.elim ty
def AR(K:L0)(T:String)(r:V->List V->Hp->VK->Prop)(to:TE)(t:TA):TE:=λZ H Q=>to Z H λx L=>tyV K T x L/\t Z L λxs a=>r x xs a Q
variable{o e:Expr}{es:List Expr}{to:TE}{t:TA}{name:Str}{apos cpos:Pos}{T id:String}{r:V->List V->Hp->VK->Prop}
theorem gb(p:PlainAttrs T)(slot:Slot T name id)(f:typeOf (.builtin id)=pure (.type "method_descriptor"))(w:Q8 X id r)(u:PE X o to)(y:PA X (e::es) t)
 (c:attributeBase o name X.env (eval o X.env)=eval o X.env:=by rfl)
 (d:((backTo cpos (starEach (e::es) X.env)).all (λx=>!x.1)&&(backToKw cpos (keywordEach [] X.env)).all (λx=>x.1.isSome)
   && decide ((e::es).length+([]:List Keyword).length+(if ([]:List Keyword).isEmpty then 0 else 1)<30))=true:=by rfl)
 (b:(apos.endLine==cpos.line)=true:=by rfl) (q:starEach (e::es) X.env=(false,eval e X.env)::starEach es X.env:=by rfl) (a:(backTo cpos (starEach es X.env)).any (·.1)=false:=by rfl):
 PE X (.Call (.Attribute o name apos) (e::es) [] cpos) (AR X.K T r to t):=by
 intro G s Z H Q I h;refine wpAny_Call_method_late c d b rfl (b8 (u G s Z H _ I h) λv k ⟨x,L,j,g,ty,n⟩=>?_);obtain⟨A,z⟩:=Ni j g ty;refine⟨T,id,p,slot,f,A,z,?_⟩;have i:=y cpos G k Z L _ j n;rw[q] at i ⊢;refine XJ (by show(false||(backTo cpos (starEach es X.env)).any (·.1))=false; rw[a]<;>rfl) (XZ ?_);exact b8 i λus s2 ⟨vs,C,B,l,m⟩=>w G s2 Z C x vs v us Q B g l m
end
def Vl(X:Cx)(id:String)(r:V->List V->Hp->VK->Prop):Prop:=
 ∀ (G:L1) (s:Shared) (Z:St) (H:Hp) (x:V) (xs:List V) (v:Value) (us:List Value) (Q:VK),Inv X G Z H s->RelV x v->Vals xs us->r x xs H Q->
  wpAny (model X.prog X.w) X.A (call (.builtin id) (v::us)) (EP X G Z Q) X.xe s
theorem Vals.one:∀ {x:V} {us:List Value},Vals [x] us->∃ u,us=[u]/\RelV x u
 |_,_,.cons r .nil=>⟨_,rfl,r⟩
theorem Vals.eraseIdx:∀ {xs:List V} {us:List Value} (i:Nat),Vals xs us->Vals (xs.eraseIdx i) (us.eraseIdx i)
 |_,_,_,.nil=> .nil
 |_,_,0,.cons _ t=>t
 |_,_,i+1,.cons r t=> .cons r (Vals.eraseIdx i t)
theorem oo{W:Type}:∀ (l:List W) (i:Nat),(l.eraseIdx i).length<=l.length
 |[],_=>VW _
 |_::_,0=>Nat.le_succ _
 |_::r,i+1=>Nat.succ_le_succ (oo r i)
section
variable{X:Cx}{G:L1}{Z:St}{H:Hp}{s:Shared}{l b:Addr}{xs ys zs:List V}
theorem Inv.lset{its its':List Value}{n:Nat}{f:Array Value->Array Value}{t':Nat}(I:Inv X G Z H s)(g:H l=some (.lst xs))
 (e:s.heap.get? l=some {cls:= .type "list",data:= .seq its.toArray n}) (c:f its.toArray=its'.toArray) (a:Vals ys its') (hz:ys.length<=sizeLine):
 Inv X G Z (upd H l (.lst ys)) {s with heap:=s.heap.update l (Obj.mapSeq f),toks:=t'}:=by
 have q:=PySem.IsL.update e f;rw[c] at q;refine I.write (x:=l) (e:=l) (by rw[g]; exact trivial) (.inl rfl) (λh u d b=>(Wi s.heap (Obj.mapSeq f) (Xv d)).trans b) ⟨_,q⟩ ?_;exact⟨hz,its',_,a,q⟩
theorem Inv.lnew{its:List Value}{t':Nat}(I:Inv X G Z H s)(a:Vals ys its)(hz:ys.length<=sizeLine):
 Inv X G Z (upd H s.heap.objs.size (.lst ys)) {s with heap:=s.heap.push {cls:= .type "list",data:= .seq its.toArray},toks:=t'}:=
 I.laid (λ_ _ q=>VS _ q) (VW _) ⟨hz,its,0,a,V3 _ rfl⟩
theorem Inv.fresh(I:Inv X G Z H s):H s.heap.objs.size=none:=I.hok.fresh (VW _)
theorem Inv.lstM(I:Inv X G Z H s)(a:H l=some (.lst xs)):xs.length<=sizeLine/\∃ (its:List Value) (n:Nat),Vals xs its/\xs.length=its.length/\s.heap.get? l=some {cls:= .type "list",data:= .seq its.toArray n}:=by
 obtain⟨z,its,n,r,e⟩:=I.hok l _ a;exact⟨z,its,n,r,r.length,e⟩
theorem Hd{n:Nat}(h:n<=sizeLine):Builtin.List.listTooLong n=false:=by
 unfold Builtin.List.listTooLong;exact decide_eq_false (by omega)
end
section
variable{X:Cx}
def u7:V->List V->Hp->VK->Prop:=λx vs H Q=>∃ l xs y,x= .ref l/\vs=[y]/\H l=some (.lst xs)/\xs.length<sizeLine/\Q .non (upd H l (.lst (xs++[y])))
theorem dL:Vl X "list.append" u7:=by
 intro G s Z H x vs v us Q I b c h;obtain⟨l,xs,y,rfl,rfl,a,hz,q⟩:=h;cases b;obtain⟨u,rfl,d⟩:=c.one;obtain⟨z,its,n,r,f,e⟩:=I.lstM a;refine XW F.slot_list_append ⟨_,e,rfl⟩ F.entry_list_append (F.args_list_append_2 _ _) (PySem.list_append l its.toArray n u (by rw[VZ]; omega)) ⟨e,?_⟩;refine⟨.non,_,I.lset (its':=its++[u]) a e (by simp) (r.append (.cons d .nil)) ?_,rfl,q⟩;rw[VT,XV];omega
def BB:V->List V->Hp->VK->Prop:=λx vs H Q=>∃ l b xs a,x= .ref l/\vs=[.ref b]/\H l=some (.lst xs)/\H b=some (.lst a)/\xs.length+a.length<=sizeLine/\Q .non (upd H l (.lst (xs++a)))
theorem gS:Vl X "list.extend" BB:=by
 intro G s Z H x vs v us Q I f g h;obtain⟨l,b,xs,t,rfl,rfl,d,o,hz,q⟩:=h;cases f;obtain⟨u,rfl,i⟩:=g.one;cases i;obtain⟨z,its,n,r,y,e⟩:=I.lstM d;obtain⟨w,a,k,j,m,p⟩:=I.lstM o;have hsz:its.toArray.size+a.toArray.size<=sizeLine:=by rw[VZ,VZ]; omega
 have c:¬ (!its.toArray.isEmpty&&Builtin.List.listTooLong (its.toArray.size+a.toArray.size))=true:=by
  rw[Hd hsz,Bool.and_false];exact V0
 refine XW F.slot_list_extend ⟨_,e,rfl⟩ F.entry_list_extend (F.args_list_extend_2 _ _)
  (AutoSeq1.list_extend_list_list_0 l its.toArray n b a.toArray k c (by rw[VZ]; omega) (by omega)) ⟨e,p,?_⟩
 refine⟨.non,_,I.lset (its':=its++a) d e (by simp) (r.append j) ?_,rfl,q⟩;rw[VT];omega
def Gs:V->List V->Hp->VK->Prop:=λx vs H Q=>∃ l xs i k y,x= .ref l/\vs=[.int i]/\H l=some (.lst xs)/\-(2 ^ 63)<=i/\i<2 ^ 63/\seqIndex? i xs.length=some k/\xs[k]?=some y/\Q y (upd H l (.lst (xs.eraseIdx k)))
theorem Hl:Vl X "list.pop" Gs:=by
 intro G s Z H x vs v us Q I c d h;obtain⟨l,xs,i,k,y,rfl,rfl,b,A,p,o,g,q⟩:=h;cases c;obtain⟨u,rfl,f⟩:=d.one;obtain⟨t,rfl⟩:=f;obtain⟨z,its,n,r,m,e⟩:=I.lstM b;obtain⟨w,j,a⟩:=r.get g
 refine XW F.slot_list_pop ⟨_,e,rfl⟩ F.entry_list_pop (F.args_list_pop_2 _ _)
  (MeetsSeq.list_pop_at l its.toArray n i t k w (fitsIndex_both A p) (by rw[VZ,<-m]; exact o) (by rw[<-WI]; exact j) (by rw[VZ]; omega)) ⟨e,?_⟩
 refine⟨y,_,I.lset (its':=its.eraseIdx k) b e ?_ (r.eraseIdx k) ?_,a,q⟩
 ·show its.toArray.eraseIdxIfInBounds k=(its.eraseIdx k).toArray;rw[Xc]
 · have:=oo xs k
   omega
def N7:R2:=λx y H Q=>∃ l b xs a,x= .ref l/\y= .ref b/\H l=some (.lst xs)/\H b=some (.lst a)/\xs.length+a.length<=sizeLine/\∀ p,H p=none->Q (.ref p) (upd H p (.lst (xs++a)))
theorem qR:nK X (binaryOp .Add) N7:=by
 intro G s Z H x y v u Q I d c h;obtain⟨l,b,xs,o,rfl,rfl,i,j,hz,q⟩:=h;cases d;cases c;obtain⟨z,its,n,r,w,e⟩:=I.lstM i;obtain⟨p,a,t,f,g,m⟩:=I.lstM j;refine PySem.P.add_list e m ?_ (by rw[VZ,VZ]; omega);have k:its.toArray++a.toArray=(its++a).toArray:=by simp
 rw[k];exact⟨.ref _,_,I.lnew (t':=s.toks) (r.append f) (by rw[VT]; omega),rfl,q _ I.fresh⟩
end
end L2
namespace Att
open PySem PySem.W PySem.Calls PyProof.Rows
theorem p1{P:Params}{h:Heap}:∀ (ns:List Int) (vs:List Value),WellAll P h vs (ns.map WData.int)->IntsAre vs ns:=by
 intro ns
 induction ns with
 |nil=>
   intro vs w;rw[Wv] at w;cases w;exact .nil
 |cons n ns c=>
   intro vs w;rw[VQ] at w;cases w with
   |cons a b=>
     cases a;exact .cons _ _ (c _ b)
theorem DL{l:OpenLaw}{n:Nat}(u:l.most=some n){P:Params}{h:Heap}{args:List WData}{b:List Value}
 (c:l.row.toRowW.claim.pre args=true) (j:WellAll P h b args):
 ∃ a vs ns,b=[Value.ref a]/\args=[WData.list (ns.map WData.int)]/\h.get? a=some {cls:= .type "list",data:= .seq vs.toArray}/\IntsAre vs ns/\ns.length<=n:=by
 have k:WShape.hasAll [] args [.list .int]=true:=(pre_splitW c).1;have m:l.pre.holds [] {args:=args}=true:=(pre_splitW c).2;obtain⟨d,r,rfl,x,w⟩:=hasAllW_cons k;obtain rfl:=hasAllW_nil w;obtain⟨xs,rfl,v⟩:=hasW_list x;obtain⟨ns,rfl⟩:=items_int v
 have e:ns.length<=n:=by
  unfold OpenLaw.pre at m
  have i:(WTm.not (.lt (.lit (.int (n:Int))) (.len (.arg 0)))).holds [] {args:=[.list (ns.map .int)]}=true:=by
   have i:=(holds_andW m).1;rw[u] at i;exact i
  have g:=condW_of i (w_not (w_lt w_lit (w_len_list (w_arg rfl))));rw[VN] at g;refine Nat.le_of_not_lt λq=>?_;have s:(n:Int)<((ns.length:Nat):Int):=by omega
  first
   |(rw[Wm s] at g; exact absurd g (by decide))
   |(simp at g; omega)
 cases j with
 |cons p o=>
   cases o;cases p with
   |list t f=>exact⟨_,_,ns,rfl,rfl,t,p1 ns _ f,e⟩
theorem DS(l:OpenLaw)(args:List WData):l.row.toRowW.claim.post args (.bool true) args=true:=
 postW_of (r:=l.row.toRowW) (X:=(true==true))
  (show WShape.has [] (.bool true) .bool=true by first | rfl | decide | simp[WShape.has,WShape.arms,WShape.armsAll])
  (show(WTm.eq .res (.lit (.bool true))).value [] {args:=args,res:=some (.bool true),after:=args}=some (.bool (true==true)) from w_eq_bool (w_res rfl) w_lit) rfl
theorem yJ{l:OpenLaw}{n:Nat}{q:Program}{loose:List Str}{XP:(Str->Option Value)->Heap->Prop}{z:World->Heap->Prop}{d:DefRec}
 (D:l.most=some n) (t:d.params.defaults=[])
 (call:∀ (w:World) (s₀ b:Shared) (mg m:Str->Option Value) (j:Addr) (o:Obj) (pm cd e:Value) (a:Addr) (vs:List Value) (ns:List Int),
   Ground q loose [] XP w s₀ mg m b.heap->z w b.heap->
   b.heap.get? j=some o->o.data= .func (docDef d.name d.params d.body d.scope pm cd e)->b.heap.CodeRec cd d.name->mg d.name=some (.ref j)->
   b.heap.get? a=some {cls:= .type "list",data:= .seq vs.toArray}->IntsAre vs ns->ns.length<=n->b.gens=#[]->
   codeAny (model l.prog w) callerA (.call (.ref j) ⟨[.ref a],[]⟩) (λr k=>r= .ok (.ret (.bool true))/\OldK b.heap k.heap/\k.os=b.os/\AllBare k.gens) b):
 WalkO q loose XP z l.row.toRowW d [] (λf vs=>PySem.call f vs):=by
 intro w s₀ b mg m G Y j o pm cd e L kV C hd u y s H args v M g x A p F;obtain rfl:L= .none:=Dflts.none y t;obtain rfl:kV= .none:=Dflts.noKw y;obtain⟨a,vs,ns,rfl,rfl,h,c,i⟩:=DL D g p;refine enter_call (Yy (call w s₀ b mg m j o pm cd e a vs ns G Y C (fd_plain hd) u s h c i H) λr k B=>?_);obtain⟨rfl,K,J,I⟩:=B;exact⟨.inl ⟨.bool true,.bool true,[],rfl,λ_=>rfl,.bool true,DS l _,λ_=>⟨List.Pairwise.nil,λ_ E=>(nomatch E)⟩⟩,K,J,I⟩
end Att
namespace L2
open PySem PySem.Spec PyProof.Rows
theorem tQ:∀ {vs:List Value} {ns:List Int},IntsAre vs ns->Vals (ns.map V.int) vs
 |_,_,.nil=> .nil
 |_,_,.cons n t h=> .cons ⟨t,rfl⟩ (tQ h)
abbrev Tbs:=List (Addr×Pos×Str)
def Tbs.at(T:Tbs)(b:Addr):List (Pos×Str):=(T.filter λp=>p.1==b).map (·.2)
def Tbs.ok(T:Tbs):Prop:=∀ y∈T,∀ z∈T,y.2.1.line=z.2.1.line->y.2.1.col=z.2.1.col->y.2.2=z.2.2
theorem Tbs.mem{T:Tbs}{b:Addr}{y:Pos×Str}:y∈T.at b↔(b,y)∈T:=by
 unfold Tbs.at;simp only[List.mem_map,List.mem_filter,beq_iff_eq];constructor
 ·rintro⟨⟨c,x⟩,⟨e,d⟩,a⟩;dsimp only at d a;subst d a;exact e
 ·intro h;exact⟨(b,y),⟨h,rfl⟩,rfl⟩
def Ko(T:Tbs)(H:Hp):Prop:=(∀ p∈T,H p.1=some (.tbl (T.at p.1)))/\∀ b,H b=none\/(∃ o xs,H b=some (.frz o (.lst xs)))\/H b=some (.tbl (T.at b))
theorem Iy{P:Program}{w:World}{K:L0}{mg mb:Str->Option Value}{CX:EX}{k:Nat}{fa a:Addr}{fd:FuncData}{x:Str}{sp:Sp}{f:Shared}{vs:List Value}{ns:List Int}{T:Tbs}
 (KX:K.In f.heap) (hns:f.heap.Ns mainGlobals mg) (i:f.heap.Ns builtinsNs mb) (hbb:∀ x:Str,x ≠ "__name__" -> mb x=bootBuiltins x) (hlim:f.heap.NoLimit) (hg:f.gens=#[])
 (hbm:∃ G ob,mg "__builtins__" = some (.ref G)/\G≠builtinsNs/\f.heap.get? G=some ob/\ob.cls= .type "module" /\ ob.dict=some builtinsNs/\ob.data= .plain)
 (hT:∀ p∈T,∃ c,PySem.W.CodeHd f.heap c p.1/\f.heap.get? p.1=some (PySem.W.tabObj #[])) (hTK:∀ p∈T,K.lookup p.1=none) (hTo:T.ok)
 (Q:f.heap.get? a=some {cls:= .type "list",data:= .seq vs.toArray}) (hi:IntsAre vs ns) (hl:ns.length<=sizeLine) (hr:Room k callerA)
 (F:∀ base:Heap,K.In base->base.Ns mainGlobals mg->(∀ c P,PySem.W.CodeHd f.heap c P->PySem.W.CodeHd base c P)->FnOk P w K mg base CX k fa fd [x] sp) (L:∀ (s:Shared) (u:Value),BindsTo s fd ⟨[u],[]⟩ [(x,u)])
 (hsp:∀ H:Hp,Ko T H->SqL K H a (ns.map V.int)->sp [.ref a] H (λv _=>v= .bl true) λ_ _ _=>False)
 (hCX:∀ H e A,CX [] H f (λ_ _ _=>False) e A->False):
 codeAny (model P w) callerA (.call (.ref fa) ⟨[.ref a],[]⟩) (λr A=>r= .ok (.ret (.bool true))/\OldK f.heap A.heap/\A.os=f.os/\AllBare A.gens) f:=by
 have rv:=tQ hi;have Z:=hi.length
 -- from an R heap in which Y but the D and the tables may be S
 have core:∀ H:Hp,Ko T H->SqL K H a (ns.map V.int)->HOk P w H f.heap->(∀ b,H b≠none->b=a\/∃ p∈T,p.1=b)->(H a≠none->K.lookup a=none)->
  codeAny (model P w) callerA (.call (.ref fa) ⟨[.ref a],[]⟩) (λr A=>r= .ok (.ret (.bool true))/\OldK f.heap A.heap/\A.os=f.os/\AllBare A.gens) f:=by
  intro H hO hS hok hA hK;have g:∀ {b:Addr} {o:Obj},f.heap.get? b=some o->H b=none->(rD f.heap H).get? b=some o:=λe n=>IK e n
  have noB:∀ {b:Addr} {o:Obj},f.heap.get? b=some o->o≠{cls:= .type "list",data:= .seq vs.toArray}->o≠PySem.W.tabObj #[]->H b=none:=λ{b o} e N d2=>by
   cases q:H b with
   |none=>rfl
   |some u=>
     rcases hA b (by rw[q]; simp) with j | ⟨p,hp,j⟩
     ·subst j;rw[Q] at e;exact absurd (Wh e).symm N
     ·subst j;obtain⟨_,_,e2⟩:=hT p hp;rw[e2] at e;exact absurd (Wh e).symm d2
  have noA:∀ {b:Addr} {o:Obj} {es:Array DictEntry} {ep:Nat},f.heap.get? b=some o->o.data= .dict es ep->H b=none:=λ{b o es ep} e d=>
   noB e (λz=>by rw[z] at d; cases d) (λz=>by rw[z] at d; cases d)
  have E:∀ {b:Addr} {m:Str->Option Value},f.heap.Ns b m->(rD f.heap H).Ns b m:=λ{b m} ⟨o,es,ep,e,d,r⟩=>⟨o,es,ep,g e (noA e d),d,r⟩
  have hKb:K.In (rD f.heap H):=λb o e=>g (KX b o e) (by
   cases q:H b with
   |none=>rfl
   |some u=>
     rcases hA b (by rw[q]; simp) with j | ⟨p,hp,j⟩
     ·subst j;rw[hK (by rw[q]; simp)] at e; cases e
     · subst j
       rw[hTK p hp] at e; cases e)
  have hbm':∃ G ob,mg "__builtins__" = some (.ref G)/\G≠builtinsNs/\(rD f.heap H).get? G=some ob/\ob.cls= .type "module" /\ ob.dict=some builtinsNs/\ob.data= .plain:=by
   obtain⟨G,ob,h1,h2,h3,h4,h5,h6⟩:=hbm;exact⟨G,ob,h1,h2,g h3 (noB h3 (λz=>by rw[z] at h6; cases h6) λz=>by rw[z] at h6; cases h6),h4,h5,h6⟩
  have hcd:∀ c P,PySem.W.CodeHd f.heap c P->PySem.W.CodeHd (rD f.heap H) c P:=λc P h=>by
   obtain⟨o,vs',file,tf,M,tg,Vv,U,tt,e,B,r⟩:=h;exact⟨o,vs',file,tf,M,tg,Vv,U,tt,g e (noB e (λz=>by rw[z] at B; simp at B) λz=>by rw[z] at B; simp at B),B,r⟩
  have hM:Mod K mg (rD f.heap H):=⟨hKb,E hns,⟨mb,E i,hbb⟩,(let ⟨mc,h1,h2⟩:=hlim; ⟨mc,E h1,h2⟩),hbm'⟩;have e0:Env0 P w K mg (rD f.heap H) callerA [] f H:=⟨rfl,hM,λb o e=>Li e,Nat.le_of_eq (Eh _ _),trivial,λb i=>absurd (show b∈([]:List Addr) from i) (by simp),hok,.of_eq hg⟩;refine Yy ((F _ hKb (E hns) hcd).run callerA [] f H ⟨[.ref a],[]⟩ [.ref a] [.ref a] _ _ hr e0 (L f (.ref a)) (.cons rfl .nil) (hsp H hO hS)) λr A h=>?_;cases r with
  |error e=>exact(hCX H e A h).elim
  |ok fl=>
    cases fl with
    |next=>exact False.elim h
    |brk=>exact False.elim h
    |cont=>exact False.elim h
    |ret u=>
      obtain⟨v,H',os,bare,un,I,r',q⟩:=h;have q':v= .bl true:=q;subst q';obtain rfl:u=Value.bool true:=r';refine⟨rfl,⟨λb o e=>?_,λb o e=>un.there b o e (by simp)⟩,os,bare⟩;cases q:H b with
      |none=>exact .inl (un.keep b o e q (by intro z; exact absurd (show b∈([]:List Addr) from z) (by simp)) (by simp))
      |some u=>
        rcases hO.2 b with z|⟨ob,xs,z⟩|z
        ·rw[q] at z; cases z
        ·have z2:=un.frzs b ob _ z;obtain⟨e1,_⟩:=hok b _ z;obtain⟨e2,_⟩:=I b _ z2;rw[e] at e1; cases e1;exact .inl e2
        · have z2:=(un.tbls b _ z).1;obtain⟨_,ps,e2,_⟩:=I b _ z2
          have hb':∃ p∈T,p.1=b:=by
           rcases hA b (by rw[q]; simp) with j | j
           ·subst j;obtain⟨_,ps',l,_⟩:=hok b _ z;rw[Q] at l; cases l
           ·exact j
          obtain⟨p,hp,j⟩:=hb';obtain⟨c,B,l⟩:=hT p hp;rw[j] at l B;rw[e] at l;cases l;refine .inr (.inl ⟨(B.tab (ps:=#[]) e).isCodeTable,rfl,#[],ps,rfl,?_⟩);rw[e2]; simp
 have t:∀ (H:Hp) (b:Addr),(∃ p∈T,p.1=b)->ObjOk P w H f.heap b (.tbl (T.at b)):=λH b ⟨p,hp,e⟩=>by
  obtain⟨c,B,l⟩:=hT p hp;rw[e] at l;exact⟨λy hy z hz h1 h2=>hTo _ (Tbs.mem.mp hy) _ (Tbs.mem.mp hz) h1 h2,#[],l,trivial,λy hy=> .inl rfl⟩
 have J:∀ p∈T,p.1≠a:=λp hp z=>by
  obtain⟨c,B,l⟩:=hT p hp;rw[z,Q] at l;cases l
 cases hk:K.lookup a with
 |some o=>
   -- the D is one of the O own X
   have e:=KX a o hk;rw[Q] at e;cases e;have hTa:¬ ∃ p∈T,p.1=a:=λ⟨p,hp,z⟩=>J p hp z;have dec:∀ b,Decidable (∃ p∈T,p.1=b):=λb=>Classical.propDecidable _;refine core (λb=>if ∃ p∈T,p.1=b then some (.tbl (T.at b)) else none) ⟨λp hp=>on ⟨p,hp,rfl⟩,λb=>?_⟩ (.inr ⟨_,vs.toArray,_,hk,rfl,rfl,rfl,by rw[VZ,Z]; exact hl,by simpa using rv⟩) (λb u z=>?_) (λb z=>?_) λz=>absurd (VM hTa) z
   · by_cases h:∃ p∈T,p.1=b
     ·exact .inr (.inr (on h))
     ·exact .inl (VM h)
   · by_cases h:∃ p∈T,p.1=b
     ·have C:=(on h).symm.trans z;cases C;exact t _ b h
     ·have C:=(VM h).symm.trans z;cases C
   · by_cases h:∃ p∈T,p.1=b
     ·exact .inr h
     ·exact absurd (VM h) z
 |none=>
   have dec:∀ b,Decidable (∃ p∈T,p.1=b):=λb=>Classical.propDecidable _;have hTa:∀ {b},(∃ p∈T,p.1=b)->b≠a:=λ⟨p,hp,z⟩ e=>J p hp (z.trans e);refine core (λb=>if b=a then some (.frz {cls:= .type "list",data:= .seq vs.toArray} (.lst (ns.map V.int))) else if ∃ p∈T,p.1=b then some (.tbl (T.at b)) else none) ⟨λp hp=>(VM (J p hp)).trans (on ⟨p,hp,rfl⟩),λb=>?_⟩ (.inl (.inr ⟨{cls:= .type "list",data:= .seq vs.toArray},on rfl⟩)) (λb u z=>?_) (λb z=>?_) λ_=>hk
   · by_cases i:b=a
     ·exact .inr (.inl ⟨_,_,on i⟩)
     · by_cases h:∃ p∈T,p.1=b
       ·exact .inr (.inr ((VM i).trans (on h)))
       ·exact .inl ((VM i).trans (VM h))
   · by_cases i:b=a
     ·have C:=(on i).symm.trans z;cases C;subst i;exact⟨Q,by rw[VN]; exact hl,vs,_,rv,Q⟩
     · by_cases h:∃ p∈T,p.1=b
       ·have C:=((VM i).trans (on h)).symm.trans z;cases C;exact t _ b h
       ·have C:=((VM i).trans (VM h)).symm.trans z;cases C
   · by_cases i:b=a
     ·exact .inl i
     · by_cases h:∃ p∈T,p.1=b
       ·exact .inr h
       ·exact absurd ((VM i).trans (VM h)) z
abbrev Tns:=List (Str×Pos×Str)
structure TabsOf (mg:Str->Option Value) (h:Heap) (N:Tns) (T:Tbs):Prop where
 all:∀ n∈N,∃ P,(P,n.2)∈T/\∃ a o fd c,mg n.1=some (.ref a)/\h.get? a=some o/\o.data= .func fd/\fd.code= .ref c/\PySem.W.CodeHd h c P
theorem tR{p:Program}{loose:List Str}{b:ExcName->Option Value}{mg s:Str->Option Value}{h:Heap}(l:PyProof.Rows.Top p loose b mg s h):∀ (N:Tns),(∀ n∈N,n.1∈(PyProof.Rows.recsOf p).map (·.name))->
 ∃ T:Tbs,TabsOf mg h N T/\(∀ q∈T,∃ c,PySem.W.CodeHd h c q.1/\h.get? q.1=some (PySem.W.tabObj #[]))/\∀ q∈T,∃ n∈N,n.2=q.2
 |[],_=>⟨[],⟨λ_ h=>nomatch h⟩,λ_ h=>(nomatch h),λ_ h=>(nomatch h)⟩
 | n::N,j=>by
   obtain⟨T,w,v,u⟩:=tR l N λm f=>j m (VR _ f);obtain⟨d,hd,e⟩:=List.mem_map.mp (j n VP);obtain⟨a,o,fd,c,P,C,B,A,y,x,k⟩:=l.tab d hd;have i:=PySem.W.CodeHd.of x k;refine⟨(P,n.2)::T,⟨λm f=>?_⟩,λq g=>?_,λq g=>?_⟩
   · rcases List.mem_cons.mp f with z|z
     ·subst z;exact⟨P,VP,a,o,fd,c,by rw[<-e]; exact C,B,A,y,i⟩
     ·obtain⟨D,t,r⟩:=w.all m z;exact⟨D,VR _ t,r⟩
   · rcases List.mem_cons.mp g with z|z
     ·subst z;exact⟨c,i,k.2⟩
     ·exact v q z
   · rcases List.mem_cons.mp g with z|z
     ·subst z;exact⟨n,VP,rfl⟩
     ·obtain⟨m,f,e⟩:=u q z;exact⟨m,VR _ f,e⟩
def Tns.ok(N:Tns):Prop:=∀ y∈N,∀ z∈N,y.2.1.line=z.2.1.line->y.2.1.col=z.2.1.col->y.2.2=z.2.2
def Hg(K:L0):Bool:=K.all λp=>match p.2.cls,p.2.data with
 |.none,.fields vs=>!vs.isEmpty
 |_,_=>true
theorem q8{W:Type}:∀ {K:List (Nat×W)} {b:Nat} {o:W},K.lookup b=some o->(b,o)∈K
 | (c,x)::r,b,o,h=>by
   rw[Ws] at h;by_cases z:b=c
   ·subst z;rw[WU] at h;cases h;exact VP
   ·rw[beq_false_of_ne z] at h;exact VR _ (q8 h)
theorem tG{K:L0}{h:Heap}{b:Addr}(X:K.In h)(c:Hg K=true)(e:h.get? b=some (PySem.W.tabObj #[])):K.lookup b=none:=by
 cases q:K.lookup b with
 |none=>rfl
 |some o=>
   have a:=X b o q;rw[e] at a;cases a
   have:=List.all_eq_true.mp c (b,PySem.W.tabObj #[]) (q8 q)
   cases this
theorem KD{l:PySem.W.OpenLaw}{n k:Nat}{q:Program}{loose:List Str}{XP:(Str->Option Value)->Heap->Prop}{YP:World->Heap->Prop}{d:DefRec}{K:Params->L0}{CX:World->EX}{sp:World->Tbs->Sp}{x:Str}(N:Tns)
 (hn:l.most=some n) (I:n<=sizeLine) (O:d.params.defaults=[]) (hr:Room k callerA)
 (hY:∀ (w:World) (h:Heap),YP w h->(K w.params).In h) (hK:∀ w:World,N≠[]->Hg (K w.params)=true) (hN:∀ n∈N,n.1∈(PyProof.Rows.recsOf q).map (·.name)) (R:Tns.ok N)
 (F:∀ (w:World) (mg:Str->Option Value) (C:Addr) (h:Heap) (T:Tbs),(K w.params).In h->h.Ns mainGlobals mg->mg d.name=some (.ref C)->TabsOf mg h N T->
   ∃ fd:FuncData,(∀ (s:Shared) (u:Value),BindsTo s fd ⟨[u],[]⟩ [(x,u)])/\
    ∀ base:Heap,(K w.params).In base->base.Ns mainGlobals mg->(∀ c P,PySem.W.CodeHd h c P->PySem.W.CodeHd base c P)->FnOk l.prog w (K w.params) mg base (CX w) k C fd [x] (sp w T))
 (E:∀ (w:World) (T:Tbs) (H:Hp) (a:Addr) (ns:List Int),ns.length<=n->Ko T H->SqL (K w.params) H a (ns.map V.int)->sp w T [.ref a] H (λv _=>v= .bl true) λ_ _ _=>False)
 (S:∀ (w:World) (H:Hp) (s:Shared) (e:Value) (D:Shared),CX w [] H s (λ_ _ _=>False) e D->False):
 PySem.W.WalkO q loose XP YP l.row.toRowW d [] (λf vs=>PySem.call f vs):=by
 refine Att.yJ hn O λw s₀ t mg mb C o pm cd doc a vs ns G Y ho hd hcd J A j i hg=>?_;have Z:=hY w _ Y;obtain⟨T,Q,B,r⟩:=tR G.T N hN;obtain⟨fd,hb,hF⟩:=F w mg C _ T Z G.T.g J Q;refine Iy (T:=T) Z G.T.g G.T.b G.T.builtins G.T.nolimit hg G.T.bmain B (λp hp=>?_) (λy hy z hz h1 h2=>?_) A j (V4 i I) hr hF hb (λH hO hS=>E w T H a ns i hO hS) λH e D=>S w H t e D
 ·obtain⟨c,_,e⟩:=B p hp;obtain⟨m,hm,_⟩:=r p hp;exact tG Z (hK w (λz=>by rw[z] at hm; cases hm)) e
 ·obtain⟨m1,M,X⟩:=r y hy;obtain⟨m2,L,U⟩:=r z hz;rw[<-X,<-U];exact R m1 M m2 L (by rw[X]; exact h1 |>.trans (by rw[U])) (by rw[X]; exact h2 |>.trans (by rw[U]))
def dD(s:Stmt)(j:Nat):Stmt:=match s with
 |.ClassDef _ _ _ body _ _ _ _ _ _ _=>body.getD j (.Pass ⟨0,0,0,0⟩)
 |_=> .Pass ⟨0,0,0,0⟩
def nq(s:Stmt):Arguments:=match s with
 |.FunctionDef _ a _ _ _ _ _ _ _ _=>a
 |_=>{posonlyargs:=[],args:=[],vararg:=none,kwonlyargs:=[],kw_defaults:=[],kwarg:=none,defaults:=[]}
def dg(s:Stmt):List Stmt:=match s with
 |.FunctionDef _ _ b _ _ _ _ _ _ _=>b
 |_=>[]
def am(s:Stmt):Scope:=match s with
 |.FunctionDef _ _ _ _ _ _ sc _ _ _=>sc
 |_=>{kind:= .function,names:=[],isGenerator:=false,isCoroutine:=false}
abbrev gi:EX:=λ_ _ _ _ _ _=>False
abbrev E0:XK:=λ_ _ _=>False
theorem ay{X:Cx}:mI gi X E0:=λ_ _ _ _ _ _ _ h=>h.elim
structure Fun (K:L0) (x qual:Str) (st:Stmt) (f:Addr) (fd:FuncData):Prop where
 ex:∃ (oc:Value) (od:Option Addr) (kV doc pm:Value) (an:Option Addr) (cdv ct:Value) (osl:Array (Option Value)),
  fd=PySem.W.fnOf x qual (nq st) (dg st) (am st) .none kV doc pm an cdv ct/\K.lookup f=some ⟨oc,od,.func fd,osl⟩/\PySem.W.codeIn K cdv qual=true
 kp:PySem.W.keepIn K (.ref f)=true
section
variable{P:Program}{w:World}{K:L0}{mg:Str->Option Value}{base:Heap}
theorem Fun.ok{x qual:Str}{st:Stmt}{f:Addr}{fd:FuncData}{N ps:List Str}{k:Nat}{sp:Sp}(F:Fun K x qual st f fd)(S:FnScope N ps (am st))(len:∀ vs H Q E,sp vs H Q E->vs.length=ps.length)
 (b:∀ (a:Value) (A:Around) (outer:List Env) (s:Shared) (H:Hp) (vs:List V) (Q:VK) (E:XK),Room k (A.deeper (envOfC qual (am st) s.heap.objs.size f a))->sp vs H Q E->
   ∃ t,PSs (ya gi P w K mg base N qual (am st) f a A outer s H E).nox (dg st) t/\t {nx:=λ_ H'=>Q .non H',rt:=Q} (j2 N vs) H):FnOk P w K mg base gi (k+1) f fd ps sp:=by
 obtain⟨oc,l,kV,j,pm,an,a,ct,e,rfl,g,d⟩:=F.ex;refine fn_of g d S len λA outer s H vs Q E i c=>?_;obtain⟨t,h,q⟩:=b a A outer s H vs Q E i c;exact⟨t,h.nox,q⟩
theorem Fun.binds{x qual:Str}{st:Stmt}{f:Addr}{fd:FuncData}{ps:List Str}(F:Fun K x qual st f fd)
 (h:∀ (kV a pm:Value) (an:Option Addr) (b ct:Value) (us:List Value),us.length=ps.length->bindArgs (PySem.W.fnOf x qual (nq st) (dg st) (am st) .none kV a pm an b ct) ⟨us,[]⟩=pure (ps.zip us)):Binds K fd ps []:=by
 obtain⟨oc,e,kV,a,pm,an,b,ct,c,rfl,g,d⟩:=F.ex;exact .all (h kV a pm an b ct)
theorem P0{x qual:Str}{st:Stmt}{f:Addr}{oc:Value}{e an:Option Addr}{d:Array (Option Value)}{kV b pm a ct:Value}(l:K.lookup f=some ⟨oc,e,.func (PySem.W.fnOf x qual (nq st) (dg st) (am st) .none kV b pm an a ct),d⟩)
 (c:PySem.W.codeIn K a qual=true) (k:PySem.W.keepIn K (.ref f)=true):Fun K x qual st f (PySem.W.fnOf x qual (nq st) (dg st) (am st) .none kV b pm an a ct):=⟨⟨oc,e,kV,b,pm,an,a,ct,d,rfl,l,c⟩,k⟩
end
theorem di{A:Around}{k:Nat}(a:Room k A):A.units+1<cLine:=WA (Nat.add_le_add_left (by decide:1<=64) _) a.units
section
variable{X:Cx}
theorem pv(i:Nat){x:Str}{a:Pos}(d:X.N[i]?=some x:=by rfl)(c:VD X.env.scope x:=by first | exact Or.inl rfl | exact Or.inr (Or.inl rfl) | exact Or.inr (Or.inr rfl))(hd:(x == ("__debug__" : Str))=false:=by decide)
 (b:(x==("__classdict__" : Str))=false:=by decide):PE X (.Name x a) (iz i):=Od d c hd b
end
def Same(H H':Hp):Prop:=∀ b o,H b=some o->H' b=some o
theorem Same.refl(H:Hp):Same H H:=λ_ _ h=>h
theorem Same.trans{H L d:Hp}(a:Same H L)(b:Same L d):Same H d:=λc o h=>b c o (a c o h)
theorem Same.free{H H':Hp}(e:Same H H'){l:Addr}(h:H' l=Option.none):H l=Option.none:=by
 cases q:H l with
 |none=>rfl
 |some o=>
   rw[e l o q] at h;cases h
theorem Same.seq{K:L0}{H H':Hp}{a:Addr}{xs:List V}(e:Same H H')(h:SqL K H a xs):SqL K H' a xs:=by
 rcases h with (h|⟨o,h⟩)|h
 ·exact .inl (.inl (e _ _ h))
 ·exact .inl (.inr ⟨o,e _ _ h⟩)
 ·exact .inr h
def bN(env:Env):List (Str×NameKind)->List (Str×Addr)->List (Str×Addr)
 |[],acc=>acc
 |(n,k)::r,acc=>if (k==NameKind.free)=true then bN env r ((n,(env.cells.lookup n).getD 0)::acc) else bN env r acc
theorem io{env:Env}{y:Str}{c:Addr}:∀ {l:List (Str×NameKind)} {acc:List (Str×Addr)},(∀ z∈l,z.2= .free->∃ c,env.cells.lookup z.1=some c)->(bN env l acc).lookup y=some c->
 acc.lookup y=some c\/env.cells.lookup y=some c
 |[],acc,_,h=> .inl h
 | (n,k)::r,acc,a,h=>by
   unfold bN at h;split at h
   · rename_i d;rcases io (λz hz=>a z (VR _ hz)) h with e|e
     · by_cases q:(y==n)=true
       · have f:y=n:=by simpa using q
         subst f;obtain⟨g,b⟩:=a (y,k) List.mem_cons_self (by simpa using d);dsimp only at b;rw[List.lookup_cons,beq_self_eq_true,b] at e;exact .inr (b.trans e)
       ·rw[Bool.not_eq_true] at q;rw[Ws,q] at e;exact .inl e
     ·exact .inr e
   ·exact io (λz hz=>a z (VR _ hz)) h
theorem jR{env:Env}{y:Str}:∀ {l:List (Str×NameKind)} {acc:List (Str×Addr)},((y,NameKind.free)∈l\/∃ c,acc.lookup y=some c)->∃ c,(bN env l acc).lookup y=some c
 | [],acc,h=>by
   rcases h with h|h
   ·cases h
   ·exact h
 | (n,k)::r,acc,h=>by
   unfold bN;split
   · rename_i a;refine jR ?_;by_cases q:(y==n)=true
     ·exact .inr ⟨_,by rw[Ws,q]⟩
     · rw[Bool.not_eq_true] at q;rcases h with h|⟨c,h⟩
       · rcases List.mem_cons.mp h with e|e
         ·cases e;rw[WU] at q;cases q
         ·exact .inl e
       ·exact .inr ⟨c,by rw[Ws,q]; exact h⟩
   · rename_i a;refine jR ?_;rcases h with h|h
     · rcases List.mem_cons.mp h with e|e
       ·cases e;exact absurd (by rfl) a
       ·exact .inl e
     ·exact .inr h
theorem ku{scope:Scope}{env:Env}{y:Str}{k:NameKind}(h:(relabel scope env).names.lookup y=some k):∃ k',(y,k')∈scope.names/\(k'=k\/(k'= .free/\k= .cell)):=by
 obtain⟨⟨n,c⟩,a,e⟩:=List.mem_map.mp (PySem.mem_of_lookup h);dsimp only at e;split at e
 ·rename_i b;simp only[Xe,beq_iff_eq] at b;cases e;exact⟨c,a,.inr ⟨b.1.1,rfl⟩⟩
 ·cases e;exact⟨_,a,.inl rfl⟩
structure CompSc (osc sc:Scope) (x:Str) (cs:List Str):Prop where
 kind:sc.kind= .function
 cell:∀ y∈sc.names,y.2≠ .cell
 loc:∀ y∈sc.names,y.2= .local->sc.names.lookup y.1=some .local
 var:sc.names.lookup x=some .local
 cap:∀ y∈cs,(osc.names.lookup y=some .cell\/osc.names.lookup y=some .free)/\sc.names.lookup y=some .free
 free:∀ y∈sc.names,y.2= .free->osc.names.lookup y.1=some .cell\/osc.names.lookup y.1=some .free
 nd:(x::cs).Nodup
def fV(X:Cx)(scope:Scope)(cl:List (Str×Addr))(C:Addr)(N:List Str)(a:List Addr)(s₀:Shared)(H₀:Hp):Cx where
 prog:=X.prog
 w:=X.w
 K:=X.K
 mg:=X.mg
 base:=X.base
 A:=X.A
 N:=N
 s₀:=s₀
 H₀:=H₀
 env:=compEnvC scope cl C X.env
 outer:=X.stack
 stack:=X.stack
 ex:=a
 fn:=λ_=>false
 calm:=X.calm
 pn:=[]
 xe:=λ_ _=>False
def ke(Z:St)(ix:List Nat):St:=ix.map λj=>(Z[j]?).join
section
variable{X:Cx}{G:L1}{Z:St}{H:Hp}{s:Shared}{scope:Scope}{x:Str}{cs:List Str}{ix:List Nat}{fp:List Addr}
theorem sX(I:Inv X G Z H s)(a:CompSc X.env.scope scope x cs):∀ y∈scope.names,y.2= .free->∃ c,X.env.cells.lookup y.1=some c:=λy b d=>I.ok.has _ (a.free y b d)
theorem xG{g:Heap}{t₁:Nat}{V:Str->Option Value}(I:Inv X G Z H s)(n:CompSc X.env.scope scope x cs)(D:ix.map (λi=>X.N[i]?)=cs.map some)(L:∀ b∈fp,li X G H b)
 (Q:∀ b∈fp,b<s.heap.objs.size) (hn:g.Ns s.heap.objs.size V) (K:∀ b o,s.heap.get? b=some o->g.get? b=some o):
 Inv (fV X scope (bN X.env scope.names []) s.heap.objs.size (x::cs) fp s H) [] (none::ke Z ix) H {s with heap:=g,toks:=t₁}:=by
 have U:=sX I n
 have d:∀ y c,(bN X.env scope.names []).lookup y=some c->X.env.cells.lookup y=some c:=λy c e=>by
  rcases io U e with z|z
  ·cases z
  ·exact z
 have t:ix.length=cs.length:=by
  have:=congrArg List.length D
  rwa [VN,VN] at this
 refine⟨⟨I.ok.mod,n.kind,I.ok.glob,I.ok.blt,VW _,λy z c S E=>I.ok.inj y z c (d y c S) (d z c E),λy hy=>?_,λy c h=>(nomatch h),I.ok.hd,I.ok.frames,.inl rfl,λb A=>⟨Wc (Q b A),λy c e=>(L b A).2.2.2.2.1 y c (d y c e)⟩,
  I.bs,V4 I.ok.bsz I.sz,λb o e A=>?_,λb A R=>?_,I.stack,I.stkFree⟩,rfl,I.bare,Un.kept K,⟨V,hn,λi y v S E h3=>?_⟩,λy c e=>?_,I.hok.fresh (VW _),λy c e=>I.freeC y c (d y c e),λp hp=>absurd (show p∈([]:L1) from hp) (by simp),I.hok.kept K,?_⟩
 · have O:(relabel scope X.env).names.lookup y=some .cell\/(relabel scope X.env).names.lookup y=some .free:=hy
   have:(y,NameKind.free)∈scope.names:=by
    rcases O with q|q
    · obtain⟨k',B,e|⟨e,_⟩⟩:=ku q
      ·subst e;exact absurd rfl (n.cell _ B)
      ·subst e;exact B
    · obtain⟨k',B,e|⟨_,e⟩⟩:=ku q
      ·subst e;exact B
      ·cases e
   exact jR (.inl this)
 · rcases(L b A).2.2.2.1 with z|z
   ·exact I.ok.noex b o e z
   ·exact absurd (Wg (VX e) (V4 I.ok.bsz z)) (WC _)
 · rcases List.mem_cons.mp (I.stkSub b R) with z|z
   ·exact(L b A).2.1 z
   ·exact(L b A).2.2.1 z
 · -- a C name
   cases i with
   |zero=>
     have:(none::ke Z ix:St)[0]?=some none:=rfl
     rw[this] at E;cases E
   |succ j=>
     have F:cs[j]?=some y:=S;have f:(ke Z ix)[j]?=some (some v):=E;unfold ke at f;rw[List.getElem?_map] at f;cases T:ix[j]? with
     |none=>rw[T] at f; cases f
     |some k=>
       rw[T] at f;have M:(Z[k]?).join=some v:=Wh f
       have h5:Z[k]?=some (some v):=by
        cases e:Z[k]? with
        |none=>rw[e] at M; cases M
        |some w=>rw[e] at M; exact congrArg some M
       have h6:X.N[k]?=some y:=by
        have q:=congrArg (λl=>l[j]?) D;simp only[Wj,T,F,Xl] at q;exact Wh q
       obtain⟨c1,c2⟩:=n.cap y (W6 F);obtain⟨m,hn',hl⟩:=I.loc;obtain⟨u,r,l⟩:=hl k y v h6 h5 (c1.elim (λz=> .inr (.inl z)) λz=> .inr (.inr z));refine⟨u,r,?_⟩;rcases l with ⟨l,_⟩|⟨_,c,ec,hc⟩
       ·have W:X.env.scope.names.lookup y=some .local:=l;rcases c1 with z|z<;>(rw[z] at W; cases W)
       · obtain⟨c',J⟩:=jR (env:=X.env) (y:=y) (l:=scope.names) (acc:=[]) (.inl (WZ c2));have Y:=d y c' J;rw[ec] at Y;cases Y;refine .inr ⟨?_,c,J,?_⟩
         · rcases h3 with z|z|z
           · have z':(relabel scope X.env).names.lookup y=some .local:=z;obtain ⟨k',B,e | ⟨_,e⟩⟩:=ku z'
             · subst e
               have:=n.loc _ B rfl
               dsimp only at this;rw[c2] at this;cases this
             ·cases e
           ·exact .inl z
           ·exact .inr z
         ·obtain⟨o,P,hd⟩:=hc;exact⟨o,K c o P,hd⟩
 ·obtain⟨v,o,P,hd⟩:=I.cell y c (d y c e);exact⟨v,o,K c o P,hd⟩
 ·show(none::ke Z ix:St).length=(x::cs).length;rw[VU,VU,ke,VN,t]
end
def Rf(X:Cx)(a:List Expr)(t:TT):Prop:=
 ∀ (G:L1) (s:Shared) (Z:St) (H:Hp) (Q:Bool->Hp->Prop),Inv X G Z H s->t Z H Q->
  wpAny (model X.prog X.w) X.A (forIn a true λc r=>if r=true then do let ok <-isTrue c X.env (eval c X.env); pure (ForInStep.yield ok) else pure (ForInStep.yield r)) (TP X G Z Q) X.xe s
def Rm:TT:=λ_ H Q=>Q true H
theorem gE{X:Cx}:Rf X [] Rm:=λ_ _ _ H _ I h=>wpAny_tests_nil ⟨H,I,h⟩
theorem lu{X:Cx}{c:Expr}{t:TT}(h:PT X c t):Rf X [c] t:=λG s Z H Q I a=>wpAny_tests_one (h G s Z H Q I a)
section
variable{prog:Program}{w:World}{A:Around}{R:Result->Shared->Prop}{s:Shared}
theorem pM{o a iter:Expr}{k:List Expr}{scope:Scope}{q:Pos}{C acc:Value}{env:Env}(I:Nat->Shared->Prop)
 (p:∀ n s,I n s->wpAny (model prog w) A (pyNext C) (λr b=>match r with
   |none=>R (.ok .next) b
   |some v=>wpAny (model prog w) A (letOwnedTupleGo a C v) (λ_ b=>wpAny (model prog w) A (assign a env v) (λ_ g=>
      wpAny (model prog w) A (forIn k true λc r=>if r=true then do let ok <-isTrue c env (eval c env); pure (ForInStep.yield ok) else pure (ForInStep.yield r)) (λok d=>
       if ok=true then wpAny (model prog w) A (eval o env) (λx f=>
        wpAny (model prog w) A (call (.builtin "list.append") [acc,x]) (λ_ e=>∃ m,m<n/\I m e) (λ_ _=>False) f) (λ_ _=>False) d
       else ∃ m,m<n/\I m d) (λ_ _=>False) g) (λ_ _=>False) b) (λ_ _=>False) b) (λ_ _=>False) s)
 (n:Nat) (h:I n s):codeAny (model prog w) A (.compLoop (.ListComp o [⟨a,iter,k,0⟩] scope q) 0 C acc env) R s:=by
 refine codeAny_loop rfl I (λn s F=>?_) n h;have up:∀ {W:Type} {t:Sem W} {Q:W->Shared->Prop} {E:L3} {s:Shared},wpAny (model prog w) A t Q (λ_ _=>False) s->wpAny (model prog w) A t Q E s:=λh=>W8 h (λ_ _ z=>z) λ_ _ z=>z.elim;show wpAny _ A ((compTurn (.ListComp o [⟨a,iter,k,0⟩] scope q) 0 C acc env).onRaise _) _ _ s;refine wpAny_noted (up ?_);rw[compTurn_list];refine VO (Yp (VO (b8 (p n s F) λr b j=>?_)));cases r with
 |none=>exact VY j
 |some v=>
   refine VO (b8 j λ_ D l=>VO (b8 l λ_ g B=>VO (b8 B λok d i=>?_)));cases ok with
   |false=>exact VY ⟨rfl,i⟩
   |true=>exact VO (VO (b8 i λx f y=>VO (b8 y λ_ e u=>VY (VY ⟨rfl,u⟩))))
end
def Kt(J:It)(τ:V->St)(g:TT)(te:TE)(p:Addr)(L:Hp)(Q:VK):Prop:=
 ∃ W:Nat->Nat->List V->Hp->Prop,(∃ m,W 0 m [] (upd L p (.lst [])))/\∀ i m ys a,W i m ys a->a p=some (.lst ys)/\ys.length<sizeLine/\
  ((J.stop i a/\Q (.ref p) a)\/(J.go i a/\∀ v f,J.yld i a v f->g (τ v) f λb e=>if b=true then te (τ v) e λy d=>d p=some (.lst ys)/\∃ c,c<m/\W (i+1) c (ys++[y]) (upd d p (.lst (ys++[y])))
    else ∃ c,c<m/\W (i+1) c ys e))
def AQ(a:TI)(ix:List Nat)(b:TT)(te:TE):TE:=λZ H Q=>a Z H λJ L=>∀ p,L p=none->Kt J (λv=>some v::ke Z ix) b te p L Q
section
variable{X:Cx}{G:L1}{Z:St}{H:Hp}{s:Shared}{scope:Scope}{x:Str}{px pos:Pos}{cs:List Str}{ix:List Nat}{fp:List Addr}{elt iter:Expr}{ifs:List Expr}{ti:TT}{te:TE}
theorem sW{J:It}{it:Addr}{R:Nat->Heap->Prop}{Qe:VK}{RR:Value->Addr->Result->Shared->Prop}{E:L3}(P:X.calm=true)(I2:Inv X G Z H s)(g:CompSc X.env.scope scope x cs)(hix:ix.map (λi=>X.N[i]?)=cs.map some)
 (T:Turn X.prog X.w X.K (.Name x px) J fp it R) (st0:R 0 s.heap) (B:∀ b∈fp,li X G H b)
 (hti:∀ C fp s₀ H₀,Rf (fV X scope (bN X.env scope.names []) C (x::cs) fp s₀ H₀) ifs ti) (hte:∀ C fp s₀ H₀,PE (fV X scope (bN X.env scope.names []) C (x::cs) fp s₀ H₀) elt te)
 (hW:∀ p,H p=none->Kt J (λv=>some v::ke Z ix) ti te p H Qe)
 (hRR:∀ p C H' f,Inv X G Z H' f->li X G H' C->(∃ m,f.heap.Ns C m)->Qe (.ref p) H'->RR (.ref p) C (.ok .next) f):
 wpAny (model X.prog X.w) X.A (newList []) (λacc s₃=>wpAny (model X.prog X.w) X.A (newFunctionEnv scope X.env.globals (bN X.env scope.names []) [] X.env.qual none .none (some X.env)) (λL S=>
  codeAny (model X.prog X.w) X.A (.compStart (.ListComp elt [⟨.Name x px,iter,ifs,0⟩] scope pos) 0 (.ref it) acc { L with scope:=relabel scope X.env }) (RR acc L.locals) S) E s₃) E s:=by
 refine wpAny_newObj_type (wpAny_newFunctionEnv g.cell (by intro y hy; simp at hy) (λh k j=>?_) g.kind);dsimp only at k j ⊢;have hD:H s.heap.objs.size=none:=I2.hok.fresh (Nat.le_refl _)
 have I3:Inv X G Z (upd H s.heap.objs.size (.lst [])) {s with heap:=s.heap.push {cls:= .type "list",dict:=none,data:= .seq ([]:List Value).toArray}}:=
  I2.laid (t':=s.toks) (λb u e=>VS _ e) (VW _) ⟨WP _,[],0,.nil,V3 _ rfl⟩
 obtain⟨W,⟨m0,w0⟩,Q⟩:=hW _ hD
 have I:∀ b∈fp,b<s.heap.objs.size:=λb a=>by
  obtain⟨o,e,_⟩:=T.obj 0 _ st0 b a;exact VX e
 have hlt:∀ b∈fp,b<(s.heap.push {cls:= .type "list",dict:=none,data:= .seq ([]:List Value).toArray}).objs.size:=λb a=>by
  rw[Xr];exact XN (I b a)
 have hf3:∀ b∈fp,li X G (upd H s.heap.objs.size (.lst [])) b:=λb a=>⟨by rw[bc (Wc (I b a))]; exact(B b a).1,(B b a).2⟩
 have kept:∀ b o,(s.heap.push {cls:= .type "list",dict:=none,data:= .seq ([]:List Value).toArray}).get? b=some o->h.get? b=some o:=λb o e=>
  j.extBut b o (Wc (VX e)) (VS _ e)
 have O:∀ b o,s.heap.get? b=some o->h.get? b=some o:=λb o e=>kept b o (VS _ e);have I4:=xG (t₁:=s.toks+([]:List (Str×Value)).length) I3 g hix hf3 hlt k kept;have st4:R 0 h:=T.keep 0 _ _ st0 λb _ o e=>O b o e
 have F:codeAny (model X.prog X.w) X.A (.compLoop (.ListComp elt [⟨.Name x px,iter,ifs,0⟩] scope pos) 0 (.ref it) (.ref s.heap.objs.size) (compEnvC scope (bN X.env scope.names []) (s.heap.push {cls:= .type "list",dict:=none,data:= .seq ([]:List Value).toArray}).objs.size X.env))
  (RR (.ref s.heap.objs.size) (s.heap.push {cls:= .type "list",dict:=none,data:= .seq ([]:List Value).toArray}).objs.size) {s with heap:=h,toks:=s.toks+([]:List (Str×Value)).length}:=by
  generalize l:fV X scope (bN X.env scope.names []) (s.heap.push {cls:= .type "list",dict:=none,data:= .seq ([]:List Value).toArray}).objs.size (x::cs) fp {s with heap:=s.heap.push {cls:= .type "list",dict:=none,data:= .seq ([]:List Value).toArray}} (upd H s.heap.objs.size (.lst []))=Y at I4;have hti':Rf Y ifs ti:=by rw[<-l]; exact hti _ _ _ _
  have hte':PE Y elt te:=by rw[<-l]; exact hte _ _ _ _
  have hcY:Y.calm=true:=by rw[<-l]; exact P
  have hg:PG Y (.Name x px) (fE 0):=by
   rw [<-l];exact bo g.nd rfl (.inl (lookup_relabel_local g.var)) (.inr (lookup_relabel_local g.var))
  have f4:∀ {H':Hp},(∀ b∈fp,H' b=none)->∀ b∈fp,li Y [] H' b:=λ{H'} hn b a=>by
   rw[<-l];refine⟨hn b a,Wc (hlt b a),λz=>?_,.inl a,λy c e z=>?_,λp hp=>absurd (show p∈([]:L1) from hp) (by simp)⟩
   · rcases List.mem_cons.mp (I3.stkSub b z) with q|q
     ·exact(B b a).2.1 q
     ·exact(B b a).2.2.1 q
   · rcases io (sX I2 g) e with q|q
     ·cases q
     ·exact(B b a).2.2.2.2.1 y c q z
  have fin:∀ {D:Option V} {H':Hp} {f:Shared},Inv Y [] (D::ke Z ix) H' f->Qe (.ref s.heap.objs.size) H'->RR (.ref s.heap.objs.size) (s.heap.push {cls:= .type "list",dict:=none,data:= .seq ([]:List Value).toArray}).objs.size (.ok .next) f:=λ{D H' f} J q=>by
   rw[<-l] at J;have Ix:Inv X G Z H' f:=I3.call' (ch:=fp) J.os J.base J.hok J.bare λb a=>⟨(B b a).2.2.2.1,(B b a).2.1,(B b a).2.2.2.2.1,(B b a).2.2.2.2.2⟩;refine hRR _ _ H' f Ix (I3.fpOk (VW _) J.free) ?_ q;obtain⟨m,hm,_⟩:=J.loc;exact⟨m,hm⟩
  have eY:compEnvC scope (bN X.env scope.names []) (s.heap.push {cls:= .type "list",dict:=none,data:= .seq ([]:List Value).toArray}).objs.size X.env=Y.env:=by rw[<-l]; rfl
  have eP:X.prog=Y.prog:=by rw[<-l]; rfl
  have eW:X.w=Y.w:=by rw[<-l]; rfl
  have eK:X.K=Y.K:=by rw[<-l]; rfl
  have eA:X.A=Y.A:=by rw[<-l]; rfl
  have eX:Y.xe=λ_ _=>False:=by rw[<-l]; rfl
  rw[eP,eW,eK] at T;rw[eY,eP,eW,eA];refine pM (λn f=>∃ i ys D H',Inv Y [] (D::ke Z ix) H' f/\R i f.heap/\(∀ b∈fp,H' b=none)/\W i n ys H') ?_ m0 ⟨0,[],none,_,I4,st4,λb a=>(hf3 b a).1,w0⟩;rintro n f ⟨i,ys,D,H',I',st',fr',w'⟩;obtain⟨hp,hlen,U⟩:=Q i n ys H' w';rcases U with ⟨stop,q⟩|⟨go,step⟩
  ·refine b8 (T.done Y rfl rfl rfl hcY i [] f (D::ke Z ix) H' (λ_ _=>False) I' (f4 fr') st' stop) λr s1 ⟨hr,I1⟩=>?_;subst hr;exact fin I1 q
  · refine b8 (T.item Y rfl rfl rfl hcY i [] f (D::ke Z ix) H' (λ_ _=>False) I' (f4 fr') st' go) λr s1 ⟨u,hr,h4⟩=>?_;subst hr;refine b8 h4 λ_ s2 ⟨v,H2,J2,r2,y2,M,fr2⟩=>?_;have J2p:=J2.pinned (f4 fr2) (T.obj _ _ M)
    have again:∀ {t:St} {H7:Hp} {s7:Shared},Inv Y ([]++n5 fp s2.heap) t H7 s7->R (i+1) s7.heap/\∀ b∈fp,H7 b=none:=λ{t H7 s7} I7=>by
     refine⟨T.keep _ _ _ M λb a o e=>(I7.pin (b,o) (VV _ (VV _ (fS a e)))).1,λb a=>?_⟩;obtain⟨o,e,d⟩:=T.obj _ _ M b a;exact(I7.pin (b,o) (VV _ (VV _ (fS a e)))).2.1
    have hga:=hg _ s2 (D::ke Z ix) H2 v u (λt H'=>t=some v::ke Z ix/\H'=H2) J2p r2 ⟨rfl,rfl⟩;rw[eX] at hga;refine b8 hga λ_ s3 ⟨σ3,H3,J3,e3,e3'⟩=>?_;subst e3 e3';have htt:=hti' _ s3 _ H3 _ J3 (step v H3 y2);rw[eX] at htt;refine b8 htt λb s4 ⟨H4,J4,q4⟩=>?_;cases b with
    |false=>
      rw[VM V0] at q4 ⊢;obtain⟨m',hm,w4⟩:=q4;exact⟨m',hm,i+1,ys,some v,H4,J4.unpinned,(again J4).1,(again J4).2,w4⟩
    |true=>
      rw[on rfl] at q4 ⊢;have hee:=hte' _ s4 _ H4 _ J4 q4;rw[eX] at hee;refine b8 hee λy s5 ⟨yv,H5,J5,r5,hp5,m',hm,w5⟩=>?_;have hap:=dL (X:=Y) _ s5 _ H5 (.ref s.heap.objs.size) [yv] (.ref s.heap.objs.size) [y] (λ_ H6=>H6=upd H5 s.heap.objs.size (.lst (ys++[yv]))) J5 rfl (.cons r5 .nil) ⟨_,ys,yv,rfl,rfl,hp5,hlen,rfl⟩;rw[eX] at hap;refine b8 hap λ_ s6 ⟨_,H6,J6,_,e6⟩=>?_;subst e6;exact⟨m',hm,i+1,ys++[yv],some v,_,J6.unpinned,(again J6).1,(again J6).2,w5⟩
 exact codeAny_compStart_list F (T.self _ 0 _ _ _ st4 F)
theorem eV{n:TI}(c:X.calm=true)(hi:PI X (.Name x px) iter n)(a:CompSc X.env.scope scope x cs)(k:ix.map (λi=>X.N[i]?)=cs.map some)
 (f:∀ C fp s₀ H₀,Rf (fV X scope (bN X.env scope.names []) C (x::cs) fp s₀ H₀) ifs ti) (g:∀ C fp s₀ H₀,PE (fV X scope (bN X.env scope.names []) C (x::cs) fp s₀ H₀) elt te)
 (l:closureFor scope X.env=pure (bN X.env scope.names []):=by rfl) (u:∀ x,foldedSetIterable iter X.env x=pure x:=by intro _; rfl):
 PE X (.ListComp elt [⟨.Name x px,iter,ifs,0⟩] scope pos) (AQ n ix ti te):=by
 intro G s Z H Q I h;rw[eval_ListComp];refine W9 (use:=none) rfl u l a.kind a.loc (b8 (hi G s Z H _ I h) λv V E=>b8 E λt s2 D=>?_);obtain⟨W,fp,U,J,Y,e,R,T,d,M,B⟩:=D;subst e;refine sW (RR:=λacc C=>compPost (model X.prog X.w) X.A X.xe none (EP X G Z Q) acc C) c R a k T d M f g B ?_;rintro p C H' r S ⟨P,O,_,L,K,F⟩ ⟨m,y⟩ q;exact⟨m,y,λh' j=>⟨.ref p,H',S.turned (t':=r.toks) (λb o z e=>j.extBut b o z e) P O L K F,rfl,q⟩⟩
theorem lW{O:TI}{y:Str}{py a:Pos}{i:Nat}(g:X.calm=true)(hN:X.N.Nodup)(K:X.N[i]?=some y)(hy:Rg X.env.scope y)(hi:PI X (.Name x px) iter O)(f:CompSc X.env.scope scope x cs)(F:ix.map (λi=>X.N[i]?)=cs.map some)
 (r:∀ C fp s₀ H₀,Rf (fV X scope (bN X.env scope.names []) C (x::cs) fp s₀ H₀) ifs ti) (t:∀ C fp s₀ H₀,PE (fV X scope (bN X.env scope.names []) C (x::cs) fp s₀ H₀) elt te)
 (u:swapsWith (.ListComp elt [⟨.Name x px,iter,ifs,0⟩] scope pos) (some (.Name y py)) a.line X.env=pure true:=by rfl)
 (L:closureFor scope X.env=pure (bN X.env scope.names []):=by rfl) (hs:∀ x,foldedSetIterable iter X.env x=pure x:=by intro _; rfl)
 (hf:X.fn y=true\/X.env.scope.names.lookup y=some .local:=by first | exact .inl rfl | exact .inr rfl | assumption):
 PS X (.Assign [.Name y py] (.ListComp elt [⟨.Name x px,iter,ifs,0⟩] scope pos) a) (DC (AQ O ix ti te) (fE i)):=by
 intro G s Z H D I h;rw[exec_Assign_Name_used _ _ _ _ u];refine VO (Yp (VO ?_));show wpAny _ X.A (do let _ <-comprehension (.ListComp elt [⟨.Name x px,iter,ifs,0⟩] scope pos) scope X.env _ (newList []) false (eval iter X.env) (some (assign (.Name y py) X.env))) _ _ s;refine VO (b8 (W9 (Q:=λ_ d=>SP X G D .next d) rfl hs L f.kind f.loc (b8 (hi G s Z H _ I h) λv s1 h1=>b8 h1 λY s2 h2=>?_)) λ_ d hq=>VY (VY hq));obtain⟨it,fp,tn,J,H2,e,I2,T,n,f2,hW⟩:=h2;subst e;refine sW (RR:=λacc C=>compPost (model X.prog X.w) X.A X.xe (some (assign (.Name y py) X.env)) (λ_ d=>SP X G D .next d) acc C) g I2 f F T n f2 r t hW ?_;rintro p C H' d S ⟨f0,P,M,f3,f4,f5⟩ ⟨m,hm⟩ q;obtain⟨k,es,ep,E,j,V⟩:=hm
 have Ip:Inv X (G++[(C,k)]) Z H' d:=S.pins_of λp hp=>(List.mem_append.mp hp).elim (λz=>S.pin p (VV _ z)) λz=>by
  have e:p=(C,k):=by simpa using z
  subst e;exact⟨E,f0,P,M,λv z=>by rw[j] at z; cases z⟩
 have hg:PG X (.Name y py) (fE i):=bo hN K hy hf;refine b8 (hg _ d Z H' (.ref p) (.ref p) D.nx Ip rfl q) λ_ U ⟨l,H3,R,W⟩=>?_;have c:=R.pin (C,k) (VV _ (VV _ (by simp)));refine⟨m,⟨k,es,ep,c.1,j,V⟩,λh' B=>?_⟩;exact⟨l,H3,(R.unpinned).turned (t':=U.toks) (λb o hb e=>B.extBut b o hb e) c.2.1 P f3 f4 f5,W⟩
end
mutual
def Den(K:L0)(H:Hp):PyData->V->Prop
 |.none,v=>v= .non
 |.bool b,v=>v= .bl b
 |.int i,v=>v= .int i
 |.str x,v=>v= .str x
 |.list ds,v=>∃ a xs,v= .ref a/\SqL K H a xs/\Dens K H ds xs
 |.tuple ds,v=>∃ a xs,v= .ref a/\SqT K H a xs/\Dens K H ds xs
 |.dict _,_=>False
def Dens(K:L0)(H:Hp):List PyData->List V->Prop
 |[],xs=>xs=[]
 |d::ds,xs=>∃ x r,xs=x::r/\Den K H d x/\Dens K H ds r
end
section
variable{X:Cx}{G:L1}{Z:St}{H:Hp}{s:Shared}
mutual
theorem den_reads(I:Inv X G Z H s):∀ (d:PyData) {v:V} {u:Value},Den X.K H d v->RelV v u->∃ m,Reads s.heap u d m
 | .none,v,u,h,r=>by
   rw[Den] at h;subst h;have c:u=Value.none:=r;subst c;exact⟨_,.none⟩
 | .bool b,v,u,h,r=>by
   rw[Den] at h;subst h;have c:u=Value.bool b:=r;subst c;exact⟨_,.bool b⟩
 | .int i,v,u,h,r=>by
   rw[Den] at h;subst h;obtain⟨t,c⟩:=(show ∃ t,u=Value.int i t from r);subst c;exact⟨_,.int i t⟩
 | .str x,v,u,h,r=>by
   rw[Den] at h;subst h;obtain⟨t,c⟩:=(show ∃ t,u=Value.str x t from r);subst c;exact⟨_,.str x t⟩
 | .list ds,v,u,h,r=>by
   rw[Den] at h;obtain⟨a,xs,rfl,j,hd⟩:=h;have c:u=Value.ref a:=r;subst c;obtain⟨its,f,p,hz⟩:=I.list j;obtain⟨m,g⟩:=dens_reads I ds hd f;obtain⟨o,k,l,n,e⟩:=p.isList;exact⟨_,.list k l e (by simpa using g)⟩
 | .tuple ds,v,u,h,r=>by
   rw[Den] at h;obtain⟨a,xs,rfl,j,hd⟩:=h;have c:u=Value.ref a:=r;subst c;obtain⟨its,f,p,hz⟩:=I.tuple j;obtain⟨m,g⟩:=dens_reads I ds hd f;obtain⟨o,k,l,n,e⟩:=p;exact⟨_,.tuple k l e (by simpa using g)⟩
 | .dict _,v,u,h,r=>by
   rw[Den] at h;exact h.elim
theorem dens_reads(I:Inv X G Z H s):∀ (ds:List PyData) {xs:List V} {us:List Value},Dens X.K H ds xs->Vals xs us->∃ a,ReadsAll s.heap us ds a
 | [],xs,us,h,r=>by
   rw[Dens] at h;subst h;cases r;exact⟨_,.nil⟩
 | d::ds,xs,us,h,r=>by
   rw[Dens] at h;obtain⟨x,t,rfl,g,i⟩:=h;cases r with
   |cons f e=>
     obtain⟨a,c⟩:=den_reads I d g f;obtain⟨bs,b⟩:=dens_reads I ds i e;exact⟨_,.cons c b⟩
end
end
section
variable{X:Cx}
def N6(K:L0)(a:Bool):R2:=λx y H Q=>∃ d e,Den K H d x/\Den K H e y/\SeqAt.shaped d=true/\SeqAt.shaped e=true/\Q (.bl (if a then !PyData.eqv d e else PyData.eqv d e)) H
theorem Ot(j:X.A.units+64<cLine):nK X (compareOp .Eq) (N6 X.K false):=by
 intro G s Z H x y v u Q I f c h;obtain⟨d,e,hd,k,b,a,q⟩:=h;obtain⟨l,i⟩:=den_reads I d hd f;obtain⟨bs,g⟩:=den_reads I e k c;exact eq_dataH i g b a j ⟨.bl _,H,I,rfl,q⟩
theorem Os(j:X.A.units+65<cLine):nK X (compareOp .In) (λx y H Q=>∃ d xs,Den X.K H d x/\Den X.K H (.list xs) y/\SeqAt.shaped d=true/\SeqAt.shaped (.list xs)=true/\(∀ z∈xs,SeqAt.noMix z d=true)/\Q (.bl (decide (countIn d xs≠0))) H):=by
 intro G s Z H x y v u Q I e c h;obtain⟨d,xs,hd,k,b,a,i,q⟩:=h;obtain⟨l,g⟩:=den_reads I d hd e;obtain⟨bs,f⟩:=den_reads I _ k c;exact in_list_dataH f g a b j i ⟨.bl _,H,I,rfl,q⟩
end
section
variable{X:Cx}
theorem J8:dJ X (.builtin "isinstance") (λxs H Q=>∃ x c t b,xs=[x,.ty c]/\TyOf X.K H x t/\PySem.W.kitOne X.K t (.type c)=some b/\Q (.bl b) H):=by
 intro G s Z H xs us Q I r h;obtain⟨x,c,t,b,rfl,ty,e,q⟩:=h;obtain⟨u,a,rfl,i,g⟩:=E3 r;have f:a=Value.type c:=g;subst f;exact Ed I i ty e λd=>⟨.bl b,H,I.tok d,rfl,q⟩
end
section
variable{prog:Program}{w:World}{A:Around}{R:Result->Shared->Prop}{I:Addr}{fp wr:List Addr}{n:Nat}{P:Nat->Value->Prop}{St:Nat->Heap->Prop}
theorem xZ(W:Walks prog w A.in1 I fp wr n P St)(J:List (Str×Value))(r:Nat->Nat->Bool)(C:CmpOf prog w A.in1 .Lt P r)(S:Addr)(F:S∉fp):∀ (k j:Nat) (s:Shared) (f:Value) (c:Nat),
 n-(j+1)=k->j+1<=n->St (j+1) s.heap->P (argBest r j) f->s.heap.get? S=some {cls:= .type "list",dict:=none,data:= .seq #[f,f] c,slots:=#[]}->
 (∀ v h' x,P (argBest r (n-1)) v->(∀ b o,b∉wr->b≠S->s.heap.get? b=some o->h'.get? b=some o)->R (.ok (.ret v)) {s with heap:=h',toks:=x})->
 codeAny (model prog w) A (.builtin "min.loop" ⟨[.ref I,.none,.ref S],J⟩) R s:=by
 have E:S∉wr:=λz=>F (W.sub _ z);have D:(toString "min" ++ toString ".loop" : String) = "min.loop" := by decide
 intro k
 induction k with
 |zero=>
   intro j s f c M L st y u g;refine WY XO ?_;rw[WB WE _];refine VO (m:=seqItems? (.ref S)) (Xu u rfl ?_);refine VO (m:=tryCatch (pyNext (.ref I)) _) (WR (W.done s _ _ ((show j+1=n by omega)▸st) λh' x kp=>?_));refine VO (m:=updateSeq S (λ_=>#[])) ?_;refine Xm (kp S _ E u) rfl (VO (W7 (VY ?_)));exact g f _ x (by rw[show n-1=j by omega]; exact y) λb o l q e=>(Wi _ _ (Xv q)).trans (kp b o l e)
 |succ k G=>
   intro j s f c M L st y u g;have lt:j+1<n:=by omega
   refine WY XO ?_;rw[WB WE _];refine VO (m:=seqItems? (.ref S)) (Xu u rfl ?_);refine VO (m:=tryCatch (pyNext (.ref I)) _) (WR (W.item (j+1) s _ _ lt st λv h' x pv t kp=>?_));have i:=kp S _ E u;refine VO (m:=tryCatch (holding [v,v] (richCompare .Lt v f >>= _)) _) (WR (Xa (VO (C (j+1) (argBest r j) v f _ _ _ pv y ?_))));refine VO (Xa (WQ (VO (W7 (VY ?_)))));cases H:r (j+1) (argBest r j) with
   |true=>
     rw[on rfl];refine VO ?_;refine Xm i rfl (VO (W7 ?_));rw[D];refine VY ⟨WW WE _,G (j+1) _ v _ (by omega) lt (W.frame _ _ _ t λb K o e=>?_) (by simp only[argBest,H,Y7]; exact pv) (WJ _ i rfl) λB p a h d=>?_⟩
     ·exact(Wi _ _ (λz:S=b=>F (by rw[z]; exact K))).trans e
     ·exact g B p a h λb o l q e=>d b o l q ((Wi _ _ (Xv q)).trans (kp b o l e))
   |false=>
     rw[VM V0];refine VO (W7 ?_);rw[D];exact VY ⟨WW WE _,G (j+1) _ f c (by omega) lt t (by simp only[argBest,H,W4,XM]; exact y) i λB p a h d=>g B p a h λb o l q e=>d b o l q (kp b o l e)⟩
end
theorem EM(a d:Value):argsOk "min" ⟨[a],[(Str.ofString "default",d)]⟩:=by unfold argsOk; kernel_rfl
section
variable{prog:Program}{w:World}{A:Around}{E:L3}{s:Shared}
theorem EC{x d:Value}{Q:L3}
 (h:wpAny (model prog w) A.in1 (pyIter x) (λK a=>∃ I q f n P St r,K= .ref I/\Walks prog w A.in1 I q f n P St/\St 0 a.heap/\(∀ b∈q,b<a.heap.objs.size)/\CmpOf prog w A.in1 .Lt P r/\
   (n=0->∀ h' c,(∀ b o,b∉f->a.heap.get? b=some o->h'.get? b=some o)->Q d {a with heap:=h',toks:=c})/\
   (0<n->∀ v h' c,P (argBest r (n-1)) v->(∀ b o,b∉f->a.heap.get? b=some o->h'.get? b=some o)->Q v {a with heap:=h',toks:=c})) E s):
 wpAny (model prog w) A (call (.builtin "min") [x] [(Str.ofString "default",d)]) Q E s:=by
 have J:(toString "min" ++ toString ".loop" : String) = "min.loop" := by decide
 refine kmk_tree PySem.F.kind_min PySem.F.plain_min PySem.F.entry_min (EM _ _) ?_;refine VO (m:=Builtin.Builtins.bindParams "min" ["key","default"] 0 ⟨[],[(Str.ofString "default",d)]⟩) (wpAny_of_eq (show _=pure [none,some d] from rfl) ?_);refine VO (VY (VO (W8 h (λK a l=>?_) λ_ _ e=>e)));obtain⟨I,q,f,n,P,St,r,rfl,W,st,B,G,N,M⟩:=l;refine VO (XQ ?_);have y:a.heap.objs.size∉q:=λz=>WC _ (B _ z);have O:a.heap.objs.size∉f:=λz=>y (W.sub _ z);rw[J];have i:=W.frame _ _ (a.heap.push {cls:= .type "list",dict:=none,data:= .seq ([]:List Value).toArray}) st λb _ o e=>VS _ e;have H:(a.heap.push {cls:= .type "list",dict:=none,data:= .seq ([]:List Value).toArray}).get? a.heap.objs.size=some {cls:= .type "list",dict:=none,data:= .seq ([]:List Value).toArray}:=V3 _ rfl;refine VY ⟨WW WE _,WY XO ?_⟩;rw[WB WE _];refine VO (m:=seqItems? (.ref a.heap.objs.size)) (Xu H rfl ?_);by_cases C:n=0
 ·refine VO (m:=tryCatch (pyNext (.ref I)) _) (WR (W.done _ _ _ (C▸i) λh' c kp=>?_));refine VO (m:=rule _) (wpAny_rule (VY ?_));exact N C h' c λb o p e=>kp b o p (VS _ e)
 · have lt:0<n:=Nat.pos_of_ne_zero C;refine VO (m:=tryCatch (pyNext (.ref I)) _) (WR (W.item 0 _ _ _ lt i λv h' c pv t kp=>?_));have j:=kp _ _ O H;refine VO (m:=updateSeq a.heap.objs.size (λ_=>#[v,v])) ?_;refine Xm j rfl ?_;rw[J];refine VY ⟨WW WE _,xZ W _ r G _ y _ 0 _ v _ rfl lt (W.frame _ _ _ t λb R o e=>?_) pv (WJ _ j rfl) λL D g u k=>?_⟩
   ·exact(Wi _ _ (λz:a.heap.objs.size=b=>y (by rw[z]; exact R))).trans e
   ·exact M lt L D g u λb o p e=>k b o p (Wc (VX e)) ((Wi _ _ (Y3 (VX e))).trans (kp b o p (VS _ e)))
end
section
variable{prog:Program}{w:World}{A:Around}{R:Result->Shared->Prop}{I:Addr}{fp wr:List Addr}{n:Nat}{P:Nat->Value->Prop}{St:Nat->Heap->Prop}
theorem x6(W:Walks prog w A.in1 I fp wr n P St)(J:List (Str×Value))(r:Nat->Nat->Bool)(C:CmpOf prog w A.in1 .Gt P r)(S:Addr)(F:S∉fp):∀ (k j:Nat) (s:Shared) (f:Value) (c:Nat),
 n-(j+1)=k->j+1<=n->St (j+1) s.heap->P (argBest r j) f->s.heap.get? S=some {cls:= .type "list",dict:=none,data:= .seq #[f,f] c,slots:=#[]}->
 (∀ v h' x,P (argBest r (n-1)) v->(∀ b o,b∉wr->b≠S->s.heap.get? b=some o->h'.get? b=some o)->R (.ok (.ret v)) {s with heap:=h',toks:=x})->
 codeAny (model prog w) A (.builtin "max.loop" ⟨[.ref I,.none,.ref S],J⟩) R s:=by
 have E:S∉wr:=λz=>F (W.sub _ z);have D:(toString "max" ++ toString ".loop" : String) = "max.loop" := by decide
 intro k
 induction k with
 |zero=>
   intro j s f c M L st y u g;refine WY XR ?_;rw[WB WF _];refine VO (m:=seqItems? (.ref S)) (Xu u rfl ?_);refine VO (m:=tryCatch (pyNext (.ref I)) _) (WR (W.done s _ _ ((show j+1=n by omega)▸st) λh' x kp=>?_));refine VO (m:=updateSeq S (λ_=>#[])) ?_;refine Xm (kp S _ E u) rfl (VO (W7 (VY ?_)));exact g f _ x (by rw[show n-1=j by omega]; exact y) λb o l q e=>(Wi _ _ (Xv q)).trans (kp b o l e)
 |succ k G=>
   intro j s f c M L st y u g;have lt:j+1<n:=by omega
   refine WY XR ?_;rw[WB WF _];refine VO (m:=seqItems? (.ref S)) (Xu u rfl ?_);refine VO (m:=tryCatch (pyNext (.ref I)) _) (WR (W.item (j+1) s _ _ lt st λv h' x pv t kp=>?_));have i:=kp S _ E u;refine VO (m:=tryCatch (holding [v,v] (richCompare .Gt v f >>= _)) _) (WR (Xa (VO (C (j+1) (argBest r j) v f _ _ _ pv y ?_))));refine VO (Xa (WQ (VO (W7 (VY ?_)))));cases H:r (j+1) (argBest r j) with
   |true=>
     rw[on rfl];refine VO ?_;refine Xm i rfl (VO (W7 ?_));rw[D];refine VY ⟨WW WF _,G (j+1) _ v _ (by omega) lt (W.frame _ _ _ t λb K o e=>?_) (by simp only[argBest,H,Y7]; exact pv) (WJ _ i rfl) λB p a h d=>?_⟩
     ·exact(Wi _ _ (λz:S=b=>F (by rw[z]; exact K))).trans e
     ·exact g B p a h λb o l q e=>d b o l q ((Wi _ _ (Xv q)).trans (kp b o l e))
   |false=>
     rw[VM V0];refine VO (W7 ?_);rw[D];exact VY ⟨WW WF _,G (j+1) _ f c (by omega) lt t (by simp only[argBest,H,W4,XM]; exact y) i λB p a h d=>g B p a h λb o l q e=>d b o l q (kp b o l e)⟩
end
theorem EN(a d:Value):argsOk "max" ⟨[a],[(Str.ofString "default",d)]⟩:=by unfold argsOk; kernel_rfl
section
variable{prog:Program}{w:World}{A:Around}{E:L3}{s:Shared}
theorem ED{x d:Value}{Q:L3}
 (h:wpAny (model prog w) A.in1 (pyIter x) (λK a=>∃ I q f n P St r,K= .ref I/\Walks prog w A.in1 I q f n P St/\St 0 a.heap/\(∀ b∈q,b<a.heap.objs.size)/\CmpOf prog w A.in1 .Gt P r/\
   (n=0->∀ h' c,(∀ b o,b∉f->a.heap.get? b=some o->h'.get? b=some o)->Q d {a with heap:=h',toks:=c})/\
   (0<n->∀ v h' c,P (argBest r (n-1)) v->(∀ b o,b∉f->a.heap.get? b=some o->h'.get? b=some o)->Q v {a with heap:=h',toks:=c})) E s):
 wpAny (model prog w) A (call (.builtin "max") [x] [(Str.ofString "default",d)]) Q E s:=by
 have J:(toString "max" ++ toString ".loop" : String) = "max.loop" := by decide
 refine kmk_tree PySem.F.kind_max PySem.F.plain_max PySem.F.entry_max (EN _ _) ?_;refine VO (m:=Builtin.Builtins.bindParams "max" ["key","default"] 0 ⟨[],[(Str.ofString "default",d)]⟩) (wpAny_of_eq (show _=pure [none,some d] from rfl) ?_);refine VO (VY (VO (W8 h (λK a l=>?_) λ_ _ e=>e)));obtain⟨I,q,f,n,P,St,r,rfl,W,st,B,G,N,M⟩:=l;refine VO (XQ ?_);have y:a.heap.objs.size∉q:=λz=>WC _ (B _ z);have O:a.heap.objs.size∉f:=λz=>y (W.sub _ z);rw[J];have i:=W.frame _ _ (a.heap.push {cls:= .type "list",dict:=none,data:= .seq ([]:List Value).toArray}) st λb _ o e=>VS _ e;have H:(a.heap.push {cls:= .type "list",dict:=none,data:= .seq ([]:List Value).toArray}).get? a.heap.objs.size=some {cls:= .type "list",dict:=none,data:= .seq ([]:List Value).toArray}:=V3 _ rfl;refine VY ⟨WW WF _,WY XR ?_⟩;rw[WB WF _];refine VO (m:=seqItems? (.ref a.heap.objs.size)) (Xu H rfl ?_);by_cases C:n=0
 ·refine VO (m:=tryCatch (pyNext (.ref I)) _) (WR (W.done _ _ _ (C▸i) λh' c kp=>?_));refine VO (m:=rule _) (wpAny_rule (VY ?_));exact N C h' c λb o p e=>kp b o p (VS _ e)
 · have lt:0<n:=Nat.pos_of_ne_zero C;refine VO (m:=tryCatch (pyNext (.ref I)) _) (WR (W.item 0 _ _ _ lt i λv h' c pv t kp=>?_));have j:=kp _ _ O H;refine VO (m:=updateSeq a.heap.objs.size (λ_=>#[v,v])) ?_;refine Xm j rfl ?_;rw[J];refine VY ⟨WW WF _,x6 W _ r G _ y _ 0 _ v _ rfl lt (W.frame _ _ _ t λb R o e=>?_) pv (WJ _ j rfl) λL D g u k=>?_⟩
   ·exact(Wi _ _ (λz:a.heap.objs.size=b=>y (by rw[z]; exact R))).trans e
   ·exact M lt L D g u λb o p e=>k b o p (Wc (VX e)) ((Wi _ _ (Y3 (VX e))).trans (kp b o p (VS _ e)))
end
def tz(X:Cx)(f:Value)(ks:List Str)(r:List V->List V->Hp->VK->Prop):Prop:=
 ∀ (G:L1) (s:Shared) (Z:St) (H:Hp) (xs a:List V) (us ws:List Value) (Q:VK),Inv X G Z H s->Vals xs us->Vals a ws->r xs a H Q->
  wpAny (model X.prog X.w) X.A (call f us (ks.zip ws)) (EP X G Z Q) X.xe s
def Nk(r:List V->List V->Hp->VK->Prop)(t b:TA):TE:=λZ H Q=>t Z H λvs L=>b Z L λa c=>r vs a c Q
section
variable{X:Cx}{x:Str}{p pos:Pos}{e:Expr}{es:List Expr}{kws:List Keyword}{t tk:TA}{id:String}{ks:List Str}{r:List V->List V->Hp->VK->Prop}
theorem t8(y:tz X (.builtin id) ks r)(v:Gl X x)(q:X.mg x=none)(n:bootBuiltins x=some (.builtin id))(z:PA X (e::es) t)(u:PK X kws tk)
 (c:(backToKw pos (keywordEach kws X.env)).filterMap (·.1)=ks:=by rfl) (o:x ≠ "__name__" := by decide) (f:(x==("__debug__" : Str))=false:=by decide)
 (w:backTo pos (starEach (e::es) X.env)=(false,eval e X.env)::backTo pos (starEach es X.env):=by rfl) (b:(backTo pos (starEach (e::es) X.env)).any (·.1)=false:=by rfl)
 (a:(backToKw pos (keywordEach kws X.env)).all (·.1.isSome)=true:=by rfl) (d:(backToKw pos (keywordEach kws X.env)).any (·.1.isNone)=false:=by rfl):
 PE X (.Call (.Name x p) (e::es) kws pos) (Nk r t tk):=by
 intro G s Z H Q I h;refine Xh (oq I v q n ?_ o f);refine PyProof.Rows.callWith_kw (b8 (z pos G s Z H _ I h) λus i ⟨vs,L,B,k,m⟩=>b8 (u pos G i Z L _ B m) λws s2 ⟨g,C,A,j,l⟩=>?_) w b a d;rw[c];exact y G s2 Z C vs g us ws Q A k j l
end
theorem ga:∀ {ns:List Int} {us:List Value} {i:Nat} {u:Value},Vals (ns.map V.int) us->us[i]?=some u->∃ t,u= .int (ns.getD i 0) t
 | [],us,i,u,r,e=>by
   cases r;cases e
 | n::ns,us,i,u,r,e=>by
   rw[VQ] at r;cases r with
   |cons b a=>
     cases i with
     |zero=>
       cases e;exact b
     |succ i=>
       show ∃ t,u= .int (ns.getD i 0) t;exact ga (ns:=ns) (i:=i) a (by simpa using e)
theorem EK{X:Cx}(N:X.calm=true):tz X (.builtin "min") ["default"] (λxs w H Q=>∃ p ns d,xs=[.ref p]/\w=[d]/\SqL X.K H p (ns.map V.int)/\(ns=[]->Q d H)/\∀ m∈ns,(∀ x∈ns,m<=x)->Q (.int m) H):=by
 intro G s Z H xs w us ws Q I r B h;obtain⟨p,ns,d,rfl,rfl,L,E,D⟩:=h;obtain⟨u,rfl,C⟩:=Vals.one r;have k:u=Value.ref p:=C;subst k;obtain⟨U,rfl,rd⟩:=Vals.one B;obtain⟨its,g,pl,hz⟩:=I.list L;have ln:ns.length=its.length:=by rw[<-g.length,VN]
 obtain⟨F,c,n,l⟩:=id pl.isList;have f:p<s.heap.objs.size:=VX c;refine EC (XI pl.isList ⟨s.heap.objs.size,_,_,_,_,_,_,rfl,Walks.list (A:=X.A.in1) (I.ok.hd N) _ p (Wc f) its.toArray,⟨⟨_,V3 _ rfl,rfl,rfl⟩,⟨F,VS _ c,n,l⟩⟩,λb O=>?_,CmpOf.ints_lt (λi=>ns.getD i 0) (λi v e=>ga g (by simpa using e)),λe h' y kp=>?_,λe v h' y pv kp=>?_⟩)
 · rw[Xr];rcases List.mem_cons.mp O with z|z
   ·rw[z]; exact Xw _
   · have a:b=p:=by simpa using z
     rw[a]; exact XN f
 · have P:ns=[]:=List.length_eq_zero_iff.mp (by rw[ln]; simpa using e);refine⟨d,H,I.kept λb o q=>kp b o (λz=>?_) (VS _ q),rd,E P⟩;have a:b=s.heap.objs.size:=by simpa using z
   exact absurd (VX q) (by rw[a]; exact WC _)
 · have T:0<its.length:=by simpa using e
   have R:its.toArray.size-1=ns.length-1:=by rw[VZ,ln]
   rw[R] at pv;obtain⟨W,S⟩:=argBest_lt (λi=>ns.getD i 0) (ns.length-1);rw[YN] at pv;obtain⟨t,rfl⟩:=ga g pv
   have up:∀ i,i<ns.length->ns.getD i 0∈ns:=λi hi=>by
    rw[V6,V1 hi];exact Xf hi
   refine⟨.int _,H,I.kept λb o q=>kp b o (λz=>?_) (VS _ q),⟨t,rfl⟩,D _ (up _ (by omega)) λx J=>?_⟩
   · have a:b=s.heap.objs.size:=by simpa using z
     exact absurd (VX q) (by rw[a]; exact WC _)
   · obtain⟨j,M,rfl⟩:=X5 J
     have:=S j (by omega)
     rwa [show ns.getD j 0=ns[j] by rw[V6,V1 M]; rfl] at this
theorem EL{X:Cx}(N:X.calm=true):tz X (.builtin "max") ["default"] (λxs w H Q=>∃ p ns d,xs=[.ref p]/\w=[d]/\SqL X.K H p (ns.map V.int)/\(ns=[]->Q d H)/\∀ m∈ns,(∀ x∈ns,x<=m)->Q (.int m) H):=by
 intro G s Z H xs w us ws Q I r B h;obtain⟨p,ns,d,rfl,rfl,L,E,D⟩:=h;obtain⟨u,rfl,C⟩:=Vals.one r;have k:u=Value.ref p:=C;subst k;obtain⟨U,rfl,rd⟩:=Vals.one B;obtain⟨its,g,pl,hz⟩:=I.list L;have ln:ns.length=its.length:=by rw[<-g.length,VN]
 obtain⟨F,c,n,l⟩:=id pl.isList;have f:p<s.heap.objs.size:=VX c;refine ED (XI pl.isList ⟨s.heap.objs.size,_,_,_,_,_,_,rfl,Walks.list (A:=X.A.in1) (I.ok.hd N) _ p (Wc f) its.toArray,⟨⟨_,V3 _ rfl,rfl,rfl⟩,⟨F,VS _ c,n,l⟩⟩,λb O=>?_,CmpOf.ints_gt (λi=>ns.getD i 0) (λi v e=>ga g (by simpa using e)),λe h' y kp=>?_,λe v h' y pv kp=>?_⟩)
 · rw[Xr];rcases List.mem_cons.mp O with z|z
   ·rw[z]; exact Xw _
   · have a:b=p:=by simpa using z
     rw[a]; exact XN f
 · have P:ns=[]:=List.length_eq_zero_iff.mp (by rw[ln]; simpa using e);refine⟨d,H,I.kept λb o q=>kp b o (λz=>?_) (VS _ q),rd,E P⟩;have a:b=s.heap.objs.size:=by simpa using z
   exact absurd (VX q) (by rw[a]; exact WC _)
 · have T:0<its.length:=by simpa using e
   have R:its.toArray.size-1=ns.length-1:=by rw[VZ,ln]
   rw[R] at pv;obtain⟨W,S⟩:=argBest_gt (λi=>ns.getD i 0) (ns.length-1);rw[YN] at pv;obtain⟨t,rfl⟩:=ga g pv
   have up:∀ i,i<ns.length->ns.getD i 0∈ns:=λi hi=>by
    rw[V6,V1 hi];exact Xf hi
   refine⟨.int _,H,I.kept λb o q=>kp b o (λz=>?_) (VS _ q),⟨t,rfl⟩,D _ (up _ (by omega)) λx J=>?_⟩
   · have a:b=s.heap.objs.size:=by simpa using z
     exact absurd (VX q) (by rw[a]; exact WC _)
   · obtain⟨j,M,rfl⟩:=X5 J
     have:=S j (by omega)
     rwa [show ns.getD j 0=ns[j] by rw[V6,V1 M]; rfl] at this
def dd(ns:List Int):List Int:=ns.foldl step_dedup []
theorem zo(ns:List Int):(List.range ns.length).map (λi=>ns.getD i 0)=ns:=by
 apply Yl;intro i;rw[Wj];by_cases h:i<ns.length
 ·rw[X6 h,V1 h,Xl,V6,V1 h];rfl
 ·rw[Wd (by rw[XS]; omega),Wd (by omega)];rfl
theorem xM(ns:List Int):firstMet (λi=>ns.getD i 0) ns.length=dd ns:=by
 unfold firstMet dd;rw[zo]
theorem M6:∀ (ns acc:List Int),ns.Nodup->(∀ x∈ns,x∉acc)->ns.foldl step_dedup acc=acc++ns
 |[],acc,_,_=>by rw[List.foldl_nil,Wp]
 | n::r,acc,h,hd=>by
   have c:=List.nodup_cons.mp h
   have e:step_dedup acc n=acc++[n]:=by
    unfold step_dedup;rw[if_neg];intro z;obtain⟨y,d,e⟩:=List.any_eq_true.mp z;have a:y=n:=by simpa using e
    subst a;exact hd y VP d
   rw[List.foldl_cons,e,M6 r (acc++[n]) c.2 λx b z=>?_,WH]
   ·rfl
   · rcases List.mem_append.mp z with z|z
     ·exact hd x (VR _ b) z
     · have a:x=n:=by simpa using z
       subst a;exact c.1 b
theorem Jc{ns:List Int}(h:ns.Nodup):dd ns=ns:=by
 unfold dd;rw[M6 ns [] h λ_ _ z=>nomatch z];rfl
section
variable{X:Cx}
theorem EB(i:X.calm=true):dJ X (.type "set") (λxs H Q=>∃ p ns,xs=[.ref p]/\SqL X.K H p (ns.map V.int)/\ns.length<4000/\∀ q,H q=none->Q (.ref q) (upd H q (.set (λk=>(dd ns).any (·==k)) (dd ns).length))):=by
 intro G s Z H xs us Q I r h;obtain⟨p,ns,rfl,g,l,q⟩:=h;obtain⟨u,rfl,f⟩:=Vals.one r;have a:u=Value.ref p:=f;subst a;obtain⟨its,c,pl,hz⟩:=I.list g;have ln:its.length=ns.length:=by rw[<-c.length,VN]
 refine PySem.call_set_list (ns:=ns) (I.ok.hd i) pl.isList (by simpa using rA c) (by rw[List.size_toArray,ln]; unfold scanBound; omega) λh' j d kp=>?_;have es:its.toArray.size=ns.length:=by rw[List.size_toArray,ln]
 rw[es,xM] at d;exact⟨.ref s.heap.objs.size,_,I.laid (o:= .set _ _) (λb o e=>kp b o (VX e) e) (VW _) d,rfl,q _ (I.hok.fresh (VW _))⟩
theorem EF:dJ X (.builtin "len") (λxs H Q=>∃ a S n,xs=[.ref a]/\H a=some (.set S n)/\Q (.int n) H):=by
 intro G s Z H xs us Q I r h;obtain⟨a,S,n,rfl,i,q⟩:=h;obtain⟨u,rfl,c⟩:=Vals.one r;have b:u=Value.ref a:=c;subst b;obtain⟨o,es,ep,t,d,hex,hd,_,_,g,f,e⟩:=(show s.heap.SetOf (intKind X.prog X.w) a S n from I.hok a _ i);refine call_len_set d hex hd f (Int.lt_of_lt_of_le (Int.ofNat_lt.mpr g) (by unfold scanBound; decide)) ?_;rw[e];exact⟨.int n,H,I.tok _,⟨_,rfl⟩,q⟩
end
def RawD(h:Heap)(d:Addr)(es:Array DictEntry)(ep:Nat):Prop:=∃ o,h.get? d=some o/\o.ExactDict/\o.data= .dict es ep
section
variable{prog:Program}{w:World}{A:Around}{E:L3}{s:Shared}{d it:Addr}{es:Array DictEntry}{ep i:Nat}
theorem RawD.typeIs(x:RawD s.heap d es ep):s.TypeIs (.ref d) "dict" := by
 obtain⟨o,b,a,_⟩:=x;exact⟨o,b,a.1⟩
theorem Gn{Q:L3}(c:(d==sysModules)=false)(x:RawD s.heap d es ep)
 (e:Q (.ref s.heap.objs.size) {s with heap:=s.heap.push {cls:= .type "dict_keyiterator",data:= .fields #[.ref d,.int 0 0,.int es.size 0,.int ep 0]}}):wpAny (model prog w) A (pyIter (.ref d)) Q E s:=by
 have a:=x.typeIs;obtain⟨o,b,f,hd⟩:=x;refine wpAny_pyIter_slot a PySem.F.slot_dict_iter (wpAny_call_entry PySem.F.slot_dict_iter a PySem.F.entry_dict_iter ?_ (PySem.F.args_dict_iter_1 _));unfold Builtin.«dict.__iter__» Builtin.Dict.dictSlotNone;refine wpAny_bind (wpAny_bind (wpAny_notOrdered_dict a (wpAny_pure ?_)));refine wpAny_bind (m:=Builtin.Dict.showsAll d) ?_;unfold Builtin.Dict.showsAll;rw[if_neg (by rw[c]; exact Bool.false_ne_true)];refine wpAny_pure (wpAny_bind (wpAny_dictEntries b hd (wpAny_bind (wpAny_dictEpoch b hd ?_))));exact wpAny_bind (wpAny_newObj_type (wpAny_pure ⟨_,rfl, "dict_keyiterator",_,⟨_,Heap.get?_push_size _ rfl,rfl⟩,PySem.F.slot_dict_keyiterator_next.lookup,e⟩))
theorem Go{Q:Option Value->Shared->Prop}(a:s.heap.IsKeyIter it d i es.size ep)(x:RawD s.heap d es ep)(g:i<es.size)
 (j:∀ h',h'.IsKeyIter it d (i+1) es.size ep->Heap.SameBut it s.heap h'->Q (some es[i].key) {s with heap:=h'}):wpAny (model prog w) A (pyNext (.ref it)) Q E s:=by
 obtain⟨o,f,h,hd⟩:=id a;obtain⟨k,c,_,e⟩:=id x;unfold pyNext;refine wpAny_bind (wpAny_attempt (wpAny_callSpecial?_slot (name:=Str.ofString "__next__") a.typeIs PySem.F.slot_dict_keyiterator_next (wpAny_call_entry PySem.F.slot_dict_keyiterator_next a.typeIs PySem.F.entry_dict_keyiterator_next ?_ (PySem.F.args_dict_keyiterator_next_1 _))));refine wpAny_bind (wpAny_pure (wpAny_bind (wpAny_bind ?_)))
 first | refine VO (WX a.typeIs (VY ?_)) | refine VO (Xb a.typeIs (VY ?_))
 refine VO (wpAny_fieldsOf f hd ?_);simp only[show Builtin.Dict_items.ownsTuple "dict_keyiterator" = false from by decide,W4,XM];show wpAny _ _ (if (Value.ref d==Value.none)=true then _ else _) _ _ s;rw[VM (show ¬ ((Value.ref d==Value.none)=true) from V0)];refine VO (VY (VO (Ym c e ?_)));rw[VM (by simp)];refine VO (VY (VO (wpAny_dictEpoch c e ?_)));rw[VM (by simp)];refine VY ?_;simp only[show ¬ ((i:Int)<0) from by omega,XM,Int.toNat_natCast,Wu g];refine VO ?_
 first | refine VO (WX a.typeIs (VY ?_)) | refine VO (Xb a.typeIs (VY ?_))
 refine VO (wpAny_isOneOf_keyiter a.typeIs ?_);refine VO (m:=setField (.ref it) 1 (rawInt ((i:Int)+1))) (wpAny_setField f hd (by simp) ?_)
 have b:(s.heap.update it (Obj.mapFields (·.setIfInBounds 1 (rawInt ((i:Int)+1))))).IsKeyIter it d (i+1) es.size ep:=
  ⟨_,WJ _ f (Obj.isFreed_of_fields (Obj.data_mapFields hd _)),(Obj.cls_mapFields ..).trans h,by rw[Obj.data_mapFields hd]; simp[rawInt]⟩
 refine VO (Xa ?_);refine VO (wpAny_isOneOf_keyiter (s:={s with heap:=s.heap.update it (Obj.mapFields (·.setIfInBounds 1 (rawInt ((i:Int)+1))))}) b.typeIs ?_);exact VY (VY ⟨_,rfl,VY (j _ b (Xd ..))⟩)
theorem La{Q:Option Value->Shared->Prop}(h:A.handled=none)(c:s.heap.IsKeyIter it d es.size es.size ep)(x:RawD s.heap d es ep)
 (i:∀ h',Heap.ExtBut it s.heap h'->Q none {s with heap:=h'}):wpAny (model prog w) A (pyNext (.ref it)) Q E s:=by
 obtain⟨o,g,k,hd⟩:=id c;obtain⟨j,e,_,f⟩:=id x;unfold pyNext;refine wpAny_bind (wpAny_attempt (wpAny_callSpecial?_slot (name:=Str.ofString "__next__") c.typeIs PySem.F.slot_dict_keyiterator_next (wpAny_call_entry PySem.F.slot_dict_keyiterator_next c.typeIs PySem.F.entry_dict_keyiterator_next ?_ (PySem.F.args_dict_keyiterator_next_1 _))));refine wpAny_bind (wpAny_pure (wpAny_bind (wpAny_bind ?_)))
 first | refine VO (WX c.typeIs (VY ?_)) | refine VO (Xb c.typeIs (VY ?_))
 refine VO (wpAny_fieldsOf g hd ?_);simp only[show Builtin.Dict_items.ownsTuple "dict_keyiterator" = false from by decide,W4,XM];show wpAny _ _ (if (Value.ref d==Value.none)=true then _ else _) _ _ s;rw[VM (show ¬ ((Value.ref d==Value.none)=true) from V0)];refine VO (VY (VO (Ym e f ?_)));rw[VM (by simp)];refine VO (VY (VO (wpAny_dictEpoch e f ?_)));rw[VM (by simp)];refine VY ?_;simp only[show ¬ ((es.size:Int)<0) from by omega,XM,Int.toNat_natCast,YD (VW _)];refine VO ?_
 first | refine VO (WX c.typeIs (VY ?_)) | refine VO (Xb c.typeIs (VY ?_))
 refine VO (m:=setField (.ref it) 0 .none) (wpAny_setField g hd (by simp) ?_);refine VO (m:=newExc (.type "StopIteration") []) ?_;simp only[newExc,newTuple];refine VO (XQ ?_ (by size_fits));refine VO (m:=firstArgMember _ _) (wpAny_of_eq (a:=Value.none) (by first | rfl | (simp only[firstArgMember]; rfl)) ?_);refine XQ ?_ (by size_fits);simp only[raiseNew];refine VO (wpAny_handled ?_);rw[show A.in1.handled=none from h];refine VO (VY (wpAny_throw ?_));refine VO (wpAny_isInstance (T := "StopIteration") (b:=true) ⟨_,V3 _ rfl,rfl⟩ isSubtype_stop ?_);exact VY (i _ (((Xd ..).extBut.push _).push _))
theorem DQ(n:A.handled=none)(I d:Addr)(k:d≠I)(es:Array DictEntry)(ep:Nat):
 Walks prog w A I [I,d] [I] es.size (λi v=>∃ e,es[i]?=some e/\v=e.key) (λi h=>h.IsKeyIter I d i es.size ep/\RawD h d es ep) where
 sub:=λb f=>by
  have e:b=I:=by simpa using f
  rw[e];exact VP
 frame:=λ_ _ _ st m=>⟨st.1.at λo e=>m I (by simp) o e,let ⟨o,j,r⟩:=st.2; ⟨o,m d (by simp) o j,r⟩⟩
 item:=λi s Q E hi st g=>Go st.1 st.2 hi λh' c a=>by
  obtain⟨o,j,r⟩:=st.2;exact g _ h' s.toks ⟨es[i],Wu hi,rfl⟩ ⟨c,o,a.extBut d o k j,r⟩ λb o f e=>a.extBut b o (λz=>f (by simp[z])) e
 done:=λs Q E st g=>La n st.1 st.2 λh' l=>g h' s.toks λb o f e=>l b o (λz=>f (by simp[z])) e
 self:=λ_ _ _ _ st g=>wpAny_pyIter_keyiter st.1 g
theorem Bx(lo:(d==sysModules)=false):PySem.W.KdlSrc prog w "dict" d d es.size (λi v=>∃ e,es[i]?=some e/\v=e.key) (λh=>RawD h d es ep) where
 type:=λ_ x=>x.typeIs
 there:=λ_ x=>let ⟨_,a,_⟩:=x; ⟨VX a,VX a⟩
 keep:=λ_ _ x c=>let ⟨o,a,r⟩:=x; ⟨o,c d (.inl rfl) o a,r⟩
 notList:=by decide
 notTuple:=by decide
 hint:=λ_ _ _ _ x b=>PySem.W.kdl_hint_dict x.typeIs b
 iter:=λ_ _ f x=>⟨_,_,(λ_ _ b=>Gn lo x b),DQ f _ d (let ⟨_,a,_⟩:=x; Wc (VX a)) es ep,⟨⟨_,V3 _ rfl,rfl,rfl⟩,let ⟨o,a,r⟩:=x; ⟨o,VS _ a,r⟩⟩⟩
end
theorem ug{P:Program}{w:World}{x:List b6×Addr×Value}:(entryOfKey (tupleKind (bF P w)) x).key= .ref x.2.1:=rfl
theorem iu{X:Cx}(Y:X.calm=true):dJ X (.type "list") (λxs H Q=>∃ a d,xs=[.ref a]/\Rd H a (.dT d)/\
 ∀ (ks:List Addr) (l:Addr),ks.length=d.length->(∀ (i:Nat) k v b,d[i]?=some (k,v)->ks[i]?=some b->H b=some (.tup (k.map kV)))->H l=none->Q (.ref l) (upd H l (.lst (ks.map V.ref)))):=by
 intro G s Z H xs us Q I r h;obtain⟨a,d,rfl,ha,q⟩:=h;obtain⟨u,rfl,O⟩:=Vals.one r;have J:u=Value.ref a:=O;subst J;obtain⟨z,hd,ys,A,o,es,ep,S,P,E,C,T⟩:=(show ObjOk X.prog X.w H s.heap a (.dT d) from ha.ok I.hok);have f:d.length=ys.length:=Xn A
 have j:es.size=ys.length:=by
  have e:=congrArg List.length C
  rwa [VN,Wr] at e
 refine PySem.W.kdl_call (Bx hd) (I.ok.hd Y) ⟨o,S,P,E⟩ (by rw[j,<-f]; exact z) λh' tk c c' kp hD g=>?_
 have keys:c.toList=(ys.map λy=>y.2.1).map Value.ref:=by
  apply Yl;intro i;rw[Wj,Wj];cases n:ys[i]? with
  |none=>
    have hi:ys.length<=i:=List.getElem?_eq_none_iff.mp n;rw[Wd (by rw[Wr,g.1]; omega)];rfl
  |some y=>
    have hi:i<ys.length:=(List.getElem?_eq_some_iff.mp n).1;have B:i<c.size:=by rw[g.1,j]; exact hi
    obtain⟨e,U,R⟩:=g.2 i c[i] (Wu B);have D:es.toList[i]?=some e:=by rw[WI]; exact U
    rw[C,Wj,n] at D;have ee:entryOfKey (tupleKind (bF X.prog X.w)) y=e:=Wh D;rw[WI,Wu B,R,<-ee,ug];rfl
 have N:∀ l:List Addr,Vals (l.map V.ref) (l.map Value.ref):=λl=>by
  induction l with
  |nil=>exact .nil
  |cons x t M=>exact .cons rfl M
 refine⟨.ref s.heap.objs.size,_,I.laid kp (VW _) ?_,rfl,q (ys.map λy=>y.2.1) _ (by rw[VN]; exact f.symm) (λi k v b F m=>?_) (I.hok.fresh (VW _))⟩
 ·refine⟨by rw[VN,VN,<-f]; exact z,c.toList,c',by rw[keys]; exact N _,?_⟩;rw[Array.toArray_toList];exact hD
 · rw[Wj] at m;cases n:ys[i]? with
   |none=>rw[n] at m; cases m
   |some y=>
     rw[n] at m;have eb:y.2.1=b:=Wh m
     have pr:∀ {L:List (List b6×V)} {K:List (List b6×Addr×Value)},Paired (λ(p:List b6×V) (q:List b6×Addr×Value)=>p.1=q.1/\H q.2.1=some (.tup (p.1.map kV))/\RelV p.2 q.2.2) L K->
      ∀ {i:Nat} {p q},L[i]?=some p->K[i]?=some q->H q.2.1=some (.tup (p.1.map kV)):=by
      intro L K hp
      induction hp with
      |nil=>intro i p q e; cases e
      |cons h1 _ M=>
        intro i p q F m;cases i with
        |zero=>cases F; cases m; exact h1.2.1
        |succ i=>exact M F m
     rw[<-eb];exact pr A F n
theorem fT:∀ xs:List Int,HT.cQ xs xs=false
 |[]=>rfl
 |x::xs=>by rw[HT.dC,on rfl,fT xs]
end L2
namespace Gd
open PySem L2
theorem d7:bootBuiltins "len" = some (.builtin "len"):=by decide +kernel
theorem tm:bootBuiltins "min" = some (.builtin "min"):=by decide +kernel
theorem k7:bootBuiltins "max" = some (.builtin "max"):=by decide +kernel
theorem f9:bootBuiltins "isinstance" = some (.builtin "isinstance"):=by decide +kernel
theorem jp:bootBuiltins "sorted" = some (.builtin "sorted"):=by decide +kernel
theorem QK:bootBuiltins "set" = some (.type "set"):=by decide +kernel
theorem gO:bootBuiltins "list" = some (.type "list"):=by decide +kernel
theorem nC:bootBuiltins "tuple" = some (.type "tuple"):=by decide +kernel
theorem L6:bootBuiltins "bool" = some (.type "bool"):=by decide +kernel
theorem J9:bootBuiltins "int" = some (.type "int"):=by decide +kernel
theorem AC:bootBuiltins "str" = some (.type "str"):=by decide +kernel
theorem wL{H H':Hp}{q:Addr}{o:HO}(h:H q=none)(e:Same H H'):Same H (upd H' q o):=λb u z=>by
 rw[bc (bD z h)];exact e b u z
theorem ce{H:Hp}{q:Addr}{o:HO}(h:H q=none):Same H (upd H q o):=wL h (Same.refl H)
def iK(e:PySem.Expr):Scope:=match e with
 |.ListComp _ _ sc _=>sc
 |_=>{kind:= .function,names:=[],isGenerator:=false,isCoroutine:=false,more:=[]}
def oX(s:Stmt):PySem.Expr:=match s with
 |.Assign _ v _=>v
 |.Return (some v) _=>v
 |.Expr v _=>v
 |.For _ a _ _ _=>a
 |.If t _ _ _=>t
 |_=> .Constant .none 0 ⟨0,0,0,0⟩
def Nl(s:Stmt):List Stmt:=match s with
 |.For _ _ b _ _=>b
 |.If _ b _ _=>b
 |.While _ b _ _=>b
 |_=>[]
def nth(l:List Stmt)(i:Nat):Stmt:=l.getD i (.Pass ⟨0,0,0,0⟩)
abbrev AL:=List (List Int×Int)
abbrev kI(k:List Int):List b6:=k.map Sum.inl
def bL(D:AL):List (List b6×V):=D.map λp=>(kI p.1,V.int p.2)
def look(D:AL)(k:List Int):Option Int:=(D.find? λp=>decide (p.1=k)).map (·.2)
def But(c:Addr)(H H':Hp):Prop:=∀ b o,H b=some o->b≠c->H' b=some o
theorem But.seq{K:L0}{c a:Addr}{H H':Hp}{xs:List V}{b:List (List b6×V)}(d:H c=some (.dT b))(e:But c H H')(h:SqL K H a xs):SqL K H' a xs:=by
 rcases h with (h|⟨o,h⟩)|h
 ·exact .inl (.inl (e _ _ h (BO h d (by intro z; cases z))))
 ·exact .inl (.inr ⟨o,e _ _ h (BO h d (by intro z; cases z))⟩)
 ·exact .inr h
end Gd
namespace HR
open PySem MeetsSeq
theorem u5(l:Addr)(items:Array Value)(n:Nat)(x:Value)(e:Nat->Bool)(j:Nat)(hj:j<items.size)(hit:e j=true)(hs1:items.size<=sizeLine)(k:Nat):
 ∀ i:Nat,j-i=k->i<=j->(∀ m,i<=m->m<j->e m=false)->Meets (Builtin.«list.remove.loop» ⟨[.ref l,x,rawInt i],[]⟩)
  (λA R s=>s.heap.get? l=some {cls:= .type "list",dict:=none,data:= .seq items n,slots:=#[]}/\(∀ m (h:m<items.size),m<=j->SeqAt.EqAt A.in1 s items[m] x (e m))/\
    R (.ok (.ret .none)) {s with heap:=s.heap.update l (Obj.mapSeq λxs=>xs.eraseIdxIfInBounds j)}):=by
 induction k with
 |zero=>
   intro i hk hij hno prog w A R s h;obtain⟨hp,g,d,tk,os⟩:=s; obtain⟨hl,he,h⟩:=h;have hij':i=j:=by omega
   subst hij'
   wp_walk using wpAny_loadPart' hl
   have hi:items[((i:Nat):Int).toNat]?=some items[i]:=by simp[hj]
   rw[hi];refine VO (he i hj (VW _) prog w _ _ ?_);rw[hit];have hz':(items.eraseIdxIfInBounds i).size<=sizeLine+1:=V4 (size_erased items _) (Nat.le_succ_of_le hs1)
   wp_walk using(wpAny_updateSeq hl rfl (hz:=hs1) (_hz':=hz')),wpAny_loadPart' hl
   simpa using h
 |succ k ih=>
   intro i hk hij hno prog w A R s h;obtain⟨hp,g,d,tk,os⟩:=s; obtain⟨hl,he,h⟩:=h;have hlt:i<items.size:=by omega
   wp_walk using wpAny_loadPart' hl
   have hi:items[((i:Nat):Int).toNat]?=some items[i]:=by simp[hlt]
   have hc:((i:Int)+1)=((i+1:Nat):Int):=by push_cast; rfl
   rw[hi];refine VO (he i hlt hij prog w _ _ ?_);rw[hno i (VW _) (by omega)]
   wp_walk
   rw[hc]
   exact⟨WW plain_remove_loop _,WY entry_remove_loop (by
    rw[WB plain_remove_loop _]
    exact ih (i+1) (by omega) (by omega) (λm h1 h2=>hno m (by omega) h2) prog w A R _ ⟨hl,he,h⟩)⟩
theorem vk(l:Addr)(items:Array Value)(n:Nat)(x:Value)(e:Nat->Bool)(j:Nat)(hj:j<items.size)
 (hit:e j=true) (hno:∀ m,m<j->e m=false) (hs1:items.size<=sizeLine):
 Meets (Builtin.«list.remove» ⟨[.ref l,x],[]⟩)
  (λA R s=>s.heap.get? l=some {cls:= .type "list",dict:=none,data:= .seq items n,slots:=#[]}/\(∀ m (h:m<items.size),m<=j->SeqAt.EqAt A.in1 s items[m] x (e m))/\
    R (.ok (.ret .none)) {s with heap:=s.heap.update l (Obj.mapSeq λxs=>xs.eraseIdxIfInBounds j)}):=by
 intro prog w A R s h;obtain⟨hp,g,d,tk,os⟩:=s; obtain⟨hl,he,h⟩:=h
 wp_walk using wpAny_loadPart' hl
 exact⟨WW plain_remove_loop _,WY entry_remove_loop (by
  rw[WB plain_remove_loop _]
  exact u5 l items n x e j hj hit hs1 _ 0 rfl (WP _) (λm _ h2=>hno m h2) prog w A R _ ⟨hl,he,h⟩)⟩
end HR
namespace L2
open PySem PySem.Spec PyProof.Rows
theorem pp{W X:Type}[DecidableEq W]{k:W}:∀ {xs:List (W×X)},k∉xs.map (·.1)->(xs.filter λx=>decide (x.1≠k))=xs
 |[],_=>rfl
 | x::r,h=>by
   rw[VQ,W3,not_or] at h;rw[WG,on (by simpa using Xv h.1),pp h.2]
theorem nh{W X:Type}[DecidableEq W]{k:W}:∀ {xs:List (W×X)} {j:Nat} {p:X},(xs.map (·.1)).Nodup->xs[j]?=some (k,p)->xs.eraseIdx j=xs.filter λx=>decide (x.1≠k)
 |[],j,p,_,h=>by simp at h
 | x::r,0,p,a,h=>by
   simp at h;subst h;rw[VQ,List.nodup_cons] at a;rw[WG,VM (by simp),pp a.1];rfl
 | x::r,j+1,p,a,h=>by
   rw[VQ,List.nodup_cons] at a;have h':r[j]?=some (k,p):=by simpa using h
   have:x.1≠k:=λz=>a.1 (by rw[z]; exact List.mem_map.mpr ⟨(k,p),W6 h',rfl⟩)
   rw[WG,on (by simpa using this),Wt,nh a.2 h']
theorem ue{W X:Type}{f:W->X}:∀ {l:List W} {j:Nat},(l.map f).eraseIdx j=(l.eraseIdx j).map f
 |[],_=>rfl
 |_::_,0=>rfl
 |x::r,j+1=>by rw[VQ,Wt,Wt,VQ,ue]
theorem KT.drop{H:Hp}{a:List (List b6×V)}{xs:List (List b6×Addr×Value)}(r:KT H a xs)(k:List b6):KT H (pw a k) (xs.filter λx=>decide (x.1≠k)):=by
 induction r with
 |nil=>exact .nil
 |@cons p q ps c h t b=>
   unfold pw at b ⊢;rw[List.filter_cons,List.filter_cons];by_cases e:p.1=k
   ·rw[VM (by simp[e]),VM (by simp[h.1.symm.trans e])];exact b
   ·rw[on (by simpa using e),on (by simpa using λz=>e (h.1.trans z))];exact .cons h b
section
variable{X:Cx}{G:L1}{Z:St}{H:Hp}{s:Shared}{a b:Addr}{kvs:List (List b6×V)}{k:List b6}{v:V}{A:Around}{E:L3}
theorem Qf{Q:L3}(P:A.units+1<cLine)(I:Inv X G Z H s)(e:H a=some (.dT kvs))(U:H b=some (.tup (k.map kV)))(l:km kvs k=some v)
 (h:∀ n L,Inv X G Z (upd H a (.dT (pw kvs k))) L->RelV v n->Q n L):wpAny (model X.prog X.w) A (call (.builtin "dict.pop") [.ref a,.ref b]) Q E s:=by
 obtain⟨z,hd,xs,i,dd⟩:=M5 I.hok e;have hz:xs.length<=sizeLine:=by rw[<-Xn i]; exact z
 have g:=kO I.hok U;have f:=tupleKind_room_in1 (knd:=bF X.prog X.w) P;have M:=dd.typeIs;obtain⟨o,es,ep,m,T,d,u,J,t⟩:=dd;obtain⟨n,r,x⟩:=RelO.some_of (v:=v) (o:=(atKey xs k).map (·.2)) (by rw[<-l]; exact i.val k);have S:es.size=xs.length:=size_of_entries u;refine wpAny_call_entry PySem.F.slot_dict_pop M PySem.F.entry_dict_pop ?_ (PySem.F.args_dict_pop_2 _ _);unfold Builtin.«dict.pop»;refine wpAny_bind ?_;unfold Builtin.Dict.keyAndDefault;refine wpAny_bind (wpAny_notOrdered_dict M ?_);show wpAny _ _ (pure (a,Value.ref b,none)) _ _ s;refine wpAny_pure ?_;dsimp only;rw[if_neg (by simp[keyPart])];refine wpAny_bind (wpAny_dictEntries m d ?_);refine wpAny_bind (wpAny_pure ?_)
 have C:es.isEmpty=false:=by
  cases q:es.isEmpty with
  |false=>rfl
  |true=>
    have:xs=[]:=by
     have V:es.size=0:=by simpa using q
     exact List.length_eq_zero_iff.mp (by omega)
    subst this;cases r
 rw[C,if_neg Bool.false_ne_true];refine wpAny_bind ?_;unfold Builtin.Dict.takeOut
 try with_reducible refine Xa ?_
 refine VO ((tupleKind (bF X.prog X.w)).pyHash f g ?_);refine VO (wpAny_dictFind_heap (knd:=tupleKind (bF X.prog X.w)) (s:={s with toks:=s.toks+(tupleKind (bF X.prog X.w)).draws k}) f g m d u J t ?_ ?_)
 ·intro B;rw[atKey_none_of_get B] at r;cases r
 · intro j p D;have hp:atKey xs k=some p:=atKey_of_get t D;rw[hp] at r;have y:p.2=n:=Wh r;refine VO (Ym (s:={s with toks:=s.toks+(tupleKind (bF X.prog X.w)).draws k}) m d ?_);rw[entry_at u j,D];refine VO (wpAny_updateDictKeys (hz:=by omega) (s:={s with toks:=s.toks+(tupleKind (bF X.prog X.w)).draws k}) m d (VY ?_));rw[VM (by simp)];refine VO (W7 (VY ⟨_,rfl,?_⟩));show Q p.2 _;rw[y];refine h n _ ?_ x;have R:=Xd s.heap a (Obj.mapDictKeys λes=>es.eraseIdxIfInBounds j);refine vI (s:=s) (t':=s.toks+(tupleKind (bF X.prog X.w)).draws k) I (by rw[e]; exact True.intro) R ⟨_,WJ _ m (Obj.isFreed_of_dict (X0 d _))⟩ ⟨V4 (IZ kvs k) z,hd,_,(i.drop k).keeps λc ys O=>?_,_,_,ep+1,WJ _ m (Obj.isFreed_of_dict (X0 d _)),T.mapDictKeys _,X0 d _,?_,?_⟩
   ·rw[bc (BO O e (λz=>nomatch z))];exact O
   ·rw[<-nh t D];obtain⟨N⟩:=es;have K:N=xs.map (entryOfKey (tupleKind (bF X.prog X.w))):=u;rw[Xc];show N.eraseIdx j=_;rw[K];exact ue
   ·exact(t.sublist ((List.filter_sublist).map _))
end
theorem x9{K:L0}{H:Hp}:∀ {ds:List PyData} {xs:List V} {m:Nat} {x:V},Dens K H ds xs->xs[m]?=some x->∃ d,ds[m]?=some d/\Den K H d x
 | [],xs,m,x,h,e=>by
   rw[Dens] at h;subst h;cases e
 | d::ds,xs,m,x,h,e=>by
   rw[Dens] at h;obtain⟨y,r,rfl,b,a⟩:=h;cases m with
   |zero=>
     cases e;exact⟨d,rfl,b⟩
   |succ m=>exact x9 (m:=m) a e
theorem x8{K:L0}{H:Hp}:∀ {ds:List PyData} {xs:List V},Dens K H ds xs->ds.length=xs.length
 |[],xs,h=>by rw[Dens] at h; subst h; rfl
 | d::ds,xs,h=>by
   rw[Dens] at h;obtain⟨y,r,rfl,b,a⟩:=h;rw[VU,VU,x8 a]
def Bz(K:L0):V->List V->Hp->VK->Prop:=λx vs H Q=>∃ l xs y d ds j,x= .ref l/\vs=[y]/\H l=some (.lst xs)/\Den K H d y/\Dens K H ds xs/\SeqAt.shaped d=true/\(∀ z∈ds,SeqAt.shaped z=true)/\j<ds.length/\
 (∀ m e,ds[m]?=some e->m<=j->PyData.eqv e d=decide (m=j))/\Q .non (upd H l (.lst (xs.eraseIdx j)))
theorem D2{X:Cx}(S:X.A.units+66<cLine):Vl X "list.remove" (Bz X.K):=by
 intro G s Z H x vs v us Q I D E h;obtain⟨l,xs,y,d,ds,j,rfl,rfl,t,hd,b,C,a,U,k,q⟩:=h;cases D;obtain⟨u,rfl,J⟩:=E.one;obtain⟨z,its,n,r,T,e⟩:=I.lstM t;have ln:=x8 b
 refine XW Yq ⟨_,e,rfl⟩ PySem.F.entry_list_remove (PySem.F.args_list_remove_2 _ _)
  (HR.vk l its.toArray n u (λm=>decide (m=j)) j (by rw[VZ]; omega) (by simp) (λm i=>by simpa using Wc i) (by rw[VZ]; omega)) ⟨e,λm i f=>?_,?_⟩
 · have g:m<its.length:=by simpa using i
   have p:xs[m]?=some xs[m]:=V1 (by omega);obtain⟨c,o,P⟩:=x9 b p;obtain⟨B,w,L⟩:=r.get p
   have O:its.toArray[m]=B:=by
    rw[V1 g] at w;simpa using w
   rw[O,<-k m c o f];obtain⟨R,N⟩:=den_reads I c P L;obtain⟨bs,M⟩:=den_reads I d hd J;exact SeqAt.eqAt_reads _ _ X.A.in1 s _ _ R bs N M (SeqAt.canLay_of_shaped (a c (W6 o))) (SeqAt.canLay_of_shaped C) (SeqAt.room_of_shaped (a c (W6 o)) (by show X.A.units+1+64<cLine; omega))
 · refine⟨.non,_,I.lset (its':=its.eraseIdx j) t e ?_ (r.eraseIdx j) ?_,rfl,q⟩
   ·show its.toArray.eraseIdxIfInBounds j=(its.eraseIdx j).toArray;rw[Xc]
   · have:=oo xs j
     omega
def Fd(e ty:TE):TE:=λZ H Q=>e Z H λx L=>∃ a,x= .ref a/\UT L a/\ty Z L λy d=>∃ c k b v,d a=some (.dT c)/\y= .ref b/\d b=some (.tup (k.map kV))/\km c k=some v/\Q v (upd d a (.dT (pw c k)))
theorem wZ{X:Cx}{o e:Expr}{f c:Pos}{i ty:TE}(D:X.A.units+1<cLine)(E:PE X o i)(J:PE X e ty)(m:M1 X o "pop" f e c):PE X (.Call (.Attribute o "pop" f) [e] [] c) (Fd i ty):=by
 intro G s Z H Q I h;refine wpAny_Call_method m.base m.few m.line Yt PySem.F.slot_dict_pop PySem.F.type_dict_pop (b8 (E G s Z H _ I h) λu q ⟨x,L,j,t,a,ex,d,z⟩=>?_);subst ex;obtain rfl:u=Value.ref a:=t;obtain⟨p,n,_⟩:=IF j d;refine⟨p,n,?_⟩;rw[m.trees];refine XJ rfl (XZ (XE (b8 (J G q Z L _ j z) λC s2 ⟨y,T,P,r,B,k,b,v,N,K,M,l,w⟩=>Yj ?_)));subst K;obtain rfl:C=Value.ref b:=r;exact Qf D P N M l λR S O g=>⟨v,_,O,g,w⟩
theorem qp:∀ {bs:List Bool} {us:List Value} {i:Nat} {u:Value},Vals (bs.map V.bl) us->us[i]?=some u->u= .bool (bs.getD i false)
 | [],us,i,u,r,e=>by
   cases r;cases e
 | b::bs,us,i,u,r,e=>by
   rw[VQ] at r;cases r with
   |cons c a=>
     cases i with
     |zero=>
       cases e;exact c
     |succ i=>
       show u= .bool (bs.getD i false);exact qp (bs:=bs) (i:=i) a (by simpa using e)
theorem qG(bs:List Bool):((List.range bs.length).any λi=>bs.getD i false)=bs.any id:=by
 induction bs with
 |nil=>rfl
 |cons b bs a=>
   rw[VU,YF,XY,List.any_map,XY,<-a];rfl
theorem EI{X:Cx}(t:X.calm=true):dJ X (.builtin "any") (λxs H Q=>∃ p,∃ bs:List Bool,xs=[.ref p]/\SqL X.K H p (bs.map V.bl)/\Q (.bl (bs.any id)) H):=by
 intro G s Z H xs us Q I r h;obtain⟨p,bs,rfl,n,q⟩:=h;obtain⟨u,rfl,l⟩:=Vals.one r;have c:u=Value.ref p:=l;subst c;obtain⟨its,j,pl,hz⟩:=I.list n;have ln:bs.length=its.length:=by rw[<-j.length,VN]
 obtain⟨m,a,g,f⟩:=id pl.isList;have d:p<s.heap.objs.size:=VX a;refine call_any_walk (XI pl.isList ⟨s.heap.objs.size,_,_,_,_,_,λi=>bs.getD i false,rfl,Walks.list (A:=X.A.in1) (I.ok.hd t) _ p (Wc d) its.toArray,⟨⟨_,V3 _ rfl,rfl,rfl⟩,⟨m,VS _ a,g,f⟩⟩,λi v B C D x w=>?_,λh' y kp=>?_⟩)
 ·have e:=qp j (i:=i) (u:=v) (by simpa using x);rw[e];exact WQ w
 · have e:((List.range its.toArray.size).any λi=>bs.getD i false)=bs.any id:=by
    rw[VZ,<-ln]; exact qG bs
   rw[e];refine⟨.bl _,H,I.kept λb o q=>kp b o (λz=>?_) (VS _ q),rfl,q⟩;have k:b=s.heap.objs.size:=by simpa using z
   exact absurd (VX q) (by rw[k]; exact WC _)
end L2
namespace Mi
open PySem L2
inductive D where
 |non|bl (b:Bool)|int (i:Int)|str (x:Str)|ty (n:String)
 |lst (xs:List D)|tup (xs:List D)|scr (xs:List D)
 |dK (ks:List b6) (vs:List D)|dT (ks:List (List b6)) (vs:List D)
 |obj (c:Nat) (ns:List Str) (vs:List D)
abbrev Env:=List (Option D)
inductive Res (W:Type) where
 |ok (a:W)|exc (c:Nat)|bad
inductive Out (W:Type) where
 |ok (a:W) (M:Env)|exc (c:Nat) (M:Env)|bad
inductive SO where
 |nx (M:Env)|rt (d:D) (M:Env)|bk (M:Env)|ct (M:Env)|exc (c:Nat) (M:Env)|bad
@[simp] def Res.bind{W X:Type}:Res W->(W->Res X)->Res X
 |.ok a,f=>f a
 |.exc c,_=> .exc c
 |.bad,_=> .bad
@[simp] def Res.calm{W:Type}:Res W->Res W
 |.ok a=> .ok a
 |_=> .bad
@[simp] def Out.bind{W X:Type}:Out W->(W->Env->Out X)->Out X
 |.ok a M,f=>f a M
 |.exc c M,_=> .exc c M
 |.bad,_=> .bad
@[simp] def Res.up{W:Type}(M:Env):Res W->Out W
 |.ok a=> .ok a M
 |.exc c=> .exc c M
 |.bad=> .bad
def rg{W:Type}(l:List (Option W))(i:Nat):Option W:=(l[i]?).join
@[simp] def vr(i:Nat):Env->Res D:=λM=>match rg M i with|some d=> .ok d|none=> .bad
def aI(d:D):Env->Res D:=λ_=> .ok d
def un(f:D->Res D)(a:Env->Res D):Env->Res D:=λM=>(a M).bind f
def bn(f:D->D->Res D)(a b:Env->Res D):Env->Res D:=λM=>(a M).bind λx=>(b M).bind λy=>f x y
def ak:Nat:=1000000
def iI(g:Int->Int->Int):D->D->Res D | .int i,.int j=> .ok (.int (g i j))|_,_=> .bad
def iB(g:Int->Int->Bool):D->D->Res D | .int i,.int j=> .ok (.bl (g i j))|_,_=> .bad
def iC(C:Int->Int->Bool)(g:Int->Int->Int):D->D->Res D | .int i,.int j=>if C i j=true then .ok (.int (g i j)) else .bad|_,_=> .bad
def jY:=iI λi j=>i+j
def mM:=iI λi j=>i-j
def qZ:=iC (λi j=>decide ((-(2 ^ 64)<i/\i<2 ^ 64)\/(-(2 ^ 64)<j/\j<2 ^ 64))) λi j=>i*j
def il:=iC (λ_ j=>decide (0<j/\j<1073741824)) λi j=>i / j
def dy:=iC (λ_ j=>decide (0<j)) λi j=>i%j
def DR:=iC (λi j=>decide (0<=j/\j<=1000000/\i.natAbs<2 ^ 64)) λi j=>i ^ j.toNat
def Ft:=iC (λ_ j=>decide (0<=j)) λi j=>i / 2 ^ j.toNat
def zB:=iI λi j=>if j<i then j else i
def tH:=iI λi j=>if j>i then j else i
def EY:=iB λi j=>decide (i<j)
def IL:=iB λi j=>decide (j<i)
def Vb:=iB λi j=>decide (j<=i)
@[simp] theorem UJ(i j:Int):jY (.int i) (.int j)= .ok (.int (i+j)):=rfl
@[simp] theorem Rw(i j:Int):mM (.int i) (.int j)= .ok (.int (i-j)):=rfl
@[simp] theorem Hk(i j:Int):qZ (.int i) (.int j)=if (-(2 ^ 64)<i/\i<2 ^ 64)\/(-(2 ^ 64)<j/\j<2 ^ 64) then .ok (.int (i*j)) else .bad:=by simp[qZ,iC]
@[simp] theorem Ej(i j:Int):il (.int i) (.int j)=if 0<j/\j<1073741824 then .ok (.int (i / j)) else .bad:=by simp[il,iC]
@[simp] theorem Hm(i j:Int):dy (.int i) (.int j)=if 0<j then .ok (.int (i%j)) else .bad:=by simp[dy,iC]
@[simp] theorem Gz(i j:Int):DR (.int i) (.int j)=if 0<=j/\j<=1000000/\i.natAbs<2 ^ 64 then .ok (.int (i ^ j.toNat)) else .bad:=by simp[DR,iC]
@[simp] theorem Fs(i j:Int):Ft (.int i) (.int j)=if 0<=j then .ok (.int (i / 2 ^ j.toNat)) else .bad:=by simp[Ft,iC]
@[simp] theorem TB(i j:Int):zB (.int i) (.int j)= .ok (.int (if j<i then j else i)):=rfl
@[simp] theorem TF(i j:Int):tH (.int i) (.int j)= .ok (.int (if j>i then j else i)):=rfl
@[simp] theorem U7(i j:Int):EY (.int i) (.int j)= .ok (.bl (decide (i<j))):=rfl
@[simp] theorem U9(i j:Int):IL (.int i) (.int j)= .ok (.bl (decide (j<i))):=rfl
@[simp] theorem Va(i j:Int):Vb (.int i) (.int j)= .ok (.bl (decide (j<=i))):=rfl
def Lr:D->Res D | .int i=> .ok (.int (-i))|_=> .bad
def OO:D->Res D | .bl b=> .ok (.bl (!b))|_=> .bad
def jr(a:Bool):D->D->Res D
 |.int i,.int j=> .ok (.bl (a.xor (decide (i=j))))
 |.str i,.str j=> .ok (.bl (a.xor (decide (i=j))))
 |.bl i,.bl j=> .ok (.bl (a.xor (decide (i=j))))
 |.non,.int _=> .ok (.bl a)
 |.int _,.non=> .ok (.bl a)
 |.non,.non=> .ok (.bl (!a))
 |_,_=> .bad
def rq:D->Bool | .non=>true|_=>false
def lD:D->Res D
 |.lst xs=> .ok (.int xs.length)
 |.tup xs=> .ok (.int xs.length)
 |.scr xs=> .ok (.int xs.length)
 |_=> .bad
def L9(xs:List D)(i:Int):Res D:=match kj xs i with|some d=> .ok d|none=> .bad
def xD:D->D->Res D | .lst xs,.int i=>L9 xs i | .scr xs,.int i=>L9 xs i|_,_=> .bad
def KA:D->D->Res D | .tup xs,.int i=>L9 xs i|_,_=> .bad
def yF:D->D->Res D | .lst xs,.lst ys=>if xs.length+ys.length<=ak then .ok (.lst (xs++ys)) else .bad|_,_=> .bad
def om:D->Res D | .lst xs=> .ok (.lst xs) | .scr xs=> .ok (.lst xs) | .tup xs=> .ok (.lst xs)|_=> .bad
def ph:D->Option b6 | .int i=>some (.inl i) | .str x=>some (.inr x)|_=>none
def fe:List D->Option (List b6)
 |[]=>some []
 |d::r=>match ph d,fe r with|some k,some ks=>some (k::ks)|_,_=>none
section
variable{W:Type}[DecidableEq W]
def du:List W->List D->W->Option D
 |k::ks,d::ds,j=>if k=j then some d else du ks ds j
 |_,_,_=>none
def fD(ks:List W)(j:W):Bool:=ks.any λk=>decide (k=j)
def nY:List W->List D->W->D->List D
 |k::ks,d::ds,j,x=>(if k=j then x else d)::nY ks ds j x
 |_,_,_,_=>[]
def iF:List W->List D->W->D->List D
 |k::ks,d::ds,j,x=>if k=j then x::ds else d::iF ks ds j x
 |_,_,_,_=>[]
end
def nc:D->D->Option (Option D)
 |.dT ks vs,.tup k=>(fe k).map λk=>du ks vs k
 |.dK ks vs,k=>(ph k).map λk=>du ks vs k
 |_,_=>none
def ji(d k:D):Res D:=match nc d k with|some (some x)=> .ok x|_=> .bad
def rQ(a:Bool)(k d:D):Res D:=match nc d k with|some x=> .ok (.bl (a.xor x.isSome))|none=> .bad
def vH(d k x:D):Res D:=match nc d k with|some (some y)=> .ok y|some none=> .ok x|none=> .bad
def xW:D->D->D->Option D
 |.dT ks vs,.tup k,x=>(fe k).bind λk=>if ks.length<ak then some (if fD ks k=true then .dT ks (nY ks vs k x) else .dT (ks++[k]) (vs++[x])) else none
 |.dK ks vs,k,x=>(ph k).bind λk=>if ks.length<ak then some (if fD ks k=true then .dK ks (nY ks vs k x) else .dK (ks++[k]) (vs++[x])) else none
 |_,_,_=>none
def gJ(c:Nat)(f:Str):D->Res D
 |.obj a ns vs=>if a=c then (match du ns vs f with|some x=> .ok x|none=> .bad) else .bad
 |_=> .bad
def BC(a:Nat)(f:Str)(x:D):D->Option D
 |.obj c ns vs=>if c=a/\ns.length<900 then some (if fD ns f=true then .obj c ns (iF ns vs f x) else .obj c (ns++[f]) (vs++[x])) else none
 |_=>none
def KE:D->Res Bool | .bl b=> .ok b|_=> .bad
def Mb(a b:Env->Res D):Env->Res D:=λM=>((a M).bind KE).bind λc=>if c=true then b M else .ok (.bl false)
def PV(c:Env->Res Bool)(a b:Env->Res D):Env->Res D:=λM=>(c M).bind λc=>if c=true then a M else b M
def ba:Env->Res (List D):=λ_=> .ok []
def au(a:Env->Res D)(r:Env->Res (List D)):Env->Res (List D):=λM=>(a M).bind λx=>(r M).bind λxs=> .ok (x::xs)
def qc(r:Env->Res (List D)):Env->Res D:=λM=>(r M).bind λxs=>if xs.length<=ak then .ok (.lst xs) else .bad
def kh(r:Env->Res (List D)):Env->Res D:=λM=>(r M).bind λxs=>if xs.length<=ak then .ok (.tup xs) else .bad
def jW(M:Env)(ix:List Nat):Env:=ix.map λj=>rg M j
def ff(a:Env->Res Bool)(te:Env->Res D)(cap:Env):List D->Res (List D)
 |[]=> .ok []
 |d::r=>(a (some d::cap)).calm.bind λc=>if c=true then (te (some d::cap)).calm.bind λx=>(ff a te cap r).bind λxs=> .ok (x::xs) else ff a te cap r
def kc(src:Env->Res (List D))(ix:List Nat)(a:Env->Res Bool)(te:Env->Res D):Env->Res D:=λM=>(src M).bind λxs=>if xs.length<ak then (ff a te (jW M ix) xs).bind λys=> .ok (.lst ys) else .bad
def fb(a:Env->Res D):Env->Res (List D):=λM=>(a M).bind λd=>match d with | .lst xs=> .ok xs | .scr xs=> .ok xs|_=> .bad
def rng(lo hi:Int):List D:=(List.range (hi-lo).toNat).map λi:Nat=>D.int (lo+i)
def Fg(a b:Env->Res D):Env->Res (List D):=λM=>(a M).bind λx=>(b M).bind λy=>match x,y with
 |.int i,.int j=>if -(2 ^ 62)<=i/\i<2 ^ 62/\-(2 ^ 62)<=j/\j<2 ^ 62 then .ok (rng i j) else .bad
 |_,_=> .bad
def gW(b:Env->Res D):Env->Res (List D):=Fg (aI (.int 0)) b
def aD(a b:Env->SO):Env->SO:=λM=>match a M with | .nx C=>b C | o=>o
def bK:Env->SO:=λM=> .nx M
@[simp] def lH{W:Type}:Out W->(W->Env->SO)->SO
 |.ok a M,f=>f a M
 |.exc c M,_=> .exc c M
 |.bad,_=> .bad
abbrev MD:=Env->Out D
def aQ{W:Type}(a:Env->Res W):Env->Out W:=λM=>(a M).up M
def cz(a:MD):Env->SO:=λM=>lH (a M) λd C=> .rt d C
def bC(a:MD):Env->SO:=λM=>lH (a M) λ_ C=> .nx C
def bX(i:Nat)(a:MD):Env->SO:=λM=>lH (a M) λd C=> .nx (C.set i (some d))
def gG(c:Env->Out Bool)(a b:Env->SO):Env->SO:=λM=>lH (c M) λt C=>if t=true then a C else b C
def vA(a:D->Env->Option Env)(body:Env->SO):List D->Env->SO
 |[],M=> .nx M
 | d::ds,M=>match a d M with
   |none=> .bad
   | some b=>match body b with
     |.nx C=>vA a body ds C
     |.ct C=>vA a body ds C
     |.bk C=> .nx C
     |o=>o
def dU(src:Env->Out (List D))(a:D->Env->Option Env)(body:Env->SO):Env->SO:=λM=>lH (src M) λxs C=>vA a body xs C
def Dq(c:Env->Out Bool)(body:Env->SO):Nat->Env->SO
 |0,_=> .bad
 | n+1,M=>lH (c M) λt a=>if t=true then (match body a with
    |.nx C=>Dq c body n C
    |.ct C=>Dq c body n C
    |.bk C=> .nx C
    |o=>o) else .nx a
def tD(i:Nat):D->Env->Option Env:=λd M=>some (M.set i (some d))
def E8(i j:Nat):D->Env->Option Env:=λd M=>match d with | .tup [x,y]=>some ((M.set i (some x)).set j (some y))|_=>none
def run(k:Nat)(body:Env->SO)(ds:List D):Out D:=match body (ds.map some++List.replicate (k-ds.length) none) with
 |.nx M=> .ok .non M
 |.rt d M=> .ok d M
 |.exc c M=> .exc c M
 |_=> .bad
structure Cm where
 f:Nat->Addr
 K:L0
 tb:Tbs
instance:CoeFun Cm λ_=>Nat->Addr:=⟨Cm.f⟩
def SqF(K:L0)(B:Hp)(a:Addr)(xs:List V):Prop:=(∃ o,B a=some (.frz o (.lst xs)))\/
 ∃ (o:Obj) (its:Array Value) (n:Nat),K.lookup a=some o/\o.cls= .type "list" /\ o.dict=none/\o.data= .seq its n/\its.size<=sizeLine/\Vals xs its.toList
theorem SqF.mono{K:L0}{B S:Hp}{a:Addr}{xs:List V}(h:SqF K B a xs)(e:Same B S):SqF K S a xs:=by
 rcases h with ⟨o,h⟩|h
 ·exact .inl ⟨o,e _ _ h⟩
 ·exact .inr h
theorem SqF.sq{K:L0}{H:Hp}{a:Addr}{xs:List V}(h:SqF K H a xs):SqL K H a xs:=by
 rcases h with ⟨o,h⟩|h
 ·exact .inl (.inr ⟨o,h⟩)
 ·exact .inr h
theorem u6{B S:Hp}{a:Addr}{u:HO}(e:Same B S)(h:Rd B a u):Rd S a u:=by
 rcases h with h|⟨o,h⟩
 ·exact .inl (e _ _ h)
 ·exact .inr ⟨o,e _ _ h⟩
section
variable(Y:Cm)
mutual
def Dn(B:Hp):D->V->Prop
 |.non,v=>v= .non
 |.bl b,v=>v= .bl b
 |.int i,v=>v= .int i
 |.str x,v=>v= .str x
 |.ty n,v=>v= .ty n
 |.lst ds,v=>∃ a xs,v= .ref a/\B a=some (.lst xs)/\Dns B ds xs
 |.scr ds,v=>∃ a xs,v= .ref a/\SqF Y.K B a xs/\Dns B ds xs
 |.tup ds,v=>∃ a xs,v= .ref a/\B a=some (.tup xs)/\Dns B ds xs
 |.dK ks ds,v=>∃ (a:Addr) (d:List (b6×V)),v= .ref a/\B a=some (.dK d)/\d.map (·.1)=ks/\Dns B ds (d.map (·.2))
 |.dT ks ds,v=>∃ (a:Addr) (d:List (List b6×V)),v= .ref a/\Rd B a (.dT d)/\d.map (·.1)=ks/\Dns B ds (d.map (·.2))
 |.obj c ns ds,v=>∃ (a dx:Addr) (fs:List (Str×V)),v= .ref a/\B a=some (.ins (Y c) dx fs)/\fs.map (·.1)=ns/\Dns B ds (fs.map (·.2))
def Dns(B:Hp):List D->List V->Prop
 |[],xs=>xs=[]
 |d::ds,xs=>∃ x r,xs=x::r/\Dn B d x/\Dns B ds r
end
inductive Sh where
 |fz|ct (s:Sh)|ob (fs:List (Str×Sh))
mutual
def Ow(B H:Hp):D->Sh->V->List Addr->Prop
 |d,.fz,v,A=>Dn Y B d v/\A=[]
 |.lst ds,.ct s,v,A=>∃ a xs e,v= .ref a/\H a=some (.lst xs)/\A=a::e/\Ows B H ds s xs e
 |.dK ks ds,.ct s,v,A=>∃ (a:Addr) (b:List (b6×V)) (e:List Addr),v= .ref a/\H a=some (.dK b)/\b.map (·.1)=ks/\A=a::e/\Ows B H ds s (b.map (·.2)) e
 |.dT ks ds,.ct s,v,A=>∃ (a:Addr) (b:List (List b6×V)) (e:List Addr),v= .ref a/\H a=some (.dT b)/\b.map (·.1)=ks/\A=a::e/\Ows B H ds s (b.map (·.2)) e
 |.obj c ns ds,.ob fs,v,A=>∃ (a dx:Addr) (xs:List (Str×V)) (e:List Addr),v= .ref a/\H a=some (.ins (Y c) dx xs)/\xs.map (·.1)=ns/\A=a::e/\Owf B H ds ns fs (xs.map (·.2)) e
 |_,_,_,_=>False
def Ows(B H:Hp):List D->Sh->List V->List Addr->Prop
 |[],_,xs,A=>xs=[]/\A=[]
 |d::ds,s,xs,A=>∃ x r A1 a,xs=x::r/\A=A1++a/\Ow B H d s x A1/\Ows B H ds s r a
def Owf(B H:Hp):List D->List Str->List (Str×Sh)->List V->List Addr->Prop
 |[],_,_,xs,A=>xs=[]/\A=[]
 |d::ds,ns,fs,xs,A=>∃ n a x r A1 b,ns=n::a/\xs=x::r/\A=A1++b/\Ow B H d ((fs.lookup n).getD .fz) x A1/\Owf B H ds a fs r b
end
inductive Md where
 |F|R|O (s:Sh)
def LoV(B U H:Hp)(m:Md)(d:D)(v:V)(A:List Addr):Prop:=
 match m with
 |.F=>Dn Y B d v/\A=[]
 |.R=>Dn Y U d v/\A=[]
 |.O a=>Ow Y B H d a v A
def Lo(B U H:Hp)(m:Md)(o:Option D)(s:Option V)(A:List Addr):Prop:=
 match o with
 |none=>A=[]
 |some d=>∃ v,s=some v/\LoV Y B U H m d v A
structure Rel (T:List Md) (B U:Hp) (As:Nat->List Addr) (Z:St) (H:Hp) (M:Env):Prop where
 bu:Same B U
 uh:Same U H
 nd:∀ i,(As i).Nodup
 dj:∀ i j a,i≠j->a∈As i->a∉As j
 un:∀ i a,a∈As i->U a=none
 lo:∀ i,Lo Y B U H (T.getD i .F) (rg M i) (rg Z i) (As i)
 len:M.length=Z.length
 tb:∀ p∈Y.tb,∃ l,B p.1=some (.tbl l)/\p.2∈l
end
def j7(o:HO):Prop:=∃ xs,o= .tup xs
structure Ex (B U S J:Hp):Prop where
 b:Same B S
 u:Same U J
 nb:∀ a o,S a=some o->B a=some o\/U a=none\/j7 o
theorem Ex.refl(B U:Hp):Ex B U B U:=⟨Same.refl _,Same.refl _,λ_ _ h=> .inl h⟩
theorem Ex.trans{B U I U1 e d:Hp}(a:Ex B U I U1)(b:Ex I U1 e d):Ex B U e d:=
 ⟨a.b.trans b.b,a.u.trans b.u,λc o h=>by
  rcases b.nb c o h with h|h|h
  ·exact a.nb c o h
  ·exact .inr (.inl (a.u.free h))
  ·exact .inr (.inr h)⟩
section
variable{Y:Cm}
mutual
theorem Dn.mono{B S:Hp}(e:Same B S):∀ {d:D} {v:V},Dn Y B d v->Dn Y S d v
 |.non,_,h=>by rw[Dn] at h ⊢; exact h
 |.bl _,_,h=>by rw[Dn] at h ⊢; exact h
 |.int _,_,h=>by rw[Dn] at h ⊢; exact h
 |.str _,_,h=>by rw[Dn] at h ⊢; exact h
 |.ty _,_,h=>by rw[Dn] at h ⊢; exact h
 | .lst ds,_,h=>by
   rw[Dn] at h ⊢;obtain⟨a,xs,r,f,b⟩:=h;exact⟨a,xs,r,e _ _ f,Dns.mono e b⟩
 | .scr ds,_,h=>by
   rw[Dn] at h ⊢;obtain⟨a,xs,r,f,b⟩:=h;exact⟨a,xs,r,f.mono e,Dns.mono e b⟩
 | .tup ds,_,h=>by
   rw[Dn] at h ⊢;obtain⟨a,xs,r,f,b⟩:=h;exact⟨a,xs,r,e _ _ f,Dns.mono e b⟩
 | .dK ks ds,_,h=>by
   rw[Dn] at h ⊢;obtain⟨a,xs,r,f,b,g⟩:=h;exact⟨a,xs,r,e _ _ f,b,Dns.mono e g⟩
 | .dT ks ds,_,h=>by
   rw[Dn] at h ⊢;obtain⟨a,xs,r,f,b,g⟩:=h;exact⟨a,xs,r,u6 e f,b,Dns.mono e g⟩
 | .obj c ns ds,_,h=>by
   rw[Dn] at h ⊢;obtain⟨a,dx,xs,r,f,b,g⟩:=h;exact⟨a,dx,xs,r,e _ _ f,b,Dns.mono e g⟩
theorem Dns.mono{B S:Hp}(e:Same B S):∀ {ds:List D} {xs:List V},Dns Y B ds xs->Dns Y S ds xs
 |[],_,h=>by rw[Dns] at h ⊢; exact h
 | d::ds,_,h=>by
   rw[Dns] at h ⊢;obtain⟨x,r,h0,b,a⟩:=h;exact⟨x,r,h0,Dn.mono e b,Dns.mono e a⟩
end
theorem Dns.len{B:Hp}:∀ {ds:List D} {xs:List V},Dns Y B ds xs->ds.length=xs.length
 |[],_,h=>by rw[Dns] at h; subst h; rfl
 | d::ds,_,h=>by
   rw[Dns] at h;obtain⟨x,r,rfl,_,a⟩:=h;rw[VU,VU,Dns.len a]
theorem Dns.get{B:Hp}:∀ {ds:List D} {xs:List V} {i:Nat} {d:D},Dns Y B ds xs->ds[i]?=some d->∃ x,xs[i]?=some x/\Dn Y B d x
 |[],_,_,_,_,e=>by cases e
 | d::ds,_,i,d',h,e=>by
   rw[Dns] at h;obtain⟨x,r,rfl,b,a⟩:=h;cases i with
   |zero=>cases e; exact⟨x,rfl,b⟩
   |succ i=>exact Dns.get (i:=i) a (by simpa using e)
theorem Dns.geti{B:Hp}:∀ {ds:List D} {xs:List V} {i:Nat} {x:V},Dns Y B ds xs->xs[i]?=some x->∃ d,ds[i]?=some d/\Dn Y B d x
 |[],_,_,_,h,e=>by rw[Dns] at h; subst h; cases e
 | d::ds,_,i,c,h,e=>by
   rw[Dns] at h;obtain⟨x,r,rfl,b,a⟩:=h;cases i with
   |zero=>cases e; exact⟨d,rfl,b⟩
   |succ i=>exact Dns.geti (i:=i) a (by simpa using e)
theorem Dns.append{B:Hp}:∀ {ds es:List D} {xs ys:List V},Dns Y B ds xs->Dns Y B es ys->Dns Y B (ds++es) (xs++ys)
 |[],_,_,_,h,k=>by rw[Dns] at h; subst h; exact k
 | d::ds,_,_,_,h,k=>by
   rw[Dns] at h;obtain⟨x,r,rfl,b,a⟩:=h;rw[XX,XX,Dns];exact⟨x,_,rfl,b,Dns.append a k⟩
theorem Dns.one{B:Hp}{d:D}{v:V}(h:Dn Y B d v):Dns Y B [d] [v]:=by
 rw[Dns];exact⟨v,[],rfl,h,by rw[Dns]⟩
theorem Dns.drop{B:Hp}:∀ {ds:List D} {xs:List V} (n:Nat),Dns Y B ds xs->Dns Y B (ds.drop n) (xs.drop n)
 |[],_,n,h=>by rw[Dns] at h; subst h; rw[List.drop_nil,List.drop_nil,Dns]
 | d::ds,_,n,h=>by
   cases n with
   |zero=>exact h
   |succ n=>
     rw[Dns] at h;obtain⟨x,r,rfl,b,a⟩:=h;exact Dns.drop n a
theorem Dns.erase{B:Hp}:∀ {ds:List D} {xs:List V} (n:Nat),Dns Y B ds xs->Dns Y B (ds.eraseIdx n) (xs.eraseIdx n)
 |[],_,n,h=>by rw[Dns] at h; subst h; rw[List.eraseIdx_nil,List.eraseIdx_nil,Dns]
 | d::ds,_,n,h=>by
   rw[Dns] at h;obtain⟨x,r,rfl,b,a⟩:=h;cases n with
   |zero=>exact a
   |succ n=>
     rw[Wt,Wt,Dns];exact⟨x,_,rfl,b,Dns.erase n a⟩
mutual
theorem Ow.mono{B S H H':Hp}(e:Same B S):∀ {d:D} {s:Sh} {v:V} {A:List Addr},(∀ a∈A,H' a=H a)->Ow Y B H d s v A->Ow Y S H' d s v A
 | d,.fz,v,A,k,h=>by
   rw[Ow] at h ⊢;exact⟨h.1.mono e,h.2⟩
 | .lst ds,.ct s,v,A,k,h=>by
   rw[Ow] at h ⊢;obtain⟨a,xs,l,r,j,i,g⟩:=h;subst i;exact⟨a,xs,l,r,by rw[k a VP]; exact j,rfl,Ows.mono e (λb f=>k b (VR _ f)) g⟩
 | .dK ks ds,.ct s,v,A,k,h=>by
   rw[Ow] at h ⊢;obtain⟨a,xs,l,r,j,i,g,m⟩:=h;subst g;exact⟨a,xs,l,r,by rw[k a VP]; exact j,i,rfl,Ows.mono e (λb f=>k b (VR _ f)) m⟩
 | .dT ks ds,.ct s,v,A,k,h=>by
   rw[Ow] at h ⊢;obtain⟨a,xs,l,r,j,i,g,m⟩:=h;subst g;exact⟨a,xs,l,r,by rw[k a VP]; exact j,i,rfl,Ows.mono e (λb f=>k b (VR _ f)) m⟩
 | .obj c ns ds,.ob fs,v,A,k,h=>by
   rw[Ow] at h ⊢;obtain⟨a,dx,xs,l,r,j,i,g,m⟩:=h;subst g;exact⟨a,dx,xs,l,r,by rw[k a VP]; exact j,i,rfl,Owf.mono e (λb f=>k b (VR _ f)) m⟩
 |.non,.ct _,_,_,_,h=>by simp[Ow] at h
 |.bl _,.ct _,_,_,_,h=>by simp[Ow] at h
 |.int _,.ct _,_,_,_,h=>by simp[Ow] at h
 |.str _,.ct _,_,_,_,h=>by simp[Ow] at h
 |.ty _,.ct _,_,_,_,h=>by simp[Ow] at h
 |.tup _,.ct _,_,_,_,h=>by simp[Ow] at h
 |.scr _,.ct _,_,_,_,h=>by simp[Ow] at h
 |.obj _ _ _,.ct _,_,_,_,h=>by simp[Ow] at h
 |.non,.ob _,_,_,_,h=>by simp[Ow] at h
 |.bl _,.ob _,_,_,_,h=>by simp[Ow] at h
 |.int _,.ob _,_,_,_,h=>by simp[Ow] at h
 |.str _,.ob _,_,_,_,h=>by simp[Ow] at h
 |.ty _,.ob _,_,_,_,h=>by simp[Ow] at h
 |.tup _,.ob _,_,_,_,h=>by simp[Ow] at h
 |.scr _,.ob _,_,_,_,h=>by simp[Ow] at h
 |.lst _,.ob _,_,_,_,h=>by simp[Ow] at h
 |.dK _ _,.ob _,_,_,_,h=>by simp[Ow] at h
 |.dT _ _,.ob _,_,_,_,h=>by simp[Ow] at h
theorem Ows.mono{B S H H':Hp}(e:Same B S):∀ {ds:List D} {s:Sh} {xs:List V} {A:List Addr},(∀ a∈A,H' a=H a)->Ows Y B H ds s xs A->Ows Y S H' ds s xs A
 |[],_,_,_,_,h=>by rw[Ows] at h ⊢; exact h
 | d::ds,s,xs,A,k,h=>by
   rw[Ows] at h ⊢;obtain⟨x,r,A1,j,h0,i,g,f⟩:=h;subst i;exact⟨x,r,A1,j,h0,rfl,Ow.mono e (λb c=>k b (V9 _ c)) g,Ows.mono e (λb c=>k b (VV _ c)) f⟩
theorem Owf.mono{B S H H':Hp}(e:Same B S):∀ {ds:List D} {ns:List Str} {fs:List (Str×Sh)} {xs:List V} {A:List Addr},(∀ a∈A,H' a=H a)->Owf Y B H ds ns fs xs A->Owf Y S H' ds ns fs xs A
 |[],_,_,_,_,_,h=>by rw[Owf] at h ⊢; exact h
 | d::ds,ns,fs,xs,A,k,h=>by
   rw[Owf] at h ⊢;obtain⟨n,c,x,r,A1,m,g,h0,l,j,i⟩:=h;subst l;exact⟨n,c,x,r,A1,m,g,h0,rfl,Ow.mono e (λb f=>k b (V9 _ f)) j,Owf.mono e (λb f=>k b (VV _ f)) i⟩
end
end
section
variable{Y:Cm}
mutual
theorem Ow.dn{B H G:Hp}(e:Same B G):∀ {d:D} {s:Sh} {v:V} {A:List Addr},(∀ a∈A,∀ o,H a=some o->G a=some o)->Ow Y B H d s v A->Dn Y G d v
 | d,.fz,v,A,k,h=>by
   rw[Ow] at h;exact h.1.mono e
 | .lst ds,.ct s,v,A,k,h=>by
   rw[Ow] at h;obtain⟨a,xs,m,r,j,i,g⟩:=h;subst i;rw[Dn];exact⟨a,xs,r,k a VP _ j,Ows.dn e (λb f=>k b (VR _ f)) g⟩
 | .dK ks ds,.ct s,v,A,k,h=>by
   rw[Ow] at h;obtain⟨a,xs,m,r,j,i,g,l⟩:=h;subst g;rw[Dn];exact⟨a,xs,r,k a VP _ j,i,Ows.dn e (λb f=>k b (VR _ f)) l⟩
 | .dT ks ds,.ct s,v,A,k,h=>by
   rw[Ow] at h;obtain⟨a,xs,m,r,j,i,g,l⟩:=h;subst g;rw[Dn];exact⟨a,xs,r,.inl (k a VP _ j),i,Ows.dn e (λb f=>k b (VR _ f)) l⟩
 | .obj c ns ds,.ob fs,v,A,k,h=>by
   rw[Ow] at h;obtain⟨a,dx,xs,m,r,j,i,g,l⟩:=h;subst g;rw[Dn];exact⟨a,dx,xs,r,k a VP _ j,i,Owf.dn e (λb f=>k b (VR _ f)) l⟩
 |.non,.ct _,_,_,_,h=>by simp[Ow] at h
 |.bl _,.ct _,_,_,_,h=>by simp[Ow] at h
 |.int _,.ct _,_,_,_,h=>by simp[Ow] at h
 |.str _,.ct _,_,_,_,h=>by simp[Ow] at h
 |.ty _,.ct _,_,_,_,h=>by simp[Ow] at h
 |.tup _,.ct _,_,_,_,h=>by simp[Ow] at h
 |.scr _,.ct _,_,_,_,h=>by simp[Ow] at h
 |.obj _ _ _,.ct _,_,_,_,h=>by simp[Ow] at h
 |.non,.ob _,_,_,_,h=>by simp[Ow] at h
 |.bl _,.ob _,_,_,_,h=>by simp[Ow] at h
 |.int _,.ob _,_,_,_,h=>by simp[Ow] at h
 |.str _,.ob _,_,_,_,h=>by simp[Ow] at h
 |.ty _,.ob _,_,_,_,h=>by simp[Ow] at h
 |.tup _,.ob _,_,_,_,h=>by simp[Ow] at h
 |.scr _,.ob _,_,_,_,h=>by simp[Ow] at h
 |.lst _,.ob _,_,_,_,h=>by simp[Ow] at h
 |.dK _ _,.ob _,_,_,_,h=>by simp[Ow] at h
 |.dT _ _,.ob _,_,_,_,h=>by simp[Ow] at h
theorem Ows.dn{B H G:Hp}(e:Same B G):∀ {ds:List D} {s:Sh} {xs:List V} {A:List Addr},(∀ a∈A,∀ o,H a=some o->G a=some o)->Ows Y B H ds s xs A->Dns Y G ds xs
 |[],_,_,_,_,h=>by rw[Ows] at h; rw[Dns]; exact h.1
 | d::ds,s,xs,A,k,h=>by
   rw[Ows] at h;obtain⟨x,r,A1,j,h0,i,g,f⟩:=h;subst i;rw[Dns];exact⟨x,r,h0,Ow.dn e (λb c=>k b (V9 _ c)) g,Ows.dn e (λb c=>k b (VV _ c)) f⟩
theorem Owf.dn{B H G:Hp}(e:Same B G):∀ {ds:List D} {ns:List Str} {fs:List (Str×Sh)} {xs:List V} {A:List Addr},(∀ a∈A,∀ o,H a=some o->G a=some o)->Owf Y B H ds ns fs xs A->Dns Y G ds xs
 |[],_,_,_,_,_,h=>by rw[Owf] at h; rw[Dns]; exact h.1
 | d::ds,ns,fs,xs,A,k,h=>by
   rw[Owf] at h;obtain⟨n,f,x,r,A1,m,l,h0,j,i,g⟩:=h;subst j;rw[Dns];exact⟨x,r,h0,Ow.dn e (λb c=>k b (V9 _ c)) i,Owf.dn e (λb c=>k b (VV _ c)) g⟩
end
mutual
theorem Ow.at2{B H:Hp}:∀ {d:D} {s:Sh} {v:V} {A:List Addr} {a:Addr},Ow Y B H d s v A->a∈A->∃ o,H a=some o/\¬ j7 o
 | d,.fz,v,A,a,h,m=>by
   rw[Ow] at h;rw[h.2] at m;cases m
 | .lst ds,.ct s,v,A,a,h,m=>by
   rw[Ow] at h;obtain⟨b,xs,k,r,g,j,f⟩:=h;subst j;rcases List.mem_cons.mp m with e|m
   ·refine⟨_,by rw[e]; exact g,?_⟩;rintro⟨_,z⟩;cases z
   ·exact Ows.at2 f m
 | .dK ks ds,.ct s,v,A,a,h,m=>by
   rw[Ow] at h;obtain⟨b,xs,k,r,g,j,f,i⟩:=h;subst f;rcases List.mem_cons.mp m with e|m
   ·refine⟨_,by rw[e]; exact g,?_⟩;rintro⟨_,z⟩;cases z
   ·exact Ows.at2 i m
 | .dT ks ds,.ct s,v,A,a,h,m=>by
   rw[Ow] at h;obtain⟨b,xs,k,r,g,j,f,i⟩:=h;subst f;rcases List.mem_cons.mp m with e|m
   ·refine⟨_,by rw[e]; exact g,?_⟩;rintro⟨_,z⟩;cases z
   ·exact Ows.at2 i m
 | .obj c ns ds,.ob fs,v,A,a,h,m=>by
   rw[Ow] at h;obtain⟨b,dx,xs,k,r,g,j,f,i⟩:=h;subst f;rcases List.mem_cons.mp m with e|m
   ·refine⟨_,by rw[e]; exact g,?_⟩;rintro⟨_,z⟩;cases z
   ·exact Owf.at2 i m
 |.non,.ct _,_,_,_,h,_=>by simp[Ow] at h
 |.bl _,.ct _,_,_,_,h,_=>by simp[Ow] at h
 |.int _,.ct _,_,_,_,h,_=>by simp[Ow] at h
 |.str _,.ct _,_,_,_,h,_=>by simp[Ow] at h
 |.ty _,.ct _,_,_,_,h,_=>by simp[Ow] at h
 |.tup _,.ct _,_,_,_,h,_=>by simp[Ow] at h
 |.scr _,.ct _,_,_,_,h,_=>by simp[Ow] at h
 |.obj _ _ _,.ct _,_,_,_,h,_=>by simp[Ow] at h
 |.non,.ob _,_,_,_,h,_=>by simp[Ow] at h
 |.bl _,.ob _,_,_,_,h,_=>by simp[Ow] at h
 |.int _,.ob _,_,_,_,h,_=>by simp[Ow] at h
 |.str _,.ob _,_,_,_,h,_=>by simp[Ow] at h
 |.ty _,.ob _,_,_,_,h,_=>by simp[Ow] at h
 |.tup _,.ob _,_,_,_,h,_=>by simp[Ow] at h
 |.scr _,.ob _,_,_,_,h,_=>by simp[Ow] at h
 |.lst _,.ob _,_,_,_,h,_=>by simp[Ow] at h
 |.dK _ _,.ob _,_,_,_,h,_=>by simp[Ow] at h
 |.dT _ _,.ob _,_,_,_,h,_=>by simp[Ow] at h
theorem Ows.at2{B H:Hp}:∀ {ds:List D} {s:Sh} {xs:List V} {A:List Addr} {a:Addr},Ows Y B H ds s xs A->a∈A->∃ o,H a=some o/\¬ j7 o
 |[],_,_,_,_,h,m=>by rw[Ows] at h; rw[h.2] at m; cases m
 | d::ds,s,xs,A,a,h,m=>by
   rw[Ows] at h;obtain⟨x,r,A1,f,h0,e,c,b⟩:=h;subst e;rcases List.mem_append.mp m with m|m
   ·exact Ow.at2 c m
   ·exact Ows.at2 b m
theorem Owf.at2{B H:Hp}:∀ {ds:List D} {ns:List Str} {fs:List (Str×Sh)} {xs:List V} {A:List Addr} {a:Addr},Owf Y B H ds ns fs xs A->a∈A->∃ o,H a=some o/\¬ j7 o
 |[],_,_,_,_,_,h,m=>by rw[Owf] at h; rw[h.2] at m; cases m
 | d::ds,ns,fs,xs,A,a,h,m=>by
   rw[Owf] at h;obtain⟨n,b,x,r,A1,i,g,h0,f,e,c⟩:=h;subst f;rcases List.mem_append.mp m with m|m
   ·exact Ow.at2 e m
   ·exact Owf.at2 c m
end
theorem Ow.at{B H:Hp}{d:D}{s:Sh}{v:V}{A:List Addr}{a:Addr}(h:Ow Y B H d s v A)(m:a∈A):∃ o,H a=some o:=let ⟨o,e,_⟩:=Ow.at2 h m; ⟨o,e⟩
theorem Owf.at{B H:Hp}{ds:List D}{ns:List Str}{fs:List (Str×Sh)}{xs:List V}{A:List Addr}{a:Addr}(h:Owf Y B H ds ns fs xs A)(m:a∈A):∃ o,H a=some o:=let ⟨o,e,_⟩:=Owf.at2 h m; ⟨o,e⟩
theorem Ows.of{B H:Hp}:∀ {ds:List D} {xs:List V},Dns Y B ds xs->Ows Y B H ds .fz xs []
 |[],_,h=>by rw[Dns] at h; rw[Ows]; exact⟨h,rfl⟩
 | d::ds,_,h=>by
   rw[Dns] at h;obtain⟨x,r,h0,b,a⟩:=h;rw[Ows];exact⟨x,r,[],[],h0,rfl,by rw[Ow]; exact⟨b,rfl⟩,Ows.of a⟩
theorem Ows.fz{B H:Hp}:∀ {ds:List D} {xs:List V} {A:List Addr},Ows Y B H ds .fz xs A->Dns Y B ds xs/\A=[]
 |[],_,_,h=>by rw[Ows] at h; rw[Dns]; exact h
 | d::ds,_,_,h=>by
   rw[Ows] at h;obtain⟨x,r,A1,g,h0,f,a,e⟩:=h;rw[Ow] at a;obtain⟨c,b⟩:=Ows.fz e;rw[Dns];exact⟨⟨x,r,h0,a.1,c⟩,by rw[f,a.2,b]; rfl⟩
theorem Lo.at2{B U H:Hp}{m:Md}{o:Option D}{s:Option V}{A:List Addr}{a:Addr}(h:Lo Y B U H m o s A)(b:a∈A):∃ o,H a=some o/\¬ j7 o:=by
 unfold Lo at h;cases o with
 |none=>simp only at h; rw[h] at b; cases b
 |some d=>
   obtain⟨v,_,h⟩:=h;cases m with
   |F=>have h:Dn Y B d v/\A=[]:=h; rw[h.2] at b; cases b
   |R=>have h:Dn Y U d v/\A=[]:=h; rw[h.2] at b; cases b
   |O c=>exact Ow.at2 h b
theorem Lo.at{B U H:Hp}{m:Md}{o:Option D}{s:Option V}{A:List Addr}{a:Addr}(h:Lo Y B U H m o s A)(b:a∈A):∃ o,H a=some o:=let ⟨o,e,_⟩:=h.at2 b; ⟨o,e⟩
theorem Lo.mono{B U H S J H':Hp}{m:Md}{o:Option D}{s:Option V}{A:List Addr}(h:Lo Y B U H m o s A)(e:Same B S)(f:Same U J)(k:∀ a∈A,H' a=H a):Lo Y S J H' m o s A:=by
 unfold Lo at h ⊢;cases o with
 |none=>exact h
 |some d=>
   obtain⟨v,b,h⟩:=h;refine⟨v,b,?_⟩;cases m with
   |F=>exact⟨h.1.mono e,h.2⟩
   |R=>exact⟨h.1.mono f,h.2⟩
   |O c=>exact Ow.mono e k h
variable{T:List Md}{B U H S J H':Hp}{As:Nat->List Addr}{Z:St}{M:Env}
theorem Rel.at(R:Rel Y T B U As Z H M){i:Nat}{a:Addr}(h:a∈As i):∃ o,H a=some o:=(R.lo i).at h
theorem Rel.nt(R:Rel Y T B U As Z H M){i:Nat}{a:Addr}{o:HO}(h:a∈As i)(e:H a=some o)(z:j7 o):False:=by
 obtain⟨o',b,n⟩:=(R.lo i).at2 h;rw[e] at b; cases b; exact n z
theorem Rel.fresh(R:Rel Y T B U As Z H M){p:Addr}(h:H p=none)(i:Nat):p∉As i:=λm=>by
 obtain⟨o,e⟩:=R.at m;rw[h] at e;cases e
theorem Rel.grow(R:Rel Y T B U As Z H M)(e:Same B S)(f:Same U J)(g:Same H H')(bu:Same S J)(uh:Same J H')(un:∀ i a,a∈As i->J a=none):Rel Y T S J As Z H' M:=
 ⟨bu,uh,R.nd,R.dj,un,λi=>(R.lo i).mono e f λa b=>by
  obtain⟨o,q⟩:=R.at b
  rw[q,g a o q],R.len,λp hp=>let ⟨l,d,c⟩:=R.tb p hp; ⟨l,e _ _ d,c⟩⟩
theorem Rel.bh(R:Rel Y T B U As Z H M):Same B H:=R.bu.trans R.uh
theorem Rel.new(R:Rel Y T B U As Z H M){p:Addr}{o:HO}(h:H p=none):Rel Y T B U As Z (upd H p o) M:=
 R.grow (Same.refl _) (Same.refl _) (Gd.ce h) R.bu (R.uh.trans (Gd.ce h)) R.un
theorem nU{G a:Hp}{p:Addr}{o:HO}(e:Same G a):Same (upd G p o) (upd a p o):=λb u q=>by
 by_cases z:b=p
 ·subst z; rw[bv] at q ⊢; exact q
 ·rw[bc z] at q ⊢; exact e b u q
theorem Rel.newB(R:Rel Y T B U As Z H M){p:Addr}{o:HO}(h:H p=none):Rel Y T (upd B p o) (upd U p o) As Z (upd H p o) M:=
 R.grow (Gd.ce (R.bh.free h)) (Gd.ce (R.uh.free h)) (Gd.ce h) (nU R.bu) (nU R.uh) λi a b=>by
  rw[bc (λz:a=p=>R.fresh h i (z▸b))];exact R.un i a b
theorem Rel.newU(R:Rel Y T B U As Z H M){p:Addr}{o:HO}(h:H p=none):Rel Y T B (upd U p o) As Z (upd H p o) M:=
 R.grow (Same.refl _) (Gd.ce (R.uh.free h)) (Gd.ce h) (R.bu.trans (Gd.ce (R.uh.free h))) (nU R.uh) λi a b=>by
  rw[bc (λz:a=p=>R.fresh h i (z▸b))];exact R.un i a b
theorem Ex.newB(R:Rel Y T B U As Z H M){p:Addr}{o:HO}(h:H p=none):Ex B U (upd B p o) (upd U p o):=
 ⟨Gd.ce (R.bh.free h),Gd.ce (R.uh.free h),λa u q=>by
  by_cases z:a=p
  ·subst z; exact .inr (.inl (R.uh.free h))
  ·rw[bc z] at q; exact .inl q⟩
theorem Ex.newU(R:Rel Y T B U As Z H M){p:Addr}{o:HO}(h:H p=none):Ex B U B (upd U p o):=
 ⟨Same.refl _,Gd.ce (R.uh.free h),λa u q=> .inl q⟩
def frz(B H:Hp)(A:List Addr):Hp:=λa=>if a∈A then H a else B a
theorem dk{A:List Addr}(e:Same B H):Same B (frz B H A):=λa o q=>by
 unfold frz;split
 ·exact e a o q
 ·exact q
theorem vz{A:List Addr}(e:Same B H):Same (frz B H A) H:=λa o q=>by
 unfold frz at q;split at q
 ·exact q
 ·exact e a o q
theorem rG{A:List Addr}(e:Same B U):Same (frz B H A) (frz U H A):=λa o q=>by
 unfold frz at q ⊢;split
 ·rename_i z; rw[on z] at q; exact q
 ·rename_i z; rw[VM z] at q; exact e a o q
end
abbrev KT(W X:Type):=W->X->Hp->Hp->Hp->List Addr->Prop
inductive Kd where
 |F|U|X
def hp:Kd->Hp->Hp->Hp->Hp
 |.F,B,_,_=>B
 |.U,_,U,_=>U
 |.X,_,_,H=>H
structure Gw (B U H S J H':Hp):Prop extends Ex B U S J where
 h:Same H H'
 fr:∀ a o,J a=some o->U a=some o\/H a=none\/j7 o
theorem Gw.refl(B U H:Hp):Gw B U H B U H:=⟨Ex.refl _ _,Same.refl _,λ_ _ h=> .inl h⟩
theorem Gw.trans{B U H I U1 L f d e:Hp}(a:Gw B U H I U1 L)(b:Gw I U1 L f d e):Gw B U H f d e:=
 ⟨a.toEx.trans b.toEx,a.h.trans b.h,λc o h=>by
  rcases b.fr c o h with h|h|h
  ·exact a.fr c o h
  ·exact .inr (.inl (a.h.free h))
  ·exact .inr (.inr h)⟩
structure New (N:List Addr) (H U:Hp) (As:Nat->List Addr):Prop where
 nd:N.Nodup
 fr:∀ a∈N,H a=none
 un:∀ a∈N,U a=none
theorem New.nil{H U:Hp}{As:Nat->List Addr}:New [] H U As:=⟨Wz,λ_ h=>(nomatch h),λ_ h=>(nomatch h)⟩
section
variable(Y:Cm)
def Cn(G H:Hp):D->V->Prop
 |.lst ds,v=>∃ a xs,v= .ref a/\H a=some (.lst xs)/\Dns Y G ds xs
 |.scr ds,v=>∃ a xs,v= .ref a/\SqF Y.K H a xs/\Dns Y G ds xs
 |.tup ds,v=>∃ a xs,v= .ref a/\H a=some (.tup xs)/\Dns Y G ds xs
 |.dK ks ds,v=>∃ (a:Addr) (b:List (b6×V)),v= .ref a/\H a=some (.dK b)/\b.map (·.1)=ks/\Dns Y G ds (b.map (·.2))
 |.dT ks ds,v=>∃ (a:Addr) (b:List (List b6×V)),v= .ref a/\Rd H a (.dT b)/\b.map (·.1)=ks/\Dns Y G ds (b.map (·.2))
 |.obj c ns ds,v=>∃ (a dx:Addr) (fs:List (Str×V)),v= .ref a/\H a=some (.ins (Y c) dx fs)/\fs.map (·.1)=ns/\Dns Y G ds (fs.map (·.2))
 |d,v=>Dn Y G d v
def KR(k:Kd):KT D V:=λd v B U H _=>Dn Y (hp k B U H) d v
def KC(k:Kd):KT D V:=λd v B U H _=>Cn Y (hp k B U H) H d v
def KO(s:Sh):KT D V:=λd v B U H N=>Ow Y B H d s v N
def KB:KT Bool Bool:=λb c _ _ _ _=>b=c
def KL(k:Kd):KT (List D) (List V):=λd v B U H _=>Dns Y (hp k B U H) d v
def Po{W X:Type}(K:KT W X)(E:XK)(T:List Md)(B U:Hp)(As:Nat->List Addr)(Z:St)(H:Hp)(M:Env)(r:Res W)(Q:X->Hp->Prop):Prop:=
 match r with
 |.ok d=>∀ v S J H' N,Rel Y T S J As Z H' M->Gw B U H S J H'->New N H J As->K d v S J H' N->Q v H'
 |.exc c=>∀ S J H',Rel Y T S J As Z H' M->Gw B U H S J H'->∀ a,E (.ref (Y c)) a H'
 |.bad=>False
def PJ{W X:Type}(K:KT W X)(E:XK)(T:List Md)(t:St->Hp->(X->Hp->Prop)->Prop)(m:Env->Res W):Prop:=
 ∀ B U As Z H M Q,Rel Y T B U As Z H M->Po Y K E T B U As Z H M (m M) Q->t Z H Q
end
section
variable{Y:Cm}{E:XK}{T:List Md}{B U H:Hp}{As:Nat->List Addr}{Z:St}{M:Env}
theorem New.up{N:List Addr}{L:Hp}(h:New N L U As)(s:Same H L):New N H U As:=⟨h.nd,λa b=>s.free (h.fr a b),h.un⟩
theorem Po.at{W X:Type}{K:KT W X}{I U1 L:Hp}{r:Res W}{Q:X->Hp->Prop}(P:Po Y K E T B U As Z H M r Q)(e:Gw B U H I U1 L):Po Y K E T I U1 As Z L M r Q:=by
 cases r with
 |ok d=>exact λv S J H' N b a f k=>P v S J H' N b (e.trans a) (f.up e.h) k
 |exc c=>exact λS J H' b a=>P S J H' b (e.trans a)
 |bad=>exact P
theorem PJ.bnd{W X O J:Type}{f:KT W X}{d:KT O J}{ta:St->Hp->(X->Hp->Prop)->Prop}{a:Env->Res W}(j:PJ Y f E T ta a)(R:Rel Y T B U As Z H M){k:W->Res O}{Q:J->Hp->Prop}
 (P:Po Y d E T B U As Z H M ((a M).bind k) Q) {body:X->Hp->Prop}
 (h:∀ x v I U1 L N,a M= .ok x->Rel Y T I U1 As Z L M->Gw B U H I U1 L->New N H U1 As->f x v I U1 L N->Po Y d E T I U1 As Z L M (k x) Q->body v L):ta Z H body:=by
 refine j B U As Z H M body R ?_;cases e:a M with
 |ok x=>
   rw[e] at P;exact λv I U1 L N l b g i=>h x v I U1 L N e l b g i (Po.at (r:=k x) P b)
 |exc c=>rw[e] at P; exact P
 |bad=>rw[e] at P; exact P
theorem jD{k:Kd}{I U1 L:Hp}(e:Gw B U H I U1 L):Same (hp k B U H) (hp k I U1 L):=by
 cases k with
 |F=>exact e.b
 |U=>exact e.u
 |X=>exact e.h
theorem Cn.mono{G j H H':Hp}(e:Same G j)(f:Same H H'){d:D}{v:V}(h:Cn Y G H d v):Cn Y j H' d v:=by
 cases d with
 |lst ds=>obtain⟨a,xs,r,g,b⟩:=h; exact⟨a,xs,r,f _ _ g,b.mono e⟩
 |scr ds=>obtain⟨a,xs,r,g,b⟩:=h; exact⟨a,xs,r,g.mono f,b.mono e⟩
 |tup ds=>obtain⟨a,xs,r,g,b⟩:=h; exact⟨a,xs,r,f _ _ g,b.mono e⟩
 |dK ks ds=>obtain⟨a,xs,r,g,b,i⟩:=h; exact⟨a,xs,r,f _ _ g,b,i.mono e⟩
 |dT ks ds=>obtain⟨a,xs,r,g,b,i⟩:=h; exact⟨a,xs,r,u6 f g,b,i.mono e⟩
 |obj c ns ds=>obtain⟨a,dx,xs,r,g,b,i⟩:=h; exact⟨a,dx,xs,r,f _ _ g,b,i.mono e⟩
 |non=>exact Dn.mono e h
 |bl _=>exact Dn.mono e h
 |int _=>exact Dn.mono e h
 |str _=>exact Dn.mono e h
 |ty _=>exact Dn.mono e h
theorem Dn.cn{G H:Hp}(f:Same G H){d:D}{v:V}(h:Dn Y G d v):Cn Y G H d v:=by
 cases d with
 |lst ds=>rw[Dn] at h; obtain⟨a,xs,r,e,b⟩:=h; exact⟨a,xs,r,f _ _ e,b⟩
 |scr ds=>rw[Dn] at h; obtain⟨a,xs,r,e,b⟩:=h; exact⟨a,xs,r,e.mono f,b⟩
 |tup ds=>rw[Dn] at h; obtain⟨a,xs,r,e,b⟩:=h; exact⟨a,xs,r,f _ _ e,b⟩
 |dK ks ds=>rw[Dn] at h; obtain⟨a,xs,r,e,b,g⟩:=h; exact⟨a,xs,r,f _ _ e,b,g⟩
 |dT ks ds=>rw[Dn] at h; obtain⟨a,xs,r,e,b,g⟩:=h; exact⟨a,xs,r,u6 f e,b,g⟩
 |obj c ns ds=>rw[Dn] at h; obtain⟨a,dx,xs,r,e,b,g⟩:=h; exact⟨a,dx,xs,r,f _ _ e,b,g⟩
 |non=>exact h
 |bl _=>exact h
 |int _=>exact h
 |str _=>exact h
 |ty _=>exact h
theorem Cn.dn{H:Hp}{d:D}{v:V}(h:Cn Y H H d v):Dn Y H d v:=by
 cases d with
 |lst ds=>obtain⟨a,xs,r,e,b⟩:=h; rw[Dn]; exact⟨a,xs,r,e,b⟩
 |scr ds=>obtain⟨a,xs,r,e,b⟩:=h; rw[Dn]; exact⟨a,xs,r,e,b⟩
 |tup ds=>obtain⟨a,xs,r,e,b⟩:=h; rw[Dn]; exact⟨a,xs,r,e,b⟩
 |dK ks ds=>obtain⟨a,xs,r,e,b,f⟩:=h; rw[Dn]; exact⟨a,xs,r,e,b,f⟩
 |dT ks ds=>obtain⟨a,xs,r,e,b,f⟩:=h; rw[Dn]; exact⟨a,xs,r,e,b,f⟩
 |obj c ns ds=>obtain⟨a,dx,xs,r,e,b,f⟩:=h; rw[Dn]; exact⟨a,dx,xs,r,e,b,f⟩
 |non=>exact h
 |bl _=>exact h
 |int _=>exact h
 |str _=>exact h
 |ty _=>exact h
theorem Rel.hp(R:Rel Y T B U As Z H M)(k:Kd):Same (hp k B U H) H:=by
 cases k with
 |F=>exact R.bh
 |U=>exact R.uh
 |X=>exact Same.refl _
theorem PJ.imp{W X:Type}{K b:KT W X}{t:St->Hp->(X->Hp->Prop)->Prop}{m:Env->Res W}(h:PJ Y K E T t m)(f:∀ B U As Z H M d v N,Rel Y T B U As Z H M->K d v B U H N->b d v B U H N):PJ Y b E T t m:=by
 intro B U As Z H M Q R P;refine h B U As Z H M Q R ?_;cases e:m M with
 |ok d=>rw[e] at P; exact λv S J H' N a i g k=>P v S J H' N a i g (f _ _ _ _ _ _ _ _ _ a k)
 |exc c=>rw[e] at P; exact P
 |bad=>rw[e] at P; exact P
section
variable{t:TE}{m:Env->Res D}{k:Kd}{s:Sh}
theorem fu(h:PJ Y (KR Y .F) E T t m):PJ Y (KR Y .U) E T t m:=h.imp λ_ _ _ _ _ _ _ _ _ R q=>Dn.mono R.bu q
theorem ux(h:PJ Y (KR Y .U) E T t m):PJ Y (KR Y .X) E T t m:=h.imp λ_ _ _ _ _ _ _ _ _ R q=>Dn.mono R.uh q
theorem fx(h:PJ Y (KR Y .F) E T t m):PJ Y (KR Y .X) E T t m:=ux (fu h)
theorem rc(h:PJ Y (KR Y k) E T t m):PJ Y (KC Y k) E T t m:=h.imp λ_ _ _ _ _ _ _ _ _ R q=>Dn.cn (R.hp k) q
theorem cx(h:PJ Y (KC Y k) E T t m):PJ Y (KR Y .X) E T t m:=h.imp λ_ _ _ _ _ _ _ _ _ R q=>Cn.dn (Cn.mono (R.hp k) (Same.refl _) q)
theorem Rel.freeze{A:List Addr}(R:Rel Y T B U As Z H M)(h:∀ a∈A,U a=none/\∀ i,a∉As i):Rel Y T (Mi.frz B H A) (Mi.frz U H A) As Z H M/\Ex B U (Mi.frz B H A) (Mi.frz U H A):=by
 refine⟨R.grow (dk R.bh) (dk R.uh) (Same.refl _) (rG R.bu) (vz R.uh) λi a b=>?_,dk R.bh,dk R.uh,λa o q=>?_⟩
 · unfold Mi.frz;split
   ·rename_i z; exact absurd b ((h a z).2 i)
   ·exact R.un i a b
 · unfold Mi.frz at q;split at q
   ·rename_i z; exact .inr (.inl (h a z).1)
   ·exact .inl q
theorem Rel.apart(R:Rel Y T B U As Z H M){N:List Addr}{J:Hp}(n:New N H J As):∀ a∈N,∀ i,a∉As i:=λa b i=>R.fresh (n.fr a b) i
theorem oF(h:PJ Y (KO Y s) E T t m):PJ Y (KR Y .F) E T t m:=by
 intro B U As Z H M Q R P;refine h B U As Z H M Q R ?_;cases e:m M with
 |ok d=>
   rw[e] at P;intro v S J H' N i g f j;obtain⟨R2,k⟩:=i.freeze λa b=>⟨f.un a b,R.apart f a b⟩;refine P v _ _ H' [] R2 ⟨g.toEx.trans k,g.h,λa o q=>?_⟩ New.nil (Ow.dn (dk i.bh) (λa b o q=>?_) j)
   · unfold Mi.frz at q;split at q
     ·rename_i z; exact .inr (.inl (f.fr a z))
     ·exact g.fr a o q
   ·unfold Mi.frz;rw[if_pos b];exact q
 |exc c=>rw[e] at P; exact P
 |bad=>rw[e] at P; exact P
theorem oc(h:PJ Y (KO Y (.ct .fz)) E T t m):PJ Y (KC Y .F) E T t m:=rc (oF h)
end
theorem g6{W:Type}{l:List (Option W)}{i:Nat}{x:W}(h:rg l i=some x):l[i]?=some (some x):=by
 unfold rg at h;cases e:l[i]? with
 |none=>rw[e] at h; cases h
 |some o=>rw[e] at h; exact congrArg some h
theorem va{K:KT D V}{i:Nat}(f:∀ (B U:Hp) (A:List Addr) (H:Hp) (d:D) (v:V) (s:Option V),Same B U->Same U H->Lo Y B U H (T.getD i .F) (some d) s A->s=some v->K d v B U H []):PJ Y K E T (iz i) (vr i):=by
 intro B U As Z H M Q R P;unfold vr at P;have l:=R.lo i;cases e:rg M i with
 |none=>rw[e] at P; exact P.elim
 |some d=>
   rw[e] at P l;obtain⟨v,a,q⟩:=id l;exact⟨v,g6 a,P v B U H [] R (Gw.refl _ _ _) New.nil (f B U _ H d v _ R.bu R.uh l a)⟩
theorem jA{B U H:Hp}{m:Md}{d:D}{v:V}{s:Option V}{A:List Addr}(l:Lo Y B U H m (some d) s A)(b:s=some v):LoV Y B U H m d v A:=by
 obtain⟨w,a,q⟩:=l;rw[b] at a;cases a;exact q
theorem xF{i:Nat}(b:T.getD i .F= .F):PJ Y (KR Y .F) E T (iz i) (vr i):=va λB U As H d v s _ _ l a=>by
 rw[b] at l;exact(jA l a).1
theorem xR{i:Nat}(b:T.getD i .F= .R):PJ Y (KR Y .U) E T (iz i) (vr i):=va λB U As H d v s _ _ l a=>by
 rw[b] at l;exact(jA l a).1
theorem xO{i:Nat}{a:Sh}(e:T.getD i .F= .O a):PJ Y (KR Y .X) E T (iz i) (vr i):=va λB U As H d v s b u l c=>by
 rw[e] at l;exact Ow.dn (b.trans u) (λ_ _ _ q=>q) (jA l c)
theorem Ow.cn{B H:Hp}{d:D}{v:V}{A:List Addr}(f:Same B H)(h:Ow Y B H d (.ct .fz) v A):Cn Y B H d v:=by
 cases d with
 |lst ds=>rw[Ow] at h; obtain⟨a,xs,j,r,b,e,i⟩:=h; exact⟨a,xs,r,b,(Ows.fz i).1⟩
 |dK ks ds=>rw[Ow] at h; obtain⟨a,xs,j,r,b,e,i,g⟩:=h; exact⟨a,xs,r,b,e,(Ows.fz g).1⟩
 |dT ks ds=>rw[Ow] at h; obtain⟨a,xs,j,r,b,e,i,g⟩:=h; exact⟨a,xs,r,.inl b,e,(Ows.fz g).1⟩
 |scr ds=>simp[Ow] at h
 |tup ds=>simp[Ow] at h
 |obj c ns ds=>simp[Ow] at h
 |non=>simp[Ow] at h
 |bl _=>simp[Ow] at h
 |int _=>simp[Ow] at h
 |str _=>simp[Ow] at h
 |ty _=>simp[Ow] at h
theorem xC{i:Nat}(c:T.getD i .F= .O (.ct .fz)):PJ Y (KC Y .F) E T (iz i) (vr i):=va λB U As H d v s b u l a=>by
 rw[c] at l;exact Ow.cn (b.trans u) (jA l a)
theorem R8{d:D}{v:V}(h:∀ G,Dn Y G d v):PJ Y (KR Y .F) E T (tC v) (aI d):=λB U As Z H M Q R P=>P v B U H [] R (Gw.refl _ _ _) New.nil (h _)
theorem pI{i:Int}:PJ Y (KR Y .F) E T (tC (.int i)) (aI (.int i)):=R8 λ_=>by rw[Dn]
theorem pB{b:Bool}:PJ Y (KR Y .F) E T (tC (.bl b)) (aI (.bl b)):=R8 λ_=>by rw[Dn]
theorem pS{x:Str}:PJ Y (KR Y .F) E T (tC (.str x)) (aI (.str x)):=R8 λ_=>by rw[Dn]
theorem pN:PJ Y (KR Y .F) E T (tC .non) (aI .non):=R8 λ_=>by rw[Dn]
theorem pT{n:String}:PJ Y (KR Y .F) E T (tC (.ty n)) (aI (.ty n)):=R8 λ_=>by rw[Dn]
end
def Ee(a:Bool)(x y:D):Res D:=if rq y=true then .ok (.bl (a.xor (rq x))) else .bad
def db(m:Env->Res D):Env->Res Bool:=λM=>(m M).bind KE
def tp(a b:Env->Res Bool):Env->Res Bool:=λM=>(a M).bind λc=>if c=true then b M else .ok false
def zv(a b:Env->Res Bool):Env->Res Bool:=λM=>(a M).bind λc=>if c=true then .ok true else b M
def pX(a:Env->Res Bool):Env->Res Bool:=λM=>(a M).bind λc=> .ok (!c)
section
variable{Y:Cm}{E:XK}{T:List Md}
def S2(Y:Cm)(r:R2)(f:D->D->Res D):Prop:=∀ H x y v u,Dn Y H x v->Dn Y H y u->match f x y with
 |.ok d=>∃ w,(∀ G,Dn Y G d w)/\∀ Q:VK,Q w H->r v u H Q
 |.exc _=>False
 |.bad=>True
def S1(Y:Cm)(r:V->Hp->VK->Prop)(f:D->Res D):Prop:=∀ H x v,Dn Y H x v->match f x with
 |.ok d=>∃ w,(∀ G,Dn Y G d w)/\∀ Q:VK,Q w H->r v H Q
 |.exc _=>False
 |.bad=>True
section
variable{r:R2}{r1:V->Hp->VK->Prop}{rb:List V->Hp->VK->Prop}{f:D->D->Res D}{f1:D->Res D}{ta tb:TE}{ma mb:Env->Res D}
theorem av(h:S2 Y r f)(j:PJ Y (KR Y .X) E T ta ma)(i:PJ Y (KR Y .X) E T tb mb):PJ Y (KR Y .F) E T (Mr r ta tb) (bn f ma mb):=by
 intro B U As Z H M Q R P;refine j.bnd R P λx v I U1 L O _ o A z N s=>i.bnd o s λy u p n b C _ R2 l t m a=>?_;have q:=h b x y v u (Dn.mono l.h N) m;cases e:f x y with
 |ok d=>
   rw[e] at q a;obtain⟨w,g,k⟩:=q;exact k Q (a w p n b [] R2 (Gw.refl _ _ _) New.nil (g _))
 |exc c=>rw[e] at q; exact q.elim
 |bad=>rw[e] at a; exact a.elim
theorem Oi(h:S1 Y r1 f1)(b:PJ Y (KR Y .X) E T ta ma):PJ Y (KR Y .F) E T (tUn r1 ta) (un f1 ma):=by
 intro B U As Z H M Q R P;refine b.bnd R P λx v I U1 L O _ f i g N s=>?_;have q:=h L x v N;cases e:f1 x with
 |ok d=>
   rw[e] at q s;obtain⟨w,a,k⟩:=q;exact k Q (s w I U1 L [] f (Gw.refl _ _ _) New.nil (a _))
 |exc c=>rw[e] at q; exact q.elim
 |bad=>rw[e] at s; exact s.elim
theorem fy(h:S1 Y (λv H Q=>rb [v] H Q) f1)(a:PJ Y (KR Y .X) E T ta ma):PJ Y (KR Y .F) E T (DB rb (b9 ta d8)) (un f1 ma):=Oi h a
theorem hC(h:S2 Y (λv u H Q=>rb [v,u] H Q) f)(b:PJ Y (KR Y .X) E T ta ma)(a:PJ Y (KR Y .X) E T tb mb):PJ Y (KR Y .F) E T (DB rb (b9 ta (b9 tb d8))) (bn f ma mb):=av h b a
end
theorem S2.imp{r a:R2}{f:D->D->Res D}(h:S2 Y r f)(k:∀ x y H Q,r x y H Q->a x y H Q):S2 Y a f:=by
 intro H x y v u g b;have q:=h H x y v u g b;cases e:f x y with
 |ok d=>
   rw[e] at q;obtain⟨w,i,q⟩:=q;exact⟨w,i,λQ z=>k _ _ _ _ (q Q z)⟩
 |exc c=>rw[e] at q; exact q
 |bad=>trivial
theorem UY{g:Int->Int->Int}:S2 Y (BA λi j=> .int (g i j)) (iI g):=by
 intro H x y v u b a;cases x with
 |int i=>
   cases y with
   |int j=>
     rw[Dn] at b; rw[Dn] at a;subst b a;exact⟨.int (g i j),λ_=>by rw[Dn],λQ q=>⟨i,j,rfl,rfl,q⟩⟩
   |_=>trivial
 |_=>trivial
theorem Vp{g:Int->Int->Bool}:S2 Y (BA λi j=> .bl (g i j)) (iB g):=by
 intro H x y v u b a;cases x with
 |int i=>
   cases y with
   |int j=>
     rw[Dn] at b; rw[Dn] at a;subst b a;exact⟨.bl (g i j),λ_=>by rw[Dn],λQ q=>⟨i,j,rfl,rfl,q⟩⟩
   |_=>trivial
 |_=>trivial
theorem RX{C:Int->Int->Prop}{c:Int->Int->Bool}{g:Int->Int->Int}(d:∀ i j,c i j=true->C i j):S2 Y (rI C λi j=> .int (g i j)) (iC c g):=by
 intro H x y v u b a;cases x with
 |int i=>
   cases y with
   |int j=>
     rw[Dn] at b; rw[Dn] at a;subst b a;unfold iC;dsimp only;by_cases z:c i j=true
     ·rw[on z];exact⟨.int (g i j),λ_=>by rw[Dn],λQ q=>⟨i,j,rfl,rfl,d i j z,q⟩⟩
     ·rw[VM z];trivial
   |_=>trivial
 |_=>trivial
theorem gs:S2 Y (BA λi j=> .int (i+j)) jY:=UY
theorem kn:S2 Y (BA λi j=> .int (i-j)) mM:=UY
theorem wM:S2 Y (BA λi j=> .bl (decide (i<j))) EY:=Vp
theorem zj:S2 Y (BA λi j=> .bl (decide (j<i))) IL:=Vp
theorem Vo:S2 Y (BA λi j=> .bl (decide (j<=i))) Vb:=Vp
theorem qE:S2 Y (rI CMul λi j=> .int (i*j)) qZ:=RX λ_ _ h=>by simpa [CMul] using h
theorem gY:S2 Y (rI Rb λi j=> .int (i / j)) il:=RX λ_ _ h=>by simpa [Rb] using h
theorem cf:S2 Y (rI (λ_ j=>0<j) λi j=> .int (i%j)) dy:=RX λ_ _ h=>Wy h
theorem My:S2 Y (rI Ra λi j=> .int (i ^ j.toNat)) DR:=RX λ_ _ h=>by simpa [Ra] using h
theorem RT:S2 Y (rI (λ_ j=>0<=j) λi j=> .int (i / 2 ^ j.toNat)) Ft:=RX λ_ _ h=>Wy h
theorem AZ:S2 Y (λv u H Q=>∃ i j,[v,u]=[.int i,.int j]/\Q (.int (if j<i then j else i)) H) zB:=(UY (g:=λi j=>if j<i then j else i)).imp λx y H Q ⟨i,j,c,b,a⟩=>⟨i,j,by rw[c,b],a⟩
theorem qF:S2 Y (λv u H Q=>∃ i j,[v,u]=[.int i,.int j]/\Q (.int (if j>i then j else i)) H) tH:=(UY (g:=λi j=>if j>i then j else i)).imp λx y H Q ⟨i,j,c,b,a⟩=>⟨i,j,by rw[c,b],a⟩
theorem Mz:S1 Y (rU λi=> .int (-i)) Lr:=by
 intro H x v a;cases x with
 |int i=>
   rw[Dn] at a;subst a;exact⟨.int (-i),λ_=>by rw[Dn],λQ q=>⟨i,rfl,q⟩⟩
 |_=>trivial
theorem MB(c:Bool):S2 Y (λx y H Q=>Nu x y=true/\Q (.bl (c.xor (decide (x=y)))) H) (jr c):=by
 intro H x y v u b a;cases x with
 |int i=>
   cases y with
   |int j=>
     rw[Dn] at b; rw[Dn] at a;subst b a;exact⟨_,λ_=>by rw[Dn],λQ q=>⟨rfl,by simpa using q⟩⟩
   |non=>
     rw[Dn] at b; rw[Dn] at a;subst b a;exact⟨_,λ_=>by rw[Dn],λQ q=>⟨rfl,by simpa using q⟩⟩
   |_=>trivial
 |str i=>
   cases y with
   |str j=>
     rw[Dn] at b; rw[Dn] at a;subst b a;exact⟨_,λ_=>by rw[Dn],λQ q=>⟨rfl,by simpa using q⟩⟩
   |_=>trivial
 |bl i=>
   cases y with
   |bl j=>
     rw[Dn] at b; rw[Dn] at a;subst b a;exact⟨_,λ_=>by rw[Dn],λQ q=>⟨rfl,by simpa using q⟩⟩
   |_=>trivial
 |non=>
   cases y with
   |int j=>
     rw[Dn] at b; rw[Dn] at a;subst b a;exact⟨_,λ_=>by rw[Dn],λQ q=>⟨rfl,by simpa using q⟩⟩
   |non=>
     rw[Dn] at b; rw[Dn] at a;subst b a;exact⟨_,λ_=>by rw[Dn],λQ q=>⟨rfl,by simpa using q⟩⟩
   |_=>trivial
 |_=>cases y<;>trivial
theorem lV:S2 Y rEq (jr false):=(MB false).imp λx y H Q h=>⟨h.1,by simpa using h.2⟩
theorem i8:S2 Y rNe (jr true):=(MB true).imp λx y H Q h=>⟨h.1,by simpa using h.2⟩
theorem Dn.non{G:Hp}{d:D}{v:V}(h:Dn Y G d v):decide (v= .non)=rq d:=by
 cases d with
 |non=>rw[Dn] at h; subst h; rfl
 |bl _=>rw[Dn] at h; subst h; rfl
 |int _=>rw[Dn] at h; subst h; rfl
 |str _=>rw[Dn] at h; subst h; rfl
 |ty _=>rw[Dn] at h; subst h; rfl
 |lst _=>rw[Dn] at h; obtain⟨a,xs,e,_⟩:=h; subst e; rfl
 |scr _=>rw[Dn] at h; obtain⟨a,xs,e,_⟩:=h; subst e; rfl
 |tup _=>rw[Dn] at h; obtain⟨a,xs,e,_⟩:=h; subst e; rfl
 |dK _ _=>rw[Dn] at h; obtain⟨a,xs,e,_⟩:=h; subst e; rfl
 |dT _ _=>rw[Dn] at h; obtain⟨a,xs,e,_⟩:=h; subst e; rfl
 |obj _ _ _=>rw[Dn] at h; obtain⟨a,dx,xs,e,_⟩:=h; subst e; rfl
theorem RV:S2 Y (λx y H Q=>y= .non/\Q (.bl (decide (x= .non))) H) (Ee false):=by
 intro H x y v u b a;unfold Ee;by_cases e:rq y=true
 · rw[on e]
   have:decide (u= .non)=true:=by rw[Dn.non a]; exact e
   refine⟨_,λ_=>by rw[Dn],λQ q=>⟨Wy this,?_⟩⟩;rw[Dn.non b];simpa using q
 ·rw[VM e];trivial
theorem i9:S1 Y (λv H Q=>∃ p ys,[v]=[.ref p]/\(SqL Y.K H p ys\/SqT Y.K H p ys)/\Q (.int ys.length) H) lD:=by
 intro H x v b;cases x with
 |lst ds=>
   rw[Dn] at b;obtain⟨a,xs,rfl,d,c⟩:=b;exact⟨.int ds.length,λ_=>by rw[Dn],λQ q=>⟨a,xs,rfl,.inl (SqL.of d),by rw[<-c.len]; exact q⟩⟩
 |scr ds=>
   rw[Dn] at b;obtain⟨a,xs,rfl,d,c⟩:=b;exact⟨.int ds.length,λ_=>by rw[Dn],λQ q=>⟨a,xs,rfl,.inl d.sq,by rw[<-c.len]; exact q⟩⟩
 |tup ds=>
   rw[Dn] at b;obtain⟨a,xs,rfl,d,c⟩:=b;exact⟨.int ds.length,λ_=>by rw[Dn],λQ q=>⟨a,xs,rfl,.inr (SqT.of d),by rw[<-c.len]; exact q⟩⟩
 |_=>trivial
theorem R6{ta:TE}{a:Env->Res D}(c:PJ Y (KR Y .X) E T ta a):PJ Y (KR Y .F) E T (Ms ta) (un OO a):=by
 intro B U As Z H M Q R P;refine c.bnd R P λx v I U1 L O _ d f e N s=>?_;cases x with
 |bl b=>
   have N:Dn Y L (.bl b) v:=N;rw[Dn] at N;exact⟨b,N,s _ I U1 L [] d (Gw.refl _ _ _) New.nil (show Dn Y _ (.bl (!b)) _ by rw[Dn])⟩
 |_=>exact s.elim
theorem MI{t:TE}{m:Env->Res D}(h:PJ Y (KR Y .X) E T t m):PJ Y KB E T (λZ H Q=>t Z H λx L=>∃ c,x= .bl c/\Q c L) (db m):=by
 intro B U As Z H M Q R P;refine h.bnd R P λx v I U1 L O _ a e d N s=>?_;cases x with
 |bl b=>
   have N:Dn Y L (.bl b) v:=N;rw[Dn] at N;exact⟨b,N,s _ I U1 L [] a (Gw.refl _ _ _) New.nil rfl⟩
 |_=>exact s.elim
theorem lC{t:TE}{m:Env->Res D}(h:PJ Y (KR Y .X) E T t m):PJ Y KB E T (tB t) (db m):=MI h
theorem bS{t:TE}{m:Env->Res D}(h:PJ Y (KR Y .X) E T t m):PJ Y KB E T (Mq t) (db m):=MI h
theorem jw{t u:TT}{m n:Env->Res Bool}(h:PJ Y KB E T t m)(k:PJ Y KB E T u n):PJ Y KB E T (Rv t u) (tp m n):=by
 intro B U As Z H M Q R P;refine h.bnd R P λx v I U1 L O _ a c b N s=>?_;cases N;cases x with
 |true=>exact k I U1 As Z L M Q a s
 |false=>exact s _ I U1 L [] a (Gw.refl _ _ _) New.nil rfl
theorem ky{t u:TT}{m n:Env->Res Bool}(h:PJ Y KB E T t m)(k:PJ Y KB E T u n):PJ Y KB E T (tOr t u) (zv m n):=by
 intro B U As Z H M Q R P;refine h.bnd R P λx v I U1 L O _ a c b N s=>?_;cases N;cases x with
 |false=>exact k I U1 As Z L M Q a s
 |true=>exact s _ I U1 L [] a (Gw.refl _ _ _) New.nil rfl
theorem f6{t:TT}{m:Env->Res Bool}(h:PJ Y KB E T t m):PJ Y KB E T (Rq t) (pX m):=by
 intro B U As Z H M Q R P;refine h.bnd R P λx v I U1 L O _ a c b N s=>?_;cases N;exact s _ I U1 L [] a (Gw.refl _ _ _) New.nil rfl
theorem R9{k:Kd}{ta tb:TE}{a d:Env->Res D}(h:PJ Y (KR Y .X) E T ta a)(g:PJ Y (KR Y k) E T tb d):PJ Y (KR Y k) E T (Mw ta tb) (Mb a d):=by
 intro B U As Z H M Q R P;unfold Mb at P
 have i:Po Y (KR Y k) E T B U As Z H M ((a M).bind λx=>(KE x).bind λc=>if c=true then d M else .ok (.bl false)) Q:=by
  cases e:a M<;>(rw[e] at P; exact P)
 refine h.bnd R i λx v I U1 L O _ f l j N s=>?_;cases x with
 |bl b=>
   have N:Dn Y L (.bl b) v:=N;rw[Dn] at N;refine⟨b,N,?_⟩;cases b with
   |true=>exact g I U1 As Z L M Q f s
   |false=>exact s _ I U1 L [] f (Gw.refl _ _ _) New.nil (show Dn Y _ (.bl false) _ by rw[Dn])
 |_=>exact s.elim
theorem R7{K:KT D V}{t:TT}{ta tb:TE}{m:Env->Res Bool}{b a:Env->Res D}(h:PJ Y KB E T t m)(e:PJ Y K E T ta b)(d:PJ Y K E T tb a):PJ Y K E T (tIf t ta tb) (PV m b a):=by
 intro B U As Z H M Q R P;refine h.bnd R P λx v I U1 L O _ c g f N s=>?_;cases N;cases x with
 |true=>exact e I U1 As Z L M Q c s
 |false=>exact d I U1 As Z L M Q c s
end
section
variable{Y:Cm}{E:XK}{T:List Md}{K:L0}
theorem f7{n:Nat}(h:n<=ak):n<sizeLine:=by
 have:=Xg
 unfold ak at h;omega
theorem Dd{G:Hp}{ds:List D}{xs:List V}{i:Int}{d:D}(h:Dns Y G ds xs)(e:kj ds i=some d):∃ v,kj xs i=some v/\Dn Y G d v:=by
 unfold kj at e ⊢;rw[<-h.len];cases q:IB ds.length i with
 |none=>rw[q] at e; cases e
 |some j=>
   rw[q] at e;exact h.get e
theorem iH{k:Kd}{ta tb:TE}{t p:Env->Res D}(C:PJ Y (KC Y k) E T ta t)(A:PJ Y (KR Y .X) E T tb p):PJ Y (KR Y k) E T (Mr (N5 Y.K) ta tb) (bn xD t p):=by
 intro B U As Z H M Q R P;refine C.bnd R P λx v I U1 L O _ G V S N s=>A.bnd G s λy u o n j W _ R2 z J b g=>?_;have c:=Cn.mono (jD z) z.h N;have b:Dn Y j y u:=b
 have f:∀ (ds:List D) (i:Int),Po Y (KR Y k) E T o n As Z j M (L9 ds i) Q->∀ xs,Dns Y (hp k o n j) ds xs->∃ w,kj xs i=some w/\Q w j:=λds i P3 xs h=>by
  unfold L9 at P3;cases q:kj ds i with
  |none=>rw[q] at P3; exact P3.elim
  |some d=>
    rw[q] at P3;obtain⟨w,e,F⟩:=Dd h q;exact⟨w,e,P3 w o n j [] R2 (Gw.refl _ _ _) New.nil F⟩
 cases x with
 |lst ds=>
   cases y with
   |int i=>
     rw[Dn] at b;obtain⟨a,xs,r,m,l⟩:=c;obtain⟨w,e,q⟩:=f ds i g xs l;exact⟨a,xs,i,w,r,b,SqL.of m,e,q⟩
   |_=>exact g.elim
 |scr ds=>
   cases y with
   |int i=>
     rw[Dn] at b;obtain⟨a,xs,r,m,l⟩:=c;obtain⟨w,e,q⟩:=f ds i g xs l;exact⟨a,xs,i,w,r,b,m.sq,e,q⟩
   |_=>exact g.elim
 |_=>cases y<;>exact g.elim
theorem o3{k:Kd}{ta tb:TE}{j g:Env->Res D}(t:PJ Y (KC Y k) E T ta j)(p:PJ Y (KR Y .X) E T tb g):PJ Y (KR Y k) E T (Mr (N0 K) ta tb) (bn KA j g):=by
 intro B U As Z H M Q R P;refine t.bnd R P λx v I U1 L O _ F S J N s=>p.bnd F s λy u n m f V _ R2 l G b e=>?_;have c:=Cn.mono (jD l) l.h N;have b:Dn Y f y u:=b;cases x with
 |tup ds=>
   cases y with
   |int i=>
     rw[Dn] at b;obtain⟨a,xs,r,A,z⟩:=c;have P3:Po Y (KR Y k) E T n m As Z f M (L9 ds i) Q:=e;unfold L9 at P3;cases q:kj ds i with
     |none=>rw[q] at P3; exact P3.elim
     |some d=>
       rw[q] at P3;obtain⟨w,o,C⟩:=Dd z q;exact⟨a,xs,i,w,r,b,SqT.of A,o,P3 w n m f [] R2 (Gw.refl _ _ _) New.nil C⟩
   |_=>exact e.elim
 |_=>cases y<;>exact e.elim
theorem aM{k:Kd}:PJ Y (KL Y k) E T d8 ba:=λB U As Z H M Q R P=>P [] B U H [] R (Gw.refl _ _ _) New.nil (show Dns Y _ [] [] by rw[Dns])
theorem ao{k:Kd}{ta:TE}{a:TA}{c:Env->Res D}{b:Env->Res (List D)}(e:PJ Y (KR Y k) E T ta c)(d:PJ Y (KL Y k) E T a b):PJ Y (KL Y k) E T (b9 ta a) (au c b):=by
 intro B U As Z H M Q R P;refine e.bnd R P λx v I U1 L O _ i p o N s=>d.bnd i s λy u m h l q _ R2 f n g j=>?_;refine j (v::u) m h l [] R2 (Gw.refl _ _ _) New.nil ?_;show Dns Y _ (x::y) (v::u);rw[Dns];exact⟨v,u,rfl,Dn.mono (jD f) N,g⟩
variable{B U H:Hp}{As:Nat->List Addr}{Z:St}{M:Env}
theorem Gw.newO(R:Rel Y T B U As Z H M){p:Addr}{o:HO}(h:H p=none):Gw B U H B U (upd H p o):=⟨Ex.refl _ _,Gd.ce h,λ_ _ q=> .inl q⟩
theorem Gw.newB(R:Rel Y T B U As Z H M){p:Addr}{o:HO}(h:H p=none):Gw B U H (upd B p o) (upd U p o) (upd H p o):=⟨Ex.newB R h,Gd.ce h,λa u q=>by
 by_cases z:a=p
 ·subst z; exact .inr (.inl h)
 ·rw[bc z] at q; exact .inl q⟩
theorem Gw.newU(R:Rel Y T B U As Z H M){p:Addr}{o:HO}(h:H p=none):Gw B U H B (upd U p o) (upd H p o):=⟨Ex.newU R h,Gd.ce h,λa u q=>by
 by_cases z:a=p
 ·subst z; exact .inr (.inl h)
 ·rw[bc z] at q; exact .inl q⟩
theorem New.one(R:Rel Y T B U As Z H M){p:Addr}(h:H p=none):New [p] H U As:=⟨by simp,λa b=>by rw[List.mem_singleton.mp b]; exact h,λa b=>by rw[List.mem_singleton.mp b]; exact R.uh.free h⟩
theorem fB(R:Rel Y T B U As Z H M){ds:List D}{xs:List V}{Q:VK}(P:Po Y (KO Y (.ct .fz)) E T B U As Z H M (.ok (.lst ds)) Q)(h:Dns Y B ds xs){p:Addr}(hp:H p=none):Q (.ref p) (upd H p (.lst xs)):=
 P (.ref p) B U _ [p] (R.new hp) (Gw.newO R hp) (New.one R hp) (by
  show Ow Y B _ (.lst ds) (.ct .fz) (.ref p) [p];rw[Ow]
  exact⟨p,xs,[],rfl,bv,rfl,Ows.of h⟩)
theorem Hh(R:Rel Y T B U As Z H M){ds:List D}{xs:List V}{Q:VK}(P:Po Y (KR Y .U) E T B U As Z H M (.ok (.lst ds)) Q)(h:Dns Y U ds xs){p:Addr}(hp:H p=none):Q (.ref p) (upd H p (.lst xs)):=
 P (.ref p) B _ _ [] (R.newU hp) (Gw.newU R hp) New.nil (by
  show Dn Y (upd U p (.lst xs)) (.lst ds) (.ref p);rw[Dn]
  exact⟨p,xs,rfl,bv,h.mono (Gd.ce (R.uh.free hp))⟩)
theorem xo(R:Rel Y T B U As Z H M){ds:List D}{xs:List V}{Q:VK}(P:Po Y (KR Y .F) E T B U As Z H M (.ok (.tup ds)) Q)(h:Dns Y B ds xs){p:Addr}(hp:H p=none):Q (.ref p) (upd H p (.tup xs)):=
 P (.ref p) _ _ _ [] (R.newB hp) (Gw.newB R hp) New.nil (by
  show Dn Y (upd B p (.tup xs)) (.tup ds) (.ref p);rw[Dn]
  exact⟨p,xs,rfl,bv,h.mono (Gd.ce (R.bh.free hp))⟩)
section
variable{t:TA}{m:Env->Res (List D)}
theorem eC(h:PJ Y (KL Y .F) E T t m):PJ Y (KO Y (.ct .fz)) E T (Rr t) (qc m):=by
 intro B U As Z H M Q R P;refine h.bnd R P λds xs I U1 L O _ a c b N s=>?_;by_cases z:ds.length<=ak
 ·rw[on z] at s;have N:Dns Y I ds xs:=N;exact⟨WO (f7 (by rw[<-N.len]; exact z)),λp hp=>fB a s N hp⟩
 ·rw[VM z] at s;exact s.elim
theorem c8(h:PJ Y (KL Y .F) E T t m):PJ Y (KR Y .F) E T (Rn t) (kh m):=by
 intro B U As Z H M Q R P;refine h.bnd R P λds xs I U1 L O _ a c b N s=>?_;by_cases z:ds.length<=ak
 ·rw[on z] at s;have N:Dns Y I ds xs:=N;exact⟨WO (f7 (by rw[<-N.len]; exact z)),λp hp=>xo a s N hp⟩
 ·rw[VM z] at s;exact s.elim
end
theorem ub:PJ Y (KO Y (.ct .fz)) E T Fe (aI (.dT [] [])):=by
 intro B U As Z H M Q R P p hp;refine P (.ref p) B U _ [p] (R.new hp) (Gw.newO R hp) (New.one R hp) ?_;show Ow Y B _ (.dT [] []) (.ct .fz) (.ref p) [p];rw[Ow];exact⟨p,[],[],rfl,bv,rfl,rfl,Ows.of (by rw[Wv,Dns])⟩
theorem QJ{G:Hp}{x y:D}{v u:V}(j:Cn Y G H x v)(i:Cn Y G H y u){C:Res D->Prop}(d:C .bad->False)(P:C (yF x y)){Q:VK}
 (h:∀ ds es xs ys,Dns Y G (ds++es) (xs++ys)->C (.ok (.lst (ds++es)))->∀ p,H p=none->Q (.ref p) (upd H p (.lst (xs++ys)))):N7 v u H Q:=by
 cases x with
 |lst ds=>
   cases y with
   |lst es=>
     obtain⟨a,xs,r,l,f⟩:=j;obtain⟨b,ys,g,k,e⟩:=i;have c:C (if ds.length+es.length<=ak then .ok (.lst (ds++es)) else .bad):=P;by_cases z:ds.length+es.length<=ak
     ·rw[on z] at c;exact⟨a,b,xs,ys,r,g,l,k,WO (f7 (by rw[<-f.len,<-e.len]; exact z)),h ds es xs ys (f.append e) c⟩
     ·rw[VM z] at c;exact(d c).elim
   |_=>exact(d P).elim
 |_=>cases y<;>exact(d P).elim
theorem xf{ta tb:TE}{c a:Env->Res D}(g:PJ Y (KC Y .F) E T ta c)(f:PJ Y (KC Y .F) E T tb a):PJ Y (KO Y (.ct .fz)) E T (Mr N7 ta tb) (bn yF c a):=by
 intro B U As Z H M Q R P;refine g.bnd R P λx v I U1 L O _ k q o N s=>f.bnd k s λy u e j m t _ R2 d n i l=>?_;exact QJ (G:=e) (Cn.mono d.b d.h N) i (C:=λr=>Po Y (KO Y (.ct .fz)) E T e j As Z m M r Q) (λh=>h) l λds es xs ys h P3 p hp=>fB R2 P3 h hp
theorem D9{G:Hp}{x:D}{v:V}(d:Cn Y G H x v){C:Res D->Prop}(e:C .bad->False)(P:C (om x)){Q:VK}
 (h:∀ ds xs,Dns Y G ds xs->C (.ok (.lst ds))->∀ p,H p=none->Q (.ref p) (upd H p (.lst xs))):∃ p ys,[v]=[.ref p]/\(SqL Y.K H p ys\/SqT Y.K H p ys)/\∀ l,H l=none->Q (.ref l) (upd H l (.lst ys)):=by
 cases x with
 |lst ds=>
   obtain⟨a,xs,r,c,b⟩:=d;exact⟨a,xs,by rw[r],.inl (SqL.of c),h ds xs b P⟩
 |scr ds=>
   obtain⟨a,xs,r,c,b⟩:=d;exact⟨a,xs,by rw[r],.inl c.sq,h ds xs b P⟩
 |tup ds=>
   obtain⟨a,xs,r,c,b⟩:=d;exact⟨a,xs,by rw[r],.inr (SqT.of c),h ds xs b P⟩
 |_=>exact(e P).elim
theorem zt{ta:TE}{a:Env->Res D}(b:PJ Y (KC Y .F) E T ta a):
 PJ Y (KO Y (.ct .fz)) E T (DB (λxs H Q=>∃ p ys,xs=[.ref p]/\(SqL Y.K H p ys\/SqT Y.K H p ys)/\∀ l,H l=none->Q (.ref l) (upd H l (.lst ys))) (b9 ta d8)) (un om a):=by
 intro B U As Z H M Q R P;refine b.bnd R P λx v I U1 L O _ c e d N s=>?_;exact D9 (G:=I) N (C:=λr=>Po Y (KO Y (.ct .fz)) E T I U1 As Z L M r Q) (λh=>h) s λds xs h P3 p hp=>fB c P3 h hp
def Dw:D->Res D | .lst xs=> .ok (.tup xs)|_=> .bad
theorem qa{ta:TE}{b:Env->Res D}(c:PJ Y (KC Y .F) E T ta b):
 PJ Y (KR Y .F) E T (DB (λxs H Q=>∃ p ys,xs=[.ref p]/\((SqL K H p ys/\∀ l,H l=none->Q (.ref l) (upd H l (.tup ys)))\/(SqT K H p ys/\Q (.ref p) H))) (b9 ta d8)) (un Dw b):=by
 intro B U As Z H M Q R P;refine c.bnd R P λx v I U1 L O _ f h g N s=>?_;cases x with
 |lst ds=>
   obtain⟨a,xs,r,e,d⟩:=N;exact⟨a,xs,by rw[r],.inl ⟨SqL.of e,λp hp=>xo f s d hp⟩⟩
 |_=>exact s.elim
theorem jB{G:Hp}:∀ {ds:List D} {xs:List V} {k:List b6},fe ds=some k->Dns Y G ds xs->xs=k.map kV
 |[],_,_,e,h=>by rw[Dns] at h; cases e; rw[h]; rfl
 | d::ds,_,k,e,h=>by
   rw[Dns] at h;obtain⟨x,r,rfl,a,c⟩:=h;unfold fe at e;cases q:ph d with
   |none=>rw[q] at e; cases e
   |some f=>
     cases b:fe ds with
     |none=>rw[q,b] at e; cases e
     |some ks=>
       rw[q,b] at e;cases e;rw[jB b c,VQ];congr 1;cases d with
       |int i=>cases q; rw[Dn] at a; exact a
       |str x=>cases q; rw[Dn] at a; exact a
       |_=>cases q
theorem xz{G:Hp}{d:D}{v:V}{k:b6}(e:ph d=some k)(h:Dn Y G d v):v=kV k:=by
 cases d with
 |int i=>cases e; rw[Dn] at h; exact h
 |str x=>cases e; rw[Dn] at h; exact h
 |_=>cases e
def OI(Y:Cm)(G:Hp):Option D->Option V->Prop
 |some d,r=>∃ v,r=some v/\Dn Y G d v
 |none,r=>r=none
section
variable{W:Type}[DecidableEq W]
theorem mY{G:Hp}:∀ {a:List (W×V)} {ds:List D} (j:W),Dns Y G ds (a.map (·.2))->OI Y G (du (a.map (·.1)) ds j) (km a j)
 | [],ds,j,h=>by
   cases ds with
   |nil=>exact E4
   |cons d ds=>rw[Dns] at h; obtain⟨x,r,e,_⟩:=h; cases e
 | p::a,ds,j,h=>by
   cases ds with
   |nil=>rw[Dns] at h; cases h
   |cons d ds=>
     rw[List.map_cons,Dns] at h;obtain⟨x,r,e,c,b⟩:=h;cases e;rw[List.map_cons];unfold du;by_cases q:p.1=j
     ·rw[on q];exact⟨p.2,mK q,c⟩
     ·rw[VM q,mL q];exact mY j b
end
theorem qh{G:Hp}{d k:D}{v u:V}{o:Option D}(hd:Cn Y G H d v)(h:Dn Y H k u)(e:nc d k=some o):∃ a r,v= .ref a/\UT H a/\DGet H a u r/\OI Y G o r:=by
 cases d with
 |dT ks vs=>
   obtain⟨a,c,rfl,g,j,i⟩:=hd;cases k with
   |tup p=>
     have e:(fe p).map (λk=>du ks vs k)=some o:=e;obtain⟨f,n,m⟩:=Option.map_eq_some_iff.mp e;rw[Dn] at h;obtain⟨b,xs,rfl,s,q⟩:=h;have ex:=jB n q;subst ex;refine⟨a,km c f,rfl,.inr ⟨c,g⟩,.inr ⟨c,_,_,g,rfl,s,rfl⟩,?_⟩;have l:=mY (W:=List b6) f i;rw[j,m] at l;exact l
   |_=>cases e
 |dK ks vs=>
   obtain⟨a,c,rfl,g,j,i⟩:=hd;have e:(ph k).map (λk=>du ks vs k)=some o:=by cases k<;>exact e
   obtain⟨f,n,m⟩:=Option.map_eq_some_iff.mp e;have ex:=xz n h;subst ex;refine⟨a,km c f,rfl,.inl ⟨c,.inl g⟩,DGet.k g,?_⟩;have l:=mY (W:=b6) f i;rw[j,m] at l;exact l
 |_=>cases k<;>cases e
theorem kG{k:Kd}{e c:TE}{f mk:Env->Res D}(hd:PJ Y (KC Y k) E T e f)(j:PJ Y (KR Y .X) E T c mk):PJ Y (KR Y k) E T (Mv e c) (bn ji f mk):=by
 intro B U As Z H M Q R P;refine hd.bnd R P λx v I U1 L O _ z J G N s=>j.bnd z s λy u C t A K _ R2 i F p b=>?_;unfold ji at b;cases q:nc x y with
 |none=>rw[q] at b; exact b.elim
 |some o=>
   obtain⟨a,r,m,_,g,l⟩:=qh (Cn.mono (jD i) i.h N) p q;cases o with
   |none=>rw[q] at b; exact b.elim
   |some d=>
     rw[q] at b;obtain⟨w,rfl,n⟩:=l;exact⟨a,w,m,g,b w C t A [] R2 (Gw.refl _ _ _) New.nil n⟩
theorem MK{k:Kd}{e c:TE}{f mk:Env->Res D}(i:PJ Y (KR Y .X) E T c mk)(hd:PJ Y (KC Y k) E T e f):PJ Y (KR Y .F) E T (Ru c e) (bn (rQ false) mk f):=by
 intro B U As Z H M Q R P;refine i.bnd R P λy u I U1 L O _ t J G N s=>hd.bnd t s λx v A p z K _ R2 m C n b=>?_;unfold rQ at b;cases q:nc x y with
 |none=>rw[q] at b; exact b.elim
 |some o=>
   rw[q] at b;obtain⟨a,r,j,_,g,l⟩:=qh n (Dn.mono m.h N) q;refine⟨a,r,j,g,b _ A p z [] R2 (Gw.refl _ _ _) New.nil ?_⟩;show Dn Y _ (.bl (false.xor o.isSome)) _;rw[Dn];cases o with
   |none=>rw[show r=none from l]; rfl
   |some d=>obtain⟨w,rfl,_⟩:=l; rfl
theorem GQ{k:Kd}{e c:TE}{f mk:Env->Res D}(i:PJ Y (KR Y .X) E T c mk)(hd:PJ Y (KC Y k) E T e f):PJ Y (KR Y .F) E T (AO c e) (bn (rQ true) mk f):=by
 intro B U As Z H M Q R P;refine i.bnd R P λy u I U1 L O _ t J G N s=>hd.bnd t s λx v A p z K _ R2 m C n b=>?_;unfold rQ at b;cases q:nc x y with
 |none=>rw[q] at b; exact b.elim
 |some o=>
   rw[q] at b;obtain⟨a,r,j,_,g,l⟩:=qh n (Dn.mono m.h N) q;refine⟨a,r,j,g,b _ A p z [] R2 (Gw.refl _ _ _) New.nil ?_⟩;show Dn Y _ (.bl (true.xor o.isSome)) _;rw[Dn];cases o with
   |none=>rw[show r=none from l]; rfl
   |some d=>obtain⟨w,rfl,_⟩:=l; rfl
def IE:D->Bool | .dT _ _=>true | .dK _ _=>true|_=>false
theorem Cn.dic{G:Hp}{d:D}{v:V}(h:Cn Y G H d v)(e:IE d=true):∃ a,v= .ref a/\UT H a:=by
 cases d with
 |dT ks vs=>obtain⟨a,b,r,c,_⟩:=h; exact⟨a,r,.inr ⟨b,c⟩⟩
 |dK ks vs=>obtain⟨a,b,r,c,_⟩:=h; exact⟨a,r,.inl ⟨b,.inl c⟩⟩
 |_=>cases e
def B7(b mk a:Env->Res D):Env->Res D:=λM=>(b M).bind λd=>if IE d=true then (mk M).bind λk=>(a M).bind λx=>vH d k x else .bad
theorem BH{k:Kd}{j i f:TE}{n mk m:Env->Res D}(hd:PJ Y (KC Y k) E T j n)(V:PJ Y (KR Y .X) E T i mk)(S:PJ Y (KR Y k) E T f m):PJ Y (KR Y k) E T (Ff j i f) (B7 n mk m):=by
 intro B U As Z H M Q R P;refine hd.bnd R P λx v I U1 L O _ R1 e1 n1 N s=>?_;by_cases z:IE x=true
 · rw[if_pos z] at s;obtain⟨a,p,W⟩:=Cn.dic N z;refine⟨a,p,W,V.bnd R1 s λy u B2 U2 H2 N2 _ R2 t n2 d2 P2=>S.bnd R2 P2 λw J G A F N3 _ C e n3 d3 P3=>?_⟩;unfold vH at P3;have c:=Cn.mono (jD (t.trans e)) (t.trans e).h N;cases q:nc x y with
   |none=>rw[q] at P3; exact P3.elim
   |some o=>
     rw[q] at P3;obtain⟨a',r,b,_,g,l⟩:=qh c (Dn.mono e.h d2) q;rw[p] at b;cases b;cases o with
     |none=>
       refine⟨r,g,?_⟩;rw[show r=none from l];exact P3 J G A F [] C (Gw.refl _ _ _) New.nil d3
     |some d=>
       obtain⟨K,rfl,dw⟩:=l;exact⟨_,g,P3 K G A F [] C (Gw.refl _ _ _) New.nil dw⟩
 ·rw[VM z] at s;exact s.elim
end
section
variable{Y:Cm}{E:XK}{T:List Md}{K:L0}{B U H:Hp}{As:Nat->List Addr}{Z:St}{M:Env}
theorem xx{G:Hp}:∀ {fs:List (Str×V)} {ds:List D} {f:Str} {d:D},Dns Y G ds (fs.map (·.2))->du (fs.map (·.1)) ds f=some d->∃ v,fs.lookup f=some v/\Dn Y G d v
 |[],ds,f,d,h,e=>by cases ds<;>cases e
 | p::fs,ds,f,d,h,e=>by
   cases ds with
   |nil=>cases e
   |cons j ds=>
     rw[List.map_cons,Dns] at h;obtain⟨x,r,g,c,b⟩:=h;cases g;rw[List.map_cons] at e;unfold du at e;by_cases q:p.1=f
     ·rw[on q] at e;cases e;exact⟨p.2,by rw[Ws,<-q,WU],c⟩
     · rw[VM q] at e;obtain⟨v,a,i⟩:=xx b e
       have:(f==p.1)=false:=beq_eq_false_iff_ne.mpr λz=>q z.symm
       exact⟨v,by rw[Ws,this]; exact a,i⟩
theorem Owf.get{B H:Hp}{c:List (Str×Sh)}:∀ {fs:List (Str×V)} {ds:List D} {A:List Addr} {f:Str} {d:D},Owf Y B H ds (fs.map (·.1)) c (fs.map (·.2)) A->du (fs.map (·.1)) ds f=some d->
 ∃ v A1,fs.lookup f=some v/\Ow Y B H d ((c.lookup f).getD .fz) v A1/\∀ a∈A1,a∈A
 |[],ds,A,f,d,h,e=>by cases ds<;>cases e
 | p::fs,ds,A,f,d,h,e=>by
   cases ds with
   |nil=>cases e
   |cons u ds=>
     rw[List.map_cons,List.map_cons,Owf] at h;obtain⟨n,j,x,r,A1,w,l,h0,s,g,o⟩:=h;cases l;cases h0;subst s;rw[List.map_cons] at e;unfold du at e;by_cases q:p.1=f
     ·rw[on q] at e;cases e;rw[q] at g;exact⟨p.2,A1,by rw[Ws,<-q,WU],g,λa b=>V9 _ b⟩
     · rw[VM q] at e;obtain⟨v,t,k,i,m⟩:=Owf.get o e
       have:(f==p.1)=false:=beq_eq_false_iff_ne.mpr λz=>q z.symm
       exact⟨v,t,by rw[Ws,this]; exact k,i,λa b=>VV _ (m a b)⟩
theorem Ca{c:Nat}{f:Str}{x d:D}(h:gJ c f x= .ok d):∃ ns vs,x= .obj c ns vs/\du ns vs f=some d:=by
 cases x with
 |obj a ns vs=>
   unfold gJ at h; dsimp only at h;by_cases e:a=c
   · rw[on e] at h;subst e;cases q:du ns vs f with
     |none=>rw[q] at h; cases h
     |some y=>rw[q] at h; cases h; exact⟨ns,vs,rfl,q⟩
   ·rw[VM e] at h;cases h
 |_=>cases h
theorem xL{c:Nat}{f:Str}{x:D}{e:Nat}(h:gJ c f x= .exc e):False:=by
 cases x with
 |obj a ns vs=>
   have h:(if a=c then (match du ns vs f with|some x=>Res.ok x|none=> .bad) else .bad)= .exc e:=h;by_cases e:a=c
   ·rw[on e] at h;cases q:du ns vs f<;>(rw[q] at h; cases h)
   ·rw[VM e] at h;cases h
 |_=>cases h
theorem o4{k:Kd}{c:Nat}{f:Str}{ta:TE}{b:Env->Res D}(i:Cls K (Y c))(h:NoAttr K (Y c) f)(j:PJ Y (KC Y k) E T ta b):PJ Y (KR Y k) E T (DA K ta f) (un (gJ c f) b):=by
 intro B U As Z H M Q R P;refine j.bnd R P λx v I U1 L O _ q u t N s=>?_;cases e:gJ c f x with
 |ok d=>
   rw[e] at s;obtain⟨ns,vs,rfl,l⟩:=Ca e;obtain⟨a,dx,fs,r,o,n,m⟩:=N;subst n;obtain⟨w,g,p⟩:=xx m l;exact⟨a,_,dx,fs,w,r,o,i,h,g,s w I U1 L [] q (Gw.refl _ _ _) New.nil p⟩
 |exc y=>exact(xL e).elim
 |bad=>rw[e] at s; exact s.elim
theorem Oo{h:KT D V}{c:Nat}{f:Str}{i:Nat}{g:List (Str×Sh)}(t:Cls K (Y c))(o:NoAttr K (Y c) f)(p:T.getD i .F= .O (.ob g))
 (s:∀ B U H d v A,Same B U->Same U H->Ow Y B H d ((g.lookup f).getD .fz) v A->h d v B U H []):PJ Y h E T (DA K (iz i) f) (un (gJ c f) (vr i)):=by
 intro B U As Z H M Q R P;have l:=R.lo i;rw[p] at l;unfold un vr at P;cases e:rg M i with
 |none=>rw[e] at P; exact P.elim
 |some j=>
   rw[e] at P l;obtain⟨v,n,q⟩:=l;replace P:Po Y h E T B U As Z H M (gJ c f j) Q:=P;refine⟨v,g6 n,?_⟩;cases b:gJ c f j with
   |ok d=>
     rw[b] at P;obtain⟨ns,vs,rfl,l⟩:=Ca b;have q:Ow Y B H (.obj c ns vs) (.ob g) v (As i):=q;rw[Ow] at q;obtain⟨a,dx,fs,G,r,y,x,z,u⟩:=q;subst x;obtain⟨w,A1,m,k,_⟩:=Owf.get u l;exact⟨a,_,dx,fs,w,r,y,t,o,m,P w B U H [] R (Gw.refl _ _ _) New.nil (s B U H d w A1 R.bu R.uh k)⟩
   |exc C=>exact(xL b).elim
   |bad=>rw[b] at P; exact P.elim
theorem GP{c:Nat}{f:Str}{i:Nat}{a:List (Str×Sh)}(k:Cls K (Y c))(g:NoAttr K (Y c) f)(h:T.getD i .F= .O (.ob a))(j:(a.lookup f).getD .fz= .ct .fz):PJ Y (KC Y .F) E T (DA K (iz i) f) (un (gJ c f) (vr i)):=
 Oo k g h λB U H d v A b u e=>by
  rw[j] at e;exact Ow.cn (b.trans u) e
def Kq(J:It)(H:Hp)(vs:List V):Prop:=∀ a,Same H a->(∀ i,vs.length<=i->J.stop i a)/\(∀ i,i<vs.length->J.go i a)/\∀ i x H',i<vs.length->J.yld i a x H'->H'=a/\vs[i]?=some x
def KI(Y:Cm)(k g:Kd):KT (List D) It:=λds J B U H _=>∃ vs,Kq J (hp g B U H) vs/\Dns Y (hp k B U H) ds vs
theorem ly{a:Addr}{xs:List V}(h:H a=some (.lst xs)\/SqF K H a xs):Kq (VH K a) H xs:=λb s=>by
 have q:SqL K b a xs:=by
  rcases h with h|h
  ·exact .inl (.inl (s _ _ h))
  ·exact(h.mono s).sq
 exact⟨λi hi=>⟨xs,q,hi⟩,λi hi=>⟨xs,xs[i],q,V1 hi⟩,λi x H' hi y=>⟨y.1,y.2 xs q⟩⟩
theorem xE(lo:Int)(n:Nat):Kq (US lo n) H ((List.range n).map λi:Nat=>V.int (lo+i)):=λb s=>by
 have a:((List.range n).map λi:Nat=>V.int (lo+i)).length=n:=by rw[VN,XS]
 refine⟨λi hi=>by rw[a] at hi; exact hi,λi hi=>by rw[a] at hi; exact hi,λi x H' hi y=>⟨y.1,?_⟩⟩;rw[a] at hi;rw[Wj,X6 hi,y.2];rfl
theorem vG{G:Hp}(lo:Int):∀ n:Nat,Dns Y G ((List.range n).map λi:Nat=>D.int (lo+i)) ((List.range n).map λi:Nat=>V.int (lo+i))
 |0=>by rw[List.range_zero,Wv,Wv,Dns]
 | n+1=>by
   rw[List.range_succ,Wq,Wq];exact(vG lo n).append (Dns.one (by rw[Dn]))
theorem ii{k:Kd}{ta:TE}{d:Env->Res D}(f:PJ Y (KC Y k) E T ta d):PJ Y (KI Y k .X) E T (xI Y.K ta) (fb d):=by
 intro B U As Z H M Q R P;refine f.bnd R P λx v I U1 L O _ e h g N s=>?_;cases x with
 |lst ds=>
   obtain⟨a,xs,r,b,c⟩:=N;exact⟨a,r,⟨xs,SqL.of b⟩,s _ I U1 L [] e (Gw.refl _ _ _) New.nil ⟨xs,ly (.inl b),c⟩⟩
 |scr ds=>
   obtain⟨a,xs,r,b,c⟩:=N;exact⟨a,r,⟨xs,b.sq⟩,s _ I U1 L [] e (Gw.refl _ _ _) New.nil ⟨xs,ly (.inr b),c⟩⟩
 |_=>exact s.elim
theorem vt{k:Kd}{ta:TE}{e:Env->Res D}(f:PJ Y (KR Y k) E T ta e):PJ Y (KI Y k k) E T (xI Y.K ta) (fb e):=by
 intro B U As Z H M Q R P;refine f.bnd R P λx v I U1 L O _ c h g N s=>?_;have N:Dn Y (hp k I U1 L) x v:=N;cases x with
 |lst ds=>
   rw[Dn] at N;obtain⟨a,xs,r,b,d⟩:=N;exact⟨a,r,⟨xs,SqL.of (c.hp k _ _ b)⟩,s _ I U1 L [] c (Gw.refl _ _ _) New.nil ⟨xs,ly (.inl b),d⟩⟩
 |scr ds=>
   rw[Dn] at N;obtain⟨a,xs,r,b,d⟩:=N;exact⟨a,r,⟨xs,(b.mono (c.hp k)).sq⟩,s _ I U1 L [] c (Gw.refl _ _ _) New.nil ⟨xs,ly (.inr b),d⟩⟩
 |_=>exact s.elim
theorem TV{g:Kd}{ta tb:TE}{e d:Env->Res D}(l:PJ Y (KR Y .X) E T ta e)(k:PJ Y (KR Y .X) E T tb d):PJ Y (KI Y .F g) E T (MZ (b9 ta (b9 tb d8))) (Fg e d):=by
 intro B U As Z H M Q R P;refine l.bnd R P λx v I U1 L O _ m q o N s=>k.bnd m s λy u h f c r _ R2 p n b a=>?_;have N:Dn Y L x v:=N;have b:Dn Y c y u:=b;cases x with
 |int i=>
   cases y with
   |int j=>
     rw[Dn] at N; rw[Dn] at b;subst N b;have a:Po Y (KI Y .F g) E T h f As Z c M (if -(2 ^ 62)<=i/\i<2 ^ 62/\-(2 ^ 62)<=j/\j<2 ^ 62 then .ok (rng i j) else .bad) Q:=a;by_cases z:-(2 ^ 62)<=i/\i<2 ^ 62/\-(2 ^ 62)<=j/\j<2 ^ 62
     ·rw[on z] at a;exact⟨i,j,rfl,z,a _ h f c [] R2 (Gw.refl _ _ _) New.nil ⟨_,xE i _,vG i _⟩⟩
     ·rw[VM z] at a;exact a.elim
   |_=>exact a.elim
 |_=>cases y<;>exact a.elim
theorem oz{g:Kd}{tb:TE}{c:Env->Res D}(k:PJ Y (KR Y .X) E T tb c):PJ Y (KI Y .F g) E T (M0 (b9 tb d8)) (gW c):=by
 intro B U As Z H M Q R P
 have P:Po Y (KI Y .F g) E T B U As Z H M ((c M).bind λy=>match D.int 0,y with
  |.int i,.int j=>if -(2 ^ 62)<=i/\i<2 ^ 62/\-(2 ^ 62)<=j/\j<2 ^ 62 then .ok (rng i j) else .bad
  |_,_=> .bad) Q:=P
 refine k.bnd R P λy u h f d n _ R2 m l b a=>?_;have b:Dn Y d y u:=b;cases y with
 |int j=>
   rw[Dn] at b;subst b;have a:Po Y (KI Y .F g) E T h f As Z d M (if -(2 ^ 62)<=(0:Int)/\(0:Int)<2 ^ 62/\-(2 ^ 62)<=j/\j<2 ^ 62 then .ok (rng 0 j) else .bad) Q:=a;by_cases z:-(2 ^ 62)<=(0:Int)/\(0:Int)<2 ^ 62/\-(2 ^ 62)<=j/\j<2 ^ 62
   · rw[on z] at a;refine⟨j,rfl,z.2.2.1,z.2.2.2,a _ h f d [] R2 (Gw.refl _ _ _) New.nil ?_⟩;have e:(j-0).toNat=j.toNat:=by rw[Int.sub_zero]
     unfold rng;rw[e];exact⟨_,xE 0 _,vG 0 _⟩
   ·rw[VM z] at a;exact a.elim
 |_=>exact a.elim
theorem Be{W:Type}{l:List (Option W)}{x:Option W}{i:Nat}:rg (x::l) (i+1)=rg l i:=by unfold rg; rw[List.getElem?_cons_succ]
theorem Bc{W:Type}{l:List (Option W)}{x:Option W}:rg (x::l) 0=x:=by unfold rg; rw[List.getElem?_cons_zero]; rfl
theorem FQ{W:Type}{l:List (Option W)}{ix:List Nat}{j:Nat}:rg (ix.map λi=>rg l i) j=match ix[j]? with|some i=>rg l i|none=>none:=by
 unfold rg;rw[List.getElem?_map];cases ix[j]?<;>rfl
theorem xl:∀ {l:List Nat} {i j:Nat},l.Nodup->(a:i<l.length)->(b:j<l.length)->l[i]=l[j]->i=j
 |[],_,_,_,a,_,_=>by simp at a
 |x::l,0,0,_,_,_,_=>rfl
 | x::l,0,j+1,nd,a,b,e=>by
   have c:j<l.length:=by simpa using b
   exact absurd (show x∈l from by rw[show x=l[j] from e]; exact Xf c) (List.nodup_cons.mp nd).1
 | x::l,i+1,0,nd,a,b,e=>by
   have c:i<l.length:=by simpa using a
   exact absurd (show x∈l from by rw[show x=l[i] from e.symm]; exact Xf c) (List.nodup_cons.mp nd).1
 | x::l,i+1,j+1,nd,a,b,e=>by
   rw[xl (List.nodup_cons.mp nd).2 (by simpa using a) (by simpa using b) e]
def VB(As:Nat->List Addr)(ix:List Nat):Nat->List Addr
 |0=>[]
 |j+1=>match ix[j]? with|some i=>As i|none=>[]
def zA(m:Md)(T:List Md)(ix:List Nat):List Md:=m::ix.map λi=>T.getD i .F
theorem Rel.inner(R:Rel Y T B U As Z H M){ix:List Nat}(h:ix.Nodup){m:Md}{d:D}{v:V}(hd:Lo Y B U H m (some d) (some v) []):
 Rel Y (zA m T ix) B U (VB As ix) (some v::ke Z ix) H (some d::jW M ix) where
 bu:=R.bu
 uh:=R.uh
 nd:=λi=>by
  cases i with
  |zero=>exact Wz
  |succ j=>
    show(match ix[j]? with|some i=>As i|none=>[]).Nodup;cases ix[j]? with
    |none=>exact Wz
    |some i=>exact R.nd i
 dj:=λi j a g b c=>by
  cases i with
  |zero=>cases b
  |succ i=>
    cases j with
    |zero=>cases c
    |succ j=>
      have b:a∈(match ix[i]? with|some i=>As i|none=>[]):=b;have c:a∈(match ix[j]? with|some i=>As i|none=>[]):=c;cases f:ix[i]? with
      |none=>rw[f] at b; cases b
      |some x=>
        cases k:ix[j]? with
        |none=>rw[k] at c; cases c
        |some y=>
          rw[f] at b;rw[k] at c;by_cases e:x=y
          · subst e;obtain⟨p,n⟩:=List.getElem?_eq_some_iff.mp f;obtain⟨o,l⟩:=List.getElem?_eq_some_iff.mp k
            have:=xl h p o (n.trans l.symm)
            exact g (by rw[this])
          ·exact R.dj x y a e b c
 tb:=R.tb
 un:=λi a b=>by
  cases i with
  |zero=>cases b
  |succ i=>
    have b:a∈(match ix[i]? with|some i=>As i|none=>[]):=b;cases f:ix[i]? with
    |none=>rw[f] at b; cases b
    |some x=>rw[f] at b; exact R.un x a b
 lo:=λi=>by
  cases i with
  |zero=>
    rw[Bc,Bc];exact hd
  |succ j=>
    rw[Be,Be];unfold ke jW;have n:rg (ix.map λj=>rg M j) j=match ix[j]? with|some i=>rg M i|none=>none:=FQ
    have l:rg (ix.map λj=>(Z[j]?).join) j=match ix[j]? with|some i=>rg Z i|none=>none:=FQ
    rw[n,l];show Lo Y B U H ((m::ix.map λi=>T.getD i .F).getD (j+1) .F) _ _ (match ix[j]? with|some i=>As i|none=>[]);rw[Xz,V6,Wj];cases ix[j]? with
    |none=>exact rfl
    |some i=>exact R.lo i
 len:=by
  rw[VU,VU,ke,jW,VN,VN]
theorem Rel.poke(R:Rel Y T B U As Z H M){p:Addr}{o:HO}(b:U p=none)(c:∀ i,p∉As i):Rel Y T B U As Z (upd H p o) M:=
 ⟨R.bu,λa u q=>by rw[bc (bD q b)]; exact R.uh a u q,R.nd,R.dj,R.un,λi=>(R.lo i).mono (Same.refl _) (Same.refl _) λa h=>bc (λz:a=p=>c i (z▸h)),R.len,R.tb⟩
theorem oI{W:Type}{l:List W}{i:Nat}{x:W}(h:l[i]?=some x):l.drop i=x::l.drop (i+1):=by
 obtain⟨b,a⟩:=List.getElem?_eq_some_iff.mp h;rw[List.drop_eq_getElem_cons b,a]
theorem L5{k k':Kd}{m0:Md}{K':KT D V}{ix:List Nat}{ti:TT}{te:TE}{X:Env->Res Bool}{C:Env->Res D}(hix:ix.Nodup)(h0:∀ B U H d v,Same B U->Same U H->Dn Y (hp k B U H) d v->Lo Y B U H m0 (some d) (some v) [])
 (hti:PJ Y KB E0 (zA m0 T ix) ti X) (hte:PJ Y (KR Y k') E0 (zA m0 T ix) te C)
 (fin:∀ B U As Z H M I U1 L Q l ys p,Rel Y T I U1 As Z L M->Gw B U H I U1 L->H p=none->U1 p=none->(∀ i,p∉As i)->L p=some (.lst ys)->Dns Y (hp k' I U1 L) l ys->Po Y K' E T B U As Z H M (.ok (.lst l)) Q->Q (.ref p) L)
 (hk':k'= .F\/k'= .U) {As:Nat->List Addr} {Z:St} {M:Env} {Q:VK} {ds:List D} {J:It} {I U1 L:Hp} {vs:List V} (R1:Rel Y T I U1 As Z L M) (hJ:Kq J L vs) (hd:Dns Y (hp k I U1 L) ds vs)
 (s:Po Y K' E T I U1 As Z L M (if ds.length<ak then (ff X C (jW M ix) ds).bind λr=> .ok (.lst r) else .bad) Q) (p:Addr) (hp:L p=none):Kt J (λv=>some v::ke Z ix) ti te p L Q:=by
 by_cases z:ds.length<ak
 · rw[on z] at s;have hvl:ds.length=vs.length:=hd.len;have hpA:∀ i,p∉As i:=λi=>R1.fresh hp i
   have K:∀ {t f O B3 S H3:Hp},Gw t f O B3 S H3->Same (Mi.hp k' t f (λ_=>none)) (Mi.hp k' B3 S (λ_=>none)):=λg=>by
    rcases hk' with e|e<;>subst e
    ·exact g.b
    ·exact g.u
   have hpe:∀ {t f O:Hp},Mi.hp k' t f O=Mi.hp k' t f (λ_=>none):=λ{t f O}=>by rcases hk' with e|e<;>subst e<;>rfl
   refine⟨λi m ys O=>i<=ds.length/\m=ds.length-i/\O p=some (.lst ys)/\ys.length<=i/\∃ t f l,Rel Y T t f As Z O M/\Gw I U1 L t f O/\f p=none/\Dns Y (Mi.hp k' t f (λ_=>none)) l ys/\
    Po Y K' E T I U1 As Z L M ((ff X C (jW M ix) (ds.drop i)).bind λr=> .ok (.lst (l++r))) Q,⟨ds.length,WP _,rfl,bv,VW _,I,U1,[],R1.new hp,Gw.newO R1 hp,R1.uh.free hp,by rw[Dns],s⟩,?_⟩
   rintro i m ys O ⟨hi,rfl,hy,hle,t,f,l,R2,g2,u2,dz,w⟩;have G:=hJ O g2.h;refine⟨hy,WA hle (f7 (WO (WA hi z))),?_⟩;by_cases hlt:i<ds.length
   · refine .inr ⟨G.2.1 i (by omega),λv H3 hyl=>?_⟩;obtain⟨rfl,ev⟩:=G.2.2 i v H3 (by omega) hyl;obtain⟨d,ed,dd⟩:=hd.geti ev;rw[oI ed,ff] at w;have RI:=R2.inner hix (h0 t f H3 d v R2.bu R2.uh (Dn.mono (jD g2) dd));refine hti t f _ _ H3 _ _ RI ?_;cases eb:X (some d::jW M ix) with
     |ok c=>
       rw[eb] at w;intro b B3 S H4 N3 N n n3 hb;cases hb
       have up3:S p=none:=by
        cases q:S p with
        |none=>rfl
        |some o=>
          rcases n.fr p o q with z|z|⟨xs,z⟩
          ·rw[u2] at z; cases z
          ·rw[hy] at z; cases z
          ·subst z; have:=N.uh p _ q; rw[n.h _ _ hy] at this; cases this
       have R3:Rel Y T B3 S As Z H4 M:=R2.grow n.b n.u n.h N.bu N.uh λj a P=>by
        cases q:S a with
        |none=>rfl
        |some o=>
          rcases n.fr a o q with z|z|z
          ·rw[R2.un j a P] at z; cases z
          ·obtain⟨o',A⟩:=R2.at P;rw[z] at A; cases A
          ·obtain⟨o',A⟩:=R2.at P;have e1:=n.h _ _ A;rw[N.uh a _ q] at e1; cases e1; exact(R2.nt P A z).elim
       cases c with
       |false=>
         rw[VM V0];exact⟨ds.length-(i+1),by omega,hlt,rfl,n.h _ _ hy,by omega,B3,S,l,R3,g2.trans n,up3,dz.mono (K n),w⟩
       |true=>
         rw[on rfl];refine hte B3 S _ _ H4 _ _ N ?_;cases ee:C (some d::jW M ix) with
         |ok x=>
           have P3:Po Y K' E T I U1 As Z L M (((C (some d::jW M ix)).calm.bind λx=>(ff X C (jW M ix) (ds.drop (i+1))).bind λxs=> .ok (x::xs)).bind λr=> .ok (.lst (l++r))) Q:=w;rw[ee] at P3;intro y B4 U4 H5 N4 W R n4 hx;have y5:H5 p=some (.lst ys):=R.h _ _ (n.h _ _ hy)
           have up4:U4 p=none:=by
            cases q:U4 p with
            |none=>rfl
            |some o=>
              rcases R.fr p o q with z|z|⟨xs,z⟩
              ·rw[up3] at z; cases z
              ·rw[n.h _ _ hy] at z; cases z
              ·subst z; have:=W.uh p _ q; rw[y5] at this; cases this
           have R4:Rel Y T B4 U4 As Z H5 M:=R3.grow R.b R.u R.h W.bu W.uh λj a P=>by
            cases q:U4 a with
            |none=>rfl
            |some o=>
              rcases R.fr a o q with z|z|z
              ·rw[R3.un j a P] at z; cases z
              ·obtain⟨o',A⟩:=R3.at P;rw[z] at A; cases A
              ·obtain⟨o',A⟩:=R3.at P;have e1:=R.h _ _ A;rw[W.uh a _ q] at e1; cases e1; exact(R3.nt P A z).elim
           have g5:Gw I U1 L B4 U4 (upd H5 p (.lst (ys++[y]))):=by
            have g:=(g2.trans n).trans R;exact⟨g.toEx,λa o q=>by rw[bc (bD q hp)]; exact g.h a o q,g.fr⟩
           refine⟨y5,ds.length-(i+1),by omega,hlt,rfl,bv,by rw[VT,XV]; omega,B4,U4,l++[x],R4.poke up4 hpA,g5,up4,(dz.mono (K (n.trans R))).append (Dns.one ?_),?_⟩
           ·have hx:Dn Y (Mi.hp k' B4 U4 H5) x y:=hx;rw[hpe] at hx;exact hx
           · cases eg:ff X C (jW M ix) (ds.drop (i+1)) with
             |ok r=>
               rw[eg] at P3;show Po Y K' E T I U1 As Z L M (.ok (.lst (l++[x]++r))) Q;rw[WH];exact P3
             |exc c=>rw[eg] at P3; exact P3
             |bad=>rw[eg] at P3; exact P3
         |exc c=>
           have P3:Po Y K' E T I U1 As Z L M (((C (some d::jW M ix)).calm.bind λx=>(ff X C (jW M ix) (ds.drop (i+1))).bind λxs=> .ok (x::xs)).bind λr=> .ok (.lst (l++r))) Q:=w;rw[ee] at P3;exact P3.elim
         |bad=>
           have P3:Po Y K' E T I U1 As Z L M (((C (some d::jW M ix)).calm.bind λx=>(ff X C (jW M ix) (ds.drop (i+1))).bind λxs=> .ok (x::xs)).bind λr=> .ok (.lst (l++r))) Q:=w;rw[ee] at P3;exact P3.elim
     |exc c=>rw[eb] at w; exact w.elim
     |bad=>rw[eb] at w; exact w.elim
   · have e:i=ds.length:=by omega
     subst e;rw[Yu,ff] at w;refine .inl ⟨G.1 _ (by omega),?_⟩;have P3:Po Y K' E T I U1 As Z L M (.ok (.lst (l++[]))) Q:=w;rw[Wp] at P3;exact fin I U1 As Z L M t f O Q l ys p R2 g2 hp u2 hpA hy (by rw[hpe]; exact dz) P3
 ·rw[VM z] at s;exact s.elim
theorem L4{k k':Kd}{a:Md}{o:KT D V}{j:TI}{ix:List Nat}{l:TT}{te:TE}{src:Env->Res (List D)}{m:Env->Res Bool}{n:Env->Res D}
 (q:PJ Y (KI Y k .X) E T j src) (f:ix.Nodup) (h0:∀ B U H d v,Same B U->Same U H->Dn Y (hp k B U H) d v->Lo Y B U H a (some d) (some v) [])
 (b:PJ Y KB E0 (zA a T ix) l m) (c:PJ Y (KR Y k') E0 (zA a T ix) te n)
 (g:∀ B U As Z H M I U1 L Q h ys p,Rel Y T I U1 As Z L M->Gw B U H I U1 L->H p=none->U1 p=none->(∀ i,p∉As i)->L p=some (.lst ys)->Dns Y (hp k' I U1 L) h ys->Po Y o E T B U As Z H M (.ok (.lst h)) Q->Q (.ref p) L)
 (e:k'= .F\/k'= .U):PJ Y o E T (AQ j ix l te) (kc src ix m n):=by
 intro B U As Z H M Q R P;refine q.bnd R P λds J I U1 L O _ t w u ⟨vs,r,hd⟩ s p hp=>?_;exact L5 f h0 b c g e t r hd s p hp
theorem Vv{B U H:Hp}{d:D}{v:V}(_:Same B U)(_:Same U H)(h:Dn Y (hp .F B U H) d v):Lo Y B U H .F (some d) (some v) []:=⟨v,rfl,h,rfl⟩
theorem inU{B U H:Hp}{d:D}{v:V}(_:Same B U)(_:Same U H)(h:Dn Y (hp .U B U H) d v):Lo Y B U H .R (some d) (some v) []:=⟨v,rfl,h,rfl⟩
theorem TY{B U:Hp}{As:Nat->List Addr}{Z:St}{H:Hp}{M:Env}{I U1 L:Hp}{Q:VK}{b:List D}{ys:List V}{p:Addr}(R:Rel Y T I U1 As Z L M)(g:Gw B U H I U1 L)(hp:H p=none)(u:U1 p=none)(c:∀ i,p∉As i)(h:L p=some (.lst ys))
 (d:Dns Y (Mi.hp .F I U1 L) b ys) (P:Po Y (KO Y (.ct .fz)) E T B U As Z H M (.ok (.lst b)) Q):Q (.ref p) L:=
 P (.ref p) I U1 L [p] R g ⟨by simp,λa q=>by rw[List.mem_singleton.mp q]; exact hp,λa q=>by rw[List.mem_singleton.mp q]; exact u⟩ (by
  show Ow Y I L (.lst b) (.ct .fz) (.ref p) [p];rw[Ow]
  exact⟨p,ys,[],rfl,h,rfl,Ows.of d⟩)
section
variable{wi:TI}{ix:List Nat}{ti:TT}{te:TE}{src:Env->Res (List D)}{mi:Env->Res Bool}{me:Env->Res D}
theorem jv:PJ Y KB E T Rm (λ_=> .ok true):=λB U As Z H M Q R P=>P _ B U H [] R (Gw.refl _ _ _) New.nil rfl
theorem cE(d:PJ Y (KI Y .F .X) E T wi src)(c:ix.Nodup)(a:PJ Y KB E0 (zA .F T ix) ti mi)(b:PJ Y (KR Y .F) E0 (zA .F T ix) te me):PJ Y (KO Y (.ct .fz)) E T (AQ wi ix ti te) (kc src ix mi me):=
 L4 d c (λ_ _ _ _ _=>Vv) a b (λ_ _ _ _ _ _ _ _ _ _ _ _ _=>TY) (.inl rfl)
end
end
structure NewM (N:List Addr) (U:Hp) (As:Nat->List Addr):Prop where
 nd:N.Nodup
 un:∀ a∈N,U a=none
 ap:∀ a∈N,∀ i,a∉As i
theorem NewM.nil{U:Hp}{As:Nat->List Addr}:NewM [] U As:=⟨Wz,λ_ h=>(nomatch h),λ_ h=>(nomatch h)⟩
def Kp(pr:Nat->Bool)(Z a:St):Prop:=∀ j,pr j=true->rg a j=rg Z j
theorem Kp.refl(pr:Nat->Bool)(Z:St):Kp pr Z Z:=λ_ _=>rfl
theorem Kp.trans{pr:Nat->Bool}{Z d c:St}(a:Kp pr Z d)(b:Kp pr d c):Kp pr Z c:=λj h=>(b j h).trans (a j h)
section
variable(Y:Cm)
def Mo{W X:Type}(K:KT W X)(E:XK)(T:List Md)(B U:Hp)(Z:St)(r:Out W)(Q:X->Hp->Prop):Prop:=
 match r with
 |.ok d C=>∀ v S J G H' N,Rel Y T S J G Z H' C->Ex B U S J->NewM N J G->K d v S J H' N->Q v H'
 |.exc c C=>∀ S J G H',Rel Y T S J G Z H' C->Ex B U S J->∀ a,E (.ref (Y c)) a H'
 |.bad=>False
def MJ{W X:Type}(K:KT W X)(E:XK)(T:List Md)(t:St->Hp->(X->Hp->Prop)->Prop)(m:Env->Out W):Prop:=
 ∀ B U As Z H M Q,Rel Y T B U As Z H M->Mo Y K E T B U Z (m M) Q->t Z H Q
def So(E:XK)(e:KT D V)(pr:Nat->Bool)(T:List Md)(B U:Hp)(Z:St)(r:SO)(D:Ends):Prop:=
 match r with
 |.nx C=>∀ a S J G H',Rel Y T S J G a H' C->Ex B U S J->Kp pr Z a->D.nx a H'
 |.bk C=>∀ a S J G H',Rel Y T S J G a H' C->Ex B U S J->Kp pr Z a->D.bk a H'
 |.ct C=>∀ a S J G H',Rel Y T S J G a H' C->Ex B U S J->Kp pr Z a->D.ct a H'
 |.rt d C=>∀ v a S J G H' N,Rel Y T S J G a H' C->Ex B U S J->Kp pr Z a->NewM N J G->e d v S J H' N->D.rt v H'
 |.exc c C=>∀ a S J G H',Rel Y T S J G a H' C->Ex B U S J->Kp pr Z a->∀ b,E (.ref (Y c)) b H'
 |.bad=>False
def SJ(E:XK)(a:KT D V)(pr:Nat->Bool)(T:List Md)(t:TS)(m:Env->SO):Prop:=
 ∀ B U As Z H M D,Rel Y T B U As Z H M->So Y E a pr T B U Z (m M) D->t D Z H
end
section
variable{Y:Cm}{E:XK}{Kr:KT D V}{pr:Nat->Bool}{T:List Md}{K:L0}{B U H I U1 L:Hp}{As:Nat->List Addr}{Z σ1:St}{M:Env}
theorem Mo.at{W X:Type}{K:KT W X}{r:Out W}{Q:X->Hp->Prop}(P:Mo Y K E T B U Z r Q)(e:Ex B U I U1):Mo Y K E T I U1 Z r Q:=by
 cases r with
 |ok d C=>exact λv S J G H' N b a f k=>P v S J G H' N b (e.trans a) f k
 |exc c C=>exact λS J G H' b a=>P S J G H' b (e.trans a)
 |bad=>exact P
theorem So.at{r:SO}{D:Ends}(P:So Y E Kr pr T B U Z r D)(e:Ex B U I U1)(k:Kp pr Z σ1):So Y E Kr pr T I U1 σ1 r D:=by
 cases r with
 |nx C=>exact λa S J G H' f b k'=>P a S J G H' f (e.trans b) (k.trans k')
 |bk C=>exact λa S J G H' f b k'=>P a S J G H' f (e.trans b) (k.trans k')
 |ct C=>exact λa S J G H' f b k'=>P a S J G H' f (e.trans b) (k.trans k')
 |rt d C=>exact λv a S J G H' N f b k'=>P v a S J G H' N f (e.trans b) (k.trans k')
 |exc c C=>exact λa S J G H' f b k'=>P a S J G H' f (e.trans b) (k.trans k')
 |bad=>exact P
theorem aW{W X:Type}{K:KT W X}{t:St->Hp->(X->Hp->Prop)->Prop}{m:Env->Res W}(h:PJ Y K E T t m):MJ Y K E T t (λM=>(m M).up M):=by
 intro B U As Z H M Q R P;replace P:Mo Y K E T B U Z ((m M).up M) Q:=P;refine h B U As Z H M Q R ?_;cases e:m M with
 |ok d=>
   rw[e] at P;exact λv S J H' N a g n k=>P v S J As H' N a g.toEx ⟨n.nd,n.un,R.apart n⟩ k
 |exc c=>
   rw[e] at P;exact λS J H' a g=>P S J As H' a g.toEx
 |bad=>rw[e] at P; exact P
theorem MJ.bnd{W X O J:Type}{g:KT W X}{f:KT O J}{ta:St->Hp->(X->Hp->Prop)->Prop}{b:Env->Out W}(l:MJ Y g E T ta b)(R:Rel Y T B U As Z H M){k:W->Env->Out O}{Q:J->Hp->Prop}
 (P:Mo Y f E T B U Z ((b M).bind k) Q) {body:X->Hp->Prop}
 (h:∀ x C v I U1 a L N,Rel Y T I U1 a Z L C->Ex B U I U1->NewM N U1 a->g x v I U1 L N->Mo Y f E T I U1 Z (k x C) Q->body v L):ta Z H body:=by
 refine l B U As Z H M body R ?_;cases e:b M with
 |ok x C=>
   rw[e] at P;exact λv I U1 a L N m d i j=>h x C v I U1 a L N m d i j (Mo.at (r:=k x C) P d)
 |exc c C=>rw[e] at P; exact P
 |bad=>rw[e] at P; exact P
theorem MJ.bndS{W X:Type}{f:KT W X}{ta:St->Hp->(X->Hp->Prop)->Prop}{b:Env->Out W}(j:MJ Y f E T ta b)(R:Rel Y T B U As Z H M){k:W->Env->SO}{D:Ends}
 (P:So Y E Kr pr T B U Z (lH (b M) k) D) {body:X->Hp->Prop}
 (h:∀ x C v I U1 a L N,Rel Y T I U1 a Z L C->Ex B U I U1->NewM N U1 a->f x v I U1 L N->So Y E Kr pr T I U1 Z (k x C) D->body v L):ta Z H body:=by
 refine j B U As Z H M body R ?_;cases e:b M with
 |ok x C=>
   rw[e] at P;exact λv I U1 a L N m d g i=>h x C v I U1 a L N m d g i (So.at (r:=k x C) P d (Kp.refl _ _))
 |exc c C=>rw[e] at P; exact λS J G H' n l=>P Z S J G H' n l (Kp.refl _ _)
 |bad=>rw[e] at P; exact P
theorem kq{W:Type}{l:List (Option W)}{i j:Nat}{x:Option W}:rg (l.set i x) j=if i=j/\i<l.length then x else rg l j:=by
 unfold rg;rw[List.getElem?_set];by_cases e:i=j
 · subst e;by_cases h:i<l.length
   ·rw[on rfl,on h,on ⟨rfl,h⟩];rfl
   ·rw[on rfl,VM h,VM λz=>h z.2,Wd (by omega)]
 ·rw[VM e,VM λz=>e z.1]
theorem Rel.store(R:Rel Y T B U As Z H M){i:Nat}{d:D}{v:V}{N:List Addr}(n:NewM N U As)(l:Lo Y B U H (T.getD i .F) (some d) (some v) N):
 ∃ G,Rel Y T B U G (Z.set i (some v)) H (M.set i (some d)):=by
 by_cases hi:i<M.length
 · refine⟨λj=>if j=i then N else As j,R.bu,R.uh,λj=>?_,λj k a f b c=>?_,λj a b=>?_,λj=>?_,by rw[WT,WT]; exact R.len,R.tb⟩
   · show(if j=i then N else As j).Nodup;split
     ·exact n.nd
     ·exact R.nd j
   · replace b:a∈(if j=i then N else As j):=b;replace c:a∈(if k=i then N else As k):=c;split at b
     · split at c
       ·rename_i h g;exact f (h.trans g.symm)
       ·exact n.ap a b k c
     · split at c
       ·exact n.ap a c j b
       ·exact R.dj j k a f b c
   · replace b:a∈(if j=i then N else As j):=b;split at b
     ·exact n.un a b
     ·exact R.un j a b
   · rw[kq,kq];show Lo Y B U H (T.getD j .F) _ _ (if j=i then N else As j);by_cases e:i=j
     ·subst e;rw[on ⟨rfl,hi⟩,on ⟨rfl,by rw[<-R.len]; exact hi⟩,on rfl];exact l
     ·rw[VM λz=>e z.1,VM λz=>e z.1,VM λz=>e z.symm];exact R.lo j
 ·have g:=R.len;have o:Z.set i (some v)=Z:=Yr (by omega);have m:M.set i (some d)=M:=Yr (by omega);rw[o,m];exact⟨As,R⟩
theorem Kp.set{i:Nat}{x:Option V}(h:pr i=false):Kp pr Z (Z.set i x):=λj a=>by
 rw[kq,VM];rintro⟨e,_⟩;rw[e,a] at h;cases h
theorem Mx{f:KT D V}{i:Nat}{te:TE}{m:Env->Out D}(h:MJ Y f E T te m)(n:∀ B U H d v N,f d v B U H N->∃ a,(a=[]\/a=N)/\Lo Y B U H (T.getD i .F) (some d) (some v) a)(hp:pr i=false):SJ Y E Kr pr T (DC te (fE i)) (bX i m):=by
 intro B U As Z H M D R P;refine h.bndS R P λx C v I U1 c L N p q j k s=>?_;obtain⟨a,o,l⟩:=n I U1 L x v N k
 have g:NewM a U1 c:=by
  rcases o with e|e
  ·subst e; exact NewM.nil
  ·subst e; exact j
 obtain⟨b,R2⟩:=p.store g l;exact s _ I U1 b L R2 (Ex.refl _ _) (Kp.set hp)
theorem bP{i:Nat}{te:TE}{m:Env->Out D}(h:MJ Y (KR Y .F) E T te m)(a:T.getD i .F= .F)(hp:pr i=false):SJ Y E Kr pr T (DC te (fE i)) (bX i m):=
 Mx h (λB U H d v N k=>⟨[],.inl rfl,by rw[a]; exact⟨v,rfl,k,rfl⟩⟩) hp
theorem cH{i:Nat}{s:Sh}{te:TE}{m:Env->Out D}(h:MJ Y (KO Y s) E T te m)(a:T.getD i .F= .O s)(hp:pr i=false):SJ Y E Kr pr T (DC te (fE i)) (bX i m):=
 Mx h (λB U H d v N k=>⟨N,.inr rfl,by rw[a]; exact⟨v,rfl,k⟩⟩) hp
theorem bY:SJ Y E Kr pr T Mt bK:=λB U As Z H M D R P=>P Z B U As H R (Ex.refl _ _) (Kp.refl _ _)
theorem ar{t u:TS}{m n:Env->SO}(h:SJ Y E Kr pr T t m)(k:SJ Y E Kr pr T u n):SJ Y E Kr pr T (Ro t u) (aD m n):=by
 intro B U As Z H M D R P;refine h B U As Z H M _ R ?_;unfold aD at P;cases e:m M with
 |nx C=>rw[e] at P; exact λa S J G H' f b kp=>k S J G a H' C D f (So.at P b kp)
 |bk C=>rw[e] at P; exact P
 |ct C=>rw[e] at P; exact P
 |rt d C=>rw[e] at P; exact P
 |exc c C=>rw[e] at P; exact P
 |bad=>rw[e] at P; exact P
theorem a7{c:KT D V}{te:TE}{m:Env->Out D}(h:MJ Y c E T te m):SJ Y E Kr pr T (Mu te) (bC m):=by
 intro B U As Z H M D R P;refine h.bndS R P λx C v I U1 a L N b f d e s=>?_;exact s Z I U1 a L b (Ex.refl _ _) (Kp.refl _ _)
theorem bz{te:TE}{m:Env->Out D}(h:MJ Y Kr E T te m):SJ Y E Kr pr T (Rp te) (cz m):=by
 intro B U As Z H M D R P;refine h.bndS R P λx C v I U1 a L N d e b c s=>?_;exact s v Z I U1 a L N d (Ex.refl _ _) (Kp.refl _ _) b c
theorem cI{c:TT}{t u:TS}{mc:Env->Out Bool}{m n:Env->SO}(e:MJ Y KB E T c mc)(h:SJ Y E Kr pr T t m)(k:SJ Y E Kr pr T u n):SJ Y E Kr pr T (Rs c t u) (gG mc m n):=by
 intro B U As Z H M D R P;refine e.bndS R P λx C v I U1 a L N b g f d s=>?_;cases d;cases x with
 |true=>exact h I U1 a Z L C D b s
 |false=>exact k I U1 a Z L C D b s
theorem dP:SJ Y E Kr pr T Fb (λ_=> .bad):=λ_ _ _ _ _ _ _ _ P=>P
def TJ(Y:Cm)(k:Kd)(pr:Nat->Bool)(T:List Md)(g:TG)(c:D->Env->Option Env):Prop:=∀ B U As Z H M d v a Q,Rel Y T B U As Z H M->Dn Y (hp k B U H) d v->c d M=some a->(∀ σ1 b,Rel Y T B U b σ1 H a->Kp pr Z σ1->Q σ1 H)->g v Z H Q
theorem uP{i:Nat}(c:T.getD i .F= .F)(hp:pr i=false):TJ Y .F pr T (fE i) (tD i):=by
 intro B U As Z H M d v b Q R hd e h;cases e;obtain⟨a,R2⟩:=R.store (i:=i) (d:=d) (v:=v) NewM.nil (by rw[c]; exact⟨v,rfl,hd,rfl⟩);exact h _ a R2 (Kp.set hp)
theorem Rj{i:Nat}(c:T.getD i .F= .R)(hp:pr i=false):TJ Y .U pr T (fE i) (tD i):=by
 intro B U As Z H M d v b Q R hd e h;cases e;obtain⟨a,R2⟩:=R.store (i:=i) (d:=d) (v:=v) NewM.nil (by rw[c]; exact⟨v,rfl,hd,rfl⟩);exact h _ a R2 (Kp.set hp)
theorem Rk{i:Nat}(b:T.getD i .F= .R)(hp:pr i=false):TJ Y .F pr T (fE i) (tD i):=λB U As Z H M d v a Q R hd e h=>Rj b hp B U As Z H M d v a Q R (Dn.mono R.bu hd) e h
theorem UW{k:Kd}{i j:Nat}(hi:TJ Y k pr T (fE i) (tD i))(w:TJ Y k pr T (fE j) (tD j)):TJ Y k pr T (PY K 2 (xK (fE i) (xK (fE j) PZ))) (E8 i j):=by
 intro B U As Z H M d v p Q R hd e h;cases d with
 |tup ds=>
   rcases ds with _|⟨x,_|⟨y,_|⟨z,ds⟩⟩⟩
   ·cases e
   ·cases e
   ·cases e;rw[Dn] at hd;obtain⟨a,xs,rfl,A,o⟩:=hd;rw[Dns] at o;obtain⟨f,r,rfl,u,n⟩:=o;rw[Dns] at n;obtain⟨b,D,rfl,t,m⟩:=n;rw[Dns] at m;subst m;refine⟨a,[f,b],rfl,SqT.of (R.hp k _ _ A),rfl,f,[b],rfl,?_⟩;refine hi B U As Z H M x f _ _ R u rfl λσ1 l C s=>⟨b,[],rfl,?_⟩;exact w B U l σ1 H _ y b _ _ C t rfl λc g R2 q=>⟨rfl,h c g R2 (s.trans q)⟩
   ·cases e
 |_=>cases e
theorem eI{k:Kd}{wi:TI}{g:TG}{tb:TS}{src:Env->Out (List D)}{V:D->Env->Option Env}{body:Env->SO}(hs:MJ Y (KI Y k .U) E T wi src)(hk:k= .F\/k= .U)(hg:TJ Y k pr T g V)(hb:SJ Y E Kr pr T tb body):
 SJ Y E Kr pr T (Rt wi g tb) (dU src V body):=by
 intro B U As Z H M D R P;refine hs.bndS R P λds ρ0 J I U1 As1 L N R1 e1 n1 ⟨vs,hJ,hd⟩ s=>?_;have hvl:ds.length=vs.length:=hd.len
 have hp1:∀ {p o H2:Hp},Ex I U1 p o->Same (hp k I U1 L) (hp k p o H2):=λe=>by
  rcases hk with z|z<;>subst z
  ·exact e.b
  ·exact e.u
 refine⟨λi m r H'=>i<=ds.length/\m=ds.length-i/\∃ p o n h,Rel Y T p o n r H' h/\Ex I U1 p o/\Kp pr Z r/\So Y E Kr pr T I U1 Z (vA V body (ds.drop i) h) D,⟨_,WP _,rfl,I,U1,As1,ρ0,R1,Ex.refl _ _,Kp.refl _ _,s⟩,?_⟩;rintro i m r H' ⟨hi,rfl,p,o,n,h,R2,G,Q,a⟩;have hj:=hJ H' (G.u.trans R2.uh);by_cases X:i<ds.length
 · refine .inr ⟨hj.2.1 i (by omega),λq H''=>i+1<=ds.length/\∃ p o n h,Rel Y T p o n q H'' h/\Ex I U1 p o/\Kp pr Z q/\So Y E Kr pr T I U1 Z (vA V body (ds.drop (i+1)) h) D,λq H'' ⟨h1,h2⟩=>⟨ds.length-(i+1),by omega,h1,rfl,h2⟩,λx Hx hy=>?_⟩;obtain⟨rfl,ev⟩:=hj.2.2 i x Hx (by omega) hy;obtain⟨d,ed,dd⟩:=hd.geti ev;rw[oI ed,vA] at a;cases et:V d h with
   |none=>rw[et] at a; exact a.elim
   |some K=>
     rw[et] at a;refine hg p o n r Hx h d x K _ R2 (Dn.mono (hp1 G) dd) et λσ3 As3 R3 W=>?_;refine hb p o As3 σ3 Hx K _ R3 ?_;dsimp only at a;cases S:body K with
     |nx l=>
       rw[S] at a;exact λj C y f O A w t=>⟨X,C,y,f,l,A,G.trans w,(Q.trans W).trans t,a⟩
     |ct l=>
       rw[S] at a;exact λj C y f O A w t=>⟨X,C,y,f,l,A,G.trans w,(Q.trans W).trans t,a⟩
     |bk l=>
       rw[S] at a;exact λj C y f O A w t=>a j C y f O A (G.trans w) ((Q.trans W).trans t)
     |rt d l=>
       rw[S] at a;exact λv j C y f O N A w t=>a v j C y f O N A (G.trans w) ((Q.trans W).trans t)
     |exc c l=>
       rw[S] at a;exact λj C y f O A w t=>a j C y f O A (G.trans w) ((Q.trans W).trans t)
     |bad=>rw[S] at a; exact a.elim
 · have e:i=ds.length:=by omega
   subst e;rw[Yu,vA] at a;exact .inl ⟨hj.1 _ (by omega),a r p o n H' R2 G Q⟩
theorem K3{c:TT}{tb:TS}{mc:Env->Out Bool}{body:Env->SO}(n:Nat)(W:MJ Y KB E T c mc)(X:SJ Y E Kr pr T tb body):SJ Y E Kr pr T (Fa c tb) (Dq mc body n):=by
 intro B U As Z H M D R P;refine⟨λm i H'=>∃ S K F p,Rel Y T S K F i H' p/\Ex B U S K/\Kp pr Z i/\So Y E Kr pr T B U Z (Dq mc body m p) D,⟨n,B,U,As,M,R,Ex.refl _ _,Kp.refl _ _,P⟩,?_⟩;rintro m i H' ⟨S,K,F,p,R2,z,y,b⟩;cases m with
 |zero=>exact b.elim
 |succ m=>
   rw[Dq] at b;refine W S K F i H' p _ R2 ?_;cases e:mc p with
   |ok x q=>
     rw[e] at b;intro v Q J u O N L w n3 V;cases V;cases x with
     |false=>
       rw[VM V0];exact b i Q J u O L (z.trans w) y
     |true=>
       rw[on rfl]
       have b:So Y E Kr pr T B U Z (match body q with
        |.nx C=>Dq mc body m C
        |.ct C=>Dq mc body m C
        |.bk C=> .nx C
        |o=>o) D:=b
       refine⟨λl I=>∃ k j a f,Rel Y T k j a l I f/\Ex B U k j/\Kp pr Z l/\So Y E Kr pr T B U Z (Dq mc body m f) D,λl I h=>⟨m,Xw m,h⟩,?_⟩;refine X Q J u i O q _ L ?_;cases G:body q with
       |nx f=>
         rw[G] at b;exact λg k j a A t s r=>⟨k,j,a,f,t,(z.trans w).trans s,y.trans r,b⟩
       |ct f=>
         rw[G] at b;exact λg k j a A t s r=>⟨k,j,a,f,t,(z.trans w).trans s,y.trans r,b⟩
       |bk f=>
         rw[G] at b;exact λg k j a A t s r=>b g k j a A t ((z.trans w).trans s) (y.trans r)
       |rt d f=>
         rw[G] at b;exact λv g k j a A N t s r=>b v g k j a A N t ((z.trans w).trans s) (y.trans r)
       |exc c f=>
         rw[G] at b;exact λg k j a A t s r=>b g k j a A t ((z.trans w).trans s) (y.trans r)
       |bad=>rw[G] at b; exact b.elim
   |exc c q=>rw[e] at b; exact λQ J u O L w=>b i Q J u O L (z.trans w) y
   |bad=>rw[e] at b; exact b.elim
end
inductive Ap where
 |F|U|X|O (i:Nat)|Bo (i:Nat)
deriving DecidableEq
def gA:List Ap->Nat->Env->Env->Env
 |[],_,_,M=>M
 |.O i::r,j,a,M=>gA r (j+1) a (M.set i (rg a j))
 |_::r,j,a,M=>gA r (j+1) a M
def gz(a:List Ap)(e:List D->Out D)(ds:List D)(M:Env):Out D:=match e ds with
 |.ok d b=> .ok d (gA a 0 b M)
 |.exc c b=> .exc c (gA a 0 b M)
 |.bad=> .bad
def k6(a:List D->Out D)(ds:List D):Res D:=match a ds with
 |.ok d _=> .ok d
 |.exc c _=> .exc c
 |.bad=> .bad
def iM(T:List Md)(M:Env):Env:=(List.range T.length).map λi=>match T.getD i .F with | .O _=>rg M i|_=>none
section
variable(Y:Cm)
def DG(T:List Md)(e:KT D V)(b:List D->Out D):Sp:=λvs H Q E=>∃ B U As ds,Rel Y T B U As (vs.map some) H (ds.map some)/\vs.length=T.length/\match b ds with
 |.ok d C=>∀ v S J G H' N,Rel Y T S J G (vs.map some) H' (iM T C)->Ex B U S J->NewM N J G->e d v S J H' N->Q v H'
 |.exc c C=>∀ S J G H',Rel Y T S J G (vs.map some) H' (iM T C)->Ex B U S J->∀ a,E (.ref (Y c)) a H'
 |.bad=>False
def A1(p:Ap)(B U H:Hp)(Z:St)(M:Env)(d:D)(v:V):Prop:=match p with
 |.F=>Dn Y B d v
 |.U=>Dn Y U d v
 |.X=>Dn Y H d v
 |.O i=>rg Z i=some v/\rg M i=some d
 |.Bo i=>rg Z i=some v/\rg M i=some d
def Ag(B U H:Hp)(Z:St)(M:Env):List Ap->List D->List V->Prop
 |[],ds,vs=>ds=[]/\vs=[]
 |p::ps,ds,vs=>∃ d a v vr,ds=d::a/\vs=v::vr/\A1 Y p B U H Z M d v/\Ag B U H Z M ps a vr
end
section
variable{Y:Cm}{E:XK}{T:List Md}{B U H:Hp}{As:Nat->List Addr}{Z:St}{M:Env}
theorem A1.mono{p:Ap}{S J H':Hp}{d:D}{v:V}(h:A1 Y p B U H Z M d v)(g:Gw B U H S J H'):A1 Y p S J H' Z M d v:=by
 cases p with
 |F=>exact Dn.mono g.b h
 |U=>exact Dn.mono g.u h
 |X=>exact Dn.mono g.h h
 |O i=>exact h
 |Bo i=>exact h
def A1J(Y:Cm)(E:XK)(T:List Md)(p:Ap)(t:TE)(m:Env->Res D):Prop:=∀ B U As Z H M Q,Rel Y T B U As Z H M->Po Y (λd v B U H _=>A1 Y p B U H Z M d v) E T B U As Z H M (m M) Q->t Z H Q
def AJ(Y:Cm)(E:XK)(T:List Md)(ps:List Ap)(t:TA)(m:Env->Res (List D)):Prop:=∀ B U As Z H M Q,Rel Y T B U As Z H M->Po Y (λd v B U H _=>Ag Y B U H Z M ps d v) E T B U As Z H M (m M) Q->t Z H Q
theorem aF{t:TE}{m:Env->Res D}(h:PJ Y (KR Y .F) E T t m):A1J Y E T .F t m:=λB U As Z H M Q R P=>h B U As Z H M Q R P
theorem aU{t:TE}{m:Env->Res D}(h:PJ Y (KR Y .U) E T t m):A1J Y E T .U t m:=λB U As Z H M Q R P=>h B U As Z H M Q R P
theorem aX{t:TE}{m:Env->Res D}(h:PJ Y (KR Y .X) E T t m):A1J Y E T .X t m:=λB U As Z H M Q R P=>h B U As Z H M Q R P
theorem QT{i:Nat}{p:Ap}(hp:∀ B U H Z M d v,rg Z i=some v->rg M i=some d->A1 Y p B U H Z M d v):A1J Y E T p (iz i) (vr i):=by
 intro B U As Z H M Q R P;unfold vr at P;have l:=R.lo i;cases e:rg M i with
 |none=>rw[e] at P; exact P.elim
 |some d=>
   rw[e] at P l;obtain⟨v,a,q⟩:=l;exact⟨v,g6 a,P v B U H [] R (Gw.refl _ _ _) New.nil (hp _ _ _ _ _ _ _ a e)⟩
theorem aO{i:Nat}:A1J Y E T (.O i) (iz i) (vr i):=QT λ_ _ _ _ _ _ _ h k=>⟨h,k⟩
theorem az:AJ Y E T [] d8 ba:=λB U As Z H M Q R P=>P [] B U H [] R (Gw.refl _ _ _) New.nil ⟨rfl,rfl⟩
theorem A1J.bnd{p:Ap}{O J:Type}{d:KT O J}{ta:TE}{a:Env->Res D}(g:A1J Y E T p ta a)(R:Rel Y T B U As Z H M){k:D->Res O}{Q:J->Hp->Prop}
 (P:Po Y d E T B U As Z H M ((a M).bind k) Q) {body:V->Hp->Prop}
 (h:∀ x v I U1 L,Rel Y T I U1 As Z L M->Gw B U H I U1 L->A1 Y p I U1 L Z M x v->Po Y d E T I U1 As Z L M (k x) Q->body v L):ta Z H body:=by
 refine g B U As Z H M body R ?_;cases e:a M with
 |ok x=>
   rw[e] at P;exact λv I U1 L N i b j f=>h x v I U1 L i b f (Po.at (r:=k x) P b)
 |exc c=>rw[e] at P; exact P
 |bad=>rw[e] at P; exact P
theorem AJ.bnd{ps:List Ap}{O J:Type}{d:KT O J}{ta:TA}{a:Env->Res (List D)}(g:AJ Y E T ps ta a)(R:Rel Y T B U As Z H M){k:List D->Res O}{Q:J->Hp->Prop}
 (P:Po Y d E T B U As Z H M ((a M).bind k) Q) {body:List V->Hp->Prop}
 (h:∀ x v I U1 L,Rel Y T I U1 As Z L M->Gw B U H I U1 L->Ag Y I U1 L Z M ps x v->Po Y d E T I U1 As Z L M (k x) Q->body v L):ta Z H body:=by
 refine g B U As Z H M body R ?_;cases e:a M with
 |ok x=>
   rw[e] at P;exact λv I U1 L N i b j f=>h x v I U1 L i b f (Po.at (r:=k x) P b)
 |exc c=>rw[e] at P; exact P
 |bad=>rw[e] at P; exact P
theorem ae{p:Ap}{ps:List Ap}{ta:TE}{a:TA}{c:Env->Res D}{b:Env->Res (List D)}(e:A1J Y E T p ta c)(d:AJ Y E T ps a b):AJ Y E T (p::ps) (b9 ta a) (au c b):=by
 intro B U As Z H M Q R P;refine e.bnd R P λx v I U1 L i m N s=>d.bnd i s λy u l h k R2 f g j=>?_;exact j (v::u) l h k [] R2 (Gw.refl _ _ _) New.nil ⟨x,y,v,u,rfl,rfl,N.mono f,g⟩
def vB(T:List Md)(pure:Bool):Ap->Md->Bool
 |.F,.F=>true
 |.F,.R=>true
 |.U,.R=>true
 |.X,.R=>pure
 |.Bo _,.R=>true
 |_,_=>false
theorem Ag.len:∀ {ps:List Ap} {ds:List D} {vs:List V},Ag Y B U H Z M ps ds vs->ds.length=ps.length/\vs.length=ps.length
 |[],_,_,h=>by obtain⟨rfl,rfl⟩:=h; exact⟨rfl,rfl⟩
 | p::ps,_,_,h=>by
   obtain⟨d,a,v,vr,rfl,rfl,_,h⟩:=h
   have:=Ag.len h
   exact⟨by rw[VU,VU,this.1],by rw[VU,VU,this.2]⟩
theorem Ag.get:∀ {ps:List Ap} {ds:List D} {vs:List V} {j:Nat} {p:Ap},Ag Y B U H Z M ps ds vs->ps[j]?=some p->∃ d v,ds[j]?=some d/\vs[j]?=some v/\A1 Y p B U H Z M d v
 |[],_,_,_,_,_,e=>by cases e
 | p::ps,_,_,j,q,h,e=>by
   obtain⟨d,b,v,vr,rfl,rfl,a,h⟩:=h;cases j with
   |zero=>cases e; exact⟨d,v,rfl,rfl,a⟩
   |succ j=>exact Ag.get (j:=j) h (by simpa using e)
theorem fZ{W:Type}{l:List W}{i:Nat}:rg (l.map some) i=l[i]?:=by
 unfold rg;rw[List.getElem?_map];cases l[i]?<;>rfl
theorem Rel.read(R:Rel Y T B U As Z H M){i:Nat}{d:D}{v:V}(a:rg Z i=some v)(hd:rg M i=some d):Dn Y H d v:=by
 have l:=R.lo i;rw[hd] at l;have q:=jA l a;cases e:T.getD i .F with
 |F=>rw[e] at q; exact Dn.mono R.bh q.1
 |R=>rw[e] at q; exact Dn.mono R.uh q.1
 |O s=>rw[e] at q; exact Ow.dn R.bh (λ_ _ _ q=>q) q
theorem A1.read(R:Rel Y T B U As Z H M){p:Ap}{d:D}{v:V}(h:A1 Y p B U H Z M d v):Dn Y H d v:=by
 cases p with
 |F=>exact Dn.mono R.bh h
 |U=>exact Dn.mono R.uh h
 |X=>exact h
 |O i=>exact R.read h.1 h.2
 |Bo i=>exact R.read h.1 h.2
def ov(B U:Hp):Hp:=λa=>match B a with|some o=>some o|none=>U a
theorem yG{f:List Md}{I:KT D V}{W:List D->Out D}{ps:List Ap}{ds:List D}{vs:List V}{Q:VK}(R:Rel Y T B U As Z H M)(A:Ag Y B U H Z M ps ds vs)(hl:ps.length=f.length)
 (hf:∀ (j:Nat) p,ps[j]?=some p->vB T true p (f.getD j .F)=true) (hU:∀ d v B U J H N,I d v B U H N->I d v B J H N) (P:Po Y I E T B U As Z H M (k6 W ds) Q):DG Y f I W vs H Q E:=by
 have n:=A.len
 have Rc:Rel Y f B H (λ_=>[]) (vs.map some) H (ds.map some):=by
  refine⟨R.bh,Same.refl _,λ_=>Wz,λ_ _ _ _ h=>(nomatch h),λ_ _ h=>(nomatch h),λj=>?_,by rw[VN,VN,n.1,n.2],R.tb⟩;rw[fZ,fZ];cases e:ps[j]? with
  |none=>
    have:ps.length<=j:=List.getElem?_eq_none_iff.mp e
    rw[Wd (by omega)];rfl
  |some p=>
    obtain⟨d,v,ed,ev,t⟩:=A.get e;rw[ed,ev];refine⟨v,rfl,?_⟩;have hr:=A1.read R t;have q:=hf j p e;cases em:f.getD j .F with
    |F=>
      rw[em] at q;cases p with
      |F=>exact⟨t,rfl⟩
      |_=>cases q
    |R=>exact⟨hr,rfl⟩
    |O s=>rw[em] at q; cases p<;>cases q
 refine⟨B,H,λ_=>[],ds,Rc,by omega,?_⟩
 have m:∀ {S J H':Hp} {G:Nat->List Addr} {x:Env},Rel Y f S J G (vs.map some) H' x->Ex B H S J->Rel Y T S (ov S U) As Z H' M/\Gw B U H S (ov S U) H':=λ{S J H' G x} l g=>by
  have same:∀ a o,U a=some o->∀ o',S a=some o'->o'=o:=λa o q o' w=>by
   have t:=g.u a o (R.uh a o q);have h2:=l.bu a o' w;rw[t] at h2;exact(Wh h2).symm
  have X:Same U (ov S U):=λa o q=>by
   unfold ov;cases z:S a with
   |none=>exact q
   |some o'=>rw[same a o q o' z]
  have y:Same H H':=g.u.trans l.uh
  have uh:Same (ov S U) H':=λa o q=>by
   unfold ov at q;cases z:S a with
   |none=>rw[z] at q; exact y a o (R.uh a o q)
   |some o'=>rw[z] at q; cases q; exact l.bh a _ z
  have bu:Same S (ov S U):=λa o q=>by unfold ov; rw[q]
  have new:∀ a o,S a=some o->B a=some o\/H a=none\/j7 o:=g.nb;refine⟨R.grow g.b X y bu uh λi a r=>?_,⟨g.b,X,λa o q=>?_⟩,y,λa o q=>?_⟩
  · unfold ov;cases z:S a with
    |none=>exact R.un i a r
    |some o=>
      obtain⟨o',w⟩:=R.at r;rcases new a o z with q|q|q
      ·have:=R.bu a o q; rw[R.un i a r] at this; cases this
      ·rw[q] at w; cases w
      ·have e1:=y _ _ w;rw[l.bh a o z] at e1; cases e1; exact(R.nt r w q).elim
  · rcases new a o q with q|q|q
    ·exact .inl q
    ·exact .inr (.inl (R.uh.free q))
    ·exact .inr (.inr q)
  · unfold ov at q;cases z:S a with
    |none=>rw[z] at q; exact .inl q
    |some o'=>
      rw[z] at q;cases q;rcases new a _ z with q|q
      ·exact .inl (R.bu a _ q)
      ·exact .inr q
 cases e:W ds with
 |ok d C=>
   unfold k6 at P;rw[e] at P;intro v S J G H' N l g K k;obtain⟨R2,L⟩:=m l g;refine P v S _ H' N R2 L ⟨K.nd,λa r=>g.u.free (K.un a r),λa r=>?_⟩ (hU d v S J (ov S U) H' N k);unfold ov;have t:=K.un a r;cases z:S a with
   |none=>exact R.uh.free (g.u.free t)
   |some o=>have:=l.bu a o z; rw[t] at this; cases this
 |exc c C=>
   unfold k6 at P;rw[e] at P;intro S J G H' l g;obtain⟨R2,L⟩:=m l g;exact P S _ H' R2 L
 |bad=>
   unfold k6 at P;rw[e] at P;exact P
theorem hF{d:D}{v:V}{B U J H:Hp}{N:List Addr}(h:KR Y .F d v B U H N):KR Y .F d v B J H N:=h
theorem hO{s:Sh}{d:D}{v:V}{B U J H:Hp}{N:List Addr}(h:KO Y s d v B U H N):KO Y s d v B J H N:=h
theorem GR{a:List Md}{b:KT D V}{c:List D->Out D}{ps:List Ap}{t:TA}{m:Env->Res (List D)}(h:AJ Y E T ps t m)(e:ps.length=a.length)
 (f:∀ (j:Nat) p,ps[j]?=some p->vB T true p (a.getD j .F)=true) (g:∀ d v B U J H N,b d v B U H N->b d v B J H N):PJ Y b E T (tS (DG Y a b c) [] E t) (λM=>(m M).bind (k6 c)):=by
 intro B U As Z H M Q R P;refine h.bnd R P λds vs I U1 L i k A s=>?_;rw[Wp];exact yG i A e f g s
def eG(c:Nat)(m:Str):D->Bool
 |.obj a ns _=>decide (a=c)&&!ns.contains m
 |_=>false
theorem pd{m:Str}:∀ {fs:List (Str×V)},(fs.map (·.1)).contains m=false->fs.lookup m=none
 |[],_=>rfl
 | p::fs,h=>by
   rw[VQ,List.contains_cons,Bool.or_eq_false_iff] at h;rw[Ws,h.1];exact pd h.2
theorem ud{c:Nat}{m:Str}{d:D}{v:V}(h:eG c m d=true)(hd:Dn Y H d v):∃ a dx fs,v= .ref a/\H a=some (.ins (Y c) dx fs)/\fs.lookup m=none:=by
 cases d with
 |obj g ns ds=>
   have h:(decide (g=c)&&!ns.contains m)=true:=h;rw[Xe] at h;have e:=Wy h.1;subst e;rw[Dn] at hd;obtain⟨a,dx,fs,r,f,b,_⟩:=hd;refine⟨a,dx,fs,r,f,pd ?_⟩;rw[b];simpa using h.2
 |_=>cases h
theorem GM{c:Nat}{f:Str}{b:List Md}{e:KT D V}{i:List D->Out D}{p:Ap}{ps:List Ap}{ta:TE}{g:Env->Res D}{t:TA}{m:Env->Res (List D)}(u:A1J Y E T p ta g)(h:AJ Y E T ps t m)(n:(p::ps).length=b.length)
 (r:∀ (j:Nat) q,(p::ps)[j]?=some q->vB T true q (b.getD j .F)=true) (w:∀ d v B U J H N,e d v B U H N->e d v B J H N):
 PJ Y e E T (qr (Y c) f (DG Y b e i) [] E ta t) (λM=>(g M).bind λo=>if eG c f o=true then (m M).bind λds=>k6 i (o::ds) else .bad):=by
 intro B U As Z H M Q R P;refine u.bnd R P λo v I U1 L l K k s=>?_;by_cases z:eG c f o=true
 ·rw[on z] at s;obtain⟨a,dx,fs,rfl,y,x⟩:=ud z (A1.read l k);refine⟨a,dx,fs,rfl,y,x,h.bnd l s λds vs W O S R2 C A G=>?_⟩;rw[Wp];exact yG (ps:=p::ps) (ds:=o::ds) R2 ⟨o,ds,_,vs,rfl,rfl,k.mono C,A⟩ n r w G
 ·rw[VM z] at s;exact s.elim
end
section
variable{Y:Cm}{E:XK}{T:List Md}{B U H:Hp}{As:Nat->List Addr}{Z:St}{M:Env}
def kA:List Ap->Nat->Option Nat
 |[],_=>none
 |p::r,i=>if p= .O i then some 0 else (kA r i).map (·+1)
theorem ja:∀ {ps:List Ap} {i j:Nat},kA ps i=some j->ps[j]?=some (.O i)
 |[],_,_,h=>by cases h
 | p::r,i,j,h=>by
   unfold kA at h;by_cases e:p= .O i
   ·rw[on e] at h; cases h; rw[e]; rfl
   ·rw[VM e] at h;obtain⟨k,a,rfl⟩:=Option.map_eq_some_iff.mp h;rw[XH];exact ja a
def iZ:List Ap->List Nat
 |[]=>[]
 |.O i::r=>i::iZ r
 |_::r=>iZ r
def yI:List Ap->List Nat
 |[]=>[]
 |.Bo i::r=>i::yI r
 |_::r=>yI r
theorem kL:∀ {ps:List Ap} {i j:Nat},ps[j]?=some (.O i)->i∈iZ ps
 |[],_,_,h=>by cases h
 | p::r,i,j,h=>by
   cases j with
   |zero=>cases h; exact VP
   |succ j=>
     have:=kL (ps:=r) (j:=j) (by simpa using h)
     cases p <;> first | exact this | exact VR _ this
theorem rj:∀ {ps:List Ap} {i:Nat},i∈iZ ps->∃ j,kA ps i=some j
 |[],_,h=>by cases h
 | p::r,i,h=>by
   unfold kA;by_cases e:p= .O i
   ·exact⟨0,by rw[on e]⟩
   · rw[VM e]
     have:i∈iZ r:=by
      cases p with
      |O k=>
        rcases List.mem_cons.mp h with z|z
        ·exact absurd (by rw[z]) e
        ·exact z
      |_=>exact h
     obtain⟨j,a⟩:=rj this;exact⟨j+1,by rw[a]; rfl⟩
theorem xu:∀ {ps:List Ap} {i j:Nat},ps[j]?=some (.Bo i)->i∈yI ps
 |[],_,_,h=>by cases h
 | p::r,i,j,h=>by
   cases j with
   |zero=>cases h; exact VP
   |succ j=>
     have:=xu (ps:=r) (j:=j) (by simpa using h)
     cases p <;> first | exact this | exact VR _ this
theorem uf:∀ {ps:List Ap} {i j k:Nat},(iZ ps).Nodup->ps[j]?=some (.O i)->ps[k]?=some (.O i)->j=k
 |[],_,_,_,_,h,_=>by cases h
 | p::r,i,j,k,nd,c,b=>by
   cases j with
   |zero=>
     cases k with
     |zero=>rfl
     |succ k=>
       cases c;exact absurd (kL (ps:=r) (j:=k) (by simpa using b)) (List.nodup_cons.mp nd).1
   |succ j=>
     cases k with
     |zero=>
       cases b;exact absurd (kL (ps:=r) (j:=j) (by simpa using c)) (List.nodup_cons.mp nd).1
     |succ k=>
       have a:(iZ r).Nodup:=by
        cases p with
        |O x=>exact(List.nodup_cons.mp nd).2
        |_=>exact nd
       rw[uf a (j:=j) (k:=k) (by simpa using c) (by simpa using b)]
theorem lQ:∀ {ps:List Ap} {j:Nat} {a M:Env},(gA ps j a M).length=M.length
 |[],_,_,_=>rfl
 | p::r,j,a,M=>by
   cases p with
   |O i=>rw[gA,lQ,WT]
   |F=>rw[gA,lQ]; all_goals simp
   |U=>rw[gA,lQ]; all_goals simp
   |X=>rw[gA,lQ]; all_goals simp
   |Bo i=>rw[gA,lQ]; all_goals simp
theorem uO:∀ {ps:List Ap} {b:Nat} {a M:Env} {i:Nat},(iZ ps).Nodup->i<M.length->rg (gA ps b a M) i=match kA ps i with|some j=>rg a (b+j)|none=>rg M i
 |[],_,_,_,_,_,_=>rfl
 | p::r,b,a,M,i,nd,hi=>by
   have step:∀ C:Env,C.length=M.length->(iZ r).Nodup->(p≠ .O i)->rg C i=rg M i->rg (gA r (b+1) a C) i=match kA (p::r) i with|some j=>rg a (b+j)|none=>rg M i:=λC g d hp e=>by
    rw[uO d (by rw[g]; exact hi),kA,VM hp];cases kA r i with
    |none=>exact e
    |some j=>
      show rg a (b+1+j)=rg a (b+(j+1));rw[show b+1+j=b+(j+1) by omega]
   cases p with
   |O k=>
     rw[gA];by_cases e:k=i
     · subst e
       have f:kA r k=none:=by
        cases q:kA r k with
        |none=>rfl
        |some j=>exact absurd (kL (ja q)) (List.nodup_cons.mp nd).1
       rw[uO (List.nodup_cons.mp nd).2 (by rw[WT]; exact hi),f,kA,on rfl,kq,on ⟨rfl,hi⟩];rfl
     ·exact step _ (WT ..) (List.nodup_cons.mp nd).2 (λz=>e (by cases z; rfl)) (by rw[kq,VM λz=>e z.1])
   |F=>rw[gA]; exact step M rfl nd (λz=>by cases z) rfl; all_goals simp
   |U=>rw[gA]; exact step M rfl nd (λz=>by cases z) rfl; all_goals simp
   |X=>rw[gA]; exact step M rfl nd (λz=>by cases z) rfl; all_goals simp
   |Bo k=>rw[gA]; exact step M rfl nd (λz=>by cases z) rfl; all_goals simp
def TX(T:List Md):Ap->Md->Prop
 |.F,.F=>True
 |.F,.R=>True
 |.U,.R=>True
 |.Bo _,.R=>True
 |.O i,.O s=>T.getD i .F= .O s
 |_,_=>False
def fitM(T:List Md):List Ap->List Md->Prop
 |[],[]=>True
 |p::ps,m::r=>TX T p m/\fitM T ps r
 |_,_=>False
theorem fitM.len:∀ {ps:List Ap} {mc:List Md},fitM T ps mc->ps.length=mc.length
 |[],[],_=>rfl
 |[],_::_,h=>h.elim
 |_::_,[],h=>h.elim
 |p::ps,m::r,h=>by rw[VU,VU,fitM.len h.2]
theorem fitM.get:∀ {ps:List Ap} {mc:List Md} {j:Nat} {p:Ap},fitM T ps mc->ps[j]?=some p->TX T p (mc.getD j .F)
 |[],_,_,_,_,e=>by cases e
 |_::_,[],_,_,h,_=>h.elim
 | p::ps,m::r,j,q,h,e=>by
   cases j with
   |zero=>cases e; exact h.1
   |succ j=>rw[Xz]; exact fitM.get (j:=j) h.2 (by simpa using e)
theorem ou{mc:List Md}{a:Env}{j:Nat}{s:Sh}(h:mc.getD j .F= .O s):rg (iM mc a) j=rg a j:=by
 have b:j<mc.length:=by
  by_cases z:j<mc.length
  ·exact z
  ·rw[V6,Wd (by omega)] at h; cases h
 unfold iM;show((((List.range mc.length).map _)[j]?).join)=_;rw[List.getElem?_map,List.getElem?_range b];show(some (match mc.getD j .F with | .O _=>rg a j|_=>none)).join=_;rw[h];rfl
open Classical in
theorem yH{g:List Md}{Kr:KT D V}{fm:List D->Out D}{ps:List Ap}{ds:List D}{vs:List V}{Q:VK}(R:Rel Y T B U As Z H M)(A:Ag Y B U H Z M ps ds vs)(hf:fitM T ps g)(hd:(iZ ps).Nodup)
 (hb:∀ i∈yI ps,i∉iZ ps) (hU:∀ d v B U J H N,Kr d v B U H N->Kr d v B J H N) (P:Mo Y Kr E T B U Z (gz ps fm ds M) Q):DG Y g Kr fm vs H Q E:=by
 have hlen:=A.len;have hl:=hf.len
 have K:∀ {i j:Nat},ps[j]?=some (.O i)->∃ d v s,ds[j]?=some d/\vs[j]?=some v/\rg Z i=some v/\rg M i=some d/\g.getD j .F= .O s/\T.getD i .F= .O s:=λ{i j} e=>by
  obtain⟨d,v,ed,ev,r⟩:=A.get e;have q:=hf.get e;cases y:g.getD j .F with
  |O s=>rw[y] at q; exact⟨d,v,s,ed,ev,r.1,r.2,rfl,q⟩
  |F=>rw[y] at q; exact q.elim
  |R=>rw[y] at q; exact q.elim
 have FPd:∃ Uc:Hp,(∀ a,(∃ j i:Nat,ps[j]?=some (.O i)/\a∈As i)->Uc a=none)/\(∀ a,(¬ ∃ j i:Nat,ps[j]?=some (.O i)/\a∈As i)->Uc a=H a):=
  ⟨λa=>if (∃ j i:Nat,ps[j]?=some (.O i)/\a∈As i) then none else H a,λa h=>on h,λa h=>VM h⟩
 obtain⟨Uc,uc1,uc2⟩:=FPd
 have notFP:∀ {a o},U a=some o->¬ ∃ j i:Nat,ps[j]?=some (.O i)/\a∈As i:=λ{a o} q ⟨j,i,_,f⟩=>by
  rw[R.un i a f] at q; cases q
 have m:Same U Uc:=λa o q=>by rw[uc2 a (notFP q)]; exact R.uh a o q
 have ucH:Same Uc H:=λa o q=>by
  by_cases z:∃ j i:Nat,ps[j]?=some (.O i)/\a∈As i
  ·rw[uc1 a z] at q; cases q
  ·rw[uc2 a z] at q; exact q
 -- what is owned and not iZ
 have other:∀ {i a},i∉iZ ps->a∈As i->∃ o,Uc a=some o/\H a=some o:=λ{i a} hi f=>by
  obtain⟨o,q⟩:=R.at f;refine⟨o,?_,q⟩;rw[uc2 a]
  ·exact q
  · rintro⟨j,k,ek,x⟩;by_cases e:k=i
    ·subst e; exact hi (kL ek)
    ·exact R.dj k i a e x f
 have Rc:Rel Y g B Uc (λj=>match ps[j]? with|some (.O i)=>As i|_=>[]) (vs.map some) H (ds.map some):=by
  refine⟨R.bu.trans m,ucH,λj=>?_,λj k a hne f x=>?_,λj a f=>?_,λj=>?_,by rw[VN,VN,hlen.1,hlen.2],R.tb⟩
  · try dsimp only
    split
    ·exact R.nd _
    ·exact Wz
  · try dsimp only at f x
    split at f
    · rename_i i e1;split at x
      · rename_i i' e2;by_cases e:i=i'
        ·subst e; exact hne (uf hd e1 e2)
        ·exact R.dj i i' a e f x
      ·cases x
    ·cases f
  · try dsimp only at f
    split at f
    ·rename_i i e1;exact uc1 a ⟨j,i,e1,f⟩
    ·cases f
  · rw[fZ,fZ];cases e:ps[j]? with
    |none=>
      have:ps.length<=j:=List.getElem?_eq_none_iff.mp e
      rw[Wd (by omega)];rfl
    |some p=>
      obtain⟨d,v,ed,ev,r⟩:=A.get e;rw[ed,ev];refine⟨v,rfl,?_⟩;have q:=hf.get e;cases p with
      |F=>
        have r:Dn Y B d v:=r;cases y:g.getD j .F with
        |F=>exact⟨r,rfl⟩
        |R=>exact⟨Dn.mono (R.bu.trans m) r,rfl⟩
        |O s=>rw[y] at q; exact q.elim
      |U=>
        have r:Dn Y U d v:=r;cases y:g.getD j .F with
        |F=>rw[y] at q; exact q.elim
        |R=>exact⟨Dn.mono m r,rfl⟩
        |O s=>rw[y] at q; exact q.elim
      |X=>cases y:g.getD j .F<;>(rw[y] at q; exact q.elim)
      |Bo i=>
        cases y:g.getD j .F with
        |F=>rw[y] at q; exact q.elim
        |O s=>rw[y] at q; exact q.elim
        |R=>
          refine⟨?_,rfl⟩;have l:=R.lo i;rw[r.2] at l;have w:=jA l r.1;cases e2:T.getD i .F with
          |F=>rw[e2] at w; exact Dn.mono (R.bu.trans m) w.1
          |R=>rw[e2] at w; exact Dn.mono m w.1
          |O s=>
            rw[e2] at w;refine Ow.dn (R.bu.trans m) (λa f o q=>?_) w;obtain⟨o',q1,q2⟩:=other (hb i (xu e)) f;rw[q2] at q; cases q; exact q1
      |O i=>
        obtain⟨d',v',s,ed',ev',L,h3,h4,h5⟩:=K e;rw[h4];have l:=R.lo i;rw[r.2,h5] at l;exact jA l r.1
 refine⟨B,Uc,_,ds,Rc,by omega,?_⟩
 have main:∀ {S J H':Hp} {G:Nat->List Addr} {W:Env},Rel Y g S J G (vs.map some) H' (iM g W)->Ex B Uc S J->
  Rel Y T S (ov S U) (λi=>match kA ps i with|some j=>G j|none=>As i) Z H' (gA ps 0 W M)/\Ex B U S (ov S U)/\∀ N,NewM N J G->NewM N (ov S U) (λi=>match kA ps i with|some j=>G j|none=>As i):=λ{S J H' G W} t I=>by
  have su:Same U (ov S U):=λa o q=>by
   unfold ov;cases z:S a with
   |none=>exact q
   |some o'=>
     have r:=I.u a o (m a o q);have L:=t.bu a o' z;rw[r] at L; cases L; rfl
  have uh:Same (ov S U) H':=λa o q=>by
   unfold ov at q;cases z:S a with
   |none=>rw[z] at q; exact t.uh a o (I.u a o (m a o q))
   |some o'=>rw[z] at q; cases q; exact t.bh a _ z
  have bu:Same S (ov S U):=λa o q=>by unfold ov; rw[q]
  have free:∀ {a},J a=none->ov S U a=none:=λ{a} h=>by
   unfold ov;cases z:S a with
   |none=>exact m.free (I.u.free h)
   |some o=>have:=t.bu a o z; rw[h] at this; cases this
  have there:∀ {i a},kA ps i=none->a∈As i->∃ o,J a=some o/\H a=some o/\H' a=some o:=λ{i a} hi f=>by
   obtain⟨o,q1,q2⟩:=other (λz=>by obtain⟨j,hj⟩:=rj z; rw[hi] at hj; cases hj) f;exact⟨o,I.u a o q1,q2,t.uh a o (I.u a o q1)⟩
  refine⟨⟨bu,uh,λi=>?_,λi k a hne f x=>?_,λi a f=>?_,λi=>?_,by rw[lQ]; exact R.len,t.tb⟩,⟨I.b,su,λa o q=>?_⟩,λN n=>⟨n.nd,λa f=>free (n.un a f),λa f i=>?_⟩⟩
  · try dsimp only
    split
    ·exact t.nd _
    ·exact R.nd _
  · try dsimp only at f x
    split at f
    · rename_i j ej;split at x
      ·rename_i j' ej';refine t.dj j j' a (λz=>hne ?_) f x;subst z;have r:=ja ej;have L:=ja ej';rw[r] at L; cases L; rfl
      ·rename_i ek;obtain⟨o,q,_⟩:=there ek x;rw[t.un j a f] at q; cases q
    · rename_i ei;obtain⟨o,q,_⟩:=there ei f;split at x
      ·rename_i j' ej';rw[t.un j' a x] at q; cases q
      ·exact R.dj i k a hne f x
  · try dsimp only at f
    split at f
    ·rename_i j ej;exact free (t.un j a f)
    · rename_i ei;obtain⟨o,q,_⟩:=there ei f;unfold ov;cases z:S a with
      |none=>exact R.un i a f
      |some o'=>
        rcases I.nb a o' z with w|w|w
        ·have:=R.bu a o' w; rw[R.un i a f] at this; cases this
        ·obtain⟨o2,q1,q2⟩:=other (λz=>by obtain⟨j,hj⟩:=rj z; rw[ei] at hj; cases hj) f;rw[w] at q1; cases q1
        ·obtain⟨o2,_,q2,q3⟩:=there ei f;rw[t.bh a o' z] at q3; cases q3;exact(R.nt f q2 w).elim
  · try dsimp only
    cases ep:kA ps i with
    |some j=>
      obtain⟨d,v,s,ed,ev,L,h3,h4,h5⟩:=K (ja ep)
      have hi:i<M.length:=by
       have:=g6 h3
       exact(List.getElem?_eq_some_iff.mp this).1
      rw[uO hd hi,ep]
      try dsimp only
      have l:=t.lo j;rw[ou h4,fZ,ev,h4] at l;rw[L,h5,Nat.zero_add];exact l
    |none=>
      try dsimp only
      by_cases hi:i<M.length
      ·rw[uO hd hi,ep];refine(R.lo i).mono I.b su λa f=>?_;obtain⟨o,_,q1,q2⟩:=there ep f;rw[q1,q2]
      · have r:rg (gA ps 0 W M) i=none:=by
         unfold rg;rw[List.getElem?_eq_none (by rw[lQ]; omega)];rfl
        have L:rg M i=none:=by
         unfold rg;rw[List.getElem?_eq_none (by omega)];rfl
        have l:=R.lo i;rw[L] at l;rw[r];exact l
  · rcases I.nb a o q with w|w|w
    ·exact .inl w
    ·exact .inr (.inl (m.free w))
    ·exact .inr (.inr w)
  · try dsimp only
    cases ep:kA ps i with
    |some j=>exact n.ap a f j
    |none=>
      intro z;obtain⟨o,q,_⟩:=there ep z;rw[n.un a f] at q; cases q
 cases e:fm ds with
 |ok d C=>
   unfold gz at P;rw[e] at P;intro v S J G H' N t I n' k;obtain⟨R2,e2,n2⟩:=main t I;exact P v S _ _ H' N R2 e2 (n2 N n') (hU d v S J (ov S U) H' N k)
 |exc c C=>
   unfold gz at P;rw[e] at P;intro S J G H' t I;obtain⟨R2,e2,n2⟩:=main t I;exact P S _ _ H' R2 e2
 |bad=>
   unfold gz at P;rw[e] at P;exact P
end
def o8(c:Nat)(a:List D->Out D)(ds:List D):Res D:=match a (.obj c [] []::ds) with
 |.ok .non C=>(match rg C 0 with|some d=> .ok d|none=> .bad)
 |.ok _ _=> .bad
 |.exc c _=> .exc c
 |.bad=> .bad
section
variable{Y:Cm}{E:XK}{T:List Md}{B U H:Hp}{As:Nat->List Addr}{Z:St}{M:Env}{K:L0}
theorem Px{a:List Md}{b:KT D V}{f:List D->Out D}{ps:List Ap}{t:TA}{m:Env->Res (List D)}(h:AJ Y E T ps t m)(k:fitM T ps a)(hd:(iZ ps).Nodup)(l:∀ i∈yI ps,i∉iZ ps)
 (n:∀ d v B U J H N,b d v B U H N->b d v B J H N):MJ Y b E T (tS (DG Y a b f) [] E t) (λM=>((m M).up M).bind (gz ps f)):=by
 intro B U As Z H M Q R P;replace P:Mo Y b E T B U Z (((m M).up M).bind (gz ps f)) Q:=P;refine h B U As Z H M _ R ?_;cases e:m M with
 |ok ds=>
   rw[e] at P;intro vs I U1 L N j g o A;rw[Wp];exact yH j A k hd l n (Mo.at (r:=gz ps f ds M) P g.toEx)
 |exc c=>rw[e] at P; exact λI U1 L j g=>P I U1 As L j g.toEx
 |bad=>rw[e] at P; exact P
theorem Pu{c:Nat}{g:Str}{f:List Md}{b:KT D V}{j:List D->Out D}{p:Ap}{ps:List Ap}{ta:TE}{k:Env->Res D}{t:TA}{m:Env->Res (List D)}(G:A1J Y E T p ta k)(h:AJ Y E T ps t m)(C:fitM T (p::ps) f)(hd:(iZ (p::ps)).Nodup)
 (F:∀ i∈yI (p::ps),i∉iZ (p::ps)) (K:∀ d v B U J H N,b d v B U H N->b d v B J H N):
 MJ Y b E T (qr (Y c) g (DG Y f b j) [] E ta t) (λM=>((k M).up M).bind λo M=>if eG c g o=true then ((m M).up M).bind λds M=>gz (p::ps) j (o::ds) M else .bad):=by
 intro B U As Z H M Q R P;replace P:Mo Y b E T B U Z (((k M).up M).bind λo M=>if eG c g o=true then ((m M).up M).bind λds M=>gz (p::ps) j (o::ds) M else .bad) Q:=P;refine G B U As Z H M _ R ?_;cases e:k M with
 |ok o=>
   rw[e] at P;intro v I U1 L N q n X u;replace P:Mo Y b E T B U Z (if eG c g o=true then ((m M).up M).bind λds M=>gz (p::ps) j (o::ds) M else .bad) Q:=P;by_cases z:eG c g o=true
   · rw[on z] at P;obtain⟨a,dx,fs,rfl,S,O⟩:=ud z (A1.read q u);refine⟨a,dx,fs,rfl,S,O,h I U1 As Z L M _ q ?_⟩;cases s:m M with
     |ok ds=>
       rw[s] at P;intro vs y w x N2 R2 l W A;rw[Wp];exact yH (ps:=p::ps) (ds:=o::ds) R2 ⟨o,ds,_,vs,rfl,rfl,u.mono l,A⟩ C hd F K (Mo.at (r:=gz (p::ps) j (o::ds) M) P (n.toEx.trans l.toEx))
     |exc c=>rw[s] at P; exact λy w x R2 l=>P y w As x R2 (n.toEx.trans l.toEx)
     |bad=>rw[s] at P; exact P
   ·rw[VM z] at P;exact P.elim
 |exc c=>rw[e] at P; exact λI U1 L q n=>P I U1 As L q n.toEx
 |bad=>rw[e] at P; exact P
theorem Lw{c:Nat}{y:List (Str×Sh)}{f:List Md}{fm:List D->Out D}{ps:List Ap}{ds:List D}{vs:List V}{Q:VK}(R:Rel Y T B U As Z H M)(A:Ag Y B U H Z M ps ds vs)(hl:ps.length+1=f.length)(h0:f.getD 0 .F= .O (.ob y))
 (hf:∀ (j:Nat) p,ps[j]?=some p->vB T true p (f.getD (j+1) .F)=true) (P:Po Y (KO Y (.ob y)) E T B U As Z H M (o8 c fm ds) Q) (x dx:Addr) (hx:H x=none) (hdx:H dx=none) (hne:dx≠x):
 DG Y f (KR Y .F) fm (.ref x::vs) (upd (upd H dx (.own x)) x (.ins (Y c) dx [])) (λv H2=>v= .non/\Q (.ref x) H2) E:=by
 have L:=A.len;have sH:Same H (upd (upd H dx (.own x)) x (.ins (Y c) dx [])):=Gd.wL hx (Gd.ce hdx);have hUc:∃ I:Hp,I x=none/\∀ a,a≠x->I a=upd (upd H dx (.own x)) x (.ins (Y c) dx []) a:=⟨λa=>if a=x then none else upd (upd H dx (.own x)) x (.ins (Y c) dx []) a,on rfl,λa h=>VM h⟩;obtain⟨I,u1,u2⟩:=hUc;have n:Same H I:=λa o q=>by rw[u2 a (bD q hx)]; exact sH a o q
 have ucH:Same I (upd (upd H dx (.own x)) x (.ins (Y c) dx [])):=λa o q=>by
  by_cases z:a=x
  ·subst z; rw[u1] at q; cases q
  ·rw[u2 a z] at q; exact q
 have r:∀ {a},I a=none->H a=none:=λh=>n.free h
 have Rc:Rel Y f B I (λj=>match j with|0=>[x]|_+1=>[]) ((.ref x::vs).map some) (upd (upd H dx (.own x)) x (.ins (Y c) dx [])) ((.obj c [] []::ds).map some):=by
  refine⟨R.bh.trans n,ucH,λj=>?_,λj k a X g hk=>?_,λj a g=>?_,λj=>?_,by rw[VN,VN,VU,VU,L.1,L.2],R.tb⟩
  · cases j with
    |zero=>simp
    |succ j=>exact Wz
  · cases j with
    |zero=>
      cases k with
      |zero=>exact X rfl
      |succ k=>cases hk
    |succ j=>cases g
  · cases j with
    |zero=>rw[List.mem_singleton.mp g]; exact u1
    |succ j=>cases g
  · rw[fZ,fZ];cases j with
    |zero=>
      rw[h0];refine⟨.ref x,rfl,?_⟩;show Ow Y B _ (.obj c [] []) (.ob y) (.ref x) [x];rw[Ow];exact⟨x,dx,[],[],rfl,bv,rfl,rfl,by rw[Owf]; exact⟨rfl,rfl⟩⟩
    |succ j=>
      rw[XH,XH];cases e:ps[j]? with
      |none=>
        have:ps.length<=j:=List.getElem?_eq_none_iff.mp e
        rw[Wd (by omega)];rfl
      |some p=>
        obtain⟨d,v,ed,ev,h1⟩:=A.get e;rw[ed,ev];refine⟨v,rfl,?_⟩;have hr:=A1.read R h1;have q:=hf j p e;cases em:f.getD (j+1) .F with
        |F=>
          rw[em] at q;cases p with
          |F=>exact⟨h1,rfl⟩
          |_=>cases q
        |R=>exact⟨Dn.mono n hr,rfl⟩
        |O s=>rw[em] at q; cases p<;>cases q
 refine⟨B,I,_,.obj c [] []::ds,Rc,by rw[VU]; omega,?_⟩
 have K:∀ {S J H':Hp} {G:Nat->List Addr} {W:Env},Rel Y f S J G ((.ref x::vs).map some) H' W->Ex B I S J->Rel Y T S (ov S U) As Z H' M/\Gw B U H S (ov S U) H'/\∀ a,J a=none->ov S U a=none:=λ{S J H' G W} m t=>by
  have sU:Same U J:=(R.uh.trans n).trans t.u
  have su:Same U (ov S U):=λa o q=>by
   unfold ov;cases z:S a with
   |none=>exact q
   |some o'=>
     have h1:=sU a o q;have h2:=m.bu a o' z;rw[h1] at h2; cases h2; rfl
  have y:Same H H':=(n.trans t.u).trans m.uh
  have uh:Same (ov S U) H':=λa o q=>by
   unfold ov at q;cases z:S a with
   |none=>rw[z] at q; exact y a o (R.uh a o q)
   |some o'=>rw[z] at q; cases q; exact m.bh a _ z
  have bu:Same S (ov S U):=λa o q=>by unfold ov; rw[q]
  have new:∀ a o,S a=some o->B a=some o\/H a=none\/j7 o:=λa o q=>(t.nb a o q).imp id λz=>z.imp r id;refine⟨R.grow t.b su y bu uh λi a g=>?_,⟨⟨t.b,su,λa o q=>?_⟩,y,λa o q=>?_⟩,λa h=>?_⟩
  · unfold ov;cases z:S a with
    |none=>exact R.un i a g
    |some o=>
      obtain⟨o',q'⟩:=R.at g;rcases new a o z with q|q|q
      ·have:=R.bu a o q; rw[R.un i a g] at this; cases this
      ·rw[q] at q'; cases q'
      ·have e1:=y _ _ q';rw[m.bh a o z] at e1; cases e1; exact(R.nt g q' q).elim
  · rcases new a o q with q|q|q
    ·exact .inl q
    ·exact .inr (.inl (R.uh.free q))
    ·exact .inr (.inr q)
  · unfold ov at q;cases z:S a with
    |none=>rw[z] at q; exact .inl q
    |some o'=>
      rw[z] at q;cases q;rcases new a _ z with q|q
      ·exact .inl (R.bu a _ q)
      ·exact .inr q
  · unfold ov;cases z:S a with
    |none=>exact sU.free h
    |some o=>have:=m.bu a o z; rw[h] at this; cases this
 unfold o8 at P;cases e:fm (.obj c [] []::ds) with
 |ok d C=>
   rw[e] at P;intro v S J G H' N m t n' k;obtain⟨R2,g2,fr2⟩:=K m t;cases d with
   |non=>
     have k:Dn Y S .non v:=k;rw[Dn] at k;refine⟨k,?_⟩;replace P:Po Y (KO Y (.ob y)) E T B U As Z H M (match rg C 0 with|some d=> .ok d|none=> .bad) Q:=P;have l:=m.lo 0;rw[ou h0,h0] at l;cases e0:rg C 0 with
     |none=>rw[e0] at P; exact P.elim
     |some d=>
       rw[e0] at P l;have w:=jA l (v:= .ref x) rfl;exact P (.ref x) S _ H' (G 0) R2 g2 ⟨m.nd 0,λa g=>r (t.u.free (m.un 0 a g)),λa g=>fr2 a (m.un 0 a g)⟩ w
   |_=>exact P.elim
 |exc c' C=>
   rw[e] at P;intro S J G H' m t;obtain⟨R2,g2,fr2⟩:=K m t;exact P S _ H' R2 g2
 |bad=>rw[e] at P; exact P
theorem Om{c:Nat}{e:List (Str×Sh)}{a:List Md}{f:List D->Out D}{ps:List Ap}{t:TA}{m:Env->Res (List D)}(h:AJ Y E T ps t m)(i:ps.length+1=a.length)(h0:a.getD 0 .F= .O (.ob e))
 (k:∀ (j:Nat) p,ps[j]?=some p->vB T true p (a.getD (j+1) .F)=true):PJ Y (KO Y (.ob e)) E T (Fc (Y c) (DG Y a (KR Y .F) f) [] E t) (λM=>(m M).bind (o8 c f)):=by
 intro B U As Z H M Q R P;refine h.bnd R P λds vs I U1 L l n A s=>?_;intro x dx g d b;rw[Wp];exact Lw l A i h0 k s x dx g d b
structure Pth (Y:Cm) (T:List Md) (t:TE) (get:Env->Option D) (set:Env->D->Env):Prop where
 rd:∀ {B U:Hp} {As:Nat->List Addr} {Z:St} {H:Hp} {M:Env} {d:D},Rel Y T B U As Z H M->get M=some d->∃ v A,(∀ Q:VK,Q v H->t Z H Q)/\Ow Y B H d (.ct .fz) v A/\(∀ a∈A,∃ i,a∈As i)/\
  ∀ I U1 L,Rel Y T I U1 As Z L M->Same B I->Same H L->∀ a∈A,∀ o' d',Ow Y I (upd L a o') d' (.ct .fz) v A->Rel Y T I U1 As Z (upd L a o') (set M d')
theorem Rel.mut(R:Rel Y T B U As Z H M){i:Nat}{a:Addr}{o':HO}{d d':D}{v:V}{c:Sh}(h:T.getD i .F= .O c)(g:rg Z i=some v)(hd:rg M i=some d)(f:a∈As i)(w:Ow Y B (upd H a o') d' c v (As i)):
 Rel Y T B U As Z (upd H a o') (M.set i (some d')):=by
 have hi:i<M.length:=(List.getElem?_eq_some_iff.mp (g6 hd)).1;refine⟨R.bu,λb u q=>?_,R.nd,R.dj,R.un,λj=>?_,by rw[WT]; exact R.len,R.tb⟩
 ·rw[bc (bD q (R.un i a f))];exact R.uh b u q
 · rw[kq];by_cases e:i=j
   ·subst e;rw[on ⟨rfl,hi⟩,h];exact⟨v,g,w⟩
   ·rw[VM λz=>e z.1];exact(R.lo j).mono (Same.refl _) (Same.refl _) λb k=>bc (λz:b=a=>R.dj i j a e f (z▸k))
def eB(i:Nat):Env->Option D:=λM=>rg M i
def dI(i:Nat):Env->D->Env:=λM d=>M.set i (some d)
theorem iV{i:Nat}(f:T.getD i .F= .O (.ct .fz)):Pth Y T (iz i) (eB i) (dI i) where
 rd:=λ{B U As Z H M d} R e=>by
  replace e:rg M i=some d:=e;have l:=R.lo i;rw[e,f] at l;obtain⟨v,c,w⟩:=l;exact⟨v,As i,λQ q=>⟨v,g6 c,q⟩,w,λa b=>⟨i,b⟩,λI U1 L h _ _ a b o' d' g=>h.mut f c e b g⟩
theorem Owf.upd{i:List (Str×Sh)}{f:Str}{B H:Hp}:∀ {fs:List (Str×V)} {ds:List D} {A:List Addr} {d:D},Owf Y B H ds (fs.map (·.1)) i (fs.map (·.2)) A->A.Nodup->du (fs.map (·.1)) ds f=some d->
 ∃ v A1,fs.lookup f=some v/\Ow Y B H d ((i.lookup f).getD .fz) v A1/\(∀ a∈A1,a∈A)/\∀ I L d',Same B I->(∀ b∈A,b∉A1->L b=H b)->Ow Y I L d' ((i.lookup f).getD .fz) v A1->Owf Y I L (iF (fs.map (·.1)) ds f d') (fs.map (·.1)) i (fs.map (·.2)) A
 |[],ds,A,d,h,nd,e=>by cases ds<;>cases e
 | p::fs,ds,A,d,h,nd,e=>by
   cases ds with
   |nil=>cases e
   |cons N ds=>
     rw[List.map_cons,List.map_cons,Owf] at h;obtain⟨n,F,x,r,t,C,K,h0,M,s,y⟩:=h;cases K;cases h0;subst M;obtain⟨G,l,g⟩:=List.nodup_append.mp nd;rw[List.map_cons] at e;unfold du at e;by_cases q:p.1=f
     ·rw[on q] at e;cases e;rw[q] at s;refine⟨p.2,t,by rw[Ws,<-q,WU],s,λa o=>V9 _ o,λI L d' j k w=>?_⟩;rw[VQ,VQ,iF,on q,Owf];exact⟨p.1,_,p.2,_,t,C,rfl,rfl,rfl,by rw[q]; exact w,Owf.mono j (λb c=>k b (VV _ c) λz=>g b z b c rfl) y⟩
     ·rw[VM q] at e;obtain⟨v,A1,J,E,u,cl⟩:=Owf.upd y l e;have c:(f==p.1)=false:=beq_eq_false_iff_ne.mpr λz=>q z.symm;refine⟨v,A1,by rw[Ws,c]; exact J,E,λa o=>VV _ (u a o),λI L d' j k w=>?_⟩;rw[VQ,VQ,iF,VM q,Owf];exact⟨p.1,_,p.2,_,t,C,rfl,rfl,rfl,Ow.mono j (λb c=>k b (V9 _ c) λz=>g b c b (u b z) rfl) s,cl I L d' j (λb c m=>k b (VV _ c) m) w⟩
def vw(c:Nat)(f:Str)(i:Nat):Env->Option D:=λM=>match rg M i with
 |some (.obj a ns vs)=>if a=c then du ns vs f else none
 |_=>none
def tF(f:Str)(i:Nat):Env->D->Env:=λM d=>match rg M i with
 |some (.obj c ns vs)=>M.set i (some (.obj c ns (iF ns vs f d)))
 |_=>M
theorem zp{c:Nat}{f:Str}{i:Nat}{n:List (Str×Sh)}(hc:Cls K (Y c))(hn:NoAttr K (Y c) f)(J:T.getD i .F= .O (.ob n))(N:(n.lookup f).getD .fz= .ct .fz):Pth Y T (DA K (iz i) f) (vw c f i) (tF f i) where
 rd:=λ{B U As Z H M d} R e=>by
  have l:=R.lo i;unfold vw at e;cases g:rg M i with
  |none=>rw[g] at e; cases e
  |some d0=>
    cases d0 with
    |obj m ns vs=>
      rw[g] at e;replace e:(if m=c then du ns vs f else none)=some d:=e;by_cases q:m=c
      · subst q;rw[on rfl] at e;rw[g,J] at l;obtain⟨v,E,w⟩:=l;have C:Ow Y B H (.obj m ns vs) (.ob n) v (As i):=w;rw[Ow] at C;obtain⟨a,dx,xs,A',rfl,S,h2,k,P⟩:=C;subst h2;have nd:=R.nd i;rw[k] at nd;obtain⟨r,p⟩:=List.nodup_cons.mp nd;obtain⟨u,A1,hu,D,A,cl⟩:=Owf.upd P p e;rw[N] at D;refine⟨u,A1,λQ q=>⟨.ref a,g6 E,a,_,dx,xs,u,rfl,S,hc,hn,hu,q⟩,D,λb j=>⟨i,by rw[k]; exact VR _ (A b j)⟩,λI U1 L R1 W h b j o' d' V=>?_⟩;have x:b∈As i:=by rw[k]; exact VR _ (A b j)
        have:tF f i M d'=M.set i (some (.obj m (xs.map (·.1)) (iF (xs.map (·.1)) vs f d'))):=by unfold tF; rw[g]
        rw[this];refine R1.mut J E g x ?_;rw[k,Ow];have s:a≠b:=λz=>r (by rw[z]; exact A b j);refine⟨a,dx,xs,A',rfl,by rw[bc s]; exact h _ _ S,rfl,rfl,cl I _ d' W (λy X t=>?_) (by rw[N]; exact V)⟩
        have:y≠b:=λz=>t (by rw[z]; exact j)
        rw[bc this];obtain⟨o,G⟩:=Owf.at P X;rw[G,h _ _ G]
      ·rw[VM q] at e;cases e
    |_=>rw[g] at e; cases e
def D7(set:Env->D->Env)(M:Env):Option (D×List D)->Out D
 |some (d,es)=> .ok d (set M (.lst es))
 |none=> .bad
def Pz(set:Env->D->Env)(f:List D->D->Option (D×List D))(M:Env)(xs:List D):Res D->Out D
 |.ok x=>D7 set M (f xs x)
 |.exc c=> .exc c M
 |.bad=> .bad
def ie(get:Env->Option D)(set:Env->D->Env)(f:List D->D->Option (D×List D))(a:Env->Res D):Env->Out D:=λM=>match get M with
 |some (.lst xs)=>Pz set f M xs (a M)
 |_=> .bad
theorem Ow.lst{d:D}{v:V}{A:List Addr}{ds:List D}(w:Ow Y B H d (.ct .fz) v A)(e:d= .lst ds):∃ a xs,v= .ref a/\H a=some (.lst xs)/\A=[a]/\Dns Y B ds xs:=by
 subst e;rw[Ow] at w;obtain⟨a,xs,i,r,h,g,f⟩:=w;obtain⟨c,b⟩:=Ows.fz f;exact⟨a,xs,r,h,by rw[g,b],c⟩
theorem Ow.lst'{a:Addr}{ds:List D}{xs:List V}(h:H a=some (.lst xs))(d:Dns Y B ds xs):Ow Y B H (.lst ds) (.ct .fz) (.ref a) [a]:=by
 rw[Ow];exact⟨a,xs,[],rfl,h,rfl,Ows.of d⟩
section
variable{t:TE}{get:Env->Option D}{set:Env->D->Env}
theorem BS{k:Kd}{r:V->List V->Hp->VK->Prop}{f:List D->D->Option (D×List D)}{te:TE}{j:Env->Res D}(p:Pth Y T t get set)(C:PJ Y (KR Y k) E T te j)
 (z:∀ (B U H:Hp) (a:Addr) (ds:List D) (xs:List V) (x:D) (u:V) (d:D) (es:List D) (Q:VK),Same B U->Same U H->H a=some (.lst xs)->Dns Y B ds xs->Dn Y (hp k B U H) x u->f ds x=some (d,es)->(∀ v ys,Dn Y B d v->Dns Y B es ys->Q v (upd H a (.lst ys)))->r (.ref a) [u] H Q):
 MJ Y (KR Y .F) E T (AR K "list" r t (b9 te d8)) (ie get set f j):=by
 intro B U As Z H M Q R P;unfold ie at P;cases e:get M with
 |none=>rw[e] at P; exact P.elim
 |some O=>
   cases O with
   |lst ds=>
     rw[e] at P;replace P:Mo Y (KR Y .F) E T B U Z (Pz set f M ds (j M)) Q:=P;obtain⟨v,A,y,w,W,cl⟩:=p.rd R e;obtain⟨a,xs,rfl,n,rfl,G⟩:=w.lst rfl;refine y _ ⟨.inl ⟨rfl,xs,SqL.of n⟩,C B U As Z H M _ R ?_⟩;cases l:j M with
     |ok x=>
       rw[l] at P;replace P:Mo Y (KR Y .F) E T B U Z (D7 set M (f ds x)) Q:=P;intro u I U1 L N i g S s;cases m:f ds x with
       |none=>rw[m] at P; exact P.elim
       |some J=>
         obtain⟨d,es⟩:=J;rw[m] at P;refine z I U1 L a ds xs x u d es Q i.bu i.uh (g.h _ _ n) (G.mono g.b) s m λv ys q o=>?_;exact P v I U1 As _ [] (cl I U1 L i g.b g.h a VP _ _ (Ow.lst' bv o)) g.toEx NewM.nil q
     |exc c=>rw[l] at P; exact λI U1 L i g=>P I U1 As L i g.toEx
     |bad=>rw[l] at P; exact P.elim
   |_=>rw[e] at P; exact P.elim
def lc(xs:List D)(x:D):Option (D×List D):=if xs.length<ak then some (.non,xs++[x]) else none
theorem ib{te:TE}{c:Env->Res D}(p:Pth Y T t get set)(h:PJ Y (KR Y .F) E T te c):MJ Y (KR Y .F) E T (AR K "list" u7 t (b9 te d8)) (ie get set lc c):=
 BS (f:=lc) p h λB U H a ds xs x u d es Q _ _ i e g b k=>by
  unfold lc at b;by_cases z:ds.length<ak
  ·rw[on z] at b;cases b;exact⟨a,xs,u,rfl,rfl,i,f7 (WO (by rw[<-e.len]; exact z)),k .non _ (by rw[Dn]) (e.append (Dns.one g))⟩
  ·rw[VM z] at b;cases b
def GB(xs:List D)(x:D):Option (D×List D):=match x with
 |.int i=>if 0<=i/\i<xs.length/\xs.length<=ak then xs[i.toNat]?.map λd=>(d,xs.eraseIdx i.toNat) else none
 |_=>none
theorem Lx{te:TE}{g:Env->Res D}(p:Pth Y T t get set)(n:PJ Y (KR Y .X) E T te g):MJ Y (KR Y .F) E T (AR K "list" Gs t (b9 te d8)) (ie get set GB g):=
 BS (f:=GB) p n λB U H a ds xs x u d es Q _ _ o e c b k=>by
  cases x with
  |int i=>
    have c:Dn Y H (.int i) u:=c;rw[Dn] at c;subst c;replace b:(if 0<=i/\i<ds.length/\ds.length<=ak then ds[i.toNat]?.map λd=>(d,ds.eraseIdx i.toNat) else none)=some (d,es):=b;by_cases z:0<=i/\i<ds.length/\ds.length<=ak
    ·rw[if_pos z] at b;obtain⟨y,q,r⟩:=Option.map_eq_some_iff.mp b;cases r;obtain⟨w,m,s⟩:=e.get q;obtain⟨l,j,h⟩:=z;unfold ak at h;refine⟨a,xs,i,i.toNat,w,rfl,rfl,o,by omega,by omega,?_,m,k w _ s (e.erase _)⟩;refine(BY ?_).1;unfold IB;rw[if_pos l,if_pos (by rw[<-e.len]; exact j)]
    ·rw[VM z] at b;cases b
  |_=>cases b
def yL(i:Nat)(x:D)(M:Env):Out D:=match rg M i with
 |some (.lst xs)=>D7 (dI i) M (lc xs x)
 |_=> .bad
def Kf(i:Nat)(a:Env->Out D):Env->Out D:=λM=>match rg M i with
 |some (.lst _)=>(a M).bind (yL i)
 |_=> .bad
theorem D5{i:Nat}{te:TE}{f:Env->Out D}(h:T.getD i .F= .O (.ct .fz))(r:MJ Y (KR Y .F) E T te f):MJ Y (KR Y .F) E T (AR K "list" u7 (iz i) (b9 te d8)) (Kf i f):=by
 intro B U As Z H M Q R P;unfold Kf at P;cases e:rg M i with
 |none=>rw[e] at P; exact P.elim
 |some J=>
   cases J with
   |lst ds=>
     rw[e] at P;replace P:Mo Y (KR Y .F) E T B U Z ((f M).bind (yL i)) Q:=P;have l:=R.lo i;rw[e,h] at l;obtain⟨v,g,w⟩:=l;obtain⟨a,xs,rfl,y,_,V⟩:=Ow.lst w rfl;refine⟨.ref a,g6 g,.inl ⟨rfl,xs,SqL.of y⟩,r.bnd R P λx C u I U1 j L N o W S q s=>?_⟩;have k:=o.lo i;unfold yL at s;cases b:rg C i with
     |none=>rw[b] at s; exact s.elim
     |some G=>
       cases G with
       |lst c=>
         rw[b] at s;rw[b,h,g] at k;have p:=jA k rfl;obtain⟨X,d,A,t,n,m⟩:=Ow.lst p rfl;cases A;replace s:Mo Y (KR Y .F) E T I U1 Z (D7 (dI i) C (lc c x)) Q:=s;unfold lc at s;by_cases z:c.length<ak
         ·rw[on z] at s;refine⟨a,d,u,rfl,rfl,t,f7 (WO (by rw[<-m.len]; exact z)),?_⟩;refine s .non I U1 j _ [] (o.mut h g b (by rw[n]; exact VP) ?_) (Ex.refl _ _) NewM.nil (show Dn Y I .non .non by rw[Dn]);rw[n];exact Ow.lst' bv (m.append (Dns.one q))
         ·rw[VM z] at s;exact s.elim
       |_=>rw[b] at s; exact s.elim
   |_=>rw[e] at P; exact P.elim
end
end
section
variable{Y:Cm}{E:XK}{Kr:KT D V}{pr:Nat->Bool}{T:List Md}{B U H:Hp}{As:Nat->List Addr}{Z:St}{M:Env}{K:L0}
def xV(set:Env->D->Env)(x d:D)(M:Env):Res D->SO
 |.ok k=>(match xW d k x with|some d'=> .nx (set M d')|none=> .bad)
 |.exc c=> .exc c M
 |.bad=> .bad
def jh(get:Env->Option D)(set:Env->D->Env)(mk:Env->Res D)(b:Env->Out D):Env->SO:=λM=>lH (b M) λx a=>match get a with
 |some d=>xV set x d a (mk a)
 |none=> .bad
section
variable{W:Type}[DecidableEq W]
theorem qo{a:List (W×V)}{k:W}:(a.any λb=>decide (b.1=k))=fD (a.map (·.1)) k:=by
 unfold fD;rw[List.any_map];rfl
theorem wV{a:List (W×V)}{k:W}{v:V}(h:fD (a.map (·.1)) k=true):(gD a k v).map (·.1)=a.map (·.1):=by
 unfold gD;rw[qo,if_pos h,List.map_map];refine List.map_congr_left λp _=>?_;show(if p.1=k then (p.1,v) else p).1=p.1;split<;>rfl
theorem gR{a:List (W×V)}{k:W}{v:V}(h:¬ fD (a.map (·.1)) k=true):gD a k v=a++[(k,v)]:=by
 unfold gD;rw[qo,if_neg h]
theorem qH{G:Hp}{x:D}{v:V}{k:W}(c:Dn Y G x v):∀ {a:List (W×V)} {ds:List D},Dns Y G ds (a.map (·.2))->Dns Y G (nY (a.map (·.1)) ds k x) ((a.map λb=>if b.1=k then (b.1,v) else b).map (·.2))
 |[],ds,h=>by cases ds<;>exact(by rw[List.map_nil,List.map_nil,List.map_nil]; unfold nY; rw[Dns])
 | p::a,ds,h=>by
   cases ds with
   |nil=>rw[Dns] at h; cases h
   |cons d ds=>
     rw[VQ,Dns] at h;obtain⟨y,r,e,g,f⟩:=h;cases e;rw[VQ,VQ,VQ,nY,Dns];refine⟨_,_,rfl,?_,qH c f⟩;by_cases q:p.1=k
     ·rw[on q,on q]; exact c
     ·rw[VM q,VM q]; exact g
end
theorem Ow.dT{d:D}{v:V}{A:List Addr}{ks:List (List b6)}{ds:List D}(w:Ow Y B H d (.ct .fz) v A)(e:d= .dT ks ds):∃ (a:Addr) (b:List (List b6×V)),v= .ref a/\H a=some (.dT b)/\b.map (·.1)=ks/\A=[a]/\Dns Y B ds (b.map (·.2)):=by
 subst e;rw[Ow] at w;obtain⟨a,xs,k,r,j,i,h,g⟩:=w;obtain⟨f,c⟩:=Ows.fz g;exact⟨a,xs,r,j,i,by rw[h,c],f⟩
theorem Ow.dK{d:D}{v:V}{A:List Addr}{ks:List b6}{ds:List D}(w:Ow Y B H d (.ct .fz) v A)(e:d= .dK ks ds):∃ (a:Addr) (b:List (b6×V)),v= .ref a/\H a=some (.dK b)/\b.map (·.1)=ks/\A=[a]/\Dns Y B ds (b.map (·.2)):=by
 subst e;rw[Ow] at w;obtain⟨a,xs,k,r,j,i,h,g⟩:=w;obtain⟨f,c⟩:=Ows.fz g;exact⟨a,xs,r,j,i,by rw[h,c],f⟩
theorem Ow.dT'{a:Addr}{b:List (List b6×V)}{ds:List D}(h:H a=some (.dT b))(d:Dns Y B ds (b.map (·.2))):Ow Y B H (.dT (b.map (·.1)) ds) (.ct .fz) (.ref a) [a]:=by
 rw[Ow];exact⟨a,b,[],rfl,h,rfl,rfl,Ows.of d⟩
theorem Ow.dK'{a:Addr}{b:List (b6×V)}{ds:List D}(h:H a=some (.dK b))(d:Dns Y B ds (b.map (·.2))):Ow Y B H (.dK (b.map (·.1)) ds) (.ct .fz) (.ref a) [a]:=by
 rw[Ow];exact⟨a,b,[],rfl,h,rfl,rfl,Ows.of d⟩
theorem LY{d k x d':D}{v u w:V}{A:List Addr}(p:Ow Y B H d (.ct .fz) v A)(m:Dn Y H k u)(j:Dn Y B x w)(e:xW d k x=some d'):∃ a o',v= .ref a/\a∈A/\DPut H a u w (upd H a o')/\Ow Y B (upd H a o') d' (.ct .fz) v A:=by
 cases d with
 |dT ks vs=>
   obtain⟨a,c,rfl,n,i,rfl,h⟩:=p.dT rfl;cases k with
   |tup r=>
     replace e:((fe r).bind λk=>if ks.length<ak then some (if fD ks k=true then D.dT ks (nY ks vs k x) else .dT (ks++[k]) (vs++[x])) else none)=some d':=e;obtain⟨f,o,e⟩:=Option.bind_eq_some_iff.mp e;rw[Dn] at m;obtain⟨b,xs,rfl,y,s⟩:=m;have ex:=jB o s;subst ex;by_cases z:ks.length<ak
     · rw[on z] at e;cases e;have l:c.length<sizeLine:=f7 (WO (by rw[<-i,VN] at z; exact z));refine⟨a,_,rfl,VP,DPut.t n y l,?_⟩;subst i;by_cases q:fD (c.map (·.1)) f=true
       · rw[if_pos q];have hp:gD c f w=c.map λg=>if g.1=f then (g.1,w) else g:=by unfold gD; rw[qo,if_pos q]
         have:=Ow.dT' (Y:=Y) (B:=B) (H:=upd H a (.dT (gD c f w))) (ds:=nY (c.map (·.1)) vs f x) bv (by rw[hp]; exact qH j h)
         rw[wV q] at this;exact this
       · rw[VM q]
         have:=Ow.dT' (Y:=Y) (B:=B) (H:=upd H a (.dT (gD c f w))) (ds:=vs++[x]) bv (by rw[gR q,Wq]; exact h.append (Dns.one j))
         rw[gR q,Wq] at this;rw[gR q];exact this
     ·rw[VM z] at e;cases e
   |_=>cases e
 |dK ks vs=>
   obtain⟨a,c,rfl,n,i,rfl,h⟩:=p.dK rfl;replace e:((ph k).bind λk=>if ks.length<ak then some (if fD ks k=true then D.dK ks (nY ks vs k x) else .dK (ks++[k]) (vs++[x])) else none)=some d':=by cases k<;>exact e
   obtain⟨f,o,e⟩:=Option.bind_eq_some_iff.mp e;have ex:=xz o m;subst ex;by_cases z:ks.length<ak
   · rw[on z] at e;cases e;have l:c.length<sizeLine:=f7 (WO (by rw[<-i,VN] at z; exact z));refine⟨a,_,rfl,VP,DPut.k n l,?_⟩;subst i;by_cases q:fD (c.map (·.1)) f=true
     · rw[if_pos q];have hp:gD c f w=c.map λg=>if g.1=f then (g.1,w) else g:=by unfold gD; rw[qo,if_pos q]
       have:=Ow.dK' (Y:=Y) (B:=B) (H:=upd H a (.dK (gD c f w))) (ds:=nY (c.map (·.1)) vs f x) bv (by rw[hp]; exact qH j h)
       rw[wV q] at this;exact this
     · rw[VM q]
       have:=Ow.dK' (Y:=Y) (B:=B) (H:=upd H a (.dK (gD c f w))) (ds:=vs++[x]) bv (by rw[gR q,Wq]; exact h.append (Dns.one j))
       rw[gR q,Wq] at this;rw[gR q];exact this
   ·rw[VM z] at e;cases e
 |_=>cases k<;>cases e
section
variable{t:TE}{get:Env->Option D}{set:Env->D->Env}{tk tv:TE}{mk:Env->Res D}{mv:Env->Out D}
theorem gZ(p:Pth Y T t get set)(V:PJ Y (KR Y .X) E T tk mk)(O:MJ Y (KR Y .F) E T tv mv):SJ Y E Kr pr T (MC t tk tv) (jh get set mk mv):=by
 intro B U As Z H M D R P;refine O.bndS R P λx f w I U1 i L N J e1 n1 K s=>?_;cases e:get f with
 |none=>rw[e] at s; exact s.elim
 |some d=>
   rw[e] at s;replace s:So Y E Kr pr T I U1 Z (xV set x d f (mk f)) D:=s;obtain⟨v,A,S,C,hA,cl⟩:=p.rd J e;refine S _ (V I U1 i Z L f _ J ?_);cases y:mk f with
   |ok k=>
     rw[y] at s;replace s:So Y E Kr pr T I U1 Z (match xW d k x with|some d'=> .nx (set f d')|none=> .bad) D:=s;intro u j l m N2 R2 g n2 Q;cases z:xW d k x with
     |none=>rw[z] at s; exact s.elim
     |some d'=>
       rw[z] at s
       have q:Ow Y j m d (.ct .fz) v A:=Ow.mono g.b (λa r=>by
        obtain⟨o,G⟩:=Ow.at C r
        rw[G,g.h _ _ G]) C
       obtain⟨a,o',W,r,dp,n⟩:=LY q Q (Dn.mono g.b K) z;exact⟨a,_,W,dp,s Z j l i _ (cl j l m R2 g.b g.h a r o' d' n) g.toEx (Kp.refl _ _)⟩
   |exc c=>rw[y] at s; exact λj l m R2 g=>s Z j l i m R2 g.toEx (Kp.refl _ _)
   |bad=>rw[y] at s; exact s.elim
end
theorem t3{f:Str}{y:V}:∀ {fs:List (Str×V)},(g7 f y fs).map (·.1)=if fD (fs.map (·.1)) f=true then fs.map (·.1) else fs.map (·.1)++[f]
 |[]=>rfl
 | p::fs=>by
   obtain⟨g,z⟩:=p;unfold g7 fD;rw[List.map_cons,List.any_cons];by_cases q:g=f
   ·rw[on q,Wm q,Bool.true_or,on rfl,VQ]
   · rw[if_neg q,decide_eq_false q,Bool.false_or,List.map_cons,t3];unfold fD;split
     ·rfl
     ·rw[XX]
theorem Owf.put{l:List (Str×Sh)}{f:Str}{x:D}{y:V}{N:List Addr}(t:Ow Y B H x ((l.lookup f).getD .fz) y N)(C:N.Nodup):∀ {fs:List (Str×V)} {ds:List D} {A:List Addr},Owf Y B H ds (fs.map (·.1)) l (fs.map (·.2)) A->A.Nodup->(∀ a∈N,a∉A)->
 ∃ i,Owf Y B H (if fD (fs.map (·.1)) f=true then iF (fs.map (·.1)) ds f x else ds++[x]) ((g7 f y fs).map (·.1)) l ((g7 f y fs).map (·.2)) i/\i.Nodup/\∀ a∈i,a∈A\/a∈N
 | [],ds,A,h,nd,hd=>by
   cases ds with
   |nil=>
     refine⟨N,?_,C,λa c=> .inr c⟩;show Owf Y B H [x] [f] l [y] N;rw[Owf];exact⟨f,[],y,[],N,[],rfl,rfl,by rw[Wp],t,by rw[Owf]; exact⟨rfl,rfl⟩⟩
   |cons d ds=>
     rw[Owf] at h;obtain⟨_,_,_,_,_,_,e,_⟩:=h;cases e
 | p::fs,ds,A,h,nd,hd=>by
   obtain⟨g,z⟩:=p;cases ds with
   |nil=>
     rw[Owf] at h;cases h.1
   |cons d ds=>
     rw[List.map_cons,List.map_cons,Owf] at h;obtain⟨n,K,u,r,F,J,L,h0,O,M,I⟩:=h;cases L;cases h0;subst O;obtain⟨s,j,o⟩:=List.nodup_append.mp nd;unfold g7;by_cases q:g=f
     · have v:fD (((g,z)::fs).map (·.1)) f=true:=by
        unfold fD;rw[List.map_cons,List.any_cons,decide_eq_true q,Bool.true_or]
       rw[on q,v,on rfl,VQ,iF,on q,VQ,VQ];refine⟨N++J,?_,List.nodup_append.mpr ⟨C,j,λa c b k e=>hd a c (VV _ (e▸k))⟩,λa c=>?_⟩
       ·rw[Owf];exact⟨g,_,y,_,N,J,rfl,rfl,rfl,by rw[q]; exact t,I⟩
       · rcases List.mem_append.mp c with z|z
         ·exact .inr z
         ·exact .inl (VV _ z)
     · obtain⟨i,w,m,G⟩:=Owf.put t C I j (λa c k=>hd a c (VV _ k))
       have v:fD (((g,z)::fs).map (·.1)) f=fD (fs.map (·.1)) f:=by
        unfold fD;rw[List.map_cons,List.any_cons,decide_eq_false q,Bool.false_or]
       rw[VM q,v,VQ,VQ,VQ,iF,VM q]
       have E:∀ a∈F,∀ b∈i,a≠b:=λa c b k e=>by
        rcases G b k with z|z
        ·exact o a c b z e
        ·exact hd b z (V9 _ (e▸c))
       refine⟨F++i,?_,List.nodup_append.mpr ⟨s,m,E⟩,λa c=>?_⟩
       · have:(if fD (fs.map (·.1)) f=true then d::iF (fs.map (·.1)) ds f x else (d::ds)++[x])=d::(if fD (fs.map (·.1)) f=true then iF (fs.map (·.1)) ds f x else ds++[x]):=by split<;>rfl
         rw[this,Owf];exact⟨g,_,z,_,F,i,rfl,rfl,rfl,M,w⟩
       · rcases List.mem_append.mp c with z|z
         ·exact .inl (V9 _ z)
         · rcases G a z with z|z
           ·exact .inl (VV _ z)
           ·exact .inr z
def ng(c:Nat)(f:Str)(i:Nat)(b:Env->Out D):Env->SO:=λM=>lH (b M) λx a=>match rg a i with
 |some d=>(match BC c f x d with|some d'=> .nx (a.set i (some d'))|none=> .bad)
 |none=> .bad
theorem MA{K':KT D V}{c:Nat}{f:Str}{i:Nat}{sh:List (Str×Sh)}{te:TE}{me:Env->Out D}(hc:Cls K (Y c))(hn:NoAttr K (Y c) f)(hm:T.getD i .F= .O (.ob sh))(he:MJ Y K' E T te me)
 (r:∀ B U H d v N,K' d v B U H N->∃ N',(N'=[]\/N'=N)/\Ow Y B H d ((sh.lookup f).getD .fz) v N'):SJ Y E Kr pr T (K7 K (iz i) te f) (ng c f i me):=by
 intro B U As Z H M D R P;refine he.bndS R P λx t y I U1 g L N m e1 n1 hx s=>?_;obtain⟨N',hN,ow⟩:=r _ _ _ _ _ _ hx
 have Q:NewM N' U1 g:=by
  rcases hN with e|e
  ·subst e; exact NewM.nil
  ·subst e; exact n1
 have l:=m.lo i;cases e:rg t i with
 |none=>rw[e] at s; exact s.elim
 |some d=>
   rw[e] at s;replace s:So Y E Kr pr T I U1 Z (match BC c f x d with|some d'=> .nx (t.set i (some d'))|none=> .bad) D:=s;rw[e,hm] at l;obtain⟨v,hv,w⟩:=l;cases d with
   |obj p ns vs=>
     have ep:BC c f x (.obj p ns vs)=if p=c/\ns.length<900 then some (if fD ns f=true then .obj p ns (iF ns vs f x) else .obj p (ns++[f]) (vs++[x])) else none:=rfl
     rw[ep] at s;by_cases q:p=c/\ns.length<900
     · rw[on q] at s;obtain⟨q1,q2⟩:=q;subst q1;have w:Ow Y I L (.obj p ns vs) (.ob sh) v (g i):=w;rw[Ow] at w;obtain⟨a,dx,fs,A',rfl,h1,h2,h3,h4⟩:=w;subst h2;have nd:=m.nd i;rw[h3] at nd;obtain⟨nd1,nd2⟩:=List.nodup_cons.mp nd;have n:a∈g i:=by rw[h3]; exact VP
       obtain⟨o,w2,nda,hA⟩:=Owf.put ow Q.nd h4 nd2 (λb h C=>Q.ap b h i (by rw[h3]; exact VR _ C))
       have X:a∉o:=λz=>by
        rcases hA a z with z|z
        ·exact nd1 z
        ·exact Q.ap a z i n
       refine⟨.ref a,g6 hv,a,_,dx,fs,rfl,h1,hc,hn,by rw[VN] at q2; omega,?_⟩
       have w3:Ow Y I (upd L a (.ins (Y p) dx (g7 f y fs))) (if fD (fs.map (·.1)) f=true then .obj p (fs.map (·.1)) (iF (fs.map (·.1)) vs f x) else .obj p (fs.map (·.1)++[f]) (vs++[x])) (.ob sh) (.ref a) (a::o):=by
        have G:=Owf.mono (H':=upd L a (.ins (Y p) dx (g7 f y fs))) (Same.refl I) (λb h=>bc (λz:b=a=>X (z▸h))) w2;have J:=t3 (f:=f) (y:=y) (fs:=fs);by_cases k:fD (fs.map (·.1)) f=true
        ·rw[on k] at J G ⊢;rw[Ow];rw[J] at G;exact⟨a,dx,_,o,rfl,bv,J,rfl,G⟩
        ·rw[VM k] at J G ⊢;rw[Ow];rw[J] at G;exact⟨a,dx,_,o,rfl,bv,J,rfl,G⟩
       have hi:i<t.length:=(List.getElem?_eq_some_iff.mp (g6 e)).1;refine s Z I U1 (λj=>if j=i then a::o else g j) _ ⟨m.bu,λb u z=>?_,λj=>?_,λj k b W h r=>?_,λj b h=>?_,λj=>?_,by rw[WT]; exact m.len,m.tb⟩ (Ex.refl _ _) (Kp.refl _ _)
       ·rw[bc (bD z (m.un i a n))];exact m.uh b u z
       · show(if j=i then a::o else g j).Nodup;split
         ·exact List.nodup_cons.mpr ⟨X,nda⟩
         ·exact m.nd j
       · replace h:b∈(if j=i then a::o else g j):=h;replace r:b∈(if k=i then a::o else g k):=r
         have S:∀ {j},j≠i->b∈a::o->b∈g j->False:=λ{j} hj C A=>by
          rcases List.mem_cons.mp C with z|z
          ·exact m.dj i j b (Xv hj) (by rw[z]; exact n) A
          · rcases hA b z with z|z
            ·exact m.dj i j b (Xv hj) (by rw[h3]; exact VR _ z) A
            ·exact Q.ap b z j A
         split at h
         · rename_i z1;split at r
           ·rename_i z2; exact W (z1.trans z2.symm)
           ·rename_i z2; exact S z2 h r
         · rename_i z1;split at r
           ·exact S z1 r h
           ·exact m.dj j k b W h r
       · replace h:b∈(if j=i then a::o else g j):=h;split at h
         · rcases List.mem_cons.mp h with z|z
           ·rw[z]; exact m.un i a n
           · rcases hA b z with z|z
             ·exact m.un i b (by rw[h3]; exact VR _ z)
             ·exact Q.un b z
         ·exact m.un j b h
       · rw[kq];show Lo Y I U1 _ (T.getD j .F) _ _ (if j=i then a::o else g j);by_cases z:i=j
         ·subst z;rw[on ⟨rfl,hi⟩,on rfl,hm];exact⟨.ref a,hv,w3⟩
         ·rw[VM λy=>z y.1,VM λy=>z y.symm];exact(m.lo j).mono (Same.refl _) (Same.refl _) λb h=>bc (λy:b=a=>m.dj i j a z n (y▸h))
     ·rw[VM q] at s;exact s.elim
   |_=>exact s.elim
theorem NR{c:Nat}{f:Str}{i:Nat}{a:List (Str×Sh)}{te:TE}{b:Env->Out D}(l:Cls K (Y c))(e:NoAttr K (Y c) f)(g:T.getD i .F= .O (.ob a))(h:(a.lookup f).getD .fz= .fz)(j:MJ Y (KR Y .F) E T te b):SJ Y E Kr pr T (K7 K (iz i) te f) (ng c f i b):=
 MA l e g j λB U H d v N k=>⟨[],.inl rfl,by rw[h,Ow]; exact⟨k,rfl⟩⟩
theorem u3{c:Nat}{f:Str}{i:Nat}{a:List (Str×Sh)}{s:Sh}{te:TE}{b:Env->Out D}(l:Cls K (Y c))(e:NoAttr K (Y c) f)(g:T.getD i .F= .O (.ob a))(h:(a.lookup f).getD .fz=s)(j:MJ Y (KO Y s) E T te b):SJ Y E Kr pr T (K7 K (iz i) te f) (ng c f i b):=
 MA l e g j λB U H d v N k=>⟨N,.inr rfl,by rw[h]; exact k⟩
def gg(Y:Cm)(T:List Md)(Kr:KT D V)(a:List D->Out D):Sp:=λvs H Q _=>DG Y T Kr a vs H Q E0
def t4(T:List Md)(a:Nat):Nat->Bool:=λj=>decide (j<a)&&(match T.getD j .F with | .O _=>true|_=>false)
theorem zl{W:Type}{l:List (Option W)}{n i:Nat}:rg (l++List.replicate n none) i=rg l i:=by
 unfold rg;by_cases h:i<l.length
 ·rw[Xy h]
 · rw[Xs (by omega),Wd (show l.length<=i by omega)];by_cases a:i-l.length<n
   ·rw[XG,on a]; rfl
   ·rw[XG,VM a]
def gB(k:Nat)(body:Env->SO)(ds:List D):Out D:=match body (ds.map some++List.replicate (k-ds.length) none) with
 |.rt d M=> .ok d M
 |.exc c M=> .exc c M
 |_=> .bad
theorem Rel.enter{more:List Md}{vs:List V}{ds:List D}{n:Nat}(R:Rel Y T B U As (vs.map some) H (ds.map some))(a:vs.length=T.length):Rel Y (T++more) B U As (vs.map some++List.replicate n none) H (ds.map some++List.replicate n none):=by
 have hd:ds.length=vs.length:=by have:=R.len; rw[VN,VN] at this; exact this
 refine⟨R.bu,R.uh,R.nd,R.dj,R.un,λi=>?_,by rw[VT,VT,R.len,YQ,YQ],R.tb⟩;rw[zl,zl];have l:=R.lo i;by_cases h:i<T.length
 ·rw[V6,Xy h,<-V6];exact l
 · have:rg (ds.map some) i=none:=by rw[fZ,Wd (by omega)]
   rw[this] at l ⊢;exact l
theorem Rel.leave{more:List Md}{vs:List V}{d:St}{C:Env}{n:Nat}(h:vs.length=T.length)(R:Rel Y (T++more) B U As d H C)(k:Kp (t4 T T.length) (vs.map some++List.replicate n none) d):
 ∃ G,Rel Y T B U G (vs.map some) H (iM T C)/\∀ N,NewM N U As->NewM N U G:=by
 refine⟨λi=>if t4 T T.length i=true then As i else [],⟨R.bu,R.uh,λi=>?_,λi j a g b f=>?_,λi a b=>?_,λi=>?_,?_,R.tb⟩,λN n=>⟨n.nd,n.un,λa b i=>?_⟩⟩
 · show(if t4 T T.length i=true then As i else []).Nodup;split
   ·exact R.nd i
   ·exact Wz
 · replace b:a∈(if t4 T T.length i=true then As i else []):=b;replace f:a∈(if t4 T T.length j=true then As j else []):=f;split at b
   · split at f
     ·exact R.dj i j a g b f
     ·cases f
   ·cases b
 · replace b:a∈(if t4 T T.length i=true then As i else []):=b;split at b
   ·exact R.un i a b
   ·cases b
 · show Lo Y B U H (T.getD i .F) (rg (iM T C) i) (rg (vs.map some) i) (if t4 T T.length i=true then As i else []);by_cases hi:i<T.length
   · have m:(T++more).getD i .F=T.getD i .F:=by
      rw[V6,Xy hi,<-V6]
     cases c:T.getD i .F with
     |O s=>
       have hp:t4 T T.length i=true:=by unfold t4; rw[c,decide_eq_true hi]; rfl
       rw[on hp,ou c];have l:=R.lo i;rw[m,c,k i hp,zl] at l;exact l
     |F=>
       have hp:t4 T T.length i=false:=by unfold t4; rw[c]; simp
       have e:rg (iM T C) i=none:=by
        unfold iM rg;rw[List.getElem?_map,List.getElem?_range hi];show(some (match T.getD i .F with | .O _=>_|_=>none)).join=none;rw[c]; rfl
       rw[hp,e];exact rfl
     |R=>
       have hp:t4 T T.length i=false:=by unfold t4; rw[c]; simp
       have e:rg (iM T C) i=none:=by
        unfold iM rg;rw[List.getElem?_map,List.getElem?_range hi];show(some (match T.getD i .F with | .O _=>_|_=>none)).join=none;rw[c]; rfl
       rw[hp,e];exact rfl
   · have hp:t4 T T.length i=false:=by unfold t4; rw[decide_eq_false hi]; rfl
     have e:rg (iM T C) i=none:=by
      unfold iM rg;rw[List.getElem?_eq_none (by rw[List.length_map,List.length_range]; omega)];rfl
     rw[hp,e];exact rfl
 ·unfold iM;rw[List.length_map,List.length_map,List.length_range,h]
 · show a∉(if t4 T T.length i=true then As i else []);split
   ·exact n.ap a b i
   ·simp
theorem LV{more:List Md}{t:TS}{body:Env->SO}{N:List Str}{vs:List V}{Q:VK}{l:List D->Out D}(q:SJ Y E0 Kr (t4 T T.length) (T++more) t body)(s:N.length=T.length+more.length)(k:l=run N.length body)(p:∀ B U H,Kr .non .non B U H [])
 (h:DG Y T Kr l vs H Q E0):t {nx:=λ_ H'=>Q .non H',rt:=Q} (L2.j2 N vs) H:=by
 obtain⟨B,U,As,ds,R,i,P⟩:=h;subst k;have hd:ds.length=vs.length:=by have:=R.len; rw[VN,VN] at this; exact this
 unfold L2.j2;refine q B U As _ H (ds.map some++List.replicate (N.length-vs.length) none) _ (R.enter i) ?_;unfold run at P;rw[hd] at P;cases e:body (ds.map some++List.replicate (N.length-vs.length) none) with
 |nx C=>
   rw[e] at P;intro b S J G H' g f k';obtain⟨a,R2,j⟩:=g.leave i k';exact P .non S J a H' [] R2 f NewM.nil (p _ _ _)
 |rt d C=>
   rw[e] at P;intro v b S J G H' r g f k' n o;obtain⟨a,R2,j⟩:=g.leave i k';exact P v S J a H' r R2 f (j _ n) o
 |exc c C=>
   rw[e] at P;intro b S J G H' g f k' m;obtain⟨a,R2,j⟩:=g.leave i k';exact P S J a H' R2 f m
 |bk C=>rw[e] at P; exact P.elim
 |ct C=>rw[e] at P; exact P.elim
 |bad=>rw[e] at P; exact P.elim
theorem IR{more:List Md}{t:TS}{body:Env->SO}{N:List Str}{vs:List V}{Q:VK}{l:List D->Out D}(p:SJ Y E0 Kr (t4 T T.length) (T++more) t body)(r:N.length=T.length+more.length)(g:l=gB N.length body)
 (h:DG Y T Kr l vs H Q E0):t {nx:=λ_ H'=>Q .non H',rt:=Q} (L2.j2 N vs) H:=by
 obtain⟨B,U,As,ds,R,f,P⟩:=h;subst g;have hd:ds.length=vs.length:=by have:=R.len; rw[VN,VN] at this; exact this
 unfold L2.j2;refine p B U As _ H (ds.map some++List.replicate (N.length-vs.length) none) _ (R.enter f) ?_;unfold gB at P;rw[hd] at P;cases e:body (ds.map some++List.replicate (N.length-vs.length) none) with
 |nx C=>rw[e] at P; exact P.elim
 |rt d C=>
   rw[e] at P;intro v b S J G H' q j i k' n o;obtain⟨a,R2,k⟩:=j.leave f k';exact P v S J a H' q R2 i (k _ n) o
 |exc c C=>
   rw[e] at P;intro b S J G H' j i k' m;obtain⟨a,R2,k⟩:=j.leave f k';exact P S J a H' R2 i m
 |bk C=>rw[e] at P; exact P.elim
 |ct C=>rw[e] at P; exact P.elim
 |bad=>rw[e] at P; exact P.elim
theorem AT{vs:List V}{Q:VK}{b:List D->Out D}(h:DG Y T Kr b vs H Q E):vs.length=T.length:=by
 obtain⟨_,_,_,_,_,a,_⟩:=h;exact a
end
end Mi
namespace Mi
open PySem PySem.Spec L2
mutual
def toPy:D->Option PyData
 |.non=>some .none
 |.bl b=>some (.bool b)
 |.int i=>some (.int i)
 |.str x=>some (.str x)
 |.lst xs=>(toPys xs).map .list
 |.scr xs=>(toPys xs).map .list
 |.tup xs=>(toPys xs).map .tuple
 |.ty _=>none
 |.dK _ _=>none
 |.dT _ _=>none
 |.obj _ _ _=>none
def toPys:List D->Option (List PyData)
 |[]=>some []
 | d::r=>match toPy d,toPys r with
   |some p,some q=>some (p::q)
   |_,_=>none
end
section
variable{Y:Cm}{E:XK}{Kr:KT D V}{pr:Nat->Bool}{T:List Md}{B U H:Hp}{As:Nat->List Addr}{Z:St}{M:Env}{K:L0}
mutual
theorem den_of:∀ {d:D} {p:PyData} {v:V},toPy d=some p->Dn Y H d v->L2.Den Y.K H p v
 |.non,p,v,e,h=>by rw[Dn] at h; cases e; rw[L2.Den]; exact h
 |.bl _,p,v,e,h=>by rw[Dn] at h; cases e; rw[L2.Den]; exact h
 |.int _,p,v,e,h=>by rw[Dn] at h; cases e; rw[L2.Den]; exact h
 |.str _,p,v,e,h=>by rw[Dn] at h; cases e; rw[L2.Den]; exact h
 | .lst xs,p,v,e,h=>by
   rw[Dn] at h;obtain⟨a,ys,rfl,c,b⟩:=h;rw[toPy] at e;obtain⟨ps,f,rfl⟩:=Option.map_eq_some_iff.mp e;rw[L2.Den];exact⟨a,ys,rfl,SqL.of c,dens_of f b⟩
 | .scr xs,p,v,e,h=>by
   rw[Dn] at h;obtain⟨a,ys,rfl,c,b⟩:=h;rw[toPy] at e;obtain⟨ps,f,rfl⟩:=Option.map_eq_some_iff.mp e;rw[L2.Den];exact⟨a,ys,rfl,c.sq,dens_of f b⟩
 | .tup xs,p,v,e,h=>by
   rw[Dn] at h;obtain⟨a,ys,rfl,c,b⟩:=h;rw[toPy] at e;obtain⟨ps,f,rfl⟩:=Option.map_eq_some_iff.mp e;rw[L2.Den];exact⟨a,ys,rfl,SqT.of c,dens_of f b⟩
 |.ty _,p,v,e,h=>by cases e
 |.dK _ _,p,v,e,h=>by cases e
 |.dT _ _,p,v,e,h=>by cases e
 |.obj _ _ _,p,v,e,h=>by cases e
theorem dens_of:∀ {ds:List D} {ps:List PyData} {xs:List V},toPys ds=some ps->Dns Y H ds xs->L2.Dens Y.K H ps xs
 |[],ps,xs,e,h=>by rw[Dns] at h; rw[toPys] at e; cases e; rw[L2.Dens]; exact h
 | d::ds,ps,xs,e,h=>by
   rw[Dns] at h;obtain⟨x,r,rfl,f,c⟩:=h;rw[toPys] at e;cases a:toPy d with
   |none=>rw[a] at e; cases e
   |some p=>
     cases b:toPys ds with
     |none=>rw[a,b] at e; cases e
     |some q=>
       rw[a,b] at e;cases e;rw[L2.Dens];exact⟨x,r,rfl,den_of a f,dens_of b c⟩
end
def Re(a:Bool)(x y:D):Res D:=match toPy x,toPy y with
 |some p,some q=>if SeqAt.shaped p=true/\SeqAt.shaped q=true then .ok (.bl (a.xor (PyData.eqv p q))) else .bad
 |_,_=> .bad
theorem NT{a:Bool}:S2 Y (N6 Y.K a) (Re a):=by
 intro H x y v u c b;unfold Re;cases e:toPy x with
 |none=>trivial
 |some p=>
   cases d:toPy y with
   |none=>trivial
   |some q=>
     dsimp only;by_cases z:SeqAt.shaped p=true/\SeqAt.shaped q=true
     ·rw[on z];refine⟨.bl _,λ_=>by rw[Dn],λQ h=>⟨p,q,den_of e c,den_of d b,z.1,z.2,?_⟩⟩;cases a<;>simpa using h
     ·rw[VM z]; trivial
def LP(x y:D):Res D:=match toPy x,toPy y with
 |some p,some (.list xs)=>if SeqAt.shaped p=true/\SeqAt.shaped (.list xs)=true/\(xs.all λz=>SeqAt.noMix z p)=true then .ok (.bl (decide (countIn p xs≠0))) else .bad
 |_,_=> .bad
theorem FB:S2 Y (λx y H Q=>∃ d xs,L2.Den Y.K H d x/\L2.Den Y.K H (.list xs) y/\SeqAt.shaped d=true/\SeqAt.shaped (.list xs)=true/\(∀ z∈xs,SeqAt.noMix z d=true)/\Q (.bl (decide (countIn d xs≠0))) H) LP:=by
 intro H x y v u b a;unfold LP;cases e:toPy x with
 |none=>trivial
 |some p=>
   cases c:toPy y with
   |none=>trivial
   |some q=>
     cases q with
     |list xs=>
       dsimp only;by_cases z:SeqAt.shaped p=true/\SeqAt.shaped (.list xs)=true/\(xs.all λz=>SeqAt.noMix z p)=true
       ·rw[on z];exact⟨.bl _,λ_=>by rw[Dn],λQ h=>⟨p,xs,den_of e b,den_of c a,z.1,z.2.1,λy a=>List.all_eq_true.mp z.2.2 y a,h⟩⟩
       ·rw[VM z]; trivial
     |_=>trivial
def yX:D->Option String
 |.non=>some "NoneType" | .bl _=>some "bool" | .int _=>some "int" | .str _=>some "str" | .lst _=>some "list" | .tup _=>some "tuple" | .dK _ _=>some "dict" | .dT _ _=>none
 |.ty _=>none | .obj _ _ _=>none | .scr _=>none
def kit(t n:String):Option Bool:=PySem.W.kitOne [] (.type t) (.type n)
def ID(x y:D):Res D:=match y,yX x with
 |.ty n,some t=>(match kit t n with|some b=> .ok (.bl b)|none=> .bad)
 |_,_=> .bad
theorem Ds{d:D}{v:V}{t:String}(e:yX d=some t)(h:Dn Y H d v):TyOf K H v (.type t):=by
 cases d with
 |non=>rw[Dn] at h; cases e; subst h; exact .non
 |bl b=>rw[Dn] at h; cases e; subst h; exact .bl b
 |int i=>rw[Dn] at h; cases e; subst h; exact .int i
 |str x=>rw[Dn] at h; cases e; subst h; exact .str x
 |lst _=>rw[Dn] at h; cases e; obtain⟨a,xs,rfl,c,_⟩:=h; exact .lst c
 |scr _=>cases e
 |tup _=>rw[Dn] at h; cases e; obtain⟨a,xs,rfl,c,_⟩:=h; exact .tup c
 |dK _ _=>rw[Dn] at h; cases e; obtain⟨a,xs,rfl,c,_⟩:=h; exact .dK c
 |dT _ _=>cases e
 |ty _=>cases e
 |obj _ _ _=>cases e
theorem A0:S2 Y (λv u H Q=>∃ x c t b,[v,u]=[x,.ty c]/\TyOf K H x t/\PySem.W.kitOne K t (.type c)=some b/\Q (.bl b) H) ID:=by
 intro H x y v u d a;unfold ID;cases y with
 |ty n=>
   cases e:yX x with
   |none=>trivial
   |some t=>
     dsimp only;cases f:kit t n with
     |none=>trivial
     |some b=>
       rw[Dn] at a;subst a;exact⟨.bl b,λ_=>by rw[Dn],λQ h=>⟨v,n,_,b,rfl,Ds e d,f,h⟩⟩
 |_=>trivial
def yT(i:Nat):Env->Out D:=λM=>match rg M i with|some d=> .ok d (M.set i none)|none=> .bad
theorem Rel.take(R:Rel Y T B U As Z H M)(i:Nat):Rel Y T B U (λj=>if j=i then [] else As j) Z H (M.set i none)/\∀ a∈As i,U a=none/\∀ j,a∉(λj=>if j=i then [] else As j) j:=by
 refine⟨⟨R.bu,R.uh,λj=>?_,λj k a f b d=>?_,λj a b=>?_,λj=>?_,by rw[WT]; exact R.len,R.tb⟩,λa b=>⟨R.un i a b,λj c=>?_⟩⟩
 · show(if j=i then [] else As j).Nodup;split
   ·exact Wz
   ·exact R.nd j
 · replace b:a∈(if j=i then [] else As j):=b;replace d:a∈(if k=i then [] else As k):=d;split at b
   ·cases b
   · split at d
     ·cases d
     ·exact R.dj j k a f b d
 · replace b:a∈(if j=i then [] else As j):=b;split at b
   ·cases b
   ·exact R.un j a b
 · show Lo Y B U H (T.getD j .F) (rg (M.set i none) j) (rg Z j) (if j=i then [] else As j);rw[kq];by_cases e:i=j
   · subst e;rw[on rfl];by_cases h:i<M.length
     ·rw[on ⟨rfl,h⟩]; exact rfl
     · rw[VM λz=>h z.2]
       have:rg M i=none:=by unfold rg; rw[List.getElem?_eq_none (by omega)]; rfl
       rw[this]; exact rfl
   ·rw[VM λz=>e z.1,VM λz=>e z.symm];exact R.lo j
 · replace c:a∈(if j=i then [] else As j):=c;split at c
   ·cases c
   ·rename_i z; exact R.dj i j a (λq=>z q.symm) b c
theorem pY{i:Nat}{s:Sh}(g:T.getD i .F= .O s):MJ Y (KO Y s) E T (iz i) (yT i):=by
 intro B U As Z H M Q R P;unfold yT at P;have l:=R.lo i;cases e:rg M i with
 |none=>rw[e] at P; exact P.elim
 |some d=>
   rw[e] at P;rw[e,g] at l;obtain⟨v,f,w⟩:=l;obtain⟨R2,c⟩:=R.take i;exact⟨v,g6 f,P v B U _ H (As i) R2 (Ex.refl _ _) ⟨R.nd i,λa b=>(c a b).1,λa b=>(c a b).2⟩ w⟩
def cr:D->Bool | .int _=>true | .bl _=>true | .non=>true | .str _=>true|_=>false
def wJ:D->Bool
 |.lst xs=>xs.all cr
 |.scr xs=>xs.all cr
 |.tup xs=>xs.all cr
 |.dK _ xs=>xs.all cr
 |.dT _ xs=>xs.all cr
 |.obj _ _ xs=>xs.all cr
 |d=>cr d
def Ad(m:Env->Res D):Env->Res D:=λM=>(m M).bind λd=>if wJ d=true then .ok d else .bad
theorem iE{G a:Hp}{d:D}{v:V}(h:cr d=true)(q:Dn Y G d v):Dn Y a d v:=by
 cases d with
 |int _=>rw[Dn] at q ⊢; exact q
 |bl _=>rw[Dn] at q ⊢; exact q
 |non=>rw[Dn] at q ⊢; exact q
 |str _=>rw[Dn] at q ⊢; exact q
 |_=>cases h
theorem gX{G c:Hp}:∀ {ds:List D} {xs:List V},ds.all cr=true->Dns Y G ds xs->Dns Y c ds xs
 |[],_,_,q=>by rw[Dns] at q ⊢; exact q
 | d::ds,_,h,q=>by
   rw[YY,Xe] at h;rw[Dns] at q ⊢;obtain⟨x,r,e,b,a⟩:=q;exact⟨x,r,e,iE h.1 b,gX h.2 a⟩
theorem cS{k k':Kd}{t:TE}{m:Env->Res D}(h:PJ Y (KC Y k) E T t m):PJ Y (KC Y k') E T t (Ad m):=by
 intro B U As Z H M Q R P;refine h.bnd R P λx v I U1 L O _ f i g N s=>?_;by_cases z:wJ x=true
 · rw[on z] at s;refine s v I U1 L [] f (Gw.refl _ _ _) New.nil ?_;cases x with
   |lst ds=>obtain⟨a,xs,r,d,b⟩:=N; exact⟨a,xs,r,d,gX z b⟩
   |scr ds=>obtain⟨a,xs,r,d,b⟩:=N; exact⟨a,xs,r,d,gX z b⟩
   |tup ds=>obtain⟨a,xs,r,d,b⟩:=N; exact⟨a,xs,r,d,gX z b⟩
   |dK ks ds=>obtain⟨a,xs,r,d,b,e⟩:=N; exact⟨a,xs,r,d,b,gX z e⟩
   |dT ks ds=>obtain⟨a,xs,r,d,b,e⟩:=N; exact⟨a,xs,r,d,b,gX z e⟩
   |obj c ns ds=>obtain⟨a,dx,xs,r,d,b,e⟩:=N; exact⟨a,dx,xs,r,d,b,gX z e⟩
   |int _=>exact iE (G:=hp k I U1 L) z N
   |bl _=>exact iE (G:=hp k I U1 L) z N
   |non=>exact iE (G:=hp k I U1 L) z N
   |str _=>exact iE (G:=hp k I U1 L) z N
   |ty _=>cases z
 ·rw[VM z] at s;exact s.elim
theorem rS{k:Kd}{t:TE}{m:Env->Res D}(h:PJ Y (KR Y .X) E T t m):PJ Y (KR Y .F) E T t (λM=>(m M).bind λd=>if cr d=true then .ok d else .bad):=by
 intro B U As Z H M Q R P;refine h.bnd R P λx v I U1 L O _ a c b N s=>?_;by_cases z:cr x=true
 ·rw[on z] at s;exact s v I U1 L [] a (Gw.refl _ _ _) New.nil (iE z N)
 ·rw[VM z] at s;exact s.elim
def kD:b6->D | .inl i=> .int i | .inr x=> .str x
def rn:D->Res D | .dT ks _=> .ok (.lst (ks.map λk=> .tup (k.map kD)))|_=> .bad
theorem Ja{G:Hp}:∀ k:List b6,Dns Y G (k.map kD) (k.map kV)
 |[]=>by rw[Wv,Wv,Dns]
 | x::k=>by
   rw[VQ,VQ,Dns];refine⟨_,_,rfl,?_,Ja k⟩;cases x with
   |inl i=>show Dn Y G (.int i) (.int i); rw[Dn]
   |inr i=>show Dn Y G (.str i) (.str i); rw[Dn]
theorem Dns.of_get{G:Hp}:∀ {ds:List D} {xs:List V},ds.length=xs.length->(∀ (i:Nat) d x,ds[i]?=some d->xs[i]?=some x->Dn Y G d x)->Dns Y G ds xs
 | [],xs,h,_=>by
   rw[Dns];exact List.length_eq_zero_iff.mp h.symm
 |d::ds,[],h,_=>by cases h
 | d::ds,x::xs,h,k=>by
   rw[Dns];exact⟨x,xs,rfl,k 0 d x rfl rfl,Dns.of_get (by simpa using h) λi d x b a=>k (i+1) d x (by simpa using b) (by simpa using a)⟩
theorem mT{k:Kd}{ta:TE}{p:Env->Res D}(h:PJ Y (KC Y k) E T ta p):PJ Y (KO Y (.ct .fz)) E T (DB (λxs H Q=>∃ a f,xs=[.ref a]/\Rd H a (.dT f)/\
 ∀ (ks:List Addr) (l:Addr),ks.length=f.length->(∀ (i:Nat) k v b,f[i]?=some (k,v)->ks[i]?=some b->H b=some (.tup (k.map kV)))->H l=none->Q (.ref l) (upd H l (.lst (ks.map V.ref)))) (b9 ta d8)) (un rn p):=by
 intro B U As Z H M Q R P;refine h.bnd R P λx v I U1 L O _ g e1 X N s=>?_;cases x with
 |dT ks ds=>
   obtain⟨a,f,rfl,K,u,h3⟩:=N;refine⟨a,f,rfl,K,λbs l F r C=>?_⟩
   have c:∀ b∈bs,∃ o,L b=some o/\j7 o:=λb m=>by
    obtain⟨i,hi,e⟩:=X5 m;have J:bs[i]?=some b:=by rw[<-e]; exact V1 hi
    have G:f[i]?=some (f[i]'(by omega)):=V1 (by omega);exact⟨_,r i _ _ b (by rw[G]) J,_,rfl⟩
   have R2:Rel Y T (Mi.frz I L bs) (Mi.frz U1 L bs) As Z L M:=g.grow (dk g.bh) (dk g.uh) (Same.refl _) (rG g.bu) (vz g.uh) λi a h=>by
    unfold Mi.frz;split
    ·rename_i z;obtain⟨o,e,t⟩:=c a z;exact(g.nt h e t).elim
    ·exact g.un i a h
   have S:Gw I U1 L (Mi.frz I L bs) (Mi.frz U1 L bs) L:=by
    refine⟨⟨dk g.bh,dk g.uh,λa o q=>?_⟩,Same.refl _,λa o q=>?_⟩
    · unfold Mi.frz at q;split at q
      ·rename_i z;obtain⟨o',e,t⟩:=c a z;rw[e] at q; cases q;exact .inr (.inr t)
      ·exact .inl q
    · unfold Mi.frz at q;split at q
      ·rename_i z;obtain⟨o',e,t⟩:=c a z;rw[e] at q; cases q;exact .inr (.inr t)
      ·exact .inl q
   have W:Po Y (KO Y (.ct .fz)) E T (Mi.frz I L bs) (Mi.frz U1 L bs) As Z L M (.ok (.lst (ks.map λk=> .tup (k.map kD)))) Q:=Po.at s S;refine fB R2 W (Dns.of_get (by rw[List.length_map,List.length_map,F,<-u,List.length_map]) λi d x y ex=>?_) C;rw[List.getElem?_map] at y ex;obtain⟨kk,w,rfl⟩:=Option.map_eq_some_iff.mp y;obtain⟨b,A,rfl⟩:=Option.map_eq_some_iff.mp ex;rw[<-u,List.getElem?_map] at w;obtain⟨j,n,rfl⟩:=Option.map_eq_some_iff.mp w;have m:=r i j.1 j.2 b n A;rw[Dn];refine⟨b,_,rfl,?_,Ja j.1⟩;unfold Mi.frz;rw[if_pos (List.mem_of_getElem? A)];exact m
 |_=>exact s.elim
def cX:List D->Option (List Int)
 |[]=>some []
 |.int i::r=>(cX r).map (i::·)
 |_::_=>none
theorem fU{G:Hp}:∀ {ds:List D} {ns:List Int} {xs:List V},cX ds=some ns->Dns Y G ds xs->xs=ns.map V.int
 |[],ns,xs,e,h=>by rw[Dns] at h; cases e; rw[h]; rfl
 | d::ds,ns,xs,e,h=>by
   rw[Dns] at h;obtain⟨x,r,rfl,a,b⟩:=h;cases d with
   |int i=>
     rw[cX] at e;obtain⟨T,c,rfl⟩:=Option.map_eq_some_iff.mp e;rw[Dn] at a;rw[fU c b,a,VQ]
   |_=>cases e
def dN:List Int->Int->Int
 |[],m=>m
 |x::r,m=>dN r (if x<m then x else m)
def gc:List Int->Int->Int
 |[],m=>m
 |x::r,m=>gc r (if m<x then x else m)
theorem kM:∀ (l:List Int) (m:Int),(dN l m=m\/dN l m∈l)/\dN l m<=m/\∀ x∈l,dN l m<=x
 |[],m=>⟨.inl rfl,Int.le_refl _,λ_ h=>(nomatch h)⟩
 | x::r,m=>by
   unfold dN;obtain⟨a,b,d⟩:=kM r (if x<m then x else m);refine⟨?_,?_,λy c=>?_⟩
   · rcases a with a|a
     · by_cases z:x<m
       ·rw[on z] at a ⊢; exact .inr (by rw[a]; exact VP)
       ·rw[VM z] at a ⊢; exact .inl a
     ·exact .inr (VR _ a)
   ·split at b<;>split<;>omega
   · rcases List.mem_cons.mp c with z|z
     ·subst z; split at b<;>split<;>omega
     ·exact d y z
theorem lY:∀ (l:List Int) (m:Int),(gc l m=m\/gc l m∈l)/\m<=gc l m/\∀ x∈l,x<=gc l m
 |[],m=>⟨.inl rfl,Int.le_refl _,λ_ h=>(nomatch h)⟩
 | x::r,m=>by
   unfold gc;obtain⟨a,b,d⟩:=lY r (if m<x then x else m);refine⟨?_,?_,λy c=>?_⟩
   · rcases a with a|a
     · by_cases z:m<x
       ·rw[on z] at a ⊢; exact .inr (by rw[a]; exact VP)
       ·rw[VM z] at a ⊢; exact .inl a
     ·exact .inr (VR _ a)
   ·split at b<;>split<;>omega
   · rcases List.mem_cons.mp c with z|z
     ·subst z; split at b<;>split<;>omega
     ·exact d y z
def tK(f:List Int->Int->Int)(x d:D):Res D:=match x with
 |.lst ds=>(match cX ds with|some []=>(if cr d=true then .ok d else .bad)|some (n::ns)=> .ok (.int (f ns n))|none=> .bad)
 |_=> .bad
theorem Oj{ta k:TE}{o l:Env->Res D}(J:PJ Y (KR Y .X) E T ta o)(hd:PJ Y (KR Y .X) E T k l):
 PJ Y (KR Y .F) E T (Nk (λxs t H Q=>∃ p ns d,xs=[.ref p]/\t=[d]/\SqL K H p (ns.map V.int)/\(ns=[]->Q d H)/\∀ m∈ns,(∀ x∈ns,m<=x)->Q (.int m) H) (b9 ta d8) (b9 k d8)) (bn (tK dN) o l):=by
 intro B U As Z H M Q R P;refine J.bnd R P λx v I U1 L O _ R1 e1 n1 N s=>hd.bnd R1 s λy u g e f N2 _ R2 r n2 d2 b=>?_;have N:Dn Y L x v:=N;cases x with
 |lst ds=>
   rw[Dn] at N;obtain⟨a,xs,rfl,q,S⟩:=N;replace b:Po Y (KR Y .F) E T g e As Z f M (match cX ds with|some []=>(if cr y=true then .ok y else .bad)|some (n::ns)=> .ok (.int (dN ns n))|none=> .bad) Q:=b;cases c:cX ds with
   |none=>rw[c] at b; exact b.elim
   |some ns=>
     have ex:=fU c S;subst ex;cases ns with
     |nil=>
       rw[c] at b;replace b:Po Y (KR Y .F) E T g e As Z f M (if cr y=true then .ok y else .bad) Q:=b;by_cases z:cr y=true
       ·rw[on z] at b;exact⟨a,[],u,rfl,rfl,SqL.of (r.h _ _ q),λ_=>b u g e f [] R2 (Gw.refl _ _ _) New.nil (iE z d2),λm i=>(nomatch i)⟩
       ·rw[VM z] at b; exact b.elim
     |cons n ns=>
       rw[c] at b;refine⟨a,n::ns,u,rfl,rfl,SqL.of (r.h _ _ q),(λz=>by cases z),λm i j=>?_⟩;obtain⟨A,s2,w⟩:=kM ns n
       have W:m=dN ns n:=by
        have G:dN ns n∈n::ns:=by
         rcases A with z|z
         ·rw[z]; exact VP
         ·exact VR _ z
        have C:=j _ G;rcases List.mem_cons.mp i with z|z
        ·rw[z] at C ⊢; omega
        ·have:=w m z; omega
       rw[W];exact b _ g e f [] R2 (Gw.refl _ _ _) New.nil (show Dn Y _ (.int (dN ns n)) _ by rw[Dn])
 |_=>exact b.elim
theorem Ol{ta k:TE}{o l:Env->Res D}(J:PJ Y (KR Y .X) E T ta o)(hd:PJ Y (KR Y .X) E T k l):
 PJ Y (KR Y .F) E T (Nk (λxs t H Q=>∃ p ns d,xs=[.ref p]/\t=[d]/\SqL K H p (ns.map V.int)/\(ns=[]->Q d H)/\∀ m∈ns,(∀ x∈ns,x<=m)->Q (.int m) H) (b9 ta d8) (b9 k d8)) (bn (tK gc) o l):=by
 intro B U As Z H M Q R P;refine J.bnd R P λx v I U1 L O _ R1 e1 n1 N s=>hd.bnd R1 s λy u g e f N2 _ R2 r n2 d2 b=>?_;have N:Dn Y L x v:=N;cases x with
 |lst ds=>
   rw[Dn] at N;obtain⟨a,xs,rfl,q,S⟩:=N;replace b:Po Y (KR Y .F) E T g e As Z f M (match cX ds with|some []=>(if cr y=true then .ok y else .bad)|some (n::ns)=> .ok (.int (gc ns n))|none=> .bad) Q:=b;cases c:cX ds with
   |none=>rw[c] at b; exact b.elim
   |some ns=>
     have ex:=fU c S;subst ex;cases ns with
     |nil=>
       rw[c] at b;replace b:Po Y (KR Y .F) E T g e As Z f M (if cr y=true then .ok y else .bad) Q:=b;by_cases z:cr y=true
       ·rw[on z] at b;exact⟨a,[],u,rfl,rfl,SqL.of (r.h _ _ q),λ_=>b u g e f [] R2 (Gw.refl _ _ _) New.nil (iE z d2),λm i=>(nomatch i)⟩
       ·rw[VM z] at b; exact b.elim
     |cons n ns=>
       rw[c] at b;refine⟨a,n::ns,u,rfl,rfl,SqL.of (r.h _ _ q),(λz=>by cases z),λm i j=>?_⟩;obtain⟨A,s2,w⟩:=lY ns n
       have W:m=gc ns n:=by
        have G:gc ns n∈n::ns:=by
         rcases A with z|z
         ·rw[z]; exact VP
         ·exact VR _ z
        have C:=j _ G;rcases List.mem_cons.mp i with z|z
        ·rw[z] at C ⊢; omega
        ·have:=w m z; omega
       rw[W];exact b _ g e f [] R2 (Gw.refl _ _ _) New.nil (show Dn Y _ (.int (gc ns n)) _ by rw[Dn])
 |_=>exact b.elim
def rk:D->Res D
 |.lst ds=>(match cX ds with|some ns=>(if ns.length<4000 then .ok (.int (dd ns).length) else .bad)|none=> .bad)
 |_=> .bad
theorem GN{ta:TE}{c:Env->Res D}(f:PJ Y (KR Y .X) E T ta c):PJ Y (KR Y .F) E T
 (DB (λxs H Q=>∃ a S n,xs=[.ref a]/\H a=some (.set S n)/\Q (.int n) H) (b9 (DB (λxs H Q=>∃ p ns,xs=[.ref p]/\SqL K H p (ns.map V.int)/\ns.length<4000/\∀ q,H q=none->Q (.ref q) (upd H q (.set (λk=>(dd ns).any (·==k)) (dd ns).length))) (b9 ta d8)) d8)) (un rk c):=by
 intro B U As Z H M Q R P;refine f.bnd R P λx v I U1 L O _ e j i N s=>?_;have N:Dn Y L x v:=N;cases x with
 |lst ds=>
   rw[Dn] at N;obtain⟨a,xs,rfl,h,g⟩:=N;replace s:Po Y (KR Y .F) E T I U1 As Z L M (match cX ds with|some ns=>(if ns.length<4000 then .ok (.int (dd ns).length) else .bad)|none=> .bad) Q:=s;cases b:cX ds with
   |none=>rw[b] at s; exact s.elim
   |some ns=>
     have ex:=fU b g;subst ex;rw[b] at s;replace s:Po Y (KR Y .F) E T I U1 As Z L M (if ns.length<4000 then .ok (.int (dd ns).length) else .bad) Q:=s;by_cases z:ns.length<4000
     ·rw[on z] at s;exact⟨a,ns,rfl,SqL.of h,z,λq d=>⟨q,_,_,rfl,bv,s _ I U1 _ [] (e.new d) (Gw.newO e d) New.nil (show Dn Y _ (.int _) _ by rw[Dn])⟩⟩
     ·rw[VM z] at s; exact s.elim
 |_=>exact s.elim
def PP:D->Option (Int×Int×List Int)
 |.tup [.int a,.int b,.lst xs]=>(cX xs).map λns=>(a,b,ns)
 |_=>none
theorem Ea{x:D}{a b:Int}{ns:List Int}(h:PP x=some (a,b,ns)):∃ xs,x= .tup [.int a,.int b,.lst xs]/\cX xs=some ns:=by
 unfold PP at h;split at h
 ·obtain⟨T,e,c⟩:=Option.map_eq_some_iff.mp h;cases c;exact⟨_,rfl,e⟩
 ·cases h
theorem kO{x:D}{v:V}{a b:Int}{ns:List Int}(e:PP x=some (a,b,ns))(c:Dn Y H x v):∃ p l,v= .ref p/\SqT K H p [.int a,.int b,.ref l]/\SqL K H l (ns.map V.int):=by
 obtain⟨xs,rfl,o⟩:=Ea e;rw[Dn] at c;obtain⟨p,ys,rfl,n,i⟩:=c;rw[Dns] at i;obtain⟨t,y,rfl,N,h⟩:=i;rw[Dns] at h;obtain⟨s,w,rfl,k,g⟩:=h;rw[Dns] at g;obtain⟨r,u,rfl,j,f⟩:=g;rw[Dns] at f;rw[Dn] at N; rw[Dn] at k; rw[Dn] at j;obtain⟨l,q,rfl,d,m⟩:=j;subst N k f;rw[fU o m] at d;exact⟨p,l,rfl,SqT.of n,SqL.of d⟩
def xn(x y:D):Res D:=match toPy x,toPy y with
 |some p,some (.list xs)=>if SeqAt.shaped p=true/\SeqAt.shaped (.list xs)=true/\(xs.all λz=>SeqAt.noMix z p)=true then .ok (.bl (!decide (countIn p xs≠0))) else .bad
 |_,_=> .bad
def Gu(K:L0):R2:=λx y H Q=>∃ d xs,L2.Den K H d x/\L2.Den K H (.list xs) y/\SeqAt.shaped d=true/\SeqAt.shaped (.list xs)=true/\(∀ z∈xs,SeqAt.noMix z d=true)/\Q (.bl (!decide (countIn d xs≠0))) H
theorem Fz:S2 Y (Gu Y.K) xn:=by
 intro H x y v u b a;unfold xn;cases d:toPy x with
 |none=>trivial
 |some p=>
   cases c:toPy y with
   |none=>trivial
   |some q=>
     cases q with
     |list xs=>
       dsimp only;by_cases z:SeqAt.shaped p=true/\SeqAt.shaped (.list xs)=true/\(xs.all λz=>SeqAt.noMix z p)=true
       ·rw[on z];exact⟨.bl _,λ_=>by rw[Dn],λQ h=>⟨p,xs,den_of d b,den_of c a,z.1,z.2.1,λy a=>List.all_eq_true.mp z.2.2 y a,h⟩⟩
       ·rw[VM z]; trivial
     |_=>trivial
theorem DV{X:Cx}(j:X.A.units+65<cLine):nK X (compareOp .NotIn) (Gu X.K):=by
 intro G s Z H x y v u Q I e c h;obtain⟨d,xs,hd,k,b,a,i,q⟩:=h;obtain⟨l,g⟩:=den_reads I d hd e;obtain⟨bs,f⟩:=den_reads I _ k c;exact PyProof.Rows.notIn_list_dataH f g a b j i ⟨.bl _,H,I,rfl,q⟩
theorem IJ{A:Around}{k:Nat}(a:Room k A):A.units+65<cLine:=by have:=a.un; omega
end
end Mi
namespace Mi
open PySem L2
def lO:List Ap->List Md->Bool
 |[],[]=>true
 |p::ps,m::r=>vB [] true p m&&lO ps r
 |_,_=>false
theorem gT:∀ {ps:List Ap} {mc:List Md},lO ps mc=true->ps.length=mc.length
 |[],[],_=>rfl
 |[],_::_,h=>by cases h
 |_::_,[],h=>by cases h
 | p::ps,m::r,h=>by
   have h:(vB [] true p m&&lO ps r)=true:=h;rw[Xe] at h;rw[VU,VU,gT h.2]
theorem gU{T:List Md}:∀ {ps:List Ap} {mc:List Md},lO ps mc=true->∀ (j:Nat) p,ps[j]?=some p->vB T true p (mc.getD j .F)=true
 |[],_,_,_,_,e=>by cases e
 |_::_,[],h,_,_,_=>by cases h
 | p::ps,m::r,h,j,q,e=>by
   have h:(vB [] true p m&&lO ps r)=true:=h;rw[Xe] at h;cases j with
   |zero=>
     cases e
     have:=h.1
     cases p <;> cases m <;> first | exact this | cases this
   |succ j=>rw[Xz]; exact gU h.2 j q (by simpa using e)
def pc(b:List D->Out D)(a:Env->Res (List D)):Env->Res D:=λM=>(a M).bind (k6 b)
def pm(c:Nat)(b:Str)(d:List D->Out D)(o:Env->Res D)(a:Env->Res (List D)):Env->Res D:=λM=>(o M).bind λo=>if eG c b o=true then (a M).bind λds=>k6 d (o::ds) else .bad
def pk(c:Nat)(b:List D->Out D)(a:Env->Res (List D)):Env->Res D:=λM=>(a M).bind (o8 c b)
def mc(ps:List Ap)(b:List D->Out D)(a:Env->Res (List D)):Env->Out D:=λM=>((a M).up M).bind (gz ps b)
def mm(c:Nat)(b:Str)(ps:List Ap)(d:List D->Out D)(o:Env->Res D)(a:Env->Res (List D)):Env->Out D:=λM=>((o M).up M).bind λo M=>if eG c b o=true then ((a M).up M).bind λds M=>gz ps d (o::ds) M else .bad
section
variable{Y:Cm}{Kr:KT D V}{pr:Nat->Bool}{T:List Md}{K:L0}
theorem KR.u{d:D}{v:V}{B U J H:Hp}{N:List Addr}(h:KR Y .F d v B U H N):KR Y .F d v B J H N:=h
theorem KO.u{s:Sh}{d:D}{v:V}{B U J H:Hp}{N:List Addr}(h:KO Y s d v B U H N):KO Y s d v B J H N:=h
theorem cw{a:List Md}{c:List D->Out D}{ps:List Ap}{t:TA}{m:Env->Res (List D)}(h:AJ Y E0 T ps t m)(b:lO ps a=true):PJ Y (KR Y .F) E0 T (tS (gg Y a (KR Y .F) c) [] E0 t) (pc c m):=
 GR h (gT b) (gU b) λ_ _ _ _ _ _ _ h=>h
theorem fc{s:Sh}{a:List Md}{c:List D->Out D}{ps:List Ap}{t:TA}{m:Env->Res (List D)}(h:AJ Y E0 T ps t m)(b:lO ps a=true):PJ Y (KO Y s) E0 T (tS (gg Y a (KO Y s) c) [] E0 t) (pc c m):=
 GR h (gT b) (gU b) λ_ _ _ _ _ _ _ h=>h
theorem eJ{c:Nat}{b:Str}{a:List Md}{f:List D->Out D}{p:Ap}{ps:List Ap}{ta:TE}{d:Env->Res D}{t:TA}{m:Env->Res (List D)}(g:A1J Y E0 T p ta d)(h:AJ Y E0 T ps t m)(e:lO (p::ps) a=true):
 PJ Y (KR Y .F) E0 T (qr (Y c) b (gg Y a (KR Y .F) f) [] E0 ta t) (pm c b f d m):=GM g h (gT e) (gU e) λ_ _ _ _ _ _ _ h=>h
theorem jx{s:Sh}{c:Nat}{b:Str}{a:List Md}{f:List D->Out D}{p:Ap}{ps:List Ap}{ta:TE}{d:Env->Res D}{t:TA}{m:Env->Res (List D)}(g:A1J Y E0 T p ta d)(h:AJ Y E0 T ps t m)(e:lO (p::ps) a=true):
 PJ Y (KO Y s) E0 T (qr (Y c) b (gg Y a (KO Y s) f) [] E0 ta t) (pm c b f d m):=GM g h (gT e) (gU e) λ_ _ _ _ _ _ _ h=>h
theorem MG{c:Nat}{b:List (Str×Sh)}{a:List Md}{f:List D->Out D}{ps:List Ap}{t:TA}{m:Env->Res (List D)}(h:AJ Y E0 T ps t m)(d:lO ps a=true):
 PJ Y (KO Y (.ob b)) E0 T (Fc (Y c) (gg Y (.O (.ob b)::a) (KR Y .F) f) [] E0 t) (pk c f m):=
 Om h (by rw[VU,gT d]) rfl λj p e=>by rw[Xz]; exact gU d j p e
theorem MU{a:List Md}{b:List D->Out D}{ps:List Ap}{t:TA}{m:Env->Res (List D)}(h:AJ Y E0 T ps t m)(c:fitM T ps a)(hd:(iZ ps).Nodup)(d:∀ i∈yI ps,i∉iZ ps):
 MJ Y (KR Y .F) E0 T (tS (gg Y a (KR Y .F) b) [] E0 t) (mc ps b m):=Px h c hd d λ_ _ _ _ _ _ _ h=>h
theorem jd{c:Nat}{b:Str}{a:List Md}{e:List D->Out D}{p:Ap}{ps:List Ap}{ta:TE}{d:Env->Res D}{t:TA}{m:Env->Res (List D)}(j:A1J Y E0 T p ta d)(h:AJ Y E0 T ps t m)(f:fitM T (p::ps) a)(hd:(iZ (p::ps)).Nodup)
 (g:∀ i∈yI (p::ps),i∉iZ (p::ps)):MJ Y (KR Y .F) E0 T (qr (Y c) b (gg Y a (KR Y .F) e) [] E0 ta t) (mm c b (p::ps) e d m):=Pu j h f hd g λ_ _ _ _ _ _ _ h=>h
theorem Vq{B U H:Hp}{N:List Addr}:KR Y .F .non .non B U H N:=show Dn Y B .non .non by rw[Dn]
end
theorem oJ{Y:Cm}{G:Hp}:∀ ns:List Int,Dns Y G (ns.map D.int) (ns.map V.int)
 |[]=>by rw[Wv,Wv,Dns]
 | n::r=>by
   rw[VQ,VQ,Dns];exact⟨_,_,rfl,by rw[Dn],oJ r⟩
theorem PF{Y:Cm}{b:List D->Out D}(h:∀ ns:List Int,ns.length<=63->∃ M,b [.scr (ns.map D.int)]= .ok (.bl true) M){vs:List V}{H:Hp}{Q:VK}{a:Addr}{ns:List Int}(c:vs=[.ref a])(f:SqF Y.K H a (ns.map V.int))(j:ns.length<=63)(d:∀ p∈Y.tb,∃ l,H p.1=some (.tbl l)/\p.2∈l)(g:∀ H',Q (.bl true) H'):
 DG Y [.R] (KR Y .F) b vs H Q E0:=by
 subst c;obtain⟨M,e⟩:=h ns j;refine⟨H,H,λ_=>[],[.scr (ns.map D.int)],⟨Same.refl _,Same.refl _,λ_=>Wz,λ_ _ _ _ z=>(nomatch z),λ_ _ z=>(nomatch z),λi=>?_,rfl,d⟩,rfl,?_⟩
 · rw[fZ,fZ];cases i with
   |zero=>exact⟨.ref a,rfl,by show Dn Y H (.scr _) _; rw[Dn]; exact⟨a,_,rfl,f,oJ ns⟩,rfl⟩
   |succ i=>exact rfl
 ·rw[e];intro v S J G H' N o n m k;have k:Dn Y S (.bl true) v:=k;rw[Dn] at k;rw[k];exact g H'
theorem Nn{K:L0}{H:Hp}{a:Addr}{xs:List V}{T:Tbs}(o:Ko T H)(h:SqL K H a xs):SqF K H a xs:=by
 rcases h with (h|h)|h
 · rcases o.2 a with z|⟨ob,ys,z⟩|z
   ·rw[z] at h; cases h
   ·rw[z] at h; cases h
   ·rw[z] at h; cases h
 ·exact .inl h
 ·exact .inr h
theorem Rl{H:Hp}{T:Tbs}(o:Ko T H):∀ p∈T,∃ l,H p.1=some (.tbl l)/\p.2∈l:=λp hp=>⟨_,o.1 p hp,Tbs.mem.mpr hp⟩
def p8(m:Env->Res D):Env->Res D:=λM=>(m M).bind λd=>if cr d=true then .ok d else .bad
def DO(xs:List D)(x:D):Option (D×List D):=match toPy x,toPys xs with
 |some d,some ds=>if SeqAt.shaped d=true/\ds.all SeqAt.shaped=true then (ds.findIdx? λe=>PyData.eqv e d).map λj=>(.non,xs.eraseIdx j) else none
 |_,_=>none
def iQ:List (List b6)->List D->List b6->List (List b6)×List D
 |k::ks,d::ds,j=>if k=j then iQ ks ds j else (k::(iQ ks ds j).1,d::(iQ ks ds j).2)
 |_,_,_=>([],[])
def Cc:D->D->Option (D×D)
 |.dT ks vs,.tup k=>(fe k).bind λk=>(du ks vs k).map λx=>(x,.dT (iQ ks vs k).1 (iQ ks vs k).2)
 |_,_=>none
def xX(set:Env->D->Env)(d:D)(M:Env):Res D->Out D
 |.ok k=>(match Cc d k with|some (x,d')=> .ok x (set M d')|none=> .bad)
 |.exc c=> .exc c M
 |.bad=> .bad
def ut(get:Env->Option D)(set:Env->D->Env)(mk:Env->Res D):Env->Out D:=λM=>match get M with
 |some (.dT ks vs)=>xX set (.dT ks vs) M (mk M)
 |_=> .bad
section
variable{Y:Cm}{E:XK}{T:List Md}{B U H:Hp}{As:Nat->List Addr}{Z:St}{M:Env}{t:TE}{get:Env->Option D}{set:Env->D->Env}
theorem HU{te:TE}{q:Env->Res D}(p:Pth Y T t get set)(C:PJ Y (KR Y .X) E T te q):MJ Y (KR Y .F) E T (AR Y.K "list" (Bz Y.K) t (b9 te d8)) (ie get set DO q):=
 BS (f:=DO) p C λB U H a ds xs x u d es Q bu uh G s h b k=>by
  have h:Dn Y H x u:=h;unfold DO at b;cases g:toPy x with
  |none=>rw[g] at b; cases b
  |some c=>
    cases o:toPys ds with
    |none=>rw[g,o] at b; cases b
    |some ps=>
      rw[g,o] at b;replace b:(if SeqAt.shaped c=true/\ps.all SeqAt.shaped=true then (ps.findIdx? λe=>PyData.eqv e c).map λj=>(D.non,ds.eraseIdx j) else none)=some (d,es):=b;by_cases z:SeqAt.shaped c=true/\ps.all SeqAt.shaped=true
      · rw[on z] at b;obtain⟨j,I,J⟩:=Option.map_eq_some_iff.mp b;cases J;obtain⟨r,hp,i⟩:=List.findIdx?_eq_some_iff_getElem.mp I;refine⟨a,xs,u,c,ps,j,rfl,rfl,G,den_of g h,dens_of o (Dns.mono (bu.trans uh) s),z.1,λy v=>List.all_eq_true.mp z.2 y v,r,λm e n L=>?_,k .non _ (by rw[Dn]) (s.erase _)⟩;by_cases w:m=j
        ·subst w;rw[V1 r] at n;cases n;rw[hp]; simp
        · have:=i m (by omega)
          obtain⟨A,l⟩:=List.getElem?_eq_some_iff.mp n;rw[l] at this;rw[We w];simpa using this
      ·rw[VM z] at b; cases b
theorem xT{G:Hp}{k:List b6}:∀ {a:List (List b6×V)} {ds:List D},Dns Y G ds (a.map (·.2))->(pw a k).map (·.1)=(iQ (a.map (·.1)) ds k).1/\Dns Y G (iQ (a.map (·.1)) ds k).2 ((pw a k).map (·.2))
 | [],ds,h=>by
   cases ds<;>exact⟨rfl,by show Dns Y G [] []; rw[Dns]⟩
 | p::a,ds,h=>by
   cases ds with
   |nil=>rw[Dns] at h; cases h
   |cons d ds=>
     rw[List.map_cons,Dns] at h;obtain⟨y,r,e,g,f⟩:=h;cases e;obtain⟨c,b⟩:=xT (k:=k) f;unfold pw at c b ⊢;rw[List.map_cons,List.filter_cons,iQ];by_cases q:p.1=k
     ·rw[VM (by simp[q]),on q];exact⟨c,b⟩
     ·rw[on (by simpa using q),VM q];refine⟨by rw[VQ,c],?_⟩;rw[VQ,Dns];exact⟨_,_,rfl,g,b⟩
theorem H0{r:TE}{mk:Env->Res D}(p:Pth Y T t get set)(V:PJ Y (KR Y .X) E T r mk):MJ Y (KR Y .F) E T (Fd t r) (ut get set mk):=by
 intro B U As Z H M Q R P;unfold ut at P;cases e:get M with
 |none=>rw[e] at P; exact P.elim
 |some d=>
   obtain⟨v,A,S,C,hA,cl⟩:=p.rd R e;cases d with
   |dT ks vs=>
     rw[e] at P;replace P:Mo Y (KR Y .F) E T B U Z (xX set (.dT ks vs) M (mk M)) Q:=P;obtain⟨a,g,rfl,z,h2,rfl,h3⟩:=C.dT rfl;refine S _ ⟨a,rfl,.inr ⟨g,.inl z⟩,V B U As Z H M _ R ?_⟩;cases o:mk M with
     |exc c=>rw[o] at P; exact λI U1 L q i=>P I U1 As L q i.toEx
     |bad=>rw[o] at P; exact P.elim
     |ok l=>
       rw[o] at P;intro u I U1 L N q i n1 m;have m:Dn Y L l u:=m;replace P:Mo Y (KR Y .F) E T B U Z (match Cc (.dT ks vs) l with|some (x,d')=> .ok x (set M d')|none=> .bad) Q:=P;cases f:Cc (.dT ks vs) l with
       |none=>rw[f] at P; exact P.elim
       |some xd=>
         obtain⟨x,d'⟩:=xd;rw[f] at P;cases l with
         |tup J=>
           replace f:((fe J).bind λk=>(du ks vs k).map λx=>(x,D.dT (iQ ks vs k).1 (iQ ks vs k).2))=some (x,d'):=f;obtain⟨n,ek,f⟩:=Option.bind_eq_some_iff.mp f;obtain⟨y,ey,f⟩:=Option.map_eq_some_iff.mp f;cases f;rw[Dn] at m;obtain⟨b,xs,rfl,h4,W⟩:=m;have ex:=jB ek W;subst ex;subst h2;have j:Dns Y I vs (g.map (·.2)):=h3.mono i.b;have s:=mY (Y:=Y) (G:=I) n j;rw[ey] at s;obtain⟨w,ew,dw⟩:=s;obtain⟨O,K⟩:=xT (Y:=Y) (G:=I) (k:=n) j;refine⟨g,n,b,w,i.h _ _ z,rfl,h4,ew,?_⟩;refine P w I U1 As _ [] (cl I U1 L q i.b i.h a VP _ _ ?_) i.toEx NewM.nil dw;rw[<-O];exact Ow.dT' bv K
         |_=>cases f
   |_=>rw[e] at P; exact P.elim
end
section
variable{Y:Cm}{E:XK}{T:List Md}
theorem gH{ta:TE}{a:Env->Res D}(d:PJ Y (KR Y .F) E T ta a):PJ Y (KI Y .F .U) E T (xI Y.K ta) (fb a):=by
 intro B U As Z H M Q R P;refine vt d B U As Z H M Q R ?_;cases e:fb a M with
 |ok ds=>
   rw[e] at P;intro J I U1 L N b g n ⟨vs,f,hd⟩;exact P J I U1 L N b g n ⟨vs,λh s=>f h (b.bu.trans s),hd⟩
 |exc c=>rw[e] at P; exact P
 |bad=>rw[e] at P; exact P
end
theorem Vx{k:Nat}{A:Around}(r:Room k A):A.units+66<cLine:=by have:=r.un; omega
end Mi
namespace L2
open PySem PySem.Spec PyProof.Rows
section
variable{X:Cx}(K:L0)
theorem cT(h:X.K=K):Rh X (N5 K):=by subst h; exact LL
theorem iN(h:X.K=K):Rh X (N0 K):=by subst h; exact PR
theorem bp(h:X.K=K):dJ X (.builtin "len") (λxs H Q=>∃ p ys,xs=[.ref p]/\(SqL K H p ys\/SqT K H p ys)/\Q (.int ys.length) H):=by subst h; exact wv
theorem i6(h:X.K=K):dJ X (.type "list") (λxs H Q=>∃ p ys,xs=[.ref p]/\(SqL K H p ys\/SqT K H p ys)/\∀ l,H l=none->Q (.ref l) (upd H l (.lst ys))):=by subst h; exact wu
theorem fH(h:X.K=K):dJ X (.type "tuple") (λxs H Q=>∃ p ys,xs=[.ref p]/\((SqL K H p ys/\∀ l,H l=none->Q (.ref l) (upd H l (.tup ys)))\/(SqT K H p ys/\Q (.ref p) H))):=by subst h; exact tM
theorem Az(h:X.K=K)(a:X.calm=true):dJ X (.type "set") (λxs H Q=>∃ p ns,xs=[.ref p]/\SqL K H p (ns.map V.int)/\ns.length<4000/\∀ q,H q=none->Q (.ref q) (upd H q (.set (λk=>(dd ns).any (·==k)) (dd ns).length))):=by subst h; exact EB a
theorem AA(h:X.K=K)(b:X.calm=true):tz X (.builtin "min") ["default"] (λxs a H Q=>∃ p ns d,xs=[.ref p]/\a=[d]/\SqL K H p (ns.map V.int)/\(ns=[]->Q d H)/\∀ m∈ns,(∀ x∈ns,m<=x)->Q (.int m) H):=by subst h; exact EK b
theorem AB(h:X.K=K)(b:X.calm=true):tz X (.builtin "max") ["default"] (λxs a H Q=>∃ p ns d,xs=[.ref p]/\a=[d]/\SqL K H p (ns.map V.int)/\(ns=[]->Q d H)/\∀ m∈ns,(∀ x∈ns,x<=m)->Q (.int m) H):=by subst h; exact EL b
theorem Lh(h:X.K=K)(a:X.A.units+64<cLine):nK X (compareOp .Eq) (N6 K false):=by subst h; exact Ot a
theorem ve(h:X.K=K)(a:X.A.units+65<cLine):nK X (compareOp .In) (λx y H Q=>∃ d xs,Den K H d x/\Den K H (.list xs) y/\SeqAt.shaped d=true/\SeqAt.shaped (.list xs)=true/\(∀ z∈xs,SeqAt.noMix z d=true)/\Q (.bl (decide (countIn d xs≠0))) H):=by subst h; exact Os a
theorem qO(h:X.K=K)(a:X.A.units+65<cLine):nK X (compareOp .NotIn) (Mi.Gu K):=by subst h; exact Mi.DV a
theorem lB(h:X.K=K):dJ X (.builtin "isinstance") (λxs H Q=>∃ x c t b,xs=[x,.ty c]/\TyOf K H x t/\PySem.W.kitOne K t (.type c)=some b/\Q (.bl b) H):=by subst h; exact J8
theorem cP{e:Expr}{ta:TE}{f:Str}{a:Pos}(h:X.K=K)(b:PE X e ta)(c:attributeBase e f X.env (eval e X.env)=eval e X.env):PE X (.Attribute e f a) (DA K ta f):=by subst h; exact Og b c
theorem bB{b l:Expr}{a:TE}(h:X.K=K)(c:PE X l a):PI X b l (xI K a):=by subst h; exact Lb c
end
end L2
namespace Mi
open PySem L2
def spT(K:L0)(T:Tbs):Sp:=λvs H Q _=>∃ (a:Addr) (ns:List Int),vs=[.ref a]/\SqF K H a (ns.map V.int)/\ns.length<=63/\(∀ p∈T,∃ l,H p.1=some (.tbl l)/\p.2∈l)/\∀ H',Q (.bl true) H'
def jX:List D->Option (List Bool)
 |[]=>some []
 |.bl b::r=>(jX r).map (b::·)
 |_::_=>none
def wA:D->Res D
 |.lst ds=>(match jX ds with|some bs=> .ok (.bl (bs.any id))|none=> .bad)
 |_=> .bad
section
variable{Y:Cm}{E:XK}{T:List Md}{K:L0}
theorem pP{G:Hp}:∀ {ds:List D} {bs:List Bool} {xs:List V},jX ds=some bs->Dns Y G ds xs->xs=bs.map V.bl
 |[],ns,xs,e,h=>by rw[Dns] at h; cases e; rw[h]; rfl
 | d::ds,ns,xs,e,h=>by
   rw[Dns] at h;obtain⟨x,r,rfl,a,b⟩:=h;cases d with
   |bl i=>
     rw[jX] at e;obtain⟨T,c,rfl⟩:=Option.map_eq_some_iff.mp e;rw[Dn] at a;rw[pP c b,a,VQ]
   |_=>cases e
theorem RW:S1 Y (λv H Q=>∃ p,∃ bs:List Bool,[v]=[.ref p]/\SqL K H p (bs.map V.bl)/\Q (.bl (bs.any id)) H) wA:=by
 intro H x v c;cases x with
 |lst ds=>
   rw[Dn] at c;obtain⟨a,xs,rfl,f,d⟩:=c;cases e:jX ds with
   |none=>
     have b:wA (.lst ds)= .bad:=by simp only[wA,e]
     rw[b]; trivial
   |some bs=>
     have b:wA (.lst ds)= .ok (.bl (bs.any id)):=by simp only[wA,e]
     rw[b];have ex:=pP e d;subst ex;exact⟨.bl _,λ_=>by rw[Dn],λQ q=>⟨a,bs,rfl,SqL.of f,q⟩⟩
 |_=>trivial
end
section
variable{Y:Cm}{E:XK}{T:List Md}
theorem fF(i:Nat)(a:T.getD i .F= .F:=by rfl):PJ Y (KR Y .F) E T (iz i) (vr i):=xF a
theorem fR(i:Nat)(a:T.getD i .F= .R:=by rfl):PJ Y (KR Y .U) E T (iz i) (vr i):=xR a
theorem fO(i:Nat){a:Sh}(b:T.getD i .F= .O a:=by rfl):PJ Y (KR Y .X) E T (iz i) (vr i):=xO b
theorem fC(i:Nat)(a:T.getD i .F= .O (.ct .fz):=by rfl):PJ Y (KC Y .F) E T (iz i) (vr i):=xC a
end
end Mi
namespace L2
open PySem PySem.Spec PyProof.Rows
section
variable{X:Cx}(K:L0)
theorem EH(h:X.K=K)(a:X.calm=true):dJ X (.builtin "any") (λxs H Q=>∃ p,∃ bs:List Bool,xs=[.ref p]/\SqL K H p (bs.map V.bl)/\Q (.bl (bs.any id)) H):=by subst h; exact EI a
end
end L2
namespace Gd
open PySem L2
theorem QL:bootBuiltins "any" = some (.builtin "any"):=by decide +kernel
end Gd
namespace L2
open PySem
theorem TL{P:List Value->Prop}(h:P []):∀ us:List Value,us.length=0->P us:=by
 intro us a;rw[List.length_eq_zero_iff.mp a]; exact h
theorem gu{P:List Value->Prop}(h:∀ c:Value,P [c]):∀ us:List Value,us.length=1->P us:=by
 intro us b;cases us with
 |nil=>cases b
 |cons a us=>exact TL (P:=λus=>P (a::us)) (h a) us (XT b)
theorem iJ{P:List Value->Prop}(h:∀ d c:Value,P [d,c]):∀ us:List Value,us.length=2->P us:=by
 intro us b;cases us with
 |nil=>cases b
 |cons a us=>exact gu (P:=λus=>P (a::us)) (h a) us (XT b)
theorem lL{P:List Value->Prop}(h:∀ e d c:Value,P [e,d,c]):∀ us:List Value,us.length=3->P us:=by
 intro us b;cases us with
 |nil=>cases b
 |cons a us=>exact iJ (P:=λus=>P (a::us)) (h a) us (XT b)
theorem Ie{P:List Value->Prop}(h:∀ f e d c:Value,P [f,e,d,c]):∀ us:List Value,us.length=4->P us:=by
 intro us b;cases us with
 |nil=>cases b
 |cons a us=>exact lL (P:=λus=>P (a::us)) (h a) us (XT b)
theorem MW{P:List Value->Prop}(h:∀ g f e d c:Value,P [g,f,e,d,c]):∀ us:List Value,us.length=5->P us:=by
 intro us b;cases us with
 |nil=>cases b
 |cons a us=>exact Ie (P:=λus=>P (a::us)) (h a) us (XT b)
theorem Ic{P:List Value->Prop}(h:∀ i g f e d c:Value,P [i,g,f,e,d,c]):∀ us:List Value,us.length=6->P us:=by
 intro us b;cases us with
 |nil=>cases b
 |cons a us=>exact MW (P:=λus=>P (a::us)) (h a) us (XT b)
end L2
namespace L2
open PySem PySem.Spec PyProof.Rows
section
variable{P:Program}{w:World}{H H':Hp}{h h':Heap}{a:Addr}{o:HO}
theorem ObjOk.ex(x:ObjOk P w H h a o):∃ u,h.get? a=some u:=by
 cases o with
 |lst xs=>obtain⟨_,_,_,_,e⟩:=x; exact⟨_,e⟩
 |tup xs=>obtain⟨_,_,_,_,e,_⟩:=x; exact⟨_,e⟩
 |dK b=>obtain⟨_,_,_,_,o,_,_,e,_⟩:=x; exact⟨_,e⟩
 |dT b=>obtain⟨_,_,_,_,o,_,_,e,_⟩:=x; exact⟨_,e⟩
 |set S n=>obtain⟨o,_,_,_,e,_⟩:=x; exact⟨_,e⟩
 |ins C dx fs=>obtain⟨_,_,_,e,_⟩:=x; exact⟨_,e⟩
 |own y=>obtain⟨_,e⟩:=x; exact⟨_,e⟩
 |xd fs=>obtain⟨_,⟨_,_,_,e,_⟩,_⟩:=x; exact⟨_,e⟩
 |rng lo hi=>obtain⟨_,_,_,e⟩:=x; exact⟨_,e⟩
 |frz ob u=>obtain⟨e,_⟩:=x; exact⟨_,e⟩
 |tbl l=>obtain⟨_,_,e,_⟩:=x; exact⟨_,e⟩
 |met f y=>exact⟨_,show h.get? a=some _ from x⟩
 |ext c=>obtain⟨_,⟨_,e⟩,_⟩:=x; exact⟨_,e⟩
theorem HOk.none(x:HOk P w H h)(e:h.get? a=Option.none):H a=Option.none:=by
 cases q:H a with
 |none=>rfl
 |some u=>obtain⟨v,r⟩:=(x a u q).ex; rw[e] at r; cases r
end
def CX1(P:Program)(w:World):EX:=λouter H s E e a=>∃ (c C:Addr) (d:Value) (B:Heap) (H':Hp),e= .ref c/\a.os=s.os/\AllBare a.gens/\Un (z9 outer) (z9 outer) H H' s.heap B/\HOk P w H' B/\
 Heap.FlyingW B outer c (.ref C) d a.heap/\(∀ b∈z9 outer,∀ o,s.heap.get? b=some o->∃ sl,a.heap.get? b=some {o with slots:=sl})/\(∀ b∈z9 outer,H' b=none)/\E (.ref C) none H'
structure Own (X:Cx) (E:XK):Prop where
 xe:X.xe=λe s'=>wpAny (model X.prog X.w) X.A (leaving X.env e) (λ_ s''=>CX1 X.prog X.w X.outer X.H₀ X.s₀ E e s'') (λe' s''=>CX1 X.prog X.w X.outer X.H₀ X.s₀ E e' s'')  s'
 ex:X.ex=[]
 stk:X.stack=X.env::X.outer
 fr:X.env.frame=some X.env.locals
section
variable{X:Cx}{E:XK}{G:L1}{Z:St}{H:Hp}{s:Shared}
theorem Inv.above(I:Inv X G Z H s):X.s₀.heap.get? X.env.locals=none:=Heap.get?_none_of_le I.ok.above
theorem Own.own(O:Own X E):PassesOwn (model X.prog X.w) X.A X.env X.xe:=by
 rw[O.xe];exact PassesOwn.leaving
end
def S6(K:L0)(C:Addr):List Value:=match K.lookup C with
 |some ⟨_,_,.cls cd,_⟩=>cd.mro
 |_=>[]
abbrev vBm:List Value:=[.type "ValueError",.type "Exception",.type "BaseException",.type "object"]
def T2(K:L0)(C:Addr):Bool:=PySem.W.excIn K C vBm "ValueError.__new__"
abbrev Cx.hand(X:Cx)(a:Addr)(b:Obj):Cx:={X with A:=X.A.mark (some (.ref a)),calm:=false,pn:=(a,b)::X.pn,xe:=λ_ _=>False}
section
variable{X:Cx}{G:L1}{Z:St}{H:Hp}{s:Shared}{ea:Addr}{oe:Obj}
theorem Cx.Ok.hand(ok:X.Ok):(X.hand ea oe).Ok:=⟨ok.mod,ok.kind,ok.glob,ok.blt,ok.above,ok.inj,ok.has,ok.cab,λz=>(nomatch z),ok.frames,ok.stk,ok.exf,ok.bs,ok.bsz,ok.noex,ok.exfs,ok.funs,ok.frf⟩
theorem Inv.hand(I:Inv X G Z H s){vs:Array Value}(c:s.heap.get? ea=some oe)(e:H ea=none)(hd:oe.data= .fields vs):Inv (X.hand ea oe) G Z H s:=by
 refine⟨I.ok.hand,I.os,I.bare,I.base,I.loc,I.cell,I.free,I.freeC,λp hp=>?_,I.hok,I.len⟩;rcases List.mem_cons.mp (show p∈(ea,oe)::(X.pn++G) from hp) with rfl|hp
 · refine⟨c,e,λz=>?_,λz=>?_,λv z=>by rw[hd] at z; cases z⟩
   ·obtain⟨m,⟨o,es,ep,a,b,_⟩,_⟩:=I.loc;replace z:ea=X.env.locals:=z;rw[z,a] at c;cases c;rw[hd] at b;cases b
   ·obtain⟨_,o,a,d⟩:=I.funs.mem z;replace a:s.heap.get? ea=some o:=a;rw[c] at a;cases a;exact d _ hd
 ·exact I.pin p hp
theorem Inv.exc(I:Inv (X.hand ea oe) G Z H s):s.heap.get? ea=some oe:=(I.pin (ea,oe) VP).1
end
end L2
namespace PySem.W
open PySem PySem.Spec PySem.Calls PyProof.Rows
open Builtin Builtin.ObjectAttr Builtin.Getset_descriptor in
open Builtin Builtin.ObjectAttr Builtin.Getset_descriptor in
def M3(K:Frag)(D:Addr):Bool:=findIn K (.ref D) "__getattribute__" == some (some (.builtin "BaseException.__getattribute__"))&&(findIn K (.ref D) "__getattr__" == some none&&(findIn K (.ref D) "__class__" == some (some (.builtin "object.__class__")) &&
 (specialIn K (.builtin "object.__class__") "__get__" == some (some (.builtin "getset_descriptor.__get__"))&&(takesIn K (.builtin "object.__class__")==some true&&(mroIn K D (.type "object")==some true&&(mroIn K D (.type "BaseException")==some true&&(clsIn K D).isSome))))))
end PySem.W
namespace Mi
open PySem L2
section
variable{Y:Cm}{Kr:KT D V}{E:XK}{pr:Nat->Bool}{T:List Md}{K:L0}
theorem Rel.slot{B U H:Hp}{As:Nat->List Addr}{Z:St}{M:Env}{j:Nat}{x:Option V}(R:Rel Y T B U As Z H M)(h:rg M j=none):Rel Y T B U As (Z.set j x) H M:=by
 refine⟨R.bu,R.uh,R.nd,R.dj,R.un,λi=>?_,by rw[WT]; exact R.len,R.tb⟩;have l:=R.lo i;by_cases z:i=j
 ·subst z;rw[h] at l ⊢;exact l
 · have:rg (Z.set j x) i=rg Z i:=by unfold rg; rw[List.getElem?_set_ne (Ne.symm z)]
   rw[this];exact l
theorem Kp.slot{Z a:St}{j:Nat}{x:Option V}(k:Kp pr Z a)(hp:pr j=false):Kp pr Z (a.set j x):=λi hi=>by
 have:i≠j:=λz=>by rw[z,hp] at hi; cases hi
 have e:rg (a.set j x) i=rg a i:=by unfold rg; rw[List.getElem?_set_ne (Ne.symm this)]
 rw[e];exact k i hi
end
abbrev DI(X:Type):=List (List Int×X)
section
variable{X:Type}
def bL(f:X->D)(F:DI X):D:= .dT (F.map λp=>p.1.map Sum.inl) (F.map λp=>f p.2)
def DI.get(F:DI X)(k:List Int):Option X:=(F.find? λp=>decide (p.1=k)).map (·.2)
def DI.put(F:DI X)(k:List Int)(v:X):DI X:=if (F.get k).isSome=true then F.map λp=>if p.1=k then (p.1,v) else p else F++[(k,v)]
def DI.del(F:DI X)(k:List Int):DI X:=F.filter λp=>decide (p.1≠k)
theorem iO{j k:List Int}:j.map (Sum.inl:Int->b6)=k.map Sum.inl↔j=k:=by
 constructor
 · intro h
   induction j generalizing k with
   |nil=>cases k with|nil=>rfl|cons _ _=>cases h
   |cons x j b=>
     cases k with
     |nil=>cases h
     |cons y k=>
       rw[VQ,VQ] at h;injection h with a c
       injection a with a
       rw[a,b c]
 ·intro h; rw[h]
theorem iL:∀ k:List Int,fe (k.map D.int)=some (k.map Sum.inl)
 |[]=>rfl
 |x::k=>by rw[VQ,fe,iL k]; rfl
theorem re{f:X->D}{k:List Int}:∀ F:DI X,du (F.map λp=>p.1.map (Sum.inl:Int->b6)) (F.map λp=>f p.2) (k.map Sum.inl)=(DI.get F k).map f
 |[]=>rfl
 | p::F=>by
   rw[List.map_cons,List.map_cons,du,re F];unfold DI.get;rw[List.find?_cons];by_cases h:p.1=k
   ·rw[on (iO.mpr h),Wm h]; rfl
   ·rw[VM (λz=>h (iO.mp z)),We h]
theorem oA{f:X->D}{F:DI X}{k:List Int}:nc (bL f F) (.tup (k.map D.int))=some ((F.get k).map f):=by
 show(fe (k.map D.int)).map (λk=>du (F.map λp=>p.1.map (Sum.inl:Int->b6)) (F.map λp=>f p.2) k)=_;rw[iL,Xl,re]
theorem B6{k:List Int}:∀ F:DI X,fD (F.map λp=>p.1.map (Sum.inl:Int->b6)) (k.map Sum.inl)=(DI.get F k).isSome
 |[]=>rfl
 | p::F=>by
   have a:=B6 (k:=k) F;unfold fD DI.get at *;rw[List.map_cons,List.any_cons,List.find?_cons,a];by_cases h:p.1=k
   ·rw[Wm (iO.mpr h),Wm h]; rfl
   ·rw[We (λz=>h (iO.mp z)),We h]; rfl
theorem wU{f:X->D}{k:List Int}{v:X}:∀ F:DI X,nY (F.map λp=>p.1.map (Sum.inl:Int->b6)) (F.map λp=>f p.2) (k.map Sum.inl) (f v)=(F.map λp=>if p.1=k then (p.1,v) else p).map λp=>f p.2
 |[]=>rfl
 | p::F=>by
   rw[VQ,VQ,nY,wU F,VQ,VQ];by_cases h:p.1=k
   ·rw[on (iO.mpr h),on h]
   ·rw[VM (λz=>h (iO.mp z)),VM h]
theorem I8{f:X->D}{F:DI X}{k:List Int}{v:X}(h:F.length<ak):xW (bL f F) (.tup (k.map D.int)) (f v)=some (bL f (F.put k v)):=by
 show((fe (k.map D.int)).bind λk=>if (F.map λp=>p.1.map (Sum.inl:Int->b6)).length<ak then some (if fD (F.map λp=>p.1.map (Sum.inl:Int->b6)) k=true then D.dT (F.map λp=>p.1.map (Sum.inl:Int->b6)) (nY (F.map λp=>p.1.map (Sum.inl:Int->b6)) (F.map λp=>f p.2) k (f v)) else D.dT ((F.map λp=>p.1.map (Sum.inl:Int->b6))++[k]) ((F.map λp=>f p.2)++[f v])) else none)=some (D.dT ((F.put k v).map λp=>p.1.map Sum.inl) ((F.put k v).map λp=>f p.2));rw[iL,Option.bind_some,if_pos (by rw[List.length_map]; exact h),B6];unfold DI.put;by_cases q:(DI.get F k).isSome=true
 ·rw[on q,on q,wU,Wk,Wk];refine congrArg (λz=>some (D.dT z _)) ?_;refine W1 λp _=>?_;show _=((if p.1=k then (p.1,v) else p).1).map Sum.inl;split<;>rfl
 ·rw[VM q,VM q,Wq,Wq];rfl
theorem xS{f:X->D}{k:List Int}:∀ F:DI X,iQ (F.map λp=>p.1.map (Sum.inl:Int->b6)) (F.map λp=>f p.2) (k.map Sum.inl)=((F.del k).map (λp=>p.1.map Sum.inl),(F.del k).map λp=>f p.2)
 |[]=>rfl
 | p::F=>by
   rw[List.map_cons,List.map_cons,iQ,xS F];unfold DI.del;rw[List.filter_cons];by_cases h:p.1=k
   ·rw[on (iO.mpr h),VM (by simpa using h)]
   ·rw[VM (λz=>h (iO.mp z)),on (by simpa using h)];rfl
theorem I9{f:X->D}{F:DI X}{k:List Int}{v:X}(h:F.get k=some v):Cc (bL f F) (.tup (k.map D.int))=some (f v,bL f (F.del k)):=by
 show((fe (k.map D.int)).bind λk=>(du (F.map λp=>p.1.map (Sum.inl:Int->b6)) (F.map λp=>f p.2) k).map λx=>(x,D.dT (iQ (F.map λp=>p.1.map (Sum.inl:Int->b6)) (F.map λp=>f p.2) k).1 (iQ (F.map λp=>p.1.map (Sum.inl:Int->b6)) (F.map λp=>f p.2) k).2))=some (f v,D.dT ((F.del k).map λp=>p.1.map Sum.inl) ((F.del k).map λp=>f p.2));rw[iL,Option.bind_some,re,h,Xl,Xl,xS]
theorem gI{F:DI X}{k j:List Int}{v:X}:(F.put k v).get j=if j=k then some v else F.get j:=by
 unfold DI.put;by_cases q:(DI.get F k).isSome=true
 · rw[on q]
   have e:∀ G:DI X,DI.get (G.map λp=>if p.1=k then (p.1,v) else p) j=if j=k then (DI.get G k).map λ_=>v else DI.get G j:=by
    intro G
    induction G with
    |nil=>unfold DI.get; split<;>rfl
    |cons p G f=>
      unfold DI.get at f ⊢;rw[List.map_cons,List.find?_cons,List.find?_cons,List.find?_cons];by_cases b:p.1=k
      · rw[on b];by_cases a:j=k
        ·subst a;simp only[b,decide_true,on,Xl]
        ·have c:¬ p.1=j:=λz=>a (z.symm.trans b);simp only[c,YG];rw[f,VM a,VM a]
      · rw[VM b];by_cases c:p.1=j
        ·have a:¬ j=k:=λz=>b (c.trans z);simp only[c,decide_true,VM a]
        ·simp only[c,b,YG];exact f
   rw[e];by_cases h:j=k
   ·rw[on h,on h];obtain⟨x,i⟩:=Option.isSome_iff_exists.mp q;rw[i]; rfl
   ·rw[VM h,VM h]
 · rw[VM q]
   have d:DI.get F k=none:=by
    cases z:DI.get F k with
    |none=>rfl
    |some x=>rw[z] at q; exact absurd rfl q
   unfold DI.get at d ⊢;rw[List.find?_append];by_cases h:j=k
   · subst h
     have g:F.find? (λp=>decide (p.1=j))=none:=by
      cases z:F.find? (λp=>decide (p.1=j)) with
      |none=>rfl
      |some x=>rw[z] at d; cases d
     rw[g,on rfl];simp
   · rw[VM h]
     have:¬ k=j:=λz=>h z.symm
     simp[this]
theorem vv{F:DI X}{k j:List Int}:(F.del k).get j=if j=k then none else F.get j:=by
 unfold DI.del DI.get
 induction F with
 |nil=>split<;>rfl
 |cons p F c=>
   rw[WG];by_cases b:p.1=k
   · rw[VM (by simpa using b),c,WS];by_cases h:j=k
     ·rw[on h,on h]
     ·have a:¬ p.1=j:=λz=>h (z.symm.trans b);rw[VM h,VM h];simp only[a,YG]
   · rw[on (by simpa using b),WS,WS];by_cases a:p.1=j
     ·have d:¬ j=k:=λz=>b (a.trans z);simp only[a,decide_true,VM d]
     ·simp only[a,YG];exact c
end
open PySem.Spec (countIn same sameAll)
theorem nL{W:Type}{f:W->D}{g:W->PyData}(h:∀ a,toPy (f a)=some (g a)):∀ l:List W,toPys (l.map f)=some (l.map g)
 |[]=>rfl
 |a::l=>by rw[VQ,toPys,h a,nL h l]; rfl
theorem nM{W:Type}{f:W->D}{g:W->PyData}(h:∀ a,toPy (f a)=some (g a))(l:List W):toPy (.lst (l.map f))=some (.list (l.map g)):=by
 rw[toPy,nL h]; rfl
theorem zc{W:Type}{g:W->PyData}(h:∀ a,(g a).canLay0=true)(f:∀ a,(g a).depth<=60)(l:List W):SeqAt.shaped (.list (l.map g))=true:=by
 have c:∀ l:List W,PyData.canLayAll0 (l.map g)=true:=by
  intro l
  induction l with
  |nil=>simp[PyData.canLayAll0]
  |cons a l b=>simp[PyData.canLayAll0,h a,b]
 have d:∀ l:List W,PyData.depthAll (l.map g)<=60:=by
  intro l
  induction l with
  |nil=>simp[PyData.depthAll]
  |cons a l b=>
    rw[VQ,PyData.depthAll]
    have:=f a
    omega
 have e:PyData.depth (.list (l.map g))<=64:=by rw[PyData.depth]; have:=d l; omega
 unfold SeqAt.shaped;rw[Bool.and_eq_true];exact⟨by rw[PyData.canLay0]; exact c l,decide_eq_true e⟩
theorem pK{W:Type}[DecidableEq W]{g:W->PyData}(h:∀ a b,same (g a) (g b)=decide (a=b))(a:W):∀ l:List W,(0<=countIn (g a) (l.map g))/\(countIn (g a) (l.map g)≠0↔a∈l)
 |[]=>by simp[countIn]
 | b::l=>by
   obtain⟨d,c⟩:=pK h a l;rw[VQ,countIn,h b a,W3];by_cases e:b=a
   ·rw[on (by simpa using e)];exact⟨by omega,λ_=> .inl e.symm,λ_=>by omega⟩
   · rw[VM (by simpa using e)];refine⟨by omega,λz=> .inr (c.mp (by omega)),λz=>?_⟩;rcases z with z|z
     ·exact absurd z.symm e
     ·have:=c.mpr z; omega
section
variable{W:Type}[DecidableEq W]{f:W->D}{g:W->PyData}
theorem B5(h0:∀ a,toPy (f a)=some (g a))(i:∀ a,(g a).canLay0=true)(h:∀ a,(g a).depth<=60)(k:∀ a b,same (g a) (g b)=decide (a=b))(j:∀ a b,SeqAt.noMix (g a) (g b)=true)(a:W)(l:List W):
 LP (f a) (.lst (l.map f))= .ok (.bl (decide (a∈l)))/\xn (f a) (.lst (l.map f))= .ok (.bl (!decide (a∈l))):=by
 have e:SeqAt.shaped (g a)=true:=by
  unfold SeqAt.shaped;rw[i a,Bool.true_and];exact decide_eq_true (by have:=h a; omega)
 have s2:=zc i h l
 have d:((l.map g).all λz=>SeqAt.noMix z (g a))=true:=by
  rw[Zc,Yv];exact λb _=>j b a
 have c:decide (countIn (g a) (l.map g)≠0)=decide (a∈l):=by
  have:=(pK k a l).2
  by_cases z:a∈l
  ·rw[Wm z,Wm (this.mpr z)]
  ·rw[We z,We (λw=>z (this.mp w))]
 constructor
 ·unfold LP;rw[h0 a,nM h0 l];show(if _ then _ else _)=_;rw[if_pos ⟨e,s2,d⟩,c]
 ·unfold xn;rw[h0 a,nM h0 l];show(if _ then _ else _)=_;rw[if_pos ⟨e,s2,d⟩,c]
end
end Mi
namespace Cl
open PySem L2 Mi
inductive OutC (Z W:Type) where
 |ok (a:W) (s:Z)|exc (c:Nat) (s:Z)|bad
inductive FlC (Z X:Type) where
 |nx (s:Z)|rt (b:X) (s:Z)|bk (s:Z)|ct (s:Z)|exc (c:Nat) (s:Z)|bad
def SimR{W O:Type}(e:W->O)(r:Res O)(q:Res W):Prop:=match q with
 |.ok a=>r= .ok (e a)
 |.exc x=>r= .exc x
 |.bad=>True
section
variable{Z W X O J:Type}{Y:Z->Mi.Env}
def SimO(Y:Z->Mi.Env)(e:W->O)(r:Out O)(q:OutC Z W):Prop:=match q with
 |.ok a s=>r= .ok (e a) (Y s)
 |.exc x s=>r= .exc x (Y s)
 |.bad=>True
def SimS(Y:Z->Mi.Env)(e:X->D)(r:SO)(q:FlC Z X):Prop:=match q with
 |.nx s=>r= .nx (Y s)
 |.rt b s=>r= .rt (e b) (Y s)
 |.bk s=>r= .bk (Y s)
 |.ct s=>r= .ct (Y s)
 |.exc x s=>r= .exc x (Y s)
 |.bad=>True
def EJ(Y:Z->Mi.Env)(e:W->O)(m:Mi.Env->Res O)(c:Z->Res W):Prop:=∀ s,SimR e (m (Y s)) (c s)
def NJ(Y:Z->Mi.Env)(e:W->O)(m:Mi.Env->Out O)(c:Z->OutC Z W):Prop:=∀ s,SimO Y e (m (Y s)) (c s)
def TJ(Y:Z->Mi.Env)(e:X->D)(m:Mi.Env->SO)(c:Z->FlC Z X):Prop:=∀ s,SimS Y e (m (Y s)) (c s)
theorem SimR.bnd{e:W->O}{b:X->J}{r:Res O}{q:Res W}{k:O->Res J}{l:W->Res X}(h:SimR e r q)(c:∀ a,SimR b (k (e a)) (l a)):SimR b (r.bind k) (q.bind l):=by
 cases q with
 |ok a=>have h:r= .ok (e a):=h; rw[h]; exact c a
 |exc x=>have h:r= .exc x:=h; rw[h]; exact rfl
 |bad=>trivial
theorem SimR.calm{e:W->O}{r:Res O}{q:Res W}(h:SimR e r q):SimR e r.calm q.calm:=by
 cases q with
 |ok a=>have h:r= .ok (e a):=h; rw[h]; exact rfl
 |exc x=>trivial
 |bad=>trivial
@[simp] def vC(g:Z->Option W):Z->Res W:=λs=>match g s with|some a=> .ok a|none=> .bad
@[simp] def pC(g:Z->W):Z->Res W:=λs=> .ok (g s)
@[simp] def kC(a:W):Z->Res W:=λ_=> .ok a
@[simp] def aZ(f:W->Res X)(c:Z->Res W):Z->Res X:=λs=>(c s).bind f
@[simp] def aC(f:W->X->Res O)(a:Z->Res W)(b:Z->Res X):Z->Res O:=λs=>(a s).bind λx=>(b s).bind λy=>f x y
theorem P7{e:W->D}{i:Nat}{g:Z->Option W}(h:∀ s,rg (Y s) i=(g s).map e):EJ Y e (vr i) (vC g):=λs=>by
 unfold vC vr;rw[h s];cases g s with
 |none=>trivial
 |some a=>exact rfl
theorem Qa{e:W->D}{i:Nat}{g:Z->W}(h:∀ s,rg (Y s) i=some (e (g s))):EJ Y e (vr i) (pC g):=λs=>by
 unfold vr pC;rw[h s];exact rfl
theorem vF{e:W->D}{d:D}{a:W}(h:e a=d):EJ Y e (aI d) (kC a):=λs=>by subst h; exact rfl
theorem bj{e:W->D}{b:X->D}{F:D->Res D}{f:W->Res X}{m:Mi.Env->Res D}{c:Z->Res W}(h:∀ a,SimR b (F (e a)) (f a))(d:EJ Y e m c):EJ Y b (un F m) (aZ f c):=λs=>(d s).bnd h
theorem ag{e:W->D}{g:X->D}{d:O->D}{F:D->D->Res D}{f:W->X->Res O}{m n:Mi.Env->Res D}{c:Z->Res W}{i:Z->Res X}(h:∀ a b,SimR d (F (e a) (g b)) (f a b))(k:EJ Y e m c)(j:EJ Y g n i):EJ Y d (bn F m n) (aC f c i):=λs=>(k s).bnd λa=>(j s).bnd λb=>h a b
theorem bO{e:W->D}{d:X->D}{m:Mi.Env->Res D}{c:Z->Res W}{f:W->Res X}(h:∀ a,SimR d (.ok (e a)) (f a))(b:EJ Y e m c):EJ Y d m (aZ f c):=λs=>by
 have b:=b s;unfold aZ;cases q:c s with
 |ok a=>rw[q] at b; have b:m (Y s)= .ok (e a):=b; rw[b]; exact h a
 |exc x=>rw[q] at b; exact b
 |bad=>trivial
def eN:Unit->D:=λ_=> .non
def eL(e:W->D):List W->D:=λxs=> .lst (xs.map e)
def eS:List Int->D:=λxs=> .scr (xs.map D.int)
def lF(e:W->D):List W->D:=λxs=> .tup (xs.map e)
def j8(e:W->D)(a:X->D):W×X->D:=λp=> .tup [e p.1,a p.2]
def eT3(e:W->D)(b:X->D)(a:O->D):W×X×O->D:=λp=> .tup [e p.1,b p.2.1,a p.2.2]
def eO(e:W->D):Option W->D:=λo=>match o with|none=> .non|some a=>e a
abbrev eK:Int×Int×List Int->D:=eT3 D.int D.int (eL D.int)
@[simp] def Lg(o:Option W):Res W:=match o with|some a=> .ok a|none=> .bad
@[simp] def tY(a:W):Res (Option W):= .ok (some a)
@[simp] def E1(a:W):Res W:= .ok a
theorem wy{e:W->D}(o:Option W):SimR e (.ok (eO e o)) (Lg o):=by cases o<;>trivial
theorem wz{e:W->D}(a:W):SimR (eO e) (.ok (e a)) (tY a):=rfl
theorem M4{e:W->D}{F:(Mi.Env->Res D)->Mi.Env->Res D}{m:Mi.Env->Res D}{c:Z->Res W}(hF:∀ M a,m M= .ok (e a)->F m M= .ok (e a))(b:∀ M x,m M= .exc x->F m M= .exc x)(h:EJ Y e m c):EJ Y e (F m) c:=λs=>by
 have h:=h s;cases q:c s with
 |ok a=>rw[q] at h; exact hF _ _ h
 |exc x=>rw[q] at h; exact b _ _ h
 |bad=>trivial
theorem dF{e:W->D}{m:Mi.Env->Res D}{c:Z->Res W}(b:∀ a,cr (e a)=true)(h:EJ Y e m c):EJ Y e (p8 m) c:=
 M4 (F:=p8) (λM a q=>by unfold p8; rw[q]; show(if _ then _ else _)=_; rw[if_pos (b a)]) (λM x q=>by unfold p8; rw[q]; rfl) h
theorem IX{e:W->D}{m:Mi.Env->Res D}{c:Z->Res W}(b:∀ a,wJ (e a)=true)(h:EJ Y e m c):EJ Y e (Ad m) c:=
 M4 (F:=Ad) (λM a q=>by unfold Ad; rw[q]; show(if _ then _ else _)=_; rw[if_pos (b a)]) (λM x q=>by unfold Ad; rw[q]; rfl) h
theorem yM{e:W->D}(h:∀ a,cr (e a)=true)(xs:List W):(xs.map e).all cr=true:=by
 rw[Zc,Yv];exact λa _=>h a
theorem Nt{e:W->D}(h:∀ a,cr (e a)=true)(xs:List W):wJ (eL e xs)=true:=yM h xs
theorem K2{e:W->D}(h:∀ a,cr (e a)=true)(xs:List W):wJ (lF e xs)=true:=yM h xs
@[simp] def iA(a b:Int):Res Int:= .ok (a+b)
@[simp] def lR(a b:Int):Res Int:= .ok (a-b)
@[simp] def og(a b:Int):Res Int:=if (-(2 ^ 64)<a/\a<2 ^ 64)\/(-(2 ^ 64)<b/\b<2 ^ 64) then .ok (a*b) else .bad
@[simp] def iP(a b:Int):Res Int:=if 0<b/\b<1073741824 then .ok (a / b) else .bad
@[simp] def c9(a b:Int):Res Int:=if 0<b then .ok (a%b) else .bad
@[simp] def GA(a b:Int):Res Int:=if 0<=b/\b<=1000000/\a.natAbs<2 ^ 64 then .ok (a ^ b.toNat) else .bad
@[simp] def Rx(a b:Int):Res Int:=if 0<=b then .ok (a / 2 ^ b.toNat) else .bad
@[simp] def D3(a b:Int):Res Int:= .ok (if b<a then b else a)
@[simp] def tI(a b:Int):Res Int:= .ok (if b>a then b else a)
@[simp] def LB(a b:Int):Res Bool:= .ok (decide (a<b))
@[simp] def IM(a b:Int):Res Bool:= .ok (decide (b<a))
@[simp] def geC(a b:Int):Res Bool:= .ok (decide (b<=a))
@[simp] def Hi(a:Int):Res Int:= .ok (-a)
@[simp] def n9(a:Bool):Res Bool:= .ok (!a)
@[simp] def i3[DecidableEq W](c:Bool)(a b:W):Res Bool:= .ok (c.xor (decide (a=b)))
theorem gt(a b:Int):SimR D.int (jY (.int a) (.int b)) (iA a b):=rfl
theorem kH(a b:Int):SimR D.int (mM (.int a) (.int b)) (lR a b):=rfl
theorem SimR.ite{e:W->O}{p:Prop}[Decidable p]{r a:Res O}{q b:Res W}(h:SimR e r q)(h':SimR e a b):SimR e (if p then r else a) (if p then q else b):=by
 by_cases z:p
 ·rw[on z,on z]; exact h
 ·rw[VM z,VM z]; exact h'
theorem qV(a b:Int):SimR D.int (qZ (.int a) (.int b)) (og a b):=by rw[Hk]; exact SimR.ite rfl trivial
theorem hV(a b:Int):SimR D.int (il (.int a) (.int b)) (iP a b):=by rw[Ej]; exact SimR.ite rfl trivial
theorem cg(a b:Int):SimR D.int (dy (.int a) (.int b)) (c9 a b):=by rw[Hm]; exact SimR.ite rfl trivial
theorem MQ(a b:Int):SimR D.int (DR (.int a) (.int b)) (GA a b):=by rw[Gz]; exact SimR.ite rfl trivial
theorem Sr(a b:Int):SimR D.int (Ft (.int a) (.int b)) (Rx a b):=by rw[Fs]; exact SimR.ite rfl trivial
theorem BL(a b:Int):SimR D.int (zB (.int a) (.int b)) (D3 a b):=rfl
theorem qW(a b:Int):SimR D.int (tH (.int a) (.int b)) (tI a b):=rfl
theorem zx(a b:Int):SimR D.bl (EY (.int a) (.int b)) (LB a b):=rfl
theorem DX(a b:Int):SimR D.bl (IL (.int a) (.int b)) (IM a b):=rfl
theorem Vt(a b:Int):SimR D.bl (Vb (.int a) (.int b)) (geC a b):=rfl
theorem MR(a:Int):SimR D.int (Lr (.int a)) (Hi a):=rfl
theorem Ss(a:Bool):SimR D.bl (OO (.bl a)) (n9 a):=rfl
theorem dt(c:Bool)(a b:Int):SimR D.bl (jr c (.int a) (.int b)) (i3 c a b):=rfl
theorem mV(c:Bool)(a b:Str):SimR D.bl (jr c (.str a) (.str b)) (i3 c a b):=rfl
@[simp] def PX(b:Bool)(f:W->Bool)(a:W):Res Bool:= .ok (b.xor (f a))
theorem IW{e:W->D}{m:Mi.Env->Res D}{c:Z->Res W}{b:Bool}{f:W->Bool}(h:∀ a,rq (e a)=f a)(d:EJ Y e m c):EJ Y D.bl (bn (Ee b) m (aI .non)) (aZ (PX b f) c):=λs=>(d s).bnd λa=>by
 show Ee b (e a) .non= .ok (.bl (b.xor (f a)));rw[<-h a];rfl
@[simp] def OP(o:Option W):Bool:=o.isNone
theorem MY{e:W->D}(h:∀ a,rq (e a)=false)(o:Option W):rq (eO e o)=OP o:=by
 cases o with
 |none=>rfl
 |some a=>exact h a
theorem aw{m:Mi.Env->Res D}{c:Z->Res Bool}(h:EJ Y D.bl m c):EJ Y (id:Bool->Bool) (db m) c:=λs=>by
 have h:=h s;cases q:c s with
 |ok a=>rw[q] at h; have h:m (Y s)= .ok (.bl a):=h; show db m (Y s)= .ok a; unfold db; rw[h]; rfl
 |exc x=>rw[q] at h; have h:m (Y s)= .exc x:=h; show db m (Y s)= .exc x; unfold db; rw[h]; rfl
 |bad=>trivial
@[simp] def oT(a b:Z->Res Bool):Z->Res Bool:=λs=>(a s).bind λc=>if c=true then b s else .ok false
@[simp] def GS(a b:Z->Res Bool):Z->Res Bool:=λs=>(a s).bind λc=>if c=true then .ok true else b s
@[simp] def LO(c:Z->Res Bool)(a b:Z->Res W):Z->Res W:=λs=>(c s).bind λt=>if t=true then a s else b s
theorem gK{a b:Mi.Env->Res Bool}{c d:Z->Res Bool}(f:EJ Y (id:Bool->Bool) a c)(e:EJ Y (id:Bool->Bool) b d):EJ Y (id:Bool->Bool) (tp a b) (oT c d):=λs=>(f s).bnd λt=>SimR.ite (e s) rfl
theorem i5{a b:Mi.Env->Res Bool}{c d:Z->Res Bool}(f:EJ Y (id:Bool->Bool) a c)(e:EJ Y (id:Bool->Bool) b d):EJ Y (id:Bool->Bool) (zv a b) (GS c d):=λs=>(f s).bnd λt=>SimR.ite rfl (e s)
theorem f8{a:Mi.Env->Res Bool}{c:Z->Res Bool}(b:EJ Y (id:Bool->Bool) a c):EJ Y (id:Bool->Bool) (pX a) (aZ n9 c):=λs=>(b s).bnd λt=>rfl
theorem Qc{a b:Mi.Env->Res D}{c d:Z->Res Bool}(g:EJ Y D.bl a c)(f:EJ Y D.bl b d):EJ Y D.bl (Mb a b) (oT c d):=λs=>by
 have:=aw g s
 exact SimR.bnd (e:=(id:Bool->Bool)) this λt=>SimR.ite (f s) rfl
theorem Qb{e:W->D}{t:Mi.Env->Res Bool}{a b:Mi.Env->Res D}{ct:Z->Res Bool}{c d:Z->Res W}(f:EJ Y (id:Bool->Bool) t ct)(h:EJ Y e a c)(g:EJ Y e b d):EJ Y e (PV t a b) (LO ct c d):=λs=>(f s).bnd λt=>SimR.ite (h s) (g s)
structure Dat (e:W->D) [DecidableEq W] where
 py:W->PyData
 dep:Nat
 h0:∀ a,toPy (e a)=some (py a)
 lay:∀ a,(py a).canLay0=true
 depth:∀ a,(py a).depth<=dep
 eqv:∀ a b,PyData.eqv (py a) (py b)=decide (a=b)
 nomix:∀ a b,SeqAt.noMix (py a) (py b)=true
theorem Dat.same{e:W->D}[DecidableEq W](A:Dat e)(a b:W):PySem.Spec.same (A.py a) (A.py b)=decide (a=b):=by rw[<-A.eqv,SeqAt.same_eq_eqv _ _ (A.nomix a b)]
theorem Dat.shp{e:W->D}[DecidableEq W](A:Dat e)(hd:A.dep<=64)(a:W):SeqAt.shaped (A.py a)=true:=by
 unfold SeqAt.shaped;rw[A.lay a,Bool.true_and];exact decide_eq_true (Nat.le_trans (A.depth a) hd)
theorem Sv{e:W->D}[DecidableEq W](A:Dat e)(hd:A.dep<=64)(c:Bool)(a b:W):SimR D.bl (Re c (e a) (e b)) (i3 c a b):=by
 show Re c (e a) (e b)= .ok (.bl (c.xor (decide (a=b))));unfold Re;rw[A.h0,A.h0];show(if _ then _ else _)=_;rw[if_pos ⟨A.shp hd a,A.shp hd b⟩,A.eqv]
@[simp] def LQ[DecidableEq W](b:Bool)(a:W)(l:List W):Res Bool:= .ok (b.xor (decide (a∈l)))
theorem Ha{e:W->D}[DecidableEq W](A:Dat e)(hd:A.dep<=60)(a:W)(l:List W):SimR D.bl (LP (e a) (eL e l)) (LQ false a l):=by
 have:=(B5 A.h0 A.lay (λa=>V4 (A.depth a) hd) A.same A.nomix a l).1
 show LP (e a) (.lst (l.map e))= .ok (.bl (false.xor (decide (a∈l))));rw[this,Bool.false_xor]
theorem G8{e:W->D}[DecidableEq W](A:Dat e)(hd:A.dep<=60)(a:W)(l:List W):SimR D.bl (xn (e a) (eL e l)) (LQ true a l):=by
 have:=(B5 A.h0 A.lay (λa=>V4 (A.depth a) hd) A.same A.nomix a l).2
 show xn (e a) (.lst (l.map e))= .ok (.bl (true.xor (decide (a∈l))));rw[this,Bool.true_xor]
def jj:Dat D.int:=⟨PyData.int,1,λ_=>rfl,λa=>by simp[PyData.canLay0],λa=>by simp[PyData.depth],λa b=>by simp only[PyData.eqv]; exact Bool.beq_eq_decide_eq _ _,λa b=>by simp[SeqAt.noMix]⟩
theorem rK{g:W->PyData}[DecidableEq W](h:∀ a b,PyData.eqv (g a) (g b)=decide (a=b)):∀ t u:List W,PyData.eqvAll (t.map g) (u.map g)=decide (t=u)
 |[],[]=>by simp[PyData.eqvAll]
 |[],_::_=>by simp[PyData.eqvAll]
 |_::_,[]=>by simp[PyData.eqvAll]
 | r::t,q::u=>by
   rw[VQ,VQ,PyData.eqvAll,h,rK h t u];by_cases d:r=q<;>by_cases c:t=u<;>simp[d,c]
end
section
variable{Z W X O J:Type}{Y:Z->Mi.Env}
theorem mW{g:W->PyData}(h:∀ a b,SeqAt.noMix (g a) (g b)=true):∀ t u:List W,SeqAt.noMixAll (t.map g) (u.map g)=true
 |[],[]=>by simp[SeqAt.noMixAll]
 |[],_::_=>by simp[SeqAt.noMixAll]
 |_::_,[]=>by simp[SeqAt.noMixAll]
 |r::t,q::u=>by rw[VQ,VQ,SeqAt.noMixAll,h,mW h t u]; rfl
theorem rl{g:W->PyData}(h:∀ a,(g a).canLay0=true):∀ l:List W,PyData.canLayAll0 (l.map g)=true
 |[]=>by simp[PyData.canLayAll0]
 |a::l=>by simp[PyData.canLayAll0,h a,rl h l]
theorem nn{g:W->PyData}{n:Nat}(h:∀ a,(g a).depth<=n):∀ l:List W,PyData.depthAll (l.map g)<=n
 |[]=>by simp[PyData.depthAll]
 |a::l=>by rw[VQ,PyData.depthAll]; have:=h a; have:=nn h l; omega
def M7{e:W->D}[DecidableEq W](A:Dat e):Dat (eL e):=⟨λl=> .list (l.map A.py),A.dep+1,λl=>nM A.h0 l,λl=>by rw[PyData.canLay0]; exact rl A.lay l,λl=>by rw[PyData.depth]; have:=nn A.depth l; omega,λa b=>by rw[PyData.eqv]; exact rK A.eqv a b,λa b=>by rw[SeqAt.noMix]; exact mW A.nomix a b⟩
def oK{e:W->D}{c:X->D}[DecidableEq W][DecidableEq X](A:Dat e)(B:Dat c):Dat (j8 e c):=⟨λp=> .tuple [A.py p.1,B.py p.2],A.dep+B.dep+1,λp=>by
 show(toPys [e p.1,c p.2]).map PyData.tuple=_;rw[toPys,toPys,toPys,A.h0,B.h0]; rfl,λp=>by rw[PyData.canLay0]; simp[PyData.canLayAll0,A.lay,B.lay],λp=>by
 rw[PyData.depth]; simp only[PyData.depthAll]; have:=A.depth p.1; have:=B.depth p.2; omega,λa b=>by
 rw[PyData.eqv]; simp only[PyData.eqvAll,A.eqv,B.eqv];obtain⟨j,i⟩:=a; obtain⟨h,g⟩:=b
 by_cases f:j=h<;>by_cases d:i=g<;>simp[f,d],λa b=>by rw[SeqAt.noMix]; simp[SeqAt.noMixAll,A.nomix,B.nomix]⟩
theorem ni{d:PyData}(h:d≠ .none):PyData.eqv .none d=false/\PyData.eqv d .none=false/\SeqAt.noMix .none d=true/\SeqAt.noMix d .none=true:=by
 cases d with
 |none=>exact absurd rfl h
 |_=>simp[PyData.eqv,SeqAt.noMix]
def T5{e:W->D}[DecidableEq W](A:Dat e)(F:∀ a,A.py a≠ .none):Dat (eO e):=⟨λo=>match o with|none=> .none|some a=>A.py a,A.dep+1,λo=>by
 cases o with
 |none=>rfl
 |some a=>exact A.h0 a,λo=>by
 cases o with
 |none=>simp[PyData.canLay0]
 |some a=>exact A.lay a,λo=>by
 cases o with
 |none=>simp[PyData.depth]
 |some a=>exact Nat.le_succ_of_le (A.depth a),λa b=>by
 cases a with
 |none=>
   cases b with
   |none=>simp[PyData.eqv]
   |some b=>exact(ni (F b)).1.trans (by simp)
 |some a=>
   cases b with
   |none=>exact(ni (F a)).2.1.trans (by simp)
   |some b=>exact(A.eqv a b).trans (by simp),λa b=>by
 cases a with
 |none=>
   cases b with
   |none=>simp[SeqAt.noMix]
   |some b=>exact(ni (F b)).2.2.1
 |some a=>
   cases b with
   |none=>exact(ni (F a)).2.2.2
   |some b=>exact A.nomix a b⟩
theorem Jd{e:W->D}[DecidableEq W](A:Dat e)(a:List W):(M7 A).py a≠ .none:=λh=>PyData.noConfusion (show PyData.list (a.map A.py)= .none from h)
@[simp] def Vh(b:Bool)(_:W):Res Bool:= .ok b
theorem Ab{e:W->D}{n:String}{b:Bool}{m:Mi.Env->Res D}{c:Z->Res W}(h:∀ a,ID (e a) (.ty n)= .ok (.bl b))(d:EJ Y e m c):EJ Y D.bl (bn ID m (aI (.ty n))) (aZ (Vh b) c):=λs=>(d s).bnd λa=>h a
@[simp] def Sq(b a:Bool)(o:Option W):Res Bool:= .ok (match o with|none=>b|some _=>a)
theorem OH{e:W->D}{n:D}{c b:Bool}(h0:ID .non n= .ok (.bl c))(d:∀ a,ID (e a) n= .ok (.bl b))(o:Option W):SimR D.bl (ID (eO e o) n) (Sq c b o):=by
 cases o with
 |none=>exact h0
 |some a=>exact d a
@[simp] def fj:Z->Res (List W):=λ_=> .ok []
@[simp] def bx(a:Z->Res W)(r:Z->Res (List W)):Z->Res (List W):=λs=>(a s).bind λx=>(r s).bind λxs=> .ok (x::xs)
theorem cL{e:W->D}:EJ Y (List.map e) ba (fj:Z->Res (List W)):=λs=>rfl
theorem bb{e:W->D}{m:Mi.Env->Res D}{n:Mi.Env->Res (List D)}{c:Z->Res W}{d:Z->Res (List W)}(g:EJ Y e m c)(f:EJ Y (List.map e) n d):EJ Y (List.map e) (au m n) (bx c d):=λs=>(g s).bnd λa=>(f s).bnd λb=>rfl
@[simp] def lZ(c:Z->Res (List W)):Z->Res (List W):=λs=>(c s).bind λxs=>if xs.length<=ak then .ok xs else .bad
theorem cM{e:W->D}{m:Mi.Env->Res (List D)}{c:Z->Res (List W)}(h:EJ Y (List.map e) m c):EJ Y (eL e) (qc m) (lZ c):=λs=>(h s).bnd λxs=>by rw[VN]; exact SimR.ite rfl trivial
@[simp] def kz(a:Z->Res W)(b:Z->Res X):Z->Res (W×X):=λs=>(a s).bind λx=>(b s).bind λy=> .ok (x,y)
theorem br{e:W->D}{h:X->D}{m n:Mi.Env->Res D}{c:Z->Res W}{d:Z->Res X}(f:EJ Y e m c)(g:EJ Y h n d):EJ Y (j8 e h) (kh (au m (au n ba))) (kz c d):=λs=>by
 have f:=f s;have g:=g s;unfold kz;cases j:c s with
 |bad=>trivial
 |exc x=>rw[j] at f; have f:m (Y s)= .exc x:=f; show kh _ (Y s)= .exc x; simp only[kh,au,f,Res.bind]
 |ok a=>
   rw[j] at f; have f:m (Y s)= .ok (e a):=f;cases i:d s with
   |bad=>trivial
   |exc x=>rw[i] at g; have g:n (Y s)= .exc x:=g; show kh _ (Y s)= .exc x; simp only[kh,au,f,g,Res.bind]
   |ok b=>rw[i] at g; have g:n (Y s)= .ok (h b):=g; show kh _ (Y s)= .ok (j8 e h (a,b)); simp only[kh,au,ba,f,g,Res.bind,VU,XC]; rw[on (by decide)]; rfl
@[simp] def lE(xs:List W):Res Int:= .ok xs.length
theorem gk{e:W->D}(xs:List W):SimR D.int (lD (eL e xs)) (lE xs):=by show Res.ok (D.int _)=Res.ok (D.int _); rw[VN]
theorem OM(xs:List Int):SimR D.int (lD (eS xs)) (lE xs):=by show Res.ok (D.int _)=Res.ok (D.int _); rw[VN]
theorem L8{e:W->O}(xs:List W)(i:Int):kj (xs.map e) i=(kj xs i).map e:=by
 unfold kj;rw[List.length_map];cases IB xs.length i with
 |none=>rfl
 |some j=>simp only[Option.bind_some,Wj]
@[simp] def ox(xs:List W)(i:Int):Res W:=match kj xs i with|some a=> .ok a|none=> .bad
theorem AE{e:W->D}(xs:List W)(i:Int):SimR e (L9 (xs.map e) i) (ox xs i):=by
 unfold L9 ox;rw[L8];cases kj xs i<;>trivial
theorem jc{e:W->D}(xs:List W)(i:Int):SimR e (xD (eL e xs) (.int i)) (ox xs i):=AE xs i
theorem Su(xs:List Int)(i:Int):SimR D.int (xD (eS xs) (.int i)) (ox xs i):=AE xs i
theorem kJ{e:W->D}(xs:List W)(i:Int):SimR e (KA (lF e xs) (.int i)) (ox xs i):=AE xs i
theorem T3{e:W->D}{b:X->D}{F:D->D->Res D}{f:W->Res X}{k:D}{m:Mi.Env->Res D}{c:Z->Res W}(h:∀ a,SimR b (F (e a) k) (f a))(d:EJ Y e m c):EJ Y b (bn F m (aI k)) (aZ f c):=λs=>(d s).bnd λa=>h a
@[simp] def jV(xs ys:List W):Res (List W):=if xs.length+ys.length<=ak then .ok (xs++ys) else .bad
theorem xi{e:W->D}(xs ys:List W):SimR (eL e) (yF (eL e xs) (eL e ys)) (jV xs ys):=by
 show SimR (eL e) (if (xs.map e).length+(ys.map e).length<=ak then .ok (.lst (xs.map e++ys.map e)) else .bad) (jV xs ys);rw[VN,VN];exact SimR.ite (by show Res.ok (D.lst _)=Res.ok (D.lst _); rw[Wq]) trivial
theorem vf{e:W->D}(xs:List W):SimR (eL e) (om (lF e xs)) (E1 xs):=rfl
theorem BJ{e:W->D}(xs:List W):SimR (lF e) (Dw (eL e xs)) (E1 xs):=rfl
@[simp] def fN(p:W×W):Res (List W):= .ok [p.1,p.2]
theorem dh{e:W->D}(p:W×W):SimR (lF e) (.ok (j8 e e p)) (fN p):=rfl
@[simp] def El(a:Bool)(k:List Int)(F:DI X):Res Bool:= .ok (a.xor (F.get k).isSome)
@[simp] def Ce(F:DI X)(k:List Int):Res X:=match F.get k with|some b=> .ok b|none=> .bad
@[simp] def Vy(F:DI X)(k:List Int)(x:X):Res X:= .ok ((F.get k).getD x)
theorem BM{e:X->D}(a:Bool)(k:List Int)(F:DI X):SimR D.bl (rQ a (lF D.int k) (bL e F)) (El a k F):=by
 show rQ a (.tup (k.map D.int)) (bL e F)= .ok (.bl (a.xor (F.get k).isSome));unfold rQ;rw[oA];simp
theorem kK{e:X->D}(F:DI X)(k:List Int):SimR e (ji (bL e F) (lF D.int k)) (Ce F k):=by
 show SimR e (ji (bL e F) (.tup (k.map D.int))) _;unfold ji Ce;rw[oA];cases F.get k<;>trivial
@[simp] def IQ(cd:Z->Res (DI X))(a:Z->Res (List Int))(cx:Z->Res X):Z->Res X:=λs=>(cd s).bind λF=>(a s).bind λk=>(cx s).bind λx=>Vy F k x
theorem Cb{e:X->D}{b mk a:Mi.Env->Res D}{cd:Z->Res (DI X)}{c:Z->Res (List Int)}{cx:Z->Res X}(g:EJ Y (bL e) b cd)(f:EJ Y (lF D.int) mk c)(d:EJ Y e a cx):
 EJ Y e (B7 b mk a) (IQ cd c cx):=λs=>(g s).bnd λF=>by
 show SimR e (if true=true then _ else _) _;rw[if_pos rfl];refine(f s).bnd λk=>(d s).bnd λx=>?_;show vH (bL e F) (.tup (k.map D.int)) (e x)= .ok (e ((F.get k).getD x));unfold vH;rw[oA];cases F.get k<;>rfl
@[simp] def lM(F:DI X):Res (List (List Int)):= .ok (F.map (·.1))
theorem qX{e:X->D}(F:DI X):SimR (eL (lF D.int)) (rn (bL e F)) (lM F):=by
 show Res.ok (D.lst ((F.map λp=>p.1.map (Sum.inl:Int->b6)).map λk=> .tup (k.map kD)))=Res.ok (D.lst ((F.map (·.1)).map (lF D.int)));rw[Wk,Wk];refine congrArg (λz=>Res.ok (D.lst z)) (W1 λp _=>?_);show D.tup ((p.1.map (Sum.inl:Int->b6)).map kD)=D.tup (p.1.map D.int);rw[Wk];rfl
@[simp] def Ih(xs:List Int)(d:Int):Res Int:= .ok (match xs with | []=>d|x::r=>dN r x)
@[simp] def MS(xs:List Int)(d:Int):Res Int:= .ok (match xs with | []=>d|x::r=>gc r x)
theorem ig:∀ l:List Int,cX (l.map D.int)=some l
 |[]=>rfl
 |x::l=>by rw[VQ,cX,ig l]; rfl
theorem Lm(xs:List Int)(d:Int):SimR D.int (tK dN (eL D.int xs) (.int d)) (Ih xs d):=by
 show tK dN (.lst (xs.map D.int)) (.int d)=_;unfold tK;dsimp only;rw[ig];cases xs<;>rfl
theorem OK(xs:List Int)(d:Int):SimR D.int (tK gc (eL D.int xs) (.int d)) (MS xs d):=by
 show tK gc (.lst (xs.map D.int)) (.int d)=_;unfold tK;dsimp only;rw[ig];cases xs<;>rfl
@[simp] def vn(xs:List Int):Res Int:=if xs.length<4000 then .ok (dd xs).length else .bad
theorem G9(xs:List Int):SimR D.int (rk (eL D.int xs)) (vn xs):=by
 show SimR D.int (rk (.lst (xs.map D.int))) _;unfold rk vn;dsimp only;rw[ig];exact SimR.ite rfl trivial
theorem pO:∀ l:List Bool,jX (l.map D.bl)=some l
 |[]=>rfl
 |x::l=>by rw[VQ,jX,pO l]; rfl
@[simp] def QR(xs:List Bool):Res Bool:= .ok (xs.any id)
theorem Sx(xs:List Bool):SimR D.bl (wA (eL D.bl xs)) (QR xs):=by
 show wA (.lst (xs.map D.bl))=_;unfold wA;dsimp only;rw[pO]
end
section
variable{Z σ' W X O J:Type}{Y:Z->Mi.Env}{V:σ'->Mi.Env}
def RY(Y:Z->Mi.Env)(e:W->D)(ix:List Nat):W×Z->Mi.Env:=λp=>some (e p.1)::jW (Y p.2) ix
def iR(b:W->Res Bool)(te:W->Res X):List W->Res (List X)
 |[]=> .ok []
 |a::r=>(b a).calm.bind λc=>if c=true then (te a).calm.bind λx=>(iR b te r).bind λxs=> .ok (x::xs) else iR b te r
def cp(src:Z->Res (List W))(b:W×Z->Res Bool)(te:W×Z->Res X):Z->Res (List X):=λs=>(src s).bind λxs=>if xs.length<ak then iR (λa=>b (a,s)) (λa=>te (a,s)) xs else .bad
theorem dH{e:W->D}{g:X->D}{ix:List Nat}{src:Mi.Env->Res (List D)}{f:Mi.Env->Res Bool}{te:Mi.Env->Res D}{d:Z->Res (List W)}{b:W×Z->Res Bool}{c:W×Z->Res X}
 (k:EJ Y (List.map e) src d) (j:EJ (RY Y e ix) (id:Bool->Bool) f b) (m:EJ (RY Y e ix) g te c):EJ Y (eL g) (kc src ix f te) (cp d b c):=λs=>(k s).bnd λxs=>by
 rw[VN];refine SimR.ite ?_ trivial
 have h:∀ l:List W,SimR (List.map g) (ff f te (jW (Y s) ix) (l.map e)) (iR (λa=>b (a,s)) (λa=>c (a,s)) l):=by
  intro l
  induction l with
  |nil=>rfl
  |cons a l i=>
    rw[List.map_cons];unfold ff iR;refine SimR.bnd (j (a,s)).calm λt=>SimR.ite (SimR.bnd (m (a,s)).calm λx=>SimR.bnd i λxs=>?_) i;rfl
 have:=h xs
 cases q:iR (λa=>b (a,s)) (λa=>c (a,s)) xs with
 |ok ys=>rw[q] at this; have this:ff f te (jW (Y s) ix) (xs.map e)= .ok (ys.map g):=this; rw[this]; rfl
 |exc x=>rw[q] at this; have this:ff f te (jW (Y s) ix) (xs.map e)= .exc x:=this; rw[this]; rfl
 |bad=>trivial
theorem jE:EJ Y (id:Bool->Bool) (λ_=> .ok true) (λ_=> .ok true):=λs=>rfl
theorem bV{e:W->D}{m:Mi.Env->Res D}{c:Z->Res (List W)}(h:EJ Y (eL e) m c):EJ Y (List.map e) (fb m) c:=λs=>by
 have h:=h s;cases q:c s with
 |ok a=>rw[q] at h; have h:m (Y s)= .ok (eL e a):=h; show fb m (Y s)= .ok (a.map e); unfold fb; rw[h]; rfl
 |exc x=>rw[q] at h; have h:m (Y s)= .exc x:=h; show fb m (Y s)= .exc x; unfold fb; rw[h]; rfl
 |bad=>trivial
def bg(lo hi:Int):List Int:=(List.range (hi-lo).toNat).map λi:Nat=>lo+i
noncomputable def fq(lo hi:Int):Res (List Int):=@ite _ (-(2 ^ 62)<=lo/\lo<2 ^ 62/\-(2 ^ 62)<=hi/\hi<2 ^ 62) (Classical.propDecidable _) (.ok (bg lo hi)) .bad
theorem K8(lo hi:Int):(bg lo hi).map D.int=rng lo hi:=by unfold bg rng; rw[List.map_map]; rfl
theorem dQ{lo hi:Int}(d:-(2 ^ 62)<=lo)(c:lo<2 ^ 62)(b:-(2 ^ 62)<=hi)(a:hi<2 ^ 62):fq lo hi= .ok (bg lo hi):=by unfold fq; rw[if_pos ⟨d,c,b,a⟩]
theorem Aa{a b:Mi.Env->Res D}{ca cb:Z->Res Int}(d:EJ Y D.int a ca)(c:EJ Y D.int b cb):EJ Y (List.map D.int) (Fg a b) (aC fq ca cb):=λs=>(d s).bnd λi=>(c s).bnd λj=>by
 show SimR _ (if -(2 ^ 62)<=i/\i<2 ^ 62/\-(2 ^ 62)<=j/\j<2 ^ 62 then _ else _) _;by_cases h:-(2 ^ 62)<=i/\i<2 ^ 62/\-(2 ^ 62)<=j/\j<2 ^ 62
 ·rw[on h,dQ h.1 h.2.1 h.2.2.1 h.2.2.2]; exact congrArg Res.ok (K8 i j).symm
 ·unfold fq; rw[if_neg h,if_neg h]; trivial
theorem d9{b:Mi.Env->Res D}{cb:Z->Res Int}(c:EJ Y D.int b cb):EJ Y (List.map D.int) (gW b) (aZ (fq 0) cb):=λs=>Aa (vF (a:=(0:Int)) rfl) c s
def OutC.res:OutC Z W->Res W
 |.ok a _=> .ok a
 |.exc x _=> .exc x
 |.bad=> .bad
@[simp] theorem Vr(a:W)(s:Z):(OutC.ok a s).res= .ok a:=rfl
@[simp] theorem UZ(x:Nat)(s:Z):(OutC.exc x s:OutC Z W).res= .exc x:=rfl
@[simp] theorem U0:(OutC.bad:OutC Z W).res= .bad:=rfl
@[simp] def bndO(r:Res W)(s:Z)(k:W->OutC Z X):OutC Z X:=match r with
 |.ok a=>k a
 |.exc x=> .exc x s
 |.bad=> .bad
theorem SimO.res{e:W->D}{b:List D->Out D}{ds:List D}{q:OutC Z W}(h:SimO Y e (b ds) q):SimR e (k6 b ds) q.res:=by
 unfold k6;cases q with
 |ok a s=>have h:b ds= .ok (e a) (Y s):=h; rw[h]; rfl
 |exc x s=>have h:b ds= .exc x (Y s):=h; rw[h]; rfl
 |bad=>trivial
theorem SimO.bndO{e:W->O}{b:X->J}{s:Z}{r:Res O}{q:Res W}{k:O->Mi.Env->Out J}{l:W->OutC Z X}(h:SimR e r q)(c:∀ a,SimO Y b (k (e a) (Y s)) (l a)):SimO Y b ((r.up (Y s)).bind k) (Cl.bndO q s l):=by
 cases q with
 |ok a=>have h:r= .ok (e a):=h; rw[h]; exact c a
 |exc x=>have h:r= .exc x:=h; rw[h]; exact rfl
 |bad=>trivial
@[simp] def Ri(w:σ'->Z->Z)(s:Z):OutC σ' W->OutC Z W
 |.ok a b=> .ok a (w b s)
 |.exc x b=> .exc x (w b s)
 |.bad=> .bad
theorem SimO.wb{b:List Ap}{d:List D->Out D}{ds:List D}{e:W->D}{q:OutC σ' W}{w:σ'->Z->Z}(f:∀ c s,gA b 0 (V c) (Y s)=Y (w c s))(h:SimO V e (d ds) q)(s:Z):SimO Y e (gz b d ds (Y s)) (Ri w s q):=by
 unfold gz;cases q with
 |ok a c=>have h:d ds= .ok (e a) (V c):=h; rw[h]; show Out.ok _ _=Out.ok _ _; rw[f]
 |exc x c=>have h:d ds= .exc x (V c):=h; rw[h]; show Out.exc _ _=Out.exc _ _; rw[f]
 |bad=>trivial
theorem pU{e:W->D}{a:O->J}{m:Mi.Env->Res D}{r:Mi.Env->Res (List D)}{k:List D->Res J}{c:Z->Res W}{l:W->Res O}{s:Z}(h:EJ Y e m c)(g:∀ x,SimR a ((r (Y s)).bind λds=>k (e x::ds)) (l x)):SimR a ((au m r (Y s)).bind k) ((c s).bind l):=by
 have h:=h s;unfold au;cases q:c s with
 |bad=>trivial
 |exc x=>rw[q] at h; have h:m (Y s)= .exc x:=h; rw[h]; exact rfl
 |ok x=>
   rw[q] at h;have h:m (Y s)= .ok (e x):=h;have g:=g x;rw[h];simp only[Res.bind];cases z:r (Y s)<;>rw[z] at g<;>exact g
theorem DP{e:W->D}{a:O->J}{m:Mi.Env->Res D}{r:Mi.Env->Res (List D)}{k:List D->Mi.Env->Out J}{c:Z->Res W}{l:W->OutC Z O}{s:Z}(h:EJ Y e m c)(g:∀ x,SimO Y a (((r (Y s)).up (Y s)).bind λds M=>k (e x::ds) M) (l x)):SimO Y a (((au m r (Y s)).up (Y s)).bind k) (bndO (c s) s l):=by
 have h:=h s;unfold au;cases q:c s with
 |bad=>trivial
 |exc x=>rw[q] at h; have h:m (Y s)= .exc x:=h; rw[h]; exact rfl
 |ok x=>
   rw[q] at h;have h:m (Y s)= .ok (e x):=h;have g:=g x;rw[h];simp only[Res.bind];cases z:r (Y s)<;>rw[z] at g<;>exact g
theorem GD{e:W->D}{f:O->D}{c:Nat}{b:Str}{d:List D->Out D}{m:Mi.Env->Res D}{r:Mi.Env->Res (List D)}{q:Z->Res W}{l:W->Res O}{s:Z}(i:∀ a,eG c b (e a)=true)(h:EJ Y e m q)(g:∀ x,SimR f ((r (Y s)).bind λds=>k6 d (e x::ds)) (l x)):SimR f (pm c b d m r (Y s)) ((q s).bind l):=(h s).bnd λx=>by rw[on (i x)]; exact g x
theorem MT{e:W->D}{i:O->D}{c:Nat}{d:Str}{b:List Ap}{f:List D->Out D}{m:Mi.Env->Res D}{r:Mi.Env->Res (List D)}{q:Z->Res W}{l:W->OutC Z O}{s:Z}(j:∀ a,eG c d (e a)=true)(h:EJ Y e m q)(g:∀ x,SimO Y i (((r (Y s)).up (Y s)).bind λds M=>gz b f (e x::ds) M) (l x)):SimO Y i (mm c d b f m r (Y s)) (bndO (q s) s l):=SimO.bndO (h s) λx=>by rw[on (j x)]; exact g x
variable{α0 α1 α2 α3 α4 α5:Type}{e0:α0->D}{e1:α1->D}{e2:α2->D}{e3:α3->D}{e4:α4->D}{e5:α5->D}{m0 m1 m2 m3 m4 m5:Mi.Env->Res D}{c0:Z->Res α0}{c1:Z->Res α1}{c2:Z->Res α2}{c3:Z->Res α3}{c4:Z->Res α4}{c5:Z->Res α5}{eR:O->D}{fm:List D->Out D}{w:σ'->Z->Z}{plan:List Ap}{c:Nat}{mn:Str}
@[simp] def cq(f:α0->OutC σ' O)(c0:Z->Res α0):Z->Res O:=λs=>(c0 s).bind λa=>(f a).res
@[simp] def Oa(f:α0->Res O)(c0:Z->Res α0):Z->Res O:=λs=>(c0 s).bind λa=>f a
theorem cZ{f:α0->OutC σ' O}(b:∀ a,SimO V eR (fm [e0 a]) (f a))(h0:EJ Y e0 m0 c0):EJ Y eR (pc fm (au m0 ba)) (cq f c0):=λs=>pU h0 λa=>(b a).res
theorem IU{f:α0->Res O}(b:∀ a,SimR eR (o8 c fm [e0 a]) (f a))(h0:EJ Y e0 m0 c0):EJ Y eR (pk c fm (au m0 ba)) (Oa f c0):=λs=>pU h0 λa=>b a
theorem i4{f:α0->OutC σ' O}(d:∀ a,eG c mn (e0 a)=true)(e:∀ b,SimO V eR (fm [e0 b]) (f b))(h0:EJ Y e0 m0 c0):EJ Y eR (pm c mn fm m0 ba) (cq f c0):=λs=>GD d h0 λb=>(e b).res
@[simp] def dM(f:α0->α1->OutC σ' O)(c0:Z->Res α0)(c1:Z->Res α1):Z->Res O:=λs=>(c0 s).bind λb=>(c1 s).bind λa=>(f b a).res
@[simp] def TD(f:α0->α1->OutC σ' O)(w:σ'->Z->Z)(c0:Z->Res α0)(c1:Z->Res α1):Z->OutC Z O:=λs=>bndO (c0 s) s λb=>bndO (c1 s) s λa=>Ri w s (f b a)
theorem dG{f:α0->α1->OutC σ' O}(c:∀ b a,SimO V eR (fm [e0 b,e1 a]) (f b a))(h0:EJ Y e0 m0 c0)(d:EJ Y e1 m1 c1):EJ Y eR (pc fm (au m0 (au m1 ba))) (dM f c0 c1):=λs=>pU h0 λb=>pU d λa=>(c b a).res
theorem OS{f:α0->α1->OutC σ' O}(d:∀ c s,gA plan 0 (V c) (Y s)=Y (w c s))(e:∀ b a,SimO V eR (fm [e0 b,e1 a]) (f b a))(h0:EJ Y e0 m0 c0)(g:EJ Y e1 m1 c1):NJ Y eR (mc plan fm (au m0 (au m1 ba))) (TD f w c0 c1):=λs=>DP h0 λb=>DP g λa=>SimO.wb d (e b a) s
theorem im{f:α0->α1->OutC σ' O}(e:∀ a,eG c mn (e0 a)=true)(g:∀ d b,SimO V eR (fm [e0 d,e1 b]) (f d b))(h0:EJ Y e0 m0 c0)(h:EJ Y e1 m1 c1):EJ Y eR (pm c mn fm m0 (au m1 ba)) (dM f c0 c1):=λs=>GD e h0 λd=>pU h λb=>(g d b).res
@[simp] def n6(f:α0->α1->α2->OutC σ' O)(c0:Z->Res α0)(c1:Z->Res α1)(c2:Z->Res α2):Z->Res O:=λs=>(c0 s).bind λc=>(c1 s).bind λb=>(c2 s).bind λa=>(f c b a).res
@[simp] def q9(f:α0->α1->α2->OutC σ' O)(w:σ'->Z->Z)(c0:Z->Res α0)(c1:Z->Res α1)(c2:Z->Res α2):Z->OutC Z O:=λs=>bndO (c0 s) s λc=>bndO (c1 s) s λb=>bndO (c2 s) s λa=>Ri w s (f c b a)
theorem IV{f:α0->α1->α2->OutC σ' O}(d:∀ c b a,SimO V eR (fm [e0 c,e1 b,e2 a]) (f c b a))(h0:EJ Y e0 m0 c0)(g:EJ Y e1 m1 c1)(e:EJ Y e2 m2 c2):EJ Y eR (pc fm (au m0 (au m1 (au m2 ba)))) (n6 f c0 c1 c2):=λs=>pU h0 λc=>pU g λb=>pU e λa=>(d c b a).res
theorem jF{f:α0->α1->α2->OutC σ' O}(g:∀ a,eG c mn (e0 a)=true)(h:∀ e d b,SimO V eR (fm [e0 e,e1 d,e2 b]) (f e d b))(h0:EJ Y e0 m0 c0)(j:EJ Y e1 m1 c1)(i:EJ Y e2 m2 c2):EJ Y eR (pm c mn fm m0 (au m1 (au m2 ba))) (n6 f c0 c1 c2):=λs=>GD g h0 λe=>pU j λd=>pU i λb=>(h e d b).res
theorem iY{f:α0->α1->α2->OutC σ' O}(i:∀ a,eG c mn (e0 a)=true)(h:∀ g s,gA plan 0 (V g) (Y s)=Y (w g s))(j:∀ e d b,SimO V eR (fm [e0 e,e1 d,e2 b]) (f e d b))(h0:EJ Y e0 m0 c0)(l:EJ Y e1 m1 c1)(k:EJ Y e2 m2 c2):NJ Y eR (mm c mn plan fm m0 (au m1 (au m2 ba))) (q9 f w c0 c1 c2):=λs=>MT i h0 λe=>DP l λd=>DP k λb=>SimO.wb h (j e d b) s
@[simp] def Lc(f:α0->α1->α2->α3->OutC σ' O)(c0:Z->Res α0)(c1:Z->Res α1)(c2:Z->Res α2)(c3:Z->Res α3):Z->Res O:=λs=>(c0 s).bind λd=>(c1 s).bind λc=>(c2 s).bind λb=>(c3 s).bind λa=>(f d c b a).res
@[simp] def Lv(f:α0->α1->α2->α3->OutC σ' O)(w:σ'->Z->Z)(c0:Z->Res α0)(c1:Z->Res α1)(c2:Z->Res α2)(c3:Z->Res α3):Z->OutC Z O:=λs=>bndO (c0 s) s λd=>bndO (c1 s) s λc=>bndO (c2 s) s λb=>bndO (c3 s) s λa=>Ri w s (f d c b a)
theorem P9{f:α0->α1->α2->α3->OutC σ' O}(e:∀ d c b a,SimO V eR (fm [e0 d,e1 c,e2 b,e3 a]) (f d c b a))(h0:EJ Y e0 m0 c0)(i:EJ Y e1 m1 c1)(h:EJ Y e2 m2 c2)(g:EJ Y e3 m3 c3):EJ Y eR (pc fm (au m0 (au m1 (au m2 (au m3 ba))))) (Lc f c0 c1 c2 c3):=λs=>pU h0 λd=>pU i λc=>pU h λb=>pU g λa=>(e d c b a).res
theorem zz{f:α0->α1->α2->α3->OutC σ' O}(j:∀ a,eG c mn (e0 a)=true)(i:∀ h s,gA plan 0 (V h) (Y s)=Y (w h s))(k:∀ g e d b,SimO V eR (fm [e0 g,e1 e,e2 d,e3 b]) (f g e d b))(h0:EJ Y e0 m0 c0)(n:EJ Y e1 m1 c1)(m:EJ Y e2 m2 c2)(l:EJ Y e3 m3 c3):NJ Y eR (mm c mn plan fm m0 (au m1 (au m2 (au m3 ba)))) (Lv f w c0 c1 c2 c3):=λs=>MT j h0 λg=>DP n λe=>DP m λd=>DP l λb=>SimO.wb i (k g e d b) s
@[simp] def R5(f:α0->α1->α2->α3->α4->OutC σ' O)(c0:Z->Res α0)(c1:Z->Res α1)(c2:Z->Res α2)(c3:Z->Res α3)(c4:Z->Res α4):Z->Res O:=λs=>(c0 s).bind λe=>(c1 s).bind λd=>(c2 s).bind λc=>(c3 s).bind λb=>(c4 s).bind λa=>(f e d c b a).res
theorem P8{f:α0->α1->α2->α3->α4->OutC σ' O}(g:∀ e d c b a,SimO V eR (fm [e0 e,e1 d,e2 c,e3 b,e4 a]) (f e d c b a))(h0:EJ Y e0 m0 c0)(k:EJ Y e1 m1 c1)(j:EJ Y e2 m2 c2)(i:EJ Y e3 m3 c3)(h:EJ Y e4 m4 c4):EJ Y eR (pc fm (au m0 (au m1 (au m2 (au m3 (au m4 ba)))))) (R5 f c0 c1 c2 c3 c4):=λs=>pU h0 λe=>pU k λd=>pU j λc=>pU i λb=>pU h λa=>(g e d c b a).res
end
section
variable{Z σ' W X O J:Type}{Y:Z->Mi.Env}{eR:X->D}
@[simp] def aY(c:Z->Res W):Z->OutC Z W:=λs=>match c s with
 |.ok a=> .ok a s
 |.exc x=> .exc x s
 |.bad=> .bad
theorem aj{e:W->O}{m:Mi.Env->Res O}{c:Z->Res W}(h:EJ Y e m c):NJ Y e (aQ m) (aY c):=λs=>by
 have h:=h s;unfold aY aQ;cases q:c s with
 |ok a=>rw[q] at h; have h:m (Y s)= .ok (e a):=h; rw[h]; rfl
 |exc x=>rw[q] at h; have h:m (Y s)= .exc x:=h; rw[h]; rfl
 |bad=>trivial
@[simp] def VA(o:OutC Z W)(k:W->Z->OutC Z X):OutC Z X:=match o with
 |.ok a s=>k a s
 |.exc x s=> .exc x s
 |.bad=> .bad
theorem SimO.bd{e:W->O}{b:X->J}{r:Out O}{q:OutC Z W}{k:O->Mi.Env->Out J}{l:W->Z->OutC Z X}(h:SimO Y e r q)(c:∀ a s,SimO Y b (k (e a) (Y s)) (l a s)):SimO Y b (r.bind k) (VA q l):=by
 cases q with
 |ok a s=>have h:r= .ok (e a) (Y s):=h; rw[h]; exact c a s
 |exc x s=>have h:r= .exc x (Y s):=h; rw[h]; exact rfl
 |bad=>trivial
@[simp] def BP(g:Z->Option W)(cl:Z->Z):Z->OutC Z W:=λs=>match g s with|some a=> .ok a (cl s)|none=> .bad
theorem j6{e:W->D}{i:Nat}{g:Z->Option W}{cl:Z->Z}(h:∀ s,rg (Y s) i=(g s).map e)(b:∀ s,(Y s).set i none=Y (cl s)):NJ Y e (yT i) (BP g cl):=λs=>by
 unfold yT BP;rw[h s];cases g s with
 |none=>trivial
 |some a=>show Out.ok _ _=Out.ok _ _; rw[b]
@[simp] def pZ(g:Z->Option (List W))(p:Z->List W->Z)(f:List W->J->Option (O×List W))(c:Z->Res J):Z->OutC Z O:=λs=>match g s with
 |none=> .bad
 | some xs=>bndO (c s) s λx=>match f xs x with
   |some (r,ys)=> .ok r (p s ys)
   |none=> .bad
def mG(xs:List W)(x:W):Option (Unit×List W):=if xs.length<ak then some ((),xs++[x]) else none
def GC(xs:List W)(i:Int):Option (W×List W):=if 0<=i/\i<xs.length/\xs.length<=ak then xs[i.toNat]?.map λd=>(d,xs.eraseIdx i.toNat) else none
def zn[DecidableEq W](xs:List W)(x:W):Option (Unit×List W):=(xs.findIdx? λy=>decide (y=x)).map λj=>((),xs.eraseIdx j)
def Km{δ':Type}(e:W->D)(b:J->D)(a:O->D)(F:List D->D->Option (D×List D))(f:List W->J->Option (O×List W)):Prop:=∀ xs x,match f xs x with
 |some (r,ys)=>F (xs.map e) (b x)=some (a r,ys.map e)
 |none=>True
theorem oH{e:W->O}:∀ (xs:List W) (i:Nat),(xs.map e).eraseIdx i=(xs.eraseIdx i).map e
 |[],i=>by simp
 |x::xs,0=>by simp
 |x::xs,i+1=>by rw[VQ,Wt,Wt,VQ,oH xs i]
theorem pq{e:W->D}:Km (δ':=Unit) e e eN lc mG:=λxs x=>by
 unfold mG lc;rw[List.length_map];by_cases h:xs.length<ak
 ·rw[on h,on h];show some (D.non,xs.map e++[e x])=some (eN (),(xs++[x]).map e);rw[Wq]; rfl
 ·rw[VM h]; trivial
theorem T1{e:W->D}:Km (δ':=Unit) e D.int e GB GC:=λxs i=>by
 unfold GC GB;dsimp only;rw[List.length_map];by_cases h:0<=i/\i<xs.length/\xs.length<=ak
 · rw[on h,on h,Wj];cases xs[i.toNat]? with
   |none=>trivial
   |some a=>
     show some (e a,(xs.map e).eraseIdx i.toNat)=some (e a,(xs.eraseIdx i.toNat).map e);rw[oH]
 ·rw[VM h]; trivial
theorem pj{e:W->PyData}{p:PyData->Bool}:∀ xs:List W,(xs.map e).findIdx? p=xs.findIdx? λx=>p (e x)
 |[]=>rfl
 |x::xs=>by rw[VQ,List.findIdx?_cons,List.findIdx?_cons,pj xs]
theorem TZ{e:W->D}[DecidableEq W](A:Dat e)(hd:A.dep<=64):Km (δ':=Unit) e e eN DO zn:=λxs x=>by
 have b:((xs.map A.py).all SeqAt.shaped)=true:=by
  rw[Zc,Yv];exact λa _=>A.shp hd a
 unfold zn DO;rw[A.h0,nL A.h0];dsimp only;rw[if_pos ⟨A.shp hd x,b⟩,pj];have c:(λy=>PyData.eqv (A.py y) (A.py x))=λy=>decide (y=x):=funext λy=>A.eqv y x;rw[c];cases xs.findIdx? λy=>decide (y=x) with
 |none=>trivial
 |some j=>
   show some (D.non,(xs.map e).eraseIdx j)=some (eN (),(xs.eraseIdx j).map e);rw[oH]; rfl
theorem hZ{e:W->D}{d:J->D}{b:O->D}{get:Mi.Env->Option D}{set:Mi.Env->D->Mi.Env}{g:Z->Option (List W)}{p:Z->List W->Z}{F:List D->D->Option (D×List D)}{f:List W->J->Option (O×List W)}{m:Mi.Env->Res D}{c:Z->Res J}
 (j:∀ s,get (Y s)=(g s).map (eL e)) (i:∀ s xs,set (Y s) (eL e xs)=Y (p s xs)) (hF:Km (δ':=Unit) e d b F f) (a:EJ Y d m c):NJ Y b (ie get set F m) (pZ g p f c):=λs=>by
 have a:=a s;unfold ie pZ;rw[j];cases g s with
 |none=>trivial
 |some xs=>
   show SimO Y b (Pz set F (Y s) (xs.map e) (m (Y s))) (bndO (c s) s _);cases q:c s with
   |bad=>trivial
   |exc x=>rw[q] at a; have a:m (Y s)= .exc x:=a; rw[a]; rfl
   |ok x=>
     rw[q] at a; have a:m (Y s)= .ok (d x):=a;rw[a]
     have:=hF xs x
     show SimO Y b (D7 set (Y s) (F (xs.map e) (d x))) (match f xs x with|some (r,ys)=>OutC.ok r (p s ys)|none=> .bad);cases h:f xs x with
     |none=>trivial
     |some r=>
       rw[h] at this;obtain⟨r,ys⟩:=r;have this:F (xs.map e) (d x)=some (b r,ys.map e):=this;rw[this];show Out.ok _ _=Out.ok _ _;rw[<-i]; rfl
@[simp] def QQ(g:Z->Option (List W))(p:Z->List W->Z)(c:Z->OutC Z W):Z->OutC Z Unit:=λs=>match g s with
 |none=> .bad
 | some _=>VA (c s) λx s=>match g s with
   |none=> .bad
   |some xs=>(match mG xs x with|some (r,ys)=> .ok r (p s ys)|none=> .bad)
theorem OT{e:W->D}{i:Nat}{g:Z->Option (List W)}{p:Z->List W->Z}{m:Mi.Env->Out D}{c:Z->OutC Z W}(b:∀ s,rg (Y s) i=(g s).map (eL e))(h:∀ s xs,(Y s).set i (some (eL e xs))=Y (p s xs))(a:NJ Y e m c):NJ Y eN (Kf i m) (QQ g p c):=λs=>by
 have a:=a s;unfold Kf QQ;rw[b];cases g s with
 |none=>trivial
 |some d=>
   show SimO Y eN ((m (Y s)).bind (yL i)) (VA (c s) _);refine a.bd λx s=>?_;unfold yL;rw[b];cases g s with
   |none=>trivial
   |some xs=>
     have:=pq (e:=e) xs x
     show SimO Y eN (D7 (dI i) (Y s) (lc (xs.map e) (e x))) (match mG xs x with|some (r,ys)=>OutC.ok r (p s ys)|none=> .bad);cases f:mG xs x with
     |none=>trivial
     |some r=>
       rw[f] at this;obtain⟨r,ys⟩:=r;have this:lc (xs.map e) (e x)=some (eN r,ys.map e):=this;rw[this];show Out.ok _ _=Out.ok _ _;rw[<-h]; rfl
@[simp] def Cd(g:Z->Option (DI W))(p:Z->DI W->Z)(a:Z->Res (List Int)):Z->OutC Z W:=λs=>match g s with
 |none=> .bad
 | some F=>bndO (a s) s λk=>match F.get k with
   |some x=> .ok x (p s (F.del k))
   |none=> .bad
theorem BN{e:W->D}{get:Mi.Env->Option D}{set:Mi.Env->D->Mi.Env}{g:Z->Option (DI W)}{p:Z->DI W->Z}{mk:Mi.Env->Res D}{b:Z->Res (List Int)}(f:∀ s,get (Y s)=(g s).map (bL e))(d:∀ s F,set (Y s) (bL e F)=Y (p s F))(a:EJ Y (lF D.int) mk b):NJ Y e (ut get set mk) (Cd g p b):=λs=>by
 have a:=a s;unfold ut Cd;rw[f];cases g s with
 |none=>trivial
 |some F=>
   show SimO Y e (xX set (bL e F) (Y s) (mk (Y s))) (bndO (b s) s _);cases q:b s with
   |bad=>trivial
   |exc x=>rw[q] at a; have a:mk (Y s)= .exc x:=a; rw[a]; rfl
   |ok k=>
     rw[q] at a; have a:mk (Y s)= .ok (.tup (k.map D.int)):=a;rw[a];show SimO Y e (xX set (bL e F) (Y s) (.ok (.tup (k.map D.int)))) (match F.get k with|some x=>OutC.ok x (p s (F.del k))|none=> .bad);cases c:F.get k with
     |none=>trivial
     |some x=>
       unfold xX;dsimp only;rw[I9 c];show Out.ok _ _=Out.ok _ _;rw[d]
end
section
variable{Z σ' W X O J:Type}{Y:Z->Mi.Env}{eR:X->D}
@[simp] def QN(o:OutC Z W)(k:W->Z->FlC Z X):FlC Z X:=match o with
 |.ok a s=>k a s
 |.exc x s=> .exc x s
 |.bad=> .bad
theorem SimS.bd{e:W->O}{r:Out O}{q:OutC Z W}{k:O->Mi.Env->SO}{l:W->Z->FlC Z X}(h:SimO Y e r q)(b:∀ a s,SimS Y eR (k (e a) (Y s)) (l a s)):SimS Y eR (lH r k) (QN q l):=by
 cases q with
 |ok a s=>have h:r= .ok (e a) (Y s):=h; rw[h]; exact b a s
 |exc x s=>have h:r= .exc x (Y s):=h; rw[h]; exact rfl
 |bad=>trivial
theorem SimS.ite{p:Prop}[Decidable p]{r a:SO}{q b:FlC Z X}(h:SimS Y eR r q)(h':SimS Y eR a b):SimS Y eR (if p then r else a) (if p then q else b):=by
 by_cases z:p
 ·rw[on z,on z]; exact h
 ·rw[VM z,VM z]; exact h'
@[simp] def aA(a b:Z->FlC Z X):Z->FlC Z X:=λs=>match a s with
 |.nx c=>b c
 |o=>o
theorem ai{a b:Mi.Env->SO}{c d:Z->FlC Z X}(e:TJ Y eR a c)(g:TJ Y eR b d):TJ Y eR (aD a b) (aA c d):=λs=>by
 have e:=e s;unfold aD aA;cases q:c s with
 |nx f=>rw[q] at e; have e:a (Y s)= .nx (Y f):=e; rw[e]; exact g f
 |rt b f=>rw[q] at e; have e:a (Y s)= .rt (eR b) (Y f):=e; rw[e]; rfl
 |bk f=>rw[q] at e; have e:a (Y s)= .bk (Y f):=e; rw[e]; rfl
 |ct f=>rw[q] at e; have e:a (Y s)= .ct (Y f):=e; rw[e]; rfl
 |exc x f=>rw[q] at e; have e:a (Y s)= .exc x (Y f):=e; rw[e]; rfl
 |bad=>trivial
@[simp] def bW:Z->FlC Z X:=λs=> .nx s
@[simp] def nD:Z->FlC Z X:=λ_=> .bad
theorem aV:TJ Y eR bK bW:=λs=>rfl
theorem fP{m:Mi.Env->SO}:TJ Y eR m nD:=λs=>trivial
@[simp] def bZ(c:Z->OutC Z X):Z->FlC Z X:=λs=>QN (c s) λb s=> .rt b s
theorem aS{m:Mi.Env->Out D}{c:Z->OutC Z X}(h:NJ Y eR m c):TJ Y eR (cz m) (bZ c):=λs=>SimS.bd (h s) λb s=>rfl
@[simp] def bf(c:Z->OutC Z W):Z->FlC Z X:=λs=>QN (c s) λ_ s=> .nx s
theorem aJ{e:W->D}{m:Mi.Env->Out D}{c:Z->OutC Z W}(h:NJ Y e m c):TJ Y eR (bC m) (bf c):=λs=>SimS.bd (h s) λb s=>rfl
@[simp] def bJ(u:W->Z->Z)(c:Z->OutC Z W):Z->FlC Z X:=λs=>QN (c s) λa s=> .nx (u a s)
theorem Nj{e:W->D}{i:Nat}{m:Mi.Env->Out D}{c:Z->OutC Z W}{u:W->Z->Z}(b:∀ a s,(Y s).set i (some (e a))=Y (u a s))(h:NJ Y e m c):TJ Y eR (bX i m) (bJ u c):=λs=>SimS.bd (h s) λa s=>by show SO.nx _=SO.nx _; rw[b]
@[simp] def gv(t:Z->OutC Z Bool)(a b:Z->FlC Z X):Z->FlC Z X:=λs=>QN (t s) λc s=>if c=true then a s else b s
theorem bE{t:Mi.Env->Out Bool}{a b:Mi.Env->SO}{ct:Z->OutC Z Bool}{c d:Z->FlC Z X}(e:NJ Y (id:Bool->Bool) t ct)(g:TJ Y eR a c)(f:TJ Y eR b d):TJ Y eR (gG t a b) (gv ct c d):=λs=>SimS.bd (e s) λt s=>SimS.ite (g s) (f s)
def ij(u:W->Z->Z)(body:Z->FlC Z X):List W->Z->FlC Z X
 |[],s=> .nx s
 | a::r,s=>match body (u a s) with
   |.nx b=>ij u body r b
   |.ct b=>ij u body r b
   |.bk b=> .nx b
   |o=>o
theorem uX{e:W->D}{g:D->Mi.Env->Option Mi.Env}{body:Mi.Env->SO}{u:W->Z->Z}{c:Z->FlC Z X}(i:∀ a s,g (e a) (Y s)=some (Y (u a s)))(h:TJ Y eR body c):∀ (xs:List W) (s:Z),SimS Y eR (vA g body (xs.map e) (Y s)) (ij u c xs s)
 |[],s=>rfl
 | a::r,s=>by
   have d:=h (u a s);rw[List.map_cons];unfold vA ij;rw[i];dsimp only;cases q:c (u a s) with
   |nx f=>rw[q] at d; have d:body (Y (u a s))= .nx (Y f):=d; rw[d]; exact uX i h r f
   |ct f=>rw[q] at d; have d:body (Y (u a s))= .ct (Y f):=d; rw[d]; exact uX i h r f
   |bk f=>rw[q] at d; have d:body (Y (u a s))= .bk (Y f):=d; rw[d]; rfl
   |rt b f=>rw[q] at d; have d:body (Y (u a s))= .rt (eR b) (Y f):=d; rw[d]; rfl
   |exc x f=>rw[q] at d; have d:body (Y (u a s))= .exc x (Y f):=d; rw[d]; rfl
   |bad=>trivial
@[simp] def ci(src:Z->Res (List W))(u:W->Z->Z)(body:Z->FlC Z X):Z->FlC Z X:=λs=>match src s with
 |.ok xs=>ij u body xs s
 |.exc x=> .exc x s
 |.bad=> .bad
theorem b7{e:W->D}{src:Mi.Env->Res (List D)}{b:Z->Res (List W)}{f:D->Mi.Env->Option Mi.Env}{body:Mi.Env->SO}{u:W->Z->Z}{c:Z->FlC Z X}(d:EJ Y (List.map e) src b)(g:∀ a s,f (e a) (Y s)=some (Y (u a s)))(h:TJ Y eR body c):TJ Y eR (dU (aQ src) f body) (ci b u c):=λs=>by
 have d:=d s;unfold dU aQ ci;cases q:b s with
 |ok xs=>rw[q] at d; have d:src (Y s)= .ok (xs.map e):=d; rw[d]; exact uX g h xs s
 |exc x=>rw[q] at d; have d:src (Y s)= .exc x:=d; rw[d]; rfl
 |bad=>trivial
def Ng(t:Z->OutC Z Bool)(body:Z->FlC Z X):Nat->Z->FlC Z X
 |0,_=> .bad
 | n+1,s=>match t s with
   | .ok true a=>(match body a with
     |.nx b=>Ng t body n b
     |.ct b=>Ng t body n b
     |.bk b=> .nx b
     |o=>o)
   |.ok false a=> .nx a
   |.exc x a=> .exc x a
   |.bad=> .bad
theorem E7{t:Mi.Env->Out Bool}{body:Mi.Env->SO}{ct:Z->OutC Z Bool}{c:Z->FlC Z X}(g:NJ Y (id:Bool->Bool) t ct)(h:TJ Y eR body c):∀ n,TJ Y eR (Dq t body n) (Ng ct c n)
 |0=>λs=>trivial
 | n+1=>λs=>by
   have f:=g s;unfold Dq Ng;cases q:ct s with
   |ok b d=>
     rw[q] at f; have f:t (Y s)= .ok b (Y d):=f;rw[f];cases b with
     |false=>rfl
     |true=>
       have a:=h d;show SimS Y eR (match body (Y d) with | .nx C=>Dq t body n C | .ct C=>Dq t body n C | .bk C=> .nx C | o=>o) _;dsimp only;cases q:c d with
       |nx e=>rw[q] at a; have a:body (Y d)= .nx (Y e):=a; rw[a]; exact E7 g h n e
       |ct e=>rw[q] at a; have a:body (Y d)= .ct (Y e):=a; rw[a]; exact E7 g h n e
       |bk e=>rw[q] at a; have a:body (Y d)= .bk (Y e):=a; rw[a]; rfl
       |rt b e=>rw[q] at a; have a:body (Y d)= .rt (eR b) (Y e):=a; rw[a]; rfl
       |exc x e=>rw[q] at a; have a:body (Y d)= .exc x (Y e):=a; rw[a]; rfl
       |bad=>trivial
   |exc x d=>rw[q] at f; have f:t (Y s)= .exc x (Y d):=f; rw[f]; rfl
   |bad=>trivial
@[simp] def j9(g:Z->Option (DI W))(p:Z->DI W->Z)(b:Z->Res (List Int))(a:Z->OutC Z W):Z->FlC Z X:=λs=>QN (a s) λx s=>match g s with
 |none=> .bad
 | some F=>(match b s with
   |.ok k=>if F.length<ak then .nx (p s (F.put k x)) else .bad
   |.exc y=> .exc y s
   |.bad=> .bad)
theorem fo{e:W->D}{get:Mi.Env->Option D}{set:Mi.Env->D->Mi.Env}{g:Z->Option (DI W)}{p:Z->DI W->Z}{mk:Mi.Env->Res D}{b:Z->Res (List Int)}{c:Mi.Env->Out D}{d:Z->OutC Z W}(j:∀ s,get (Y s)=(g s).map (bL e))(i:∀ s F,set (Y s) (bL e F)=Y (p s F))
 (a:EJ Y (lF D.int) mk b) (f:NJ Y e c d):TJ Y eR (jh get set mk c) (j9 g p b d):=λs=>SimS.bd (f s) λx s=>by
 have a:=a s;rw[j];cases g s with
 |none=>trivial
 |some F=>
   show SimS Y eR (xV set (e x) (bL e F) (Y s) (mk (Y s))) _;dsimp only;cases q:b s with
   |bad=>trivial
   |exc y=>rw[q] at a; have a:mk (Y s)= .exc y:=a; rw[a]; rfl
   |ok k=>
     rw[q] at a; have a:mk (Y s)= .ok (.tup (k.map D.int)):=a;rw[a];show SimS Y eR (xV set (e x) (bL e F) (Y s) (.ok (.tup (k.map D.int)))) (if F.length<ak then FlC.nx (p s (F.put k x)) else .bad);by_cases h:F.length<ak
     ·rw[if_pos h];unfold xV;dsimp only;rw[I8 h];show SO.nx _=SO.nx _;rw[i]
     ·rw[VM h]; trivial
@[simp] def cC(d:Option X):FlC Z X->OutC Z X
 |.nx s=>(match d with|some b=> .ok b s|none=> .bad)
 |.rt b s=> .ok b s
 |.exc x s=> .exc x s
 |_=> .bad
theorem kR{k:Nat}{ds:List D}{body:Mi.Env->SO}{c:Z->FlC Z X}{s:Z}{d:X}(hd:eR d= .non)(h:TJ Y eR body c)(e:ds.map some++List.replicate (k-ds.length) none=Y s):SimO Y eR (Mi.run k body ds) (cC (some d) (c s)):=by
 have h:=h s;unfold Mi.run;rw[e];cases q:c s with
 |nx a=>rw[q] at h; have h:body (Y s)= .nx (Y a):=h; rw[h]; show Out.ok .non _=Out.ok (eR d) _; rw[hd]
 |rt b a=>rw[q] at h; have h:body (Y s)= .rt (eR b) (Y a):=h; rw[h]; rfl
 |exc x a=>rw[q] at h; have h:body (Y s)= .exc x (Y a):=h; rw[h]; rfl
 |_=>trivial
theorem gm{k:Nat}{ds:List D}{body:Mi.Env->SO}{c:Z->FlC Z X}{s:Z}(h:TJ Y eR body c)(d:ds.map some++List.replicate (k-ds.length) none=Y s):SimO Y eR (Mi.run k body ds) (cC none (c s)):=by
 have h:=h s;unfold Mi.run;rw[d];cases q:c s with
 |rt b a=>rw[q] at h; have h:body (Y s)= .rt (eR b) (Y a):=h; rw[h]; rfl
 |exc x a=>rw[q] at h; have h:body (Y s)= .exc x (Y a):=h; rw[h]; rfl
 |_=>trivial
theorem dE{k:Nat}{ds:List D}{body:Mi.Env->SO}{c:Z->FlC Z X}{s:Z}(h:TJ Y eR body c)(d:ds.map some++List.replicate (k-ds.length) none=Y s):SimO Y eR (gB k body ds) (cC none (c s)):=by
 have h:=h s;unfold gB;rw[d];cases q:c s with
 |rt b a=>rw[q] at h; have h:body (Y s)= .rt (eR b) (Y a):=h; rw[h]; rfl
 |exc x a=>rw[q] at h; have h:body (Y s)= .exc x (Y a):=h; rw[h]; rfl
 |_=>trivial
end
section
variable{Z W X:Type}{Y:Z->Mi.Env}{eR:X->D}
theorem xp{e:W->D}{i:Nat}{g:Z->W}(h:∀ s,rg (Y s) i=some (e (g s)):=by exact λ_=>rfl):EJ Y e (vr i) (pC g):=Qa h
theorem xv{e:W->D}{i:Nat}{g:Z->Option W}(h:∀ s,rg (Y s) i=(g s).map e:=by exact λ_=>rfl):EJ Y e (vr i) (vC g):=P7 h
theorem xk{e:W->D}{d:D}{a:W}(h:e a=d:=by rfl):EJ Y e (aI d) (kC a):=vF h
theorem xs{e:W->D}{i:Nat}{m:Mi.Env->Out D}{c:Z->OutC Z W}{u:W->Z->Z}(h:NJ Y e m c)(b:∀ a s,(Y s).set i (some (e a))=Y (u a s):=by exact λ_ _=>rfl):TJ Y eR (bX i m) (bJ u c):=Nj b h
end
section
variable{Z σ' W X O J τ:Type}
theorem uq{u:W->Z->Z}{c:Z->FlC Z X}(R:τ->Z->Prop)(step:τ->W->τ):∀ (l:List W) (b:τ) (s:Z),R b s->
 (∀ b a s,a∈l->R b s->∃ d,(c (u a s)= .nx d\/c (u a s)= .ct d)/\R (step b a) d)->∃ d,ij u c l s= .nx d/\R (l.foldl step b) d
 |[],b,s,h,_=>⟨s,rfl,h⟩
 | a::l,b,s,h,st=>by
   obtain⟨s2,f,i⟩:=st b a s List.mem_cons_self h;obtain⟨d,e,h'⟩:=uq R step l (step b a) s2 i λb c s g=>st b c s (List.mem_cons_of_mem _ g);refine⟨d,?_,h'⟩;unfold ij;rcases f with f|f<;>(rw[f]; exact e)
theorem kQ{u:W->Z->Z}{c:Z->FlC Z X}(R:Z->Prop)(l:List W)(s:Z)(h:R s)(st:∀ a s,a∈l->R s->∃ b,(c (u a s)= .nx b\/c (u a s)= .ct b)/\R b):∃ b,ij u c l s= .nx b/\R b:=by
 obtain⟨b,e,h'⟩:=uq (τ:=Unit) (λ_ s=>R s) (λ_ _=>()) l () s h λ_ a s f d=>st a s f d;exact⟨b,e,h'⟩
theorem cF{u:W->Z->Z}{c:Z->FlC Z X}(R:List W->Z->Prop)(l:List W)(s:Z)(h:R [] s)(st:∀ p a r s,l=p++a::r->R p s->∃ b,(c (u a s)= .nx b\/c (u a s)= .ct b)/\R (p++[a]) b):∃ b,ij u c l s= .nx b/\R l b:=by
 have f:∀ (r p:List W) (s:Z),l=p++r->R p s->∃ b,ij u c r s= .nx b/\R l b:=by
  intro r
  induction r with
  |nil=>intro p s e h; rw[Wp] at e; exact⟨s,rfl,by rw[e]; exact h⟩
  |cons a r g=>
    intro p s e h;obtain⟨s2,d,i⟩:=st p a r s e h;obtain⟨b,j,h'⟩:=g (p++[a]) s2 (by rw[e]; simp) i;refine⟨b,?_,h'⟩;unfold ij;rcases d with d|d<;>(rw[d]; exact j)
 exact f l [] s rfl h
theorem AK{t:Z->OutC Z Bool}{c:Z->FlC Z X}(R:Nat->Z->Prop)(S:Z->Prop)(st:∀ n s,R n s->(t s= .ok false s/\S s)\/(t s= .ok true s/\∃ m s2,m<n/\(c s= .nx s2\/c s= .ct s2)/\R m s2)):
 ∀ (fuel n:Nat) (s:Z),R n s->n<fuel->∃ a,Ng t c fuel s= .nx a/\S a
 |0,n,s,h,f=>absurd f (Nat.not_lt_zero _)
 | fuel+1,n,s,h,f=>by
   unfold Ng;rcases st n s h with ⟨e,d⟩|⟨e,m,s2,j,b,g⟩
   ·rw[e];exact⟨s,rfl,d⟩
   ·rw[e];obtain⟨a,i,d⟩:=AK R S st fuel m s2 g (by omega);refine⟨a,?_,d⟩;dsimp only;rcases b with b|b<;>(rw[b]; exact i)
theorem uE{d:W->Res Bool}{te:W->Res X}(p:W->Bool)(g:W->X):∀ l:List W,(∀ a∈l,d a= .ok (p a))->(∀ a∈l,p a=true->te a= .ok (g a))->iR d te l= .ok ((l.filter p).map g)
 |[],_,_=>rfl
 | a::l,h,f=>by
   have e:=uE p g l (λb c=>h b (List.mem_cons_of_mem _ c)) λb c=>f b (List.mem_cons_of_mem _ c);unfold iR;rw[h a List.mem_cons_self];show(if p a=true then _ else _)=_;cases hp:p a with
   |true=>
     rw[on rfl,f a VP hp,e,WG,on hp];rfl
   |false=>rw[VM V0,e,WG,VM (by rw[hp]; exact V0)]
theorem jQ{src:Z->Res (List W)}{b:W×Z->Res Bool}{te:W×Z->Res X}{s:Z}{l:List W}(p:W->Bool)(g:W->X)(c:src s= .ok l)(d:l.length<ak)(f:∀ a∈l,b (a,s)= .ok (p a))(e:∀ a∈l,p a=true->te (a,s)= .ok (g a)):
 cp src b te s= .ok ((l.filter p).map g):=by
 unfold cp;rw[c];show(if l.length<ak then _ else _)=_;rw[if_pos d];exact uE p g l f e
theorem fG{src:Z->Res (List W)}{te:W×Z->Res X}{s:Z}{l:List W}(g:W->X)(b:src s= .ok l)(c:l.length<ak)(e:∀ a∈l,te (a,s)= .ok (g a)):
 cp src (λ_=> .ok true) te s= .ok (l.map g):=by
 rw[jQ (λ_=>true) g b c (λ_ _=>rfl) λa d _=>e a d,List.filter_eq_self.mpr λ_ _=>rfl]
theorem k8(xs:List W){i:Int}(h:0<=i):kj xs i=xs[i.toNat]?:=by
 unfold kj IB;rw[if_pos h];by_cases z:i<xs.length
 ·rw[on z]; rfl
 ·rw[VM z,Wd (by omega)]; rfl
theorem yK(xs:List W):kj xs (-1)=xs.getLast?:=by
 unfold kj IB;rw[if_neg (by omega),List.getLast?_eq_getElem?];cases xs with
 |nil=>rfl
 |cons x r=>
   rw[on (by simp only[VU]; omega)];show(x::r)[(-1+((x::r).length:Int)).toNat]?=_;rw[show(-1+((x::r).length:Int)).toNat=(x::r).length-1 by omega]
theorem bH(lo hi:Int):(bg lo hi).length=(hi-lo).toNat:=by unfold bg; simp
theorem d6{lo hi x:Int}:x∈bg lo hi↔lo<=x/\x<hi:=by
 unfold bg;rw[List.mem_map];constructor
 · rintro⟨i,a,rfl⟩
   have:=List.mem_range.mp a
   omega
 ·rintro⟨c,b⟩;exact⟨(x-lo).toNat,List.mem_range.mpr (by omega),by omega⟩
theorem lp{lo hi x:Int}{p r:List Int}(h:bg lo hi=p++x::r):x=lo+p.length/\lo<=x/\x<hi:=by
 have b:x∈bg lo hi:=by rw[h]; simp
 have a:=d6.mp b;have e:(bg lo hi)[p.length]?=some x:=by rw[h,Xs (VW _),Nat.sub_self]; rfl
 unfold bg at e;rw[List.getElem?_map] at e
 have c:p.length<(hi-lo).toNat:=by
  have:=bH lo hi
  rw[h,VT,VU] at this;omega
 rw[X6 c] at e;injection e with e
 exact⟨e.symm,a⟩
theorem qY(lo hi:Int):(bg lo hi).Nodup:=by
 unfold bg;unfold List.Nodup;rw[List.pairwise_map];refine List.Pairwise.imp ?_ (List.nodup_range (n:=(hi-lo).toNat));intro a b h z;exact h (by omega)
theorem m8{F:DI X}{k:List Int}{v:X}(h:F.get k=some v):(k,v)∈F:=by
 unfold DI.get at h;obtain⟨p,hp,rfl⟩:=Option.map_eq_some_iff.mp h
 have:=List.find?_some hp
 have e:p.1=k:=by simpa using this
 subst e;exact List.mem_of_find?_eq_some hp
theorem ft{P:List Int->Prop}{F:DI X}{k:List Int}{v:X}(h:∀ p∈F,P p.1)(b:P k):∀ p∈F.put k v,P p.1:=by
 intro p hp;unfold DI.put at hp;split at hp
 ·obtain⟨q,a,rfl⟩:=List.mem_map.mp hp;split<;>exact h q a
 · rcases List.mem_append.mp hp with z|z
   ·exact h p z
   ·rw[List.mem_singleton.mp z]; exact b
theorem cy{F:DI X}{k:List Int}{v:X}:(F.put k v).length<=F.length+1:=by
 unfold DI.put;split
 ·rw[VN]; omega
 ·rw[VT]; simp
def DI.nd(F:DI X):Prop:=(F.map (·.1)).Nodup
theorem h8{F:DI X}{k:List Int}{v:X}(h:DI.nd F):DI.nd (F.put k v):=by
 unfold DI.nd DI.put at *;by_cases q:(F.get k).isSome=true
 · rw[on q,Wk]
   have:(F.map ((·.1)∘λp=>if p.1=k then (p.1,v) else p))=F.map (·.1):=W1 λp _=>by
    show(if p.1=k then (p.1,v) else p).1=p.1;split<;>rfl
   rw[this]; exact h
 · rw[VM q,Wq];refine List.nodup_append.mpr ⟨h,by simp,λa d b c=>?_⟩;have e:b=k:=by simpa using c
   subst e;rintro rfl;obtain⟨p,hp,e⟩:=List.mem_map.mp d;apply q;unfold DI.get;rw[Option.isSome_map,List.find?_isSome];exact⟨p,hp,by simpa using e⟩
theorem z8{F:DI X}(h:DI.nd F){k:List Int}{v:X}(a:(k,v)∈F):F.get k=some v:=by
 unfold DI.nd at h
 induction F with
 |nil=>cases a
 |cons p F b=>
   rw[List.map_cons,List.nodup_cons] at h;unfold DI.get;rw[List.find?_cons];by_cases e:p.1=k
   · rw[Wm e];rcases List.mem_cons.mp a with z|z
     ·rw[<-z]; rfl
     ·exact absurd (List.mem_map.mpr ⟨(k,v),z,e.symm⟩) h.1
   · rw[We e];rcases List.mem_cons.mp a with z|z
     ·exact absurd (by rw[<-z]) e
     ·exact b h.2 z
end
end Cl
namespace L2
open PySem PySem.Spec PyProof.Rows
theorem qA{X:Cx}(K:L0)(h:X.K=K):Vi X (NZ K):=by subst h; exact K0
end L2
namespace Mi
open PySem L2
def xU:D->D->Res D
 |.lst xs,.int k=>if 0<=k then .ok (.lst (xs.drop k.toNat)) else .bad
 |.scr xs,.int k=>if 0<=k then .ok (.lst (xs.drop k.toNat)) else .bad
 |_,_=> .bad
theorem yc{k:Int}(h:0<=k)(xs:List V):Ep xs (some k) none=xs.drop k.toNat:=by
 unfold Ep;have e:HT.wQ xs.length 0 (some k)=min k.toNat xs.length:=by show(if k<0 then _ else _)=_; rw[if_neg (by omega)]
 rw[e,HT.FM];by_cases z:k.toNat<=xs.length
 ·rw[Nat.min_eq_left z,List.take_of_length_le (by rw[List.length_drop]; omega)]
 ·rw[Nat.min_eq_right (by omega),Nat.sub_self,List.take_zero,List.drop_eq_nil_of_le (by omega)]
section
variable{Y:Cm}{E:XK}{T:List Md}{Kr:KT D V}{pr:Nat->Bool}
theorem zu{ta tb:TE}{l j:Env->Res D}(q:PJ Y (KC Y .F) E T ta l)(o:PJ Y (KR Y .X) E T tb j):PJ Y (KO Y (.ct .fz)) E T (UX (NZ Y.K) ta (AN tb) p5) (bn xU l j):=by
 intro B U As Z H M Q R P;refine q.bnd R P λx v I U1 L O _ r A w N s=>o.bnd r s λy u n m i C _ R2 d t e c=>?_;have N:Cn Y I L x v:=N;have e:Dn Y i y u:=e;cases y with
 |int k=>
   rw[Dn] at e;subst e;refine⟨k,rfl,?_⟩;cases x with
   |lst ds=>
     obtain⟨a,xs,rfl,g,f⟩:=N;replace c:Po Y (KO Y (.ct .fz)) E T n m As Z i M (if 0<=k then .ok (.lst (ds.drop k.toNat)) else .bad) Q:=c;by_cases z:0<=k
     ·rw[on z] at c;refine⟨a,xs,rfl,SqL.of (d.h _ _ g),λp hp=>?_⟩;rw[yc z];exact fB R2 c ((f.mono d.b).drop _) hp
     ·rw[VM z] at c; exact c.elim
   |scr ds=>
     obtain⟨a,xs,rfl,g,f⟩:=N;replace c:Po Y (KO Y (.ct .fz)) E T n m As Z i M (if 0<=k then .ok (.lst (ds.drop k.toNat)) else .bad) Q:=c;by_cases z:0<=k
     ·rw[on z] at c;refine⟨a,xs,rfl,(g.mono d.h).sq,λp hp=>?_⟩;rw[yc z];exact fB R2 c ((f.mono d.b).drop _) hp
     ·rw[VM z] at c; exact c.elim
   |_=>exact c.elim
 |_=>cases x<;>exact c.elim
open Classical in
end
end Mi
namespace Cl
open PySem L2 Mi
section
variable{Z W X O J:Type}{Y:Z->Mi.Env}{eR:X->D}
@[simp] def rN(xs:List W)(k:Int):Res (List W):=if 0<=k then .ok (xs.drop k.toNat) else .bad
theorem zy{e:W->D}(xs:List W)(k:Int):SimR (eL e) (xU (eL e xs) (.int k)) (rN xs k):=by
 show SimR (eL e) (if 0<=k then .ok (.lst ((xs.map e).drop k.toNat)) else .bad) (if 0<=k then .ok (xs.drop k.toNat) else .bad);rw[<-List.map_drop];exact SimR.ite rfl trivial
open Classical in
end
end Cl
namespace Mi
open PySem L2
def vD(xs:List D)(x:D):Option (D×List D):=match x with
 |.lst ys=>if xs.length+ys.length<=ak then some (.non,xs++ys) else none
 |_=>none
section
variable{Y:Cm}{E:XK}{T:List Md}{K:L0}{t:TE}{get:Env->Option D}{set:Env->D->Env}
theorem je{te:TE}{g:Env->Res D}(p:Pth Y T t get set)(l:PJ Y (KR Y .F) E T te g):MJ Y (KR Y .F) E T (AR K "list" BB t (b9 te d8)) (ie get set vD g):=
 BS (f:=vD) p l λB U H a ds xs x u d es Q bu uh n i e c k=>by
  cases x with
  |lst ys=>
    have e:Dn Y B (.lst ys) u:=e;rw[Dn] at e;obtain⟨b,j,rfl,m,h⟩:=e;replace c:(if ds.length+ys.length<=ak then some (D.non,ds++ys) else none)=some (d,es):=c;by_cases z:ds.length+ys.length<=ak
    ·rw[on z] at c;cases c;exact⟨a,b,xs,j,rfl,rfl,n,uh _ _ (bu _ _ m),WO (f7 (by rw[<-i.len,<-h.len]; exact z)),k .non _ (by rw[Dn]) (i.append h)⟩
    ·rw[VM z] at c;cases c
  |_=>cases c
end
end Mi
namespace Cl
open PySem L2 Mi
section
variable{Z W X O J:Type}{Y:Z->Mi.Env}
def tL(xs ys:List W):Option (Unit×List W):=if xs.length+ys.length<=ak then some ((),xs++ys) else none
theorem ur{e:W->D}:Km (δ':=Unit) e (eL e) eN vD tL:=λxs ys=>by
 unfold tL;by_cases h:xs.length+ys.length<=ak
 ·rw[on h];show(if (xs.map e).length+(ys.map e).length<=ak then some (D.non,xs.map e++ys.map e) else none)=some (eN (),(xs++ys).map e);rw[VN,VN,on h,Wq]; rfl
 ·rw[VM h]; trivial
end
section
variable{Z σ' W X O J:Type}{Y:Z->Mi.Env}{V:σ'->Mi.Env}
variable{α0 α1 α2 α3 α4 α5 α6 α7:Type}{e0:α0->D}{e1:α1->D}{e2:α2->D}{e3:α3->D}{e4:α4->D}{e5:α5->D}{e6:α6->D}{e7:α7->D}{m0 m1 m2 m3 m4 m5 m6 m7:Mi.Env->Res D}{c0:Z->Res α0}{c1:Z->Res α1}{c2:Z->Res α2}{c3:Z->Res α3}{c4:Z->Res α4}{c5:Z->Res α5}{c6:Z->Res α6}{c7:Z->Res α7}{eR:O->D}{fm:List D->Out D}{w:σ'->Z->Z}{plan:List Ap}{c:Nat}{mn:Str}
@[simp] def GK(f:α0->α1->α2->α3->α4->α5->OutC σ' O)(c0:Z->Res α0)(c1:Z->Res α1)(c2:Z->Res α2)(c3:Z->Res α3)(c4:Z->Res α4)(c5:Z->Res α5):Z->Res O:=λs=>(c0 s).bind λg=>(c1 s).bind λe=>(c2 s).bind λd=>(c3 s).bind λc=>(c4 s).bind λb=>(c5 s).bind λa=>(f g e d c b a).res
@[simp] def TC(f:α0->α1->α2->α3->α4->α5->OutC σ' O)(w:σ'->Z->Z)(c0:Z->Res α0)(c1:Z->Res α1)(c2:Z->Res α2)(c3:Z->Res α3)(c4:Z->Res α4)(c5:Z->Res α5):Z->OutC Z O:=λs=>bndO (c0 s) s λg=>bndO (c1 s) s λe=>bndO (c2 s) s λd=>bndO (c3 s) s λc=>bndO (c4 s) s λb=>bndO (c5 s) s λa=>Ri w s (f g e d c b a)
theorem vE{f:α0->α1->α2->α3->α4->α5->OutC σ' O}(h:∀ g e d c b a,SimO V eR (fm [e0 g,e1 e,e2 d,e3 c,e4 b,e5 a]) (f g e d c b a))(h0:EJ Y e0 m0 c0)(m:EJ Y e1 m1 c1)(l:EJ Y e2 m2 c2)(k:EJ Y e3 m3 c3)(j:EJ Y e4 m4 c4)(i:EJ Y e5 m5 c5):EJ Y eR (pc fm (au m0 (au m1 (au m2 (au m3 (au m4 (au m5 ba))))))) (GK f c0 c1 c2 c3 c4 c5):=λs=>pU h0 λg=>pU m λe=>pU l λd=>pU k λc=>pU j λb=>pU i λa=>(h g e d c b a).res
theorem OR{f:α0->α1->α2->α3->α4->α5->OutC σ' O}(i:∀ h s,gA plan 0 (V h) (Y s)=Y (w h s))(j:∀ g e d c b a,SimO V eR (fm [e0 g,e1 e,e2 d,e3 c,e4 b,e5 a]) (f g e d c b a))(h0:EJ Y e0 m0 c0)(o:EJ Y e1 m1 c1)(n:EJ Y e2 m2 c2)(m:EJ Y e3 m3 c3)(l:EJ Y e4 m4 c4)(k:EJ Y e5 m5 c5):NJ Y eR (mc plan fm (au m0 (au m1 (au m2 (au m3 (au m4 (au m5 ba))))))) (TC f w c0 c1 c2 c3 c4 c5):=λs=>DP h0 λg=>DP o λe=>DP n λd=>DP m λc=>DP l λb=>DP k λa=>SimO.wb i (j g e d c b a) s
end
end Cl
namespace L2
open PySem PySem.Spec PyProof.Rows PySem.W
def cG{W:Type}(c:Nat->Nat->Bool):KasT W->W
 |.ret a=>a
 |.ask i j k=>cG c (k (c i j))
def KasIn{W:Type}(n:Nat)(R:W->Prop):KasT W->Prop
 |.ret a=>R a
 |.ask i j k=>i<n/\j<n/\∀ b,KasIn n R (k b)
theorem KasIn.bind{W X:Type}{n:Nat}{R:W->Prop}{S:X->Prop}{f:W->KasT X}:∀ {t:KasT W},KasIn n R t->(∀ a,R a->KasIn n S (f a))->KasIn n S (t.bind f)
 |.ret a,h,c=>c a h
 |.ask i j k,h,c=>⟨h.1,h.2.1,λb=>KasIn.bind (h.2.2 b) c⟩
theorem KasIn.run{W:Type}{n:Nat}{R:W->Prop}{c:Nat->Nat->Bool}:∀ {t:KasT W},KasIn n R t->R (cG c t)
 |.ret a,h=>h
 |.ask i j k,h=>KasIn.run (c:=c) (t:=k (c i j)) (h.2.2 (c i j))
theorem KasIn.wp{W:Type}{n:Nat}{R:W->Prop}{c:Nat->Nat->Bool}{b:Nat->Nat->(Bool->Shared->Prop)->Shared->Prop}{s:Shared}(d:∀ i j C,i<n->j<n->C (c i j) s->b i j C s){Q:W->Shared->Prop}:∀ {t:KasT W},KasIn n R t->Q (cG c t) s->t.kasWp b Q s
 |.ret a,_,q=>q
 |.ask i j k,h,q=>d i j _ h.1 h.2.1 (KasIn.wp d (h.2.2 (c i j)) q)
def Bd(n:Nat)(p:Array Nat):Prop:=p.size=n/\∀ x∈p,x<n
theorem Bd.at{n:Nat}{p:Array Nat}(h:Bd n p)(a:0<n)(i:Nat):p.getD i 0<n:=by
 rw[Wn];by_cases hi:i<p.size
 ·rw[Wu hi]; exact h.2 _ (Array.getElem_mem hi)
 ·rw[YD (by omega)]; exact a
theorem Bd.of{n:Nat}{p q:Array Nat}(h:Bd n p)(e:q.Perm p)(z:q.size=p.size):Bd n q:=⟨z.trans h.1,λx a=>h.2 x (e.mem_iff.mp a)⟩
theorem Bd.rev{n:Nat}{p:Array Nat}(h:Bd n p)(i j:Nat):Bd n (kas_rev p i j):=h.of (mirror_perm _ _ _ _) (mirror_size _ _ _ _)
theorem Bd.bub{n:Nat}{p:Array Nat}(h:Bd n p)(i j:Nat):Bd n (bubble p i j):=h.of (bubble_perm _ _ _) (bubble_size _ _ _)
section
variable{n:Nat}(hn:0<n)
include hn
theorem z6{p:Array Nat}(h:Bd n p):∀ f k,KasIn n (λ_=>True) (kas_asc p f k)
 |0,k=>trivial
 | f+1,k=>⟨h.at hn _,h.at hn _,λb=>by
   cases b with
   |true=>dsimp only; rw[if_pos rfl]; trivial
   |false=>dsimp only; rw[if_neg Bool.false_ne_true]; exact z6 h f (k+1)⟩
theorem qg:∀ f (p:Array Nat) k q,Bd n p->KasIn n (λr=>Bd n r.1) (kas_desc f p k q)
 |0,p,k,q,h=>h
 | f+1,p,k,q,h=>⟨h.at hn _,h.at hn _,λb=>by
   cases b with
   |true=>
     dsimp only;rw[if_pos rfl];by_cases z:q>0
     ·rw[on z]; exact qg f _ _ _ (h.rev _ _)
     ·rw[VM z]; exact qg f _ _ _ h
   |false=>
     dsimp only;rw[if_neg Bool.false_ne_true];refine⟨h.at hn _,h.at hn _,λd=>?_⟩;cases d with
     |true=>dsimp only; rw[if_pos rfl]; exact h
     |false=>dsimp only; rw[if_neg Bool.false_ne_true]; exact qg f _ _ _ h⟩
theorem xH{p:Array Nat}(h:Bd n p)(a b:Nat):KasIn n (λr=>Bd n r.2) (kas_tail3 a b p):=(z6 hn (h.rev 0 a) _ _).bind λm _=>h.rev 0 a
theorem pi{p:Array Nat}(h:Bd n p)(a b:Nat):KasIn n (λr=>Bd n r.2) (kas_descPart a b p):=(qg hn _ _ _ _ h).bind λr c=>by
 by_cases z:r.2.2>0
 ·rw[on z]; exact xH hn (c.rev _ _) _ _
 ·rw[VM z]; exact xH hn c _ _
theorem IH{p:Array Nat}(h:Bd n p)(b:Nat):KasIn n (λr=>Bd n r.2) (kas_count b p):=(z6 hn h _ _).bind λm _=>by
 by_cases z:(m==b)=true
 ·rw[on z]; exact h
 · rw[VM z];by_cases y:m>1
   · rw[on y];refine⟨h.at hn _,h.at hn _,λc=>?_⟩;cases c with
     |true=>dsimp only; rw[if_pos rfl]; exact h
     |false=>dsimp only; rw[if_neg Bool.false_ne_true]; exact pi hn (h.rev _ _) _ _
   ·rw[VM y]; exact pi hn h _ _
theorem rB{p:Array Nat}(h:Bd n p)(k:Nat):∀ f l r,KasIn n (λ_=>True) (kas_place p k f l r)
 |0,l,r=>trivial
 | f+1,l,r=>by
   unfold kas_place;by_cases z:l>=r
   ·rw[on z]; trivial
   · rw[VM z];refine⟨h.at hn _,h.at hn _,λc=>?_⟩;cases c with
     |true=>dsimp only; rw[if_pos rfl]; exact rB h k f _ _
     |false=>dsimp only; rw[if_neg Bool.false_ne_true]; exact rB h k f _ _
theorem II:∀ f (p:Array Nat) k,Bd n p->KasIn n (Bd n) (kas_bin f p k)
 |0,p,k,h=>h
 |f+1,p,k,h=>(rB hn h k _ _ _).bind λl _=>II f _ _ (h.bub _ _)
theorem B0:KasIn n (Bd n) (kas_sort n):=by
 have h0:Bd n (List.toArray (List.range n)):=⟨by simp,λx b=>by simpa using b⟩;refine(IH hn h0 n).bind λr a=>?_;by_cases z:r.1<n
 ·rw[on z]; exact II hn _ _ _ a
 ·rw[VM z]; exact a
end
def bq(a:List (List Int)):List Nat:=if a.length<2 then List.range a.length else (cG (λi j=>HT.cQ (a.getD i []) (a.getD j [])) (kas_sort a.length)).toList
theorem i7(a:List (List Int)):(bq a).length=a.length/\∀ i∈bq a,i<a.length:=by
 unfold bq;by_cases h:a.length<2
 ·rw[on h]; exact⟨XS,λi hi=>List.mem_range.mp hi⟩
 · rw[VM h]
   have:=(B0 (n:=a.length) (by omega)).run (c:=λi j=>HT.cQ (a.getD i []) (a.getD j []))
   exact⟨by rw[Wr]; exact this.1,λi hi=>this.2 i (by simpa using hi)⟩
def pick{W:Type}(l:List W)(p:List Nat):List W:=p.filterMap λi=>l[i]?
theorem kB{W X:Type}(f:W->X)(l:List W)(p:List Nat):pick (l.map f) p=(pick l p).map f:=by
 unfold pick;rw[List.map_filterMap];congr 1;funext i;rw[List.getElem?_map]
def wB(h:Heap)(v:Value)(ks:List Int):Prop:=∃ a o xs n,v= .ref a/\h.get? a=some o/\o.cls= .type "tuple" /\ o.data= .seq xs n/\IntsAre xs.toList ks
def IntTups(h:Heap):List Value->List (List Int)->Prop
 |[],[]=>True
 |v::vs,k::ks=>wB h v k/\IntTups h vs ks
 |_,_=>False
theorem IntTups.len{h:Heap}:∀ {vs:List Value} {a:List (List Int)},IntTups h vs a->vs.length=a.length
 |[],[],_=>rfl
 |[],_::_,h=>h.elim
 |_::_,[],h=>h.elim
 |v::vs,k::ks,h=>by rw[VU,VU,h.2.len]
theorem IntTups.get{h:Heap}:∀ {vs:List Value} {a:List (List Int)} {i:Nat},IntTups h vs a->i<a.length->wB h (vs.getD i .none) (a.getD i [])
 |[],[],_,_,hi=>by simp at hi
 |[],_::_,_,h,_=>h.elim
 |_::_,[],_,h,_=>h.elim
 |v::vs,k::ks,0,h,_=>h.1
 |v::vs,k::ks,i+1,h,hi=>IntTups.get (i:=i) h.2 (by simpa using hi)
theorem IntTups.mono{h h':Heap}:∀ {vs:List Value} {c:List (List Int)},IntTups h vs c->(∀ b o,h.get? b=some o->o.cls= .type "tuple" -> h'.get? b=some o)->IntTups h' vs c
 |[],[],_,_=>trivial
 |[],_::_,h,_=>h.elim
 |_::_,[],h,_=>h.elim
 |v::vs,k::ks,h,e=>⟨let ⟨a,o,xs,n,i,g,d,f⟩:=h.1; ⟨a,o,xs,n,i,e _ _ g d,d,f⟩,h.2.mono e⟩
section
variable{prog:Program}{w:World}{A:Around}{E:L3}{s:Shared}
theorem Ib{b:Bool}{Q:Bool->Shared->Prop}:∀ {xs ys:List Value} {ks c:List Int} (i:Nat) (a:Bool),IntsAre xs ks->IntsAre ys c->Q (if (ks.zip c).all (λp=>p.1==p.2) then a else HT.cQ ks c) s->KatLex prog w A b a Q (xs.zip ys) i s:=by
 intro xs ys ks c i a k
 induction k generalizing ys c i with
 |nil=>intro _ q; simpa [KatLex] using q
 |cons n t l h=>
   intro j;cases j with
   |nil=>intro q; simpa [KatLex] using q
   |cons m u d=>
     intro q;rw[Yg];refine kat_cons (wpAny_eqBool_int ?_);by_cases e:n=m
     ·subst e;rw[WU];refine kat_yes (h (i+1) d ?_);have f:=q;rw[Yg,YY,WU,Bool.true_and,HT.dC,on rfl] at f;exact f
     · rw[beq_eq_false_iff_ne.mpr e];refine kat_no ?_
       have g:Q (decide (n<m)) s:=by
        simpa [HT.dC,e] using q
       cases b&&i==0 with
       |true=>exact oneLt_int g
       |false=>exact kat_one _ _ (PyProof.Rows.lt_int g)
theorem BV:∀ {ks a:List Int},(ks.zip a).all (λp=>p.1==p.2)=true->HT.cQ ks a=decide (ks.length<a.length)
 |[],[],_=>rfl
 |[],_::_,_=>by rw[HT.rh]; simp
 |_::_,[],_=>by rw[HT.ri]; simp
 | k::ks,j::a,h=>by
   rw[Yg,YY,Bool.and_eq_true_iff] at h;have e:k=j:=by simpa using h.1
   rw[HT.dC,on e,BV h.2];simp
theorem Py{b:Bool}{Q:Bool->Shared->Prop}{x y:Value}{ks d:List Int}(h:wB s.heap x ks)(g:wB s.heap y d)(q:Q (HT.cQ ks d) s):wpAny (model prog w) A (keyLt' (tuples' b) x y) Q E s:=by
 obtain⟨a,t,xs,n,rfl,j,_,r,f⟩:=h;obtain⟨c,oc,ys,m,rfl,i,_,o,e⟩:=g;refine kat_lt j r i o (Ib 0 _ f e ?_);by_cases z:(ks.zip d).all (λp=>p.1==p.2)=true
 · rw[on z];have l:xs.size=ks.length:=by rw[<-Wr]; exact f.length
   have k:ys.size=d.length:=by rw[<-Wr]; exact e.length
   rw[l,k,<-BV z]; exact q
 ·rw[VM z]; exact q
theorem IA:∀ {vs:List Value} {b:List (List Int)},IntTups s.heap vs b->(∀ k∈b,k≠[])->∃ fs:List Value,KatTups s.heap vs fs/\fs.length=b.length/\∀ v∈fs,∃ i t,v=Value.int i t
 |[],[],_,_=>⟨[],trivial,rfl,λ_ h=>(nomatch h)⟩
 |[],_::_,h,_=>h.elim
 |_::_,[],h,_=>h.elim
 | v::vs,k::ks,h,ne=>by
   obtain⟨fs,r,p,m⟩:=IA h.2 λx d=>ne x (VR _ d);obtain⟨a,o,xs,n,rfl,g,j,hd,hi⟩:=h.1;have c:=ne k VP;cases k with
   |nil=>exact absurd rfl c
   |cons z u=>
     generalize e:xs.toList=l at hi;cases hi with
     |cons _ t w=>
       refine⟨.int z t::fs,⟨⟨a,o,xs,n,rfl,g,j,hd,?_⟩,r⟩,by rw[VU,VU,p],λv f=>?_⟩
       ·rw[<-WI,e]; rfl
       · rcases List.mem_cons.mp f with q|q
         ·exact⟨z,t,q⟩
         ·exact m v q
theorem Fp{a:Addr}{vs:List Value}{d:List (List Int)}{n:Nat}{P:PySem.Fin->Shared->Prop}(J:s.heap.get? a=some (seqObj "list" vs.toArray n))(S:IntTups s.heap vs d)(ne:∀ k∈d,k≠[])(h64:d.length<64)
 (h:∀ h' c,(∀ b o,b≠a->s.heap.get? b=some o->h'.get? b=some o)->h'.get? a=some (seqObj "list" (pick vs (bq d)).toArray c)->P (.done (.ret .none)) {s with heap:=h'}):
 wpAny (model prog w) A (Builtin.«list.sort» ⟨[.ref a],[]⟩) P E s:=by
 have ln:=S.len;have hlt:a<s.heap.objs.size:=VX J;have X:=Xd s.heap a (Obj.mapSeq λ_=>(#[]:Array Value));obtain⟨O,I⟩:∃ O,(s.heap.update a (Obj.mapSeq λ_=>(#[]:Array Value))).get? a=some (seqObj "list" #[] O):=⟨_,get?_update_seq J λ_=>#[]⟩;rw[list_sort_plain];refine VO (listItems_at J rfl ?_);refine VO (listUpdate_at J rfl ?_ (by rw[VZ,Xg]; omega) (WP _));refine VO (seqEpoch_at I rfl ?_);refine VO (wpAny_newTuple ?_ (by show vs.length<=_; rw[Xg]; omega));refine VO (wpAny_newList ?_ (WP _));refine Xa ?_;have keep:∀ b o,b≠a->s.heap.get? b=some o->(((s.heap.update a (Obj.mapSeq λ_=>(#[]:Array Value))).push (seqObj "tuple" vs.toArray 0)).push (seqObj "list" #[] 0)).get? b=some o:=λb o y e=>VS _ (VS _ ((X.2 b y).trans e));have m:(((s.heap.update a (Obj.mapSeq λ_=>(#[]:Array Value))).push (seqObj "tuple" vs.toArray 0)).push (seqObj "list" #[] 0)).get? a=some (seqObj "list" #[] O):=VS _ (VS _ I);show wpAny (model prog w) A _ P E {s with heap:=((s.heap.update a (Obj.mapSeq λ_=>(#[]:Array Value))).push (seqObj "tuple" vs.toArray 0)).push (seqObj "list" #[] 0)};generalize ((s.heap.update a (Obj.mapSeq λ_=>(#[]:Array Value))).push (seqObj "tuple" vs.toArray 0)).push (seqObj "list" #[] 0)=g at keep m;have B:IntTups g vs d:=S.mono λb o e hc=>keep b o (λz=>by subst z; rw[J] at e; cases e; have N:Value.type "list" = Value.type "tuple" := hc; exact absurd N (by decide)) e
 have K:∀ f:Array Value,f=(pick vs (bq d)).toArray->f.size<=sizeLine+1->wpAny (model prog w) A (Builtin.List.listUpdate (.ref a) λ_=>f) (λ_ s2=>P (.done (.ret .none)) s2) E {s with heap:=g}:=λf e hz=>by
  refine listUpdate_at (s:={s with heap:=g}) m rfl ?_ (WP _) hz;have s2:=Xd g a (Obj.mapSeq λ_=>f);obtain⟨R,M⟩:∃ R,(g.update a (Obj.mapSeq λ_=>f)).get? a=some (seqObj "list" f R):=⟨_,get?_update_seq m λ_=>f⟩;exact h _ R (λb o y eb=>(s2.2 b y).trans (keep b o y eb)) (by rw[M,e])
 have H:(pick vs (bq d)).toArray.size<=sizeLine+1:=by
  rw[VZ]
  have:=List.length_filterMap_le (λi=>vs[i]?) (bq d)
  have:=(i7 d).1
  unfold pick;rw[sizeLine_eq]; omega
 dsimp only;by_cases L:vs.length<2
 · have r:vs.toArray.size<2:=by rw[VZ]; exact L
   rw[if_pos r,if_pos r];refine wpAny_bind (wpAny_pure (wpAny_bind (wpAny_pure ?_)));dsimp only;refine wpAny_bind (seqEpoch_at (s:={s with heap:=g}) m rfl ?_)
   have D:(arrOf (SortSt.mk' general' (vs.toArray.zip vs.toArray) #[] 7 none)).map (·.2)=(pick vs (bq d)).toArray:=by
    have e0:arrOf (SortSt.mk' general' (vs.toArray.zip vs.toArray) #[] 7 none)=vs.toArray.zip vs.toArray:=rfl
    have e2:pick vs (bq d)=vs:=by
     unfold bq pick;rw[if_pos (by omega),<-ln]
     match vs,L with
     |[],_=>rfl
     |[x],_=>rfl
    rw[e0,e2]
    match vs,L with
    |[],_=>simp
    |[x],_=>simp
   refine VO (W8 (K _ D (by rw[D]; exact H)) (λ_ s2 q=>?_) λ_ _ e=>e);simp only[bne_self_eq_false,W4,XM];exact VY q
 · have r:¬ vs.toArray.size<2:=by rw[VZ]; exact L
   rw[VM r,VM r];obtain⟨fs,Y,kl,Z⟩:=IA (s:={s with heap:=g}) B ne;refine VO (kat_kind (s:={s with heap:=g}) (T:= .type "int") Y (by omega) (λv hv=>by obtain⟨i,t,rfl⟩:=Z v hv; exact .now) (by decide) ?_)
   refine VO (W8 (kat_run (ks:=vs) (vs:=vs) (Q:=λu F=>F={s with heap:=g}/\(arrOf u).map (·.2)=(pick vs (bq d)).toArray/\failedOf u=none)
    (G:=λp F=>F={s with heap:=g}/\p=cG (λi j=>HT.cQ (d.getD i []) (d.getD j [])) (kas_sort vs.length)) rfl (by omega) (by omega) (λp u F a1 a2 a3 W=>?_) ?_) ?_ λ_ _ e=>e)
   · refine⟨W.1,?_,a3⟩;rw[kat_snds rfl a2];congr 1
     have hp:p.toList=bq d:=by
      unfold bq;rw[if_neg (by omega),W.2,ln]
     rw[hp];unfold pick;have y:=(i7 d).2;generalize bq d=l at y
     induction l with
     |nil=>rfl
     |cons i l ih=>
       have hi:i<vs.length:=by rw[ln]; exact y i VP
       rw[VQ,ih λj U=>y j (VR _ U),XA,V1 hi];simp[V6,V1 hi]
   ·refine(B0 (n:=vs.length) (by omega)).wp (c:=λi j=>HT.cQ (d.getD i []) (d.getD j [])) (λi j C hi U q=>?_) ⟨rfl,rfl⟩;exact Py (s:={s with heap:=g}) (B.get (by omega)) (B.get (by omega)) q
   ·rintro⟨⟨⟩,u⟩ F ⟨rfl,D,V⟩;dsimp only at D V ⊢;refine wpAny_bind (seqEpoch_at (s:={s with heap:=g}) m rfl ?_);refine wpAny_bind (wpAny_mono (K _ D (by rw[D]; exact H)) (λ_ s2 q=>?_) λ_ _ e=>e);rw[V];simp only[bne_self_eq_false,Bool.false_eq_true,if_false];exact wpAny_pure q
end
section
variable{X:Cx}{K:L0}
def TupsI(H:Hp):List Addr->List (List Int)->Prop
 |[],[]=>True
 |a::b,k::ks=>H a=some (.tup (k.map V.int))/\TupsI H b ks
 |_,_=>False
theorem TupsI.len{H:Hp}:∀ {b:List Addr} {a:List (List Int)},TupsI H b a->b.length=a.length
 |[],[],_=>rfl
 |[],_::_,h=>h.elim
 |_::_,[],h=>h.elim
 |v::vs,k::ks,h=>by rw[VU,VU,h.2.len]
theorem TupsI.raw{G:L1}{Z:St}{H:Hp}{s:Shared}(I:Inv X G Z H s):∀ {c:List Addr} {b:List (List Int)},TupsI H c b->IntTups s.heap (c.map Value.ref) b
 |[],[],_=>trivial
 |[],_::_,h=>h.elim
 |_::_,[],h=>h.elim
 | a::c,k::ks,h=>by
   obtain⟨its,d,⟨o,e,f,n,hd⟩,hz⟩:=I.tuple (a:=a) (xs:=k.map V.int) (.inl (.inl h.1));exact⟨⟨a,o,_,n,rfl,e,f,hd,by simpa using rA d⟩,h.2.raw I⟩
theorem tP(l:List Addr):Vals (l.map V.ref) (l.map Value.ref):=by
 induction l with
 |nil=>exact .nil
 |cons x t a=>exact .cons rfl a
theorem K9{b:List Addr}:∀ {us:List Value},Vals (b.map V.ref) us->us=b.map Value.ref:=by
 induction b with
 |nil=>intro us r; cases r; rfl
 |cons a b c=>
   intro us r;cases r with
   |cons h r=>
     have h':_=Value.ref a:=h;rw[h',c r]; rfl
theorem DK{prog:Program}{w:World}{A:Around}{E:L3}{s:Shared}{a:Addr}{vs:List Value}{d:List (List Int)}{n:Nat}{Q:L3}(f:s.heap.get? a=some (seqObj "list" vs.toArray n))(j:IntTups s.heap vs d)(ne:∀ k∈d,k≠[])(e:d.length<64)
 (h:∀ h' c,(∀ b o,b≠a->s.heap.get? b=some o->h'.get? b=some o)->h'.get? a=some (seqObj "list" (pick vs (bq d)).toArray c)->Q .none {s with heap:=h'}):wpAny (model prog w) A (call (.builtin "list.sort") [.ref a]) Q E s:=
 wpAny_call_entry slot_list_sort ⟨_,f,rfl⟩ entry_list_sort (Fp f j ne e λh' c i g=>⟨_,rfl,h h' c i g⟩) (args_list_sort _)
theorem tX{prog:Program}{w:World}{A:Around}{E:L3}{s:Shared}{v:Value}{vs:List Value}{a:List (List Int)}{Q:L3}
 (g:∀ R:List Value->Shared->Prop,(∀ h' f,(∀ b o,s.heap.get? b=some o->h'.get? b=some o)->R vs {s with heap:=h',toks:=f})->wpAny (model prog w) A.in1 (collect v) R E s)
 (l:IntTups s.heap vs a) (ne:∀ k∈a,k≠[]) (i:a.length<64)
 (h:∀ (d:Heap) (f:Nat) (h':Heap) (c:Nat),(∀ b o,s.heap.get? b=some o->d.get? b=some o)->(∀ b o,d.get? b=some o->h'.get? b=some o)->h'.get? d.objs.size=some (seqObj "list" (pick vs (bq a)).toArray c)->Q (.ref d.objs.size) {s with heap:=h',toks:=f}):
 wpAny (model prog w) A (call (.builtin "sorted") [v]) Q E s:=by
 have ln:=l.len;refine Calls.call_function_entry kind_sorted plain_sorted entry_sorted (args_sorted1 _) ?_;unfold Builtin.«sorted»;refine wpAny_bind (m:=checkCount "sorted" 1 1 _) (wpAny_pure ?_);refine wpAny_bind (g _ λd f j=>?_);refine wpAny_bind (wpAny_newList ?_ (by rw[sizeLine_eq]; omega));have q:(d.push (seqObj "list" vs.toArray 0)).get? d.objs.size=some (seqObj "list" vs.toArray 0):=Heap.get?_push_size _ rfl;refine wpAny_bind (wpAny_holding (DK (s:={s with heap:=d.push (seqObj "list" vs.toArray 0),toks:=f}) q (l.mono λb o e _=>Heap.get?_push_of_some _ (j b o e)) ne i λh' c n p=>?_));exact wpAny_pure ⟨_,rfl,h d f h' c j (λb o e=>n b o (Nat.ne_of_lt (Heap.lt_size e)) (Heap.get?_push_of_some _ e)) p⟩
theorem t5(a:List Addr)(p:List Nat):pick (a.map Value.ref) p=(pick a p).map Value.ref:=kB _ _ _
theorem t6{W:Type}(l:List W){p:List Nat}(h:∀ i∈p,i<l.length):(pick l p).length=p.length:=by
 unfold pick
 induction p with
 |nil=>rfl
 |cons i p a=>
   rw[XA,V1 (h i VP)];simp only[VU];rw[a λj b=>h j (VR _ b)]
theorem Ax(E:X.calm=true):dJ X (.builtin "sorted") (λxs H Q=>∃ p d a,xs=[.ref p]/\SqL X.K H p (d.map V.ref)/\TupsI H d a/\(∀ k∈a,k≠[])/\a.length<64/\∀ l,H l=none->Q (.ref l) (upd H l (.lst ((pick d (bq a)).map V.ref)))):=by
 intro G s Z H xs us Q I r h;obtain⟨p,d,a,rfl,z,m,ne,g,q⟩:=h;obtain⟨u,rfl,w⟩:=Vals.one r;have f:u=Value.ref p:=w;subst f;obtain⟨its,v,pl,hz⟩:=I.list z;have D:=K9 v;subst D;have ln:=m.len;refine tX (vs:=d.map Value.ref) (λR hR=>collect_list pl.isList (hR _ s.toks λb o e=>?_) (by rw[VN,Xg]; omega)) (m.raw I) ne g λn j h' c y x C=>?_
 ·have B:=VX e;rw[Heap.get?_update_ne _ _ _ _ (Wc B)];exact VS _ e
 · have t:Inv X G Z H {s with heap:=n,toks:=j}:=I.kept y;refine⟨.ref n.objs.size,_,t.laid (t':=j) x (VW _) ?_,rfl,q _ (t.hok.fresh (VW _))⟩;have A:(pick d (bq a)).length=a.length:=by rw[t6 d λi hi=>by rw[ln]; exact(i7 a).2 i hi]; exact(i7 a).1
   refine⟨by rw[VN,A,Xg]; omega,(pick d (bq a)).map Value.ref,c,tP _,?_⟩;rw[C,t5]
theorem Ay(hc:X.calm=true):dJ X (.builtin "sorted") (λxs H Q=>∃ a g b,xs=[.ref a]/\Rd H a (.dT g)/\g.map (·.1)=b.map (λk=>k.map Sum.inl)/\(∀ k∈b,k≠[])/\b.length<64/\
 ∀ (P:List Addr) (l:Addr),TupsI H P b->H l=none->Q (.ref l) (upd H l (.lst ((pick P (bq b)).map V.ref)))):=by
 intro G s Z H xs us Q I r h;obtain⟨a,g,b,rfl,ha,hk,ne,N,q⟩:=h;obtain⟨u,rfl,T⟩:=Vals.one r;have F:u=Value.ref a:=T;subst F;obtain⟨z,hd,ys,m,o,es,ep,ho,hx,C,x,hnd⟩:=(show ObjOk X.prog X.w H s.heap a (.dT g) from ha.ok I.hok);have n:g.length=ys.length:=Xn m
 have j:es.size=ys.length:=by
  have e:=congrArg List.length x
  rwa [VN,Wr] at e
 have M:TupsI H (ys.map λy=>y.2.1) b:=by
  have L:∀ {K:List (List b6×V)} {J:List (List b6×Addr×Value)} {b:List (List Int)},Paired (λ(p:List b6×V) (q:List b6×Addr×Value)=>p.1=q.1/\H q.2.1=some (.tup (p.1.map kV))/\RelV p.2 q.2.2) K J->K.map (·.1)=b.map (λk=>k.map Sum.inl)->TupsI H (J.map λy=>y.2.1) b:=by
   intro K J b hp
   induction hp generalizing b with
   |nil=>intro e; cases b with|nil=>trivial|cons _ _=>cases e
   |cons E _ Y=>
     intro e;cases b with
     |nil=>cases e
     |cons k ks=>
       rw[VQ,VQ] at e;injection e with e1 e2
       refine⟨?_,Y e2⟩;rw[E.2.1,e1,Wk];rfl
  exact L m hk
 have keys:∀ d:Array Value,ItemsOf (λi v=>∃ e,es[i]?=some e/\v=e.key) d es.size->d.toList=(ys.map λy=>y.2.1).map Value.ref:=λd f=>by
  apply Yl;intro i;rw[Wj,Wj];cases O:ys[i]? with
  |none=>
    have hi:ys.length<=i:=List.getElem?_eq_none_iff.mp O;rw[Wd (by rw[Wr,f.1]; omega)];rfl
  |some y=>
    have hi:i<ys.length:=(List.getElem?_eq_some_iff.mp O).1;have t:i<d.size:=by rw[f.1,j]; exact hi
    obtain⟨e,he,hv⟩:=f.2 i d[i] (Wu t);have B:es.toList[i]?=some e:=by rw[WI]; exact he
    rw[x,Wj,O] at B;have ee:entryOfKey (tupleKind (bF X.prog X.w)) y=e:=Wh B;rw[WI,Wu t,hv,<-ee,ug];rfl
 have hh:X.A.in1.handled=none:=I.ok.hd hc;refine tX (vs:=(ys.map λy=>y.2.1).map Value.ref) (λR hR=>kdu_collect (Bx (ep:=ep) (es:=es) hd) hh ⟨o,ho,hx,C⟩ (by rw[j,<-n]; exact z) λh' D d kp f=>?_) (M.raw I) ne N λE D h' c W U hS=>?_
 ·rw[keys d f]; exact hR h' D kp
 · have ln:=M.len;have S:Inv X G Z H {s with heap:=E,toks:=D}:=I.kept W;refine⟨.ref E.objs.size,_,S.laid (t':=D) U (VW _) ?_,rfl,q _ _ M (S.hok.fresh (VW _))⟩;have hl:(pick (ys.map λy=>y.2.1) (bq b)).length=b.length:=by rw[t6 _ λi hi=>by rw[ln]; exact(i7 b).2 i hi]; exact(i7 b).1
   refine⟨by rw[VN,hl,Xg]; omega,(pick (ys.map λy=>y.2.1) (bq b)).map Value.ref,c,tP _,?_⟩;rw[hS,t5]
theorem iS(h:X.K=K)(c:X.calm=true):dJ X (.builtin "sorted") (λxs H Q=>∃ p b a,xs=[.ref p]/\SqL K H p (b.map V.ref)/\TupsI H b a/\(∀ k∈a,k≠[])/\a.length<64/\∀ l,H l=none->Q (.ref l) (upd H l (.lst ((pick b (bq a)).map V.ref)))):=by subst h; exact Ax c
end
end L2
namespace Mi
open PySem L2
def gd:List D->Option (List (List Int))
 |[]=>some []
 |.tup ds::r=>(match cX ds,gd r with|some k,some ks=>some (k::ks)|_,_=>none)
 |_::_=>none
def j3:D->Res D
 |.lst ds=>(match gd ds with|some a=>(if (∀ k∈a,k≠[])/\a.length<64 then .ok (.lst (pick ds (bq a))) else .bad)|none=> .bad)
 |_=> .bad
def uV(x:D):Res D:=match x with
 |.dT ks _=>j3 (.lst (ks.map λk=> .tup (k.map kD)))
 |_=> .bad
section
variable{Y:Cm}{E:XK}{T:List Md}{K:L0}
theorem oy{G:Hp}:∀ {ds:List D} {b:List (List Int)} {xs:List V},gd ds=some b->Dns Y G ds xs->∃ f:List Addr,xs=f.map V.ref/\TupsI G f b
 |[],b,xs,e,h=>by rw[Dns] at h; cases e; exact⟨[],h,trivial⟩
 | d::ds,b,xs,e,h=>by
   rw[Dns] at h;obtain⟨x,r,rfl,j,m⟩:=h;cases d with
   |tup es=>
     rw[gd] at e;cases c:cX es with
     |none=>rw[c] at e; cases e
     |some k=>
       cases g:gd ds with
       |none=>rw[c,g] at e; cases e
       |some ks=>
         rw[c,g] at e;cases e;obtain⟨f,rfl,t⟩:=oy g m;rw[Dn] at j;obtain⟨a,ys,rfl,i,l⟩:=j;rw[fU c l] at i;exact⟨a::f,rfl,i,t⟩
   |_=>cases e
theorem TupsI.mono{G d:Hp}(e:Same G d):∀ {c:List Addr} {b:List (List Int)},TupsI G c b->TupsI d c b
 |[],[],_=>trivial
 |[],_::_,h=>h.elim
 |_::_,[],h=>h.elim
 |a::c,k::ks,h=>⟨e _ _ h.1,TupsI.mono e h.2⟩
theorem Dns.pick{G:Hp}{ds:List D}{xs:List V}(h:Dns Y G ds xs):∀ p:List Nat,Dns Y G (L2.pick ds p) (L2.pick xs p)
 |[]=>by show Dns Y G [] []; rw[Dns]
 | i::p=>by
   have a:=Dns.pick h p;unfold L2.pick at a ⊢;rw[List.filterMap_cons,List.filterMap_cons];cases e:ds[i]? with
   |none=>
     have:xs[i]?=none:=Wd (by rw[<-h.len]; exact List.getElem?_eq_none_iff.mp e)
     rw[this]; exact a
   |some d=>
     obtain⟨x,ex,b⟩:=h.get e;rw[ex];dsimp only;rw[Dns];exact⟨x,_,rfl,b,a⟩
theorem BG{ta:TE}{f:Env->Res D}(i:PJ Y (KC Y .F) E T ta f):PJ Y (KO Y (.ct .fz)) E T
 (DB (λxs H Q=>∃ p c b,xs=[.ref p]/\SqL K H p (c.map V.ref)/\TupsI H c b/\(∀ k∈b,k≠[])/\b.length<64/\∀ l,H l=none->Q (.ref l) (upd H l (.lst ((L2.pick c (bq b)).map V.ref)))) (b9 ta d8)) (un j3 f):=by
 intro B U As Z H M Q R P;refine i.bnd R P λx v I U1 L O _ g n m N s=>?_;cases x with
 |lst ds=>
   obtain⟨a,xs,rfl,j,d⟩:=N;replace s:Po Y (KO Y (.ct .fz)) E T I U1 As Z L M (match gd ds with|some b=>(if (∀ k∈b,k≠[])/\b.length<64 then .ok (.lst (L2.pick ds (bq b))) else .bad)|none=> .bad) Q:=s;cases e:gd ds with
   |none=>rw[e] at s; exact s.elim
   |some b=>
     rw[e] at s;dsimp only at s;by_cases z:(∀ k∈b,k≠[])/\b.length<64
     ·rw[on z] at s;have d:Dns Y I ds xs:=d;obtain⟨c,rfl,t⟩:=oy e d;refine⟨a,c,b,rfl,SqL.of j,TupsI.mono g.bh t,z.1,z.2,λl h=>?_⟩;rw[<-kB];exact fB g s (d.pick _) h
     ·rw[VM z] at s; exact s.elim
 |_=>exact s.elim
theorem Iz{ks:List (List b6)}{a:List (List Int)}(e:gd (ks.map λk=> .tup (k.map kD))=some a):ks=a.map λk=>k.map Sum.inl:=by
 have c:∀ {k:List b6} {ns:List Int},cX (k.map kD)=some ns->k=ns.map Sum.inl:=by
  intro k
  induction k with
  |nil=>intro ns e; cases e; rfl
  |cons x k d=>
    intro ns e;cases x with
    |inl i=>
      rw[VQ] at e;have e:(cX (k.map kD)).map (i::·)=some ns:=e;obtain⟨T,b,rfl⟩:=Option.map_eq_some_iff.mp e;rw[d b]; rfl
    |inr i=>cases e
 induction ks generalizing a with
 |nil=>cases e; rfl
 |cons k ks d=>
   rw[VQ,gd] at e;cases b:cX (k.map kD) with
   |none=>rw[b] at e; cases e
   |some n=>
     cases f:gd (ks.map λk=> .tup (k.map kD)) with
     |none=>rw[b,f] at e; cases e
     |some ns=>
       rw[b,f] at e;cases e;rw[c b,d f]; rfl
theorem uu{G:Hp}:∀ {c:List Addr} {b:List (List Int)},TupsI G c b->Dns Y G (b.map λk=> .tup (k.map D.int)) (c.map V.ref)
 |[],[],_=>by rw[Wv,Wv,Dns]
 |[],_::_,h=>h.elim
 |_::_,[],h=>h.elim
 | a::c,k::ks,h=>by
   rw[VQ,VQ,Dns];refine⟨_,_,rfl,?_,uu h.2⟩;rw[Dn];exact⟨a,_,rfl,h.1,oJ k⟩
theorem Ld{k:Kd}{ta:TE}{A:Env->Res D}(r:PJ Y (KC Y k) E T ta A):PJ Y (KO Y (.ct .fz)) E T
 (DB (λxs H Q=>∃ a g d,xs=[.ref a]/\Rd H a (.dT g)/\g.map (·.1)=d.map (λk=>k.map Sum.inl)/\(∀ k∈d,k≠[])/\d.length<64/\
 ∀ (J:List Addr) (l:Addr),TupsI H J d->H l=none->Q (.ref l) (upd H l (.lst ((L2.pick J (bq d)).map V.ref)))) (b9 ta d8)) (un uV A):=by
 intro B U As Z H M Q R P;refine r.bnd R P λx v I U1 L O _ j e1 n1 N s=>?_;cases x with
 |dT ks ds=>
   obtain⟨a,g,rfl,W,S,h3⟩:=N;replace s:Po Y (KO Y (.ct .fz)) E T I U1 As Z L M (match gd (ks.map λk=> .tup (k.map kD)) with|some d=>(if (∀ k∈d,k≠[])/\d.length<64 then .ok (.lst (L2.pick (ks.map λk=> .tup (k.map kD)) (bq d))) else .bad)|none=> .bad) Q:=s;cases e:gd (ks.map λk=> .tup (k.map kD)) with
   |none=>rw[e] at s; exact s.elim
   |some d=>
     rw[e] at s;dsimp only at s;by_cases z:(∀ k∈d,k≠[])/\d.length<64
     · rw[on z] at s;have G:=Iz e;refine⟨a,g,d,rfl,W,by rw[S,G],z.1,z.2,λbs l C K=>?_⟩
       have f:∀ b∈bs,∃ o,L b=some o/\j7 o:=by
        have m:∀ {bs:List Addr} {d:List (List Int)},TupsI L bs d->∀ b∈bs,∃ o,L b=some o/\j7 o:=by
         intro bs
         induction bs with
         |nil=>intro _ _ b p; cases p
         |cons c bs u=>
           intro d t b p;cases d with
           |nil=>exact t.elim
           |cons k ks=>
             rcases List.mem_cons.mp p with q|q
             ·rw[q]; exact⟨_,t.1,_,rfl⟩
             ·exact u t.2 b q
        exact m C
       have R2:Rel Y T (Mi.frz I L bs) (Mi.frz U1 L bs) As Z L M:=j.grow (dk j.bh) (dk j.uh) (Same.refl _) (rG j.bu) (vz j.uh) λi a r=>by
        unfold Mi.frz;split
        ·rename_i z;obtain⟨o,e,t⟩:=f a z;exact(j.nt r e t).elim
        ·exact j.un i a r
       have X:Gw I U1 L (Mi.frz I L bs) (Mi.frz U1 L bs) L:=by
        refine⟨⟨dk j.bh,dk j.uh,λa o q=>?_⟩,Same.refl _,λa o q=>?_⟩
        · unfold Mi.frz at q;split at q
          ·rename_i z;obtain⟨o',e,t⟩:=f a z;rw[e] at q; cases q;exact .inr (.inr t)
          ·exact .inl q
        · unfold Mi.frz at q;split at q
          ·rename_i z;obtain⟨o',e,t⟩:=f a z;rw[e] at q; cases q;exact .inr (.inr t)
          ·exact .inl q
       have w:TupsI (Mi.frz I L bs) bs d:=by
        have m:∀ {n:List Addr} {d:List (List Int)},(∀ b∈n,b∈bs)->TupsI L n d->TupsI (Mi.frz I L bs) n d:=by
         intro n
         induction n with
         |nil=>intro d _ t; cases d with|nil=>trivial|cons _ _=>exact t.elim
         |cons c n u=>
           intro d F t;cases d with
           |nil=>exact t.elim
           |cons k ks=>exact⟨by unfold Mi.frz; rw[if_pos (F c List.mem_cons_self)]; exact t.1,u (λb p=>F b (List.mem_cons_of_mem _ p)) t.2⟩
        exact m (λ_ h=>h) C
       have y:(ks.map λk=>D.tup (k.map kD))=d.map λk=> .tup (k.map D.int):=by
        rw[G,Wk];refine W1 λk _=>?_;show D.tup ((k.map Sum.inl).map kD)=_;rw[Wk];rfl
       rw[y] at s;have P2:Po Y (KO Y (.ct .fz)) E T (Mi.frz I L bs) (Mi.frz U1 L bs) As Z L M (.ok (.lst (L2.pick (d.map λk=> .tup (k.map D.int)) (bq d)))) Q:=Po.at s X;rw[<-kB];exact fB R2 P2 ((uu w).pick _) K
     ·rw[VM z] at s; exact s.elim
 |_=>exact s.elim
end
end Mi
namespace Cl
open PySem L2 Mi
section
variable{Z σ' W X O J:Type}{Y:Z->Mi.Env}{V:σ'->Mi.Env}
theorem uo:∀ l:List (List Int),gd (l.map (lF D.int))=some l
 |[]=>rfl
 | k::l=>by
   rw[VQ];show(match cX (k.map D.int),gd (l.map (lF D.int)) with|some k,some ks=>some (k::ks)|_,_=>none)=_;rw[ig,uo l]
def fM(l:List (List Int)):Res (List (List Int)):=if (∀ k∈l,k≠[])/\l.length<64 then .ok (pick l (bq l)) else .bad
theorem mU(l:List (List Int)):SimR (eL (lF D.int)) (j3 (eL (lF D.int) l)) (fM l):=by
 show SimR _ (match gd (l.map (lF D.int)) with|some a=>(if (∀ k∈a,k≠[])/\a.length<64 then Res.ok (D.lst (pick (l.map (lF D.int)) (bq a))) else .bad)|none=> .bad) _;rw[uo];unfold fM;dsimp only;by_cases h:(∀ k∈l,k≠[])/\l.length<64
 ·rw[on h,on h];show Res.ok (D.lst (pick (l.map (lF D.int)) (bq l)))=Res.ok (D.lst ((pick l (bq l)).map (lF D.int)));rw[kB]
 ·rw[VM h,VM h]; trivial
def zb(F:DI X):Res (List (List Int)):=fM (F.map (·.1))
theorem Ll{e:X->D}(F:DI X):SimR (eL (lF D.int)) (uV (bL e F)) (zb F):=by
 have:uV (bL e F)=j3 (eL (lF D.int) (F.map (·.1))):=by
  show j3 (.lst ((F.map λp=>p.1.map (Sum.inl:Int->b6)).map λk=> .tup (k.map kD)))=j3 (.lst ((F.map (·.1)).map (lF D.int)));rw[Wk,Wk];refine congrArg (λz=>j3 (D.lst z)) (W1 λp _=>?_);show D.tup ((p.1.map (Sum.inl:Int->b6)).map kD)=D.tup (p.1.map D.int);rw[Wk];rfl
 rw[this];exact mU _
@[simp] def pI(g:Z->Option (List W))(p:Z->List W->Z)(k:Z->Option Int):Z->W->Z:=λs y=>match g s,k s with
 |some l,some k=>p s (l.set k.toNat y)
 |_,_=>s
end
end Cl
namespace L2
open PySem PySem.Spec PyProof.Rows
section
variable{X:Cx}
theorem EE:dJ X (.builtin "len") (λxs H Q=>∃ a b,xs=[V.ref a]/\Rd H a (.dT b)/\Q (.int b.length) H):=by
 intro G s Z H xs us Q I r h;obtain⟨a,b,rfl,t,q⟩:=h;obtain⟨u,rfl,n⟩:=jZ r;cases n;obtain⟨z,hd,ys,g,o,es,ep,k,p,f,i,_⟩:=(show ObjOk X.prog X.w H s.heap a (.dT b) from t.ok I.hok);have d:b.length=ys.length:=Xn g
 have c:es.size=ys.length:=by
  have e:=congrArg List.length i
  rwa [VN,Wr] at e
 have j:s.TypeIs (.ref a) "dict" := ⟨o,k,p.1⟩;refine Calls.call_function_entry kind_len plain_len entry_len (args_len1 _) ?_;unfold Builtin.«len»;refine wpAny_bind (m:=oneArg "len" _) (wpAny_pure ?_)
 refine VO (m:=callSpecial? (.ref a) (Str.ofString "__len__")) (wpAny_callSpecial?_slot (name:=Str.ofString "__len__") j YR
  (wpAny_call_entry YR j PySem.F.entry_dict_len ?_ (PySem.F.args_dict_len_1 _)))
 show wpAny _ _ (dictSize a >>= _) _ _ s;unfold dictSize;refine wpAny_bind (wpAny_bind (wpAny_dictEntries k f (wpAny_pure ?_)));show wpAny _ _ (Builtin.Dict.pendingCount a >>= _) _ _ s;refine wpAny_bind (wpAny_pendingCount_other hd ?_);refine wpAny_ret_mkInt ?_;have v:((es.size:Int)+((0:Nat):Int))=(b.length:Int):=by rw[c,<-d]; simp
 first | rw[v] | (rw[Nat.add_zero,c,<-d])
 refine VO (Xa (VY ?_));refine VO (W7 ?_);have l:=z;rw[Xg] at l;show wpAny _ _ (if ((b.length:Nat):Int)<0 then _ else _) _ _ _;rw[VM (by omega)];show wpAny _ _ (if ((b.length:Nat):Int)>=2 ^ 63 then _ else _) _ _ _;rw[VM (by omega)];exact VO (wpAny_mkInt (VY ⟨_,rfl,.int b.length,H,(I.tok _),⟨_,rfl⟩,q⟩))
end
end L2
namespace Mi
open PySem L2
section
variable{Y:Cm}{E:XK}{T:List Md}{K:L0}{B U H:Hp}{As:Nat->List Addr}{Z:St}{M:Env}{t:TE}{get:Env->Option D}{set:Env->D->Env}
def PD:D->Res D | .dT ks _=> .ok (.int ks.length)|_=> .bad
theorem On{ta:TE}{c:Env->Res D}(d:PJ Y (KR Y .X) E T ta c):PJ Y (KR Y .F) E T (DB (λxs H Q=>∃ a b,xs=[V.ref a]/\Rd H a (.dT b)/\Q (.int b.length) H) (b9 ta d8)) (un PD c):=by
 intro B U As Z H M Q R P;refine d.bnd R P λx v I U1 L O _ g j h N s=>?_;cases x with
 |dT ks ds=>
   have N:Dn Y L (.dT ks ds) v:=N;rw[Dn] at N;obtain⟨a,b,rfl,f,e,i⟩:=N;refine⟨a,b,rfl,f,?_⟩
   have:b.length=ks.length:=by rw[<-e,VN]
   rw[this];exact s _ I U1 L [] g (Gw.refl _ _ _) New.nil (by show Dn Y I (.int _) _; rw[Dn])
 |_=>exact s.elim
end
end Mi
namespace Cl
open PySem L2 Mi
section
variable{Z σ' W X O J:Type}{Y:Z->Mi.Env}{V:σ'->Mi.Env}
@[simp] def MX(F:DI X):Res Int:= .ok F.length
theorem OL{e:X->D}(F:DI X):SimR D.int (PD (bL e F)) (MX F):=by
 show Res.ok (D.int ((F.map λp=>p.1.map (Sum.inl:Int->b6)).length))=Res.ok (D.int F.length);rw[VN]
open Classical in
end
end Cl
namespace Mi
open PySem L2 PyProof.Rows PySem.W
section
variable{P:Program}{w:World}{K:L0}{mg:Str->Option Value}{base:Heap}{Y:Cm}{x qual:Str}{st:Stmt}{f:Addr}{fd:FuncData}{N ps:List Str}{k:Nat}{T more:List Md}{body:Env->SO}{fm:List D->Out D}
theorem qb(F:Fun K x qual st f fd)(S:FnScope N ps (am st))(d:∀ {a:Value} {A:Around} {outer:List PySem.Env} {s:Shared} {H:Hp} {E:XK},Room k (A.deeper (envOfC qual (am st) s.heap.objs.size f a))->∃ t,PSs (ya gi P w K mg base N qual (am st) f a A outer s H E).nox (dg st) t/\SJ Y E0 (KR Y .F) (t4 T T.length) (T++more) t body)
 (hp:ps.length=T.length:=by rfl) (e:N.length=T.length+more.length:=by rfl) (b:fm=run N.length body:=by rfl):FnOk P w K mg base gi (k+1) f fd ps (gg Y T (KR Y .F) fm):=by
 refine F.ok S (λvs H Q E h=>by rw[hp]; exact AT h) (λa A outer s H vs Q E c h=>?_);obtain⟨t,p,j⟩:=d c;exact⟨t,p,LV j e b (λ_ _ _=>Vq) h⟩
theorem jy{c:Sh}(F:Fun K x qual st f fd)(S:FnScope N ps (am st))(e:∀ {a:Value} {A:Around} {outer:List PySem.Env} {s:Shared} {H:Hp} {E:XK},Room k (A.deeper (envOfC qual (am st) s.heap.objs.size f a))->∃ t,PSs (ya gi P w K mg base N qual (am st) f a A outer s H E).nox (dg st) t/\SJ Y E0 (KO Y c) (t4 T T.length) (T++more) t body)
 (hp:ps.length=T.length:=by rfl) (g:N.length=T.length+more.length:=by rfl) (b:fm=gB N.length body:=by rfl):FnOk P w K mg base gi (k+1) f fd ps (gg Y T (KO Y c) fm):=by
 refine F.ok S (λvs H Q E h=>by rw[hp]; exact AT h) (λa A outer s H vs Q E d h=>?_);obtain⟨t,p,j⟩:=e d;exact⟨t,p,IR j g b h⟩
end
end Mi
namespace L2
open PySem PySem.Spec PyProof.Rows
section
variable{X:Cx}{e:Expr}{te:TE}{pos:Pos}
def tFv(te:TE):TE:=λZ H Q=>te Z H λx L=>(∃ i,x= .int i/\i.natAbs.log2<1920/\Q (.str (toString i)) L)\/∃ y,x= .str y/\y.length<=sizeLine/\Q (.str y) L
theorem lK(d:PE X e te):PE X (.FormattedValue e (-1) none pos) (tFv te):=by
 intro G s Z H Q I h;refine wpAny_FormattedValue_plain (b8 (d G s Z H _ I h) λv f ⟨x,L,a,b,c⟩=>?_);rcases c with ⟨i,rfl,hz,q⟩|⟨y,rfl,hz,q⟩
 ·obtain⟨t,rfl⟩:=b;exact wpAny_formatField_int hz ⟨.str (toString i),L,a.tok _,⟨_,rfl⟩,q⟩
 ·obtain⟨t,rfl⟩:=b;exact wpAny_formatField_str ⟨.str y,L,a,⟨_,rfl⟩,q⟩ ⟨.str y,L,a.tok _,⟨_,rfl⟩,q⟩ hz
def Kl:=Str->St->Hp->(Str->Hp->Prop)->Prop
def TR:Kl:=λacc Z H Q=>Q acc H
def BX(te:TE)(r:Kl):Kl:=λacc Z H Q=>te Z H λx L=>∃ y,x= .str y/\(acc++y).length<=sizeLine/\r (acc++y) Z L Q
def Vj(X:Cx)(es:List Expr)(t:Kl):Prop:=∀ (G:L1) (s:Shared) (Z:St) (H:Hp) (acc:Str) (Q:Str->Hp->Prop),Inv X G Z H s->t acc Z H Q->Joins (model X.prog X.w) X.A X.xe (evalEach es X.env) acc (λa b=>∃ L,Inv X G Z L b/\Q a L) s
theorem ro:Vj X [] TR:=λG s Z H acc Q I h=>⟨H,I,h⟩
theorem cj{es:List Expr}{t:Kl}(f:PE X e te)(d:Vj X es t):Vj X (e::es) (BX te t):=by
 intro G s Z H acc Q I h;rw[arm_evalEach_cons];show wpAny _ _ _ _ _ s;refine b8 (f G s Z H _ I h) λv a ⟨x,L,g,b,c⟩=>?_;obtain⟨y,rfl,hz,q⟩:=c;obtain⟨t',rfl⟩:=b;exact⟨y,t',rfl,hz,d G a Z L _ Q g q⟩
def tJs(t:Kl):TE:=λZ H Q=>t Str.empty Z H λa L=>a.length<=sizeLine/\Q (.str a) L
theorem Joins.mono{M:Model}{A:Around}{E:L3}{Q b:Str->Shared->Prop}(a:∀ o s,Q o s->b o s):∀ (ps:List (Sem Value)) (acc:Str) (s:Shared),Joins M A E ps acc Q s->Joins M A E ps acc b s
 |[],acc,s,h=>a _ _ h
 |x::r,acc,s,h=>W8 h (λv c ⟨y,t,e,z,k⟩=>⟨y,t,e,z,Joins.mono a r _ _ k⟩) λ_ _ e=>e
theorem wY{b a:Expr}{es:List Expr}{t:Kl}(h:Vj X (b::a::es) t):PE X (.JoinedStr (b::a::es) pos) (tJs t):=by
 intro G s Z H Q I q;refine wpAny_JoinedStr (Joins.mono (λo e ⟨L,d,z,c⟩=>⟨z,?_⟩) _ _ _ (h G s Z H Str.empty _ I q));exact⟨.str o,L,d.tok _,⟨_,rfl⟩,c⟩
def By:V->List V->Hp->VK->Prop:=λx vs H Q=>∃ a b,x= .str a/\vs=[.str b]/\Q (.bl (Txt.startswith a b)) H
def MF:V->List V->Hp->VK->Prop:=λx vs H Q=>∃ a b,x= .str a/\vs=[.str b]/\Q (.bl (Txt.endswith a b)) H
theorem D1:Q8 X "str.startswith" By:=by
 intro G s Z H x vs v us Q I c d h;obtain⟨a,b,rfl,rfl,q⟩:=h;obtain⟨t,rfl⟩:=c;obtain⟨u,rfl,t',rfl⟩:=jZ d;exact SC.startswith ⟨.bl _,H,I,rfl,q⟩
theorem Lu:Q8 X "str.endswith" MF:=by
 intro G s Z H x vs v us Q I c d h;obtain⟨a,b,rfl,rfl,q⟩:=h;obtain⟨t,rfl⟩:=c;obtain⟨u,rfl,t',rfl⟩:=jZ d;exact SC.endswith ⟨.bl _,H,I,rfl,q⟩
theorem tO:∀ {xs:List Str} {us:List Value},Vals (xs.map V.str) us->∃ l:List (Str×Tok),us=strValues l/\l.map (·.1)=xs
 | [],us,h=>by
   have:=h.length
   rw[Wv,XC] at this;exact⟨[],by rw[List.length_eq_zero_iff.mp this.symm]; rfl,rfl⟩
 | x::xs,us,h=>by
   cases h with
   |cons b a=>
     obtain⟨l,d,c⟩:=tO a;obtain⟨t,rfl⟩:=b;exact⟨(x,t)::l,by rw[d]; rfl,by rw[<-c]; rfl⟩
def Gv(K:L0):V->List V->Hp->VK->Prop:=λx vs H Q=>∃ sep l xs,x= .str sep/\vs=[.ref l]/\SqL K H l (xs.map V.str)/\JoinOk sep xs=true/\Q (.str (Txt.join sep xs)) H
theorem Ls:Q8 X "str.join" (Gv X.K):=by
 intro G s Z H x vs v us Q I a b h;obtain⟨sep,l,xs,rfl,rfl,d,hok,q⟩:=h;obtain⟨t,rfl⟩:=a;obtain⟨u,rfl,c⟩:=jZ b;cases c;obtain⟨its,r,pl,hz⟩:=I.list d;obtain⟨g,f,e⟩:=tO r;subst f;exact SC.join pl.isList e hok λt' k=>⟨.str _,H,I.tok _,⟨_,rfl⟩,q⟩
theorem tT:∀ l:List (Str×Tok),Vals ((l.map (·.1)).map V.str) (strValues l)
 |[]=> .nil
 |p::l=> .cons ⟨p.2,rfl⟩ (tT l)
def Gq:V->List V->Hp->VK->Prop:=λx vs H Q=>∃ a b,x= .str a/\vs=[.str b]/\(b.length==0)=false/\a.length<=sizeLine/\(Txt.split a b).length<=sizeLine/\∀ l,H l=none->Q (.ref l) (upd H l (.lst ((Txt.split a b).map V.str)))
theorem xq:Q8 X "str.split" Gq:=by
 intro G s Z H x vs v us Q I k m h;obtain⟨a,b,rfl,rfl,j,n,i,q⟩:=h;obtain⟨t,rfl⟩:=k;obtain⟨u,rfl,t',rfl⟩:=jZ m
 have c:∀ (l:List (Str×Tok)) (g:Nat),l.map (·.1)=Txt.split a b->EP X G Z Q (.ref s.heap.objs.size) {s with toks:=g,heap:=s.heap.push {cls:= .type "list",data:= .seq (strValues l).toArray}}:=λl g e=>by
  refine⟨.ref s.heap.objs.size,_,I.laid (t':=g) (o:= .lst ((Txt.split a b).map V.str)) (λb o p=>VS _ p) (VW _) ?_,rfl,q _ (I.hok.fresh (VW _))⟩;refine⟨by rw[VN]; exact i,strValues l,0,by rw[<-e]; exact tT l,V3 _ rfl⟩
 cases d:(decide (a.length<b.length)||decide (Builtin.Str.strKind a<Builtin.Str.strKind b))
 · cases f:(Builtin.Str.occurrences a b 0 a.length (a.length+1)).isEmpty
   · have es:Txt.split a b=Builtin.Str.partsBetween a (Builtin.Str.occurrences a b 0 a.length (a.length+1)) b.length:=(VM (X7 d)).trans (VM (X7 f));refine XW Yw (Ye _ _ _) Yn (Yh _ _) (meets_str_split_sep a b t t' d j f n (by rw[<-es]; exact i)) ?_
     have:=c (numbered s.toks (Builtin.Str.partsBetween a (Builtin.Str.occurrences a b 0 a.length (a.length+1)) b.length)) (s.toks+(Builtin.Str.partsBetween a (Builtin.Str.occurrences a b 0 a.length (a.length+1)) b.length).length) (by rw[numbered_texts,es])
     rw[<-strsFrom_eq] at this;exact this
   ·refine XW Yw (Ye _ _ _) Yn (Yh _ _) (meets_str_split_not_found a b t t' d j f) ?_;exact c [(a,t)] s.toks ((VM (X7 d)).trans (on f)).symm
 ·refine XW Yw (Ye _ _ _) Yn (Yh _ _) (meets_str_split_cannot_occur a b t t' d) ?_;exact c [(a,t)] s.toks (on d).symm
theorem EG:dJ X (.type "int") (λxs H Q=>∃ x n,xs=[.str x]/\PySem.intText? x=some n/\x.length<=640/\Q (.int n) H):=by
 intro G s Z H xs us Q I r h;obtain⟨x,n,rfl,a,b,q⟩:=h;obtain⟨u,rfl,t,rfl⟩:=jZ r;exact PySem.W.KIN.call_text a b ⟨.int n,H,I.tok _,⟨_,rfl⟩,q⟩
def Gp:List V->Hp->VK->Prop:=λxs H Q=>(∃ i,xs=[.int i]/\i.natAbs.log2<1920/\Q (.str (toString i)) H)\/∃ x,xs=[.str x]/\Q (.str x) H
theorem tj:dJ X (.type "str") Gp:=by
 intro G s Z H xs us Q I r h;rcases h with ⟨i,rfl,hz,q⟩|⟨x,rfl,q⟩
 ·obtain⟨u,rfl,t,rfl⟩:=jZ r;exact PySem.P.str_of_int hz ⟨.str _,H,I.tok _,⟨_,rfl⟩,q⟩
 ·obtain⟨u,rfl,t,rfl⟩:=jZ r;exact PySem.P.str_of_str ⟨.str x,H,I,⟨_,rfl⟩,q⟩
def kU(x:Str)(lo hi:Option Int):Str:=if ((Builtin.Str.strSliceIndices lo hi 1 x.length).length==x.length)=true then x else ⟨((Builtin.Str.strSliceIndices lo hi 1 x.length).filterMap (x.cps[·]?)).toArray⟩
theorem w8{v:Value}{o:Option Int}(h:IsPart v o):∃ p:Option (Int×Tok),v=partValue p/\p.map (·.1)=o:=by
 cases h with
 |none=>exact⟨none,rfl,rfl⟩
 |int i t=>exact⟨some (i,t),rfl,rfl⟩
def Gr:V->Option Int->Option Int->Hp->VK->Prop:=λx lo hi H Q=>∃ z,x= .str z/\(kU z lo hi).length<=sizeLine/\Q (.str (kU z lo hi)) H
theorem Fq:Vi X Gr:=by
 intro G s Z H x v k j lo hi sl Q I b f pl d h;obtain⟨z,rfl,hz,q⟩:=h;obtain⟨t,rfl⟩:=b;obtain⟨l,rfl,i⟩:=w8 pl;obtain⟨u,rfl,g⟩:=w8 d;refine⟨"str",_,F.slot_str_getitem.lookup,Ye s z t,?_⟩;refine wpAny_getItem_str_slice (l:=l) (u:=u) (st:=none) f rfl ?_
 have e:slicePicked z l u none=Builtin.Str.strSliceIndices lo hi 1 z.length:=by
  unfold slicePicked;rw[i,g]<;>rfl
 unfold sliceMade;rw[e];unfold kU at q hz;by_cases a:((Builtin.Str.strSliceIndices lo hi 1 z.length).length==z.length)=true
 ·rw[on a] at q;refine on (c:=(((none:Option (Int×Tok)).map (·.1)).getD 1==1&&(Builtin.Str.strSliceIndices lo hi 1 z.length).length==z.length)=true) a▸?_;exact⟨.str z,H,I,⟨_,rfl⟩,q⟩
 ·rw[VM a] at q hz;rw[VM (show ¬ (((none:Option (Int×Tok)).map (·.1)).getD 1==1&&_)=true from a)];exact⟨hz,.str _,H,I.tok _,⟨_,rfl⟩,q⟩
def VG(x:Str):It:=⟨λi _=>i<x.cps.size,λi H v H'=>H'=H/\∃ c,x.cps[i]?=some c/\v= .str ⟨#[c]⟩,λi _=>x.cps.size<=i⟩
theorem wE{P:Program}{w:World}{K:L0}{O:Expr}{x:Str}{t:Tok}{n:String}{a:Addr}(V:["enumerate","zip","dict_itemiterator","dict_reverseitemiterator","odict_iterator","itertools.zip_longest","itertools.pairwise"].contains n=false)
 (W:∀ N:Around,N.handled=none->Walks P w N a [a] [a] x.cps.size (SignAt x) (λi h=>h.IsStrIter a n x t i)) (T:∀ (A:Around) (i:Nat) (s:Shared) (Q:L3) (E:L3),s.heap.IsStrIter a n x t i->Q (.ref a) s->wpAny (model P w) A (pyIter (.ref a)) Q E s):
 Turn P w K O (VG x) [a] a (λi h=>i<=x.cps.size/\h.IsStrIter a n x t i) where
 mem:=by simp
 obj:=λi h st b f=>by
  have e:b=a:=by simpa using f
  subst e;obtain⟨_,o,e,c,d⟩:=st;exact⟨o,e,λv z=>by rw[d] at z; cases z⟩
 keep:=λi h h' st k=>⟨st.1,let ⟨o,U,r⟩:=st.2; ⟨o,k a (by simp) o U,r⟩⟩
 item:=by
  intro X B q C y i G s Z H E I l st j;subst B q C;obtain⟨M,L,Y,J,F,D⟩:=l a (by simp);refine(W X.A (I.ok.hd y)).item i s _ _ j st.2 λv h' m S g p=>?_;obtain⟨c,u,R,rfl⟩:=S;have I1:Inv X G Z H {s with heap:=h',toks:=m}:=I.turned (λb o f e=>p b o (by simpa using f) e) M L J F D;obtain⟨oi,e,cc,d⟩:=id g;exact⟨_,rfl,IN (s:={s with heap:=h',toks:=m}) (n:=n) e cc d V ⟨.str ⟨#[c]⟩,H,I1,⟨u,rfl⟩,⟨rfl,c,R,rfl⟩,⟨j,g⟩,λb f=>(l b f).1⟩⟩
 done:=by
  intro X B q C y i G s Z H E I l st j;subst B q C;obtain⟨M,L,Y,J,F,D⟩:=l a (by simp);have ei:i=x.cps.size:=Nat.le_antisymm st.1 j;subst ei;exact(W X.A (I.ok.hd y)).done s _ _ st.2 λh' m p=>⟨rfl,I.turned (λb o f e=>p b o (by simpa using f) e) M L J F D⟩
 self:=λA i s Q E st h=>T A i s Q E st.2 h
def TW(a:TE):TI:=λZ H R=>a Z H λv L=>∃ x,v= .str x/\R (VG x) L
theorem Oc{j l:Expr}{g:TE}(p:PE X l g):PI X j l (TW g):=by
 intro G s Z H R I h;refine b8 (p G s Z H _ I h) λv a ⟨x,L,d,k,m⟩=>?_;obtain⟨x,rfl,q⟩:=m;obtain⟨t,rfl⟩:=k
 have c:∀ b∈[a.heap.objs.size],li X G L b:=λb c=>by
  have e:b=a.heap.objs.size:=by simpa using c
  subst e;exact d.fpOk (VW _) (d.hok.fresh (VW _))
 cases i:x.cps.all (·<128)
 ·refine wpAny_pyIter_wide i ?_;exact⟨a.heap.objs.size,[a.heap.objs.size],_,_,L,rfl,d.kept (t':=a.toks) λb o e=>VS _ e,wE (t:=t) (n := "str_iterator") (by decide) (λr f=>Walks.strWide f _ x t) (λ_ _ _ _ _ st h=>wpAny_pyIter_striter_wide st h),⟨WP _,_,V3 _ rfl,rfl,rfl⟩,c,q⟩
 ·refine wpAny_pyIter_ascii i ?_;exact⟨a.heap.objs.size,[a.heap.objs.size],_,_,L,rfl,d.kept (t':=a.toks) λb o e=>VS _ e,wE (t:=t) (n := "str_ascii_iterator") (by decide) (λr f=>Walks.strAscii f _ x t) (λ_ _ _ _ _ st h=>wpAny_pyIter_striter_ascii st h),⟨WP _,_,V3 _ rfl,rfl,rfl⟩,c,q⟩
end
def Ks(K:L0)(J:It)(te:TE)(p:Addr)(L:Hp)(Q:VK):Prop:=
 ∃ W:Nat->Nat->List V->Hp->Prop,(∃ m,W 0 m [] (upd L p (.lst [])))/\∀ i m ys b,W i m ys b->b p=some (.lst ys)/\ys.length<sizeLine/\
  ((J.stop i b/\Q (.ref p) b)\/(J.go i b/\∀ v c,J.yld i b v c->∃ a x y,v= .ref a/\SqT K c a [x,y]/\te [some x,some y] c λz e=>e p=some (.lst ys)/\∃ d,d<m/\W (i+1) d (ys++[z]) (upd e p (.lst (ys++[z])))))
def uQ(K:L0)(a:TI)(te:TE):TE:=λZ H Q=>a Z H λJ L=>∀ p,L p=none->Ks K J te p L Q
section
variable{X:Cx}{G:L1}{Z:St}{H:Hp}{s:Shared}{scope:Scope}{x y:Str}{px py pt pos:Pos}{k:Nat}{fp:List Addr}{elt iter:Expr}{te:TE}
theorem Eg{c:Heap}{t₁:Nat}{g:Str->Option Value}(I:Inv X G Z H s)(e:CompSc X.env.scope scope x [])(l:∀ b∈fp,li X G H b)
 (f:∀ b∈fp,b<s.heap.objs.size) (h:c.Ns s.heap.objs.size g) (k:∀ b o,s.heap.get? b=some o->c.get? b=some o):
 Inv (fV X scope (bN X.env scope.names []) s.heap.objs.size [x,y] fp s H) [] [none,none] H {s with heap:=c,toks:=t₁}:=by
 have a:=xG (ix:=[]) (t₁:=t₁) I e rfl l f h k;refine⟨⟨a.ok.mod,a.ok.kind,a.ok.glob,a.ok.blt,a.ok.above,a.ok.inj,a.ok.has,a.ok.cab,a.ok.hd,a.ok.frames,a.ok.stk,a.ok.exf,a.ok.bs,a.ok.bsz,a.ok.noex,a.ok.exfs,a.ok.funs,a.ok.frf⟩,a.os,a.bare,a.base,?_,a.cell,a.free,a.freeC,a.pin,a.hok,rfl⟩;obtain⟨m,j,_⟩:=a.loc;refine⟨m,j,λi z v q d p=>?_⟩
 match i,d with
 |0,d=>cases d
 |1,d=>cases d
 |n+2,d=>exact absurd d (by simp)
theorem pL{J:It}{it:Addr}{tn:Nat->Heap->Prop}{Qe:VK}{RR:Value->Addr->Result->Shared->Prop}{E:L3}(Q:X.calm=true)(I2:Inv X G Z H s)(t:CompSc X.env.scope scope x [])(hv:scope.names.lookup y=some .local)(hxy:[x,y].Nodup)
 (T:Turn X.prog X.w X.K (.Tuple [.Name x px,.Name y py] k pt) J fp it tn) (st0:tn 0 s.heap) (F:∀ b∈fp,li X G H b)
 (hte:∀ C fp s₀ H₀,PE (fV X scope (bN X.env scope.names []) C [x,y] fp s₀ H₀) elt te)
 (hW:∀ p,H p=none->Ks X.K J te p H Qe)
 (hRR:∀ p C H' g,Inv X G Z H' g->li X G H' C->(∃ m,g.heap.Ns C m)->Qe (.ref p) H'->RR (.ref p) C (.ok .next) g):
 wpAny (model X.prog X.w) X.A (newList []) (λacc s₃=>wpAny (model X.prog X.w) X.A (newFunctionEnv scope X.env.globals (bN X.env scope.names []) [] X.env.qual none .none (some X.env)) (λN s₄=>
  codeAny (model X.prog X.w) X.A (.compStart (.ListComp elt [⟨.Tuple [.Name x px,.Name y py] k pt,iter,[],0⟩] scope pos) 0 (.ref it) acc { N with scope:=relabel scope X.env }) (RR acc N.locals) s₄) E s₃) E s:=by
 refine wpAny_newObj_type (wpAny_newFunctionEnv t.cell (by intro y hy; simp at hy) (λh l j=>?_) t.kind);dsimp only at l j ⊢;have hD:H s.heap.objs.size=none:=I2.hok.fresh (Nat.le_refl _)
 have I3:Inv X G Z (upd H s.heap.objs.size (.lst [])) {s with heap:=s.heap.push {cls:= .type "list",dict:=none,data:= .seq ([]:List Value).toArray}}:=
  I2.laid (t':=s.toks) (λb u e=>VS _ e) (VW _) ⟨WP _,[],0,.nil,V3 _ rfl⟩
 obtain⟨W,⟨m0,w0⟩,I⟩:=hW _ hD
 have M:∀ b∈fp,b<s.heap.objs.size:=λb f=>by
  obtain⟨o,e,_⟩:=T.obj 0 _ st0 b f;exact VX e
 have hlt:∀ b∈fp,b<(s.heap.push {cls:= .type "list",dict:=none,data:= .seq ([]:List Value).toArray}).objs.size:=λb f=>by
  rw[Xr];exact XN (M b f)
 have hf3:∀ b∈fp,li X G (upd H s.heap.objs.size (.lst [])) b:=λb f=>⟨by rw[bc (Wc (M b f))]; exact(F b f).1,(F b f).2⟩
 have kept:∀ b o,(s.heap.push {cls:= .type "list",dict:=none,data:= .seq ([]:List Value).toArray}).get? b=some o->h.get? b=some o:=λb o e=>
  j.extBut b o (Wc (VX e)) (VS _ e)
 have P:∀ b o,s.heap.get? b=some o->h.get? b=some o:=λb o e=>kept b o (VS _ e);have I4:=Eg (y:=y) (t₁:=s.toks+([]:List (Str×Value)).length) I3 t hf3 hlt l kept;have st4:tn 0 h:=T.keep 0 _ _ st0 λb _ o e=>P b o e
 have L:codeAny (model X.prog X.w) X.A (.compLoop (.ListComp elt [⟨.Tuple [.Name x px,.Name y py] k pt,iter,[],0⟩] scope pos) 0 (.ref it) (.ref s.heap.objs.size) (compEnvC scope (bN X.env scope.names []) (s.heap.push {cls:= .type "list",dict:=none,data:= .seq ([]:List Value).toArray}).objs.size X.env))
  (RR (.ref s.heap.objs.size) (s.heap.push {cls:= .type "list",dict:=none,data:= .seq ([]:List Value).toArray}).objs.size) {s with heap:=h,toks:=s.toks+([]:List (Str×Value)).length}:=by
  generalize B:fV X scope (bN X.env scope.names []) (s.heap.push {cls:= .type "list",dict:=none,data:= .seq ([]:List Value).toArray}).objs.size [x,y] fp {s with heap:=s.heap.push {cls:= .type "list",dict:=none,data:= .seq ([]:List Value).toArray}} (upd H s.heap.objs.size (.lst []))=Y at I4;have hte':PE Y elt te:=by rw[<-B]; exact hte _ _ _ _
  have R:Y.calm=true:=by rw[<-B]; exact Q
  have hg:PG Y (.Tuple [.Name x px,.Name y py] k pt) (PY Y.K 2 (xK (fE 0) (xK (fE 1) PZ))):=by
   refine qL R (eM ?_ (eM ?_ mS))
   ·rw [<-B]; exact bo hxy rfl (.inl (lookup_relabel_local t.var)) (.inr (lookup_relabel_local t.var))
   ·rw [<-B]; exact bo hxy rfl (.inl (lookup_relabel_local hv)) (.inr (lookup_relabel_local hv))
  have f4:∀ {H':Hp},(∀ b∈fp,H' b=none)->∀ b∈fp,li Y [] H' b:=λ{H'} hn b f=>by
   rw[<-B];refine⟨hn b f,Wc (hlt b f),λz=>?_,.inl f,λy c e z=>?_,λp hp=>absurd (show p∈([]:L1) from hp) (by simp)⟩
   · rcases List.mem_cons.mp (I3.stkSub b z) with q|q
     ·exact(F b f).2.1 q
     ·exact(F b f).2.2.1 q
   · rcases io (sX I2 t) e with q|q
     ·cases q
     ·exact(F b f).2.2.2.2.1 y c q z
  have fin:∀ {vo:St} {H':Hp} {g:Shared},Inv Y [] vo H' g->Qe (.ref s.heap.objs.size) H'->RR (.ref s.heap.objs.size) (s.heap.push {cls:= .type "list",dict:=none,data:= .seq ([]:List Value).toArray}).objs.size (.ok .next) g:=λ{vo H' g} J q=>by
   rw[<-B] at J;have Ix:Inv X G Z H' g:=I3.call' (ch:=fp) J.os J.base J.hok J.bare λb f=>⟨(F b f).2.2.2.1,(F b f).2.1,(F b f).2.2.2.2.1,(F b f).2.2.2.2.2⟩;refine hRR _ _ H' g Ix (I3.fpOk (VW _) J.free) ?_ q;obtain⟨m,hm,_⟩:=J.loc;exact⟨m,hm⟩
  have eY:compEnvC scope (bN X.env scope.names []) (s.heap.push {cls:= .type "list",dict:=none,data:= .seq ([]:List Value).toArray}).objs.size X.env=Y.env:=by rw[<-B]; rfl
  have eP:X.prog=Y.prog:=by rw[<-B]; rfl
  have eW:X.w=Y.w:=by rw[<-B]; rfl
  have eK:X.K=Y.K:=by rw[<-B]; rfl
  have eA:X.A=Y.A:=by rw[<-B]; rfl
  have eX:Y.xe=λ_ _=>False:=by rw[<-B]; rfl
  rw[eP,eW,eK] at T;rw[eK] at I;rw[eY,eP,eW,eA];refine pM (λn g=>∃ i ys v1 V H',Inv Y [] [v1,V] H' g/\tn i g.heap/\(∀ b∈fp,H' b=none)/\W i n ys H') ?_ m0 ⟨0,[],none,none,_,I4,st4,λb f=>(hf3 b f).1,w0⟩;rintro n g ⟨i,ys,v1,V,H',I',st',fr',w'⟩;obtain⟨hp,hlen,U⟩:=I i n ys H' w';rcases U with ⟨stop,q⟩|⟨go,step⟩
  ·refine b8 (T.done Y rfl rfl rfl R i [] g [v1,V] H' (λ_ _=>False) I' (f4 fr') st' stop) λr s1 ⟨hr,I1⟩=>?_;subst hr;exact fin I1 q
  · refine b8 (T.item Y rfl rfl rfl R i [] g [v1,V] H' (λ_ _=>False) I' (f4 fr') st' go) λr s1 ⟨u,hr,h4⟩=>?_;subst hr;refine b8 h4 λ_ s2 ⟨v,H2,J2,r2,y2,O,fr2⟩=>?_;have J2p:=J2.pinned (f4 fr2) (T.obj _ _ O)
    have again:∀ {D:St} {H7:Hp} {s7:Shared},Inv Y ([]++n5 fp s2.heap) D H7 s7->tn (i+1) s7.heap/\∀ b∈fp,H7 b=none:=λ{D H7 s7} I7=>by
     refine⟨T.keep _ _ _ O λb f o e=>(I7.pin (b,o) (VV _ (VV _ (fS f e)))).1,λb f=>?_⟩;obtain⟨o,e,d⟩:=T.obj _ _ O b f;exact(I7.pin (b,o) (VV _ (VV _ (fS f e)))).2.1
    obtain⟨a,xa,S,rfl,hsq,q3⟩:=step v H2 y2;have hga:=hg _ s2 [v1,V] H2 (.ref a) u (λD H'=>D=[some xa,some S]/\H'=H2) J2p r2 ⟨a,[xa,S],rfl,hsq,rfl,xa,[S],rfl,S,[],rfl,rfl,rfl,rfl⟩;rw[eX] at hga;refine b8 hga λ_ s3 ⟨σ3,H3,J3,e3,e3'⟩=>?_;subst e3 e3';refine wpAny_tests_nil ?_;rw[on rfl];have hee:=hte' _ s3 _ H3 _ J3 q3;rw[eX] at hee;refine b8 hee λy s5 ⟨yv,H5,J5,r5,hp5,m',hm,w5⟩=>?_;have hap:=dL (X:=Y) _ s5 _ H5 (.ref s.heap.objs.size) [yv] (.ref s.heap.objs.size) [y] (λ_ H6=>H6=upd H5 s.heap.objs.size (.lst (ys++[yv]))) J5 rfl (.cons r5 .nil) ⟨_,ys,yv,rfl,rfl,hp5,hlen,rfl⟩;rw[eX] at hap;refine b8 hap λ_ s6 ⟨_,H6,J6,_,e6⟩=>?_;subst e6;exact⟨m',hm,i+1,ys++[yv],some xa,some S,_,J6.unpinned,(again J6).1,(again J6).2,w5⟩
 exact codeAny_compStart_list L (T.self _ 0 _ _ _ st4 L)
theorem GH{K:L0}{l:TI}(E:X.K=K)(c:X.calm=true)(hi:PI X (.Tuple [.Name x px,.Name y py] k pt) iter l)(a:CompSc X.env.scope scope x [])(t:scope.names.lookup y=some .local)(f:[x,y].Nodup)
 (g:∀ C fp s₀ H₀,PE (fV X scope (bN X.env scope.names []) C [x,y] fp s₀ H₀) elt te)
 (j:closureFor scope X.env=pure (bN X.env scope.names []):=by rfl) (u:∀ x,foldedSetIterable iter X.env x=pure x:=by intro _; rfl):
 PE X (.ListComp elt [⟨.Tuple [.Name x px,.Name y py] k pt,iter,[],0⟩] scope pos) (uQ K l te):=by
 subst E;intro G s Z H Q I h;rw[eval_ListComp];refine W9 (use:=none) rfl u j a.kind a.loc (b8 (hi G s Z H _ I h) λv s1 L=>b8 L λr s2 F=>?_);obtain⟨it,fp,Y,J,H2,e,U,T,d,P,D⟩:=F;subst e;refine pL (RR:=λacc C=>compPost (model X.prog X.w) X.A X.xe none (EP X G Z Q) acc C) c U a t f T d P g D ?_;rintro p C H' n V ⟨S,R,_,O,N,M⟩ ⟨m,z⟩ q;exact⟨m,z,λh' i=>⟨.ref p,H',V.turned (t':=n.toks) (λb o B e=>i.extBut b o B e) S R O N M,rfl,q⟩⟩
theorem wW{K:L0}{R:TI}{z:Str}{j a:Pos}{i:Nat}(hK:X.K=K)(g:X.calm=true)(hN:X.N.Nodup)(M:X.N[i]?=some z)(hy:Rg X.env.scope z)(hi:PI X (.Tuple [.Name x px,.Name y py] k pt) iter R)(f:CompSc X.env.scope scope x [])(hv:scope.names.lookup y=some .local)(u:[x,y].Nodup)
 (B:∀ C fp s₀ H₀,PE (fV X scope (bN X.env scope.names []) C [x,y] fp s₀ H₀) elt te)
 (E:swapsWith (.ListComp elt [⟨.Tuple [.Name x px,.Name y py] k pt,iter,[],0⟩] scope pos) (some (.Name z j)) a.line X.env=pure true:=by rfl)
 (O:closureFor scope X.env=pure (bN X.env scope.names []):=by rfl) (hs:∀ x,foldedSetIterable iter X.env x=pure x:=by intro _; rfl)
 (hf:X.fn z=true\/X.env.scope.names.lookup z=some .local:=by first | exact .inl rfl | exact .inr rfl | assumption):
 PS X (.Assign [.Name z j] (.ListComp elt [⟨.Tuple [.Name x px,.Name y py] k pt,iter,[],0⟩] scope pos) a) (DC (uQ K R te) (fE i)):=by
 subst hK;intro G s Z H D I h;rw[exec_Assign_Name_used _ _ _ _ E];refine VO (Yp (VO ?_));show wpAny _ X.A (do let _ <-comprehension (.ListComp elt [⟨.Tuple [.Name x px,.Name y py] k pt,iter,[],0⟩] scope pos) scope X.env _ (newList []) false (eval iter X.env) (some (assign (.Name z j) X.env))) _ _ s;refine VO (b8 (W9 (Q:=λ_ d=>SP X G D .next d) rfl hs O f.kind f.loc (b8 (hi G s Z H _ I h) λv s1 h1=>b8 h1 λitv s2 h2=>?_)) λ_ d hq=>VY (VY hq));obtain⟨it,fp,tn,J,H2,e,I2,T,t,f2,hW⟩:=h2;subst e;refine pL (RR:=λacc C=>compPost (model X.prog X.w) X.A X.xe (some (assign (.Name z j) X.env)) (λ_ d=>SP X G D .next d) acc C) g I2 f hv u T t f2 B hW ?_;rintro p C H' d V ⟨f0,S,P,f3,f4,f5⟩ ⟨m,hm⟩ q;obtain⟨n,es,ep,L,l,rC⟩:=hm
 have Ip:Inv X (G++[(C,n)]) Z H' d:=V.pins_of λp hp=>(List.mem_append.mp hp).elim (λz=>V.pin p (VV _ z)) λz=>by
  have e:p=(C,n):=by simpa using z
  subst e;exact⟨L,f0,S,P,λv z=>by rw[l] at z; cases z⟩
 have hg:PG X (.Name z j) (fE i):=bo hN M hy hf;refine b8 (hg _ d Z H' (.ref p) (.ref p) D.nx Ip rfl q) λ_ Y ⟨r,H3,U,q3⟩=>?_;have c:=U.pin (C,n) (VV _ (VV _ (by simp)));refine⟨m,⟨n,es,ep,c.1,l,rC⟩,λh' F=>?_⟩;exact⟨r,H3,(U.unpinned).turned (t':=Y.toks) (λb o hb e=>F.extBut b o hb e) c.2.1 S f3 f4 f5,q3⟩
end
theorem Gy{X:Cx}{st:List Stmt}{h:ExceptHandler}{a:Pos}{t:TS}(c:X.xe=λ_ _=>False)(f:PSs X st t):PS X (.Try st [h] [] [] a) t:=by
 intro G s Z H D I d;refine wpAny_Try_except ?_;refine W8 (f G s Z H D I d) (λfl b z=>?_) (λe b z=>by rw[c] at z; exact z.elim);cases fl with
 |next=>exact XB z
 |ret v=>exact z
 |brk=>exact z
 |cont=>exact z
end L2
namespace Mi
open PySem L2
def Kg:D->D->Res D | .str a,.str b=>if a.length+b.length<=sizeLine then .ok (.str (a++b)) else .bad|_,_=> .bad
def OU:D->D->Res D | .str i,.str j=> .ok (.bl (!(!(Builtin.Str.occurrences j i 0 j.length 1).isEmpty)))|_,_=> .bad
abbrev aq(i:Int):Str:=toString i
def nN:D->Res D | .int i=>if i.natAbs.log2<1920 then .ok (.str (aq i)) else .bad | .str x=> .ok (.str x)|_=> .bad
def BZ:D->Res D | .str x=>if x.length<=640 then (match PySem.intText? x with|some n=> .ok (.int n)|none=> .bad) else .bad|_=> .bad
def xy:D->Res D | .str x=>if x.length<=sizeLine then .ok (.int x.length) else .bad|_=> .bad
def LM:D->D->Res D | .str z,.int i=>if z.length<=sizeLine then (match kj z.cps.toList i with|some c=> .ok (.str ⟨#[c]⟩)|none=> .bad) else .bad|_,_=> .bad
def ye:D->D->Res D | .str z,.int i=>if (kU z (some i) none).length<=sizeLine then .ok (.str (kU z (some i) none)) else .bad|_,_=> .bad
def yf:D->D->Res D | .str z,.int i=>if (kU z none (some i)).length<=sizeLine then .ok (.str (kU z none (some i))) else .bad|_,_=> .bad
def mN:List D->Option (List Str)
 |[]=>some []
 |.str x::r=>(mN r).map (x::·)
 |_=>none
def y0(a:Str):D->Res D | .str b=> .ok (.bl (Txt.startswith a b))|_=> .bad
def P5(a:Str):D->Res D | .str b=> .ok (.bl (Txt.endswith a b))|_=> .bad
def rp(a:Str):D->Res D | .lst ds=>(match mN ds with|some xs=>if JoinOk a xs=true then .ok (.str (Txt.join a xs)) else .bad|none=> .bad)|_=> .bad
def qv(a:Str):D->Res D | .str b=>if (b.length==0)=false/\a.length<=sizeLine/\(Txt.split a b).length<=sizeLine then .ok (.lst ((Txt.split a b).map D.str)) else .bad|_=> .bad
def AD(f:Str->D->Res D)(a b:Env->Res D):Env->Res D:=λM=>(a M).bind λx=>match x with | .str z=>(b M).bind λy=>f z y|_=> .bad
def Nm(a:Env->Res D):Env->Res (List D):=λM=>(a M).bind λd=>match d with | .str x=> .ok (x.cps.toList.map λc=>D.str ⟨#[c]⟩)|_=> .bad
def LW:D->Option Str | .int i=>if i.natAbs.log2<1920 then some (aq i) else none | .str y=>if y.length<=sizeLine then some y else none|_=>none
def jN:Str->Env->Res Str:=λacc _=> .ok acc
def jC(a:Env->Res D)(r:Str->Env->Res Str):Str->Env->Res Str:=λacc M=>(a M).bind λx=>match LW x with|some y=>if (acc++y).length<=sizeLine then r (acc++y) M else .bad|none=> .bad
def P4(m:Str->Env->Res Str):Env->Res D:=λM=>(m Str.empty M).bind λx=>if x.length<=sizeLine then .ok (.str x) else .bad
def gN(te:Env->Res D):List D->Res (List D)
 |[]=> .ok []
 |.tup [x,y]::r=>(te [some x,some y]).calm.bind λz=>(gN te r).bind λa=> .ok (z::a)
 |_::_=> .bad
def yC(src:Env->Res (List D))(te:Env->Res D):Env->Res D:=λM=>(src M).bind λxs=>if xs.length<ak then (gN te xs).bind λys=> .ok (.lst ys) else .bad
section
variable{Y:Cm}{E:XK}{T:List Md}
theorem FL:S2 Y (λx y H Q=>∃ i j,x= .str i/\y= .str j/\i.length+j.length<=sizeLine/\Q (.str (i++j)) H) Kg:=by
 intro H x y v u b a;cases x with
 |str i=>
   cases y with
   |str j=>
     rw[Dn] at b; rw[Dn] at a;subst b a;unfold Kg;dsimp only;by_cases z:i.length+j.length<=sizeLine
     ·rw[on z]; exact⟨_,λ_=>by rw[Dn],λQ q=>⟨i,j,rfl,rfl,z,q⟩⟩
     ·rw[VM z]; trivial
   |_=>trivial
 |_=>trivial
theorem NG:S2 Y (λx y H Q=>∃ i j,x= .str i/\y= .str j/\Q (.bl (!(!(Builtin.Str.occurrences j i 0 j.length 1).isEmpty))) H) OU:=by
 intro H x y v u b a;cases x with
 |str i=>
   cases y with
   |str j=>
     rw[Dn] at b; rw[Dn] at a;subst b a;exact⟨_,λ_=>by rw[Dn],λQ q=>⟨i,j,rfl,rfl,q⟩⟩
   |_=>trivial
 |_=>trivial
theorem AY:S1 Y (λv H Q=>Gp [v] H Q) nN:=by
 intro H x v a;cases x with
 |int i=>
   rw[Dn] at a;subst a;unfold nN;dsimp only;by_cases z:i.natAbs.log2<1920
   ·rw[on z]; exact⟨_,λ_=>by rw[Dn],λQ q=> .inl ⟨i,rfl,z,q⟩⟩
   ·rw[VM z]; trivial
 |str y=>
   rw[Dn] at a;subst a;exact⟨_,λ_=>by rw[Dn],λQ q=> .inr ⟨y,rfl,q⟩⟩
 |_=>trivial
theorem NN:S1 Y (λv H Q=>∃ x n,[v]=[.str x]/\PySem.intText? x=some n/\x.length<=640/\Q (.int n) H) BZ:=by
 intro H x v a;cases x with
 |str y=>
   rw[Dn] at a;subst a;unfold BZ;dsimp only;by_cases z:y.length<=640
   · rw[on z];cases e:PySem.intText? y with
     |some n=>exact⟨.int n,λ_=>by rw[Dn],λQ q=>⟨y,n,rfl,e,z,q⟩⟩
     |none=>trivial
   ·rw[VM z]; trivial
 |_=>trivial
theorem FA:S1 Y (λv H Q=>∃ z,[v]=[.str z]/\z.length<=sizeLine/\Q (.int z.length) H) xy:=by
 intro H x v a;cases x with
 |str y=>
   rw[Dn] at a;subst a;unfold xy;dsimp only;by_cases z:y.length<=sizeLine
   ·rw[on z]; exact⟨_,λ_=>by rw[Dn],λQ q=>⟨y,rfl,z,q⟩⟩
   ·rw[VM z]; trivial
 |_=>trivial
theorem RU:S2 Y RZ LM:=by
 intro H x y v u b a;cases x with
 |str z=>
   cases y with
   |int i=>
     rw[Dn] at b; rw[Dn] at a;subst b a;unfold LM;dsimp only;by_cases h:z.length<=sizeLine
     · rw[on h];cases e:kj z.cps.toList i with
       |some c=>exact⟨_,λ_=>by rw[Dn],λQ q=>⟨z,i,c,rfl,rfl,h,e,q⟩⟩
       |none=>trivial
     ·rw[VM h]; trivial
   |_=>trivial
 |_=>trivial
theorem K5:S2 Y (λx y H Q=>∃ i,y= .int i/\Gr x (some i) none H Q) ye:=by
 intro H x y v u b a;cases x with
 |str z=>
   cases y with
   |int i=>
     rw[Dn] at b; rw[Dn] at a;subst b a;unfold ye;dsimp only;by_cases h:(kU z (some i) none).length<=sizeLine
     ·rw[on h]; exact⟨_,λ_=>by rw[Dn],λQ q=>⟨i,rfl,z,rfl,h,q⟩⟩
     ·rw[VM h]; trivial
   |_=>trivial
 |_=>trivial
theorem K6:S2 Y (λx y H Q=>∃ i,y= .int i/\Gr x none (some i) H Q) yf:=by
 intro H x y v u b a;cases x with
 |str z=>
   cases y with
   |int i=>
     rw[Dn] at b; rw[Dn] at a;subst b a;unfold yf;dsimp only;by_cases h:(kU z none (some i)).length<=sizeLine
     ·rw[on h]; exact⟨_,λ_=>by rw[Dn],λQ q=>⟨i,rfl,z,rfl,h,q⟩⟩
     ·rw[VM h]; trivial
   |_=>trivial
 |_=>trivial
variable{ta tb:TE}{ma mb:Env->Res D}
theorem Le(b:PJ Y (KR Y .X) E T ta ma)(a:PJ Y (KR Y .X) E T tb mb):PJ Y (KR Y .F) E T (UX Gr ta (AN tb) p5) (bn ye ma mb):=av K5 b a
theorem Lf(b:PJ Y (KR Y .X) E T ta ma)(a:PJ Y (KR Y .X) E T tb mb):PJ Y (KR Y .F) E T (UX Gr ta p5 (AN tb)) (bn yf ma mb):=av K6 b a
theorem Kb{K:L0}{r:V->List V->Hp->VK->Prop}{f:Str->D->Res D}{a:KT D V}(h:∀ {B U:Hp} {As:Nat->List Addr} {Z:St} {H:Hp} {M:Env} {Q:VK} {z:Str} {y:D} {u:V},Rel Y T B U As Z H M->Dn Y H y u->Po Y a E T B U As Z H M (f z y) Q->r (.str z) [u] H Q)
 (c:PJ Y (KR Y .X) E T ta ma) (b:PJ Y (KR Y .X) E T tb mb):PJ Y a E T (AR K "str" r ta (b9 tb d8)) (AD f ma mb):=by
 intro B U As Z H M Q R P;refine c.bnd R P λx v I U1 L O _ e l j N s=>?_;have N:Dn Y L x v:=N;cases x with
 |str z=>
   rw[Dn] at N;subst N;refine⟨rfl,b.bnd e s λy u p m o n _ R2 k i d g=>?_⟩;exact h R2 d g
 |_=>exact s.elim
theorem uY{K:L0}{r:V->List V->Hp->VK->Prop}{f:Str->D->Res D}(h:∀ z,S1 Y (λu H Q=>r (.str z) [u] H Q) (f z))(g:PJ Y (KR Y .X) E T ta ma)(b:PJ Y (KR Y .X) E T tb mb):PJ Y (KR Y .F) E T (AR K "str" r ta (b9 tb d8)) (AD f ma mb):=
 Kb (λ{B U As Z H M Q z y u} R d P=>by
  have q:=h z H y u d;cases e:f z y with
  |ok d=>
    rw[e] at q P;obtain⟨w,a,k⟩:=q;exact k Q (P w B U H [] R (Gw.refl _ _ _) New.nil (a _))
  |exc c=>rw[e] at q; exact q.elim
  |bad=>rw[e] at P; exact P.elim) g b
theorem GL{K:L0}(d:PJ Y (KR Y .X) E T ta ma)(c:PJ Y (KR Y .X) E T tb mb):PJ Y (KR Y .F) E T (AR K "str" By ta (b9 tb d8)) (AD y0 ma mb):=
 uY (λz H x v a=>by
  cases x with
  |str b=>rw[Dn] at a; subst a; exact⟨_,λ_=>by rw[Dn],λQ q=>⟨z,b,rfl,rfl,q⟩⟩
  |_=>trivial) d c
theorem Op{K:L0}(d:PJ Y (KR Y .X) E T ta ma)(c:PJ Y (KR Y .X) E T tb mb):PJ Y (KR Y .F) E T (AR K "str" MF ta (b9 tb d8)) (AD P5 ma mb):=
 uY (λz H x v a=>by
  cases x with
  |str b=>rw[Dn] at a; subst a; exact⟨_,λ_=>by rw[Dn],λQ q=>⟨z,b,rfl,rfl,q⟩⟩
  |_=>trivial) d c
theorem wF{G:Hp}:∀ {ds:List D} {vs:List V} {xs:List Str},mN ds=some xs->Dns Y G ds vs->vs=xs.map V.str
 |[],vs,xs,e,h=>by rw[Dns] at h; cases e; exact h
 | .str x::r,vs,xs,e,h=>by
   rw[Dns] at h;obtain⟨v,vr,rfl,a,b⟩:=h;have e:(mN r).map (x::·)=some xs:=e;cases q:mN r with
   |none=>rw[q] at e; cases e
   |some ys=>
     rw[q] at e;cases e;rw[Dn] at a;rw[a,wF q b]<;>rfl
 |.non::_,_,_,e,_=>nomatch e
 |.bl _::_,_,_,e,_=>nomatch e
 |.int _::_,_,_,e,_=>nomatch e
 |.ty _::_,_,_,e,_=>nomatch e
 |.lst _::_,_,_,e,_=>nomatch e
 |.tup _::_,_,_,e,_=>nomatch e
 |.scr _::_,_,_,e,_=>nomatch e
 |.dK _ _::_,_,_,e,_=>nomatch e
 |.dT _ _::_,_,_,e,_=>nomatch e
 |.obj _ _ _::_,_,_,e,_=>nomatch e
theorem vc{K:L0}(d:PJ Y (KR Y .X) E T ta ma)(c:PJ Y (KR Y .X) E T tb mb):PJ Y (KR Y .F) E T (AR K "str" (Gv K) ta (b9 tb d8)) (AD rp ma mb):=
 uY (λz H x v b=>by
  cases x with
  |lst ds=>
    rw[Dn] at b;obtain⟨a,vs,rfl,g,f⟩:=b;unfold rp;dsimp only;cases e:mN ds with
    |none=>trivial
    |some xs=>
      dsimp only;by_cases q:JoinOk z xs=true
      · rw[on q]
        have:=wF e f
        subst this;exact⟨_,λ_=>by rw[Dn],λQ k=>⟨z,a,xs,rfl,rfl,SqL.of g,q,k⟩⟩
      ·rw[VM q]; trivial
  |_=>trivial) d c
theorem rO{G:Hp}:∀ xs:List Str,Dns Y G (xs.map D.str) (xs.map V.str)
 |[]=>by rw[Wv,Wv,Dns]
 |x::xs=>by rw[VQ,VQ,Dns]; exact⟨_,_,rfl,by rw[Dn],rO xs⟩
theorem BF{K:L0}(e:PJ Y (KR Y .X) E T ta ma)(c:PJ Y (KR Y .X) E T tb mb):PJ Y (KO Y (.ct .fz)) E T (AR K "str" Gq ta (b9 tb d8)) (AD qv ma mb):=
 Kb (λ{B U As Z H M Q z y u} R d P=>by
  cases y with
  |str b=>
    rw[Dn] at d;subst d;unfold qv at P;dsimp only at P;by_cases q:(b.length==0)=false/\z.length<=sizeLine/\(Txt.split z b).length<=sizeLine
    ·rw[on q] at P;exact⟨z,b,rfl,rfl,q.1,q.2.1,q.2.2,λl a=>fB R P (rO _) a⟩
    ·rw[VM q] at P; exact P.elim
  |_=>exact P.elim) e c
theorem IC{H:Hp}(x:Str):Kq (VG x) H (x.cps.toList.map λc=>V.str ⟨#[c]⟩):=λd s=>by
 have a:(x.cps.toList.map λc=>V.str ⟨#[c]⟩).length=x.cps.size:=by simp
 refine⟨λi hi=>by rw[a] at hi; exact hi,λi hi=>by rw[a] at hi; exact hi,λi v H' hi y=>?_⟩;obtain⟨e,c,b,rfl⟩:=y;refine⟨e,?_⟩;rw[Wj,WI,b]<;>rfl
theorem TU(a:PJ Y (KR Y .X) E T ta ma):PJ Y (KI Y .F .X) E T (TW ta) (Nm ma):=by
 intro B U As Z H M Q R P;refine a.bnd R P λx v I U1 L O _ b e d N s=>?_;have N:Dn Y L x v:=N;cases x with
 |str z=>
   rw[Dn] at N;subst N;refine⟨z,rfl,s _ I U1 L [] b (Gw.refl _ _ _) New.nil ⟨_,IC z,?_⟩⟩
   have:=rO (Y:=Y) (G:=Mi.hp .F I U1 L) (z.cps.toList.map λc=>(⟨#[c]⟩:Str))
   rw[Wk,Wk] at this;exact this
 |_=>exact s.elim
def KS:KT Str Str:=λa b _ _ _ _=>a=b
theorem xB(acc:Str):PJ Y KS E T (TR acc) (jN acc):=λB U As Z H M Q R P=>P acc B U H [] R (Gw.refl _ _ _) New.nil rfl
theorem TQ{t:Kl}{m:Str->Env->Res Str}{te:TE}(d:∀ {Z:St} {H:Hp} {Q:VK},(ta Z H λx L=>(∃ i,x= .int i/\i.natAbs.log2<1920/\Q (.str (toString i)) L)\/∃ y,x= .str y/\y.length<=sizeLine/\Q (.str y) L)->te Z H Q)
 (g:PJ Y (KR Y .X) E T ta ma) (f:∀ acc,PJ Y KS E T (t acc) (m acc)) (acc:Str):PJ Y KS E T (BX te t acc) (jC ma m acc):=by
 intro B U As Z H M Q R P;refine d (g.bnd R P λx v I U1 L O _ h k j N s=>?_);have N:Dn Y L x v:=N;have s:Po Y KS E T I U1 As Z L M (match LW x with|some y=>if (acc++y).length<=sizeLine then m (acc++y) M else .bad|none=> .bad) Q:=s;cases e:LW x with
 |none=>rw[e] at s; exact s.elim
 |some y=>
   rw[e] at s;replace s:Po Y KS E T I U1 As Z L M (if (acc++y).length<=sizeLine then m (acc++y) M else .bad) Q:=s;by_cases q:(acc++y).length<=sizeLine
   · rw[on q] at s;have a:∃ c,V.str y= .str c/\(acc++c).length<=sizeLine/\t (acc++c) Z L Q:=⟨y,rfl,q,f (acc++y) I U1 As Z L M Q h s⟩;cases x with
     |int i=>
       rw[Dn] at N;subst N;replace e:(if i.natAbs.log2<1920 then some (aq i) else none)=some y:=e;by_cases z:i.natAbs.log2<1920
       ·rw[on z] at e; cases e; exact .inl ⟨i,rfl,z,a⟩
       ·rw[VM z] at e; cases e
     |str b=>
       rw[Dn] at N;subst N;replace e:(if b.length<=sizeLine then some b else none)=some y:=e;by_cases z:b.length<=sizeLine
       ·rw[on z] at e; cases e; exact .inr ⟨_,rfl,z,a⟩
       ·rw[VM z] at e; cases e
     |_=>cases e
   ·rw[VM q] at s; exact s.elim
theorem tJ{t:Kl}{m:Str->Env->Res Str}(b:PJ Y (KR Y .X) E T ta ma)(a:∀ acc,PJ Y KS E T (t acc) (m acc))(acc:Str):PJ Y KS E T (BX (tFv ta) t acc) (jC ma m acc):=TQ (λh=>h) b a acc
theorem Kz{t:Kl}{m:Str->Env->Res Str}{x:Str}(a:∀ acc,PJ Y KS E T (t acc) (m acc))(acc:Str):PJ Y KS E T (BX (tC (.str x)) t acc) (jC (aI (.str x)) m acc):=
 TQ (ta:=tC (.str x)) (λ{Z H Q} h=>by
  have h:(∃ i,V.str x= .int i/\i.natAbs.log2<1920/\Q (.str (toString i)) H)\/∃ y,V.str x= .str y/\y.length<=sizeLine/\Q (.str y) H:=h;rcases h with ⟨i,e,_⟩|⟨y,e,_,q⟩
  ·cases e
  ·cases e; exact q) (pS (E:=E)) a acc
theorem GO{t:Kl}{m:Str->Env->Res Str}(h:∀ acc,PJ Y KS E T (t acc) (m acc)):PJ Y (KR Y .F) E T (tJs t) (P4 m):=by
 intro B U As Z H M Q R P;refine(h Str.empty).bnd R P λx v I U1 L O _ a c b N s=>?_;have N:x=v:=N;subst N;by_cases z:x.length<=sizeLine
 ·rw[on z] at s; exact⟨z,s _ I U1 L [] a (Gw.refl _ _ _) New.nil (by show Dn _ _ _ _; rw[Dn])⟩
 ·rw[VM z] at s; exact s.elim
theorem Rel.inner2{B U:Hp}{As:Nat->List Addr}{Z:St}{H:Hp}{M:Env}{a:Md}(R:Rel Y T B U As Z H M){d e:D}{v u:V}(hd:Lo Y B U H a (some d) (some v) [])(b:Lo Y B U H a (some e) (some u) []):Rel Y [a,a] B U (λ_=>[]) [some v,some u] H [some d,some e] where
 bu:=R.bu
 uh:=R.uh
 nd:=λ_=>Wz
 dj:=λ_ _ _ _ h=>(nomatch h)
 un:=λ_ _ h=>(nomatch h)
 lo:=λi=>match i with
  |0=>hd
  |1=>b
  |_+2=>rfl
 len:=rfl
 tb:=R.tb
theorem Jt{k:Kd}{m0:Md}{wi:TI}{te:TE}{src:Env->Res (List D)}{A:Env->Res D}(h0:∀ B U H d v,Same B U->Same U H->Dn Y (hp k B U H) d v->Lo Y B U H m0 (some d) (some v) [])(hs:PJ Y (KI Y k .X) E T wi src)(hte:PJ Y (KR Y .F) E0 [m0,m0] te A):PJ Y (KO Y (.ct .fz)) E T (uQ Y.K wi te) (yC src A):=by
 intro B U As Z H M Q R P;refine hs.bnd R P λds J I U1 L O _ R1 e1 n1 ⟨vs,hJ,hd⟩ s p hp=>?_;replace s:Po Y (KO Y (.ct .fz)) E T I U1 As Z L M (if ds.length<ak then (gN A ds).bind λys=> .ok (.lst ys) else .bad) Q:=s;by_cases z:ds.length<ak
 · rw[on z] at s;have hvl:ds.length=vs.length:=hd.len;have hpA:∀ i,p∉As i:=λi=>R1.fresh hp i
   refine⟨λi m ys H2=>i<=ds.length/\m=ds.length-i/\H2 p=some (.lst ys)/\ys.length<=i/\∃ S G n,Rel Y T S G As Z H2 M/\Gw I U1 L S G H2/\G p=none/\Dns Y S n ys/\
    Po Y (KO Y (.ct .fz)) E T I U1 As Z L M ((gN A (ds.drop i)).bind λr=> .ok (.lst (n++r))) Q,⟨ds.length,WP _,rfl,bv,VW _,I,U1,[],R1.new hp,Gw.newO R1 hp,R1.uh.free hp,by rw[Dns],s⟩,?_⟩
   rintro i m ys H2 ⟨hi,rfl,hy,hle,S,G,n,R2,g2,u2,dz,f⟩;have l:=hJ H2 g2.h;refine⟨hy,WA hle (f7 (WO (WA hi z))),?_⟩;by_cases hlt:i<ds.length
   · refine .inr ⟨l.2.1 i (by omega),λv H3 hyl=>?_⟩;obtain⟨rfl,ev⟩:=l.2.2 i v H3 (by omega) hyl;obtain⟨d,ed,dd⟩:=hd.geti ev;rw[oI ed] at f;have dd:=Dn.mono (jD g2) dd;cases d with
     |tup xs=>
       match xs,dd,f with
       |[N,d2],dd,f=>
         rw[Dn] at dd;obtain⟨a,us,rfl,h1,C⟩:=dd;rw[Dns] at C;obtain⟨v1,r1,rfl,k1,C⟩:=C;rw[Dns] at C;obtain⟨v2,r2,rfl,k2,C⟩:=C;rw[Dns] at C;subst C;replace f:Po Y (KO Y (.ct .fz)) E T I U1 As Z L M (((A [some N,some d2]).calm.bind λz=>(gN A (ds.drop (i+1))).bind λn=> .ok (z::n)).bind λr=> .ok (.lst (n++r))) Q:=f;refine⟨a,v1,v2,rfl,SqT.of (R2.hp k _ _ h1),?_⟩;refine hte S G _ _ H3 _ _ (R2.inner2 (h0 S G H3 N v1 R2.bu R2.uh k1) (h0 S G H3 d2 v2 R2.bu R2.uh k2)) ?_;cases ee:A [some N,some d2] with
         |ok x=>
           rw[ee] at f;intro y B4 V H5 N4 w t n4 hx;have y5:H5 p=some (.lst ys):=t.h _ _ hy
           have W:V p=none:=by
            cases q:V p with
            |none=>rfl
            |some o=>
              rcases t.fr p o q with z|z|⟨xs,z⟩
              ·rw[u2] at z; cases z
              ·rw[hy] at z; cases z
              ·subst z; have:=w.uh p _ q; rw[y5] at this; cases this
           have R4:Rel Y T B4 V As Z H5 M:=R2.grow t.b t.u t.h w.bu w.uh λj a ha=>by
            cases q:V a with
            |none=>rfl
            |some o=>
              rcases t.fr a o q with z|z|z
              ·rw[R2.un j a ha] at z; cases z
              ·obtain⟨o',q'⟩:=R2.at ha;rw[z] at q'; cases q'
              ·obtain⟨o',q'⟩:=R2.at ha;have e1:=t.h _ _ q';rw[w.uh a _ q] at e1; cases e1; exact(R2.nt ha q' z).elim
           have g5:Gw I U1 L B4 V (upd H5 p (.lst (ys++[y]))):=by
            have g:=g2.trans t;exact⟨g.toEx,λa o q=>by rw[bc (bD q hp)]; exact g.h a o q,g.fr⟩
           refine⟨y5,ds.length-(i+1),by omega,hlt,rfl,bv,by rw[VT,XV]; omega,B4,V,n++[x],R4.poke W hpA,g5,W,(dz.mono t.b).append (Dns.one hx),?_⟩;cases eg:gN A (ds.drop (i+1)) with
           |ok r=>
             rw[eg] at f;show Po Y (KO Y (.ct .fz)) E T I U1 As Z L M (.ok (.lst (n++[x]++r))) Q;rw[WH];exact f
           |exc c=>rw[eg] at f; exact f
           |bad=>rw[eg] at f; exact f
         |exc c=>rw[ee] at f; exact f.elim
         |bad=>rw[ee] at f; exact f.elim
       |[],_,f=>exact f.elim
       |[_],_,f=>exact f.elim
       |_::_::_::_,_,f=>exact f.elim
     |_=>exact f.elim
   · have e:i=ds.length:=by omega
     subst e;rw[Yu] at f;refine .inl ⟨l.1 _ (by omega),?_⟩;have P3:Po Y (KO Y (.ct .fz)) E T I U1 As Z L M (.ok (.lst (n++[]))) Q:=f;rw[Wp] at P3;exact TY R2 g2 hp u2 hpA hy dz P3
 ·rw[VM z] at s;exact s.elim
theorem xc{b:TI}{te:TE}{src:Env->Res (List D)}{c:Env->Res D}(d:PJ Y (KI Y .U .X) E T b src)(a:PJ Y (KR Y .F) E0 [.R,.R] te c):PJ Y (KO Y (.ct .fz)) E T (uQ Y.K b te) (yC src c):=Jt (λ_ _ _ _ _=>inU) d a
theorem w9{K:L0}(h:PJ Y (KC Y .U) E T ta ma):PJ Y (KR Y .U) E T
 (DB (λxs H Q=>∃ p c b,xs=[.ref p]/\SqL K H p (c.map V.ref)/\TupsI H c b/\(∀ k∈b,k≠[])/\b.length<64/\∀ l,H l=none->Q (.ref l) (upd H l (.lst ((L2.pick c (bq b)).map V.ref)))) (b9 ta d8)) (un j3 ma):=by
 intro B U As Z H M Q R P;refine h.bnd R P λx v I U1 L O _ f m j N s=>?_;cases x with
 |lst ds=>
   obtain⟨a,xs,rfl,i,d⟩:=N;replace s:Po Y (KR Y .U) E T I U1 As Z L M (match gd ds with|some b=>(if (∀ k∈b,k≠[])/\b.length<64 then .ok (.lst (L2.pick ds (bq b))) else .bad)|none=> .bad) Q:=s;cases e:gd ds with
   |none=>rw[e] at s; exact s.elim
   |some b=>
     rw[e] at s;dsimp only at s;by_cases z:(∀ k∈b,k≠[])/\b.length<64
     ·rw[on z] at s;have d:Dns Y U1 ds xs:=d;obtain⟨c,rfl,t⟩:=oy e d;refine⟨a,c,b,rfl,SqL.of i,TupsI.mono f.uh t,z.1,z.2,λl g=>?_⟩;rw[<-kB];exact Hh f s (d.pick _) g
     ·rw[VM z] at s; exact s.elim
 |_=>exact s.elim
end
end Mi
namespace Cl
open PySem L2 Mi
variable{Z W X O:Type}{Y:Z->Mi.Env}
def pQ(a b:Str):Res Str:=if a.length+b.length<=sizeLine then .ok (a++b) else .bad
theorem Hb(a b:Str):SimR D.str (Kg (.str a) (.str b)) (pQ a b):=SimR.ite rfl trivial
def xm(i j:Str):Res Bool:= .ok (!(!(Builtin.Str.occurrences j i 0 j.length 1).isEmpty))
theorem OJ(a b:Str):SimR D.bl (OU (.str a) (.str b)) (xm a b):=rfl
def p6(i:Int):Res Str:=if i.natAbs.log2<1920 then .ok (aq i) else .bad
theorem G7(i:Int):SimR D.str (nN (.int i)) (p6 i):=SimR.ite rfl trivial
def eA(d:D):D:=d
def qt:D->Res Str | .int i=>if i.natAbs.log2<1920 then .ok (aq i) else .bad | .str x=> .ok x|_=> .bad
theorem Lj(d:D):SimR D.str (nN (eA d)) (qt d):=by cases d <;> first | exact SimR.ite rfl trivial | exact rfl | trivial
def IG(x:Str):Res Int:=if x.length<=640 then (match PySem.intText? x with|some n=> .ok n|none=> .bad) else .bad
theorem ON(x:Str):SimR D.int (BZ (.str x)) (IG x):=SimR.ite (by cases PySem.intText? x with|none=>trivial|some n=>exact rfl) trivial
def BW(x:Str):Res Int:=if x.length<=sizeLine then .ok x.length else .bad
theorem xh(x:Str):SimR D.int (xy (.str x)) (BW x):=SimR.ite rfl trivial
def LN(z:Str)(i:Int):Res Str:=if z.length<=sizeLine then (match kj z.cps.toList i with|some c=> .ok ⟨#[c]⟩|none=> .bad) else .bad
theorem Ln(z:Str)(i:Int):SimR D.str (LM (.str z) (.int i)) (LN z i):=SimR.ite (by cases kj z.cps.toList i with|none=>trivial|some c=>exact rfl) trivial
def vJ(z:Str)(i:Int):Res Str:=if (kU z (some i) none).length<=sizeLine then .ok (kU z (some i) none) else .bad
theorem Lp(z:Str)(i:Int):SimR D.str (ye (.str z) (.int i)) (vJ z i):=SimR.ite rfl trivial
def vK(z:Str)(i:Int):Res Str:=if (kU z none (some i)).length<=sizeLine then .ok (kU z none (some i)) else .bad
theorem Lq(z:Str)(i:Int):SimR D.str (yf (.str z) (.int i)) (vK z i):=SimR.ite rfl trivial
def qu(a b:Str):Res Bool:= .ok (Txt.startswith a b)
theorem Lk(a b:Str):SimR D.bl (y0 a (.str b)) (qu a b):=rfl
def P6(a b:Str):Res Bool:= .ok (Txt.endswith a b)
theorem Sw(a b:Str):SimR D.bl (P5 a (.str b)) (P6 a b):=rfl
theorem tU:∀ xs:List Str,mN (xs.map D.str)=some xs
 |[]=>rfl
 |x::xs=>by show(mN (xs.map D.str)).map (x::·)=_; rw[tU xs]; rfl
def mZ(a:Str)(xs:List Str):Res Str:=if JoinOk a xs=true then .ok (Txt.join a xs) else .bad
theorem vg(a:Str)(xs:List Str):SimR D.str (rp a (eL D.str xs)) (mZ a xs):=by
 show SimR D.str (match mN (xs.map D.str) with|some xs=>if JoinOk a xs=true then .ok (.str (Txt.join a xs)) else .bad|none=> .bad) _;rw[tU];exact SimR.ite rfl trivial
def lT(a b:Str):Res (List Str):=if (b.length==0)=false/\a.length<=sizeLine/\(Txt.split a b).length<=sizeLine then .ok (Txt.split a b) else .bad
theorem BK(a b:Str):SimR (eL D.str) (qv a (.str b)) (lT a b):=SimR.ite rfl trivial
theorem kT{e:X->D}{d:O->D}{F:Str->D->Res D}{f:Str->X->Res O}{m n:Mi.Env->Res D}{c:Z->Res Str}{g:Z->Res X}(h:∀ a b,SimR d (F a (e b)) (f a b))(j:EJ Y D.str m c)(i:EJ Y e n g):EJ Y d (AD F m n) (aC f c g):=λs=>(j s).bnd λa=>(i s).bnd λb=>h a b
def Nr(x:Str):Res (List Str):= .ok (x.cps.toList.map λc=>⟨#[c]⟩)
theorem IT{m:Mi.Env->Res D}{c:Z->Res Str}(h:EJ Y D.str m c):EJ Y (List.map D.str) (Nm m) (aZ Nr c):=λs=>(h s).bnd λx=>by
 show Res.ok _=Res.ok _;rw[Wk]<;>rfl
def EZ:Str->Z->Res Str:=λacc _=> .ok acc
def gh(f:W->Option Str)(a:Z->Res W)(r:Str->Z->Res Str):Str->Z->Res Str:=λacc s=>(a s).bind λx=>match f x with|some y=>if (acc++y).length<=sizeLine then r (acc++y) s else .bad|none=> .bad
def ik(i:Int):Option Str:=if i.natAbs.log2<1920 then some (aq i) else none
def fK(y:Str):Option Str:=if y.length<=sizeLine then some y else none
def B8(m:Str->Z->Res Str):Z->Res Str:=λs=>(m Str.empty s).bind λx=>if x.length<=sizeLine then .ok x else .bad
theorem nj(acc:Str):EJ Y (id:Str->Str) (jN acc) (EZ acc):=λ_=>rfl
theorem IS{e:W->D}{f:W->Option Str}{m:Mi.Env->Res D}{c:Z->Res W}{r:Str->Mi.Env->Res Str}{q:Str->Z->Res Str}(b:∀ a,LW (e a)=f a)(g:EJ Y e m c)(d:∀ acc,EJ Y (id:Str->Str) (r acc) (q acc))(acc:Str):EJ Y (id:Str->Str) (jC m r acc) (gh f c q acc):=λs=>(g s).bnd λa=>by
 rw[b];cases f a with
 |none=>trivial
 |some y=>exact SimR.ite (d _ s) trivial
theorem nl{m:Mi.Env->Res D}{c:Z->Res Int}{r:Str->Mi.Env->Res Str}{q:Str->Z->Res Str}(b:EJ Y D.int m c)(a:∀ acc,EJ Y (id:Str->Str) (r acc) (q acc))(acc:Str):EJ Y (id:Str->Str) (jC m r acc) (gh ik c q acc):=IS (λ_=>rfl) b a acc
theorem kS{m:Mi.Env->Res D}{c:Z->Res Str}{r:Str->Mi.Env->Res Str}{q:Str->Z->Res Str}(b:EJ Y D.str m c)(a:∀ acc,EJ Y (id:Str->Str) (r acc) (q acc))(acc:Str):EJ Y (id:Str->Str) (jC m r acc) (gh fK c q acc):=IS (λ_=>rfl) b a acc
theorem xN{r:Str->Mi.Env->Res Str}{q:Str->Z->Res Str}(h:∀ acc,EJ Y (id:Str->Str) (r acc) (q acc)):EJ Y D.str (P4 r) (B8 q):=λs=>(h Str.empty s).bnd λx=>SimR.ite rfl trivial
def iw(x:Str):Res D:= .ok (.str x)
def eU(x:Int):Res D:= .ok (.int x)
theorem nE(x:Str):SimR eA (.ok (D.str x)) (iw x):=rfl
theorem gP(x:Int):SimR eA (.ok (D.int x)) (eU x):=rfl
def Df(e:W->D)(xs:List W):Res (List D):= .ok (xs.map e)
theorem Ma{e:W->D}(xs:List W):SimR (eL eA) (.ok (eL e xs)) (Df e xs):=by
 show Res.ok (D.lst (xs.map e))=Res.ok (D.lst ((xs.map e).map eA));rw[Wk]<;>rfl
def AH(xs:P1):Res (List (List Int)):= .ok (xs.map λp=>[p.1,p.2])
theorem Ke(xs:P1):SimR (eL (lF D.int)) (.ok (eL (j8 D.int D.int) xs)) (AH xs):=by
 show Res.ok (D.lst (xs.map (j8 D.int D.int)))=Res.ok (D.lst ((xs.map λp=>[p.1,p.2]).map (lF D.int)));rw[Wk]<;>rfl
def Vs(p:Int×Int):Mi.Env:=[some (.int p.1),some (.int p.2)]
def kZ(d:Int×Int->Res X):List (List Int)->Res (List X)
 |[]=> .ok []
 |[a,b]::r=>(d (a,b)).calm.bind λz=>(kZ d r).bind λc=> .ok (z::c)
 |_::_=> .bad
def mF(c:Z->Res (List (List Int)))(d:Int×Int->Res X):Z->Res (List X):=λs=>(c s).bind λxs=>if xs.length<ak then kZ d xs else .bad
theorem xP{e:X->D}{src:Mi.Env->Res (List D)}{te:Mi.Env->Res D}{c:Z->Res (List (List Int))}{d:Int×Int->Res X}(h:EJ Y (List.map (lF D.int)) src c)(i:EJ Vs e te d):EJ Y (eL e) (yC src te) (mF c d):=λs=>(h s).bnd λxs=>by
 rw[VN];refine SimR.ite ?_ trivial
 have f:∀ l:List (List Int),SimR (List.map e) (gN te (l.map (lF D.int))) (kZ d l):=by
  intro l
  induction l with
  |nil=>rfl
  |cons x l g=>
    match x with
    |[a,b]=>exact SimR.bnd (i (a,b)).calm λz=>SimR.bnd g λj=>rfl
    |[]=>trivial
    |[_]=>trivial
    |_::_::_::_=>trivial
 have:=f xs
 cases q:kZ d xs with
 |ok ys=>rw[q] at this; have this:gN te (xs.map (lF D.int))= .ok (ys.map e):=this; rw[this]; rfl
 |exc x=>rw[q] at this; have this:gN te (xs.map (lF D.int))= .exc x:=this; rw[this]; rfl
 |bad=>trivial
end Cl
namespace Mi
open PySem L2
theorem kF{X:Cx}{K:L0}{o e:Expr}{es:List Expr}{to:TE}{t:TA}{name:Str}{c a:Pos}{T id:String}{r:V->List V->Hp->VK->Prop}(n:X.K=K)(i:PlainAttrs T)(slot:Slot T name id)(h:typeOf (.builtin id)=pure (.type "method_descriptor"))(l:Q8 X id r)(k:PE X o to)(m:PA X (e::es) t)
 (f:attributeBase o name X.env (eval o X.env)=eval o X.env:=by rfl)
 (g:((backTo a (starEach (e::es) X.env)).all (λx=>!x.1)&&(backToKw a (keywordEach [] X.env)).all (λx=>x.1.isSome)
   && decide ((e::es).length+([]:List Keyword).length+(if ([]:List Keyword).isEmpty then 0 else 1)<30))=true:=by rfl)
 (d:(c.endLine==a.line)=true:=by rfl) (j:starEach (e::es) X.env=(false,eval e X.env)::starEach es X.env:=by rfl) (b:(backTo a (starEach es X.env)).any (·.1)=false:=by rfl):
 PE X (.Call (.Attribute o name c) (e::es) [] a) (AR K T r to t):=by
 subst n;exact gb i slot h l k m f g d j b
theorem mX{X:Cx}{K:L0}(h:X.K=K):Q8 X "str.join" (Gv K):=by subst h; exact Ls
end Mi
namespace L2
open PySem PyProof.Rows PySem.W
theorem na{W:Type}{l:List W}{i:Nat}{d:W}(h:i<l.length):l.getD i d=l[i]:=by rw[V6,V1 h]; rfl
theorem DY{W:Type}{l:List W}(h:l.Nodup){i j:Nat}(hi:i<l.length)(a:j<l.length)(e:l[i]=l[j]):i=j:=by
 rcases Nat.lt_trichotomy i j with q|q|q
 ·exact absurd e (List.pairwise_iff_getElem.mp h i j hi a q)
 ·exact q
 ·exact absurd e.symm (List.pairwise_iff_getElem.mp h j i a hi q)
theorem gQ{W X:Type}{c:Nat->Nat->Bool}{f:W->KasT X}:∀ t:KasT W,cG c (t.bind f)=cG c (f (cG c t))
 |.ret a=>rfl
 |.ask i j k=>gQ (c:=c) (f:=f) (k (c i j))
section
variable{c:Nat->Nat->Bool}(tr:∀ i j k,c i j=true->c j k=true->c i k=true)(ir:∀ i,c i i=false)
def Asc(c:Nat->Nat->Bool)(p:Array Nat)(m:Nat):Prop:=∀ i,i+1<m->c (p.getD i 0) (p.getD (i+1) 0)=true
def Tot(c:Nat->Nat->Bool)(p:Array Nat):Prop:=∀ i j,i<j->j<p.size->c (p.getD i 0) (p.getD j 0)=true\/c (p.getD j 0) (p.getD i 0)=true
include tr in
theorem Asc.lt{p:Array Nat}{m:Nat}(h:Asc c p m):∀ d i,i+d+1<m->c (p.getD i 0) (p.getD (i+d+1) 0)=true
 |0,i,hi=>h i hi
 |d+1,i,hi=>tr _ _ _ (Asc.lt h d i (by omega)) (h (i+d+1) hi)
include tr in
theorem Asc.lt'{p:Array Nat}{m i j:Nat}(h:Asc c p m)(a:i<j)(b:j<m):c (p.getD i 0) (p.getD j 0)=true:=by
 have:=Asc.lt tr h (j-i-1) i (by omega)
 rwa [show i+(j-i-1)+1=j from by omega] at this
theorem u4{p:Array Nat}(j:Tot c p):∀ f k,1<=k->k+f<=p.size->Asc c p k->k<=cG c (kas_asc p f k)/\cG c (kas_asc p f k)<=k+f/\Asc c p (cG c (kas_asc p f k))/\(cG c (kas_asc p f k)=k+f\/c (p.getD (cG c (kas_asc p f k)) 0) (p.getD (cG c (kas_asc p f k)-1) 0)=true)
 |0,k,_,_,h=>⟨VW _,VW _,h,.inl rfl⟩
 | f+1,k,n,m,h=>by
   have e:cG c (kas_asc p (f+1) k)=cG c (if c (p.getD k 0) (p.getD (k-1) 0)=true then KasT.ret k else kas_asc p f (k+1)):=rfl;rw[e];by_cases q:c (p.getD k 0) (p.getD (k-1) 0)=true
   ·rw[on q]; exact⟨VW _,by show k<=_; omega,h,.inr q⟩
   · rw[VM q]
     have l:Asc c p (k+1):=λi hi=>by
      by_cases z:i+1<k
      ·exact h i z
      · have:i=k-1:=by omega
        subst this;rw[show k-1+1=k from by omega];rcases j (k-1) k (by omega) (by omega) with y|y
        ·exact y
        ·exact absurd y q
     obtain⟨a,b,d,g⟩:=u4 j f (k+1) (by omega) (by omega) l;exact⟨by omega,by omega,d,g.imp (λg=>by omega) id⟩
def VL(c:Nat->Nat->Bool)(p:Array Nat)(m:Nat):Prop:=∀ i,i+1<m->c (p.getD (i+1) 0) (p.getD i 0)=true
theorem wS{p:Array Nat}(j:Tot c p):∀ f k,1<=k->k+f<=p.size->VL c p k->∃ m,cG c (kas_desc f p k 0)=(p,m,0)/\k<=m/\m<=k+f/\VL c p m
 |0,k,_,_,h=>⟨k,rfl,VW _,VW _,h⟩
 | f+1,k,n,l,h=>by
   have e:cG c (kas_desc (f+1) p k 0)=cG c (if c (p.getD k 0) (p.getD (k-1) 0)=true then (if 0>0 then kas_desc f (kas_rev p (k-(0+1)) k) (k+1) 0 else kas_desc f p (k+1) 0) else .ask (p.getD (k-1) 0) (p.getD k 0) λd=>if d=true then .ret (p,k,0) else kas_desc f p (k+1) (0+1)):=rfl;rw[e];by_cases q:c (p.getD k 0) (p.getD (k-1) 0)=true
   · rw[on q,VM (by omega)]
     obtain⟨m,a,b,d,g⟩:=wS j f (k+1) (by omega) (by omega) λi hi=>by
      by_cases z:i+1<k
      ·exact h i z
      · have:i=k-1:=by omega
        subst this;rw[show k-1+1=k from by omega];exact q
     exact⟨m,a,by omega,by omega,g⟩
   · rw[VM q];refine⟨k,?_,VW _,by omega,h⟩
     have y:c (p.getD (k-1) 0) (p.getD k 0)=true:=by
      rcases j (k-1) k (by omega) (by omega) with y|y
      ·exact y
      ·exact absurd y q
     show cG c (if c (p.getD (k-1) 0) (p.getD k 0)=true then KasT.ret (p,k,0) else kas_desc f p (k+1) (0+1))=_;rw[on y]; rfl
theorem m9{p:Array Nat}{m:Nat}(a:m<=p.size)(k:Nat):(kas_rev p 0 m).getD k 0=if k<m then p.getD (m-1-k) 0 else p.getD k 0:=by
 unfold kas_rev;rw[Array.getD_eq_getD_getElem?,getElem?_mirror_all a];by_cases h:k<m
 ·rw[on ⟨WP _,h⟩,on h,Nat.zero_add,Wn]
 ·rw[VM (λz=>h z.2),VM h,Wn]
theorem Tot.rev{p:Array Nat}{m:Nat}(e:m<=p.size)(b:Tot c p):Tot c (kas_rev p 0 m):=by
 intro i j d a;have a:j<p.size:=by have:=mirror_size p 0 m ((m-0) / 2); unfold kas_rev at a; omega
 rw[m9 e,m9 e];by_cases g:j<m
 ·rw[on (by omega),on g];exact(b (m-1-j) (m-1-i) (by omega) (by omega)).symm
 · rw[VM g];by_cases f:i<m
   ·rw[on f]; exact b _ _ (by omega) a
   ·rw[VM f]; exact b _ _ d a
theorem DM{p:Array Nat}(f:Tot c p){m:Nat}(g:1<=m)(e:m<=p.size)(h:VL c p m):∃ k,cG c (kas_tail3 m p.size p)=(k,kas_rev p 0 m)/\1<=k/\k<=p.size/\Asc c (kas_rev p 0 m) k:=by
 have hz:(kas_rev p 0 m).size=p.size:=mirror_size _ _ _ _;unfold kas_tail3;rw[gQ]
 obtain⟨a,b,d,_⟩:=u4 (p:=kas_rev p 0 m) (f.rev e) (p.size-m) m g (by omega) λi hi=>by
  rw[m9 e,m9 e,on (by omega),on hi]
  have:=h (m-1-(i+1)) (by omega)
  rwa [show m-1-(i+1)+1=m-1-i from by omega] at this
 exact⟨_,rfl,by omega,by omega,d⟩
include tr ir in
theorem DN{p:Array Nat}(f:Tot c p)(hz:1<=p.size):1<=(cG c (kas_count p.size p)).1/\(cG c (kas_count p.size p)).1<=p.size/\(cG c (kas_count p.size p)).2.size=p.size/\(cG c (kas_count p.size p)).2.Perm p/\Tot c (cG c (kas_count p.size p)).2/\Asc c (cG c (kas_count p.size p)).2 (cG c (kas_count p.size p)).1:=by
 unfold kas_count;rw[gQ];obtain⟨a,b,d,g⟩:=u4 f (p.size-1) 1 (Nat.le_refl _) (by omega) (λi hi=>by omega);generalize cG c (kas_asc p (p.size-1) 1)=n at a b d g;by_cases h:(n==p.size)=true
 · rw[on h]
   have:n=p.size:=by simpa using h
   exact⟨a,by show n<=_; omega,rfl,YJ _,f,d⟩
 · rw[VM h];have z:n≠p.size:=by simpa using h
   by_cases j:n>1
   · rw[on j];have y:c (p.getD 0 0) (p.getD (n-1) 0)=true:=Asc.lt' tr d (by omega) (by omega)
     have e:cG c (.ask (p.getD 0 0) (p.getD (n-1) 0) λc=>if c=true then .ret (n,p) else kas_descPart n p.size (kas_rev p 0 n))=(n,p):=by
      show cG c (if c (p.getD 0 0) (p.getD (n-1) 0)=true then KasT.ret (n,p) else kas_descPart n p.size (kas_rev p 0 n))=_;rw[on y]; rfl
     rw[e];exact⟨a,by show n<=_; omega,rfl,YJ _,f,d⟩
   · rw[VM j];have l:n=1:=by omega
     subst l
     have t:c (p.getD 1 0) (p.getD 0 0)=true:=by
      rcases g with g|g
      ·omega
      ·exact g
     unfold kas_descPart;rw[gQ]
     obtain⟨m,v,x,w,o⟩:=wS f (p.size-(1+1)) (1+1) (by omega) (by omega) λi hi=>by
      have:i=0:=by omega
      subst this; exact t
     rw[v];dsimp only;rw[if_neg (by omega)];obtain⟨k,u,s,r,q⟩:=DM f (m:=m) (by omega) (by omega) o;rw[u];exact⟨s,r,mirror_size _ _ _ _,mirror_perm _ _ _ _,f.rev (by omega),q⟩
theorem nV{p:Array Nat}{k:Nat}:∀ f l r,l<=r->r<=k->r-l<=f->
 (∀ i,i<l->c (p.getD i 0) (p.getD k 0)=true)->(∀ i,r<=i->i<k->c (p.getD k 0) (p.getD i 0)=true)->
 (∀ i j,i<j->j<k->c (p.getD i 0) (p.getD j 0)=true)->(∀ i j k,c i j=true->c j k=true->c i k=true)->(∀ i,i<k->c (p.getD i 0) (p.getD k 0)=true\/c (p.getD k 0) (p.getD i 0)=true)->
 cG c (kas_place p k f l r)<=k/\(∀ i,i<cG c (kas_place p k f l r)->c (p.getD i 0) (p.getD k 0)=true)/\(∀ i,cG c (kas_place p k f l r)<=i->i<k->c (p.getD k 0) (p.getD i 0)=true)
 | 0,l,r,t,m,s,g,d,a,_,_=>by
   have:l=r:=by omega
   subst this;exact⟨m,g,d⟩
 | f+1,l,r,t,m,s,g,d,a,b,h=>by
   unfold kas_place;by_cases q:l>=r
   · rw[on q]
     have:l=r:=by omega
     subst this;exact⟨m,g,d⟩
   · rw[VM q];have e:cG c (.ask (p.getD k 0) (p.getD ((l+r) / 2) 0) λc=>if c=true then kas_place p k f l ((l+r) / 2) else kas_place p k f ((l+r) / 2+1) r)=cG c (if c (p.getD k 0) (p.getD ((l+r) / 2) 0)=true then kas_place p k f l ((l+r) / 2) else kas_place p k f ((l+r) / 2+1) r):=rfl;rw[e];by_cases y:c (p.getD k 0) (p.getD ((l+r) / 2) 0)=true
     · rw[on y];refine nV f _ _ (by omega) (by omega) (by omega) g (λi hi o=>?_) a b h;by_cases z:i=(l+r) / 2
       ·rw[z]; exact y
       ·exact b _ _ _ y (a _ _ (by omega) o)
     · rw[VM y];refine nV f _ _ (by omega) (by omega) (by omega) (λi hi=>?_) d a b h
       have n:c (p.getD ((l+r) / 2) 0) (p.getD k 0)=true:=by
        rcases h ((l+r) / 2) (by omega) with z|z
        ·exact z
        ·exact absurd z y
       by_cases z:i=(l+r) / 2
       ·rw[z]; exact n
       ·exact b _ _ _ (a _ _ (by omega) (by omega)) n
theorem xJ{p:Array Nat}{k l:Nat}(b:k<p.size)(c:l<=k)(i:Nat):(bubble p k (k-l)).getD i 0=if i=l then p.getD k 0 else if l<i/\i<=k then p.getD (i-1) 0 else p.getD i 0:=by
 rw[Wn,getElem?_bubble b (k-l) (by omega),show k-(k-l)=l from by omega];by_cases h:i=l
 ·rw[on h,on h,Wn]
 · rw[VM h,VM h];by_cases a:l<i/\i<=k
   ·rw[on a,on a,Wn]
   ·rw[VM a,VM a,Wn]
theorem Tot.of_perm{n:Nat}(g:∀ i j,i<n->j<n->i≠j->c i j=true\/c j i=true){p:Array Nat}(hp:p.Perm (List.range n).toArray):Tot c p:=by
 have a:p.toList.Perm (List.range n):=by simpa using hp.toList
 have nd:p.toList.Nodup:=a.nodup_iff.mpr List.nodup_range;intro i j d b;have f:p.getD i 0=p.toList[i]'(by simpa using(by omega:i<p.size)):=by simp[Array.getD,show i<p.size from by omega]
 have e:p.getD j 0=p.toList[j]'(by simpa using b):=by simp[Array.getD,b]
 have k:p.getD i 0<n:=by rw[f]; exact List.mem_range.mp (a.mem_iff.mp (Xf _))
 have h:p.getD j 0<n:=by rw[e]; exact List.mem_range.mp (a.mem_iff.mp (Xf _))
 refine g _ _ k h λz=>?_;rw[f,e] at z;exact List.pairwise_iff_getElem.mp nd i j (by simpa using(by omega:i<p.size)) (by simpa using b) d z
include tr in
theorem Ba{n:Nat}(o:∀ i j,i<n->j<n->i≠j->c i j=true\/c j i=true):∀ f (p:Array Nat) k,p.Perm (List.range n).toArray->k+f=p.size->Asc c p k->(cG c (kas_bin f p k)).Perm (List.range n).toArray/\Asc c (cG c (kas_bin f p k)) p.size
 |0,p,k,hp,m,a=>⟨hp,by rw[<-m]; exact a⟩
 | f+1,p,k,hp,m,a=>by
   have v:=Tot.of_perm o hp
   have e:cG c (kas_bin (f+1) p k)=cG c (kas_bin f (bubble p k (k-cG c (kas_place p k k 0 k))) (k+1)):=by
    show cG c ((kas_place p k k 0 k).bind _)=_;rw[gQ]
   rw[e];obtain⟨b,u,t⟩:=nV (c:=c) (p:=p) (k:=k) k 0 k (by omega) (by omega) (by omega) (λi hi=>by omega) (λi s q=>by omega) (λi j s q=>Asc.lt' tr a s q) tr (λi hi=>v i k hi (by omega));generalize cG c (kas_place p k k 0 k)=l at b u t;have hz:=bubble_size p k (k-l)
   have r:=Ba o f (bubble p k (k-l)) (k+1) ((bubble_perm _ _ _).trans hp) (by omega) λi hi=>by
    rw[xJ (by omega) b,xJ (by omega) b];by_cases h:i=l
    ·rw[on h,VM (by omega),on (by omega)]; exact t _ (by omega) (by omega)
    · rw[VM h];by_cases g:i+1=l
      ·rw[on g,VM (by omega)]; exact u _ (by omega)
      · rw[VM g];by_cases d:l<i/\i<=k
        ·rw[on d,on (by omega)]; exact Asc.lt' tr a (by omega) (by omega)
        ·rw[VM d,VM (by omega)]; exact Asc.lt' tr a (by omega) (by omega)
   rw[hz] at r;exact r
include tr ir in
theorem FN{n:Nat}(k:1<=n)(d:∀ i j,i<n->j<n->i≠j->c i j=true\/c j i=true):(cG c (kas_sort n)).Perm (List.range n).toArray/\Asc c (cG c (kas_sort n)) n:=by
 have hz:(List.range n).toArray.size=n:=by simp
 unfold kas_sort;rw[gQ]
 have:=DN tr ir (p:=(List.range n).toArray) (Tot.of_perm d (YJ _)) (by omega)
 rw[hz] at this;obtain⟨h,g,e,b,f,a⟩:=this;generalize cG c (kas_count n (List.range n).toArray)=r at h g e b f a;by_cases q:r.1<n
 · rw[on q,show max r.1 1=r.1 from by omega]
   have:=Ba tr d (n-r.1) r.2 r.1 b (by omega) a
   rw[e] at this;exact this
 ·rw[VM q];exact⟨b,by rw[show n=r.1 from by omega]; exact a⟩
end
theorem vm:∀ a b d:List Int,HT.cQ a b=true->HT.cQ b d=true->HT.cQ a d=true
 |[],[],d,h,_=>by simp[HT.cQ] at h
 |[],_::_,[],_,h=>by simp[HT.cQ] at h
 |[],_::_,_::_,_,_=>rfl
 |_::_,[],_,h,_=>by simp[HT.cQ] at h
 |_::_,_::_,[],_,h=>by simp[HT.cQ] at h
 | x::xs,y::ys,z::i,f,c=>by
   rw[HT.dC] at f c ⊢;by_cases g:x=y
   · rw[on g] at f;by_cases e:y=z
     ·rw[on e] at c; rw[on (g.trans e)]; exact vm _ _ _ f c
     ·rw[VM e] at c; rw[VM (by omega)]; have:=Wy c; exact Wm (by omega)
   · rw[VM g] at f
     have:=Wy f
     by_cases e:y=z
     ·rw[VM (by omega)]; exact Wm (by omega)
     ·rw[VM e] at c; have:=Wy c; rw[VM (by omega)]; exact Wm (by omega)
theorem BU:∀ a b:List Int,a≠b->HT.cQ a b=true\/HT.cQ b a=true
 |[],[],h=>absurd rfl h
 |[],_::_,_=> .inl rfl
 |_::_,[],_=> .inr rfl
 | x::xs,y::ys,h=>by
   rw[HT.dC,HT.dC];by_cases q:x=y
   ·rw[on q,on q.symm];exact BU xs ys λz=>h (by rw[q,z])
   · rw[VM q,VM (λz=>q z.symm)];rcases Int.lt_or_gt_of_ne q with z|z
     ·exact .inl (Wm z)
     ·exact .inr (Wm z)
abbrev mH(l:List (List Int)):Prop:=l.Pairwise λa b=>HT.cQ a b=true
theorem nX:∀ {l m:List (List Int)},mH l->mH m->(∀ x,x∈l↔x∈m)->l=m
 |[],[],_,_,_=>rfl
 |[],y::m,_,_,h=>absurd ((h y).mpr VP) (by simp)
 |x::l,[],_,_,h=>absurd ((h x).mp VP) (by simp)
 | x::l,y::m,n,k,h=>by
   obtain⟨f,j⟩:=List.pairwise_cons.mp n;obtain⟨d,i⟩:=List.pairwise_cons.mp k
   have g:∀ {a b:List Int},HT.cQ a b=true->HT.cQ b a=true->False:=λp q=>by
    have:=vm _ _ _ p q
    rw[fT] at this; exact nomatch this
   have e:x=y:=by
    rcases List.mem_cons.mp ((h x).mp VP) with z|z
    ·exact z
    · rcases List.mem_cons.mp ((h y).mpr VP) with w|w
      ·exact w.symm
      ·exact(g (d _ z) (f _ w)).elim
   subst e;congr 1;refine nX j i λa=>⟨λc=>?_,λc=>?_⟩
   · rcases List.mem_cons.mp ((h a).mp (VR _ c)) with z|z
     ·subst z; exact absurd (f _ c) (by rw[fT]; exact V0)
     ·exact z
   · rcases List.mem_cons.mp ((h a).mpr (VR _ c)) with z|z
     ·subst z; exact absurd (d _ c) (by rw[fT]; exact V0)
     ·exact z
theorem DU{W:Type}{l:List W}{p:List Nat}(h:p.Perm (List.range l.length)):(pick l p).Perm l:=by
 have e:pick l (List.range l.length)=l:=by
  unfold pick;apply List.ext_getElem?;intro i;rw[show(List.range l.length).filterMap (λi=>l[i]?)=l from ?_]
  have:∀ m:List W,(List.range m.length).filterMap (λi=>m[i]?)=m:=by
   intro m
   induction m with
   |nil=>rfl
   |cons a m b=>
     rw[VU,YF,XA,List.filterMap_map];show a::_=_;congr 1
  exact this l
 have:=h.filterMap (λi=>l[i]?)
 unfold pick;unfold pick at e;rw[e] at this;exact this
theorem za{l:List (List Int)}(d:l.Nodup):(bq l).Perm (List.range l.length)/\∀ i,i+1<l.length->HT.cQ (l.getD ((bq l).getD i 0) []) (l.getD ((bq l).getD (i+1) 0) [])=true:=by
 unfold bq;by_cases h:l.length<2
 ·rw[on h]; exact⟨List.Perm.refl _,λi hi=>by omega⟩
 · rw[VM h]
   have:=FN (c:=λi j=>HT.cQ (l.getD i []) (l.getD j [])) (λi j k=>vm _ _ _) (λi=>fT _) (n:=l.length) (by omega) (λi j hi b a=>BU _ _ λz=>by
    rw[na hi,na b] at z
    exact a (DY d hi b z))
   refine⟨by simpa using this.1.toList,λi hi=>?_⟩
   have:=this.2 i hi
   simpa [List.getD,Wn] using this
theorem j4{W:Type}{R:W->W->Prop}(c:∀ a b d,R a b->R b d->R a d):∀ {l:List W},(∀ i (h:i+1<l.length),R (l[i]'(by omega)) l[i+1])->l.Pairwise R
 |[],_=>List.Pairwise.nil
 |[a],_=>by simp
 | a::b::l,h=>by
   have e:=j4 c (l:=b::l) λi hi=>by
    have:=h (i+1) (by simp only[VU] at hi ⊢; omega)
    simpa using this
   have h0:R a b:=by have:=h 0 (by simp); simpa using this
   refine List.pairwise_cons.mpr ⟨λx f=>?_,e⟩;rcases List.mem_cons.mp f with z|z
   ·rw[z]; exact h0
   ·exact c _ _ _ h0 ((List.pairwise_cons.mp e).1 x z)
theorem fQ{l:List (List Int)}(j:l.Nodup):(pick l (bq l)).Perm l/\mH (pick l (bq l)):=by
 obtain⟨f,k⟩:=za j;have hp:=DU f;refine⟨hp,?_⟩
 have e:pick l (bq l)=(bq l).map λi=>l.getD i []:=by
  unfold pick;have c:∀ i∈bq l,i<l.length:=λi hi=>List.mem_range.mp (f.mem_iff.mp hi);generalize bq l=p at c
  induction p with
  |nil=>rfl
  |cons x p h=>
    have g:=c x VP;rw[XA,V1 g,VQ,h λi hi=>c i (VR _ hi),na g]
 have m:(bq l).length=l.length:=by rw[f.length_eq,XS]
 rw[e];refine j4 (λa b d=>vm a b d) λi hi=>?_;rw[VN] at hi
 have:=k i (by omega)
 rw[na (by omega:i<(bq l).length),na hi] at this;rw[List.getElem_map,List.getElem_map];exact this
theorem AU{l m:List (List Int)}(a:l.Nodup)(b:mH m)(h:∀ x,x∈l↔x∈m):pick l (bq l)=m:=
 nX (fQ a).2 b λx=>(fQ a).1.mem_iff.trans (h x)
end L2
set_option genInjectivity false
set_option genSizeOf false
open PySem L2 in
theorem L2.Room.mm{j k:Nat}{A:Around}(r:Room k A)(h:j<=k:=by decide):Room j A:=r.mono h
namespace K08
open PySem L2
def top(i:Nat):Stmt:=PySem.Challenge.pw_heraldways_k08_a_guild_written.main.body.getD i (.Pass ⟨0,0,0,0⟩)
abbrev NX:Stmt:=dD (top 12) 0
abbrev FK:Stmt:=dD (top 12) 13
abbrev NI:Stmt:=dD (top 12) 1
abbrev Fy:Stmt:=dD (top 12) 11
abbrev NE:Stmt:=top 27
abbrev NC:Stmt:=top 32
abbrev NB:Stmt:=top 39
abbrev K4:Stmt:=top 37
abbrev Fw:Stmt:=top 30
abbrev FI:Stmt:=top 34
abbrev wP:Stmt:=top 36
abbrev FH:Stmt:=top 31
abbrev FG:Stmt:=top 28
abbrev A8:Stmt:=top 25
abbrev FC:Stmt:=top 11
abbrev wO:Stmt:=top 22
abbrev NP:Stmt:=dD (top 12) 16
abbrev ND:Stmt:=top 33
abbrev zi:Stmt:=top 38
abbrev FJ:Stmt:=top 29
abbrev A4:Stmt:=top 20
abbrev NU:Stmt:=dD (top 12) 6
abbrev NS:Stmt:=dD (top 12) 7
abbrev NQ:Stmt:=dD (top 12) 2
abbrev NO:Stmt:=dD (top 12) 18
abbrev NM:Stmt:=dD (top 12) 17
abbrev NK:Stmt:=dD (top 12) 9
abbrev NF:Stmt:=top 23
abbrev NW:Stmt:=dD (top 12) 4
abbrev NV:Stmt:=dD (top 12) 5
abbrev NL:Stmt:=dD (top 12) 8
abbrev NH:Stmt:=dD (top 12) 10
abbrev A9:Stmt:=top 40
abbrev FE:Stmt:=top 18
abbrev A6:Stmt:=top 19
abbrev A5:Stmt:=top 17
abbrev NA:Stmt:=top 35
abbrev Nz:Stmt:=top 42
abbrev A7:Stmt:=top 16
abbrev wN:Stmt:=top 24
abbrev FD:Stmt:=top 21
abbrev FF:Stmt:=top 41
abbrev Fx:Stmt:=top 43
theorem RS:FnScope ["self","size"] ["self","size"] (am NX):=by ac_rfl
theorem RQ:FnScope ["self","pairs","a"] ["self","pairs","a"] (am FK):=by ac_rfl
theorem RE:FnScope ["self"] ["self"] (am NI):=by ac_rfl
theorem RC:FnScope ["self"] ["self"] (am Fy):=by ac_rfl
theorem RA:FnScope ["script","k"] ["script","k"] (am NE):=by ac_rfl
theorem AX:FnScope ["cell","size","fond","k"] ["cell","size"] (am NC):=by ac_rfl
theorem Rz:FnScope ["cell"] ["cell"] (am NB):=by ac_rfl
theorem Ry:FnScope ["words"] ["words"] (am K4):=by ac_rfl
theorem o0:FnScope ["cell","house","size","rest","road","many"] ["cell","house","size"] (am Fw):=by ac_rfl
theorem nR:FnScope ["cell","size","shy","k","a","b"] ["cell","size"] (am FI):=by ac_rfl
theorem Ny:FnScope ["ways","size","a"] ["ways","size","a"] (am wP):=by ac_rfl
theorem lU:FnScope ["cell","size","seed","ways","k","a","b"] ["cell","size"] (am FH):=by ac_rfl
theorem Nx:FnScope ["found"] ["found"] (am FG):=by ac_rfl
theorem Fu:FnScope ["word","figures"] ["word"] (am A8):=by ac_rfl
theorem Nw:FnScope ["houses","count"] ["houses","count"] (am FC):=by ac_rfl
theorem Nv:FnScope ["text"] ["text"] (am wO):=by ac_rfl
theorem RK:FnScope ["self","houses"] ["self","houses"] (am NP):=by ac_rfl
theorem wK:FnScope ["cell","size","dear","k","road"] ["cell","size"] (am ND):=by ac_rfl
theorem AW:FnScope ["ways","fond","dear","shy","lines","pair"] ["ways","fond","dear","shy"] (am zi):=by ac_rfl
theorem Fv:FnScope ["found","due","house"] ["found","due"] (am FJ):=by ac_rfl
theorem qC:FnScope ["guild","lines","road","rank","houses"] ["guild"] (am A4):=by ac_rfl
theorem RN:FnScope ["self","a","b","rank"] ["self","a","b","rank"] (am NU):=by ac_rfl
theorem RM:FnScope ["self","a","b"] ["self","a","b"] (am NS):=by ac_rfl
theorem RL:FnScope ["self","a"] ["self","a"] (am NQ):=by ac_rfl
theorem RJ:FnScope ["self","road"] ["self","road"] (am NO):=by ac_rfl
theorem RH:FnScope ["self","a","b"] ["self","a","b"] (am NM):=by ac_rfl
theorem RF:FnScope ["self","a"] ["self","a"] (am NK):=by ac_rfl
theorem RB:FnScope ["words"] ["words"] (am NF):=by ac_rfl
theorem RP:FnScope ["self","a","b"] ["self","a","b"] (am NW):=by ac_rfl
theorem RO:FnScope ["self","a","b"] ["self","a","b"] (am NV):=by ac_rfl
theorem RG:FnScope ["self","a","b"] ["self","a","b"] (am NL):=by ac_rfl
theorem RD:FnScope ["self","road","rank"] ["self","road","rank"] (am NH):=by ac_rfl
theorem nT:FnScope ["found","size","ways","fond","dear","shy","road","rank","a","b","pair"] ["found","size","ways","fond","dear","shy"] (am A9):=by ac_rfl
theorem qD:FnScope ["guild","lines","a","b","rank"] ["guild"] (am FE):=by ac_rfl
theorem zg:FnScope ["guild","lines","a"] ["guild"] (am A6):=by ac_rfl
theorem ze:FnScope ["guild","lines","a"] ["guild"] (am A5):=by ac_rfl
theorem o1:FnScope ["size","ways","fond","dear","shy","guild","a","b","pair","key"] ["size","ways","fond","dear","shy"] (am NA):=by ac_rfl
theorem AV:FnScope ["guild","ways","fond","dear","shy","cell","size","a","b"] ["guild","ways","fond","dear","shy","cell"] (am Nz):=by ac_rfl
theorem zh:FnScope ["guild","size","lines"] ["guild"] (am A7):=by ac_rfl
theorem zf:FnScope ["guild","words","kind","numbers"] ["guild","words"] (am wN):=by ac_rfl
theorem uZ:FnScope ["text","rows","guild","words","e"] ["text"] (am FD):=by ac_rfl
theorem u0:FnScope ["guild","size","ways","fond","dear","shy","text","due","again"] ["guild","size","ways","fond","dear","shy"] (am FF):=by ac_rfl
theorem lJ:FnScope ["script","first","size","ways","fond","dear","shy","guild"] ["script"] (am Fx):=by ac_rfl
structure Adr where
 C_Guild:Addr
 f_a9:Addr
 d_a9:FuncData
 f_b9:Addr
 d_b9:FuncData
 f_m9:Addr
 d_m9:FuncData
 f_o9:Addr
 d_o9:FuncData
 f_r9:Addr
 d_r9:FuncData
 f_t9:Addr
 d_t9:FuncData
 f_u9:Addr
 d_u9:FuncData
 f_w9:Addr
 d_w9:FuncData
 f_y9:Addr
 d_y9:FuncData
 f_bc9:Addr
 d_bc9:FuncData
 f_bd9:Addr
 d_bd9:FuncData
 f_be9:Addr
 d_be9:FuncData
 f_bf9:Addr
 d_bf9:FuncData
 f_bi9:Addr
 d_bi9:FuncData
 f_bk9:Addr
 d_bk9:FuncData
 f_bl9:Addr
 d_bl9:FuncData
 f_h9:Addr
 d_h9:FuncData
 f_s9:Addr
 d_s9:FuncData
 f_x9:Addr
 d_x9:FuncData
 f_bb9:Addr
 d_bb9:FuncData
 f_bq9:Addr
 d_bq9:FuncData
 f_e9:Addr
 d_e9:FuncData
 f_f9:Addr
 d_f9:FuncData
 f_g9:Addr
 d_g9:FuncData
 f_i9:Addr
 d_i9:FuncData
 f_j9:Addr
 d_j9:FuncData
 f_l9:Addr
 d_l9:FuncData
 f_p9:Addr
 d_p9:FuncData
 f_c9:Addr
 d_c9:FuncData
 f_d9:Addr
 d_d9:FuncData
 f_k9:Addr
 d_k9:FuncData
 f_n9:Addr
 d_n9:FuncData
 f_ba9:Addr
 d_ba9:FuncData
 f_bh9:Addr
 d_bh9:FuncData
 f_bn9:Addr
 d_bn9:FuncData
 f_bp9:Addr
 d_bp9:FuncData
 f_v9:Addr
 d_v9:FuncData
 f_z9:Addr
 d_z9:FuncData
 f_bm9:Addr
 d_bm9:FuncData
 f_bo9:Addr
 d_bo9:FuncData
 f_bj9:Addr
 d_bj9:FuncData
 f_bg9:Addr
 d_bg9:FuncData
 f_q9:Addr
 d_q9:FuncData
structure Txt (K:L0) (mg:Str->Option Value) (a:Adr) (base:Heap):Prop where
 cl_Guild:Cls K a.C_Guild
 mgC_Guild:mg "Guild" = some (.ref a.C_Guild)
 mk_Guild:Mk K a.C_Guild a.f_a9
 n_house_count:NoAttr K a.C_Guild "house_count"
 n_ways:NoAttr K a.C_Guild "ways"
 n_likings:NoAttr K a.C_Guild "likings"
 n_shuns:NoAttr K a.C_Guild "shuns"
 n_wish_ranks:NoAttr K a.C_Guild "wish_ranks"
 F_a9:Fun K "__init__" "Guild.__init__" NX a.f_a9 a.d_a9
 b_a9:Binds K a.d_a9 ["self","size"] []
 F_b9:Fun K "houses_paired" "Guild.houses_paired" FK a.f_b9 a.d_b9
 b_b9:Binds K a.d_b9 ["self","pairs","a"] []
 me_b9:Meth K a.C_Guild "houses_paired" a.f_b9
 F_m9:Fun K "size" "Guild.size" NI a.f_m9 a.d_m9
 b_m9:Binds K a.d_m9 ["self"] []
 me_m9:Meth K a.C_Guild "size" a.f_m9
 F_o9:Fun K "wishes" "Guild.wishes" Fy a.f_o9 a.d_o9
 b_o9:Binds K a.d_o9 ["self"] []
 me_o9:Meth K a.C_Guild "wishes" a.f_o9
 F_r9:Fun K "_law_cell_at" "_law_cell_at" NE a.f_r9 a.d_r9
 b_r9:Binds K a.d_r9 ["script","k"] []
 m_r9:mg "_law_cell_at" = some (.ref a.f_r9)
 F_t9:Fun K "_law_fond_by" "_law_fond_by" NC a.f_t9 a.d_t9
 b_t9:Binds K a.d_t9 ["cell","size"] []
 m_t9:mg "_law_fond_by" = some (.ref a.f_t9)
 F_u9:Fun K "_law_great" "_law_great" NB a.f_u9 a.d_u9
 b_u9:Binds K a.d_u9 ["cell"] []
 m_u9:mg "_law_great" = some (.ref a.f_u9)
 F_w9:Fun K "_law_line" "_law_line" K4 a.f_w9 a.d_w9
 b_w9:Binds K a.d_w9 ["words"] []
 m_w9:mg "_law_line" = some (.ref a.f_w9)
 F_y9:Fun K "_law_road_by" "_law_road_by" Fw a.f_y9 a.d_y9
 b_y9:Binds K a.d_y9 ["cell","house","size"] []
 m_y9:mg "_law_road_by" = some (.ref a.f_y9)
 F_bc9:Fun K "_law_shy_by" "_law_shy_by" FI a.f_bc9 a.d_bc9
 b_bc9:Binds K a.d_bc9 ["cell","size"] []
 m_bc9:mg "_law_shy_by" = some (.ref a.f_bc9)
 F_bd9:Fun K "_law_ties" "_law_ties" wP a.f_bd9 a.d_bd9
 b_bd9:Binds K a.d_bd9 ["ways","size","a"] []
 m_bd9:mg "_law_ties" = some (.ref a.f_bd9)
 F_be9:Fun K "_law_ways_by" "_law_ways_by" FH a.f_be9 a.d_be9
 b_be9:Binds K a.d_be9 ["cell","size"] []
 m_be9:mg "_law_ways_by" = some (.ref a.f_be9)
 F_bf9:Fun K "_law_whole" "_law_whole" FG a.f_bf9 a.d_bf9
 b_bf9:Binds K a.d_bf9 ["found"] []
 m_bf9:mg "_law_whole" = some (.ref a.f_bf9)
 F_bi9:Fun K "number_of" "number_of" A8 a.f_bi9 a.d_bi9
 b_bi9:Binds K a.d_bi9 ["word"] []
 m_bi9:mg "number_of" = some (.ref a.f_bi9)
 F_bk9:Fun K "require_within" "require_within" FC a.f_bk9 a.d_bk9
 b_bk9:Binds K a.d_bk9 ["houses","count"] []
 m_bk9:mg "require_within" = some (.ref a.f_bk9)
 F_bl9:Fun K "rows_of" "rows_of" wO a.f_bl9 a.d_bl9
 b_bl9:Binds K a.d_bl9 ["text"] []
 m_bl9:mg "rows_of" = some (.ref a.f_bl9)
 F_h9:Fun K "require_houses" "Guild.require_houses" NP a.f_h9 a.d_h9
 b_h9:Binds K a.d_h9 ["self","houses"] []
 me_h9:Meth K a.C_Guild "require_houses" a.f_h9
 F_s9:Fun K "_law_dear_by" "_law_dear_by" ND a.f_s9 a.d_s9
 b_s9:Binds K a.d_s9 ["cell","size"] []
 m_s9:mg "_law_dear_by" = some (.ref a.f_s9)
 F_x9:Fun K "_law_lines" "_law_lines" zi a.f_x9 a.d_x9
 b_x9:Binds K a.d_x9 ["ways","fond","dear","shy"] []
 m_x9:mg "_law_lines" = some (.ref a.f_x9)
 F_bb9:Fun K "_law_same_road" "_law_same_road" FJ a.f_bb9 a.d_bb9
 b_bb9:Binds K a.d_bb9 ["found","due"] []
 m_bb9:mg "_law_same_road" = some (.ref a.f_bb9)
 F_bq9:Fun K "wish_lines" "wish_lines" A4 a.f_bq9 a.d_bq9
 b_bq9:Binds K a.d_bq9 ["guild"] []
 m_bq9:mg "wish_lines" = some (.ref a.f_bq9)
 F_e9:Fun K "like" "Guild.like" NU a.f_e9 a.d_e9
 b_e9:Binds K a.d_e9 ["self","a","b","rank"] []
 me_e9:Meth K a.C_Guild "like" a.f_e9
 F_f9:Fun K "liking" "Guild.liking" NS a.f_f9 a.d_f9
 b_f9:Binds K a.d_f9 ["self","a","b"] []
 me_f9:Meth K a.C_Guild "liking" a.f_f9
 F_g9:Fun K "neighbours" "Guild.neighbours" NQ a.f_g9 a.d_g9
 b_g9:Binds K a.d_g9 ["self","a"] []
 me_g9:Meth K a.C_Guild "neighbours" a.f_g9
 F_i9:Fun K "require_long_road" "Guild.require_long_road" NO a.f_i9 a.d_i9
 b_i9:Binds K a.d_i9 ["self","road"] []
 me_i9:Meth K a.C_Guild "require_long_road" a.f_i9
 F_j9:Fun K "require_two_houses" "Guild.require_two_houses" NM a.f_j9 a.d_j9
 b_j9:Binds K a.d_j9 ["self","a","b"] []
 me_j9:Meth K a.C_Guild "require_two_houses" a.f_j9
 F_l9:Fun K "shunned" "Guild.shunned" NK a.f_l9 a.d_l9
 b_l9:Binds K a.d_l9 ["self","a"] []
 me_l9:Meth K a.C_Guild "shunned" a.f_l9
 F_p9:Fun K "guild_of" "guild_of" NF a.f_p9 a.d_p9
 b_p9:Binds K a.d_p9 ["words"] []
 m_p9:mg "guild_of" = some (.ref a.f_p9)
 F_c9:Fun K "lay_way" "Guild.lay_way" NW a.f_c9 a.d_c9
 b_c9:Binds K a.d_c9 ["self","a","b"] []
 me_c9:Meth K a.C_Guild "lay_way" a.f_c9
 F_d9:Fun K "lift_way" "Guild.lift_way" NV a.f_d9 a.d_d9
 b_d9:Binds K a.d_d9 ["self","a","b"] []
 me_d9:Meth K a.C_Guild "lift_way" a.f_d9
 F_k9:Fun K "shun" "Guild.shun" NL a.f_k9 a.d_k9
 b_k9:Binds K a.d_k9 ["self","a","b"] []
 me_k9:Meth K a.C_Guild "shun" a.f_k9
 F_n9:Fun K "wish" "Guild.wish" NH a.f_n9 a.d_n9
 b_n9:Binds K a.d_n9 ["self","road","rank"] []
 me_n9:Meth K a.C_Guild "wish" a.f_n9
 F_ba9:Fun K "_law_same_guild" "_law_same_guild" A9 a.f_ba9 a.d_ba9
 b_ba9:Binds K a.d_ba9 ["found","size","ways","fond","dear","shy"] []
 m_ba9:mg "_law_same_guild" = some (.ref a.f_ba9)
 F_bh9:Fun K "like_lines" "like_lines" FE a.f_bh9 a.d_bh9
 b_bh9:Binds K a.d_bh9 ["guild"] []
 m_bh9:mg "like_lines" = some (.ref a.f_bh9)
 F_bn9:Fun K "shun_lines" "shun_lines" A6 a.f_bn9 a.d_bn9
 b_bn9:Binds K a.d_bn9 ["guild"] []
 m_bn9:mg "shun_lines" = some (.ref a.f_bn9)
 F_bp9:Fun K "way_lines" "way_lines" A5 a.f_bp9 a.d_bp9
 b_bp9:Binds K a.d_bp9 ["guild"] []
 m_bp9:mg "way_lines" = some (.ref a.f_bp9)
 F_v9:Fun K "_law_guild_by" "_law_guild_by" NA a.f_v9 a.d_v9
 b_v9:Binds K a.d_v9 ["size","ways","fond","dear","shy"] []
 m_v9:mg "_law_guild_by" = some (.ref a.f_v9)
 F_z9:Fun K "_law_said" "_law_said" Nz a.f_z9 a.d_z9
 b_z9:Binds K a.d_z9 ["guild","ways","fond","dear","shy","cell"] []
 m_z9:mg "_law_said" = some (.ref a.f_z9)
 F_bm9:Fun K "shown" "shown" A7 a.f_bm9 a.d_bm9
 b_bm9:Binds K a.d_bm9 ["guild"] []
 m_bm9:mg "shown" = some (.ref a.f_bm9)
 F_bo9:Fun K "take_row" "take_row" wN a.f_bo9 a.d_bo9
 b_bo9:Binds K a.d_bo9 ["guild","words"] []
 m_bo9:mg "take_row" = some (.ref a.f_bo9)
 F_bj9:Fun K "read" "read" FD a.f_bj9 a.d_bj9
 b_bj9:Binds K a.d_bj9 ["text"] []
 m_bj9:mg "read" = some (.ref a.f_bj9)
 F_bg9:Fun K "_law_written" "_law_written" FF a.f_bg9 a.d_bg9
 b_bg9:Binds K a.d_bg9 ["guild","size","ways","fond","dear","shy"] []
 m_bg9:mg "_law_written" = some (.ref a.f_bg9)
 F_q9:Fun K "law" "law" Fx a.f_q9 a.d_q9
 b_q9:Binds K a.d_q9 ["script"] []
 m_q9:mg "law" = some (.ref a.f_q9)
 g_SEAT:∃ t,mg "SEAT" = some (.int 0 t)
 g_MOST_HOUSES:∃ t,mg "MOST_HOUSES" = some (.int 60 t)
 g_FIGURES:∃ t,mg "FIGURES" = some (.str "0123456789" t)
 g_MOST_FIGURES:∃ t,mg "MOST_FIGURES" = some (.int 60 t)
 z_len:mg "len" = none
 z_range:mg "range" = none
 z_min:mg "min" = none
 z_max:mg "max" = none
 z_set:mg "set" = none
 z_list:mg "list" = none
 z_tuple:mg "tuple" = none
 z_isinstance:mg "isinstance" = none
 z_bool:mg "bool" = none
 z_int:mg "int" = none
 z_str:mg "str" = none
 z_sorted:mg "sorted" = none
 z_any:mg "any" = none
def a8(a:Adr)(K:L0):Mi.Cm:=⟨λc=>match c with|0=>a.C_Guild|_=>0,K,[]⟩
end K08
namespace K08
open PySem L2 Mi
def cB:List (Str×Sh):=[("ways",.ct .fz),("likings",.ct .fz),("shuns",.ct .fz),("wish_ranks",.ct .fz)]
def S5:List Md:=[.O (.ob cB),.F]
def Tz:List Md:=[]
def HQ:Mi.Env->SO:=aD (gG (aQ (zv (db (bn EY (vr 1) (aI (.int 1)))) (db (bn IL (vr 1) (aI (.int 60))))))
 (λ_=> .bad)
 bK)
 (aD (ng 0 "house_count" 0 (aQ (vr 1)))
 (aD (ng 0 "ways" 0 (aQ (aI (.dT [] []))))
 (aD (ng 0 "likings" 0 (aQ (aI (.dT [] []))))
 (aD (ng 0 "shuns" 0 (aQ (aI (.dT [] []))))
 (ng 0 "wish_ranks" 0 (aQ (aI (.dT [] []))))))))
def D6:List D->Out D:=run 2 HQ
theorem HP:HQ=(aD (gG (aQ (zv (db (bn EY (vr 1) (aI (.int 1)))) (db (bn IL (vr 1) (aI (.int 60))))))
 (λ_=> .bad)
 bK)
 (aD (ng 0 "house_count" 0 (aQ (vr 1)))
 (aD (ng 0 "ways" 0 (aQ (aI (.dT [] []))))
 (aD (ng 0 "likings" 0 (aQ (aI (.dT [] []))))
 (aD (ng 0 "shuns" 0 (aQ (aI (.dT [] []))))
 (ng 0 "wish_ranks" 0 (aQ (aI (.dT [] []))))))))):=rfl
def S4:List Md:=[.R,.R,.F]
def Tx:List Md:=[]
def HN:Mi.Env->SO:=cz (aQ (kc (gW (un (gJ 0 "house_count") (vr 0))) [1,2] (db (bn (rQ false) (kh (au (vr 2) (au (vr 0) ba))) (vr 1))) (vr 0)))
def LA:List D->Out D:=gB 3 HN
def SQ:List Md:=[.R]
def Tk:List Md:=[]
def HB:Mi.Env->SO:=cz (aQ (p8 (un (gJ 0 "house_count") (vr 0))))
def vi:List D->Out D:=run 1 HB
def SM:List Md:=[.R]
def Ti:List Md:=[]
def Hz:Mi.Env->SO:=cz (aQ (kc (fb (un uV (un (gJ 0 "wish_ranks") (vr 0)))) [0] (λ_=> .ok true) (kh (au (un om (vr 0)) (au (p8 (bn ji (un (gJ 0 "wish_ranks") (vr 1)) (vr 0))) ba)))))
def HV:List D->Out D:=gB 1 Hz
def SI:List Md:=[.R,.F]
def Tf:List Md:=[]
def Hv:Mi.Env->SO:=aD (gG (aQ (db (bn EY (vr 1) (un lD (vr 0)))))
 (cz (aQ (p8 (bn xD (vr 0) (vr 1)))))
 bK)
 (cz (aQ (aI (.int 0))))
def m_r9:List D->Out D:=run 2 Hv
def SG:List Md:=[.F,.F]
def Td:List Md:=[.O (.ct .fz),.F]
abbrev LJ:Mi.Env->SO:=(aD (bX 0 (aQ (bn dy (bn jY (bn qZ (vr 0) (aI (.int 48271))) (aI (.int 11))) (aI (.int 2147483647)))))
 (jh (eB 2) (dI 2) (kh (au (bn dy (vr 0) (vr 1)) (au (bn dy (bn il (vr 0) (aI (.int 7))) (vr 1)) ba))) (aQ (bn mM (bn dy (bn il (vr 0) (aI (.int 49))) (aI (.int 7))) (aI (.int 3))))))
def Ht:Mi.Env->SO:=aD (bX 2 (aQ (aI (.dT [] []))))
 (aD (dU (aQ (gW (bn dy (vr 0) (aI (.int 5))))) (tD 3)
 LJ)
 (cz (yT 2)))
def m_t9:List D->Out D:=gB 4 Ht
def SF:List Md:=[.F]
def Tc:List Md:=[]
def BR:Mi.Env->SO:=cz (aQ (bn jY (bn mM (bn dy (vr 0) (bn mM (bn qZ (aI (.int 2)) (bn DR (aI (.int 10)) (aI (.int 60)))) (aI (.int 1)))) (bn DR (aI (.int 10)) (aI (.int 60)))) (aI (.int 1))))
def m_u9:List D->Out D:=run 1 BR
def SD:List Md:=[.F]
def Ta:List Md:=[]
def Hr:Mi.Env->SO:=cz (aQ (bn Kg (AD rp (aI (.str (" " : Str))) (kc (fb (vr 0)) [] (λ_=> .ok true) (un nN (vr 0)))) (aI (.str ("\n" : Str)))))
def m_w9:List D->Out D:=run 1 Hr
def SA:List Md:=[.F,.F,.F]
def S8:List Md:=[.O (.ct .fz),.O (.ct .fz),.F]
abbrev LC:Mi.Env->SO:=(aD (bC (Kf 4 (ie (eB 3) (dI 3) GB (bn dy (vr 0) (un lD (vr 3))))))
 (aD (bX 0 (aQ (bn il (vr 0) (aI (.int 5)))))
 (bX 5 (aQ (bn mM (vr 5) (aI (.int 1)))))))
def Ho:Mi.Env->SO:=aD (bX 3 (aQ (kc (Fg (aI (.int 1)) (vr 2)) [1] (db (bn (jr true) (vr 0) (vr 1))) (vr 0))))
 (aD (bX 4 (aQ (qc (au (vr 1) ba))))
 (aD (bX 5 (aQ (bn dy (vr 0) (aI (.int 4)))))
 (aD (gG (aQ (db (bn (jr false) (bn dy (bn il (vr 0) (aI (.int 4))) (aI (.int 8))) (aI (.int 3)))))
 (bX 5 (aQ (vr 2)))
 bK)
 (aD (bX 0 (aQ (bn il (vr 0) (aI (.int 4)))))
 (aD (Dq (aQ (tp (db (bn IL (vr 5) (aI (.int 0)))) (db (bn IL (un lD (vr 3)) (aI (.int 0))))))
 LC 100000)
 (cz (aQ (bn yF (vr 4) (qc (au (aI (.int 0)) ba))))))))))
def m_y9:List D->Out D:=gB 6 Ho
def O9:List Md:=[.F,.F]
def Pr:List Md:=[.O (.ct .fz),.F,.F,.F]
abbrev Io:Mi.Env->SO:=(aD (bX 0 (aQ (bn dy (bn jY (bn qZ (vr 0) (aI (.int 48271))) (aI (.int 23))) (aI (.int 2147483647)))))
 (aD (bX 4 (aQ (bn dy (vr 0) (vr 1))))
 (aD (bX 5 (aQ (bn dy (bn jY (bn jY (vr 4) (aI (.int 1))) (bn dy (bn il (vr 0) (aI (.int 7))) (bn mM (vr 1) (aI (.int 1))))) (vr 1))))
 (gG (aQ (db (bn xn (kh (au (vr 4) (au (vr 5) ba))) (vr 2))))
 (bC (ie (eB 2) (dI 2) lc (kh (au (vr 4) (au (vr 5) ba)))))
 bK))))
def zQ:Mi.Env->SO:=aD (bX 2 (aQ (qc ba)))
 (aD (gG (aQ (db (bn EY (vr 1) (aI (.int 2)))))
 (cz (yT 2))
 bK)
 (aD (dU (aQ (gW (bn dy (vr 0) (aI (.int 3))))) (tD 3)
 Io)
 (cz (yT 2))))
def m_bc9:List D->Out D:=gB 6 zQ
def O8:List Md:=[.R,.F,.F]
def Pq:List Md:=[]
def zP:Mi.Env->SO:=cz (aQ (kc (gW (vr 1)) [0,2] (db (bn LP (kh (au (bn zB (vr 2) (vr 0)) (au (bn tH (vr 2) (vr 0)) ba))) (vr 1))) (vr 0)))
def m_bd9:List D->Out D:=gB 3 zP
def O7:List Md:=[.F,.F]
def Pp:List Md:=[.F,.O (.ct .fz),.F,.F,.F]
abbrev zZ:Mi.Env->SO:=(aD (gG (aQ (db (bn (jr false) (bn dy (bn Ft (vr 2) (bn dy (vr 4) (aI (.int 29)))) (aI (.int 2))) (aI (.int 1)))))
 (bC (ie (eB 3) (dI 3) lc (kh (au (vr 5) (au (vr 6) ba)))))
 bK)
 (bX 4 (aQ (bn jY (vr 4) (aI (.int 1))))))
abbrev Im:Mi.Env->SO:=(dU (aQ (Fg (bn jY (vr 5) (aI (.int 1))) (vr 1))) (tD 6)
 zZ)
def zO:Mi.Env->SO:=aD (bX 2 (aQ (bn dy (bn qZ (bn dy (bn qZ (bn jY (vr 0) (aI (.int 1))) (aI (.int 48271))) (aI (.int 2147483647))) (aI (.int 16807))) (aI (.int 2147483647)))))
 (aD (bX 3 (aQ (qc ba)))
 (aD (bX 4 (aQ (aI (.int 0))))
 (aD (dU (aQ (gW (vr 1))) (tD 5)
 Im)
 (cz (yT 3)))))
def m_be9:List D->Out D:=gB 7 zO
def O6:List Md:=[.F]
def Pn:List Md:=[]
def zN:Mi.Env->SO:=cz (aQ (Mb (bn ID (vr 0) (aI (.ty "int"))) (un OO (bn ID (vr 0) (aI (.ty "bool"))))))
def m_bf9:List D->Out D:=run 1 zN
def O3:List Md:=[.F]
def Pk:List Md:=[.F]
def zK:Mi.Env->SO:=aD (bX 1 (aQ (PV (db (AD y0 (vr 0) (aI (.str ("-" : Str))))) (bn ye (vr 0) (aI (.int 1))) (vr 0))))
 (aD (gG (aQ (zv (db (bn EY (un xy (vr 1)) (aI (.int 1)))) (db (bn IL (un xy (vr 1)) (aI (.int 60))))))
 (λ_=> .bad)
 bK)
 (aD (gG (aQ (db (un wA (kc (Nm (vr 1)) [] (λ_=> .ok true) (bn OU (vr 0) (aI (.str ("0123456789" : Str))))))))
 (λ_=> .bad)
 bK)
 (aD (gG (aQ (tp (db (bn (jr false) (bn LM (vr 1) (aI (.int 0))) (aI (.str ("0" : Str))))) (db (bn (jr true) (vr 0) (aI (.str ("0" : Str)))))))
 (λ_=> .bad)
 bK)
 (cz (aQ (un BZ (vr 0)))))))
def m_bi9:List D->Out D:=run 2 zK
def O1:List Md:=[.R,.F]
def Pi:List Md:=[]
def zI:Mi.Env->SO:=gG (aQ (zv (db (bn EY (bn (tK dN) (vr 0) (aI (.int 0))) (aI (.int 0)))) (db (bn Vb (bn (tK gc) (vr 0) (aI (.int 0))) (vr 1)))))
 (λ_=> .bad)
 bK
def m_bk9:List D->Out D:=run 2 zI
def O0:List Md:=[.F]
def Ph:List Md:=[]
def zH:Mi.Env->SO:=aD (gG (aQ (pX (db (AD P5 (vr 0) (aI (.str ("\n" : Str)))))))
 (λ_=> .bad)
 bK)
 (cz (aQ (kc (fb (AD qv (bn yf (vr 0) (un Lr (aI (.int 1)))) (aI (.str ("\n" : Str))))) [] (λ_=> .ok true) (AD qv (vr 0) (aI (.str (" " : Str)))))))
def m_bl9:List D->Out D:=gB 1 zH
def SW:List Md:=[.R,.R]
def Tr:List Md:=[]
def HH:Mi.Env->SO:=bC (aQ (pc m_bk9 (au (vr 1) (au (p8 (un (gJ 0 "house_count") (vr 0))) ba))))
def xw:List D->Out D:=run 2 HH
def SH:List Md:=[.F,.F]
def Te:List Md:=[.O (.ct .fz),.F,.F]
abbrev LK:Mi.Env->SO:=(aD (bX 0 (aQ (bn dy (bn jY (bn qZ (vr 0) (aI (.int 48271))) (aI (.int 17))) (aI (.int 2147483647)))))
 (aD (bX 4 (aQ (pc m_y9 (au (bn il (vr 0) (aI (.int 9))) (au (bn jY (aI (.int 1)) (bn dy (vr 0) (bn mM (vr 1) (aI (.int 1))))) (au (vr 1) ba))))))
 (jh (eB 2) (dI 2) (un Dw (vr 4)) (aQ (bn mM (bn dy (bn il (vr 0) (aI (.int 5))) (aI (.int 9))) (aI (.int 4)))))))
def Hu:Mi.Env->SO:=aD (bX 2 (aQ (aI (.dT [] []))))
 (aD (gG (aQ (db (bn EY (vr 1) (aI (.int 2)))))
 (cz (yT 2))
 bK)
 (aD (dU (aQ (gW (bn dy (vr 0) (aI (.int 4))))) (tD 3)
 LK)
 (cz (yT 2))))
def m_s9:List D->Out D:=gB 5 Hu
def SB:List Md:=[.R,.R,.R,.R]
def S9:List Md:=[.O (.ct .fz),.F]
abbrev LD:Mi.Env->SO:=(gG (aQ (db (bn (jr true) (bn ji (vr 1) (vr 5)) (aI (.int 0)))))
 (bC (ie (eB 4) (dI 4) lc (pc m_w9 (au (qc (au (aI (.str ("like" : Str))) (au (bn KA (vr 5) (aI (.int 0))) (au (bn KA (vr 5) (aI (.int 1))) (au (p8 (bn ji (vr 1) (vr 5))) ba))))) ba))))
 bK)
def Hq:Mi.Env->SO:=aD (bX 4 (aQ (yC (fb (un j3 (vr 0))) (pc m_w9 (au (qc (au (aI (.str ("way" : Str))) (au (p8 (vr 0)) (au (p8 (vr 1)) ba)))) ba)))))
 (aD (dU (aQ (fb (un j3 (un rn (vr 1))))) (tD 5)
 LD)
 (aD (bX 4 (aQ (bn yF (vr 4) (yC (fb (un j3 (vr 3))) (pc m_w9 (au (qc (au (aI (.str ("shun" : Str))) (au (p8 (vr 0)) (au (p8 (vr 1)) ba)))) ba))))))
 (cz (aQ (bn yF (vr 4) (kc (fb (un j3 (un rn (vr 2)))) [2] (λ_=> .ok true) (pc m_w9 (au (bn yF (qc (au (aI (.str ("wish" : Str))) (au (p8 (bn ji (vr 1) (vr 0))) ba))) (un om (vr 0))) ba))))))))
def m_x9:List D->Out D:=gB 6 Hq
def Pa:List Md:=[.F,.F]
def Ps:List Md:=[.F]
abbrev Iq:Mi.Env->SO:=(gG (aQ (pX (db (pc m_bf9 (au (vr 2) ba)))))
 (cz (aQ (aI (.bl false))))
 bK)
def zR:Mi.Env->SO:=aD (gG (aQ (db (bn (Ee false) (vr 1) (aI .non))))
 (cz (aQ (bn (Ee false) (vr 0) (aI .non))))
 bK)
 (aD (gG (aQ (zv (pX (db (bn ID (vr 0) (aI (.ty "list"))))) (db (bn (jr true) (un lD (vr 0)) (un lD (vr 1))))))
 (cz (aQ (aI (.bl false))))
 bK)
 (aD (dU (aQ (fb (vr 0))) (tD 2)
 Iq)
 (cz (aQ (bn (Re false) (vr 0) (vr 1))))))
def m_bb9:List D->Out D:=run 3 zR
def OV:List Md:=[.R]
def Pc:List Md:=[.O (.ct .fz),.F,.F,.F]
abbrev Ii:Mi.Env->SO:=(aD (bX 4 (aQ (AD rp (aI (.str (" " : Str))) (kc (fb (vr 2)) [] (λ_=> .ok true) (un nN (vr 0))))))
 (bC (ie (eB 1) (dI 1) lc (P4 (jC (aI (.str ("wish " : Str))) (jC (vr 3) (jC (aI (.str (" " : Str))) (jC (vr 4) jN))))))))
def zC:Mi.Env->SO:=aD (bX 1 (aQ (qc ba)))
 (aD (dU (aQ (fb (pm 0 "wishes" HV (vr 0) ba))) (E8 2 3)
 Ii)
 (cz (yT 1)))
def m_bq9:List D->Out D:=gB 5 zC
def SZ:List Md:=[.O (.ob cB),.F,.F,.F]
def Tu:List Md:=[]
def HK:Mi.Env->SO:=aD (bC (aQ (pm 0 "require_houses" xw (vr 0) (au (qc (au (vr 1) (au (vr 2) ba))) ba))))
 (jh (vw 0 "likings" 0) (tF "likings" 0) (kh (au (vr 1) (au (vr 2) ba))) (aQ (vr 3)))
def HZ:List D->Out D:=run 4 HK
def SY:List Md:=[.R,.F,.F]
def Tt:List Md:=[]
def HJ:Mi.Env->SO:=aD (bC (aQ (pm 0 "require_houses" xw (vr 0) (au (qc (au (vr 1) (au (vr 2) ba))) ba))))
 (cz (aQ (p8 (B7 (un (gJ 0 "likings") (vr 0)) (kh (au (vr 1) (au (vr 2) ba))) (aI (.int 0))))))
def D4:List D->Out D:=run 3 HJ
def SX:List Md:=[.R,.F]
def Ts:List Md:=[]
def HI:Mi.Env->SO:=aD (bC (aQ (pm 0 "require_houses" xw (vr 0) (au (qc (au (vr 1) ba)) ba))))
 (cz (aQ (pm 0 "houses_paired" LA (vr 0) (au (un (gJ 0 "ways") (vr 0)) (au (vr 1) ba)))))
def Lz:List D->Out D:=gB 2 HI
def SV:List Md:=[.R,.R]
def Tq:List Md:=[]
def HG:Mi.Env->SO:=aD (bC (aQ (pm 0 "require_houses" xw (vr 0) (au (vr 1) ba))))
 (aD (gG (aQ (db (bn EY (un lD (vr 1)) (aI (.int 2)))))
 (λ_=> .bad)
 bK)
 (aD (gG (aQ (db (bn (jr true) (bn xD (vr 1) (un Lr (aI (.int 1)))) (aI (.int 0)))))
 (λ_=> .bad)
 bK)
 (gG (aQ (db (bn (jr true) (un rk (vr 1)) (un lD (vr 1)))))
 (λ_=> .bad)
 bK)))
def Pv:List D->Out D:=run 2 HG
def SU:List Md:=[.R,.F,.F]
def To:List Md:=[]
def HF:Mi.Env->SO:=aD (bC (aQ (pm 0 "require_houses" xw (vr 0) (au (qc (au (vr 1) (au (vr 2) ba))) ba))))
 (gG (aQ (db (bn (jr false) (vr 1) (vr 2))))
 (λ_=> .bad)
 bK)
def HY:List D->Out D:=run 3 HF
def SR:List Md:=[.R,.F]
def Tl:List Md:=[]
def HC:Mi.Env->SO:=aD (bC (aQ (pm 0 "require_houses" xw (vr 0) (au (qc (au (vr 1) ba)) ba))))
 (cz (aQ (pm 0 "houses_paired" LA (vr 0) (au (un (gJ 0 "shuns") (vr 0)) (au (vr 1) ba)))))
def Ly:List D->Out D:=gB 2 HC
def SL:List Md:=[.F]
def Th:List Md:=[]
def Hy:Mi.Env->SO:=aD (gG (aQ (zv (db (bn (jr true) (un lD (vr 0)) (aI (.int 2)))) (db (bn (jr true) (bn xD (vr 0) (aI (.int 0))) (aI (.str ("houses" : Str)))))))
 (λ_=> .bad)
 bK)
 (cz (aQ (pk 0 D6 (au (pc m_bi9 (au (bn xD (vr 0) (aI (.int 1))) ba)) ba))))
def m_p9:List D->Out D:=gB 1 Hy
def S3:List Md:=[.O (.ob cB),.F,.F]
def Tw:List Md:=[]
def HM:Mi.Env->SO:=aD (bC (aQ (pm 0 "require_two_houses" HY (vr 0) (au (vr 1) (au (vr 2) ba)))))
 (aD (gG (aQ (db (bn (rQ false) (kh (au (vr 1) (au (vr 2) ba))) (un (gJ 0 "ways") (vr 0)))))
 (λ_=> .bad)
 bK)
 (aD (jh (vw 0 "ways" 0) (tF "ways" 0) (kh (au (vr 1) (au (vr 2) ba))) (aQ (aI (.bl true))))
 (jh (vw 0 "ways" 0) (tF "ways" 0) (kh (au (vr 2) (au (vr 1) ba))) (aQ (aI (.bl true))))))
def H8:List D->Out D:=run 3 HM
def S0:List Md:=[.O (.ob cB),.F,.F]
def Tv:List Md:=[]
def HL:Mi.Env->SO:=aD (bC (aQ (pm 0 "require_two_houses" HY (vr 0) (au (vr 1) (au (vr 2) ba)))))
 (aD (gG (aQ (db (bn (rQ true) (kh (au (vr 1) (au (vr 2) ba))) (un (gJ 0 "ways") (vr 0)))))
 (λ_=> .bad)
 bK)
 (aD (bC (ut (vw 0 "ways" 0) (tF "ways" 0) (kh (au (vr 1) (au (vr 2) ba)))))
 (bC (ut (vw 0 "ways" 0) (tF "ways" 0) (kh (au (vr 2) (au (vr 1) ba)))))))
def Pw:List D->Out D:=run 3 HL
def SS:List Md:=[.O (.ob cB),.F,.F]
def Tn:List Md:=[]
def HE:Mi.Env->SO:=aD (bC (aQ (pm 0 "require_two_houses" HY (vr 0) (au (vr 1) (au (vr 2) ba)))))
 (jh (vw 0 "shuns" 0) (tF "shuns" 0) (kh (au (vr 1) (au (vr 2) ba))) (aQ (aI (.bl true))))
def HX:List D->Out D:=run 3 HE
def SN:List Md:=[.O (.ob cB),.R,.F]
def Tj:List Md:=[]
def HA:Mi.Env->SO:=aD (bC (aQ (pm 0 "require_long_road" Pv (vr 0) (au (vr 1) ba))))
 (jh (vw 0 "wish_ranks" 0) (tF "wish_ranks" 0) (un Dw (Ad (vr 1))) (aQ (vr 2)))
def HW:List D->Out D:=run 3 HA
def Pb:List Md:=[.R,.F,.R,.R,.R,.R]
def Pt:List Md:=[.F,.F,.F,.F,.F]
abbrev Iv:Mi.Env->SO:=(gG (aQ (zv (db (bn (rQ true) (un Dw (vr 6)) (vr 4))) (zv (db (bn (jr true) (bn ji (vr 4) (un Dw (vr 6))) (vr 7))) (pX (db (pc m_bf9 (au (vr 7) ba)))))))
 (cz (aQ (aI (.bl false))))
 bK)
abbrev z5:Mi.Env->SO:=(gG (aQ (db (bn (jr true) (pm 0 "liking" D4 (vr 0) (au (vr 8) (au (vr 9) ba))) (B7 (vr 3) (kh (au (vr 8) (au (vr 9) ba))) (aI (.int 0))))))
 (cz (aQ (aI (.bl false))))
 bK)
abbrev Iu:Mi.Env->SO:=(aD (gG (aQ (pX (db (pc m_bb9 (au (pm 0 "neighbours" Lz (vr 0) (au (vr 8) ba)) (au (pc m_bd9 (au (vr 2) (au (vr 1) (au (vr 8) ba)))) ba))))))
 (cz (aQ (aI (.bl false))))
 bK)
 (aD (gG (aQ (pX (db (pc m_bb9 (au (pm 0 "shunned" Ly (vr 0) (au (vr 8) ba)) (au (kc (gW (vr 1)) [5,8] (db (bn LP (kh (au (vr 2) (au (vr 0) ba))) (vr 1))) (vr 0)) ba))))))
 (cz (aQ (aI (.bl false))))
 bK)
 (dU (aQ (fb (qc (au (aI (.int 0)) (au (vr 8) (au (bn dy (bn jY (vr 8) (aI (.int 1))) (vr 1)) (au (bn mM (vr 1) (aI (.int 1))) ba))))))) (tD 9)
 z5)))
abbrev Ir:Mi.Env->SO:=(gG (aQ (zv (db (bn (jr true) (pm 0 "liking" D4 (vr 0) (au (bn KA (vr 10) (aI (.int 0))) (au (bn KA (vr 10) (aI (.int 1))) ba))) (bn ji (vr 3) (vr 10)))) (pX (db (pc m_bf9 (au (pm 0 "liking" D4 (vr 0) (au (bn KA (vr 10) (aI (.int 0))) (au (bn KA (vr 10) (aI (.int 1))) ba))) ba))))))
 (cz (aQ (aI (.bl false))))
 bK)
def zS:Mi.Env->SO:=aD (gG (aQ (zv (db (bn (jr true) (pm 0 "size" vi (vr 0) ba) (vr 1))) (db (bn (jr true) (un lD (pm 0 "wishes" HV (vr 0) ba)) (un PD (vr 4))))))
 (cz (aQ (aI (.bl false))))
 bK)
 (aD (dU (aQ (fb (pm 0 "wishes" HV (vr 0) ba))) (E8 6 7)
 Iv)
 (aD (dU (aQ (gW (vr 1))) (tD 8)
 Iu)
 (aD (dU (aQ (fb (un rn (vr 3)))) (tD 10)
 Ir)
 (cz (aQ (aI (.bl true)))))))
def m_ba9:List D->Out D:=run 11 zS
def O4:List Md:=[.R]
def Pl:List Md:=[.O (.ct .fz),.F,.F,.F]
abbrev zY:Mi.Env->SO:=(aD (bX 4 (aQ (pm 0 "liking" D4 (vr 0) (au (vr 2) (au (vr 3) ba)))))
 (gG (aQ (db (bn (jr true) (vr 4) (aI (.int 0)))))
 (bC (ie (eB 1) (dI 1) lc (P4 (jC (aI (.str ("like " : Str))) (jC (vr 2) (jC (aI (.str (" " : Str))) (jC (vr 3) (jC (aI (.str (" " : Str))) (jC (vr 4) jN)))))))))
 bK))
abbrev Il:Mi.Env->SO:=(dU (aQ (gW (pm 0 "size" vi (vr 0) ba))) (tD 3)
 zY)
def zL:Mi.Env->SO:=aD (bX 1 (aQ (qc ba)))
 (aD (dU (aQ (gW (pm 0 "size" vi (vr 0) ba))) (tD 2)
 Il)
 (cz (yT 1)))
def m_bh9:List D->Out D:=gB 5 zL
def OY:List Md:=[.R]
def Pf:List Md:=[.O (.ct .fz),.F]
abbrev Ik:Mi.Env->SO:=(bC (ie (eB 1) (dI 1) vD (kc (fb (pm 0 "shunned" Ly (vr 0) (au (vr 2) ba))) [2] (λ_=> .ok true) (P4 (jC (aI (.str ("shun " : Str))) (jC (vr 1) (jC (aI (.str (" " : Str))) (jC (vr 0) jN))))))))
def zF:Mi.Env->SO:=aD (bX 1 (aQ (qc ba)))
 (aD (dU (aQ (gW (pm 0 "size" vi (vr 0) ba))) (tD 2)
 Ik)
 (cz (yT 1)))
def m_bn9:List D->Out D:=gB 3 zF
def OW:List Md:=[.R]
def Pd:List Md:=[.O (.ct .fz),.F]
abbrev Ij:Mi.Env->SO:=(bC (ie (eB 1) (dI 1) vD (kc (fb (pm 0 "neighbours" Lz (vr 0) (au (vr 2) ba))) [2] (db (bn EY (vr 1) (vr 0))) (P4 (jC (aI (.str ("way " : Str))) (jC (vr 1) (jC (aI (.str (" " : Str))) (jC (vr 0) jN))))))))
def zD:Mi.Env->SO:=aD (bX 1 (aQ (qc ba)))
 (aD (dU (aQ (gW (pm 0 "size" vi (vr 0) ba))) (tD 2)
 Ij)
 (cz (yT 1)))
def m_bp9:List D->Out D:=gB 3 zD
def SE:List Md:=[.F,.R,.R,.R,.R]
def Tb:List Md:=[.O (.ob cB),.R,.R,.R,.R]
abbrev LI:Mi.Env->SO:=(bC (mm 0 "lay_way" [(.O 5),.F,.F] H8 (vr 5) (au (p8 (vr 6)) (au (p8 (vr 7)) ba))))
abbrev LH:Mi.Env->SO:=(bC (mm 0 "like" [(.O 5),.F,.F,.F] HZ (vr 5) (au (p8 (bn KA (vr 8) (aI (.int 0)))) (au (p8 (bn KA (vr 8) (aI (.int 1)))) (au (p8 (bn ji (vr 2) (vr 8))) ba)))))
abbrev LG:Mi.Env->SO:=(bC (mm 0 "wish" [(.O 5),.F,.F] HW (vr 5) (au (un om (Ad (vr 9))) (au (p8 (bn ji (vr 3) (vr 9))) ba))))
abbrev LF:Mi.Env->SO:=(bC (mm 0 "shun" [(.O 5),.F,.F] HX (vr 5) (au (p8 (vr 6)) (au (p8 (vr 7)) ba))))
def Hs:Mi.Env->SO:=aD (bX 5 (aQ (pk 0 D6 (au (vr 0) ba))))
 (aD (dU (aQ (fb (vr 1))) (E8 6 7)
 LI)
 (aD (dU (aQ (fb (un rn (vr 2)))) (tD 8)
 LH)
 (aD (dU (aQ (fb (un rn (vr 3)))) (tD 9)
 LG)
 (aD (dU (aQ (fb (vr 4))) (E8 6 7)
 LF)
 (cz (yT 5))))))
def m_v9:List D->Out D:=gB 10 Hs
def Sz:List Md:=[.O (.ob cB),.O (.ct .fz),.O (.ct .fz),.O (.ct .fz),.O (.ct .fz),.F]
def S7:List Md:=[.F,.F,.F]
def Hn:Mi.Env->SO:=aD (bX 6 (aQ (pm 0 "size" vi (vr 0) ba)))
 (aD (bX 7 (aQ (bn dy (bn il (vr 5) (aI (.int 4))) (vr 6))))
 (aD (bX 8 (aQ (bn dy (bn jY (bn jY (vr 7) (aI (.int 1))) (bn dy (bn il (vr 5) (aI (.int 7))) (bn tH (aI (.int 1)) (bn mM (vr 6) (aI (.int 1)))))) (vr 6))))
 (gG (aQ (db (bn (jr false) (bn dy (vr 5) (aI (.int 4))) (aI (.int 0)))))
 (aD (bC (mm 0 "like" [(.O 0),.F,.F,.F] HZ (vr 0) (au (vr 7) (au (vr 8) (au (aI (.int 5)) ba)))))
 (jh (eB 2) (dI 2) (kh (au (vr 7) (au (vr 8) ba))) (aQ (aI (.int 5)))))
 (gG (aQ (tp (db (bn (jr false) (bn dy (vr 5) (aI (.int 4))) (aI (.int 1)))) (db (bn (jr true) (vr 7) (vr 8)))))
 (aD (bC (mm 0 "shun" [(.O 0),.F,.F] HX (vr 0) (au (vr 7) (au (vr 8) ba))))
 (gG (aQ (db (bn xn (kh (au (vr 7) (au (vr 8) ba))) (vr 4))))
 (bC (ie (eB 4) (dI 4) lc (kh (au (vr 7) (au (vr 8) ba)))))
 bK))
 (gG (aQ (tp (db (bn (jr false) (bn dy (vr 5) (aI (.int 4))) (aI (.int 2)))) (db (bn (jr true) (vr 7) (vr 8)))))
 (aD (bC (mm 0 "wish" [(.O 0),.F,.F] HW (vr 0) (au (qc (au (bn tH (vr 7) (vr 8)) (au (aI (.int 0)) ba))) (au (aI (.int 7)) ba))))
 (jh (eB 3) (dI 3) (kh (au (bn tH (vr 7) (vr 8)) (au (aI (.int 0)) ba))) (aQ (aI (.int 7)))))
 (gG (aQ (tp (db (bn (jr true) (vr 7) (vr 8))) (db (bn LP (kh (au (bn zB (vr 7) (vr 8)) (au (bn tH (vr 7) (vr 8)) ba))) (vr 1)))))
 (aD (bC (mm 0 "lift_way" [(.O 0),.F,.F] Pw (vr 0) (au (vr 7) (au (vr 8) ba))))
 (bC (ie (eB 1) (dI 1) DO (kh (au (bn zB (vr 7) (vr 8)) (au (bn tH (vr 7) (vr 8)) ba))))))
 (gG (aQ (db (bn (jr true) (vr 7) (vr 8))))
 (aD (bC (mm 0 "lay_way" [(.O 0),.F,.F] H8 (vr 0) (au (vr 7) (au (vr 8) ba))))
 (bC (ie (eB 1) (dI 1) lc (kh (au (bn zB (vr 7) (vr 8)) (au (bn tH (vr 7) (vr 8)) ba))))))
 bK)))))))
def m_z9:List D->Out D:=run 9 Hn
def OZ:List Md:=[.R]
def Pg:List Md:=[.F,.O (.ct .fz)]
def zG:Mi.Env->SO:=aD (bX 1 (aQ (pm 0 "size" vi (vr 0) ba)))
 (aD (bX 2 (aQ (qc (au (P4 (jC (aI (.str ("houses " : Str))) (jC (vr 1) jN))) ba))))
 (aD (bC (ie (eB 2) (dI 2) vD (pc m_bp9 (au (vr 0) ba))))
 (aD (bC (ie (eB 2) (dI 2) vD (pc m_bh9 (au (vr 0) ba))))
 (aD (bC (ie (eB 2) (dI 2) vD (pc m_bn9 (au (vr 0) ba))))
 (aD (bC (ie (eB 2) (dI 2) vD (pc m_bq9 (au (vr 0) ba))))
 (cz (aQ (AD rp (aI (.str ("" : Str))) (kc (fb (vr 2)) [] (λ_=> .ok true) (bn Kg (vr 0) (aI (.str ("\n" : Str)))))))))))))
def m_bm9:List D->Out D:=run 3 zG
def OX:List Md:=[.O (.ob cB),.F]
def Pe:List Md:=[.F,.F]
def zE:Mi.Env->SO:=aD (bX 2 (aQ (bn xD (vr 1) (aI (.int 0)))))
 (aD (bX 3 (aQ (kc (fb (bn xU (vr 1) (aI (.int 1)))) [] (λ_=> .ok true) (pc m_bi9 (au (vr 0) ba)))))
 (gG (aQ (tp (db (bn (jr false) (vr 2) (aI (.str ("way" : Str))))) (db (bn (jr false) (un lD (vr 3)) (aI (.int 2))))))
 (bC (mm 0 "lay_way" [(.O 0),.F,.F] H8 (vr 0) (au (bn xD (vr 3) (aI (.int 0))) (au (bn xD (vr 3) (aI (.int 1))) ba))))
 (gG (aQ (tp (db (bn (jr false) (vr 2) (aI (.str ("like" : Str))))) (db (bn (jr false) (un lD (vr 3)) (aI (.int 3))))))
 (bC (mm 0 "like" [(.O 0),.F,.F,.F] HZ (vr 0) (au (bn xD (vr 3) (aI (.int 0))) (au (bn xD (vr 3) (aI (.int 1))) (au (bn xD (vr 3) (aI (.int 2))) ba)))))
 (gG (aQ (tp (db (bn (jr false) (vr 2) (aI (.str ("shun" : Str))))) (db (bn (jr false) (un lD (vr 3)) (aI (.int 2))))))
 (bC (mm 0 "shun" [(.O 0),.F,.F] HX (vr 0) (au (bn xD (vr 3) (aI (.int 0))) (au (bn xD (vr 3) (aI (.int 1))) ba))))
 (gG (aQ (tp (db (bn (jr false) (vr 2) (aI (.str ("wish" : Str))))) (db (bn IL (un lD (vr 3)) (aI (.int 0))))))
 (bC (mm 0 "wish" [(.O 0),.F,.F] HW (vr 0) (au (bn xU (vr 3) (aI (.int 1))) (au (bn xD (vr 3) (aI (.int 0))) ba))))
 (λ_=> .bad))))))
def m_bo9:List D->Out D:=run 4 zE
def O2:List Md:=[.F]
def Pj:List Md:=[.F,.O (.ob cB),.F,.F]
abbrev zX:Mi.Env->SO:=(bC (mc [(.O 2),.F] m_bo9 (au (vr 2) (au (vr 3) ba))))
def zJ:Mi.Env->SO:=aD (bX 1 (aQ (pc m_bl9 (au (vr 0) ba))))
 (aD (aD (bX 2 (aQ (pc m_p9 (au (bn xD (vr 1) (aI (.int 0))) ba))))
 (dU (aQ (fb (bn xU (vr 1) (aI (.int 1))))) (tD 3)
 zX))
 (cz (yT 2)))
def m_bj9:List D->Out D:=gB 5 zJ
def O5:List Md:=[.R,.F,.R,.R,.R,.R]
def Pm:List Md:=[.F,.F,.O (.ob cB)]
def zM:Mi.Env->SO:=aD (bX 6 (aQ (pc m_bm9 (au (vr 0) ba))))
 (aD (bX 7 (aQ (AD rp (aI (.str ("" : Str))) (bn yF (qc (au (pc m_w9 (au (qc (au (aI (.str ("houses" : Str))) (au (vr 1) ba))) ba)) ba)) (pc m_x9 (au (vr 2) (au (vr 3) (au (vr 4) (au (vr 5) ba)))))))))
 (aD (gG (aQ (zv (pX (db (bn ID (vr 6) (aI (.ty "str"))))) (db (bn (jr true) (vr 6) (vr 7)))))
 (cz (aQ (aI (.bl false))))
 bK)
 (aD (bX 8 (aQ (pc m_bj9 (au (vr 6) ba))))
 (aD (gG (aQ (zv (db (bn (jr true) (pc m_bm9 (au (vr 8) ba)) (vr 7))) (pX (db (pc m_ba9 (au (vr 8) (au (vr 1) (au (vr 2) (au (vr 3) (au (vr 4) (au (vr 5) ba)))))))))))
 (cz (aQ (aI (.bl false))))
 bK)
 (cz (aQ (pc m_ba9 (au (vr 0) (au (vr 1) (au (vr 2) (au (vr 3) (au (vr 4) (au (vr 5) ba)))))))))))))
def m_bg9:List D->Out D:=run 9 zM
def SK:List Md:=[.R]
def Tg:List Md:=[.F,.F,.O (.ct .fz),.O (.ct .fz),.O (.ct .fz),.O (.ct .fz),.O (.ob cB)]
def Hw:Mi.Env->SO:=aD (bX 1 (aQ (pc m_r9 (au (vr 0) (au (aI (.int 0)) ba)))))
 (aD (bX 2 (aQ (bn jY (aI (.int 1)) (bn dy (vr 1) (aI (.int 7))))))
 (aD (bX 3 (aQ (pc m_be9 (au (pc m_r9 (au (vr 0) (au (aI (.int 1)) ba))) (au (vr 2) ba)))))
 (aD (gG (aQ (db (bn (jr false) (bn dy (bn il (vr 1) (aI (.int 7))) (aI (.int 4))) (aI (.int 1)))))
 (aD (bX 2 (aQ (aI (.int 60))))
 (bX 3 (aQ (kc (gW (aI (.int 30))) [0] (db (bn IL (bn dy (bn jY (bn qZ (vr 0) (aI (.int 7))) (pc m_r9 (au (vr 1) (au (aI (.int 1)) ba)))) (aI (.int 5))) (aI (.int 0)))) (kh (au (vr 0) (au (bn mM (aI (.int 59)) (vr 0)) ba)))))))
 bK)
 (aD (bX 4 (aQ (pc m_t9 (au (pc m_r9 (au (vr 0) (au (aI (.int 2)) ba))) (au (vr 2) ba)))))
 (aD (bX 5 (aQ (pc m_s9 (au (pc m_r9 (au (vr 0) (au (aI (.int 3)) ba))) (au (vr 2) ba)))))
 (aD (bX 6 (aQ (pc m_bc9 (au (pc m_r9 (au (vr 0) (au (aI (.int 4)) ba))) (au (vr 2) ba)))))
 (aD (jh (eB 4) (dI 4) (kh (au (bn dy (pc m_r9 (au (vr 0) (au (aI (.int 5)) ba))) (vr 2)) (au (bn dy (pc m_r9 (au (vr 0) (au (aI (.int 6)) ba))) (vr 2)) ba))) (aQ (pc m_u9 (au (pc m_r9 (au (vr 0) (au (aI (.int 7)) ba))) ba))))
 (aD (gG (aQ (db (bn IL (vr 2) (aI (.int 1)))))
 (jh (eB 5) (dI 5) (kh (au (bn jY (aI (.int 1)) (bn dy (pc m_r9 (au (vr 0) (au (aI (.int 8)) ba))) (bn mM (vr 2) (aI (.int 1))))) (au (aI (.int 0)) ba))) (aQ (pc m_u9 (au (pc m_r9 (au (vr 0) (au (aI (.int 9)) ba))) ba))))
 bK)
 (aD (bX 7 (aQ (pc m_v9 (au (vr 2) (au (vr 3) (au (vr 4) (au (vr 5) (au (vr 6) ba))))))))
 (aD (gG (aQ (pX (db (pc m_bg9 (au (vr 7) (au (vr 2) (au (vr 3) (au (vr 4) (au (vr 5) (au (vr 6) ba))))))))))
 (cz (aQ (aI (.bl false))))
 bK)
 (aD (bC (mc [(.O 7),(.O 3),(.O 4),(.O 5),(.O 6),.F] m_z9 (au (vr 7) (au (vr 3) (au (vr 4) (au (vr 5) (au (vr 6) (au (pc m_r9 (au (vr 0) (au (aI (.int 10)) ba))) ba))))))))
 (cz (aQ (pc m_bg9 (au (vr 7) (au (vr 2) (au (vr 3) (au (vr 4) (au (vr 5) (au (vr 6) ba))))))))))))))))))))
def m_q9:List D->Out D:=run 8 Hw
variable{P:Program}{w:World}{K:L0}{mg:Str->Option Value}{base:Heap}{a:Adr}
theorem MP(T:Txt K mg a base):FnOk P w K mg base gi 1 a.f_a9 a.d_a9 ["self","size"] (gg (a8 a K) S5 (KR (a8 a K) .F) D6):=by
 obtain⟨b,g_MOST_HOUSES⟩:=T.g_MOST_HOUSES
 exact qb (more:=Tz) (body:=HQ) T.F_a9 RS λd=>⟨_,(ac (bA (PW.pt (kx (ax o5 (pv 1) ah (aL _)) (iU (ax qQ (pv 1) (lv rfl g_MOST_HOUSES (v:= .int 60) ⟨_,rfl⟩) (aL _))))) (af cO) aR)
  (ac (qJ (pv 0) (pv 1) rfl)
  (ac (qJ (pv 0) jb rfl)
  (ac (qJ (pv 0) jb rfl)
  (ac (qJ (pv 0) jb rfl)
  (af (qJ (pv 0) jb rfl))))))),(ar (cI (aW (ky (bS (fx (av wM (fx (fF 1)) (fx pI)))) (bS (fx (av zj (fx (fF 1)) (fx pI)))))) dP bY)
  (ar (NR (c:=0) (i:=0) T.cl_Guild T.n_house_count rfl rfl (aW (fF 1)))
  (ar (u3 (c:=0) (i:=0) T.cl_Guild T.n_ways rfl rfl (aW ub))
  (ar (u3 (c:=0) (i:=0) T.cl_Guild T.n_likings rfl rfl (aW ub))
  (ar (u3 (c:=0) (i:=0) T.cl_Guild T.n_shuns rfl rfl (aW ub))
  (u3 (c:=0) (i:=0) T.cl_Guild T.n_wish_ranks rfl rfl (aW ub)))))))⟩
theorem Jm:CompSc (am FK) (Gd.iK (Gd.oX (Gd.nth (dg FK) 0))) "b" ["pairs","a"]:=by ac_rfl
theorem MO(T:Txt K mg a base):FnOk P w K mg base gi 1 a.f_b9 a.d_b9 ["self","pairs","a"] (gg (a8 a K) S4 (KO (a8 a K) (.ct .fz)) LA):=jy (more:=Tx) (body:=HN) T.F_b9 RQ λb=>⟨_,(af (aT (eV rfl (cA rfl T.z_range (aa (cP K rfl (pv 0) rfl) ab)) Jm (ix:=[1,2]) rfl (λ_ _ _ _=>lu (u8 (GJ (di b) (bT (aa (pv 2) (aa (pv 0) ab))) (pv 1)))) (λ_ _ _ _=>(pv 0))))),(bz (aW (cE (ix:=[1,2]) (oz (ux (o4 (c:=0) T.cl_Guild T.n_house_count (rc (fR 0))))) (by decide) (lC (fx (MK (fx (c8 (ao (fF 2) (ao (fF 0) aM)))) (rc (fR 1))))) (fF 0))))⟩
theorem qT(T:Txt K mg a base):FnOk P w K mg base gi 1 a.f_m9 a.d_m9 ["self"] (gg (a8 a K) SQ (KR (a8 a K) .F) vi):=qb (more:=Tk) (body:=HB) T.F_m9 RE λb=>⟨_,(af (aT (cP K rfl (pv 0) rfl))),(bz (aW (rS (k:= .X) (ux (o4 (c:=0) T.cl_Guild T.n_house_count (rc (fR 0)))))))⟩
theorem Jl:CompSc (am Fy) (Gd.iK (Gd.oX (Gd.nth (dg Fy) 0))) "road" ["self"]:=by ac_rfl
theorem GV(T:Txt K mg a base):FnOk P w K mg base gi 1 a.f_o9 a.d_o9 ["self"] (gg (a8 a K) SM (KO (a8 a K) (.ct .fz)) HV):=jy (more:=Ti) (body:=Hz) T.F_o9 RC λb=>⟨_,(af (aT (eV rfl (bB K rfl (aH (Ay rfl) rfl T.z_sorted Gd.jp (aa (cP K rfl (pv 0) rfl) ab))) Jl (ix:=[0]) rfl (λ_ _ _ _=>gE) (λ_ _ _ _=>(bT (aa (bQ (i6 K rfl) rfl T.z_list Gd.gO (aa (pv 0) ab)) (aa (iG (di b) (cP K rfl (pv 1) rfl) (pv 0) (λ_ _=>rfl)) ab))))))),(bz (aW (cE (ix:=[0]) (ii (oc (Ld (rc (o4 (c:=0) T.cl_Guild T.n_wish_ranks (rc (fR 0))))))) (by decide) jv (c8 (ao (oF (zt (rc (fF 0)))) (ao (rS (k:= .X) (ux (kG (rc (o4 (c:=0) T.cl_Guild T.n_wish_ranks (rc (fR 1)))) (fx (fF 0))))) aM))))))⟩
theorem j5(T:Txt K mg a base):FnOk P w K mg base gi 1 a.f_r9 a.d_r9 ["script","k"] (gg (a8 a K) SI (KR (a8 a K) .F) m_r9):=qb (more:=Tf) (body:=Hv) T.F_r9 RA λb=>⟨_,(ac (bA (ax o5 (pv 1) (aH (bp K rfl) rfl T.z_len Gd.d7 (aa (pv 0) ab)) (aL _)) (af (aT (dY (cT K rfl) (pv 0) (pv 1) (λ_ _=>rfl)))) aR)
 (af (aT ah))),(ar (cI (aW (bS (fx (av wM (fx (fF 1)) (fx (fy i9 (ux (fR 0)))))))) (bz (aW (rS (k:= .X) (ux (iH (rc (fR 0)) (fx (fF 1))))))) bY)
 (bz (aW pI)))⟩
theorem Si(T:Txt K mg a base):FnOk P w K mg base gi 1 a.f_t9 a.d_t9 ["cell","size"] (gg (a8 a K) SG (KO (a8 a K) (.ct .fz)) m_t9):=jy (more:=Td) (body:=Ht) T.F_t9 AX λb=>⟨_,(ac (aP (i:=2) AX.nd rfl (Or.inl rfl) jb)
 (ac (cW Wa rfl (cA rfl T.z_range (aa (aB bw (pv 0) ah) ab)) (bo (i:=3) AX.nd rfl (Or.inl rfl)) (ac (aP (i:=0) AX.nd rfl (Or.inl rfl) (aB bw (aB eE (aB lX (pv 0) ah) ah) ah))
 (af (fw (di b) (pv 2) (bT (aa (aB bw (pv 0) (pv 1)) (aa (aB bw (aB fA (pv 0) ah) (pv 1)) ab))) (aB hE (aB bw (aB fA (pv 0) ah) ah) ah) rfl))))
 (af (aT (pv 2))))),(ar (cH (i:=2) (aW ub) rfl rfl)
 (ar (eI (aW (oz (fx (av cf (fx (fF 0)) (fx pI))))) (.inl rfl) (uP (i:=3) rfl rfl) (ar (bP (i:=0) (aW (av cf (fx (av gs (fx (av qE (fx (fF 0)) (fx pI))) (fx pI))) (fx pI))) rfl rfl)
 (gZ (iV (i:=2) rfl) (fx (c8 (ao (av cf (fx (fF 0)) (fx (fF 1))) (ao (av cf (fx (av gY (fx (fF 0)) (fx pI))) (fx (fF 1))) aM)))) (aW (av kn (fx (av cf (fx (av gY (fx (fF 0)) (fx pI))) (fx pI))) (fx pI))))))
 (bz (pY (i:=2) rfl))))⟩
theorem ML(T:Txt K mg a base):FnOk P w K mg base gi 1 a.f_u9 a.d_u9 ["cell"] (gg (a8 a K) SF (KR (a8 a K) .F) m_u9):=qb (more:=Tc) (body:=BR) T.F_u9 Rz λb=>⟨_,(af (aT (aB eE (aB hE (aB bw (pv 0) (aB hE (aB lX ah (aB GT ah ah)) ah)) (aB GT ah ah)) ah))),(bz (aW (av gs (fx (av kn (fx (av cf (fx (fF 0)) (fx (av kn (fx (av qE (fx pI) (fx (av My (fx pI) (fx pI))))) (fx pI))))) (fx (av My (fx pI) (fx pI))))) (fx pI))))⟩
theorem Jj:CompSc (am K4) { kind:=.function,names:=[ (".0",.local),("word",.local),("str",.globalImplicit)],isGenerator:=false,isCoroutine:=false,more:=[]:PySem.Scope } "word" []:=by ac_rfl
theorem xg(T:Txt K mg a base):FnOk P w K mg base gi 1 a.f_w9 a.d_w9 ["words"] (gg (a8 a K) SD (KR (a8 a K) .F) m_w9):=qb (more:=Ta) (body:=Hr) T.F_w9 Ry λb=>⟨_,(af (aT (aB qS (kF (K:=K) rfl Ww Xo Xp (mX (K:=K) rfl) bG (aa (eV rfl (bB K rfl (pv 0)) Jj (ix:=[]) rfl (λ_ _ _ _=>gE) (λ_ _ _ _=>(bQ tj rfl T.z_str Gd.AC (aa (pv 0) ab)))) ab)) bG))),(bz (aW (av FL (fx (vc (fx pS) (fx (oF (cE (ix:=[]) (ii (rc (fF 0))) (by decide) jv (fy AY (fx (fF 0)))))))) (fx pS))))⟩
theorem Jf:CompSc (am Fw) (Gd.iK (Gd.oX (Gd.nth (dg Fw) 0))) "far" ["house"]:=by ac_rfl
theorem Se(T:Txt K mg a base):FnOk P w K mg base gi 1 a.f_y9 a.d_y9 ["cell","house","size"] (gg (a8 a K) SA (KO (a8 a K) (.ct .fz)) m_y9):=jy (more:=S8) (body:=Ho) T.F_y9 o0 λb=>⟨_,(ac (lW (i:=3) rfl o0.nd rfl (.inl rfl) (t7 rfl T.z_range (aa ah (aa (pv 2) ab))) Jf (ix:=[1]) rfl (λ_ _ _ _=>lu (ax fg (pv 0) (pv 1) (aL _))) (λ_ _ _ _=>(pv 0)))
 (ac (aP (i:=4) o0.nd rfl (Or.inl rfl) (cK (aa (pv 1) ab)))
 (ac (aP (i:=5) o0.nd rfl (Or.inl rfl) (aB bw (pv 0) ah))
 (ac (bA (ax hG (aB bw (aB fA (pv 0) ah) ah) ah (aL _)) (af (aP (i:=5) o0.nd rfl (Or.inl rfl) (pv 2))) aR)
 (ac (aP (i:=0) o0.nd rfl (Or.inl rfl) (aB fA (pv 0) ah))
 (ac (Gx Wa (PW.pt (ju (ax qQ (pv 5) ah (aL _)) (gC (ax qQ (aH (bp K rfl) rfl T.z_len Gd.d7 (aa (pv 3) ab)) ah (aL _))))) (ac (aK (gb V8 WK WL dL (pv 4) (aa (gb V8 PySem.F.slot_list_pop PySem.F.type_list_pop Hl (pv 3) (aa (aB bw (pv 0) (aH (bp K rfl) rfl T.z_len Gd.d7 (aa (pv 3) ab))) ab)) ab)))
 (ac (aP (i:=0) o0.nd rfl (Or.inl rfl) (aB fA (pv 0) ah))
 (af (aP (i:=5) o0.nd rfl (Or.inl rfl) (aB hE (pv 5) ah))))))
 (af (aT (aB qR (pv 4) (cK (aa ah ab))))))))))),(ar (cH (i:=3) (aW (cE (ix:=[1]) (TV (fx pI) (fx (fF 2))) (by decide) (bS (fx (av i8 (fx (fF 0)) (fx (fF 1))))) (fF 0))) rfl rfl)
 (ar (cH (i:=4) (aW (eC (ao (fF 1) aM))) rfl rfl)
 (ar (bP (i:=5) (aW (av cf (fx (fF 0)) (fx pI))) rfl rfl)
 (ar (cI (aW (bS (fx (av lV (fx (av cf (fx (av gY (fx (fF 0)) (fx pI))) (fx pI))) (fx pI))))) (bP (i:=5) (aW (fF 2)) rfl rfl) bY)
 (ar (bP (i:=0) (aW (av gY (fx (fF 0)) (fx pI))) rfl rfl)
 (ar (K3 100000 (aW (jw (bS (fx (av zj (fx (fF 5)) (fx pI)))) (bS (fx (av zj (fx (fy i9 (cx (fC 3)))) (fx pI)))))) (ar (a7 (D5 (i:=4) rfl (Lx (iV (i:=3) rfl) (fx (av cf (fx (fF 0)) (fx (fy i9 (cx (fC 3)))))))))
 (ar (bP (i:=0) (aW (av gY (fx (fF 0)) (fx pI))) rfl rfl)
 (bP (i:=5) (aW (av kn (fx (fF 5)) (fx pI))) rfl rfl))))
 (bz (aW (xf (fC 4) (oc (eC (ao pI aM))))))))))))⟩
theorem OG(T:Txt K mg a base):FnOk P w K mg base gi 1 a.f_bc9 a.d_bc9 ["cell","size"] (gg (a8 a K) O9 (KO (a8 a K) (.ct .fz)) m_bc9):=jy (more:=Pr) (body:=zQ) T.F_bc9 nR λb=>⟨_,(ac (aP (i:=2) nR.nd rfl (Or.inl rfl) (cK ab))
 (ac (bA (ax o5 (pv 1) ah (aL _)) (af (aT (pv 2))) aR)
 (ac (cW Wa rfl (cA rfl T.z_range (aa (aB bw (pv 0) ah) ab)) (bo (i:=3) nR.nd rfl (Or.inl rfl)) (ac (aP (i:=0) nR.nd rfl (Or.inl rfl) (aB bw (aB eE (aB lX (pv 0) ah) ah) ah))
 (ac (aP (i:=4) nR.nd rfl (Or.inl rfl) (aB bw (pv 0) (pv 1)))
 (ac (aP (i:=5) nR.nd rfl (Or.inl rfl) (aB bw (aB eE (aB eE (pv 4) ah) (aB bw (aB fA (pv 0) ah) (aB hE (pv 1) ah))) (pv 1)))
 (af (bA (ax (qO K rfl (Mi.IJ b)) (bT (aa (pv 4) (aa (pv 5) ab))) (pv 2) (by with_unfolding_all rfl)) (af (aK (gb PySem.F.plainAttrs_list PySem.F.slot_list_append PySem.F.type_list_append dL (pv 2) (aa (bT (aa (pv 4) (aa (pv 5) ab))) ab)))) aR))))))
 (af (aT (pv 2)))))),(ar (cH (i:=2) (aW (eC aM)) rfl rfl)
 (ar (cI (aW (bS (fx (av wM (fx (fF 1)) (fx pI))))) (bz (pY (i:=2) rfl)) bY)
 (ar (eI (aW (oz (fx (av cf (fx (fF 0)) (fx pI))))) (.inl rfl) (uP (i:=3) rfl rfl) (ar (bP (i:=0) (aW (av cf (fx (av gs (fx (av qE (fx (fF 0)) (fx pI))) (fx pI))) (fx pI))) rfl rfl)
 (ar (bP (i:=4) (aW (av cf (fx (fF 0)) (fx (fF 1)))) rfl rfl)
 (ar (bP (i:=5) (aW (av cf (fx (av gs (fx (av gs (fx (fF 4)) (fx pI))) (fx (av cf (fx (av gY (fx (fF 0)) (fx pI))) (fx (av kn (fx (fF 1)) (fx pI))))))) (fx (fF 1)))) rfl rfl)
 (cI (aW (bS (fx (av Fz (fx (c8 (ao (fF 4) (ao (fF 5) aM)))) (cx (fC 2)))))) (a7 (ib (iV (i:=2) rfl) (c8 (ao (fF 4) (ao (fF 5) aM))))) bY)))))
 (bz (pY (i:=2) rfl)))))⟩
theorem Ez:CompSc (am wP) (Gd.iK (Gd.oX (Gd.nth (dg wP) 0))) "b" ["ways","a"]:=by ac_rfl
theorem OF(T:Txt K mg a base):FnOk P w K mg base gi 1 a.f_bd9 a.d_bd9 ["ways","size","a"] (gg (a8 a K) O8 (KO (a8 a K) (.ct .fz)) m_bd9):=jy (more:=Pq) (body:=zP) T.F_bd9 Ny λb=>⟨_,(af (aT (eV rfl (cA rfl T.z_range (aa (pv 1) ab)) Ez (ix:=[0,2]) rfl (λ_ _ _ _=>lu (ax (ve K rfl (Mi.IJ b)) (bT (aa (aH (lA rfl) rfl T.z_min Gd.tm (aa (pv 2) (aa (pv 0) ab))) (aa (aH (fY rfl) rfl T.z_max Gd.k7 (aa (pv 2) (aa (pv 0) ab))) ab))) (pv 1) (by with_unfolding_all rfl))) (λ_ _ _ _=>(pv 0))))),(bz (aW (cE (ix:=[0,2]) (oz (fx (fF 1))) (by decide) (bS (fx (av FB (fx (c8 (ao (hC AZ (fx (fF 2)) (fx (fF 0))) (ao (hC qF (fx (fF 2)) (fx (fF 0))) aM)))) (ux (fR 1))))) (fF 0))))⟩
theorem OE(T:Txt K mg a base):FnOk P w K mg base gi 1 a.f_be9 a.d_be9 ["cell","size"] (gg (a8 a K) O7 (KO (a8 a K) (.ct .fz)) m_be9):=jy (more:=Pp) (body:=zO) T.F_be9 lU λb=>⟨_,(ac (aP (i:=2) lU.nd rfl (Or.inl rfl) (aB bw (aB lX (aB bw (aB lX (aB eE (pv 0) ah) ah) ah) ah) ah))
 (ac (aP (i:=3) lU.nd rfl (Or.inl rfl) (cK ab))
 (ac (aP (i:=4) lU.nd rfl (Or.inl rfl) ah)
 (ac (cW Wa rfl (cA rfl T.z_range (aa (pv 1) ab)) (bo (i:=5) lU.nd rfl (Or.inl rfl)) (af (cW Wa rfl (t7 rfl T.z_range (aa (aB eE (pv 5) ah) (aa (pv 1) ab))) (bo (i:=6) lU.nd rfl (Or.inl rfl)) (ac (bA (ax hG (aB bw (aB Oq (pv 2) (aB bw (pv 4) ah)) ah) ah (aL _)) (af (aK (gb V8 WK WL dL (pv 3) (aa (bT (aa (pv 5) (aa (pv 6) ab))) ab)))) aR)
 (af (aP (i:=4) lU.nd rfl (Or.inl rfl) (aB eE (pv 4) ah)))))))
 (af (aT (pv 3))))))),(ar (bP (i:=2) (aW (av cf (fx (av qE (fx (av cf (fx (av qE (fx (av gs (fx (fF 0)) (fx pI))) (fx pI))) (fx pI))) (fx pI))) (fx pI))) rfl rfl)
 (ar (cH (i:=3) (aW (eC aM)) rfl rfl)
 (ar (bP (i:=4) (aW pI) rfl rfl)
 (ar (eI (aW (oz (fx (fF 1)))) (.inl rfl) (uP (i:=5) rfl rfl) (eI (aW (TV (fx (av gs (fx (fF 5)) (fx pI))) (fx (fF 1)))) (.inl rfl) (uP (i:=6) rfl rfl) (ar (cI (aW (bS (fx (av lV (fx (av cf (fx (av RT (fx (fF 2)) (fx (av cf (fx (fF 4)) (fx pI))))) (fx pI))) (fx pI))))) (a7 (ib (iV (i:=3) rfl) (c8 (ao (fF 5) (ao (fF 6) aM))))) bY)
 (bP (i:=4) (aW (av gs (fx (fF 4)) (fx pI))) rfl rfl))))
 (bz (pY (i:=3) rfl))))))⟩
theorem zw(T:Txt K mg a base):FnOk P w K mg base gi 1 a.f_bf9 a.d_bf9 ["found"] (gg (a8 a K) O6 (KR (a8 a K) .F) m_bf9):=qb (more:=Pn) (body:=zN) T.F_bf9 Nx λb=>⟨_,(af (aT (Oh (aH (lB K rfl) rfl T.z_isinstance Gd.f9 (aa (pv 0) (aa (p9 rfl T.z_int Gd.J9 (v:= .ty "int") rfl) ab))) (Oe (Of (aH (lB K rfl) rfl T.z_isinstance Gd.f9 (aa (pv 0) (aa (p9 rfl T.z_bool Gd.L6 (v:= .ty "bool") rfl) ab)))))))),(bz (aW (R9 (fx (hC A0 (fx (fF 0)) (fx pT))) (R6 (fx (hC A0 (fx (fF 0)) (fx pT)))))))⟩
theorem Ey:CompSc (am A8) { kind:=.function,names:=[ (".0",.local),("sign",.local),("FIGURES",.globalImplicit)],isGenerator:=false,isCoroutine:=false,more:=[]:PySem.Scope } "sign" []:=by ac_rfl
theorem G3(T:Txt K mg a base):FnOk P w K mg base gi 1 a.f_bi9 a.d_bi9 ["word"] (gg (a8 a K) O3 (KR (a8 a K) .F) m_bi9):=by
 obtain⟨c,g_FIGURES⟩:=T.g_FIGURES;obtain⟨b,g_MOST_FIGURES⟩:=T.g_MOST_FIGURES
 exact qb (more:=Pk) (body:=zK) T.F_bi9 Fu λd=>⟨_,(ac (aP (i:=1) Fu.nd rfl (Or.inl rfl) (GG (gj (kF (K:=K) rfl Ww PySem.F.slot_str_startswith PySem.F.type_str_startswith D1 (pv 0) (aa bG ab))) (kE Fq (pv 0) (mQ ah) mR) (pv 0)))
  (ac (bA (PW.pt (kx (ax o5 (aH nB rfl T.z_len Gd.d7 (aa (pv 1) ab)) ah (aL _)) (iU (ax qQ (aH nB rfl T.z_len Gd.d7 (aa (pv 1) ab)) (lv rfl g_MOST_FIGURES (v:= .int 60) ⟨_,rfl⟩) (aL _))))) (af cO) aR)
  (ac (bA (gj (aH (EH K rfl rfl) rfl T.z_any Gd.QL (aa (eV rfl (Oc (pv 1)) Ey (ix:=[]) rfl (λ_ _ _ _=>gE) (λ_ _ _ _=>(u9 vd (pv 0) (lv rfl g_FIGURES (v:= .str ("0123456789" : Str)) ⟨_,rfl⟩) rfl))) ab))) (af cO) aR)
  (ac (bA (PW.pt (ju (ax hG (dY PU (pv 1) ah (λ_ _=>rfl)) bG (aL _)) (gC (ax fg (pv 0) bG (aL _))))) (af cO) aR)
  (af (aT (bQ EG rfl T.z_int Gd.J9 (aa (pv 0) ab)))))))),(ar (bP (i:=1) (aW (R7 (lC (fx (GL (fx (fF 0)) (fx pS)))) (Le (fx (fF 0)) (fx pI)) (fF 0))) rfl rfl)
  (ar (cI (aW (ky (bS (fx (av wM (fx (fy FA (fx (fF 1)))) (fx pI)))) (bS (fx (av zj (fx (fy FA (fx (fF 1)))) (fx pI)))))) dP bY)
  (ar (cI (aW (lC (fx (fy RW (fx (oF (cE (ix:=[]) (TU (fx (fF 1))) (by decide) jv (av NG (fx (fF 0)) (fx pS))))))))) dP bY)
  (ar (cI (aW (jw (bS (fx (av lV (fx (av RU (fx (fF 1)) (fx pI))) (fx pS)))) (bS (fx (av i8 (fx (fF 0)) (fx pS)))))) dP bY)
  (bz (aW (fy NN (fx (fF 0)))))))))⟩
theorem OB(T:Txt K mg a base):FnOk P w K mg base gi 1 a.f_bk9 a.d_bk9 ["houses","count"] (gg (a8 a K) O1 (KR (a8 a K) .F) m_bk9):=by
 obtain⟨b,g_SEAT⟩:=T.g_SEAT;exact qb (more:=Pi) (body:=zI) T.F_bk9 Nw λc=>⟨_,(af (bA (PW.pt (kx (ax o5 (t8 (AA K rfl rfl) rfl T.z_min Gd.tm (aa (pv 0) ab) (BD (lv rfl g_SEAT (v:= .int 0) ⟨_,rfl⟩) GE)) ah (aL _)) (iU (ax Sa (t8 (AB K rfl rfl) rfl T.z_max Gd.k7 (aa (pv 0) ab) (BD (lv rfl g_SEAT (v:= .int 0) ⟨_,rfl⟩) GE)) (pv 1) (aL _))))) (af cO) aR)),(cI (aW (ky (bS (fx (av wM (fx (Oj (ux (fR 0)) (fx pI))) (fx pI)))) (bS (fx (av Vo (fx (Ol (ux (fR 0)) (fx pI))) (fx (fF 1))))))) dP bY)⟩
theorem Ew:CompSc (am wO) (Gd.iK (Gd.oX (Gd.nth (dg wO) 1))) "line" []:=by ac_rfl
theorem OA(T:Txt K mg a base):FnOk P w K mg base gi 1 a.f_bl9 a.d_bl9 ["text"] (gg (a8 a K) O0 (KO (a8 a K) (.ct .fz)) m_bl9):=jy (more:=Ph) (body:=zH) T.F_bl9 Nv λb=>⟨_,(ac (bA (iW (gj (kF (K:=K) rfl Ww PySem.F.slot_str_endswith PySem.F.type_str_endswith Lu (pv 0) (aa bG ab)))) (af cO) aR)
 (af (aT (eV rfl (bB K rfl (kF (K:=K) rfl Ww YH YI xq (kE Fq (pv 0) mR (mQ (MH E5 ah))) (aa bG ab))) Ew (ix:=[]) rfl (λ_ _ _ _=>gE) (λ_ _ _ _=>(kF (K:=K) rfl Ww YH YI xq (pv 0) (aa bG ab))))))),(ar (cI (aW (f6 (lC (fx (Op (fx (fF 0)) (fx pS)))))) dP bY)
 (bz (aW (cE (ix:=[]) (ii (oc (BF (fx (Lf (fx (fF 0)) (fx (Oi Mz (fx pI))))) (fx pS)))) (by decide) jv (oF (BF (fx (fF 0)) (fx pS)))))))⟩
theorem uc(T:Txt K mg a base):FnOk P w K mg base gi 2 a.f_h9 a.d_h9 ["self","houses"] (gg (a8 a K) SW (KR (a8 a K) .F) xw):=qb (more:=Tr) (body:=HH) T.F_h9 RK λb=>⟨_,(af (aK (aE (OB T) b.mm rfl T.m_bk9 T.F_bk9.kp T.b_bk9 .nil ay (aa (pv 1) (aa (cP K rfl (pv 0) rfl) ab))))),(a7 (aW (cw (ae (aU (fR 1)) (ae (aF (rS (k:= .X) (ux (o4 (c:=0) T.cl_Guild T.n_house_count (rc (fR 0)))))) az)) rfl)))⟩
theorem Sj(T:Txt K mg a base):FnOk P w K mg base gi 2 a.f_s9 a.d_s9 ["cell","size"] (gg (a8 a K) SH (KO (a8 a K) (.ct .fz)) m_s9):=jy (more:=Te) (body:=Hu) T.F_s9 wK λb=>⟨_,(ac (aP (i:=2) wK.nd rfl (Or.inl rfl) jb)
 (ac (bA (ax o5 (pv 1) ah (aL _)) (af (aT (pv 2))) aR)
 (ac (cW Wa rfl (cA rfl T.z_range (aa (aB bw (pv 0) ah) ab)) (bo (i:=3) wK.nd rfl (Or.inl rfl)) (ac (aP (i:=0) wK.nd rfl (Or.inl rfl) (aB bw (aB eE (aB lX (pv 0) ah) ah) ah))
 (ac (aP (i:=4) wK.nd rfl (Or.inl rfl) (aE (Se T) b.mm rfl T.m_y9 T.F_y9.kp T.b_y9 .nil ay (aa (aB fA (pv 0) ah) (aa (aB eE ah (aB bw (pv 0) (aB hE (pv 1) ah))) (aa (pv 1) ab)))))
 (af (fw (di b) (pv 2) (bQ (fH K rfl) rfl T.z_tuple Gd.nC (aa (pv 4) ab)) (aB hE (aB bw (aB fA (pv 0) ah) ah) ah) rfl)))))
 (af (aT (pv 2)))))),(ar (cH (i:=2) (aW ub) rfl rfl)
 (ar (cI (aW (bS (fx (av wM (fx (fF 1)) (fx pI))))) (bz (pY (i:=2) rfl)) bY)
 (ar (eI (aW (oz (fx (av cf (fx (fF 0)) (fx pI))))) (.inl rfl) (uP (i:=3) rfl rfl) (ar (bP (i:=0) (aW (av cf (fx (av gs (fx (av qE (fx (fF 0)) (fx pI))) (fx pI))) (fx pI))) rfl rfl)
 (ar (bP (i:=4) (aW (oF (fc (ae (aF (av gY (fx (fF 0)) (fx pI))) (ae (aF (av gs (fx pI) (fx (av cf (fx (fF 0)) (fx (av kn (fx (fF 1)) (fx pI))))))) (ae (aF (fF 1)) az))) rfl))) rfl rfl)
 (gZ (iV (i:=2) rfl) (fx (qa (rc (fF 4)))) (aW (av kn (fx (av cf (fx (av gY (fx (fF 0)) (fx pI))) (fx pI))) (fx pI)))))))
 (bz (pY (i:=2) rfl)))))⟩
theorem Ji:CompSc (am zi) (Gd.iK (Gd.oX (Gd.nth (dg zi) 0))) "a" []:=by ac_rfl
theorem Jh:CompSc (am zi) { kind:=.function,names:=[ (".0",.local),("a",.local),("b",.local),("_law_line",.globalImplicit)],isGenerator:=false,isCoroutine:=false,more:=[]:PySem.Scope } "a" []:=by ac_rfl
theorem Jg:CompSc (am zi) { kind:=.function,names:=[ (".0",.local),("key",.local),("_law_line",.globalImplicit),("list",.globalImplicit),("dear",.free)],isGenerator:=false,isCoroutine:=false,more:=[]:PySem.Scope } "key" ["dear"]:=by ac_rfl
theorem Sf(T:Txt K mg a base):FnOk P w K mg base gi 2 a.f_x9 a.d_x9 ["ways","fond","dear","shy"] (gg (a8 a K) SB (KO (a8 a K) (.ct .fz)) m_x9):=jy (more:=S9) (body:=Hq) T.F_x9 AW λb=>⟨_,(ac (wW (K:=K) (i:=4) rfl rfl AW.nd rfl (.inl rfl) (bB K rfl (aH (iS (K:=K) rfl rfl) rfl T.z_sorted Gd.jp (aa (pv 0) ab))) Ji (by decide +kernel) (by decide) (λ_ _ _ _=>(aE (xg T) b.mm rfl T.m_w9 T.F_w9.kp T.b_w9 .nil ay (aa (cK (aa bG (aa (pv 0) (aa (pv 1) ab)))) ab))))
 (ac (cW Wa rfl (bB K rfl (aH (iS (K:=K) rfl rfl) rfl T.z_sorted Gd.jp (aa (bQ (iu rfl) rfl T.z_list Gd.gO (aa (pv 1) ab)) ab))) (bo (i:=5) AW.nd rfl (Or.inl rfl)) (af (bA (ax fg (iG (di b) (pv 1) (pv 5) (λ_ _=>rfl)) ah (aL _)) (af (aK (gb V8 WK WL dL (pv 4) (aa (aE (xg T) b.mm rfl T.m_w9 T.F_w9.kp T.b_w9 .nil ay (aa (cK (aa bG (aa (dY (iN K rfl) (pv 5) ah (λ_ _=>rfl)) (aa (dY (iN K rfl) (pv 5) ah (λ_ _=>rfl)) (aa (iG (di b) (pv 1) (pv 5) (λ_ _=>rfl)) ab))))) ab)) ab)))) aR)))
 (ac (aP (i:=4) AW.nd rfl (Or.inl rfl) (aB qR (pv 4) (GH (K:=K) rfl rfl (bB K rfl (aH (iS (K:=K) rfl rfl) rfl T.z_sorted Gd.jp (aa (pv 3) ab))) Jh (by decide +kernel) (by decide) (λ_ _ _ _=>(aE (xg T) b.mm rfl T.m_w9 T.F_w9.kp T.b_w9 .nil ay (aa (cK (aa bG (aa (pv 0) (aa (pv 1) ab)))) ab))))))
 (af (aT (aB qR (pv 4) (eV rfl (bB K rfl (aH (iS (K:=K) rfl rfl) rfl T.z_sorted Gd.jp (aa (bQ (iu rfl) rfl T.z_list Gd.gO (aa (pv 2) ab)) ab))) Jg (ix:=[2]) rfl (λ_ _ _ _=>gE) (λ_ _ _ _=>(aE (xg T) b.mm rfl T.m_w9 T.F_w9.kp T.b_w9 .nil ay (aa (aB qR (cK (aa bG (aa (iG (di b) (pv 1) (pv 0) (λ_ _=>rfl)) ab))) (bQ (i6 K rfl) rfl T.z_list Gd.gO (aa (pv 0) ab))) ab)))))))))),(ar (cH (i:=4) (aW (xc (ii (rc (w9 (rc (fR 0))))) (cw (ae (aF (oF (eC (ao pS (ao (rS (k:= .X) (ux (fR 0))) (ao (rS (k:= .X) (ux (fR 1))) aM)))))) az) rfl))) rfl rfl)
 (ar (eI (aW (gH (oF (BG (oc (mT (rc (fR 1)))))))) (.inl rfl) (uP (i:=5) rfl rfl) (cI (aW (bS (fx (av i8 (ux (kG (rc (fR 1)) (fx (fF 5)))) (fx pI))))) (a7 (ib (iV (i:=4) rfl) (cw (ae (aF (oF (eC (ao pS (ao (o3 (rc (fF 5)) (fx pI)) (ao (o3 (rc (fF 5)) (fx pI)) (ao (rS (k:= .X) (ux (kG (rc (fR 1)) (fx (fF 5))))) aM))))))) az) rfl))) bY))
 (ar (cH (i:=4) (aW (xf (fC 4) (oc (xc (ii (rc (w9 (rc (fR 3))))) (cw (ae (aF (oF (eC (ao pS (ao (rS (k:= .X) (ux (fR 0))) (ao (rS (k:= .X) (ux (fR 1))) aM)))))) az) rfl))))) rfl rfl)
 (bz (aW (xf (fC 4) (oc (cE (ix:=[2]) (ii (oc (BG (oc (mT (rc (fR 2))))))) (by decide) jv (cw (ae (aF (oF (xf (oc (eC (ao pS (ao (rS (k:= .X) (ux (kG (rc (fR 1)) (fx (fF 0))))) aM)))) (oc (zt (rc (fF 0))))))) az) rfl)))))))))⟩
theorem G5(T:Txt K mg a base):FnOk P w K mg base gi 2 a.f_bb9 a.d_bb9 ["found","due"] (gg (a8 a K) Pa (KR (a8 a K) .F) m_bb9):=qb (more:=Ps) (body:=zR) T.F_bb9 Fv λb=>⟨_,(ac (bA (ax GU (pv 1) GF (aL _)) (af (aT (u9 GU (pv 0) GF (aL _)))) aR)
 (ac (bA (PW.pt (kx (iW (gj (aH (lB K rfl) rfl T.z_isinstance Gd.f9 (aa (pv 0) (aa (p9 rfl T.z_list Gd.gO (v:= .ty "list") rfl) ab))))) (iU (ax fg (aH (bp K rfl) rfl T.z_len Gd.d7 (aa (pv 0) ab)) (aH (bp K rfl) rfl T.z_len Gd.d7 (aa (pv 1) ab)) (aL _))))) (af (aT g9)) aR)
 (ac (cW Wa rfl (bB K rfl (pv 0)) (bo (i:=2) Fv.nd rfl (Or.inl rfl)) (af (bA (iW (gj (aE (zw T) b.mm rfl T.m_bf9 T.F_bf9.kp T.b_bf9 .nil ay (aa (pv 2) ab)))) (af (aT g9)) aR)))
 (af (aT (u9 (Lh K rfl b.units) (pv 0) (pv 1) (aL _))))))),(ar (cI (aW (bS (fx (av RV (fx (fF 1)) (fx pN))))) (bz (aW (av RV (fx (fF 0)) (fx pN)))) bY)
 (ar (cI (aW (ky (f6 (lC (fx (hC A0 (fx (fF 0)) (fx pT))))) (bS (fx (av i8 (fx (fy i9 (fx (fF 0)))) (fx (fy i9 (fx (fF 1))))))))) (bz (aW pB)) bY)
 (ar (eI (aW (gH (fF 0))) (.inl rfl) (uP (i:=2) rfl rfl) (cI (aW (f6 (lC (fx (cw (ae (aF (fF 2)) az) rfl))))) (bz (aW pB)) bY))
 (bz (aW (av NT (fx (fF 0)) (fx (fF 1))))))))⟩
theorem Er:CompSc (am A4) { kind:=.function,names:=[ (".0",.local),("house",.local),("str",.globalImplicit)],isGenerator:=false,isCoroutine:=false,more:=[]:PySem.Scope } "house" []:=by ac_rfl
theorem Ov(T:Txt K mg a base):FnOk P w K mg base gi 2 a.f_bq9 a.d_bq9 ["guild"] (gg (a8 a K) OV (KO (a8 a K) (.ct .fz)) m_bq9):=jy (more:=Pc) (body:=zC) T.F_bq9 qC λb=>⟨_,(ac (aP (i:=1) qC.nd rfl (Or.inl rfl) (cK ab))
 (ac (cW Wa rfl (bB K rfl (eQ (pv 0) T.cl_Guild T.me_o9 (GV T) b.mm T.b_o9 .nil ay)) (qL rfl (eM (bo (i:=2) qC.nd rfl (Or.inl rfl)) (eM (bo (i:=3) qC.nd rfl (Or.inl rfl)) mS))) (ac (aP (i:=4) qC.nd rfl (Or.inl rfl) (kF (K:=K) rfl Ww Xo Xp (mX (K:=K) rfl) bG (aa (eV rfl (bB K rfl (pv 2)) Er (ix:=[]) rfl (λ_ _ _ _=>gE) (λ_ _ _ _=>(bQ tj rfl T.z_str Gd.AC (aa (pv 0) ab)))) ab)))
 (af (aK (gb V8 WK WL dL (pv 1) (aa (wY (cj bG (cj (lK (pv 3)) (cj bG (cj (lK (pv 4)) ro))))) ab))))))
 (af (aT (pv 1))))),(ar (cH (i:=1) (aW (eC aM)) rfl rfl)
 (ar (eI (aW (gH (oF (jx (c:=0) (aU (fR 0)) az rfl)))) (.inl rfl) (UW (uP (i:=2) rfl rfl) (uP (i:=3) rfl rfl)) (ar (bP (i:=4) (aW (vc (fx pS) (fx (oF (cE (ix:=[]) (ii (rc (fF 2))) (by decide) jv (fy AY (fx (fF 0)))))))) rfl rfl)
 (a7 (ib (iV (i:=1) rfl) (GO (Kz (tJ (fx (fF 3)) (Kz (tJ (fx (fF 4)) xB)))))))))
 (bz (pY (i:=1) rfl))))⟩
theorem GZ(T:Txt K mg a base):FnOk P w K mg base gi 3 a.f_e9 a.d_e9 ["self","a","b","rank"] (gg (a8 a K) SZ (KR (a8 a K) .F) HZ):=qb (more:=Tu) (body:=HK) T.F_e9 RN λb=>⟨_,(ac (aK (a9 (pv 0) T.cl_Guild T.me_h9 (uc T) b.mm T.b_h9 .nil ay (aa (cK (aa (pv 1) (aa (pv 2) ab))) ab)))
 (af (fw (di b) (cP K rfl (pv 0) rfl) (bT (aa (pv 1) (aa (pv 2) ab))) (pv 3) rfl))),(ar (a7 (aW (eJ (c:=0) (aX (fO 0)) (ae (aF (oF (eC (ao (fF 1) (ao (fF 2) aM))))) az) rfl)))
 (gZ (zp (c:=0) (i:=0) T.cl_Guild T.n_likings rfl rfl) (fx (c8 (ao (fF 1) (ao (fF 2) aM)))) (aW (fF 3))))⟩
theorem BI(T:Txt K mg a base):FnOk P w K mg base gi 3 a.f_f9 a.d_f9 ["self","a","b"] (gg (a8 a K) SY (KR (a8 a K) .F) D4):=qb (more:=Tt) (body:=HJ) T.F_f9 RM λb=>⟨_,(ac (aK (a9 (pv 0) T.cl_Guild T.me_h9 (uc T) b.mm T.b_h9 .nil ay (aa (cK (aa (pv 1) (aa (pv 2) ab))) ab)))
 (af (aT (w6 (di b) (cP K rfl (pv 0) rfl) (bT (aa (pv 1) (aa (pv 2) ab))) ah ⟨rfl,rfl,rfl,rfl⟩)))),(ar (a7 (aW (eJ (c:=0) (aU (fR 0)) (ae (aF (oF (eC (ao (fF 1) (ao (fF 2) aM))))) az) rfl)))
 (bz (aW (rS (k:= .X) (ux (BH (rc (o4 (c:=0) T.cl_Guild T.n_likings (rc (fR 0)))) (fx (c8 (ao (fF 1) (ao (fF 2) aM)))) (fu pI)))))))⟩
theorem MN(T:Txt K mg a base):FnOk P w K mg base gi 3 a.f_g9 a.d_g9 ["self","a"] (gg (a8 a K) SX (KO (a8 a K) (.ct .fz)) Lz):=jy (more:=Ts) (body:=HI) T.F_g9 RL λb=>⟨_,(ac (aK (a9 (pv 0) T.cl_Guild T.me_h9 (uc T) b.mm T.b_h9 .nil ay (aa (cK (aa (pv 1) ab)) ab)))
 (af (aT (a9 (pv 0) T.cl_Guild T.me_b9 (MO T) b.mm T.b_b9 .nil ay (aa (cP K rfl (pv 0) rfl) (aa (pv 1) ab)))))),(ar (a7 (aW (eJ (c:=0) (aU (fR 0)) (ae (aF (oF (eC (ao (fF 1) aM)))) az) rfl)))
 (bz (aW (jx (c:=0) (aU (fR 0)) (ae (aU (o4 (c:=0) T.cl_Guild T.n_ways (rc (fR 0)))) (ae (aF (fF 1)) az)) rfl))))⟩
theorem Sm(T:Txt K mg a base):FnOk P w K mg base gi 3 a.f_i9 a.d_i9 ["self","road"] (gg (a8 a K) SV (KR (a8 a K) .F) Pv):=by
 obtain⟨b,g_SEAT⟩:=T.g_SEAT
 exact qb (more:=Tq) (body:=HG) T.F_i9 RJ λd=>⟨_,(ac (aK (a9 (pv 0) T.cl_Guild T.me_h9 (uc T) d.mm T.b_h9 .nil ay (aa (pv 1) ab)))
  (ac (bA (ax o5 (aH (bp K rfl) rfl T.z_len Gd.d7 (aa (pv 1) ab)) ah (aL _)) (af cO) aR)
  (ac (bA (ax fg (dY (cT K rfl) (pv 1) (MH E5 ah) (λ_ _=>rfl)) (lv rfl g_SEAT (v:= .int 0) ⟨_,rfl⟩) (aL _)) (af cO) aR)
  (af (bA (ax fg (aH EF rfl T.z_len Gd.d7 (aa (bQ (Az K rfl rfl) rfl T.z_set Gd.QK (aa (pv 1) ab)) ab)) (aH (bp K rfl) rfl T.z_len Gd.d7 (aa (pv 1) ab)) (aL _)) (af cO) aR))))),(ar (a7 (aW (eJ (c:=0) (aU (fR 0)) (ae (aU (fR 1)) az) rfl)))
  (ar (cI (aW (bS (fx (av wM (fx (fy i9 (ux (fR 1)))) (fx pI))))) dP bY)
  (ar (cI (aW (bS (fx (av i8 (ux (iH (rc (fR 1)) (fx (Oi Mz (fx pI))))) (fx pI))))) dP bY)
  (cI (aW (bS (fx (av i8 (fx (GN (ux (fR 1)))) (fx (fy i9 (ux (fR 1)))))))) dP bY))))⟩
theorem GY(T:Txt K mg a base):FnOk P w K mg base gi 3 a.f_j9 a.d_j9 ["self","a","b"] (gg (a8 a K) SU (KR (a8 a K) .F) HY):=qb (more:=To) (body:=HF) T.F_j9 RH λb=>⟨_,(ac (aK (a9 (pv 0) T.cl_Guild T.me_h9 (uc T) b.mm T.b_h9 .nil ay (aa (cK (aa (pv 1) (aa (pv 2) ab))) ab)))
 (af (bA (ax hG (pv 1) (pv 2) (aL _)) (af cO) aR))),(ar (a7 (aW (eJ (c:=0) (aU (fR 0)) (ae (aF (oF (eC (ao (fF 1) (ao (fF 2) aM))))) az) rfl)))
 (cI (aW (bS (fx (av lV (fx (fF 1)) (fx (fF 2)))))) dP bY))⟩
theorem MM(T:Txt K mg a base):FnOk P w K mg base gi 3 a.f_l9 a.d_l9 ["self","a"] (gg (a8 a K) SR (KO (a8 a K) (.ct .fz)) Ly):=jy (more:=Tl) (body:=HC) T.F_l9 RF λb=>⟨_,(ac (aK (a9 (pv 0) T.cl_Guild T.me_h9 (uc T) b.mm T.b_h9 .nil ay (aa (cK (aa (pv 1) ab)) ab)))
 (af (aT (a9 (pv 0) T.cl_Guild T.me_b9 (MO T) b.mm T.b_b9 .nil ay (aa (cP K rfl (pv 0) rfl) (aa (pv 1) ab)))))),(ar (a7 (aW (eJ (c:=0) (aU (fR 0)) (ae (aF (oF (eC (ao (fF 1) aM)))) az) rfl)))
 (bz (aW (jx (c:=0) (aU (fR 0)) (ae (aU (o4 (c:=0) T.cl_Guild T.n_shuns (rc (fR 0)))) (ae (aF (fF 1)) az)) rfl))))⟩
theorem Sl(T:Txt K mg a base):FnOk P w K mg base gi 3 a.f_p9 a.d_p9 ["words"] (gg (a8 a K) SL (KO (a8 a K) (.ob cB)) m_p9):=jy (more:=Th) (body:=Hy) T.F_p9 RB λb=>⟨_,(ac (bA (PW.pt (kx (ax fg (aH (bp K rfl) rfl T.z_len Gd.d7 (aa (pv 0) ab)) ah (aL _)) (iU (ax fg (dY (cT K rfl) (pv 0) ah (λ_ _=>rfl)) bG (aL _))))) (af cO) aR)
 (af (aT (BE T.mk_Guild (MP T) b.mm rfl T.mgC_Guild T.b_a9 .nil ay (aa (aE (G3 T) b.mm rfl T.m_bi9 T.F_bi9.kp T.b_bi9 .nil ay (aa (dY (cT K rfl) (pv 0) ah (λ_ _=>rfl)) ab)) ab))))),(ar (cI (aW (ky (bS (fx (av i8 (fx (fy i9 (fx (fF 0)))) (fx pI)))) (bS (fx (av i8 (fx (iH (rc (fF 0)) (fx pI))) (fx pS)))))) dP bY)
 (bz (aW (MG (c:=0) (ae (aF (cw (ae (aF (iH (rc (fF 0)) (fx pI))) az) rfl)) az) rfl))))⟩
theorem G0(T:Txt K mg a base):FnOk P w K mg base gi 4 a.f_c9 a.d_c9 ["self","a","b"] (gg (a8 a K) S3 (KR (a8 a K) .F) H8):=qb (more:=Tw) (body:=HM) T.F_c9 RP λb=>⟨_,(ac (aK (a9 (pv 0) T.cl_Guild T.me_j9 (GY T) b.mm T.b_j9 .nil ay (aa (pv 1) (aa (pv 2) ab))))
 (ac (bA (u8 (GJ (di b) (bT (aa (pv 1) (aa (pv 2) ab))) (cP K rfl (pv 0) rfl))) (af cO) aR)
 (ac (fw (di b) (cP K rfl (pv 0) rfl) (bT (aa (pv 1) (aa (pv 2) ab))) g9 rfl)
 (af (fw (di b) (cP K rfl (pv 0) rfl) (bT (aa (pv 2) (aa (pv 1) ab))) g9 rfl))))),(ar (a7 (aW (eJ (c:=0) (aX (fO 0)) (ae (aF (fF 1)) (ae (aF (fF 2)) az)) rfl)))
 (ar (cI (aW (lC (fx (MK (fx (c8 (ao (fF 1) (ao (fF 2) aM)))) (GP (c:=0) (i:=0) T.cl_Guild T.n_ways rfl rfl))))) dP bY)
 (ar (gZ (zp (c:=0) (i:=0) T.cl_Guild T.n_ways rfl rfl) (fx (c8 (ao (fF 1) (ao (fF 2) aM)))) (aW pB))
 (gZ (zp (c:=0) (i:=0) T.cl_Guild T.n_ways rfl rfl) (fx (c8 (ao (fF 2) (ao (fF 1) aM)))) (aW pB)))))⟩
theorem Sn(T:Txt K mg a base):FnOk P w K mg base gi 4 a.f_d9 a.d_d9 ["self","a","b"] (gg (a8 a K) S0 (KR (a8 a K) .F) Pw):=qb (more:=Tv) (body:=HL) T.F_d9 RO λb=>⟨_,(ac (aK (a9 (pv 0) T.cl_Guild T.me_j9 (GY T) b.mm T.b_j9 .nil ay (aa (pv 1) (aa (pv 2) ab))))
 (ac (bA (u8 (t9 (di b) (bT (aa (pv 1) (aa (pv 2) ab))) (cP K rfl (pv 0) rfl))) (af cO) aR)
 (ac (aK (wZ (di b) (cP K rfl (pv 0) rfl) (bT (aa (pv 1) (aa (pv 2) ab))) ⟨rfl,rfl,rfl,rfl⟩))
 (af (aK (wZ (di b) (cP K rfl (pv 0) rfl) (bT (aa (pv 2) (aa (pv 1) ab))) ⟨rfl,rfl,rfl,rfl⟩)))))),(ar (a7 (aW (eJ (c:=0) (aX (fO 0)) (ae (aF (fF 1)) (ae (aF (fF 2)) az)) rfl)))
 (ar (cI (aW (lC (fx (GQ (fx (c8 (ao (fF 1) (ao (fF 2) aM)))) (GP (c:=0) (i:=0) T.cl_Guild T.n_ways rfl rfl))))) dP bY)
 (ar (a7 (H0 (zp (c:=0) (i:=0) T.cl_Guild T.n_ways rfl rfl) (fx (c8 (ao (fF 1) (ao (fF 2) aM))))))
 (a7 (H0 (zp (c:=0) (i:=0) T.cl_Guild T.n_ways rfl rfl) (fx (c8 (ao (fF 2) (ao (fF 1) aM)))))))))⟩
theorem GX(T:Txt K mg a base):FnOk P w K mg base gi 4 a.f_k9 a.d_k9 ["self","a","b"] (gg (a8 a K) SS (KR (a8 a K) .F) HX):=qb (more:=Tn) (body:=HE) T.F_k9 RG λb=>⟨_,(ac (aK (a9 (pv 0) T.cl_Guild T.me_j9 (GY T) b.mm T.b_j9 .nil ay (aa (pv 1) (aa (pv 2) ab))))
 (af (fw (di b) (cP K rfl (pv 0) rfl) (bT (aa (pv 1) (aa (pv 2) ab))) g9 rfl))),(ar (a7 (aW (eJ (c:=0) (aX (fO 0)) (ae (aF (fF 1)) (ae (aF (fF 2)) az)) rfl)))
 (gZ (zp (c:=0) (i:=0) T.cl_Guild T.n_shuns rfl rfl) (fx (c8 (ao (fF 1) (ao (fF 2) aM)))) (aW pB)))⟩
theorem GW(T:Txt K mg a base):FnOk P w K mg base gi 4 a.f_n9 a.d_n9 ["self","road","rank"] (gg (a8 a K) SN (KR (a8 a K) .F) HW):=qb (more:=Tj) (body:=HA) T.F_n9 RD λb=>⟨_,(ac (aK (a9 (pv 0) T.cl_Guild T.me_i9 (Sm T) b.mm T.b_i9 .nil ay (aa (pv 1) ab)))
 (af (fw (di b) (cP K rfl (pv 0) rfl) (bQ (fH K rfl) rfl T.z_tuple Gd.nC (aa (pv 1) ab)) (pv 2) rfl))),(ar (a7 (aW (eJ (c:=0) (aX (fO 0)) (ae (aU (fR 1)) az) rfl)))
 (gZ (zp (c:=0) (i:=0) T.cl_Guild T.n_wish_ranks rfl rfl) (fx (qa (cS (k':= .F) (rc (fR 1))))) (aW (fF 2))))⟩
theorem EA:CompSc (am A9) { kind:=.function,names:=[ (".0",.local),("b",.local),("a",.free),("shy",.free)],isGenerator:=false,isCoroutine:=false,more:=[]:PySem.Scope } "b" ["shy","a"]:=by ac_rfl
theorem G6(T:Txt K mg a base):FnOk P w K mg base gi 4 a.f_ba9 a.d_ba9 ["found","size","ways","fond","dear","shy"] (gg (a8 a K) Pb (KR (a8 a K) .F) m_ba9):=qb (more:=Pt) (body:=zS) T.F_ba9 nT λb=>⟨_,(ac (bA (PW.pt (kx (ax fg (eQ (pv 0) T.cl_Guild T.me_m9 (qT T) b.mm T.b_m9 .nil ay) (pv 1) (aL _)) (iU (ax fg (aH (bp K rfl) rfl T.z_len Gd.d7 (aa (eQ (pv 0) T.cl_Guild T.me_o9 (GV T) b.mm T.b_o9 .nil ay) ab)) (aH EE rfl T.z_len Gd.d7 (aa (pv 4) ab)) (aL _))))) (af (aT g9)) aR)
 (ac (cW Wa rfl (bB K rfl (eQ (pv 0) T.cl_Guild T.me_o9 (GV T) b.mm T.b_o9 .nil ay)) (qL rfl (eM (bo (i:=6) nT.nd rfl (Or.inl rfl)) (eM (bo (i:=7) nT.nd rfl (Or.inl rfl)) mS))) (af (bA (PW.pt (kx (u8 (t9 (di b) (bQ (fH K rfl) rfl T.z_tuple Gd.nC (aa (pv 6) ab)) (pv 4))) (kx (ax fg (iG (di b) (pv 4) (bQ (fH K rfl) rfl T.z_tuple Gd.nC (aa (pv 6) ab)) (λ_ _=>rfl)) (pv 7) (aL _)) (iU (iW (gj (aE (zw T) b.mm rfl T.m_bf9 T.F_bf9.kp T.b_bf9 .nil ay (aa (pv 7) ab)))))))) (af (aT g9)) aR)))
 (ac (cW Wa rfl (cA rfl T.z_range (aa (pv 1) ab)) (bo (i:=8) nT.nd rfl (Or.inr rfl)) (ac (bA (iW (gj (aE (G5 T) b.mm rfl T.m_bb9 T.F_bb9.kp T.b_bb9 .nil ay (aa (a9 (pv 0) T.cl_Guild T.me_g9 (MN T) b.mm T.b_g9 .nil ay (aa (pv 8) ab)) (aa (aE (OF T) b.mm rfl T.m_bd9 T.F_bd9.kp T.b_bd9 .nil ay (aa (pv 2) (aa (pv 1) (aa (pv 8) ab)))) ab))))) (af (aT g9)) aR)
 (ac (bA (iW (gj (aE (G5 T) b.mm rfl T.m_bb9 T.F_bb9.kp T.b_bb9 .nil ay (aa (a9 (pv 0) T.cl_Guild T.me_l9 (MM T) b.mm T.b_l9 .nil ay (aa (pv 8) ab)) (aa (eV rfl (cA rfl T.z_range (aa (pv 1) ab)) EA (ix:=[5,8]) rfl (λ_ _ _ _=>lu (ax (ve K rfl (Mi.IJ b)) (bT (aa (pv 2) (aa (pv 0) ab))) (pv 1) (by with_unfolding_all rfl))) (λ_ _ _ _=>(pv 0))) ab))))) (af (aT g9)) aR)
 (af (cW Wa rfl (bB K rfl (cK (aa ah (aa (pv 8) (aa (aB bw (aB eE (pv 8) ah) (pv 1)) (aa (aB hE (pv 1) ah) ab)))))) (bo (i:=9) nT.nd rfl (Or.inl rfl)) (af (bA (ax fg (a9 (pv 0) T.cl_Guild T.me_f9 (BI T) b.mm T.b_f9 .nil ay (aa (pv 8) (aa (pv 9) ab))) (w6 (di b) (pv 3) (bT (aa (pv 8) (aa (pv 9) ab))) ah ⟨rfl,rfl,rfl,rfl⟩) (aL _)) (af (aT g9)) aR)))))))
 (ac (cW Wa rfl (bB K rfl (bQ (iu rfl) rfl T.z_list Gd.gO (aa (pv 3) ab))) (bo (i:=10) nT.nd rfl (Or.inl rfl)) (af (bA (PW.pt (kx (ax fg (a9 (pv 0) T.cl_Guild T.me_f9 (BI T) b.mm T.b_f9 .nil ay (aa (dY (iN K rfl) (pv 10) ah (λ_ _=>rfl)) (aa (dY (iN K rfl) (pv 10) ah (λ_ _=>rfl)) ab))) (iG (di b) (pv 3) (pv 10) (λ_ _=>rfl)) (aL _)) (iU (iW (gj (aE (zw T) b.mm rfl T.m_bf9 T.F_bf9.kp T.b_bf9 .nil ay (aa (a9 (pv 0) T.cl_Guild T.me_f9 (BI T) b.mm T.b_f9 .nil ay (aa (dY (iN K rfl) (pv 10) ah (λ_ _=>rfl)) (aa (dY (iN K rfl) (pv 10) ah (λ_ _=>rfl)) ab))) ab))))))) (af (aT g9)) aR)))
 (af (aT g9)))))),(ar (cI (aW (ky (bS (fx (av i8 (fx (eJ (c:=0) (aU (fR 0)) az rfl)) (fx (fF 1))))) (bS (fx (av i8 (fx (fy i9 (fx (oF (jx (c:=0) (aU (fR 0)) az rfl))))) (fx (On (ux (fR 4))))))))) (bz (aW pB)) bY)
 (ar (eI (aW (gH (oF (jx (c:=0) (aU (fR 0)) az rfl)))) (.inl rfl) (UW (uP (i:=6) rfl rfl) (uP (i:=7) rfl rfl)) (cI (aW (ky (lC (fx (GQ (fx (qa (rc (fF 6)))) (rc (fR 4))))) (ky (bS (fx (av i8 (ux (kG (rc (fR 4)) (fx (qa (rc (fF 6)))))) (fx (fF 7))))) (f6 (lC (fx (cw (ae (aF (fF 7)) az) rfl))))))) (bz (aW pB)) bY))
 (ar (eI (aW (oz (fx (fF 1)))) (.inl rfl) (uP (i:=8) rfl rfl) (ar (cI (aW (f6 (lC (fx (cw (ae (aF (oF (jx (c:=0) (aU (fR 0)) (ae (aF (fF 8)) az) rfl))) (ae (aF (oF (fc (ae (aU (fR 2)) (ae (aF (fF 1)) (ae (aF (fF 8)) az))) rfl))) az)) rfl))))) (bz (aW pB)) bY)
 (ar (cI (aW (f6 (lC (fx (cw (ae (aF (oF (jx (c:=0) (aU (fR 0)) (ae (aF (fF 8)) az) rfl))) (ae (aF (oF (cE (ix:=[5,8]) (oz (fx (fF 1))) (by decide) (bS (fx (av FB (fx (c8 (ao (fF 2) (ao (fF 0) aM)))) (ux (fR 1))))) (fF 0)))) az)) rfl))))) (bz (aW pB)) bY)
 (eI (aW (gH (oF (eC (ao pI (ao (fF 8) (ao (av cf (fx (av gs (fx (fF 8)) (fx pI))) (fx (fF 1))) (ao (av kn (fx (fF 1)) (fx pI)) aM)))))))) (.inl rfl) (uP (i:=9) rfl rfl) (cI (aW (bS (fx (av i8 (fx (eJ (c:=0) (aU (fR 0)) (ae (aF (fF 8)) (ae (aF (fF 9)) az)) rfl)) (ux (BH (rc (fR 3)) (fx (c8 (ao (fF 8) (ao (fF 9) aM)))) (fu pI))))))) (bz (aW pB)) bY)))))
 (ar (eI (aW (gH (oF (mT (rc (fR 3)))))) (.inl rfl) (uP (i:=10) rfl rfl) (cI (aW (ky (bS (fx (av i8 (fx (eJ (c:=0) (aU (fR 0)) (ae (aF (o3 (rc (fF 10)) (fx pI))) (ae (aF (o3 (rc (fF 10)) (fx pI))) az)) rfl)) (ux (kG (rc (fR 3)) (fx (fF 10))))))) (f6 (lC (fx (cw (ae (aF (eJ (c:=0) (aU (fR 0)) (ae (aF (o3 (rc (fF 10)) (fx pI))) (ae (aF (o3 (rc (fF 10)) (fx pI))) az)) rfl)) az) rfl)))))) (bz (aW pB)) bY))
 (bz (aW pB))))))⟩
theorem OD(T:Txt K mg a base):FnOk P w K mg base gi 4 a.f_bh9 a.d_bh9 ["guild"] (gg (a8 a K) O4 (KO (a8 a K) (.ct .fz)) m_bh9):=jy (more:=Pl) (body:=zL) T.F_bh9 qD λb=>⟨_,(ac (aP (i:=1) qD.nd rfl (Or.inl rfl) (cK ab))
 (ac (cW Wa rfl (cA rfl T.z_range (aa (eQ (pv 0) T.cl_Guild T.me_m9 (qT T) b.mm T.b_m9 .nil ay) ab)) (bo (i:=2) qD.nd rfl (Or.inl rfl)) (af (cW Wa rfl (cA rfl T.z_range (aa (eQ (pv 0) T.cl_Guild T.me_m9 (qT T) b.mm T.b_m9 .nil ay) ab)) (bo (i:=3) qD.nd rfl (Or.inl rfl)) (ac (aP (i:=4) qD.nd rfl (Or.inl rfl) (a9 (pv 0) T.cl_Guild T.me_f9 (BI T) b.mm T.b_f9 .nil ay (aa (pv 2) (aa (pv 3) ab))))
 (af (bA (ax fg (pv 4) ah (aL _)) (af (aK (gb V8 WK WL dL (pv 1) (aa (wY (cj bG (cj (lK (pv 2)) (cj bG (cj (lK (pv 3)) (cj bG (cj (lK (pv 4)) ro))))))) ab)))) aR))))))
 (af (aT (pv 1))))),(ar (cH (i:=1) (aW (eC aM)) rfl rfl)
 (ar (eI (aW (oz (fx (eJ (c:=0) (aU (fR 0)) az rfl)))) (.inl rfl) (uP (i:=2) rfl rfl) (eI (aW (oz (fx (eJ (c:=0) (aU (fR 0)) az rfl)))) (.inl rfl) (uP (i:=3) rfl rfl) (ar (bP (i:=4) (aW (eJ (c:=0) (aU (fR 0)) (ae (aF (fF 2)) (ae (aF (fF 3)) az)) rfl)) rfl rfl)
 (cI (aW (bS (fx (av i8 (fx (fF 4)) (fx pI))))) (a7 (ib (iV (i:=1) rfl) (GO (Kz (tJ (fx (fF 2)) (Kz (tJ (fx (fF 3)) (Kz (tJ (fx (fF 4)) xB))))))))) bY))))
 (bz (pY (i:=1) rfl))))⟩
theorem Eu:CompSc (am A6) { kind:=.function,names:=[ (".0",.local),("b",.local),("a",.free)],isGenerator:=false,isCoroutine:=false,more:=[]:PySem.Scope } "b" ["a"]:=by ac_rfl
theorem Oz(T:Txt K mg a base):FnOk P w K mg base gi 4 a.f_bn9 a.d_bn9 ["guild"] (gg (a8 a K) OY (KO (a8 a K) (.ct .fz)) m_bn9):=jy (more:=Pf) (body:=zF) T.F_bn9 zg λb=>⟨_,(ac (aP (i:=1) zg.nd rfl (Or.inl rfl) (cK ab))
 (ac (cW Wa rfl (cA rfl T.z_range (aa (eQ (pv 0) T.cl_Guild T.me_m9 (qT T) b.mm T.b_m9 .nil ay) ab)) (bo (i:=2) zg.nd rfl (Or.inr rfl)) (af (aK (gb V8 WM WN gS (pv 1) (aa (eV rfl (bB K rfl (a9 (pv 0) T.cl_Guild T.me_l9 (MM T) b.mm T.b_l9 .nil ay (aa (pv 2) ab))) Eu (ix:=[2]) rfl (λ_ _ _ _=>gE) (λ_ _ _ _=>(wY (cj bG (cj (lK (pv 1)) (cj bG (cj (lK (pv 0)) ro))))))) ab)))))
 (af (aT (pv 1))))),(ar (cH (i:=1) (aW (eC aM)) rfl rfl)
 (ar (eI (aW (oz (fx (eJ (c:=0) (aU (fR 0)) az rfl)))) (.inl rfl) (uP (i:=2) rfl rfl) (a7 (je (iV (i:=1) rfl) (oF (cE (ix:=[2]) (ii (oc (jx (c:=0) (aU (fR 0)) (ae (aF (fF 2)) az) rfl))) (by decide) jv (GO (Kz (tJ (fx (fF 1)) (Kz (tJ (fx (fF 0)) xB))))))))))
 (bz (pY (i:=1) rfl))))⟩
theorem Es:CompSc (am A5) { kind:=.function,names:=[ (".0",.local),("b",.local),("a",.free)],isGenerator:=false,isCoroutine:=false,more:=[]:PySem.Scope } "b" ["a"]:=by ac_rfl
theorem Ox(T:Txt K mg a base):FnOk P w K mg base gi 4 a.f_bp9 a.d_bp9 ["guild"] (gg (a8 a K) OW (KO (a8 a K) (.ct .fz)) m_bp9):=jy (more:=Pd) (body:=zD) T.F_bp9 ze λb=>⟨_,(ac (aP (i:=1) ze.nd rfl (Or.inl rfl) (cK ab))
 (ac (cW Wa rfl (cA rfl T.z_range (aa (eQ (pv 0) T.cl_Guild T.me_m9 (qT T) b.mm T.b_m9 .nil ay) ab)) (bo (i:=2) ze.nd rfl (Or.inr rfl)) (af (aK (gb V8 WM WN gS (pv 1) (aa (eV rfl (bB K rfl (a9 (pv 0) T.cl_Guild T.me_g9 (MN T) b.mm T.b_g9 .nil ay (aa (pv 2) ab))) Es (ix:=[2]) rfl (λ_ _ _ _=>lu (ax o5 (pv 1) (pv 0) (aL _))) (λ_ _ _ _=>(wY (cj bG (cj (lK (pv 1)) (cj bG (cj (lK (pv 0)) ro))))))) ab)))))
 (af (aT (pv 1))))),(ar (cH (i:=1) (aW (eC aM)) rfl rfl)
 (ar (eI (aW (oz (fx (eJ (c:=0) (aU (fR 0)) az rfl)))) (.inl rfl) (uP (i:=2) rfl rfl) (a7 (je (iV (i:=1) rfl) (oF (cE (ix:=[2]) (ii (oc (jx (c:=0) (aU (fR 0)) (ae (aF (fF 2)) az) rfl))) (by decide) (bS (fx (av wM (fx (fF 1)) (fx (fF 0))))) (GO (Kz (tJ (fx (fF 1)) (Kz (tJ (fx (fF 0)) xB))))))))))
 (bz (pY (i:=1) rfl))))⟩
theorem Sg(T:Txt K mg a base):FnOk P w K mg base gi 5 a.f_v9 a.d_v9 ["size","ways","fond","dear","shy"] (gg (a8 a K) SE (KO (a8 a K) (.ob cB)) m_v9):=jy (more:=Tb) (body:=Hs) T.F_v9 o1 λb=>⟨_,(ac (aP (i:=5) o1.nd rfl (Or.inl rfl) (BE T.mk_Guild (MP T) b.mm rfl T.mgC_Guild T.b_a9 .nil ay (aa (pv 0) ab)))
 (ac (cW Wa rfl (bB K rfl (pv 1)) (qL rfl (eM (bo (i:=6) o1.nd rfl (Or.inl rfl)) (eM (bo (i:=7) o1.nd rfl (Or.inl rfl)) mS))) (af (aK (a9 (pv 5) T.cl_Guild T.me_c9 (G0 T) b.mm T.b_c9 .nil ay (aa (pv 6) (aa (pv 7) ab))))))
 (ac (cW Wa rfl (bB K rfl (bQ (iu rfl) rfl T.z_list Gd.gO (aa (pv 2) ab))) (bo (i:=8) o1.nd rfl (Or.inl rfl)) (af (aK (a9 (pv 5) T.cl_Guild T.me_e9 (GZ T) b.mm T.b_e9 .nil ay (aa (dY (iN K rfl) (pv 8) ah (λ_ _=>rfl)) (aa (dY (iN K rfl) (pv 8) ah (λ_ _=>rfl)) (aa (iG (di b) (pv 2) (pv 8) (λ_ _=>rfl)) ab)))))))
 (ac (cW Wa rfl (bB K rfl (bQ (iu rfl) rfl T.z_list Gd.gO (aa (pv 3) ab))) (bo (i:=9) o1.nd rfl (Or.inl rfl)) (af (aK (a9 (pv 5) T.cl_Guild T.me_n9 (GW T) b.mm T.b_n9 .nil ay (aa (bQ (i6 K rfl) rfl T.z_list Gd.gO (aa (pv 9) ab)) (aa (iG (di b) (pv 3) (pv 9) (λ_ _=>rfl)) ab))))))
 (ac (cW Wa rfl (bB K rfl (pv 4)) (qL rfl (eM (bo (i:=6) o1.nd rfl (Or.inl rfl)) (eM (bo (i:=7) o1.nd rfl (Or.inl rfl)) mS))) (af (aK (a9 (pv 5) T.cl_Guild T.me_k9 (GX T) b.mm T.b_k9 .nil ay (aa (pv 6) (aa (pv 7) ab))))))
 (af (aT (pv 5)))))))),(ar (cH (i:=5) (aW (MG (c:=0) (ae (aF (fF 0)) az) rfl)) rfl rfl)
 (ar (eI (aW (vt (fR 1))) (.inr rfl) (UW (Rj (i:=6) rfl rfl) (Rj (i:=7) rfl rfl)) (a7 (jd (c:=0) (aO (i:=5)) (ae (aF (rS (k:= .X) (ux (fR 6)))) (ae (aF (rS (k:= .X) (ux (fR 7)))) az)) ⟨rfl,trivial,trivial,trivial⟩ (by decide) (by decide))))
 (ar (eI (aW (gH (oF (mT (rc (fR 2)))))) (.inl rfl) (Rk (i:=8) rfl rfl) (a7 (jd (c:=0) (aO (i:=5)) (ae (aF (rS (k:= .X) (ux (o3 (rc (fR 8)) (fx pI))))) (ae (aF (rS (k:= .X) (ux (o3 (rc (fR 8)) (fx pI))))) (ae (aF (rS (k:= .X) (ux (kG (rc (fR 2)) (ux (fR 8)))))) az))) ⟨rfl,trivial,trivial,trivial,trivial⟩ (by decide) (by decide))))
 (ar (eI (aW (gH (oF (mT (rc (fR 3)))))) (.inl rfl) (Rk (i:=9) rfl rfl) (a7 (jd (c:=0) (aO (i:=5)) (ae (aF (oF (zt (cS (k':= .F) (rc (fR 9)))))) (ae (aF (rS (k:= .X) (ux (kG (rc (fR 3)) (ux (fR 9)))))) az)) ⟨rfl,trivial,trivial,trivial⟩ (by decide) (by decide))))
 (ar (eI (aW (vt (fR 4))) (.inr rfl) (UW (Rj (i:=6) rfl rfl) (Rj (i:=7) rfl rfl)) (a7 (jd (c:=0) (aO (i:=5)) (ae (aF (rS (k:= .X) (ux (fR 6)))) (ae (aF (rS (k:= .X) (ux (fR 7)))) az)) ⟨rfl,trivial,trivial,trivial⟩ (by decide) (by decide))))
 (bz (pY (i:=5) rfl)))))))⟩
theorem Sd(T:Txt K mg a base):FnOk P w K mg base gi 5 a.f_z9 a.d_z9 ["guild","ways","fond","dear","shy","cell"] (gg (a8 a K) Sz (KR (a8 a K) .F) m_z9):=qb (more:=S7) (body:=Hn) T.F_z9 AV λb=>⟨_,(ac (aP (i:=6) AV.nd rfl (Or.inl rfl) (eQ (pv 0) T.cl_Guild T.me_m9 (qT T) b.mm T.b_m9 .nil ay))
 (ac (aP (i:=7) AV.nd rfl (Or.inl rfl) (aB bw (aB fA (pv 5) ah) (pv 6)))
 (ac (aP (i:=8) AV.nd rfl (Or.inl rfl) (aB bw (aB eE (aB eE (pv 7) ah) (aB bw (aB fA (pv 5) ah) (aH (fY rfl) rfl T.z_max Gd.k7 (aa ah (aa (aB hE (pv 6) ah) ab))))) (pv 6)))
 (af (bA (ax hG (aB bw (pv 5) ah) ah (aL _)) (ac (aK (a9 (pv 0) T.cl_Guild T.me_e9 (GZ T) b.mm T.b_e9 .nil ay (aa (pv 7) (aa (pv 8) (aa ah ab)))))
 (af (fw (di b) (pv 2) (bT (aa (pv 7) (aa (pv 8) ab))) ah rfl))) (af (bA (PW.pt (ju (ax hG (aB bw (pv 5) ah) ah (aL _)) (gC (ax fg (pv 7) (pv 8) (aL _))))) (ac (aK (a9 (pv 0) T.cl_Guild T.me_k9 (GX T) b.mm T.b_k9 .nil ay (aa (pv 7) (aa (pv 8) ab))))
 (af (bA (ax (qO K rfl (Mi.IJ b)) (bT (aa (pv 7) (aa (pv 8) ab))) (pv 4) (by with_unfolding_all rfl)) (af (aK (gb PySem.F.plainAttrs_list PySem.F.slot_list_append PySem.F.type_list_append dL (pv 4) (aa (bT (aa (pv 7) (aa (pv 8) ab))) ab)))) aR))) (af (bA (PW.pt (ju (ax hG (aB bw (pv 5) ah) ah (aL _)) (gC (ax fg (pv 7) (pv 8) (aL _))))) (ac (aK (a9 (pv 0) T.cl_Guild T.me_n9 (GW T) b.mm T.b_n9 .nil ay (aa (cK (aa (aH (fY rfl) rfl T.z_max Gd.k7 (aa (pv 7) (aa (pv 8) ab))) (aa ah ab))) (aa ah ab))))
 (af (fw (di b) (pv 3) (bT (aa (aH (fY rfl) rfl T.z_max Gd.k7 (aa (pv 7) (aa (pv 8) ab))) (aa ah ab))) ah rfl))) (af (bA (PW.pt (ju (ax fg (pv 7) (pv 8) (aL _)) (gC (ax (ve K rfl (Mi.IJ b)) (bT (aa (aH (lA rfl) rfl T.z_min Gd.tm (aa (pv 7) (aa (pv 8) ab))) (aa (aH (fY rfl) rfl T.z_max Gd.k7 (aa (pv 7) (aa (pv 8) ab))) ab))) (pv 1) (by with_unfolding_all rfl))))) (ac (aK (a9 (pv 0) T.cl_Guild T.me_d9 (Sn T) b.mm T.b_d9 .nil ay (aa (pv 7) (aa (pv 8) ab))))
 (af (aK (gb V8 Yq PySem.F.type_list_remove (D2 (Mi.Vx b)) (pv 1) (aa (bT (aa (aH (lA rfl) rfl T.z_min Gd.tm (aa (pv 7) (aa (pv 8) ab))) (aa (aH (fY rfl) rfl T.z_max Gd.k7 (aa (pv 7) (aa (pv 8) ab))) ab))) ab))))) (af (bA (ax fg (pv 7) (pv 8) (aL _)) (ac (aK (a9 (pv 0) T.cl_Guild T.me_c9 (G0 T) b.mm T.b_c9 .nil ay (aa (pv 7) (aa (pv 8) ab))))
 (af (aK (gb V8 WK WL dL (pv 1) (aa (bT (aa (aH (lA rfl) rfl T.z_min Gd.tm (aa (pv 7) (aa (pv 8) ab))) (aa (aH (fY rfl) rfl T.z_max Gd.k7 (aa (pv 7) (aa (pv 8) ab))) ab))) ab))))) aR))))))))))))),(ar (bP (i:=6) (aW (eJ (c:=0) (aX (fO 0)) az rfl)) rfl rfl)
 (ar (bP (i:=7) (aW (av cf (fx (av gY (fx (fF 5)) (fx pI))) (fx (fF 6)))) rfl rfl)
 (ar (bP (i:=8) (aW (av cf (fx (av gs (fx (av gs (fx (fF 7)) (fx pI))) (fx (av cf (fx (av gY (fx (fF 5)) (fx pI))) (fx (hC qF (fx pI) (fx (av kn (fx (fF 6)) (fx pI))))))))) (fx (fF 6)))) rfl rfl)
 (cI (aW (bS (fx (av lV (fx (av cf (fx (fF 5)) (fx pI))) (fx pI))))) (ar (a7 (jd (c:=0) (aO (i:=0)) (ae (aF (fF 7)) (ae (aF (fF 8)) (ae (aF pI) az))) ⟨rfl,trivial,trivial,trivial,trivial⟩ (by decide) (by decide)))
 (gZ (iV (i:=2) rfl) (fx (c8 (ao (fF 7) (ao (fF 8) aM)))) (aW pI))) (cI (aW (jw (bS (fx (av lV (fx (av cf (fx (fF 5)) (fx pI))) (fx pI)))) (bS (fx (av i8 (fx (fF 7)) (fx (fF 8))))))) (ar (a7 (jd (c:=0) (aO (i:=0)) (ae (aF (fF 7)) (ae (aF (fF 8)) az)) ⟨rfl,trivial,trivial,trivial⟩ (by decide) (by decide)))
 (cI (aW (bS (fx (av Fz (fx (c8 (ao (fF 7) (ao (fF 8) aM)))) (cx (fC 4)))))) (a7 (ib (iV (i:=4) rfl) (c8 (ao (fF 7) (ao (fF 8) aM))))) bY)) (cI (aW (jw (bS (fx (av lV (fx (av cf (fx (fF 5)) (fx pI))) (fx pI)))) (bS (fx (av i8 (fx (fF 7)) (fx (fF 8))))))) (ar (a7 (jd (c:=0) (aO (i:=0)) (ae (aF (oF (eC (ao (hC qF (fx (fF 7)) (fx (fF 8))) (ao pI aM))))) (ae (aF pI) az)) ⟨rfl,trivial,trivial,trivial⟩ (by decide) (by decide)))
 (gZ (iV (i:=3) rfl) (fx (c8 (ao (hC qF (fx (fF 7)) (fx (fF 8))) (ao pI aM)))) (aW pI))) (cI (aW (jw (bS (fx (av i8 (fx (fF 7)) (fx (fF 8))))) (bS (fx (av FB (fx (c8 (ao (hC AZ (fx (fF 7)) (fx (fF 8))) (ao (hC qF (fx (fF 7)) (fx (fF 8))) aM)))) (cx (fC 1))))))) (ar (a7 (jd (c:=0) (aO (i:=0)) (ae (aF (fF 7)) (ae (aF (fF 8)) az)) ⟨rfl,trivial,trivial,trivial⟩ (by decide) (by decide)))
 (a7 (HU (iV (i:=1) rfl) (fx (c8 (ao (hC AZ (fx (fF 7)) (fx (fF 8))) (ao (hC qF (fx (fF 7)) (fx (fF 8))) aM))))))) (cI (aW (bS (fx (av i8 (fx (fF 7)) (fx (fF 8)))))) (ar (a7 (jd (c:=0) (aO (i:=0)) (ae (aF (fF 7)) (ae (aF (fF 8)) az)) ⟨rfl,trivial,trivial,trivial⟩ (by decide) (by decide)))
 (a7 (ib (iV (i:=1) rfl) (c8 (ao (hC AZ (fx (fF 7)) (fx (fF 8))) (ao (hC qF (fx (fF 7)) (fx (fF 8))) aM)))))) bY))))))))⟩
theorem Ev:CompSc (am A7) { kind:=.function,names:=[(".0",.local),("line",.local)],isGenerator:=false,isCoroutine:=false,more:=[]:PySem.Scope } "line" []:=by ac_rfl
theorem G1(T:Txt K mg a base):FnOk P w K mg base gi 5 a.f_bm9 a.d_bm9 ["guild"] (gg (a8 a K) OZ (KR (a8 a K) .F) m_bm9):=qb (more:=Pg) (body:=zG) T.F_bm9 zh λb=>⟨_,(ac (aP (i:=1) zh.nd rfl (Or.inl rfl) (eQ (pv 0) T.cl_Guild T.me_m9 (qT T) b.mm T.b_m9 .nil ay))
 (ac (aP (i:=2) zh.nd rfl (Or.inl rfl) (cK (aa (wY (cj bG (cj (lK (pv 1)) ro))) ab)))
 (ac (aK (gb V8 WM WN gS (pv 2) (aa (aE (Ox T) b.mm rfl T.m_bp9 T.F_bp9.kp T.b_bp9 .nil ay (aa (pv 0) ab)) ab)))
 (ac (aK (gb V8 WM WN gS (pv 2) (aa (aE (OD T) b.mm rfl T.m_bh9 T.F_bh9.kp T.b_bh9 .nil ay (aa (pv 0) ab)) ab)))
 (ac (aK (gb V8 WM WN gS (pv 2) (aa (aE (Oz T) b.mm rfl T.m_bn9 T.F_bn9.kp T.b_bn9 .nil ay (aa (pv 0) ab)) ab)))
 (ac (aK (gb V8 WM WN gS (pv 2) (aa (aE (Ov T) b.mm rfl T.m_bq9 T.F_bq9.kp T.b_bq9 .nil ay (aa (pv 0) ab)) ab)))
 (af (aT (kF (K:=K) rfl Ww Xo Xp (mX (K:=K) rfl) bG (aa (eV rfl (bB K rfl (pv 2)) Ev (ix:=[]) rfl (λ_ _ _ _=>gE) (λ_ _ _ _=>(aB qS (pv 0) bG))) ab)))))))))),(ar (bP (i:=1) (aW (eJ (c:=0) (aU (fR 0)) az rfl)) rfl rfl)
 (ar (cH (i:=2) (aW (eC (ao (GO (Kz (tJ (fx (fF 1)) xB))) aM))) rfl rfl)
 (ar (a7 (je (iV (i:=2) rfl) (oF (fc (ae (aU (fR 0)) az) rfl))))
 (ar (a7 (je (iV (i:=2) rfl) (oF (fc (ae (aU (fR 0)) az) rfl))))
 (ar (a7 (je (iV (i:=2) rfl) (oF (fc (ae (aU (fR 0)) az) rfl))))
 (ar (a7 (je (iV (i:=2) rfl) (oF (fc (ae (aU (fR 0)) az) rfl))))
 (bz (aW (vc (fx pS) (fx (oF (cE (ix:=[]) (ii (fC 2)) (by decide) jv (av FL (fx (fF 0)) (fx pS))))))))))))))⟩
theorem Et:CompSc (am wN) (Gd.iK (Gd.oX (Gd.nth (dg wN) 1))) "word" []:=by ac_rfl
theorem Oy(T:Txt K mg a base):FnOk P w K mg base gi 5 a.f_bo9 a.d_bo9 ["guild","words"] (gg (a8 a K) OX (KR (a8 a K) .F) m_bo9):=qb (more:=Pe) (body:=zE) T.F_bo9 zf λb=>⟨_,(ac (aP (i:=2) zf.nd rfl (Or.inl rfl) (dY (cT K rfl) (pv 1) ah (λ_ _=>rfl)))
 (ac (lW (i:=3) rfl zf.nd rfl (.inl rfl) (bB K rfl (kE (qA K rfl) (pv 1) (mQ ah) mR)) Et (ix:=[]) rfl (λ_ _ _ _=>gE) (λ_ _ _ _=>(aE (G3 T) b.mm rfl T.m_bi9 T.F_bi9.kp T.b_bi9 .nil ay (aa (pv 0) ab))))
 (af (bA (PW.pt (ju (ax hG (pv 2) bG (aL _)) (gC (ax hG (aH (bp K rfl) rfl T.z_len Gd.d7 (aa (pv 3) ab)) ah (aL _))))) (af (aK (a9 (pv 0) T.cl_Guild T.me_c9 (G0 T) b.mm T.b_c9 .nil ay (aa (dY (cT K rfl) (pv 3) ah (λ_ _=>rfl)) (aa (dY (cT K rfl) (pv 3) ah (λ_ _=>rfl)) ab))))) (af (bA (PW.pt (ju (ax hG (pv 2) bG (aL _)) (gC (ax hG (aH (bp K rfl) rfl T.z_len Gd.d7 (aa (pv 3) ab)) ah (aL _))))) (af (aK (a9 (pv 0) T.cl_Guild T.me_e9 (GZ T) b.mm T.b_e9 .nil ay (aa (dY (cT K rfl) (pv 3) ah (λ_ _=>rfl)) (aa (dY (cT K rfl) (pv 3) ah (λ_ _=>rfl)) (aa (dY (cT K rfl) (pv 3) ah (λ_ _=>rfl)) ab)))))) (af (bA (PW.pt (ju (ax hG (pv 2) bG (aL _)) (gC (ax hG (aH (bp K rfl) rfl T.z_len Gd.d7 (aa (pv 3) ab)) ah (aL _))))) (af (aK (a9 (pv 0) T.cl_Guild T.me_k9 (GX T) b.mm T.b_k9 .nil ay (aa (dY (cT K rfl) (pv 3) ah (λ_ _=>rfl)) (aa (dY (cT K rfl) (pv 3) ah (λ_ _=>rfl)) ab))))) (af (bA (PW.pt (ju (ax hG (pv 2) bG (aL _)) (gC (ax qQ (aH (bp K rfl) rfl T.z_len Gd.d7 (aa (pv 3) ab)) ah (aL _))))) (af (aK (a9 (pv 0) T.cl_Guild T.me_n9 (GW T) b.mm T.b_n9 .nil ay (aa (kE (qA K rfl) (pv 3) (mQ ah) mR) (aa (dY (cT K rfl) (pv 3) ah (λ_ _=>rfl)) ab))))) (af cO))))))))))),(ar (bP (i:=2) (aW (iH (rc (fF 1)) (fx pI))) rfl rfl)
 (ar (bP (i:=3) (aW (oF (cE (ix:=[]) (ii (oc (zu (rc (fF 1)) (fx pI)))) (by decide) jv (cw (ae (aF (fF 0)) az) rfl)))) rfl rfl)
 (cI (aW (jw (bS (fx (av lV (fx (fF 2)) (fx pS)))) (bS (fx (av lV (fx (fy i9 (fx (fF 3)))) (fx pI)))))) (a7 (jd (c:=0) (aO (i:=0)) (ae (aF (iH (rc (fF 3)) (fx pI))) (ae (aF (iH (rc (fF 3)) (fx pI))) az)) ⟨rfl,trivial,trivial,trivial⟩ (by decide) (by decide))) (cI (aW (jw (bS (fx (av lV (fx (fF 2)) (fx pS)))) (bS (fx (av lV (fx (fy i9 (fx (fF 3)))) (fx pI)))))) (a7 (jd (c:=0) (aO (i:=0)) (ae (aF (iH (rc (fF 3)) (fx pI))) (ae (aF (iH (rc (fF 3)) (fx pI))) (ae (aF (iH (rc (fF 3)) (fx pI))) az))) ⟨rfl,trivial,trivial,trivial,trivial⟩ (by decide) (by decide))) (cI (aW (jw (bS (fx (av lV (fx (fF 2)) (fx pS)))) (bS (fx (av lV (fx (fy i9 (fx (fF 3)))) (fx pI)))))) (a7 (jd (c:=0) (aO (i:=0)) (ae (aF (iH (rc (fF 3)) (fx pI))) (ae (aF (iH (rc (fF 3)) (fx pI))) az)) ⟨rfl,trivial,trivial,trivial⟩ (by decide) (by decide))) (cI (aW (jw (bS (fx (av lV (fx (fF 2)) (fx pS)))) (bS (fx (av zj (fx (fy i9 (fx (fF 3)))) (fx pI)))))) (a7 (jd (c:=0) (aO (i:=0)) (ae (aF (oF (zu (rc (fF 3)) (fx pI)))) (ae (aF (iH (rc (fF 3)) (fx pI))) az)) ⟨rfl,trivial,trivial,trivial⟩ (by decide) (by decide))) dP))))))⟩
theorem OC(T:Txt K mg a base):FnOk P w K mg base gi 6 a.f_bj9 a.d_bj9 ["text"] (gg (a8 a K) O2 (KO (a8 a K) (.ob cB)) m_bj9):=jy (more:=Pj) (body:=zJ) T.F_bj9 uZ λb=>⟨_,(ac (aP (i:=1) uZ.nd rfl (Or.inl rfl) (aE (OA T) b.mm rfl T.m_bl9 T.F_bl9.kp T.b_bl9 .nil ay (aa (pv 0) ab)))
 (ac (Gy rfl (ac (aP (i:=2) uZ.nd rfl (Or.inl rfl) (aE (Sl T) b.mm rfl T.m_p9 T.F_p9.kp T.b_p9 .nil ay (aa (dY (cT K rfl) (pv 1) ah (λ_ _=>rfl)) ab)))
 (af (cW Wa rfl (bB K rfl (kE (qA K rfl) (pv 1) (mQ ah) mR)) (bo (i:=3) uZ.nd rfl (Or.inl rfl)) (af (aK (aE (Oy T) b.mm rfl T.m_bo9 T.F_bo9.kp T.b_bo9 .nil ay (aa (pv 2) (aa (pv 3) ab)))))))))
 (af (aT (pv 2))))),(ar (bP (i:=1) (aW (oF (fc (ae (aF (fF 0)) az) rfl))) rfl rfl)
 (ar (ar (cH (i:=2) (aW (fc (ae (aF (iH (rc (fF 1)) (fx pI))) az) rfl)) rfl rfl)
 (eI (aW (gH (oF (zu (rc (fF 1)) (fx pI))))) (.inl rfl) (uP (i:=3) rfl rfl) (a7 (MU (ae (aO (i:=2)) (ae (aF (fF 3)) az)) ⟨rfl,trivial,trivial⟩ (by decide) (by decide)))))
 (bz (pY (i:=2) rfl))))⟩
theorem G4(T:Txt K mg a base):FnOk P w K mg base gi 7 a.f_bg9 a.d_bg9 ["guild","size","ways","fond","dear","shy"] (gg (a8 a K) O5 (KR (a8 a K) .F) m_bg9):=qb (more:=Pm) (body:=zM) T.F_bg9 u0 λb=>⟨_,(ac (aP (i:=6) u0.nd rfl (Or.inl rfl) (aE (G1 T) b.mm rfl T.m_bm9 T.F_bm9.kp T.b_bm9 .nil ay (aa (pv 0) ab)))
 (ac (aP (i:=7) u0.nd rfl (Or.inl rfl) (kF (K:=K) rfl Ww Xo Xp (mX (K:=K) rfl) bG (aa (aB qR (cK (aa (aE (xg T) b.mm rfl T.m_w9 T.F_w9.kp T.b_w9 .nil ay (aa (cK (aa bG (aa (pv 1) ab))) ab)) ab)) (aE (Sf T) b.mm rfl T.m_x9 T.F_x9.kp T.b_x9 .nil ay (aa (pv 2) (aa (pv 3) (aa (pv 4) (aa (pv 5) ab)))))) ab)))
 (ac (bA (PW.pt (kx (iW (gj (aH (lB K rfl) rfl T.z_isinstance Gd.f9 (aa (pv 6) (aa (p9 rfl T.z_str Gd.AC (v:= .ty "str") rfl) ab))))) (iU (ax fg (pv 6) (pv 7) (aL _))))) (af (aT g9)) aR)
 (ac (aP (i:=8) u0.nd rfl (Or.inl rfl) (aE (OC T) b.mm rfl T.m_bj9 T.F_bj9.kp T.b_bj9 .nil ay (aa (pv 6) ab)))
 (ac (bA (PW.pt (kx (ax fg (aE (G1 T) b.mm rfl T.m_bm9 T.F_bm9.kp T.b_bm9 .nil ay (aa (pv 8) ab)) (pv 7) (aL _)) (iU (iW (gj (aE (G6 T) b.mm rfl T.m_ba9 T.F_ba9.kp T.b_ba9 .nil ay (aa (pv 8) (aa (pv 1) (aa (pv 2) (aa (pv 3) (aa (pv 4) (aa (pv 5) ab)))))))))))) (af (aT g9)) aR)
 (af (aT (aE (G6 T) b.mm rfl T.m_ba9 T.F_ba9.kp T.b_ba9 .nil ay (aa (pv 0) (aa (pv 1) (aa (pv 2) (aa (pv 3) (aa (pv 4) (aa (pv 5) ab)))))))))))))),(ar (bP (i:=6) (aW (cw (ae (aU (fR 0)) az) rfl)) rfl rfl)
 (ar (bP (i:=7) (aW (vc (fx pS) (fx (oF (xf (oc (eC (ao (cw (ae (aF (oF (eC (ao pS (ao (fF 1) aM))))) az) rfl) aM))) (oc (fc (ae (aU (fR 2)) (ae (aU (fR 3)) (ae (aU (fR 4)) (ae (aU (fR 5)) az)))) rfl))))))) rfl rfl)
 (ar (cI (aW (ky (f6 (lC (fx (hC A0 (fx (fF 6)) (fx pT))))) (bS (fx (av i8 (fx (fF 6)) (fx (fF 7))))))) (bz (aW pB)) bY)
 (ar (cH (i:=8) (aW (fc (ae (aF (fF 6)) az) rfl)) rfl rfl)
 (ar (cI (aW (ky (bS (fx (av i8 (fx (cw (ae (aX (fO 8)) az) rfl)) (fx (fF 7))))) (f6 (lC (fx (cw (ae (aX (fO 8)) (ae (aF (fF 1)) (ae (aU (fR 2)) (ae (aU (fR 3)) (ae (aU (fR 4)) (ae (aU (fR 5)) az)))))) rfl)))))) (bz (aW pB)) bY)
 (bz (aW (cw (ae (aU (fR 0)) (ae (aF (fF 1)) (ae (aU (fR 2)) (ae (aU (fR 3)) (ae (aU (fR 4)) (ae (aU (fR 5)) az)))))) rfl))))))))⟩
theorem Jk:CompSc (am Fx) (Gd.iK (Gd.oX (Gd.nth (Gd.Nl (Gd.nth (dg Fx) 3)) 1))) "k" ["script"]:=by ac_rfl
theorem Sk(T:Txt K mg a base):FnOk P w K mg base gi 8 a.f_q9 a.d_q9 ["script"] (gg (a8 a K) SK (KR (a8 a K) .F) m_q9):=qb (more:=Tg) (body:=Hw) T.F_q9 lJ λb=>⟨_,(ac (aP (i:=1) lJ.nd rfl (Or.inl rfl) (aE (j5 T) b.mm rfl T.m_r9 T.F_r9.kp T.b_r9 .nil ay (aa (pv 0) (aa ah ab))))
 (ac (aP (i:=2) lJ.nd rfl (Or.inl rfl) (aB eE ah (aB bw (pv 1) ah)))
 (ac (aP (i:=3) lJ.nd rfl (Or.inl rfl) (aE (OE T) b.mm rfl T.m_be9 T.F_be9.kp T.b_be9 .nil ay (aa (aE (j5 T) b.mm rfl T.m_r9 T.F_r9.kp T.b_r9 .nil ay (aa (pv 0) (aa ah ab))) (aa (pv 2) ab))))
 (ac (bA (ax hG (aB bw (aB fA (pv 1) ah) ah) ah (aL _)) (ac (aP (i:=2) lJ.nd rfl (Or.inl rfl) ah)
 (af (lW (i:=3) rfl lJ.nd rfl (.inl rfl) (cA rfl T.z_range (aa ah ab)) Jk (ix:=[0]) rfl (λ_ _ _ _=>lu (ax qQ (aB bw (aB eE (aB lX (pv 0) ah) (aE (j5 T) b.mm rfl T.m_r9 T.F_r9.kp T.b_r9 .nil ay (aa (pv 1) (aa ah ab)))) ah) ah (aL _))) (λ_ _ _ _=>(bT (aa (pv 0) (aa (aB hE ah (pv 0)) ab))))))) aR)
 (ac (aP (i:=4) lJ.nd rfl (Or.inl rfl) (aE (Si T) b.mm rfl T.m_t9 T.F_t9.kp T.b_t9 .nil ay (aa (aE (j5 T) b.mm rfl T.m_r9 T.F_r9.kp T.b_r9 .nil ay (aa (pv 0) (aa ah ab))) (aa (pv 2) ab))))
 (ac (aP (i:=5) lJ.nd rfl (Or.inl rfl) (aE (Sj T) b.mm rfl T.m_s9 T.F_s9.kp T.b_s9 .nil ay (aa (aE (j5 T) b.mm rfl T.m_r9 T.F_r9.kp T.b_r9 .nil ay (aa (pv 0) (aa ah ab))) (aa (pv 2) ab))))
 (ac (aP (i:=6) lJ.nd rfl (Or.inl rfl) (aE (OG T) b.mm rfl T.m_bc9 T.F_bc9.kp T.b_bc9 .nil ay (aa (aE (j5 T) b.mm rfl T.m_r9 T.F_r9.kp T.b_r9 .nil ay (aa (pv 0) (aa ah ab))) (aa (pv 2) ab))))
 (ac (fw (di b) (pv 4) (bT (aa (aB bw (aE (j5 T) b.mm rfl T.m_r9 T.F_r9.kp T.b_r9 .nil ay (aa (pv 0) (aa ah ab))) (pv 2)) (aa (aB bw (aE (j5 T) b.mm rfl T.m_r9 T.F_r9.kp T.b_r9 .nil ay (aa (pv 0) (aa ah ab))) (pv 2)) ab))) (aE (ML T) b.mm rfl T.m_u9 T.F_u9.kp T.b_u9 .nil ay (aa (aE (j5 T) b.mm rfl T.m_r9 T.F_r9.kp T.b_r9 .nil ay (aa (pv 0) (aa ah ab))) ab)) rfl)
 (ac (bA (ax qQ (pv 2) ah (aL _)) (af (fw (di b) (pv 5) (bT (aa (aB eE ah (aB bw (aE (j5 T) b.mm rfl T.m_r9 T.F_r9.kp T.b_r9 .nil ay (aa (pv 0) (aa ah ab))) (aB hE (pv 2) ah))) (aa ah ab))) (aE (ML T) b.mm rfl T.m_u9 T.F_u9.kp T.b_u9 .nil ay (aa (aE (j5 T) b.mm rfl T.m_r9 T.F_r9.kp T.b_r9 .nil ay (aa (pv 0) (aa ah ab))) ab)) rfl)) aR)
 (ac (aP (i:=7) lJ.nd rfl (Or.inl rfl) (aE (Sg T) b.mm rfl T.m_v9 T.F_v9.kp T.b_v9 .nil ay (aa (pv 2) (aa (pv 3) (aa (pv 4) (aa (pv 5) (aa (pv 6) ab)))))))
 (ac (bA (iW (gj (aE (G4 T) b.mm rfl T.m_bg9 T.F_bg9.kp T.b_bg9 .nil ay (aa (pv 7) (aa (pv 2) (aa (pv 3) (aa (pv 4) (aa (pv 5) (aa (pv 6) ab))))))))) (af (aT g9)) aR)
 (ac (aK (aE (Sd T) b.mm rfl T.m_z9 T.F_z9.kp T.b_z9 .nil ay (aa (pv 7) (aa (pv 3) (aa (pv 4) (aa (pv 5) (aa (pv 6) (aa (aE (j5 T) b.mm rfl T.m_r9 T.F_r9.kp T.b_r9 .nil ay (aa (pv 0) (aa ah ab))) ab))))))))
 (af (aT (aE (G4 T) b.mm rfl T.m_bg9 T.F_bg9.kp T.b_bg9 .nil ay (aa (pv 7) (aa (pv 2) (aa (pv 3) (aa (pv 4) (aa (pv 5) (aa (pv 6) ab))))))))))))))))))))),(ar (bP (i:=1) (aW (cw (ae (aU (fR 0)) (ae (aF pI) az)) rfl)) rfl rfl)
 (ar (bP (i:=2) (aW (av gs (fx pI) (fx (av cf (fx (fF 1)) (fx pI))))) rfl rfl)
 (ar (cH (i:=3) (aW (fc (ae (aF (cw (ae (aU (fR 0)) (ae (aF pI) az)) rfl)) (ae (aF (fF 2)) az)) rfl)) rfl rfl)
 (ar (cI (aW (bS (fx (av lV (fx (av cf (fx (av gY (fx (fF 1)) (fx pI))) (fx pI))) (fx pI))))) (ar (bP (i:=2) (aW pI) rfl rfl)
 (cH (i:=3) (aW (cE (ix:=[0]) (oz (fx pI)) (by decide) (bS (fx (av zj (fx (av cf (fx (av gs (fx (av qE (fx (fF 0)) (fx pI))) (fx (cw (ae (aU (fR 1)) (ae (aF pI) az)) rfl)))) (fx pI))) (fx pI)))) (c8 (ao (fF 0) (ao (av kn (fx pI) (fx (fF 0))) aM))))) rfl rfl)) bY)
 (ar (cH (i:=4) (aW (fc (ae (aF (cw (ae (aU (fR 0)) (ae (aF pI) az)) rfl)) (ae (aF (fF 2)) az)) rfl)) rfl rfl)
 (ar (cH (i:=5) (aW (fc (ae (aF (cw (ae (aU (fR 0)) (ae (aF pI) az)) rfl)) (ae (aF (fF 2)) az)) rfl)) rfl rfl)
 (ar (cH (i:=6) (aW (fc (ae (aF (cw (ae (aU (fR 0)) (ae (aF pI) az)) rfl)) (ae (aF (fF 2)) az)) rfl)) rfl rfl)
 (ar (gZ (iV (i:=4) rfl) (fx (c8 (ao (av cf (fx (cw (ae (aU (fR 0)) (ae (aF pI) az)) rfl)) (fx (fF 2))) (ao (av cf (fx (cw (ae (aU (fR 0)) (ae (aF pI) az)) rfl)) (fx (fF 2))) aM)))) (aW (cw (ae (aF (cw (ae (aU (fR 0)) (ae (aF pI) az)) rfl)) az) rfl)))
 (ar (cI (aW (bS (fx (av zj (fx (fF 2)) (fx pI))))) (gZ (iV (i:=5) rfl) (fx (c8 (ao (av gs (fx pI) (fx (av cf (fx (cw (ae (aU (fR 0)) (ae (aF pI) az)) rfl)) (fx (av kn (fx (fF 2)) (fx pI)))))) (ao pI aM)))) (aW (cw (ae (aF (cw (ae (aU (fR 0)) (ae (aF pI) az)) rfl)) az) rfl))) bY)
 (ar (cH (i:=7) (aW (fc (ae (aF (fF 2)) (ae (aX (cx (fC 3))) (ae (aX (cx (fC 4))) (ae (aX (cx (fC 5))) (ae (aX (cx (fC 6))) az))))) rfl)) rfl rfl)
 (ar (cI (aW (f6 (lC (fx (cw (ae (aX (fO 7)) (ae (aF (fF 2)) (ae (aX (cx (fC 3))) (ae (aX (cx (fC 4))) (ae (aX (cx (fC 5))) (ae (aX (cx (fC 6))) az)))))) rfl))))) (bz (aW pB)) bY)
 (ar (a7 (MU (ae (aO (i:=7)) (ae (aO (i:=3)) (ae (aO (i:=4)) (ae (aO (i:=5)) (ae (aO (i:=6)) (ae (aF (cw (ae (aU (fR 0)) (ae (aF pI) az)) rfl)) az)))))) ⟨rfl,rfl,rfl,rfl,rfl,trivial,trivial⟩ (by decide) (by decide)))
 (bz (aW (cw (ae (aX (fO 7)) (ae (aF (fF 2)) (ae (aX (cx (fC 3))) (ae (aX (cx (fC 4))) (ae (aX (cx (fC 5))) (ae (aX (cx (fC 6))) az)))))) rfl)))))))))))))))⟩
end K08
namespace K08
open PySem L2 Mi Cl
noncomputable section
structure GΩ where
 hω:Int
 U:(DI Bool)
 lω:(DI Int)
 sω:(DI Bool)
 wω:(DI Int)
def aG:GΩ->D:=λg=> .obj 0 ["house_count","ways","likings","shuns","wish_ranks"] [D.int g.hω,(bL D.bl) g.U,(bL D.int) g.lω,(bL D.bl) g.sω,(bL D.int) g.wω]
theorem dZ(g:GΩ):SimR D.int (gJ 0 "house_count" (aG g)) (.ok g.hω):=rfl
theorem iX(g:GΩ):SimR (bL D.bl) (gJ 0 "ways" (aG g)) (.ok g.U):=rfl
theorem n8(g:GΩ):SimR (bL D.int) (gJ 0 "likings" (aG g)) (.ok g.lω):=rfl
theorem qU(g:GΩ):SimR (bL D.bl) (gJ 0 "shuns" (aG g)) (.ok g.sω):=rfl
theorem o6(g:GΩ):SimR (bL D.int) (gJ 0 "wish_ranks" (aG g)) (.ok g.wω):=rfl
def mk_Guild(size:Int):Res GΩ:=if 1<=size/\size<=60 then .ok ⟨size,[],[],[],[]⟩ else .bad
theorem lN(size:Int):SimR aG (o8 0 D6 [.int size]) (mk_Guild size):=by
 unfold mk_Guild;by_cases h:1<=size/\size<=60
 · rw[on h];have b:¬ size<1:=by omega
   have a:¬ 60<size:=by omega
   show o8 0 D6 [.int size]=_;unfold o8 D6 Mi.run;rw[HP];simp[aD,gG,aQ,zv,db,bn,aI,rg,KE,b,a,bK,ng,BC,fD,p8,cr];rfl
 ·rw[VM h]; trivial
structure S_b9 where
 vtq:GΩ
 vmq:(DI Bool)
 v0q:Int
def Gk:S_b9->Mi.Env:=λs=>[some (aG s.vtq),some ((bL D.bl) s.vmq),some (D.int s.v0q)]
abbrev UP:=S_b9->FlC S_b9 (List Int)
def C9:UP:=bZ (aY (cp (aZ (fq 0) (aZ (λg=> .ok g.hω) (pC (·.vtq)))) (aC (El false) (aZ fN (kz (pC λp=>p.2.v0q) (pC λp=>p.1))) (pC λp=>p.2.vmq)) (pC λp=>p.1)))
def J7:UP:=C9
def Ky(b:GΩ)(a:DI Bool)(c:Int):OutC S_b9 (List Int):=cC none (J7 ⟨b,a,c⟩)
theorem Uw:Cl.TJ Gk (eL D.int) HN J7:=aS (aj (dH (d9 (bj dZ xp)) (aw (ag (BM false) (bO dh (br xp xp)) xp)) xp))
theorem Nb(b:GΩ)(a:DI Bool)(c:Int):SimO Gk (eL D.int) (LA [aG b,(bL D.bl) a,D.int c]) (Ky b a c):=dE Uw rfl
structure S_m9 where
 vtq:GΩ
def F8:S_m9->Mi.Env:=λs=>[some (aG s.vtq)]
abbrev UN:=S_m9->FlC S_m9 Int
def CH:UN:=bZ (aY (aZ (λg=> .ok g.hω) (pC (·.vtq))))
def JR:UN:=CH
def oV(a:GΩ):OutC S_m9 Int:=cC none (JR ⟨a⟩)
theorem Uk:Cl.TJ F8 D.int HB JR:=aS (aj (dF (λ_=>rfl) (bj dZ xp)))
theorem s8(a:GΩ):SimO F8 D.int (vi [aG a]) (oV a):=gm Uk rfl
structure S_o9 where
 vtq:GΩ
def F6:S_o9->Mi.Env:=λs=>[some (aG s.vtq)]
abbrev UM:=S_o9->FlC S_o9 (List ((List Int)×Int))
def CD:UM:=bZ (aY (cp (aZ zb (aZ (λg=> .ok g.wω) (pC (·.vtq)))) (λ_=> .ok true) (kz (aZ E1 (pC λp=>p.1)) (aC Ce (aZ (λg=> .ok g.wω) (pC λp=>p.2.vtq)) (pC λp=>p.1)))))
def JP:UM:=CD
def EO(a:GΩ):OutC S_o9 (List ((List Int)×Int)):=cC none (JP ⟨a⟩)
theorem Ui:Cl.TJ F6 (eL (j8 (eL D.int) D.int)) Hz JP:=aS (aj (dH (bV (bj Ll (bj o6 xp))) jE (br (bj vf xp) (dF (λ_=>rfl) (ag kK (bj o6 xp) xp)))))
theorem Jv(a:GΩ):SimO F6 (eL (j8 (eL D.int) D.int)) (HV [aG a]) (EO a):=dE Ui rfl
structure S_r9 where
 vrq:(List Int)
 vfq:Int
def FY:S_r9->Mi.Env:=λs=>[some (eS s.vrq),some (D.int s.vfq)]
abbrev Me:=S_r9->FlC S_r9 Int
def pH:Me:=bZ (aY (aC ox (pC (·.vrq)) (pC (·.vfq))))
def CA:Me:=gv (aY (aC LB (pC (·.vfq)) (aZ lE (pC (·.vrq)))))
 pH
 bW
def Cz:Me:=bZ (aY (kC (0:Int)))
def JM:Me:=aA CA
 Cz
def kg(a:List Int)(b:Int):OutC S_r9 Int:=cC none (JM ⟨a,b⟩)
theorem Uf:Cl.TJ FY D.int Hv JM:=ai (bE (aj (aw (ag zx xp (bj OM xp))))
 (aS (aj (dF (λ_=>rfl) (ag Su xp xp))))
 aV)
 (aS (aj xk))
theorem ka(a:List Int)(b:Int):SimO FY D.int (m_r9 [eS a,D.int b]) (kg a b):=gm Uf rfl
structure S_t9 where
 v3q:Int
 vvq:Int
 vaq:Option (DI Int)
 vfq:Option Int
def FW:S_t9->Mi.Env:=λs=>[some (D.int s.v3q),some (D.int s.vvq),s.vaq.map (bL D.int),s.vfq.map D.int]
abbrev AG:=S_t9->FlC S_t9 (DI Int)
def Cv:AG:=bJ (λa s=>{s with vaq:=some a}) (aY (kC ([]:DI Int)))
def uA:AG:=bJ (λa s=>{s with v3q:=a}) (aY (aC c9 (aC iA (aC og (pC (·.v3q)) (kC (48271:Int))) (kC (11:Int))) (kC (2147483647:Int))))
def uz:AG:=j9 (λs=>s.vaq) (λs y=>{s with vaq:=some y}) (aZ fN (kz (aC c9 (pC (·.v3q)) (pC (·.vvq))) (aC c9 (aC iP (pC (·.v3q)) (kC (7:Int))) (pC (·.vvq))))) (aY (aC lR (aC c9 (aC iP (pC (·.v3q)) (kC (49:Int))) (kC (7:Int))) (kC (3:Int))))
def wn:AG:=aA uA
 uz
def Cu:AG:=ci (aZ (fq 0) (aC c9 (pC (·.v3q)) (kC (5:Int)))) (λa s=>{s with vfq:=some a})
 wn
def Ct:AG:=bZ (BP (λs=>s.vaq) (λs=>{s with vaq:=none}))
def JL:AG:=aA Cv
 (aA Cu
 Ct)
def Mj(b:Int)(a:Int):OutC S_t9 (DI Int):=cC none (JL ⟨b,a,none,none⟩)
theorem Ud:Cl.TJ FW (bL D.int) Ht JL:=ai (xs (aj (vF rfl)))
 (ai (b7 (d9 (ag cg xp xk)) (λ_ _=>rfl)
 (ai (xs (aj (ag cg (ag gt (ag qV xp xk) xk) xk)))
 (fo (λ_=>rfl) (λ_ _=>rfl) (bO dh (br (ag cg xp xp) (ag cg (ag hV xp xk) xp))) (aj (ag kH (ag cg (ag hV xp xk) xk) xk)))))
 (aS (j6 (λ_=>rfl) (λ_=>rfl))))
theorem UD(b:Int)(a:Int):SimO FW (bL D.int) (m_t9 [D.int b,D.int a]) (Mj b a):=dE Ud rfl
structure S_u9 where
 v3q:Int
def FV:S_u9->Mi.Env:=λs=>[some (D.int s.v3q)]
abbrev UL:=S_u9->FlC S_u9 Int
def vX:UL:=bZ (aY (aC iA (aC lR (aC c9 (pC (·.v3q)) (aC lR (aC og (kC (2:Int)) (aC GA (kC (10:Int)) (kC (60:Int)))) (kC (1:Int)))) (aC GA (kC (10:Int)) (kC (60:Int)))) (kC (1:Int))))
def Db:UL:=vX
def Kw(a:Int):OutC S_u9 Int:=cC none (Db ⟨a⟩)
theorem Ub:Cl.TJ FV D.int BR Db:=by
 unfold BR Db vX;exact(aS (aj (ag gt (ag kH (ag cg xp (ag kH (ag qV xk (ag MQ xk xk)) xk)) (ag MQ xk xk)) xk)))
theorem M8(a:Int):SimO FV D.int (m_u9 [D.int a]) (Kw a):=gm Ub rfl
structure S_w9 where
 vzq:(List D)
def FT:S_w9->Mi.Env:=λs=>[some ((eL eA) s.vzq)]
abbrev UK:=S_w9->FlC S_w9 Str
def Ck:UK:=bZ (aY (aC pQ (aC mZ (kC (" " : Str)) (cp (pC (·.vzq)) (λ_=> .ok true) (aZ qt (pC λp=>p.1)))) (kC ("\n" : Str))))
def JJ:UK:=Ck
def lG(a:List D):OutC S_w9 Str:=cC none (JJ ⟨a⟩)
theorem T9:Cl.TJ FT D.str Hr JJ:=aS (aj (ag Hb (kT vg xk (dH (bV xp) jE (bj Lj xp))) xk))
theorem yD(a:List D):SimO FT D.str (m_w9 [(eL eA) a]) (lG a):=gm T9 rfl
structure S_y9 where
 v3q:Int
 vdq:Int
 vvq:Int
 voq:Option (List Int)
 vpq:Option (List Int)
 vjq:Option Int
def zm:S_y9->Mi.Env:=λs=>[some (D.int s.v3q),some (D.int s.vdq),some (D.int s.vvq),s.voq.map (eL D.int),s.vpq.map (eL D.int),s.vjq.map D.int]
abbrev oU:=S_y9->FlC S_y9 (List Int)
def vS:oU:=bJ (λa s=>{s with voq:=some a}) (aY (cp (aC fq (kC (1:Int)) (pC (·.vvq))) (aC (i3 true) (pC λp=>p.1) (pC λp=>p.2.vdq)) (pC λp=>p.1)))
def vR:oU:=bJ (λa s=>{s with vpq:=some a}) (aY (lZ (bx (pC (·.vdq)) (fj:_->Res (List Int)))))
def vQ:oU:=bJ (λa s=>{s with vjq:=some a}) (aY (aC c9 (pC (·.v3q)) (kC (4:Int))))
def pE:oU:=bJ (λa s=>{s with vjq:=some a}) (aY (pC (·.vvq)))
def vP:oU:=gv (aY (aC (i3 false) (aC c9 (aC iP (pC (·.v3q)) (kC (4:Int))) (kC (8:Int))) (kC (3:Int))))
 pE
 bW
def vO:oU:=bJ (λa s=>{s with v3q:=a}) (aY (aC iP (pC (·.v3q)) (kC (4:Int))))
def uy:oU:=bf (QQ (λs=>s.vpq) (λs y=>{s with vpq:=some y}) (pZ (λs=>s.voq) (λs y=>{s with voq:=some y}) GC (aC c9 (pC (·.v3q)) (aZ lE (vC (·.voq))))))
def uw:oU:=bJ (λa s=>{s with v3q:=a}) (aY (aC iP (pC (·.v3q)) (kC (5:Int))))
def uv:oU:=bJ (λa s=>{s with vjq:=some a}) (aY (aC lR (vC (·.vjq)) (kC (1:Int))))
def wm:oU:=aA uy
 (aA uw
 uv)
def Cj:oU:=Ng (aY (oT (aC IM (vC (·.vjq)) (kC (0:Int))) (aC IM (aZ lE (vC (·.voq))) (kC (0:Int)))))
 wm 100000
def Ci:oU:=bZ (aY (aC jV (vC (·.vpq)) (lZ (bx (kC (0:Int)) (fj:_->Res (List Int))))))
def JH:oU:=aA vS
 (aA vR
 (aA vQ
 (aA vP
 (aA vO
 (aA Cj
 Ci)))))
def Mg(c:Int)(a:Int)(b:Int):OutC S_y9 (List Int):=cC none (JH ⟨c,a,b,none,none,none⟩)
theorem T7:Cl.TJ zm (eL D.int) Ho JH:=ai (xs (aj (dH (Aa xk xp) (aw (ag (dt true) xp xp)) xp)))
 (ai (xs (aj (cM (bb xp cL))))
 (ai (xs (aj (ag cg xp xk)))
 (ai (bE (aj (aw (ag (dt false) (ag cg (ag hV xp xk) xk) xk)))
 (xs (aj xp))
 aV)
 (ai (xs (aj (ag hV xp xk)))
 (ai (E7 (Y:=zm) (aj (gK (aw (ag DX xv xk)) (aw (ag DX (bj gk xv) xk))))
 (ai (aJ (OT (λ_=>rfl) (λ_ _=>rfl) (hZ (λ_=>rfl) (λ_ _=>rfl) T1 (ag cg xp (bj gk xv)))))
 (ai (xs (aj (ag hV xp xk)))
 (xs (aj (ag kH xv xk))))) 100000)
 (aS (aj (ag xi xv (cM (bb xk cL))))))))))
theorem UA(c:Int)(a:Int)(b:Int):SimO zm (eL D.int) (m_y9 [D.int c,D.int a,D.int b]) (Mg c a b):=dE T7 rfl
structure S_bc9 where
 v3q:Int
 vvq:Int
 vuq:Option P1
 vfq:Option Int
 v0q:Option Int
 v2q:Option Int
def Bu:S_bc9->Mi.Env:=λs=>[some (D.int s.v3q),some (D.int s.vvq),s.vuq.map (eL (j8 D.int D.int)),s.vfq.map D.int,s.v0q.map D.int,s.v2q.map D.int]
abbrev kb:=S_bc9->FlC S_bc9 P1
def sJ:kb:=bJ (λa s=>{s with vuq:=some a}) (aY (lZ (fj:_->Res P1)))
def nv:kb:=bZ (BP (λs=>s.vuq) (λs=>{s with vuq:=none}))
def sI:kb:=gv (aY (aC LB (pC (·.vvq)) (kC (2:Int))))
 nv
 bW
def mw:kb:=bJ (λa s=>{s with v3q:=a}) (aY (aC c9 (aC iA (aC og (pC (·.v3q)) (kC (48271:Int))) (kC (23:Int))) (kC (2147483647:Int))))
def mq:kb:=bJ (λa s=>{s with v0q:=some a}) (aY (aC c9 (pC (·.v3q)) (pC (·.vvq))))
def mo:kb:=bJ (λa s=>{s with v2q:=some a}) (aY (aC c9 (aC iA (aC iA (vC (·.v0q)) (kC (1:Int))) (aC c9 (aC iP (pC (·.v3q)) (kC (7:Int))) (aC lR (pC (·.vvq)) (kC (1:Int))))) (pC (·.vvq))))
def kY:kb:=bf (pZ (λs=>s.vuq) (λs y=>{s with vuq:=some y}) mG (kz (vC (·.v0q)) (vC (·.v2q))))
def ml:kb:=gv (aY (aC (LQ true) (kz (vC (·.v0q)) (vC (·.v2q))) (vC (·.vuq))))
 kY
 bW
def nA:kb:=aA mw
 (aA mq
 (aA mo
 ml))
def yy:kb:=ci (aZ (fq 0) (aC c9 (pC (·.v3q)) (kC (3:Int)))) (λa s=>{s with vfq:=some a})
 nA
def yx:kb:=bZ (BP (λs=>s.vuq) (λs=>{s with vuq:=none}))
def wq:kb:=aA sJ
 (aA sI
 (aA yy
 yx))
def yR(b:Int)(a:Int):OutC S_bc9 P1:=cC none (wq ⟨b,a,none,none,none,none⟩)
theorem Qv:Cl.TJ Bu (eL (j8 D.int D.int)) zQ wq:=ai (xs (aj (cM cL)))
 (ai (bE (aj (aw (ag zx xp xk)))
 (aS (j6 (λ_=>rfl) (λ_=>rfl)))
 aV)
 (ai (b7 (d9 (ag cg xp xk)) (λ_ _=>rfl)
 (ai (xs (aj (ag cg (ag gt (ag qV xp xk) xk) xk)))
 (ai (xs (aj (ag cg xp xp)))
 (ai (xs (aj (ag cg (ag gt (ag gt xv xk) (ag cg (ag hV xp xk) (ag kH xp xk))) xp)))
 (bE (aj (aw (ag (G8 (oK jj jj) (by decide)) (br xv xv) xv)))
 (aJ (hZ (λ_=>rfl) (λ_ _=>rfl) pq (br xv xv)))
 aV)))))
 (aS (j6 (λ_=>rfl) (λ_=>rfl)))))
theorem QI(b:Int)(a:Int):SimO Bu (eL (j8 D.int D.int)) (m_bc9 [D.int b,D.int a]) (yR b a):=dE Qv rfl
structure S_bd9 where
 vxq:P1
 vvq:Int
 v0q:Int
def Bt:S_bd9->Mi.Env:=λs=>[some ((eL (j8 D.int D.int)) s.vxq),some (D.int s.vvq),some (D.int s.v0q)]
abbrev Nf:=S_bd9->FlC S_bd9 (List Int)
def yw:Nf:=bZ (aY (cp (aZ (fq 0) (pC (·.vvq))) (aC (LQ false) (kz (aC D3 (pC λp=>p.2.v0q) (pC λp=>p.1)) (aC tI (pC λp=>p.2.v0q) (pC λp=>p.1))) (pC λp=>p.2.vxq)) (pC λp=>p.1)))
def Av:Nf:=yw
def Dp(a:P1)(b:Int)(c:Int):OutC S_bd9 (List Int):=cC none (Av ⟨a,b,c⟩)
theorem Qu:Cl.TJ Bt (eL D.int) zP Av:=aS (aj (dH (d9 xp) (aw (ag (Ha (oK jj jj) (by decide)) (br (ag BL xp xp) (ag qW xp xp)) xp)) xp))
theorem QH(a:P1)(b:Int)(c:Int):SimO Bt (eL D.int) (m_bd9 [(eL (j8 D.int D.int)) a,D.int b,D.int c]) (Dp a b c):=dE Qu rfl
structure S_be9 where
 v3q:Int
 vvq:Int
 vsq:Option Int
 vxq:Option P1
 vfq:Option Int
 v0q:Option Int
 v2q:Option Int
def Bs:S_be9->Mi.Env:=λs=>[some (D.int s.v3q),some (D.int s.vvq),s.vsq.map D.int,s.vxq.map (eL (j8 D.int D.int)),s.vfq.map D.int,s.v0q.map D.int,s.v2q.map D.int]
abbrev lg:=S_be9->FlC S_be9 P1
def yu:lg:=bJ (λa s=>{s with vsq:=some a}) (aY (aC c9 (aC og (aC c9 (aC og (aC iA (pC (·.v3q)) (kC (1:Int))) (kC (48271:Int))) (kC (2147483647:Int))) (kC (16807:Int))) (kC (2147483647:Int))))
def yt:lg:=bJ (λa s=>{s with vxq:=some a}) (aY (lZ (fj:_->Res P1)))
def yr:lg:=bJ (λa s=>{s with vfq:=some a}) (aY (kC (0:Int)))
def jo:lg:=bf (pZ (λs=>s.vxq) (λs y=>{s with vxq:=some y}) mG (kz (vC (·.v0q)) (vC (·.v2q))))
def jO:lg:=gv (aY (aC (i3 false) (aC c9 (aC Rx (vC (·.vsq)) (aC c9 (vC (·.vfq)) (kC (29:Int)))) (kC (2:Int))) (kC (1:Int))))
 jo
 bW
def jM:lg:=bJ (λa s=>{s with vfq:=some a}) (aY (aC iA (vC (·.vfq)) (kC (1:Int))))
def jU:lg:=aA jO
 jM
def mj:lg:=ci (aC fq (aC iA (vC (·.v0q)) (kC (1:Int))) (pC (·.vvq))) (λa s=>{s with v2q:=some a})
 jU
def yq:lg:=ci (aZ (fq 0) (pC (·.vvq))) (λa s=>{s with v0q:=some a})
 mj
def yp:lg:=bZ (BP (λs=>s.vxq) (λs=>{s with vxq:=none}))
def Au:lg:=aA yu
 (aA yt
 (aA yr
 (aA yq
 yp)))
def Do(b:Int)(a:Int):OutC S_be9 P1:=cC none (Au ⟨b,a,none,none,none,none,none⟩)
theorem Qt:Cl.TJ Bs (eL (j8 D.int D.int)) zO Au:=ai (xs (aj (ag cg (ag qV (ag cg (ag qV (ag gt xp xk) xk) xk) xk) xk)))
 (ai (xs (aj (cM cL)))
 (ai (xs (aj xk))
 (ai (b7 (d9 xp) (λ_ _=>rfl)
 (b7 (Aa (ag gt xv xk) xp) (λ_ _=>rfl)
 (ai (bE (aj (aw (ag (dt false) (ag cg (ag Sr xv (ag cg xv xk)) xk) xk)))
 (aJ (hZ (λ_=>rfl) (λ_ _=>rfl) pq (br xv xv)))
 aV)
 (xs (aj (ag gt xv xk))))))
 (aS (j6 (λ_=>rfl) (λ_=>rfl))))))
theorem QG(b:Int)(a:Int):SimO Bs (eL (j8 D.int D.int)) (m_be9 [D.int b,D.int a]) (Do b a):=dE Qt rfl
structure S_bf9 where
 vbq:Int
def Br:S_bf9->Mi.Env:=λs=>[some (D.int s.vbq)]
abbrev Nd:=S_bf9->FlC S_bf9 Bool
def yo:Nd:=bZ (aY (oT (aZ (Vh true) (pC (·.vbq))) (aZ n9 (aZ (Vh false) (pC (·.vbq))))))
def At:Nd:=yo
def uM(a:Int):OutC S_bf9 Bool:=cC none (At ⟨a⟩)
theorem Qs:Cl.TJ Br D.bl zN At:=aS (aj (Qc (Ab (e:=D.int) (n := "int") (b:=true) (λ_=>rfl) xp) (bj Ss (Ab (e:=D.int) (n := "bool") (b:=false) (λ_=>rfl) xp))))
theorem Ae(a:Int):SimO Br D.bl (m_bf9 [D.int a]) (uM a):=gm Qs rfl
structure S_bi9 where
 vyq:Str
 v8q:Option Str
def Bn:S_bi9->Mi.Env:=λs=>[some (D.str s.vyq),s.v8q.map D.str]
abbrev uK:=S_bi9->FlC S_bi9 Int
def sC:uK:=bJ (λa s=>{s with v8q:=some a}) (aY (LO (aC qu (pC (·.vyq)) (kC ("-" : Str))) (aC vJ (pC (·.vyq)) (kC (1:Int))) (pC (·.vyq))))
def sB:uK:=gv (aY (GS (aC LB (aZ BW (vC (·.v8q))) (kC (1:Int))) (aC IM (aZ BW (vC (·.v8q))) (kC (60:Int)))))
 nD
 bW
def sA:uK:=gv (aY (aZ QR (cp (aZ Nr (vC (·.v8q))) (λ_=> .ok true) (aC xm (pC λp=>p.1) (kC ("0123456789" : Str))))))
 nD
 bW
def nu:uK:=gv (aY (oT (aC (i3 false) (aC LN (vC (·.v8q)) (kC (0:Int))) (kC ("0" : Str))) (aC (i3 true) (pC (·.vyq)) (kC ("0" : Str)))))
 nD
 bW
def sy:uK:=bZ (aY (aZ IG (pC (·.vyq))))
def Ao:uK:=aA sC
 (aA sB
 (aA sA
 (aA nu
 sy)))
def nJ(a:Str):OutC S_bi9 Int:=cC none (Ao ⟨a,none⟩)
theorem Qp:Cl.TJ Bn D.int zK Ao:=ai (xs (aj (Qb (aw (kT Lk xp xk)) (ag Lp xp xk) xp)))
 (ai (bE (aj (i5 (aw (ag zx (bj xh xv) xk)) (aw (ag DX (bj xh xv) xk))))
 fP
 aV)
 (ai (bE (aj (aw (bj Sx (dH (IT xv) jE (ag OJ xp xk)))))
 fP
 aV)
 (ai (bE (aj (gK (aw (ag (mV false) (ag Ln xv xk) xk)) (aw (ag (mV true) xp xk))))
 fP
 aV)
 (aS (aj (bj ON xp))))))
theorem JC(a:Str):SimO Bn D.int (m_bi9 [D.str a]) (nJ a):=gm Qp rfl
structure S_bk9 where
 veq:(List Int)
 v4q:Int
def Bl:S_bk9->Mi.Env:=λs=>[some ((eL D.int) s.veq),some (D.int s.v4q)]
abbrev Nc:=S_bk9->FlC S_bk9 Unit
def yi:Nc:=gv (aY (GS (aC LB (aC Ih (pC (·.veq)) (kC (0:Int))) (kC (0:Int))) (aC geC (aC MS (pC (·.veq)) (kC (0:Int))) (pC (·.v4q)))))
 nD
 bW
def Am:Nc:=yi
def Dk(a:List Int)(b:Int):OutC S_bk9 Unit:=cC (some ()) (Am ⟨a,b⟩)
theorem Qn:Cl.TJ Bl eN zI Am:=bE (aj (i5 (aw (ag zx (ag Lm xp xk) xk)) (aw (ag Vt (ag OK xp xk) xp))))
 fP
 aV
theorem QD(a:List Int)(b:Int):SimO Bl eN (m_bk9 [(eL D.int) a,D.int b]) (Dk a b):=kR (d:=()) rfl Qn rfl
structure S_bl9 where
 vwq:Str
def Bk:S_bl9->Mi.Env:=λs=>[some (D.str s.vwq)]
abbrev Kk:=S_bl9->FlC S_bl9 (List (List Str))
def sw:Kk:=gv (aY (aZ n9 (aC P6 (pC (·.vwq)) (kC ("\n" : Str)))))
 nD
 bW
def yh:Kk:=bZ (aY (cp (aC lT (aC vK (pC (·.vwq)) (aZ Hi (kC (1:Int)))) (kC ("\n" : Str))) (λ_=> .ok true) (aC lT (pC λp=>p.1) (kC (" " : Str)))))
def Al:Kk:=aA sw
 yh
def Dj(a:Str):OutC S_bl9 (List (List Str)):=cC none (Al ⟨a⟩)
theorem Qm:Cl.TJ Bk (eL (eL D.str)) zH Al:=ai (bE (aj (f8 (aw (kT Sw xp xk))))
 fP
 aV)
 (aS (aj (dH (bV (kT BK (ag Lq xp (bj MR xk)) xk)) jE (kT BK xp xk))))
theorem QC(a:Str):SimO Bk (eL (eL D.str)) (m_bl9 [D.str a]) (Dj a):=dE Qm rfl
structure S_h9 where
 vtq:GΩ
 veq:(List Int)
def Ge:S_h9->Mi.Env:=λs=>[some (aG s.vtq),some ((eL D.int) s.veq)]
abbrev UO:=S_h9->FlC S_h9 Unit
def CT:UO:=bf (aY (dM Dk (pC (·.veq)) (aZ (λg=> .ok g.hω) (pC (·.vtq)))))
def JW:UO:=CT
def wC(b:GΩ)(a:List Int):OutC S_h9 Unit:=cC (some ()) (JW ⟨b,a⟩)
theorem Uq:Cl.TJ Ge eN HH JW:=aJ (aj (dG (λb a=>QD b a) xp (dF (λ_=>rfl) (bj dZ xp))))
theorem uF(b:GΩ)(a:List Int):SimO Ge eN (xw [aG b,(eL D.int) a]) (wC b a):=kR (d:=()) rfl Uq rfl
structure S_s9 where
 v3q:Int
 vvq:Int
 v5q:Option (DI Int)
 vfq:Option Int
 vpq:Option (List Int)
def FX:S_s9->Mi.Env:=λs=>[some (D.int s.v3q),some (D.int s.vvq),s.v5q.map (bL D.int),s.vfq.map D.int,s.vpq.map (eL D.int)]
abbrev tN:=S_s9->FlC S_s9 (DI Int)
def vZ:tN:=bJ (λa s=>{s with v5q:=some a}) (aY (kC ([]:DI Int)))
def pG:tN:=bZ (BP (λs=>s.v5q) (λs=>{s with v5q:=none}))
def vY:tN:=gv (aY (aC LB (pC (·.vvq)) (kC (2:Int))))
 pG
 bW
def uD:tN:=bJ (λa s=>{s with v3q:=a}) (aY (aC c9 (aC iA (aC og (pC (·.v3q)) (kC (48271:Int))) (kC (17:Int))) (kC (2147483647:Int))))
def uC:tN:=bJ (λa s=>{s with vpq:=some a}) (aY (n6 Mg (aC iP (pC (·.v3q)) (kC (9:Int))) (aC iA (kC (1:Int)) (aC c9 (pC (·.v3q)) (aC lR (pC (·.vvq)) (kC (1:Int))))) (pC (·.vvq))))
def uB:tN:=j9 (λs=>s.v5q) (λs y=>{s with v5q:=some y}) (aZ E1 (vC (·.vpq))) (aY (aC lR (aC c9 (aC iP (pC (·.v3q)) (kC (5:Int))) (kC (9:Int))) (kC (4:Int))))
def wo:tN:=aA uD
 (aA uC
 uB)
def Cy:tN:=ci (aZ (fq 0) (aC c9 (pC (·.v3q)) (kC (4:Int)))) (λa s=>{s with vfq:=some a})
 wo
def Cw:tN:=bZ (BP (λs=>s.v5q) (λs=>{s with v5q:=none}))
def Dc:tN:=aA vZ
 (aA vY
 (aA Cy
 Cw))
def Kx(b:Int)(a:Int):OutC S_s9 (DI Int):=cC none (Dc ⟨b,a,none,none,none⟩)
theorem Ue:Cl.TJ FX (bL D.int) Hu Dc:=ai (xs (aj (vF rfl)))
 (ai (bE (aj (aw (ag zx xp xk)))
 (aS (j6 (λ_=>rfl) (λ_=>rfl)))
 aV)
 (ai (b7 (d9 (ag cg xp xk)) (λ_ _=>rfl)
 (ai (xs (aj (ag cg (ag gt (ag qV xp xk) xk) xk)))
 (ai (xs (aj (IV (λc b a=>UA c b a) (ag hV xp xk) (ag gt xk (ag cg xp (ag kH xp xk))) xp)))
 (fo (λ_=>rfl) (λ_ _=>rfl) (bj BJ xv) (aj (ag kH (ag cg (ag hV xp xk) xk) xk))))))
 (aS (j6 (λ_=>rfl) (λ_=>rfl)))))
theorem UE(b:Int)(a:Int):SimO FX (bL D.int) (m_s9 [D.int b,D.int a]) (Kx b a):=dE Ue rfl
structure S_x9 where
 vxq:P1
 vaq:(DI Int)
 v5q:(DI Int)
 vuq:P1
 viq:Option (List Str)
 vlq:Option (List Int)
def FS:S_x9->Mi.Env:=λs=>[some ((eL (j8 D.int D.int)) s.vxq),some ((bL D.int) s.vaq),some ((bL D.int) s.v5q),some ((eL (j8 D.int D.int)) s.vuq),s.viq.map (eL D.str),s.vlq.map (lF D.int)]
abbrev AF:=S_x9->FlC S_x9 (List Str)
def vV:AF:=bJ (λa s=>{s with viq:=some a}) (aY (mF (aZ fM (aZ AH (pC (·.vxq)))) (cq lG (lZ (bx (aZ iw (kC ("way" : Str))) (bx (aZ eU (pC λp=>p.1)) (bx (aZ eU (pC λp=>p.2)) (fj:_->Res (List D)))))))))
def lP:AF:=bf (pZ (λs=>s.viq) (λs y=>{s with viq:=some y}) mG (cq lG (lZ (bx (aZ iw (kC ("like" : Str))) (bx (aZ eU (aC ox (vC (·.vlq)) (kC (0:Int)))) (bx (aZ eU (aC ox (vC (·.vlq)) (kC (1:Int)))) (bx (aZ eU (aC Ce (pC (·.vaq)) (vC (·.vlq)))) (fj:_->Res (List D)))))))))
def jk:AF:=gv (aY (aC (i3 true) (aC Ce (pC (·.vaq)) (vC (·.vlq))) (kC (0:Int))))
 lP
 bW
def qk:AF:=ci (aZ fM (aZ lM (pC (·.vaq)))) (λa s=>{s with vlq:=some a})
 jk
def vU:AF:=bJ (λa s=>{s with viq:=some a}) (aY (aC jV (vC (·.viq)) (mF (aZ fM (aZ AH (pC (·.vuq)))) (cq lG (lZ (bx (aZ iw (kC ("shun" : Str))) (bx (aZ eU (pC λp=>p.1)) (bx (aZ eU (pC λp=>p.2)) (fj:_->Res (List D))))))))))
def vT:AF:=bZ (aY (aC jV (vC (·.viq)) (cp (aZ fM (aZ lM (pC (·.v5q)))) (λ_=> .ok true) (cq lG (aC jV (lZ (bx (aZ iw (kC ("wish" : Str))) (bx (aZ eU (aC Ce (pC λp=>p.2.v5q) (pC λp=>p.1))) (fj:_->Res (List D))))) (aZ (Df D.int) (aZ E1 (pC λp=>p.1))))))))
def JI:AF:=aA vV
 (aA qk
 (aA vU
 vT))
def Kv(a:P1)(b:DI Int)(c:DI Int)(d:P1):OutC S_x9 (List Str):=cC none (JI ⟨a,b,c,d,none,none⟩)
theorem T8:Cl.TJ FS (eL D.str) Hq JI:=ai (xs (aj (xP (bV (bj mU (bO Ke xp))) (cZ (λa=>yD a) (cM (bb (bO nE xk) (bb (bO gP (dF (λ_=>rfl) xp)) (bb (bO gP (dF (λ_=>rfl) xp)) cL))))))))
 (ai (b7 (bV (bj mU (bj qX xp))) (λ_ _=>rfl)
 (bE (aj (aw (ag (dt true) (ag kK xp xv) xk)))
 (aJ (hZ (λ_=>rfl) (λ_ _=>rfl) pq (cZ (λa=>yD a) (cM (bb (bO nE xk) (bb (bO gP (ag kJ xv xk)) (bb (bO gP (ag kJ xv xk)) (bb (bO gP (dF (λ_=>rfl) (ag kK xp xv))) cL))))))))
 aV))
 (ai (xs (aj (ag xi xv (xP (bV (bj mU (bO Ke xp))) (cZ (λa=>yD a) (cM (bb (bO nE xk) (bb (bO gP (dF (λ_=>rfl) xp)) (bb (bO gP (dF (λ_=>rfl) xp)) cL)))))))))
 (aS (aj (ag xi xv (dH (bV (bj mU (bj qX xp))) jE (cZ (λa=>yD a) (ag xi (cM (bb (bO nE xk) (bb (bO gP (dF (λ_=>rfl) (ag kK xp xp))) cL))) (bO Ma (bj vf xp))))))))))
theorem UB(a:P1)(b:DI Int)(c:DI Int)(d:P1):SimO FS (eL D.str) (m_x9 [(eL (j8 D.int D.int)) a,(bL D.int) b,(bL D.int) c,(eL (j8 D.int D.int)) d]) (Kv a b c d):=dE T8 rfl
structure S_bb9 where
 vbq:(Option (List Int))
 v6q:(Option (List Int))
 vdq:Option Int
def Bv:S_bb9->Mi.Env:=λs=>[some ((eO (eL D.int)) s.vbq),some ((eO (eL D.int)) s.v6q),s.vdq.map D.int]
abbrev nH:=S_bb9->FlC S_bb9 Bool
def nw:nH:=bZ (aY (aZ (PX false OP) (pC (·.vbq))))
def sL:nH:=gv (aY (aZ (PX false OP) (pC (·.v6q))))
 nw
 bW
def wj:nH:=bZ (aY (kC false))
def yB:nH:=gv (aY (GS (aZ n9 (aZ (Sq false true) (pC (·.vbq)))) (aC (i3 true) (aZ lE (aZ Lg (pC (·.vbq)))) (aZ lE (aZ Lg (pC (·.v6q)))))))
 wj
 bW
def sK:nH:=bZ (aY (kC false))
def my:nH:=gv (aY (aZ n9 (cq uM (vC (·.vdq)))))
 sK
 bW
def yA:nH:=ci (aZ Lg (pC (·.vbq))) (λa s=>{s with vdq:=some a})
 my
def yz:nH:=bZ (aY (aC (i3 false) (pC (·.vbq)) (pC (·.v6q))))
def wt:nH:=aA sL
 (aA yB
 (aA yA
 yz))
def uN(a:Option (List Int))(b:Option (List Int)):OutC S_bb9 Bool:=cC none (wt ⟨a,b,none⟩)
theorem Qw:Cl.TJ Bv D.bl zR wt:=ai (bE (aj (aw (IW (MY (λ_=>rfl)) xp)))
 (aS (aj (IW (MY (λ_=>rfl)) xp)))
 aV)
 (ai (bE (aj (i5 (f8 (aw (T3 (OH (e:=(eL D.int)) rfl (λ_=>rfl)) xp))) (aw (ag (dt true) (bj gk (bO wy xp)) (bj gk (bO wy xp))))))
 (aS (aj xk))
 aV)
 (ai (b7 (bV (bO wy xp)) (λ_ _=>rfl)
 (bE (aj (f8 (aw (cZ (λa=>Ae a) xv))))
 (aS (aj xk))
 aV))
 (aS (aj (ag (Sv (T5 (M7 jj) (Jd _)) (by decide) false) xp xp)))))
theorem JE(a:Option (List Int))(b:Option (List Int)):SimO Bv D.bl (m_bb9 [(eO (eL D.int)) a,(eO (eL D.int)) b]) (uN a b):=gm Qw rfl
structure S_bq9 where
 vcq:GΩ
 viq:Option (List Str)
 vpq:Option (List Int)
 vnq:Option Int
 veq:Option Str
def Bf:S_bq9->Mi.Env:=λs=>[some (aG s.vcq),s.viq.map (eL D.str),s.vpq.map (eL D.int),s.vnq.map D.int,s.veq.map D.str]
abbrev tu:=S_bq9->FlC S_bq9 (List Str)
def r6:tu:=bJ (λa s=>{s with viq:=some a}) (aY (lZ (fj:_->Res (List Str))))
def l9:tu:=bJ (λa s=>{s with veq:=some a}) (aY (aC mZ (kC (" " : Str)) (cp (vC (·.vpq)) (λ_=> .ok true) (aZ p6 (pC λp=>p.1)))))
def rY:tu:=bf (pZ (λs=>s.viq) (λs y=>{s with viq:=some y}) mG (B8 (gh fK (kC ("wish " : Str)) (gh ik (vC (·.vnq)) (gh fK (kC (" " : Str)) (gh fK (vC (·.veq)) EZ))))))
def ny:tu:=aA l9
 rY
def rZ:tu:=ci (cq EO (pC (·.vcq))) (λa s=>{s with vpq:=some a.1,vnq:=some a.2})
 ny
def Jn:tu:=bZ (BP (λs=>s.viq) (λs=>{s with viq:=none}))
def Af:tu:=aA r6
 (aA rZ
 Jn)
def Dg(a:GΩ):OutC S_bq9 (List Str):=cC none (Af ⟨a,none,none,none,none⟩)
theorem Qh:Cl.TJ Bf (eL D.str) zC Af:=ai (xs (aj (cM cL)))
 (ai (b7 (bV (i4 (λ_=>rfl) (λa=>Jv a) xp)) (λ_ _=>rfl)
 (ai (xs (aj (kT vg xk (dH (bV xv) jE (bj G7 xp)))))
 (aJ (hZ (λ_=>rfl) (λ_ _=>rfl) pq (xN (kS xk (nl xv (kS xk (kS xv nj)))))))))
 (aS (j6 (λ_=>rfl) (λ_=>rfl))))
theorem Qy(a:GΩ):SimO Bf (eL D.str) (m_bq9 [aG a]) (Dg a):=dE Qh rfl
structure S_e9 where
 vtq:GΩ
 v0q:Int
 v2q:Int
 vnq:Int
def Gh:S_e9->Mi.Env:=λs=>[some (aG s.vtq),some (D.int s.v0q),some (D.int s.v2q),some (D.int s.vnq)]
abbrev Q1:=S_e9->FlC S_e9 Unit
def C0:Q1:=bf (aY (dM wC (pC (·.vtq)) (lZ (bx (pC (·.v0q)) (bx (pC (·.v2q)) (fj:_->Res (List Int)))))))
def CZ:Q1:=j9 (λs=>some s.vtq.lω) (λs y=>{s with vtq:={s.vtq with lω:=y}}) (aZ fN (kz (pC (·.v0q)) (pC (·.v2q)))) (aY (pC (·.vnq)))
def JZ:Q1:=aA C0
 CZ
def EV(a:GΩ)(d:Int)(c:Int)(b:Int):OutC S_e9 Unit:=cC (some ()) (JZ ⟨a,d,c,b⟩)
theorem Ut:Cl.TJ Gh eN HK JZ:=ai (aJ (aj (im (λ_=>rfl) (λb a=>uF b a) xp (cM (bb xp (bb xp cL))))))
 (fo (λ_=>rfl) (λ_ _=>rfl) (bO dh (br xp xp)) (aj xp))
theorem Jz(a:GΩ)(e:Int)(c:Int)(b:Int):SimO Gh eN (HZ [aG a,D.int e,D.int c,D.int b]) (EV a e c b):=kR (d:=()) rfl Ut rfl
structure S_f9 where
 vtq:GΩ
 v0q:Int
 v2q:Int
def Gg:S_f9->Mi.Env:=λs=>[some (aG s.vtq),some (D.int s.v0q),some (D.int s.v2q)]
abbrev Q0:=S_f9->FlC S_f9 Int
def CY:Q0:=bf (aY (dM wC (pC (·.vtq)) (lZ (bx (pC (·.v0q)) (bx (pC (·.v2q)) (fj:_->Res (List Int)))))))
def CW:Q0:=bZ (aY (IQ (aZ (λg=> .ok g.lω) (pC (·.vtq))) (aZ fN (kz (pC (·.v0q)) (pC (·.v2q)))) (kC (0:Int))))
def JY:Q0:=aA CY
 CW
def AI(a:GΩ)(c:Int)(b:Int):OutC S_f9 Int:=cC none (JY ⟨a,c,b⟩)
theorem Us:Cl.TJ Gg D.int HJ JY:=ai (aJ (aj (im (λ_=>rfl) (λb a=>uF b a) xp (cM (bb xp (bb xp cL))))))
 (aS (aj (dF (λ_=>rfl) (Cb (bj n8 xp) (bO dh (br xp xp)) xk))))
theorem Da(a:GΩ)(c:Int)(b:Int):SimO Gg D.int (D4 [aG a,D.int c,D.int b]) (AI a c b):=gm Us rfl
structure S_g9 where
 vtq:GΩ
 v0q:Int
def Gf:S_g9->Mi.Env:=λs=>[some (aG s.vtq),some (D.int s.v0q)]
abbrev QZ:=S_g9->FlC S_g9 (List Int)
def CV:QZ:=bf (aY (dM wC (pC (·.vtq)) (lZ (bx (pC (·.v0q)) (fj:_->Res (List Int))))))
def CU:QZ:=bZ (aY (n6 Ky (pC (·.vtq)) (aZ (λg=> .ok g.U) (pC (·.vtq))) (pC (·.v0q))))
def JX:QZ:=aA CV
 CU
def EU(a:GΩ)(b:Int):OutC S_g9 (List Int):=cC none (JX ⟨a,b⟩)
theorem Ur:Cl.TJ Gf (eL D.int) HI JX:=ai (aJ (aj (im (λ_=>rfl) (λb a=>uF b a) xp (cM (bb xp cL)))))
 (aS (aj (jF (λ_=>rfl) (λb a c=>Nb b a c) xp (bj iX xp) xp)))
theorem Na(a:GΩ)(b:Int):SimO Gf (eL D.int) (Lz [aG a,D.int b]) (EU a b):=dE Ur rfl
structure S_i9 where
 vtq:GΩ
 vpq:(List Int)
def Gc:S_i9->Mi.Env:=λs=>[some (aG s.vtq),some ((eL D.int) s.vpq)]
abbrev Kh:=S_i9->FlC S_i9 Unit
def CS:Kh:=bf (aY (dM wC (pC (·.vtq)) (pC (·.vpq))))
def CQ:Kh:=gv (aY (aC LB (aZ lE (pC (·.vpq))) (kC (2:Int))))
 nD
 bW
def CP:Kh:=gv (aY (aC (i3 true) (aC ox (pC (·.vpq)) (aZ Hi (kC (1:Int)))) (kC (0:Int))))
 nD
 bW
def CO:Kh:=gv (aY (aC (i3 true) (aZ vn (pC (·.vpq))) (aZ lE (pC (·.vpq)))))
 nD
 bW
def JV:Kh:=aA CS
 (aA CQ
 (aA CP
 CO))
def Mm(a:GΩ)(b:List Int):OutC S_i9 Unit:=cC (some ()) (JV ⟨a,b⟩)
theorem Up:Cl.TJ Gc eN HG JV:=ai (aJ (aj (im (λ_=>rfl) (λb a=>uF b a) xp xp)))
 (ai (bE (aj (aw (ag zx (bj gk xp) xk)))
 fP
 aV)
 (ai (bE (aj (aw (ag (dt true) (ag jc xp (bj MR xk)) xk)))
 fP
 aV)
 (bE (aj (aw (ag (dt true) (bj G9 xp) (bj gk xp))))
 fP
 aV)))
theorem UH(a:GΩ)(b:List Int):SimO Gc eN (Pv [aG a,(eL D.int) b]) (Mm a b):=kR (d:=()) rfl Up rfl
structure S_j9 where
 vtq:GΩ
 v0q:Int
 v2q:Int
def Gb:S_j9->Mi.Env:=λs=>[some (aG s.vtq),some (D.int s.v0q),some (D.int s.v2q)]
abbrev QY:=S_j9->FlC S_j9 Unit
def CN:QY:=bf (aY (dM wC (pC (·.vtq)) (lZ (bx (pC (·.v0q)) (bx (pC (·.v2q)) (fj:_->Res (List Int)))))))
def CM:QY:=gv (aY (aC (i3 false) (pC (·.v0q)) (pC (·.v2q))))
 nD
 bW
def JU:QY:=aA CN
 CM
def ET(a:GΩ)(c:Int)(b:Int):OutC S_j9 Unit:=cC (some ()) (JU ⟨a,c,b⟩)
theorem Uo:Cl.TJ Gb eN HF JU:=ai (aJ (aj (im (λ_=>rfl) (λb a=>uF b a) xp (cM (bb xp (bb xp cL))))))
 (bE (aj (aw (ag (dt false) xp xp)))
 fP
 aV)
theorem Jy(a:GΩ)(c:Int)(b:Int):SimO Gb eN (HY [aG a,D.int c,D.int b]) (ET a c b):=kR (d:=()) rfl Uo rfl
structure S_l9 where
 vtq:GΩ
 v0q:Int
def F9:S_l9->Mi.Env:=λs=>[some (aG s.vtq),some (D.int s.v0q)]
abbrev QW:=S_l9->FlC S_l9 (List Int)
def CJ:QW:=bf (aY (dM wC (pC (·.vtq)) (lZ (bx (pC (·.v0q)) (fj:_->Res (List Int))))))
def CI:QW:=bZ (aY (n6 Ky (pC (·.vtq)) (aZ (λg=> .ok g.sω) (pC (·.vtq))) (pC (·.v0q))))
def JS:QW:=aA CJ
 CI
def ER(a:GΩ)(b:Int):OutC S_l9 (List Int):=cC none (JS ⟨a,b⟩)
theorem Ul:Cl.TJ F9 (eL D.int) HC JS:=ai (aJ (aj (im (λ_=>rfl) (λb a=>uF b a) xp (cM (bb xp cL)))))
 (aS (aj (jF (λ_=>rfl) (λb a c=>Nb b a c) xp (bj qU xp) xp)))
theorem M9(a:GΩ)(b:Int):SimO F9 (eL D.int) (Ly [aG a,D.int b]) (ER a b):=dE Ul rfl
structure S_p9 where
 vzq:(List Str)
def F0:S_p9->Mi.Env:=λs=>[some ((eL D.str) s.vzq)]
abbrev QU:=S_p9->FlC S_p9 GΩ
def CC:QU:=gv (aY (GS (aC (i3 true) (aZ lE (pC (·.vzq))) (kC (2:Int))) (aC (i3 true) (aC ox (pC (·.vzq)) (kC (0:Int))) (kC ("houses" : Str)))))
 nD
 bW
def CB:QU:=bZ (aY (Oa mk_Guild (cq nJ (aC ox (pC (·.vzq)) (kC (1:Int))))))
def JO:QU:=aA CC
 CB
def Ml(a:List Str):OutC S_p9 GΩ:=cC none (JO ⟨a⟩)
theorem Uh:Cl.TJ F0 aG Hy JO:=ai (bE (aj (i5 (aw (ag (dt true) (bj gk xp) xk)) (aw (ag (mV true) (ag jc xp xk) xk))))
 fP
 aV)
 (aS (aj (IU lN (cZ (λa=>JC a) (ag jc xp xk)))))
theorem UG(a:List Str):SimO F0 aG (m_p9 [(eL D.str) a]) (Ml a):=dE Uh rfl
structure S_c9 where
 vtq:GΩ
 v0q:Int
 v2q:Int
def Gj:S_c9->Mi.Env:=λs=>[some (aG s.vtq),some (D.int s.v0q),some (D.int s.v2q)]
abbrev Kj:=S_c9->FlC S_c9 Unit
def C8:Kj:=bf (aY (n6 ET (pC (·.vtq)) (pC (·.v0q)) (pC (·.v2q))))
def C7:Kj:=gv (aY (aC (El false) (aZ fN (kz (pC (·.v0q)) (pC (·.v2q)))) (aZ (λg=> .ok g.U) (pC (·.vtq)))))
 nD
 bW
def C6:Kj:=j9 (λs=>some s.vtq.U) (λs y=>{s with vtq:={s.vtq with U:=y}}) (aZ fN (kz (pC (·.v0q)) (pC (·.v2q)))) (aY (kC true))
def C5:Kj:=j9 (λs=>some s.vtq.U) (λs y=>{s with vtq:={s.vtq with U:=y}}) (aZ fN (kz (pC (·.v2q)) (pC (·.v0q)))) (aY (kC true))
def J1:Kj:=aA C8
 (aA C7
 (aA C6
 C5))
def EW(a:GΩ)(c:Int)(b:Int):OutC S_c9 Unit:=cC (some ()) (J1 ⟨a,c,b⟩)
theorem Uv:Cl.TJ Gj eN HM J1:=ai (aJ (aj (jF (λ_=>rfl) (λc b a=>Jy c b a) xp xp xp)))
 (ai (bE (aj (aw (ag (BM false) (bO dh (br xp xp)) (bj iX xp))))
 fP
 aV)
 (ai (fo (λ_=>rfl) (λ_ _=>rfl) (bO dh (br xp xp)) (aj xk))
 (fo (λ_=>rfl) (λ_ _=>rfl) (bO dh (br xp xp)) (aj xk))))
theorem JA(a:GΩ)(c:Int)(b:Int):SimO Gj eN (H8 [aG a,D.int c,D.int b]) (EW a c b):=kR (d:=()) rfl Uv rfl
structure S_d9 where
 vtq:GΩ
 v0q:Int
 v2q:Int
def Gi:S_d9->Mi.Env:=λs=>[some (aG s.vtq),some (D.int s.v0q),some (D.int s.v2q)]
abbrev Ki:=S_d9->FlC S_d9 Unit
def C4:Ki:=bf (aY (n6 ET (pC (·.vtq)) (pC (·.v0q)) (pC (·.v2q))))
def C3:Ki:=gv (aY (aC (El true) (aZ fN (kz (pC (·.v0q)) (pC (·.v2q)))) (aZ (λg=> .ok g.U) (pC (·.vtq)))))
 nD
 bW
def C2:Ki:=bf (Cd (λs=>some s.vtq.U) (λs y=>{s with vtq:={s.vtq with U:=y}}) (aZ fN (kz (pC (·.v0q)) (pC (·.v2q)))))
def C1:Ki:=bf (Cd (λs=>some s.vtq.U) (λs y=>{s with vtq:={s.vtq with U:=y}}) (aZ fN (kz (pC (·.v2q)) (pC (·.v0q)))))
def J0:Ki:=aA C4
 (aA C3
 (aA C2
 C1))
def Mn(a:GΩ)(c:Int)(b:Int):OutC S_d9 Unit:=cC (some ()) (J0 ⟨a,c,b⟩)
theorem Uu:Cl.TJ Gi eN HL J0:=ai (aJ (aj (jF (λ_=>rfl) (λc b a=>Jy c b a) xp xp xp)))
 (ai (bE (aj (aw (ag (BM true) (bO dh (br xp xp)) (bj iX xp))))
 fP
 aV)
 (ai (aJ (BN (λ_=>rfl) (λ_ _=>rfl) (bO dh (br xp xp))))
 (aJ (BN (λ_=>rfl) (λ_ _=>rfl) (bO dh (br xp xp))))))
theorem UI(a:GΩ)(c:Int)(b:Int):SimO Gi eN (Pw [aG a,D.int c,D.int b]) (Mn a c b):=kR (d:=()) rfl Uu rfl
structure S_k9 where
 vtq:GΩ
 v0q:Int
 v2q:Int
def Ga:S_k9->Mi.Env:=λs=>[some (aG s.vtq),some (D.int s.v0q),some (D.int s.v2q)]
abbrev QX:=S_k9->FlC S_k9 Unit
def CL:QX:=bf (aY (n6 ET (pC (·.vtq)) (pC (·.v0q)) (pC (·.v2q))))
def CK:QX:=j9 (λs=>some s.vtq.sω) (λs y=>{s with vtq:={s.vtq with sω:=y}}) (aZ fN (kz (pC (·.v0q)) (pC (·.v2q)))) (aY (kC true))
def JT:QX:=aA CL
 CK
def ES(a:GΩ)(c:Int)(b:Int):OutC S_k9 Unit:=cC (some ()) (JT ⟨a,c,b⟩)
theorem Um:Cl.TJ Ga eN HE JT:=ai (aJ (aj (jF (λ_=>rfl) (λc b a=>Jy c b a) xp xp xp)))
 (fo (λ_=>rfl) (λ_ _=>rfl) (bO dh (br xp xp)) (aj xk))
theorem Jx(a:GΩ)(c:Int)(b:Int):SimO Ga eN (HX [aG a,D.int c,D.int b]) (ES a c b):=kR (d:=()) rfl Um rfl
structure S_n9 where
 vtq:GΩ
 vpq:(List Int)
 vnq:Int
def F7:S_n9->Mi.Env:=λs=>[some (aG s.vtq),some ((eL D.int) s.vpq),some (D.int s.vnq)]
abbrev QV:=S_n9->FlC S_n9 Unit
def CG:QV:=bf (aY (dM Mm (pC (·.vtq)) (pC (·.vpq))))
def CF:QV:=j9 (λs=>some s.vtq.wω) (λs y=>{s with vtq:={s.vtq with wω:=y}}) (aZ E1 (pC (·.vpq))) (aY (pC (·.vnq)))
def JQ:QV:=aA CG
 CF
def EQ(a:GΩ)(b:List Int)(c:Int):OutC S_n9 Unit:=cC (some ()) (JQ ⟨a,b,c⟩)
theorem Uj:Cl.TJ F7 eN HA JQ:=ai (aJ (aj (im (λ_=>rfl) (λb a=>UH b a) xp xp)))
 (fo (λ_=>rfl) (λ_ _=>rfl) (bj BJ (IX (Nt (λ_=>rfl)) xp)) (aj xp))
theorem Jw(a:GΩ)(b:List Int)(c:Int):SimO F7 eN (HW [aG a,(eL D.int) b,D.int c]) (EQ a b c):=kR (d:=()) rfl Uj rfl
structure S_ba9 where
 vbq:GΩ
 vvq:Int
 vxq:P1
 vaq:(DI Int)
 v5q:(DI Int)
 vuq:P1
 vpq:Option (List Int)
 vnq:Option Int
 v0q:Option Int
 v2q:Option Int
 vlq:Option (List Int)
def Bw:S_ba9->Mi.Env:=λs=>[some (aG s.vbq),some (D.int s.vvq),some ((eL (j8 D.int D.int)) s.vxq),some ((bL D.int) s.vaq),some ((bL D.int) s.v5q),some ((eL (j8 D.int D.int)) s.vuq),s.vpq.map (eL D.int),s.vnq.map D.int,s.v0q.map D.int,s.v2q.map D.int,s.vlq.map (lF D.int)]
abbrev fI:=S_ba9->FlC S_ba9 Bool
def wk:fI:=bZ (aY (kC false))
def sV:fI:=gv (aY (GS (aC (i3 true) (cq oV (pC (·.vbq))) (pC (·.vvq))) (aC (i3 true) (aZ lE (cq EO (pC (·.vbq)))) (aZ MX (pC (·.v5q))))))
 wk
 bW
def sS:fI:=bZ (aY (kC false))
def mE:fI:=gv (aY (GS (aC (El true) (aZ E1 (vC (·.vpq))) (pC (·.v5q))) (GS (aC (i3 true) (aC Ce (pC (·.v5q)) (aZ E1 (vC (·.vpq)))) (vC (·.vnq))) (aZ n9 (cq uM (vC (·.vnq)))))))
 sS
 bW
def sT:fI:=ci (cq EO (pC (·.vbq))) (λa s=>{s with vpq:=some a.1,vnq:=some a.2})
 mE
def sP:fI:=bZ (aY (kC false))
def mD:fI:=gv (aY (aZ n9 (dM uN (aZ tY (dM EU (pC (·.vbq)) (vC (·.v0q)))) (aZ tY (n6 Dp (pC (·.vxq)) (pC (·.vvq)) (vC (·.v0q)))))))
 sP
 bW
def sO:fI:=bZ (aY (kC false))
def mC:fI:=gv (aY (aZ n9 (dM uN (aZ tY (dM ER (pC (·.vbq)) (vC (·.v0q)))) (aZ tY (cp (aZ (fq 0) (pC (·.vvq))) (aC (LQ false) (kz (vC λp=>p.2.v0q) (pC λp=>p.1)) (pC λp=>p.2.vuq)) (pC λp=>p.1))))))
 sO
 bW
def oQ:fI:=bZ (aY (kC false))
def jP:fI:=gv (aY (aC (i3 true) (n6 AI (pC (·.vbq)) (vC (·.v0q)) (vC (·.v2q))) (IQ (pC (·.vaq)) (aZ fN (kz (vC (·.v0q)) (vC (·.v2q)))) (kC (0:Int)))))
 oQ
 bW
def mB:fI:=ci (lZ (bx (kC (0:Int)) (bx (vC (·.v0q)) (bx (aC c9 (aC iA (vC (·.v0q)) (kC (1:Int))) (pC (·.vvq))) (bx (aC lR (pC (·.vvq)) (kC (1:Int))) (fj:_->Res (List Int))))))) (λa s=>{s with v2q:=some a})
 jP
def sZ:fI:=aA mD
 (aA mC
 mB)
def sQ:fI:=ci (aZ (fq 0) (pC (·.vvq))) (λa s=>{s with v0q:=some a})
 sZ
def sM:fI:=bZ (aY (kC false))
def mz:fI:=gv (aY (GS (aC (i3 true) (n6 AI (pC (·.vbq)) (aC ox (vC (·.vlq)) (kC (0:Int))) (aC ox (vC (·.vlq)) (kC (1:Int)))) (aC Ce (pC (·.vaq)) (vC (·.vlq)))) (aZ n9 (cq uM (n6 AI (pC (·.vbq)) (aC ox (vC (·.vlq)) (kC (0:Int))) (aC ox (vC (·.vlq)) (kC (1:Int))))))))
 sM
 bW
def sN:fI:=ci (aZ lM (pC (·.vaq))) (λa s=>{s with vlq:=some a})
 mz
def Js:fI:=bZ (aY (kC true))
def Aw:fI:=aA sV
 (aA sT
 (aA sQ
 (aA sN
 Js)))
def yS(a:GΩ)(c:Int)(b:P1)(d:DI Int)(e:DI Int)(f:P1):OutC S_ba9 Bool:=cC none (Aw ⟨a,c,b,d,e,f,none,none,none,none,none⟩)
theorem Qx:Cl.TJ Bw D.bl zS Aw:=ai (bE (aj (i5 (aw (ag (dt true) (i4 (λ_=>rfl) (λa=>s8 a) xp) xp)) (aw (ag (dt true) (bj gk (i4 (λ_=>rfl) (λa=>Jv a) xp)) (bj OL xp)))))
 (aS (aj xk))
 aV)
 (ai (b7 (bV (i4 (λ_=>rfl) (λa=>Jv a) xp)) (λ_ _=>rfl)
 (bE (aj (i5 (aw (ag (BM true) (bj BJ xv) xp)) (i5 (aw (ag (dt true) (ag kK xp (bj BJ xv)) xv)) (f8 (aw (cZ (λa=>Ae a) xv))))))
 (aS (aj xk))
 aV))
 (ai (b7 (d9 xp) (λ_ _=>rfl)
 (ai (bE (aj (f8 (aw (dG (λa b=>JE a b) (bO wz (im (λ_=>rfl) (λa b=>Na a b) xp xv)) (bO wz (IV (λa b c=>QH a b c) xp xp xv))))))
 (aS (aj xk))
 aV)
 (ai (bE (aj (f8 (aw (dG (λa b=>JE a b) (bO wz (im (λ_=>rfl) (λa b=>M9 a b) xp xv)) (bO wz (dH (d9 xp) (aw (ag (Ha (oK jj jj) (by decide)) (br xv xp) xp)) xp))))))
 (aS (aj xk))
 aV)
 (b7 (bV (cM (bb xk (bb xv (bb (ag cg (ag gt xv xk) xp) (bb (ag kH xp xk) cL)))))) (λ_ _=>rfl)
 (bE (aj (aw (ag (dt true) (jF (λ_=>rfl) (λa b c=>Da a b c) xp xv xv) (Cb xp (bO dh (br xv xv)) xk))))
 (aS (aj xk))
 aV)))))
 (ai (b7 (bV (bj qX xp)) (λ_ _=>rfl)
 (bE (aj (i5 (aw (ag (dt true) (jF (λ_=>rfl) (λa b c=>Da a b c) xp (ag kJ xv xk) (ag kJ xv xk)) (ag kK xp xv))) (f8 (aw (cZ (λa=>Ae a) (jF (λ_=>rfl) (λa b c=>Da a b c) xp (ag kJ xv xk) (ag kJ xv xk)))))))
 (aS (aj xk))
 aV))
 (aS (aj xk)))))
theorem JF(a:GΩ)(c:Int)(b:P1)(d:DI Int)(e:DI Int)(f:P1):SimO Bw D.bl (m_ba9 [aG a,D.int c,(eL (j8 D.int D.int)) b,(bL D.int) d,(bL D.int) e,(eL (j8 D.int D.int)) f]) (yS a c b d e f):=gm Qx rfl
structure S_bh9 where
 vcq:GΩ
 viq:Option (List Str)
 v0q:Option Int
 v2q:Option Int
 vnq:Option Int
def Bp:S_bh9->Mi.Env:=λs=>[some (aG s.vcq),s.viq.map (eL D.str),s.v0q.map D.int,s.v2q.map D.int,s.vnq.map D.int]
abbrev nF:=S_bh9->FlC S_bh9 (List Str)
def sE:nF:=bJ (λa s=>{s with viq:=some a}) (aY (lZ (fj:_->Res (List Str))))
def gM:nF:=bJ (λa s=>{s with vnq:=some a}) (aY (n6 AI (pC (·.vcq)) (vC (·.v0q)) (vC (·.v2q))))
def fX:nF:=bf (pZ (λs=>s.viq) (λs y=>{s with viq:=some y}) mG (B8 (gh fK (kC ("like " : Str)) (gh ik (vC (·.v0q)) (gh fK (kC (" " : Str)) (gh ik (vC (·.v2q)) (gh fK (kC (" " : Str)) (gh ik (vC (·.vnq)) EZ))))))))
def jJ:nF:=gv (aY (aC (i3 true) (vC (·.vnq)) (kC (0:Int))))
 fX
 bW
def jT:nF:=aA gM
 jJ
def jL:nF:=ci (aZ (fq 0) (cq oV (pC (·.vcq)))) (λa s=>{s with v2q:=some a})
 jT
def sD:nF:=ci (aZ (fq 0) (cq oV (pC (·.vcq)))) (λa s=>{s with v0q:=some a})
 jL
def Jr:nF:=bZ (BP (λs=>s.viq) (λs=>{s with viq:=none}))
def Aq:nF:=aA sE
 (aA sD
 Jr)
def Dm(a:GΩ):OutC S_bh9 (List Str):=cC none (Aq ⟨a,none,none,none,none⟩)
theorem Qq:Cl.TJ Bp (eL D.str) zL Aq:=ai (xs (aj (cM cL)))
 (ai (b7 (d9 (i4 (λ_=>rfl) (λa=>s8 a) xp)) (λ_ _=>rfl)
 (b7 (d9 (i4 (λ_=>rfl) (λa=>s8 a) xp)) (λ_ _=>rfl)
 (ai (xs (aj (jF (λ_=>rfl) (λa c b=>Da a c b) xp xv xv)))
 (bE (aj (aw (ag (dt true) xv xk)))
 (aJ (hZ (λ_=>rfl) (λ_ _=>rfl) pq (xN (kS xk (nl xv (kS xk (nl xv (kS xk (nl xv nj)))))))))
 aV))))
 (aS (j6 (λ_=>rfl) (λ_=>rfl))))
theorem QF(a:GΩ):SimO Bp (eL D.str) (m_bh9 [aG a]) (Dm a):=dE Qq rfl
structure S_bn9 where
 vcq:GΩ
 viq:Option (List Str)
 v0q:Option Int
def Bi:S_bn9->Mi.Env:=λs=>[some (aG s.vcq),s.viq.map (eL D.str),s.v0q.map D.int]
abbrev yO:=S_bn9->FlC S_bn9 (List Str)
def sj:yO:=bJ (λa s=>{s with viq:=some a}) (aY (lZ (fj:_->Res (List Str))))
def jH:yO:=bf (pZ (λs=>s.viq) (λs y=>{s with viq:=some y}) tL (cp (dM ER (pC (·.vcq)) (vC (·.v0q))) (λ_=> .ok true) (B8 (gh fK (kC ("shun " : Str)) (gh ik (vC λp=>p.2.v0q) (gh fK (kC (" " : Str)) (gh ik (pC λp=>p.1) EZ)))))))
def si:yO:=ci (aZ (fq 0) (cq oV (pC (·.vcq)))) (λa s=>{s with v0q:=some a})
 jH
def Jp:yO:=bZ (BP (λs=>s.viq) (λs=>{s with viq:=none}))
def Aj:yO:=aA sj
 (aA si
 Jp)
def Di(a:GΩ):OutC S_bn9 (List Str):=cC none (Aj ⟨a,none,none⟩)
theorem Qk:Cl.TJ Bi (eL D.str) zF Aj:=ai (xs (aj (cM cL)))
 (ai (b7 (d9 (i4 (λ_=>rfl) (λa=>s8 a) xp)) (λ_ _=>rfl)
 (aJ (hZ (λ_=>rfl) (λ_ _=>rfl) ur (dH (bV (im (λ_=>rfl) (λa b=>M9 a b) xp xv)) jE (xN (kS xk (nl xv (kS xk (nl xp nj)))))))))
 (aS (j6 (λ_=>rfl) (λ_=>rfl))))
theorem QB(a:GΩ):SimO Bi (eL D.str) (m_bn9 [aG a]) (Di a):=dE Qk rfl
structure S_bp9 where
 vcq:GΩ
 viq:Option (List Str)
 v0q:Option Int
def Bg:S_bp9->Mi.Env:=λs=>[some (aG s.vcq),s.viq.map (eL D.str),s.v0q.map D.int]
abbrev yN:=S_bp9->FlC S_bp9 (List Str)
def r9:yN:=bJ (λa s=>{s with viq:=some a}) (aY (lZ (fj:_->Res (List Str))))
def jG:yN:=bf (pZ (λs=>s.viq) (λs y=>{s with viq:=some y}) tL (cp (dM EU (pC (·.vcq)) (vC (·.v0q))) (aC LB (vC λp=>p.2.v0q) (pC λp=>p.1)) (B8 (gh fK (kC ("way " : Str)) (gh ik (vC λp=>p.2.v0q) (gh fK (kC (" " : Str)) (gh ik (pC λp=>p.1) EZ)))))))
def r8:yN:=ci (aZ (fq 0) (cq oV (pC (·.vcq)))) (λa s=>{s with v0q:=some a})
 jG
def Jo:yN:=bZ (BP (λs=>s.viq) (λs=>{s with viq:=none}))
def Ah:yN:=aA r9
 (aA r8
 Jo)
def Dh(a:GΩ):OutC S_bp9 (List Str):=cC none (Ah ⟨a,none,none⟩)
theorem Qi:Cl.TJ Bg (eL D.str) zD Ah:=ai (xs (aj (cM cL)))
 (ai (b7 (d9 (i4 (λ_=>rfl) (λa=>s8 a) xp)) (λ_ _=>rfl)
 (aJ (hZ (λ_=>rfl) (λ_ _=>rfl) ur (dH (bV (im (λ_=>rfl) (λa b=>Na a b) xp xv)) (aw (ag zx xv xp)) (xN (kS xk (nl xv (kS xk (nl xp nj)))))))))
 (aS (j6 (λ_=>rfl) (λ_=>rfl))))
theorem Qz(a:GΩ):SimO Bg (eL D.str) (m_bp9 [aG a]) (Dh a):=dE Qi rfl
structure S_v9 where
 vvq:Int
 vxq:P1
 vaq:(DI Int)
 v5q:(DI Int)
 vuq:P1
 vcq:Option GΩ
 v0q:Option Int
 v2q:Option Int
 vlq:Option (List Int)
 vgq:Option (List Int)
def FU:S_v9->Mi.Env:=λs=>[some (D.int s.vvq),some ((eL (j8 D.int D.int)) s.vxq),some ((bL D.int) s.vaq),some ((bL D.int) s.v5q),some ((eL (j8 D.int D.int)) s.vuq),s.vcq.map aG,s.v0q.map D.int,s.v2q.map D.int,s.vlq.map (lF D.int),s.vgq.map (lF D.int)]
abbrev tq:=S_v9->FlC S_v9 GΩ
def vW:tq:=bJ (λa s=>{s with vcq:=some a}) (aY (Oa mk_Guild (pC (·.vvq))))
def oP:tq:=bf (q9 EW (λa s=>{s with vcq:=some a.vtq}) (vC (·.vcq)) (vC (·.v0q)) (vC (·.v2q)))
def Cs:tq:=ci (pC (·.vxq)) (λa s=>{s with v0q:=some a.1,v2q:=some a.2})
 oP
def oO:tq:=bf (Lv EV (λa s=>{s with vcq:=some a.vtq}) (vC (·.vcq)) (aC ox (vC (·.vlq)) (kC (0:Int))) (aC ox (vC (·.vlq)) (kC (1:Int))) (aC Ce (pC (·.vaq)) (vC (·.vlq))))
def Cr:tq:=ci (aZ lM (pC (·.vaq))) (λa s=>{s with vlq:=some a})
 oO
def oN:tq:=bf (q9 EQ (λa s=>{s with vcq:=some a.vtq}) (vC (·.vcq)) (aZ E1 (vC (·.vgq))) (aC Ce (pC (·.v5q)) (vC (·.vgq))))
def Cq:tq:=ci (aZ lM (pC (·.v5q))) (λa s=>{s with vgq:=some a})
 oN
def oM:tq:=bf (q9 ES (λa s=>{s with vcq:=some a.vtq}) (vC (·.vcq)) (vC (·.v0q)) (vC (·.v2q)))
def Cp:tq:=ci (pC (·.vuq)) (λa s=>{s with v0q:=some a.1,v2q:=some a.2})
 oM
def Co:tq:=bZ (BP (λs=>s.vcq) (λs=>{s with vcq:=none}))
def JK:tq:=aA vW
 (aA Cs
 (aA Cr
 (aA Cq
 (aA Cp
 Co))))
def Mh(b:Int)(a:P1)(c:DI Int)(d:DI Int)(e:P1):OutC S_v9 GΩ:=cC none (JK ⟨b,a,c,d,e,none,none,none,none,none⟩)
theorem Ua:Cl.TJ FU aG Hs JK:=ai (xs (aj (IU lN xp)))
 (ai (b7 (bV xp) (λ_ _=>rfl)
 (aJ (iY (λ_=>rfl) (λ_ _=>rfl) (λc b a=>JA c b a) xv (dF (λ_=>rfl) xv) (dF (λ_=>rfl) xv))))
 (ai (b7 (bV (bj qX xp)) (λ_ _=>rfl)
 (aJ (zz (λ_=>rfl) (λ_ _=>rfl) (λc b a d=>Jz c b a d) xv (dF (λ_=>rfl) (ag kJ xv xk)) (dF (λ_=>rfl) (ag kJ xv xk)) (dF (λ_=>rfl) (ag kK xp xv)))))
 (ai (b7 (bV (bj qX xp)) (λ_ _=>rfl)
 (aJ (iY (λ_=>rfl) (λ_ _=>rfl) (λc b a=>Jw c b a) xv (bj vf (IX (K2 (λ_=>rfl)) xv)) (dF (λ_=>rfl) (ag kK xp xv)))))
 (ai (b7 (bV xp) (λ_ _=>rfl)
 (aJ (iY (λ_=>rfl) (λ_ _=>rfl) (λc b a=>Jx c b a) xv (dF (λ_=>rfl) xv) (dF (λ_=>rfl) xv))))
 (aS (j6 (λ_=>rfl) (λ_=>rfl)))))))
theorem UC(b:Int)(a:P1)(c:DI Int)(d:DI Int)(e:P1):SimO FU aG (m_v9 [D.int b,(eL (j8 D.int D.int)) a,(bL D.int) c,(bL D.int) d,(eL (j8 D.int D.int)) e]) (Mh b a c d e):=dE Ua rfl
structure S_z9 where
 vcq:GΩ
 vxq:P1
 vaq:(DI Int)
 v5q:(DI Int)
 vuq:P1
 v3q:Int
 vvq:Option Int
 v0q:Option Int
 v2q:Option Int
def FR:S_z9->Mi.Env:=λs=>[some (aG s.vcq),some ((eL (j8 D.int D.int)) s.vxq),some ((bL D.int) s.vaq),some ((bL D.int) s.v5q),some ((eL (j8 D.int D.int)) s.vuq),some (D.int s.v3q),s.vvq.map D.int,s.v0q.map D.int,s.v2q.map D.int]
abbrev jq:=S_z9->FlC S_z9 Unit
def vN:jq:=bJ (λa s=>{s with vvq:=some a}) (aY (cq oV (pC (·.vcq))))
def vM:jq:=bJ (λa s=>{s with v0q:=some a}) (aY (aC c9 (aC iP (pC (·.v3q)) (kC (4:Int))) (vC (·.vvq))))
def vL:jq:=bJ (λa s=>{s with v2q:=some a}) (aY (aC c9 (aC iA (aC iA (vC (·.v0q)) (kC (1:Int))) (aC c9 (aC iP (pC (·.v3q)) (kC (7:Int))) (aC tI (kC (1:Int)) (aC lR (vC (·.vvq)) (kC (1:Int)))))) (vC (·.vvq))))
def pD:jq:=bf (Lv EV (λa s=>{s with vcq:=a.vtq}) (pC (·.vcq)) (vC (·.v0q)) (vC (·.v2q)) (kC (5:Int)))
def pA:jq:=j9 (λs=>some s.vaq) (λs y=>{s with vaq:=y}) (aZ fN (kz (vC (·.v0q)) (vC (·.v2q)))) (aY (kC (5:Int)))
def gq:jq:=bf (q9 ES (λa s=>{s with vcq:=a.vtq}) (pC (·.vcq)) (vC (·.v0q)) (vC (·.v2q)))
def gw:jq:=bf (pZ (λs=>some s.vuq) (λs y=>{s with vuq:=y}) mG (kz (vC (·.v0q)) (vC (·.v2q))))
def gp:jq:=gv (aY (aC (LQ true) (kz (vC (·.v0q)) (vC (·.v2q))) (pC (·.vuq))))
 gw
 bW
def gy:jq:=bf (q9 EQ (λa s=>{s with vcq:=a.vtq}) (pC (·.vcq)) (lZ (bx (aC tI (vC (·.v0q)) (vC (·.v2q))) (bx (kC (0:Int)) (fj:_->Res (List Int))))) (kC (7:Int)))
def gx:jq:=j9 (λs=>some s.v5q) (λs y=>{s with v5q:=y}) (aZ fN (kz (aC tI (vC (·.v0q)) (vC (·.v2q))) (kC (0:Int)))) (aY (kC (7:Int)))
def fi:jq:=bf (q9 Mn (λa s=>{s with vcq:=a.vtq}) (pC (·.vcq)) (vC (·.v0q)) (vC (·.v2q)))
def fh:jq:=bf (pZ (λs=>some s.vxq) (λs y=>{s with vxq:=y}) zn (kz (aC D3 (vC (·.v0q)) (vC (·.v2q))) (aC tI (vC (·.v0q)) (vC (·.v2q)))))
def dX:jq:=bf (q9 EW (λa s=>{s with vcq:=a.vtq}) (pC (·.vcq)) (vC (·.v0q)) (vC (·.v2q)))
def dW:jq:=bf (pZ (λs=>some s.vxq) (λs y=>{s with vxq:=y}) mG (kz (aC D3 (vC (·.v0q)) (vC (·.v2q))) (aC tI (vC (·.v0q)) (vC (·.v2q)))))
def bM:jq:=gv (aY (aC (i3 true) (vC (·.v0q)) (vC (·.v2q))))
 (aA dX
 dW)
 bW
def bR:jq:=gv (aY (oT (aC (i3 true) (vC (·.v0q)) (vC (·.v2q))) (aC (LQ false) (kz (aC D3 (vC (·.v0q)) (vC (·.v2q))) (aC tI (vC (·.v0q)) (vC (·.v2q)))) (pC (·.vxq)))))
 (aA fi
 fh)
 bM
def cu:jq:=gv (aY (oT (aC (i3 false) (aC c9 (pC (·.v3q)) (kC (4:Int))) (kC (2:Int))) (aC (i3 true) (vC (·.v0q)) (vC (·.v2q)))))
 (aA gy
 gx)
 bR
def cU:jq:=gv (aY (oT (aC (i3 false) (aC c9 (pC (·.v3q)) (kC (4:Int))) (kC (1:Int))) (aC (i3 true) (vC (·.v0q)) (vC (·.v2q)))))
 (aA gq
 gp)
 cu
def eZ:jq:=gv (aY (aC (i3 false) (aC c9 (pC (·.v3q)) (kC (4:Int))) (kC (0:Int))))
 (aA pD
 pA)
 cU
def JG:jq:=aA vN
 (aA vM
 (aA vL
 eZ))
def Ku(a:GΩ)(b:P1)(c:DI Int)(d:DI Int)(f:P1)(e:Int):OutC S_z9 Unit:=cC (some ()) (JG ⟨a,b,c,d,f,e,none,none,none⟩)
theorem T6:Cl.TJ FR eN Hn JG:=ai (xs (aj (i4 (λ_=>rfl) (λa=>s8 a) xp)))
 (ai (xs (aj (ag cg (ag hV xp xk) xv)))
 (ai (xs (aj (ag cg (ag gt (ag gt xv xk) (ag cg (ag hV xp xk) (ag qW xk (ag kH xv xk)))) xv)))
 (bE (aj (aw (ag (dt false) (ag cg xp xk) xk)))
 (ai (aJ (zz (λ_=>rfl) (λ_ _=>rfl) (λa c b d=>Jz a c b d) xp xv xv xk))
 (fo (λ_=>rfl) (λ_ _=>rfl) (bO dh (br xv xv)) (aj xk)))
 (bE (aj (gK (aw (ag (dt false) (ag cg xp xk) xk)) (aw (ag (dt true) xv xv))))
 (ai (aJ (iY (λ_=>rfl) (λ_ _=>rfl) (λa c b=>Jx a c b) xp xv xv))
 (bE (aj (aw (ag (G8 (oK jj jj) (by decide)) (br xv xv) xp)))
 (aJ (hZ (λ_=>rfl) (λ_ _=>rfl) pq (br xv xv)))
 aV))
 (bE (aj (gK (aw (ag (dt false) (ag cg xp xk) xk)) (aw (ag (dt true) xv xv))))
 (ai (aJ (iY (λ_=>rfl) (λ_ _=>rfl) (λa c b=>Jw a c b) xp (cM (bb (ag qW xv xv) (bb xk cL))) xk))
 (fo (λ_=>rfl) (λ_ _=>rfl) (bO dh (br (ag qW xv xv) xk)) (aj xk)))
 (bE (aj (gK (aw (ag (dt true) xv xv)) (aw (ag (Ha (oK jj jj) (by decide)) (br (ag BL xv xv) (ag qW xv xv)) xp))))
 (ai (aJ (iY (λ_=>rfl) (λ_ _=>rfl) (λa c b=>UI a c b) xp xv xv))
 (aJ (hZ (λ_=>rfl) (λ_ _=>rfl) (TZ (oK jj jj) (by decide)) (br (ag BL xv xv) (ag qW xv xv)))))
 (bE (aj (aw (ag (dt true) xv xv)))
 (ai (aJ (iY (λ_=>rfl) (λ_ _=>rfl) (λa c b=>JA a c b) xp xv xv))
 (aJ (hZ (λ_=>rfl) (λ_ _=>rfl) pq (br (ag BL xv xv) (ag qW xv xv)))))
 aV)))))))
theorem Uz(a:GΩ)(b:P1)(c:DI Int)(e:DI Int)(g:P1)(f:Int):SimO FR eN (m_z9 [aG a,(eL (j8 D.int D.int)) b,(bL D.int) c,(bL D.int) e,(eL (j8 D.int D.int)) g,D.int f]) (Ku a b c e g f):=kR (d:=()) rfl T6 rfl
structure S_bm9 where
 vcq:GΩ
 vvq:Option Int
 viq:Option (List Str)
def Bj:S_bm9->Mi.Env:=λs=>[some (aG s.vcq),s.vvq.map D.int,s.viq.map (eL D.str)]
abbrev pR:=S_bm9->FlC S_bm9 Str
def sv:pR:=bJ (λa s=>{s with vvq:=some a}) (aY (cq oV (pC (·.vcq))))
def ss:pR:=bJ (λa s=>{s with viq:=some a}) (aY (lZ (bx (B8 (gh fK (kC ("houses " : Str)) (gh ik (vC (·.vvq)) EZ))) (fj:_->Res (List Str)))))
def sr:pR:=bf (pZ (λs=>s.viq) (λs y=>{s with viq:=some y}) tL (cq Dh (pC (·.vcq))))
def sn:pR:=bf (pZ (λs=>s.viq) (λs y=>{s with viq:=some y}) tL (cq Dm (pC (·.vcq))))
def sm:pR:=bf (pZ (λs=>s.viq) (λs y=>{s with viq:=some y}) tL (cq Di (pC (·.vcq))))
def sk:pR:=bf (pZ (λs=>s.viq) (λs y=>{s with viq:=some y}) tL (cq Dg (pC (·.vcq))))
def yg:pR:=bZ (aY (aC mZ (kC ("" : Str)) (cp (vC (·.viq)) (λ_=> .ok true) (aC pQ (pC λp=>p.1) (kC ("\n" : Str))))))
def Ak:pR:=aA sv
 (aA ss
 (aA sr
 (aA sn
 (aA sm
 (aA sk
 yg)))))
def yP(a:GΩ):OutC S_bm9 Str:=cC none (Ak ⟨a,none,none⟩)
theorem Ql:Cl.TJ Bj D.str zG Ak:=ai (xs (aj (i4 (λ_=>rfl) (λa=>s8 a) xp)))
 (ai (xs (aj (cM (bb (xN (kS xk (nl xv nj))) cL))))
 (ai (aJ (hZ (λ_=>rfl) (λ_ _=>rfl) ur (cZ (λa=>Qz a) xp)))
 (ai (aJ (hZ (λ_=>rfl) (λ_ _=>rfl) ur (cZ (λa=>QF a) xp)))
 (ai (aJ (hZ (λ_=>rfl) (λ_ _=>rfl) ur (cZ (λa=>QB a) xp)))
 (ai (aJ (hZ (λ_=>rfl) (λ_ _=>rfl) ur (cZ (λa=>Qy a) xp)))
 (aS (aj (kT vg xk (dH (bV xv) jE (ag Hb xp xk))))))))))
theorem JB(a:GΩ):SimO Bj D.str (m_bm9 [aG a]) (yP a):=gm Ql rfl
structure S_bo9 where
 vcq:GΩ
 vzq:(List Str)
 vhq:Option Str
 vkq:Option (List Int)
def Bh:S_bo9->Mi.Env:=λs=>[some (aG s.vcq),some ((eL D.str) s.vzq),s.vhq.map D.str,s.vkq.map (eL D.int)]
abbrev le:=S_bo9->FlC S_bo9 Unit
def sg:le:=bJ (λa s=>{s with vhq:=some a}) (aY (aC ox (pC (·.vzq)) (kC (0:Int))))
def sf:le:=bJ (λa s=>{s with vkq:=some a}) (aY (cp (aC rN (pC (·.vzq)) (kC (1:Int))) (λ_=> .ok true) (cq nJ (pC λp=>p.1))))
def nr:le:=bf (q9 EW (λa s=>{s with vcq:=a.vtq}) (pC (·.vcq)) (aC ox (vC (·.vkq)) (kC (0:Int))) (aC ox (vC (·.vkq)) (kC (1:Int))))
def jm:le:=bf (Lv EV (λa s=>{s with vcq:=a.vtq}) (pC (·.vcq)) (aC ox (vC (·.vkq)) (kC (0:Int))) (aC ox (vC (·.vkq)) (kC (1:Int))) (aC ox (vC (·.vkq)) (kC (2:Int))))
def ge:le:=bf (q9 ES (λa s=>{s with vcq:=a.vtq}) (pC (·.vcq)) (aC ox (vC (·.vkq)) (kC (0:Int))) (aC ox (vC (·.vkq)) (kC (1:Int))))
def eT:le:=bf (q9 EQ (λa s=>{s with vcq:=a.vtq}) (pC (·.vcq)) (aC rN (vC (·.vkq)) (kC (1:Int))) (aC ox (vC (·.vkq)) (kC (0:Int))))
def gf:le:=gv (aY (oT (aC (i3 false) (vC (·.vhq)) (kC ("wish" : Str))) (aC IM (aZ lE (vC (·.vkq))) (kC (0:Int)))))
 eT
 nD
def fW:le:=gv (aY (oT (aC (i3 false) (vC (·.vhq)) (kC ("shun" : Str))) (aC (i3 false) (aZ lE (vC (·.vkq))) (kC (2:Int)))))
 ge
 gf
def gL:le:=gv (aY (oT (aC (i3 false) (vC (·.vhq)) (kC ("like" : Str))) (aC (i3 false) (aZ lE (vC (·.vkq))) (kC (3:Int)))))
 jm
 fW
def jn:le:=gv (aY (oT (aC (i3 false) (vC (·.vhq)) (kC ("way" : Str))) (aC (i3 false) (aZ lE (vC (·.vkq))) (kC (2:Int)))))
 nr
 gL
def Ai:le:=aA sg
 (aA sf
 jn)
def nI(b:GΩ)(a:List Str):OutC S_bo9 Unit:=cC (some ()) (Ai ⟨b,a,none,none⟩)
theorem Qj:Cl.TJ Bh eN zE Ai:=ai (xs (aj (ag jc xp xk)))
 (ai (xs (aj (dH (bV (ag zy xp xk)) jE (cZ (λa=>JC a) xp))))
 (bE (aj (gK (aw (ag (mV false) xv xk)) (aw (ag (dt false) (bj gk xv) xk))))
 (aJ (iY (λ_=>rfl) (λ_ _=>rfl) (λa c b=>JA a c b) xp (ag jc xv xk) (ag jc xv xk)))
 (bE (aj (gK (aw (ag (mV false) xv xk)) (aw (ag (dt false) (bj gk xv) xk))))
 (aJ (zz (λ_=>rfl) (λ_ _=>rfl) (λa c b d=>Jz a c b d) xp (ag jc xv xk) (ag jc xv xk) (ag jc xv xk)))
 (bE (aj (gK (aw (ag (mV false) xv xk)) (aw (ag (dt false) (bj gk xv) xk))))
 (aJ (iY (λ_=>rfl) (λ_ _=>rfl) (λa c b=>Jx a c b) xp (ag jc xv xk) (ag jc xv xk)))
 (bE (aj (gK (aw (ag (mV false) xv xk)) (aw (ag DX (bj gk xv) xk))))
 (aJ (iY (λ_=>rfl) (λ_ _=>rfl) (λa c b=>Jw a c b) xp (ag zy xv xk) (ag jc xv xk)))
 fP)))))
theorem QA(b:GΩ)(a:List Str):SimO Bh eN (m_bo9 [aG b,(eL D.str) a]) (nI b a):=kR (d:=()) rfl Qj rfl
structure S_bj9 where
 vwq:Str
 vqq:Option (List (List Str))
 vcq:Option GΩ
 vzq:Option (List Str)
 v7q:Option Int
def Bm:S_bj9->Mi.Env:=λs=>[some (D.str s.vwq),s.vqq.map (eL (eL D.str)),s.vcq.map aG,s.vzq.map (eL D.str),s.v7q.map D.int]
abbrev tw:=S_bj9->FlC S_bj9 GΩ
def sx:tw:=bJ (λa s=>{s with vqq:=some a}) (aY (cq Dj (pC (·.vwq))))
def mh:tw:=bJ (λa s=>{s with vcq:=some a}) (aY (cq Ml (aC ox (vC (·.vqq)) (kC (0:Int)))))
def cV:tw:=bf (TD nI (λa s=>{s with vcq:=some a.vcq}) (vC (·.vcq)) (vC (·.vzq)))
def mf:tw:=ci (aC rN (vC (·.vqq)) (kC (1:Int))) (λa s=>{s with vzq:=some a})
 cV
def yj:tw:=aA mh
 mf
def Jq:tw:=bZ (BP (λs=>s.vcq) (λs=>{s with vcq:=none}))
def An:tw:=aA sx
 (aA yj
 Jq)
def Dl(a:Str):OutC S_bj9 GΩ:=cC none (An ⟨a,none,none,none,none⟩)
theorem Qo:Cl.TJ Bm aG zJ An:=ai (xs (aj (cZ (λa=>QC a) xp)))
 (ai (ai (xs (aj (cZ (λa=>UG a) (ag jc xv xk))))
 (b7 (bV (ag zy xv xk)) (λ_ _=>rfl)
 (aJ (OS (λ_ _=>rfl) (λa b=>QA a b) xv xv))))
 (aS (j6 (λ_=>rfl) (λ_=>rfl))))
theorem QE(a:Str):SimO Bm aG (m_bj9 [D.str a]) (Dl a):=dE Qo rfl
structure S_bg9 where
 vcq:GΩ
 vvq:Int
 vxq:P1
 vaq:(DI Int)
 v5q:(DI Int)
 vuq:P1
 vwq:Option Str
 v6q:Option Str
 v1q:Option GΩ
def Bq:S_bg9->Mi.Env:=λs=>[some (aG s.vcq),some (D.int s.vvq),some ((eL (j8 D.int D.int)) s.vxq),some ((bL D.int) s.vaq),some ((bL D.int) s.v5q),some ((eL (j8 D.int D.int)) s.vuq),s.vwq.map D.str,s.v6q.map D.str,s.v1q.map aG]
abbrev nG:=S_bg9->FlC S_bg9 Bool
def sG:nG:=bJ (λa s=>{s with vwq:=some a}) (aY (cq yP (pC (·.vcq))))
def sF:nG:=bJ (λa s=>{s with v6q:=some a}) (aY (aC mZ (kC ("" : Str)) (aC jV (lZ (bx (cq lG (lZ (bx (aZ iw (kC ("houses" : Str))) (bx (aZ eU (pC (·.vvq))) (fj:_->Res (List D)))))) (fj:_->Res (List Str)))) (Lc Kv (pC (·.vxq)) (pC (·.vaq)) (pC (·.v5q)) (pC (·.vuq))))))
def wg:nG:=bZ (aY (kC false))
def yn:nG:=gv (aY (GS (aZ n9 (aZ (Vh true) (vC (·.vwq)))) (aC (i3 true) (vC (·.vwq)) (vC (·.v6q)))))
 wg
 bW
def ym:nG:=bJ (λa s=>{s with v1q:=some a}) (aY (cq Dl (vC (·.vwq))))
def we:nG:=bZ (aY (kC false))
def yl:nG:=gv (aY (GS (aC (i3 true) (cq yP (vC (·.v1q))) (vC (·.v6q))) (aZ n9 (GK yS (vC (·.v1q)) (pC (·.vvq)) (pC (·.vxq)) (pC (·.vaq)) (pC (·.v5q)) (pC (·.vuq))))))
 we
 bW
def yk:nG:=bZ (aY (GK yS (pC (·.vcq)) (pC (·.vvq)) (pC (·.vxq)) (pC (·.vaq)) (pC (·.v5q)) (pC (·.vuq))))
def Ar:nG:=aA sG
 (aA sF
 (aA yn
 (aA ym
 (aA yl
 yk))))
def yQ(a:GΩ)(c:Int)(b:P1)(d:DI Int)(e:DI Int)(f:P1):OutC S_bg9 Bool:=cC none (Ar ⟨a,c,b,d,e,f,none,none,none⟩)
theorem Qr:Cl.TJ Bq D.bl zM Ar:=ai (xs (aj (cZ (λa=>JB a) xp)))
 (ai (xs (aj (kT vg xk (ag xi (cM (bb (cZ (λa=>yD a) (cM (bb (bO nE xk) (bb (bO gP xp) cL)))) cL)) (P9 (λa f d c=>UB a f d c) xp xp xp xp)))))
 (ai (bE (aj (i5 (f8 (aw (Ab (e:=D.str) (n := "str") (b:=true) (λ_=>rfl) xv))) (aw (ag (mV true) xv xv))))
 (aS (aj xk))
 aV)
 (ai (xs (aj (cZ (λa=>QE a) xv)))
 (ai (bE (aj (i5 (aw (ag (mV true) (cZ (λa=>JB a) xv) xv)) (f8 (aw (vE (λa f d c h g=>JF a f d c h g) xv xp xp xp xp xp)))))
 (aS (aj xk))
 aV)
 (aS (aj (vE (λa f d c h g=>JF a f d c h g) xp xp xp xp xp xp)))))))
theorem JD(a:GΩ)(c:Int)(b:P1)(d:DI Int)(e:DI Int)(f:P1):SimO Bq D.bl (m_bg9 [aG a,D.int c,(eL (j8 D.int D.int)) b,(bL D.int) d,(bL D.int) e,(eL (j8 D.int D.int)) f]) (yQ a c b d e f):=gm Qr rfl
structure S_q9 where
 vrq:(List Int)
 v9q:Option Int
 vvq:Option Int
 vxq:Option P1
 vaq:Option (DI Int)
 v5q:Option (DI Int)
 vuq:Option P1
 vcq:Option GΩ
def FZ:S_q9->Mi.Env:=λs=>[some (eS s.vrq),s.v9q.map D.int,s.vvq.map D.int,s.vxq.map (eL (j8 D.int D.int)),s.vaq.map (bL D.int),s.v5q.map (bL D.int),s.vuq.map (eL (j8 D.int D.int)),s.vcq.map aG]
abbrev kf:=S_q9->FlC S_q9 Bool
def wc:kf:=bJ (λa s=>{s with v9q:=some a}) (aY (dM kg (pC (·.vrq)) (kC (0:Int))))
def v9:kf:=bJ (λa s=>{s with vvq:=some a}) (aY (aC iA (kC (1:Int)) (aC c9 (vC (·.v9q)) (kC (7:Int)))))
def v8:kf:=bJ (λa s=>{s with vxq:=some a}) (aY (dM Do (dM kg (pC (·.vrq)) (kC (1:Int))) (vC (·.vvq))))
def kX:kf:=bJ (λa s=>{s with vvq:=some a}) (aY (kC (60:Int)))
def kW:kf:=bJ (λa s=>{s with vxq:=some a}) (aY (cp (aZ (fq 0) (kC (30:Int))) (aC IM (aC c9 (aC iA (aC og (pC λp=>p.1) (kC (7:Int))) (dM kg (pC λp=>p.2.vrq) (kC (1:Int)))) (kC (5:Int))) (kC (0:Int))) (kz (pC λp=>p.1) (aC lR (kC (59:Int)) (pC λp=>p.1)))))
def qm:kf:=gv (aY (aC (i3 false) (aC c9 (aC iP (vC (·.v9q)) (kC (7:Int))) (kC (4:Int))) (kC (1:Int))))
 (aA kX
 kW)
 bW
def v7:kf:=bJ (λa s=>{s with vaq:=some a}) (aY (dM Mj (dM kg (pC (·.vrq)) (kC (2:Int))) (vC (·.vvq))))
def v6:kf:=bJ (λa s=>{s with v5q:=some a}) (aY (dM Kx (dM kg (pC (·.vrq)) (kC (3:Int))) (vC (·.vvq))))
def v5:kf:=bJ (λa s=>{s with vuq:=some a}) (aY (dM yR (dM kg (pC (·.vrq)) (kC (4:Int))) (vC (·.vvq))))
def v0:kf:=j9 (λs=>s.vaq) (λs y=>{s with vaq:=some y}) (aZ fN (kz (aC c9 (dM kg (pC (·.vrq)) (kC (5:Int))) (vC (·.vvq))) (aC c9 (dM kg (pC (·.vrq)) (kC (6:Int))) (vC (·.vvq))))) (aY (cq Kw (dM kg (pC (·.vrq)) (kC (7:Int)))))
def pJ:kf:=j9 (λs=>s.v5q) (λs y=>{s with v5q:=some y}) (aZ fN (kz (aC iA (kC (1:Int)) (aC c9 (dM kg (pC (·.vrq)) (kC (8:Int))) (aC lR (vC (·.vvq)) (kC (1:Int))))) (kC (0:Int)))) (aY (cq Kw (dM kg (pC (·.vrq)) (kC (9:Int)))))
def ql:kf:=gv (aY (aC IM (vC (·.vvq)) (kC (1:Int))))
 pJ
 bW
def rX:kf:=bJ (λa s=>{s with vcq:=some a}) (aY (R5 Mh (vC (·.vvq)) (vC (·.vxq)) (vC (·.vaq)) (vC (·.v5q)) (vC (·.vuq))))
def wa:kf:=bZ (aY (kC false))
def rW:kf:=gv (aY (aZ n9 (GK yQ (vC (·.vcq)) (vC (·.vvq)) (vC (·.vxq)) (vC (·.vaq)) (vC (·.v5q)) (vC (·.vuq)))))
 wa
 bW
def rV:kf:=bf (TC Ku (λa s=>{s with vcq:=some a.vcq,vxq:=some a.vxq,vaq:=some a.vaq,v5q:=some a.v5q,vuq:=some a.vuq}) (vC (·.vcq)) (vC (·.vxq)) (vC (·.vaq)) (vC (·.v5q)) (vC (·.vuq)) (dM kg (pC (·.vrq)) (kC (10:Int))))
def rT:kf:=bZ (aY (GK yQ (vC (·.vcq)) (vC (·.vvq)) (vC (·.vxq)) (vC (·.vaq)) (vC (·.v5q)) (vC (·.vuq))))
def JN:kf:=aA wc
 (aA v9
 (aA v8
 (aA qm
 (aA v7
 (aA v6
 (aA v5
 (aA v0
 (aA ql
 (aA rX
 (aA rW
 (aA rV
 rT)))))))))))
def Q9(a:List Int):OutC S_q9 Bool:=cC none (JN ⟨a,none,none,none,none,none,none,none⟩)
theorem Ug:Cl.TJ FZ D.bl Hw JN:=ai (xs (aj (dG (λa b=>ka a b) xp xk)))
 (ai (xs (aj (ag gt xk (ag cg xv xk))))
 (ai (xs (aj (dG (λa b=>QG a b) (dG (λa b=>ka a b) xp xk) xv)))
 (ai (bE (aj (aw (ag (dt false) (ag cg (ag hV xv xk) xk) xk)))
 (ai (xs (aj xk))
 (xs (aj (dH (d9 xk) (aw (ag DX (ag cg (ag gt (ag qV xp xk) (dG (λa b=>ka a b) xp xk)) xk) xk)) (br xp (ag kH xk xp))))))
 aV)
 (ai (xs (aj (dG (λa b=>UD a b) (dG (λa b=>ka a b) xp xk) xv)))
 (ai (xs (aj (dG (λa b=>UE a b) (dG (λa b=>ka a b) xp xk) xv)))
 (ai (xs (aj (dG (λa b=>QI a b) (dG (λa b=>ka a b) xp xk) xv)))
 (ai (fo (λ_=>rfl) (λ_ _=>rfl) (bO dh (br (ag cg (dG (λa b=>ka a b) xp xk) xv) (ag cg (dG (λa b=>ka a b) xp xk) xv))) (aj (cZ (λa=>M8 a) (dG (λa b=>ka a b) xp xk))))
 (ai (bE (aj (aw (ag DX xv xk)))
 (fo (λ_=>rfl) (λ_ _=>rfl) (bO dh (br (ag gt xk (ag cg (dG (λa b=>ka a b) xp xk) (ag kH xv xk))) xk)) (aj (cZ (λa=>M8 a) (dG (λa b=>ka a b) xp xk))))
 aV)
 (ai (xs (aj (P8 (λa b e d c=>UC a b e d c) xv xv xv xv xv)))
 (ai (bE (aj (f8 (aw (vE (λa b e d c f=>JD a b e d c f) xv xv xv xv xv xv))))
 (aS (aj xk))
 aV)
 (ai (aJ (OR (λ_ _=>rfl) (λa b e d c f=>Uz a b e d c f) xv xv xv xv xv (dG (λa b=>ka a b) xp xk)))
 (aS (aj (vE (λa b e d c f=>JD a b e d c f) xv xv xv xv xv xv))))))))))))))
theorem UF(a:List Int):SimO FZ D.bl (m_q9 [eS a]) (Q9 a):=gm Ug rfl
end
def dO(ns:List Int)(k:Int):Int:=(ns[k.toNat]?).getD 0
theorem KZ(ns:List Int)(k:Int)(a:0<=k):(kg ns k).res= .ok (dO ns k):=by
 unfold kg JM CA Cz pH dO;by_cases h:k<ns.length
 ·obtain⟨v,e⟩:∃ v,ns[k.toNat]?=some v:=⟨_,V1 (by omega)⟩;simp[h,k8 ns a,e]
 ·have e:ns[k.toNat]?=none:=Wd (by omega);simp[h,e]
def iy(sz:Int)(k:List Int):Prop:=∃ a b,k=[a,b]/\0<=a/\a<sz/\0<=b/\b<sz
theorem gr{W:Type}:∀ {l:List W} {j:Nat} (h:j<l.length),(l[j]::l.eraseIdx j).Perm l
 |x::l,0,h=>List.Perm.refl _
 | x::l,j+1,h=>by
   have a:=gr (l:=l) (j:=j) (by simpa using h);rw[Wt,List.getElem_cons_succ];exact(List.Perm.swap x _ _).trans (a.cons x)
structure RoadOk (sz:Int) (r:List Int):Prop where
 two:2<=r.length
 last:r.getLast?=some 0
 nd:r.Nodup
 all:∀ x∈r,0<=x/\x<sz
theorem N9{W:Type}{l:List W}{i:Int}(h0:0<=i)(a:i<l.length)(b:l.length<=20000):∃ (h:i.toNat<l.length),GC l i=some (l[i.toNat],l.eraseIdx i.toNat):=by
 have h:i.toNat<l.length:=by omega
 refine⟨h,?_⟩;unfold GC;rw[if_pos ⟨h0,a,by unfold ak; omega⟩,List.getElem?_eq_getElem h];rfl
theorem k9{W:Type}{l:List W}{x:W}(h:l.length<ak):mG l x=some ((),l++[x]):=by unfold mG; rw[if_pos h]
theorem s9{W:Type}{l m:List W}(h:l.length+m.length<=ak):jV l m= .ok (l++m):=by unfold jV; rw[if_pos h]
theorem KQ(c h sz:Int)(L:1<=h)(K:h<sz)(U:sz<=1000):∃ r,(Mg c h sz).res= .ok r/\RoadOk sz r/\(∃ t,r=h::t)/\r.length<=1001:=by
 have C:cp (aC fq (kC (1:Int)) (pC (·.vvq))) (aC (i3 true) (pC λp=>p.1) (pC λp=>p.2.vdq)) (pC λp=>p.1) (⟨c,h,sz,none,none,none⟩:S_y9)= .ok ((bg 1 sz).filter λx=>!decide (x=h)):=by
  rw[jQ (l:=bg 1 sz) (λx=>!decide (x=h)) (λx=>x) (by simp[dQ (lo:=1) (hi:=sz) (by omega) (by omega) (by omega) (by omega)]) (by rw[bH]; unfold ak; omega) (λa _=>by simp) (λa _ _=>by simp)];simp
 have hR:∀ x∈(bg 1 sz).filter (λx=>!decide (x=h)),1<=x/\x<sz/\x≠h:=λx g=>by
  obtain⟨F,E⟩:=List.mem_filter.mp g
  have:=d6.mp F
  exact⟨this.1,this.2,by simpa using E⟩
 have i:((bg 1 sz).filter λx=>!decide (x=h)).Nodup:=(qY 1 sz).filter _;have y:((bg 1 sz).filter λx=>!decide (x=h)).length<=999:=V4 (Wo _ _) (by rw[bH]; omega);generalize (bg 1 sz).filter (λx=>!decide (x=h))=d at C hR i y
 have D:=AK (t:=aY (oT (aC IM (vC (·.vjq)) (kC (0:Int))) (aC IM (aZ lE (vC (·.voq))) (kC (0:Int))))) (c:=wm)
  (λn (s:S_y9)=>∃ f m cJ mid,s=⟨f,h,sz,some cJ,some (h::mid),some m⟩/\cJ.length=n/\(h::mid++cJ).Nodup/\(∀ x∈h::mid++cJ,1<=x/\x<sz)/\(h::mid++cJ).length<=1000)
  (λs=>∃ f m cJ mid,s=⟨f,h,sz,some cJ,some (h::mid),some m⟩/\(h::mid).Nodup/\(∀ x∈h::mid,1<=x/\x<sz)/\(h::mid).length<=1000) (by
    rintro n s ⟨f,m,cJ,mid,rfl,rfl,nd,w,ln⟩;have G:mid.length+cJ.length+1<=1000:=by simpa using ln
    by_cases A:0<m/\0<cJ.length
    · have I:0<=f%(cJ.length:Int):=Wb _ (by omega);have H:f%(cJ.length:Int)<cJ.length:=V5 _ (by omega);obtain⟨k,hp⟩:=N9 I H (by omega);have hz:(0:Int)<cJ.length:=by omega
      generalize (f%(cJ.length:Int)).toNat=j at k hp;have B:=k9 (l:=h::mid) (x:=cJ[j]) (by simp only[List.length_cons]; unfold ak; omega);refine .inr ⟨by simp[A.1,A.2],(cJ.eraseIdx j).length,_,by rw[List.length_eraseIdx,if_pos k]; omega,.inl (by simp[wm,uy,uw,uv,A.2,hp,B]),f / 5,m-1,cJ.eraseIdx j,mid++[cJ[j]],rfl,rfl,?_,?_,?_⟩
      · have v:(h::(mid++[cJ[j]])++cJ.eraseIdx j).Perm (h::mid++cJ):=by
         have:(cJ[j]::cJ.eraseIdx j).Perm cJ:=gr k
         simpa using(YS (h::mid) this)
        exact v.nodup_iff.mpr nd
      · intro x g;refine w x ?_
        have v:(h::(mid++[cJ[j]])++cJ.eraseIdx j).Perm (h::mid++cJ):=by
         have:(cJ[j]::cJ.eraseIdx j).Perm cJ:=gr k
         simpa using(YS (h::mid) this)
        exact v.mem_iff.mp g
      ·simp[List.length_eraseIdx,k]; omega
    · refine .inl ⟨?_,f,m,cJ,mid,rfl,(List.nodup_append.mp nd).1,λx g=>w x (V9 _ g),by simp; omega⟩;by_cases o:0<m
      ·have R:cJ=[]:=List.length_eq_zero_iff.mp (by omega);subst R;simp[o]
      ·simp[o])
 obtain⟨S,e,f,m,cJ,mid,rfl,nd,w,ln⟩:=D 100000 d.length ⟨c / 4,h,sz,some d,some [h],some (if c / 4%8=3 then sz else c%4)⟩
  ⟨c / 4,_,d,[],rfl,rfl,List.nodup_cons.mpr ⟨λz=>(hR h z).2.2 rfl,i⟩,λx g=>by
   rcases List.mem_cons.mp g with z|z
   ·rw[z]; exact⟨L,K⟩
   ·exact⟨(hR x z).1,(hR x z).2.1⟩,by show(h::d).length<=1000; rw[VU]; omega⟩ (by omega)
 have T:mid.length+1<=1000:=by simpa using ln
 have u:=s9 (l:=h::mid) (m:=[(0:Int)]) (by simp only[List.length_cons,List.length_nil]; unfold ak; omega);refine⟨h::mid++[0],?_,⟨by simp,List.getLast?_concat ..,?_,λx g=>?_⟩,⟨_,rfl⟩,by simp; omega⟩
 · have v:vS ⟨c,h,sz,none,none,none⟩= .nx ⟨c,h,sz,some d,none,none⟩:=by
    unfold vS bJ aY;rw[C]; rfl
   have Q:vR ⟨c,h,sz,some d,none,none⟩= .nx ⟨c,h,sz,some d,some [h],none⟩:=by simp[vR,ak]
   have P:vQ ⟨c,h,sz,some d,some [h],none⟩= .nx ⟨c,h,sz,some d,some [h],some (c%4)⟩:=by simp[vQ]
   have O:vP ⟨c,h,sz,some d,some [h],some (c%4)⟩= .nx ⟨c,h,sz,some d,some [h],some (if c / 4%8=3 then sz else c%4)⟩:=by
    by_cases q:c / 4%8=3<;>simp[vP,pE,q]
   have N:∀ x,vO ⟨c,h,sz,some d,some [h],x⟩= .nx ⟨c / 4,h,sz,some d,some [h],x⟩:=λx=>by simp[vO]
   have M:Cj ⟨c / 4,h,sz,some d,some [h],some (if c / 4%8=3 then sz else c%4)⟩=_:=e;unfold Mg JH;simp only[aA,v,Q,P,O,N,M];simp[Ci,u,ak,-jV]
 · exact List.nodup_append.mpr ⟨nd,by simp,λa B b J=>by
    rw[List.mem_singleton.mp J]
    have:=(w a B).1
    omega⟩
 · rcases List.mem_append.mp g with z|z
   ·have:=w x z; omega
   ·rw[List.mem_singleton.mp z]; omega
theorem o7:∀ (n:Nat) (l:List Int),l.Nodup->(∀ x∈l,0<=x/\x<n)->l.length<=n:=by
 intro n
 induction n with
 |zero=>
   intro l nd a;cases l with
   |nil=>exact VW _
   |cons x l=>have:=a x VP; omega
 |succ n d=>
   intro l nd a
   have c:=d (l.erase n) (nd.erase _) λx e=>by
    have b:=(nd.mem_erase_iff).mp e
    have:=a x b.2
    have f:=b.1;omega
   rw[List.length_erase] at c;split at c<;>omega
theorem RoadOk.len{sz:Int}{r:List Int}(h:RoadOk sz r):(r.length:Int)<=sz:=by
 have:=o7 sz.toNat r h.nd λx a=>by have:=h.all x a; omega
 obtain⟨x,a⟩:=List.exists_mem_of_ne_nil r (λz=>by have:=h.two; rw[z] at this; simp at this)
 have:=h.all x a
 omega
def uL(sz:Int)(p:Int×Int):Prop:=0<=p.1/\p.1<sz/\0<=p.2/\p.2<sz/\p.1≠p.2
theorem jz{W:Type}{l:List W}{a:W}(h:l.Nodup)(d:a∉l):(l++[a]).Nodup:=
 List.nodup_append.mpr ⟨h,by simp,λx c y b=>by rw[List.mem_singleton.mp b]; rintro rfl; exact d c⟩
theorem Du{a x sz:Int}(e:0<=a)(d:a<sz)(c:0<=x)(b:x<sz-1):a≠(a+1+x)%sz:=by
 by_cases q:a+1+x<sz
 ·rw[Int.emod_eq_of_lt (by omega) q]; omega
 · have:(a+1+x)%sz=a+1+x-sz:=by
    rw[<-Int.sub_emod_right,Int.emod_eq_of_lt (by omega) (by omega)]
   rw[this]; omega
theorem No(c sz:Int)(M:1<=sz):∃ W:P1,(yR c sz).res= .ok W/\W.length<=3/\W.Nodup/\∀ p∈W,uL sz p:=by
 by_cases C:sz<2
 ·refine⟨[],?_,by simp,by simp,λ_ h=>(nomatch h)⟩;simp[yR,wq,sJ,sI,nv,C,ak]
 · have L:0<=c%3/\c%3<3:=⟨Wb _ (by omega),V5 _ (by omega)⟩;have g:1<sz:=by omega
   have f:0<sz:=by omega
   obtain⟨K,e,m,k,y,w,W,rfl,H,i,j⟩:=cF (u:=λa s=>{s with vfq:=some a}) (c:=nA) (λp (s:S_bc9)=>∃ m k y w W,s=⟨m,sz,some W,k,y,w⟩/\W.length<=p.length/\W.Nodup/\∀ p∈W,uL sz p)
    (bg 0 (c%3)) ⟨c,sz,some [],none,none,none⟩ ⟨c,none,none,none,[],rfl,by simp,by simp,λ_ h=>(nomatch h)⟩ (by
      rintro p x r s I ⟨m,k,y,w,W,rfl,H,i,j⟩
      have hp:p.length<3:=by
       have:=bH 0 (c%3)
       rw[I,VT,VU] at this;omega
      generalize D:(m*48271+23)%2147483647=d;have q:0<=d%sz:=Wb _ (by omega);have o:d%sz<sz:=V5 _ f;have G:0<=d / 7%(sz-1):=Wb _ (by omega);have F:d / 7%(sz-1)<sz-1:=V5 _ (by omega);have B:0<=(d%sz+1+d / 7%(sz-1))%sz:=Wb _ (by omega);have A:(d%sz+1+d / 7%(sz-1))%sz<sz:=V5 _ f;have n:=Du q o G F;generalize v:(d%sz+1+d / 7%(sz-1))%sz=b at B A n;generalize E:d%sz=a at q o n v;by_cases t:(a,b)∈W
      ·refine⟨_,.inl ?_,d,some x,some a,some b,W,rfl,by rw[VT]; omega,i,j⟩;simp[nA,mw,mq,mo,ml,D,f,g,E,v,t]
      · have J:=k9 (l:=W) (x:=(a,b)) (by unfold ak; omega);refine⟨_,.inl ?_,d,some x,some a,some b,W++[(a,b)],rfl,by rw[List.length_append,List.length_append]; simp; omega,jz i t,λp hp=>?_⟩
        ·simp[nA,mw,mq,mo,ml,kY,D,f,g,E,v,t,J]
        · rcases List.mem_append.mp hp with z|z
          ·exact j p z
          ·rw[List.mem_singleton.mp z]; exact⟨q,o,B,A,n⟩)
   refine⟨W,?_,?_,i,j⟩
   ·unfold yR wq;simp[sJ,sI,yy,yx,C,dQ (lo:=0) (hi:=c%3) (by omega) (by omega) (by omega) (by omega),e,ak]
   ·have:=bH 0 (c%3); omega
structure WaysOk (sz:Int) (W:P1):Prop where
 nd:W.Nodup
 all:∀ p∈W,0<=p.1/\p.1<p.2/\p.2<sz
 len:W.length<=10000
theorem KH(c sz:Int)(R:1<=sz)(Q:sz<=60):∃ W:P1,(Do c sz).res= .ok W/\WaysOk sz W:=by
 generalize j:(c+1)*48271%2147483647*16807%2147483647=d
 obtain⟨L,e,k,C,g,W,rfl,y,n,m,v⟩:=cF (u:=λa s=>{s with v0q:=some a}) (c:=mj) (λp (s:S_be9)=>∃ k C g W,s=⟨c,sz,some d,some W,some k,C,g⟩/\0<=k/\W.Nodup/\(∀ q∈W,0<=q.1/\q.1<q.2/\q.2<sz/\q.1<(p.length:Int))/\W.length<=p.length*100)
  (bg 0 sz) ⟨c,sz,some d,some [],some 0,none,none⟩ ⟨0,none,none,[],rfl,by omega,by simp,λ_ h=>(nomatch h),by simp⟩ (by
    rintro p a r s H ⟨k,C,g,W,rfl,y,n,m,v⟩;have P:=lp H;have F:(p.length:Int)=a:=by omega
    obtain⟨s2,I,E,J,K,rfl,w,t,B,G⟩:=cF (u:=λa s=>{s with v2q:=some a}) (c:=jU) (λq (s:S_be9)=>∃ k g W,s=⟨c,sz,some d,some W,some k,some a,g⟩/\0<=k/\W.Nodup/\(∀ x∈W,0<=x.1/\x.1<x.2/\x.2<sz/\(x.1<a\/x.1=a/\x.2<a+1+(q.length:Int)))/\W.length<=p.length*100+q.length)
     (bg (a+1) sz) ⟨c,sz,some d,some W,some k,some a,g⟩ ⟨k,g,W,rfl,y,n,λx i=>by have:=m x i; omega,by simpa using v⟩ (by
       rintro q b M s o ⟨k,g,W,rfl,y,n,m,v⟩;have O:=lp o
       have N:q.length<60:=by
        have:=bH (a+1) sz
        rw[o,VT,VU] at this;omega
       have f:0<=k%29:=Wb _ (by omega);by_cases D:d / 2 ^ (k%29).toNat%2=1
       · have A:=k9 (l:=W) (x:=(a,b)) (by unfold ak; omega);refine⟨_,.inl ?_,k+1,some b,W++[(a,b)],rfl,by omega,jz n (λz=>by have:=m _ z; omega),λx i=>?_,by rw[List.length_append,List.length_append]; simp; omega⟩
         ·simp[jU,jO,jo,jM,f,D,A]
         · rw[VT];rcases List.mem_append.mp i with z|z
           ·have:=m x z; simp; omega
           ·rw[List.mem_singleton.mp z]; simp; omega
       · refine⟨_,.inl ?_,k+1,some b,W,rfl,by omega,n,λx i=>?_,by rw[VT]; omega⟩
         ·simp[jU,jO,jM,f,D]
         ·have:=m x i; rw[VT]; simp; omega)
    refine⟨_,.inl ?_,E,some a,J,K,rfl,w,t,λx i=>?_,?_⟩
    ·simp only[mj,ci,aC,iA,vC,pC,kC,Res.bind];rw[dQ (by omega) (by omega) (by omega) (by omega)];exact I
    ·have:=B x i; rw[VT]; simp; omega
    ·have:=bH (a+1) sz; rw[VT]; simp; omega)
 refine⟨W,?_,n,λp hp=>by have:=m p hp; omega,by have:=bH 0 sz; omega⟩;unfold Do Au;simp[yu,yt,yr,yq,yp,j,ak,dQ (lo:=0) (hi:=sz) (by omega) (by omega) (by omega) (by omega),e]
def qq(W:P1)(sz a:Int):List Int:=(bg 0 sz).filter λb=>decide ((min a b,max a b)∈W)
theorem KM(W:P1)(sz a:Int)(h0:0<=sz)(f:sz<=1000):(Dp W sz a).res= .ok (qq W sz a):=by
 have e:∀ s:S_bd9,s=⟨W,sz,a⟩->cp (aZ (fq 0) (pC (·.vvq))) (aC (LQ false) (kz (aC D3 (pC λp=>p.2.v0q) (pC λp=>p.1)) (aC tI (pC λp=>p.2.v0q) (pC λp=>p.1))) (pC λp=>p.2.vxq)) (pC λp=>p.1) s= .ok (qq W sz a):=by
  rintro s rfl
  rw[jQ (l:=bg 0 sz) (λb=>decide ((min a b,max a b)∈W)) (λx=>x) (by simp[dQ (lo:=0) (hi:=sz) (by omega) (by omega) (by omega) (by omega)]) (by rw[bH]; unfold ak; omega) (λb _=>by
   have d:(if b<a then b else a)=min a b:=by rw[Int.min_def]; split<;>split<;>omega
   have c:(if a<b then b else a)=max a b:=by rw[Int.max_def]; split<;>split<;>omega
   simp[d,c]) (λb _ _=>by simp)]
  simp[qq]
 unfold Dp Av
 first | (unfold yw) | skip
 simp only[bZ,aY];rw[e _ rfl];rfl
theorem Ig(l:List Int)(m:Int):0<=dN l m↔0<=m/\∀ x∈l,0<=x:=by
 obtain⟨e,f,d⟩:=kM l m;constructor
 ·intro h;exact⟨by omega,λx c=>by have:=d x c; omega⟩
 · rintro⟨a,b⟩;rcases e with z|z
   ·omega
   ·exact b _ z
theorem DE(b:List Int)(n:Int)(h:∀ x∈b,0<=x/\x<n)(h0:0<n):(Dk b n).res= .ok ():=by
 unfold Dk Am
 first | unfold yi | skip
 cases b with
 |nil=>
   have q:¬ n<=0:=by omega
   simp[q]
 |cons a l=>
   have g:0<=dN l a:=(Ig l a).mpr ⟨(h a VP).1,λx e=>(h x (VR _ e)).1⟩
   have f:gc l a<n:=by
    obtain⟨z|z,_⟩:=lY l a
    ·rw[z]; exact(h a VP).2
    ·exact(h _ (VR _ z)).2
   have d:¬ dN l a<0:=by omega
   have c:¬ n<=gc l a:=by omega
   simp[d,c]
theorem nO(g:GΩ)(a:List Int)(h:∀ x∈a,0<=x/\x<g.hω)(h0:0<g.hω):(wC g a).res= .ok ():=by
 have e:=DE a g.hω h h0;unfold wC JW
 first | unfold CT | skip
 simp[e]
theorem in1{a n:Int}(c:0<=a/\a<n):∀ x∈[a],0<=x/\x<n:=λx b=>by rw[List.mem_singleton.mp b]; exact c
theorem Vw{a b n:Int}(e:0<=a/\a<n)(d:0<=b/\b<n):∀ x∈[a,b],0<=x/\x<n:=λx c=>by
 rcases List.mem_cons.mp c with z|z
 ·rw[z]; exact e
 ·rw[List.mem_singleton.mp z]; exact d
theorem y7(g:GΩ)(a b:Int)(f:0<=a/\a<g.hω)(d:0<=b/\b<g.hω)(c:a≠b):(ET g a b).res= .ok ():=by
 have e:=nO g [a,b] (Vw f d) (by omega);unfold ET JU;simp[CN,CM,e,c,ak]
theorem nQ(g:GΩ)(a b:Int)(d:0<=a/\a<g.hω)(c:0<=b/\b<g.hω):(AI g a b).res= .ok ((g.lω.get [a,b]).getD 0):=by
 have e:=nO g [a,b] (Vw d c) (by omega);unfold AI JY;simp[CY,CW,e,ak]
theorem KW(g:GΩ)(r:List Int)(a:RoadOk g.hω r)(f:g.hω<=1000):(Mm g r).res= .ok ():=by
 have ln:=a.len;have two:=a.two;have e:=nO g r a.all (by omega);have d:¬ (r.length:Int)<2:=by omega
 have b:r.length<4000:=by omega
 have c:=a.last;unfold Mm JV;simp[CS,CQ,CP,CO,e,d,b,Cl.yK,c,Jc a.nd]
def NY(L Q:DI Int)(r:List Int):Int:=(Q.get r).getD (match r with|a::b::_=>(L.get [a,b]).getD 0|_=>0)
def ph(L Q:DI Int)(r:List Int):Int×Int×List Int:=(0-NY L Q r,(r.length:Int),r)
theorem QP{W:Type}(a b:W)(t:List W):kj (a::b::t) 0=some a:=by rw[k8 _ (by omega)]; rfl
theorem QO{W:Type}(a b:W)(t:List W):kj (a::b::t) 1=some b:=by rw[k8 _ (by omega)]; rfl
theorem lj(g:GΩ):(oV g).res= .ok g.hω:=by
 unfold oV JR
 first | unfold CH | skip
 simp
theorem uU(g:GΩ)(a b v:Int)(f:0<=a/\a<g.hω)(d:0<=b/\b<g.hω)(c:g.lω.length<ak):EV g a b v= .ok () ⟨{g with lω:=g.lω.put [a,b] v},a,b,v⟩:=by
 have e:=nO g [a,b] (Vw f d) (by omega);unfold EV JZ;simp[C0,CZ,e,c,ak]<;>(unfold ak at c; simp[c])
theorem uT(g:GΩ)(a b:Int)(h:0<=a/\a<g.hω)(f:0<=b/\b<g.hω)(c:a≠b)(d:g.sω.length<ak):ES g a b= .ok () ⟨{g with sω:=g.sω.put [a,b] true},a,b⟩:=by
 have e:=y7 g a b h f c;unfold ES JT;simp[CL,CK,e,d]
theorem uS(g:GΩ)(r:List Int)(v:Int)(a:RoadOk g.hω r)(c:g.hω<=1000)(b:g.wω.length<ak):EQ g r v= .ok () ⟨{g with wω:=g.wω.put r v},r,v⟩:=by
 have e:=KW g r a c;unfold EQ JQ;simp[CG,CF,e,b]
theorem y8(g:GΩ)(a b:Int)(k:0<=a/\a<g.hω)(j:0<=b/\b<g.hω)(c:a≠b)(h:g.U.get [a,b]=none)(i:g.U.length+1<ak):EW g a b= .ok () ⟨{g with U:=(g.U.put [a,b] true).put [b,a] true},a,b⟩:=by
 have e:=y7 g a b k j c;have f:g.U.length<ak:=by omega
 have d:(g.U.put [a,b] true).length<ak:=Nat.lt_of_le_of_lt cy i;unfold EW J1;simp[C8,C7,C6,C5,e,h,f,d]
theorem KY(g:GΩ)(a b:Int)(k:0<=a/\a<g.hω)(j:0<=b/\b<g.hω)(c:a≠b)(i:(g.U.get [a,b]).isSome=true)(d:(g.U.get [b,a]).isSome=true):Mn g a b= .ok () ⟨{g with U:=(g.U.del [a,b]).del [b,a]},a,b⟩:=by
 have e:=y7 g a b k j c;obtain⟨x,ex⟩:=Option.isSome_iff_exists.mp i;obtain⟨y,l⟩:=Option.isSome_iff_exists.mp d
 have f:(g.U.del [a,b]).get [b,a]=some y:=by
  rw[vv,VM (by intro z; injection z with h m; exact c h.symm)]; exact l
 unfold Mn J0;simp[C4,C3,C2,C1,e,ex,f]
structure GuildIs (g:GΩ) (sz:Int) (U:P1) (Y X:DI Int) (V:P1):Prop where
 count:g.hω=sz
 way:∀ x y,(g.U.get [x,y]).isSome=true↔(x,y)∈U\/(y,x)∈U
 lik:∀ k,g.lω.get k=Y.get k
 wsh:∀ k,g.wω.get k=X.get k
 shn:∀ x y,(g.sω.get [x,y]).isSome=true↔(x,y)∈V
def VJ(g:GΩ):Prop:=g.U.length<=30000/\g.lω.length<=30000/\g.wω.length<=30000/\g.sω.length<=30000
structure DrawOk (sz:Int) (U:P1) (Y X:DI Int) (V:P1):Prop where
 size:1<=sz/\sz<=60
 U:WaysOk sz U
 Y:Y.length<=100/\DI.nd Y/\∀ p∈Y,iy sz p.1
 X:X.length<=100/\DI.nd X/\∀ p∈X,RoadOk sz p.1
 V:V.length<=100/\V.Nodup/\∀ p∈V,uL sz p
theorem lz{X:Type}(k:List Int):DI.get ([]:DI X) k=none:=rfl
theorem gF{X:Type}{F:DI X}(a:DI.nd F){k:List Int}(b:k∈F.map (·.1)):∃ v,F.get k=some v/\(k,v)∈F:=by
 obtain⟨p,hp,rfl⟩:=List.mem_map.mp b;exact⟨p.2,z8 a hp,hp⟩
theorem kP{X:Type}{F:DI X}{k:List Int}(a:k∉F.map (·.1)):F.get k=none:=by
 cases q:F.get k with
 |none=>rfl
 |some v=>exact absurd (List.mem_map.mpr ⟨(k,v),m8 q,rfl⟩) a
structure Wf (sz:Int) (g:GΩ):Prop where
 count:g.hω=sz
 U:DI.nd g.U/\∀ p∈g.U,iy sz p.1
 lik:DI.nd g.lω/\∀ p∈g.lω,iy sz p.1
 shn:DI.nd g.sω/\∀ p∈g.sω,iy sz p.1
 wsh:DI.nd g.wω/\∀ p∈g.wω,RoadOk sz p.1
theorem Hj{X:Type}{F:DI X}{k:List Int}(h:DI.nd F):DI.nd (F.del k):=by
 unfold DI.nd DI.del at *;exact h.sublist (List.Sublist.map _ List.filter_sublist)
theorem BQ{X:Type}{F:DI X}{k:List Int}{p:List Int×X}(h:p∈F.del k):p∈F:=(List.mem_filter.mp h).1
theorem Wf.lay{sz:Int}{g:GΩ}(h:Wf sz g){a b:Int}(d:0<=a/\a<sz)(c:0<=b/\b<sz):Wf sz {g with U:=(g.U.put [a,b] true).put [b,a] true}:=
 ⟨h.count,⟨h8 (h8 h.U.1),ft (P:=iy sz) (ft (P:=iy sz) h.U.2 ⟨a,b,rfl,d.1,d.2,c.1,c.2⟩) ⟨b,a,rfl,c.1,c.2,d.1,d.2⟩⟩,h.lik,h.shn,h.wsh⟩
theorem Wf.lift{sz:Int}{g:GΩ}(h:Wf sz g)(a b:Int):Wf sz {g with U:=(g.U.del [a,b]).del [b,a]}:=
 ⟨h.count,⟨Hj (Hj h.U.1),λp hp=>h.U.2 p (BQ (BQ hp))⟩,h.lik,h.shn,h.wsh⟩
theorem Wf.like{sz:Int}{g:GΩ}(h:Wf sz g){a b:Int}(v:Int)(d:0<=a/\a<sz)(c:0<=b/\b<sz):Wf sz {g with lω:=g.lω.put [a,b] v}:=
 ⟨h.count,h.U,⟨h8 h.lik.1,ft (P:=iy sz) h.lik.2 ⟨a,b,rfl,d.1,d.2,c.1,c.2⟩⟩,h.shn,h.wsh⟩
theorem Wf.shun{sz:Int}{g:GΩ}(h:Wf sz g){a b:Int}(d:0<=a/\a<sz)(c:0<=b/\b<sz):Wf sz {g with sω:=g.sω.put [a,b] true}:=
 ⟨h.count,h.U,h.lik,⟨h8 h.shn.1,ft (P:=iy sz) h.shn.2 ⟨a,b,rfl,d.1,d.2,c.1,c.2⟩⟩,h.wsh⟩
theorem Wf.wish{sz:Int}{g:GΩ}(h:Wf sz g){k:List Int}(v:Int)(a:RoadOk sz k):Wf sz {g with wω:=g.wω.put k v}:=
 ⟨h.count,h.U,h.lik,h.shn,⟨h8 h.wsh.1,ft (P:=RoadOk sz) h.wsh.2 a⟩⟩
theorem Wf.new{sz:Int}:Wf sz ⟨sz,[],[],[],[]⟩:=⟨rfl,⟨by unfold DI.nd; simp,by simp⟩,⟨by unfold DI.nd; simp,by simp⟩,⟨by unfold DI.nd; simp,by simp⟩,⟨by unfold DI.nd; simp,by simp⟩⟩
theorem qI{F:DI Bool}{a b x y:Int}{p:P1}(h:(F.get [x,y]).isSome=true↔(x,y)∈p\/(y,x)∈p):((((F.put [a,b] true).put [b,a] true).get [x,y])).isSome=true↔(x,y)∈p++[(a,b)]\/(y,x)∈p++[(a,b)]:=by
 rw[gI,gI,XD,XD,Xj,Xj];by_cases e:[x,y]=[b,a]
 ·rw[on e]; injection e with e c; injection c with c; subst e c; simp
 · rw[VM e];by_cases c:[x,y]=[a,b]
   ·rw[on c]; injection c with c d; injection d with d; subst c d; simp
   · rw[VM c,h];constructor
     · rintro(z|z)
       ·exact .inl (.inl z)
       ·exact .inr (.inl z)
     · rintro((z|z) | (z|z))
       ·exact .inl z
       ·injection z with d f; subst d f; exact absurd rfl c
       ·exact .inr z
       ·injection z with d f; subst d f; exact absurd rfl e
theorem mP{F:DI Bool}{a b x y:Int}{p:P1}(h:(F.get [x,y]).isSome=true↔(x,y)∈p):((F.put [a,b] true).get [x,y]).isSome=true↔(x,y)∈p++[(a,b)]:=by
 rw[gI,XD,Xj];by_cases c:[x,y]=[a,b]
 ·rw[on c]; injection c with c d; injection d with d; subst c d; simp
 · rw[VM c,h];constructor
   ·exact .inl
   · rintro(z|z)
     ·exact z
     ·injection z with f e; subst f e; exact absurd rfl c
theorem rF{F G:DI Int}{p:List (List Int)}{k:List Int}{v:Int}(h:∀ j,F.get j=if j∈p then G.get j else none)(e:G.get k=some v)(j:List Int):(F.put k v).get j=if j∈p++[k] then G.get j else none:=by
 rw[gI,h j];by_cases z:j=k
 ·subst z; rw[on rfl,on (by simp),e]
 · rw[VM z];by_cases b:j∈p
   ·rw[on b,on (V9 _ b)]
   · rw[VM b,VM (λa=>by
      rcases List.mem_append.mp a with a|a
      ·exact b a
      ·exact z (List.mem_singleton.mp a))]
theorem DF{sz:Int}{U:P1}{Y X:DI Int}{V:P1}(h:DrawOk sz U Y X V):∃ g,(Mh sz U Y X V).res= .ok g/\GuildIs g sz U Y X V/\VJ g/\Wf sz g:=by
 obtain⟨Z,W⟩:=h.size
 have e1:vW ⟨sz,U,Y,X,V,none,none,none,none,none⟩= .nx ⟨sz,U,Y,X,V,some ⟨sz,[],[],[],[]⟩,none,none,none,none⟩:=by
  simp[vW,mk_Guild,Z,W]
 obtain⟨s2,e2,g2,C,B,rfl,c2,l2,w2,n2,y2,len2⟩:=cF (u:=λa s=>{s with v0q:=some a.1,v2q:=some a.2}) (c:=oP) (λp (s:S_v9)=>∃ g N M,s=⟨sz,U,Y,X,V,some g,N,M,none,none⟩/\Wf sz g/\g.lω=[]/\g.wω=[]/\g.sω=[]/\(∀ x y,(g.U.get [x,y]).isSome=true↔(x,y)∈p\/(y,x)∈p)/\g.U.length<=2*p.length)
  U ⟨sz,U,Y,X,V,some ⟨sz,[],[],[],[]⟩,none,none,none,none⟩ ⟨_,none,none,rfl,Wf.new,rfl,rfl,rfl,λx y=>by simp[lz],by simp⟩ (by
   rintro p ⟨a,b⟩ r s d ⟨g,N,M,rfl,f,hl,T,K,i,l⟩;have P:=f.count;have n:(a,b)∈U:=by rw[d]; simp
   have A:=h.U.all _ n;have J:=h.U.nd;rw[d] at J;have S:=List.nodup_append.mp J;have hp1:(a,b)∉p:=λz=>S.2.2 _ z _ VP rfl
   have hp2:(b,a)∉p:=λz=>by
    have:(b,a)∈U:=by rw[d]; exact V9 _ z
    have:=h.U.all _ this
    simp only at A this;omega
   have m:p.length<=10000:=by
    have:=h.U.len
    rw[d,VT] at this;omega
   simp only at A
   have gn:g.U.get [a,b]=none:=by
    cases q:g.U.get [a,b] with
    |none=>rfl
    |some v=>
      rcases(i a b).mp (by rw[q]; rfl) with z|z
      ·exact absurd z hp1
      ·exact absurd z hp2
   have sp:=y8 g a b (by omega) (by omega) (by omega) gn (by unfold ak; omega);refine⟨_,.inl (by simp[oP,sp]),{g with U:=(g.U.put [a,b] true).put [b,a] true},some a,some b,rfl,f.lay (by omega) (by omega),hl,T,K,λx y=>?_,?_⟩
   ·exact qI (i x y)
   · show((g.U.put [a,b] true).put [b,a] true).length<=_
     have:=cy (F:=g.U.put [a,b] true) (k:=[b,a]) (v:=true)
     have:=cy (F:=g.U) (k:=[a,b]) (v:=true)
     rw[VT]; simp; omega)
 have hwl:=h.U.len
 obtain⟨s3,e3,g3,O,rfl,c3,w3,n3,q3,y3,k3,G⟩:=cF (u:=λa s=>{s with vlq:=some a}) (c:=oO) (λp (s:S_v9)=>∃ g p0,s=⟨sz,U,Y,X,V,some g,C,B,p0,none⟩/\Wf sz g/\g.wω=[]/\g.sω=[]/\g.U.length<=30000/\(∀ x y,(g.U.get [x,y]).isSome=true↔(x,y)∈U\/(y,x)∈U)/\(∀ k,g.lω.get k=if k∈p then Y.get k else none)/\g.lω.length<=p.length)
  (Y.map (·.1)) ⟨sz,U,Y,X,V,some g2,C,B,none,none⟩ ⟨g2,none,rfl,c2,w2,n2,by omega,y2,λk=>by rw[l2]; rfl,by rw[l2]; simp⟩ (by
    rintro p k r s d ⟨g,p0,rfl,f,T,K,I,i,L,l⟩;have P:=f.count;obtain⟨v,H,n⟩:=gF h.Y.2.1 (k:=k) (by rw[d]; simp);obtain⟨a,b,rfl,ha1,ha2,hb1,hb2⟩:=h.Y.2.2 _ n
    have m:p.length<=100:=by
     have:=h.Y.1
     have e:(Y.map (·.1)).length=Y.length:=VN ..;rw[d,VT] at e;omega
    have sp:=uU g a b v (by omega) (by omega) (by unfold ak; omega);refine⟨_,.inl (by simp[oO,QP,QO,H,sp]),{g with lω:=g.lω.put [a,b] v},some [a,b],rfl,f.like v (by omega) (by omega),T,K,I,i,λj=>?_,?_⟩
    ·exact rF L H j
    · show(g.lω.put [a,b] v).length<=_
      rw[VT]; exact V4 cy (by simp; omega))
 obtain⟨s4,e4,g4,p4,rfl,c4,n4,q4,y4,k4,E,f4,w⟩:=cF (u:=λa s=>{s with vgq:=some a}) (c:=oN) (λp (s:S_v9)=>∃ g k0,s=⟨sz,U,Y,X,V,some g,C,B,O,k0⟩/\Wf sz g/\g.sω=[]/\g.U.length<=30000/\(∀ x y,(g.U.get [x,y]).isSome=true↔(x,y)∈U\/(y,x)∈U)/\(∀ k,g.wω.get k=if k∈p then X.get k else none)/\g.wω.length<=p.length/\(∀ k,g.lω.get k=Y.get k)/\g.lω.length<=30000)
  (X.map (·.1)) ⟨sz,U,Y,X,V,some g3,C,B,O,none⟩ ⟨g3,none,rfl,c3,n3,q3,y3,λk=>by rw[w3]; rfl,by rw[w3]; simp,λk=>by
    rw[k3 k];by_cases z:k∈Y.map (·.1)
    ·rw[on z]
    ·rw[VM z,kP z],by have:=h.Y.1; rw[VN] at G; omega⟩ (by
    rintro p k r s d ⟨g,k0,rfl,f,K,I,i,L,l,hf,o⟩;have P:=f.count;obtain⟨v,H,n⟩:=gF h.X.2.1 (k:=k) (by rw[d]; simp);have hr:=h.X.2.2 _ n
    have m:p.length<=100:=by
     have:=h.X.1
     have e:(X.map (·.1)).length=X.length:=VN ..;rw[d,VT] at e;omega
    have sp:=uS g k v (by rw[P]; exact hr) (by omega) (by unfold ak; omega);refine⟨_,.inl (by simp[oN,H,sp]),{g with wω:=g.wω.put k v},some k,rfl,f.wish v hr,K,I,i,λj=>?_,?_,hf,o⟩
    ·exact rF L H j
    · show(g.wω.put k v).length<=_
      rw[VT]; exact V4 cy (by simp; omega))
 obtain⟨s5,e5,g5,a5,b5,rfl,c5,q5,y5,k5,D,f5,t,R,Q⟩:=cF (u:=λa s=>{s with v0q:=some a.1,v2q:=some a.2}) (c:=oM) (λp (s:S_v9)=>∃ g N M,s=⟨sz,U,Y,X,V,some g,N,M,O,p4⟩/\Wf sz g/\g.U.length<=30000/\(∀ x y,(g.U.get [x,y]).isSome=true↔(x,y)∈U\/(y,x)∈U)/\(∀ k,g.wω.get k=X.get k)/\g.wω.length<=30000/\(∀ k,g.lω.get k=Y.get k)/\g.lω.length<=30000/\(∀ x y,(g.sω.get [x,y]).isSome=true↔(x,y)∈p)/\g.sω.length<=p.length)
  V ⟨sz,U,Y,X,V,some g4,C,B,O,p4⟩ ⟨g4,C,B,rfl,c4,q4,y4,λk=>by
   rw[k4 k];by_cases z:k∈X.map (·.1)
   ·rw[on z]
   ·rw[VM z,kP z],by have:=h.X.1; rw[VN] at E; omega,f4,w,λx y=>by rw[n4]; simp[lz],by rw[n4]; simp⟩ (by
   rintro p ⟨a,b⟩ r s d ⟨g,N,M,rfl,f,I,i,L,hkl,hf,o,hs,hsl⟩;have P:=f.count;have n:(a,b)∈V:=by rw[d]; simp
   have A:=h.V.2.2 _ n;unfold uL at A;simp only at A
   have m:p.length<=100:=by
    have:=h.V.1
    rw[d,VT] at this;omega
   have sp:=uT g a b (by omega) (by omega) A.2.2.2.2 (by unfold ak; omega);refine⟨_,.inl (by simp[oM,sp]),{g with sω:=g.sω.put [a,b] true},some a,some b,rfl,f.shun (by omega) (by omega),I,i,L,hkl,hf,o,λx y=>?_,?_⟩
   ·exact mP (hs x y)
   · show(g.sω.put [a,b] true).length<=_
     rw[VT]; exact V4 cy (by simp; omega))
 refine⟨g5,?_,⟨c5.count,y5,f5,k5,R⟩,⟨q5,t,D,by have:=h.V.1; omega⟩,c5⟩;unfold Mh JK;simp only[aA,e1];simp[Cs,Cr,Cq,Cp,Co,e2,e3,e4,e5]
abbrev cl(x:Str):List Nat:=x.cps.toList
theorem iT{a b:Str}(h:cl a=cl b):a=b:=Str.ext' (Array.toList_inj.mp h)
theorem bU(a b:Str):cl (a++b)=cl a++cl b:=by show(a.cps++b.cps).toList=_; rw[Array.toList_append]
theorem l8(x:Str):x.length=(cl x).length:=rfl
theorem iq(sep x y:Str)(r:List Str):cl (Str.join sep (x::y::r))=cl x++(cl sep++cl (Str.join sep (y::r))):=by
 show cl (x++sep++Str.join sep (y::r))=_;rw[bU,bU,WH]
theorem yb{c:Nat}:∀ {x y r q:List Nat},c∉x->c∉y->x++c::r=y++c::q->x=y/\r=q
 |[],[],_,_,_,_,e=>⟨rfl,by injection e⟩
 |[],b::y,_,_,_,f,e=>by injection e with d _; exact absurd VP (d▸f)
 |a::x,[],_,_,g,_,e=>by injection e with d _; exact absurd VP (d▸g)
 | a::x,b::y,_,_,g,f,e=>by
   injection e with d h
   obtain⟨p,q⟩:=yb (λz=>g (VR _ z)) (λz=>f (VR _ z)) h;exact⟨by rw[d,p],q⟩
theorem uk{c:Nat}:∀ {xs ys:List Str},xs≠[]->ys≠[]->(∀ x∈xs,c∉cl x)->(∀ y∈ys,c∉cl y)->Str.join ⟨#[c]⟩ xs=Str.join ⟨#[c]⟩ ys->xs=ys
 |[],_,h,_,_,_,_=>absurd rfl h
 |_,[],_,h,_,_,_=>absurd rfl h
 |[x],[y],_,_,_,_,e=>by rw[show x=y from e]
 | [x],y::z::r,_,_,d,_,e=>by
   have e:=congrArg cl e;rw[iq] at e;have e:cl x=_:=e;exact absurd (show c∈cl x from by rw[e]; simp[cl]) (d x VP)
 | x::w::s,[y],_,_,_,b,e=>by
   have e:=congrArg cl e;rw[iq] at e;have e:_=cl y:=e;exact absurd (show c∈cl y from by rw[<-e]; simp[cl]) (b y VP)
 | x::w::s,y::z::r,_,_,d,b,e=>by
   have e:=congrArg cl e;rw[iq,iq] at e;obtain⟨i,g⟩:=yb (d x VP) (b y VP) e;rw[iT i,uk (xs:=w::s) (ys:=z::r) (by simp) (by simp) (λa f=>d a (VR _ f)) (λa f=>b a (VR _ f)) (iT g)]
theorem Fh(x:Str)(c:Nat):Txt.split x ⟨#[c]⟩≠[]:=λh=>by
 have e:=StrLaws.join_split x ⟨#[c]⟩;rw[h] at e
 have:x=Str.empty:=e.symm
 subst this;revert h;unfold Txt.split;rw[if_pos (by rfl)];simp
theorem lS{c:Nat}{xs:List Str}(h:xs≠[])(a:∀ x∈xs,c∉cl x):Txt.split (Txt.join ⟨#[c]⟩ xs) ⟨#[c]⟩=xs:=
 uk (Fh _ _) h (StrLaws.split_free _ _) a (by rw[StrLaws.join_split]; exact Wx _ _)
theorem Ju:∀ xs:List Str,cl (Txt.join "" xs)=xs.flatMap cl:=by
 intro xs;show cl (Builtin.Str.glued "" xs)=_;rw[Wx]
 induction xs with
 |nil=>rfl
 |cons x xs a=>
   cases xs with
   |nil=>show cl x=_; simp
   |cons y r=>rw[iq,a]; rfl
theorem zW:∀ xs:List Str,xs≠[]->Txt.join "" (xs.map λx=>x++("\n" : Str))=Txt.join "\n" xs++("\n" : Str):=by
 intro xs h;apply iT;rw[Ju,bU];show _=cl (Builtin.Str.glued "\n" xs)++_;rw[Wx]
 induction xs with
 |nil=>exact absurd rfl h
 |cons x xs a=>
   cases xs with
   |nil=>show cl (x++("\n" : Str))++[]=_; rw[bU,Wp]; rfl
   |cons y r=>
     rw[iq,VQ,List.flatMap_cons,a (by simp),bU,WH,WH,WH]
theorem Je(y:Str):kU (y++("\n" : Str)) none (some (-1))=y:=by
 have c:(y++("\n" : Str)).length=y.length+1:=by rw[V7]; rfl
 have e:Builtin.Str.strSliceIndices none (some (-1)) 1 (y++("\n" : Str)).length=List.range y.length:=by
  rw[c]
  have:=X3 (a:=0) (b:=y.length) (len:=y.length+1) (by omega) (by omega)
  rw[show(List.range (y.length-0)).map (λk=>0+k)=List.range y.length from by simp] at this;rw[<-this];simp only[Builtin.Str.strSliceIndices];rw[show(if (-1:Int)<0 then -1+((y.length+1:Nat):Int) else -1)=(y.length:Int) from by rw[on (by omega)]; omega,show(if ((y.length:Nat):Int)<0 then ((y.length:Nat):Int)+((y.length+1:Nat):Int) else ((y.length:Nat):Int))=(y.length:Int) from VM (by omega),show(if ((0:Nat):Int)<0 then ((0:Nat):Int)+((y.length+1:Nat):Int) else ((0:Nat):Int))=0 from rfl];simp;rw[show max (0:Int) (min 0 ((y.length:Int)+1))=0 from by omega]
 unfold kU;rw[e,if_neg (by rw[List.length_range,c]; simp)];apply iT;show(List.range y.length).filterMap (λi=>(y++("\n" : Str)).cps[i]?)=cl y
 have:=StrLaws.picks (cl (y++("\n" : Str))) y.length 0 (by rw[<-l8,c]; omega)
 rw[show(List.range y.length).map (λk=>0+k)=List.range y.length from by simp] at this;rw[List.drop_zero,bU,List.take_left' (by rfl)] at this;rw[<-this];congr 1;funext i;rw[<-bU];simp[cl]
theorem Eo(x:Str)(c:Nat)(r:List Nat)(h:cl x=c::r):kU x (some 1) none=⟨r.toArray⟩:=by
 have d:x.length=r.length+1:=by rw[l8,h]; rfl
 have e:Builtin.Str.strSliceIndices (some 1) none 1 x.length=(List.range r.length).map (λk=>1+k):=by
  rw[d]
  have:=X3 (a:=1) (b:=r.length+1) (len:=r.length+1) (by omega) (by omega)
  rw[show r.length+1-1=r.length from by omega] at this;rw[<-this];simp only[Builtin.Str.strSliceIndices];rw[show(if ((r.length+1:Nat):Int)<0 then ((r.length+1:Nat):Int)+((r.length+1:Nat):Int) else ((r.length+1:Nat):Int))=((r.length+1:Nat):Int) from VM (by omega)];simp;rw[show max (0:Int) ((r.length:Int)+1)=(r.length:Int)+1 from by omega]
 unfold kU;rw[e,if_neg (by rw[List.length_map,List.length_range,d]; simp)];apply iT;show((List.range r.length).map (λk=>1+k)).filterMap (λi=>x.cps[i]?)=r
 have:=StrLaws.picks (cl x) r.length 1 (by rw[h]; simp; omega)
 rw[h] at this;rw[show List.take r.length (List.drop 1 (c::r))=r from by simp] at this;refine Eq.trans ?_ this;congr 1;funext i;rw[<-h];simp[cl]
theorem Ek(y:Str):Txt.endswith (y++("\n" : Str)) "\n" = true:=by
 unfold Txt.endswith;have b:(y++("\n" : Str)).length=y.length+1:=by rw[Str.length_append]; rfl
 have a:("\n" : Str).length=1:=rfl;rw[StrLaws.subAt_eq,b,a]
 have:(cl (y++("\n" : Str))).drop (y.length+1-1)=[10]:=by
  rw[bU,show y.length+1-1=(cl y).length from by rw[<-l8]; omega,List.drop_left]; rfl
 rw[this];simp; rfl
abbrev ds(m:Nat):List Nat:=(Nat.toDigits 10 m).map Char.toNat
theorem jf{m:Nat}(h:m<10):ds m=[48+m]:=by
 unfold ds;rw[Nat.toDigits_of_lt_base h]
 have:∀ d:Nat,d<10->[Nat.digitChar d].map Char.toNat=[48+d]:=by decide
 exact this m h
theorem qj{m:Nat}(h:¬ m<10):ds m=ds (m / 10)++[48+m%10]:=by
 have a:m%10<10:=Nat.mod_lt m (by decide);have t:Nat.toDigits 10 (m / 10)++Nat.toDigits 10 (m%10)=Nat.toDigits 10 (10*(m / 10)+m%10):=Nat.toDigits_append_toDigits (by decide) (by omega) a;rw[Nat.div_add_mod] at t;unfold ds;rw[<-t,List.map_append];exact congrArg _ (jf a)
theorem jg(m:Nat):NumText.AllDigits (ds m):=by
 induction m using Nat.strongRecOn with
 |_ m b=>
   by_cases h:m<10
   ·rw[jf h]; intro c a; rw[List.mem_singleton.mp a]; omega
   · rw[qj h];intro c a;rcases List.mem_append.mp a with z|z
     ·exact b (m / 10) (by omega) c z
     ·rw[List.mem_singleton.mp z]; omega
theorem xQ(m:Nat):ds m≠[]:=by
 by_cases h:m<10
 ·rw[jf h]; simp
 ·rw[qj h]; simp
theorem rM:∀ (k m:Nat),m<10 ^ (k+1)->(ds m).length<=k+1
 |0,m,h=>by rw[jf (by omega)]; simp
 | k+1,m,h=>by
   by_cases q:m<10
   ·rw[jf q]; simp
   · rw[qj q,VT]
     have:10 ^ (k+1+1)=10 ^ (k+1)*10:=Nat.pow_succ ..
     have:=rM k (m / 10) (by omega)
     show(ds (m / 10)).length+1<=_;omega
theorem LX{m:Nat}{r:List Nat}:ds m=48::r->m=0:=by
 induction m using Nat.strongRecOn generalizing r with
 |_ m c=>
   intro e;by_cases h:m<10
   · rw[jf h] at e;injection e with b _
     omega
   · rw[qj h] at e;cases q:ds (m / 10) with
     |nil=>exact absurd q (xQ _)
     |cons a l=>
       rw[q] at e;injection e with b _
       subst b
       have:=c (m / 10) (by omega) q
       omega
theorem Ux(m:Nat):cl (aq (m:Int))=ds m:=by
 show(Str.ofString (toString ((m:Nat):Int))).cps.toList=_;rw[X9];show(Nat.repr m).toList.map Char.toNat=_;rw[Nat.toList_repr]
theorem Uy(m:Nat):cl (aq (-((m+1:Nat):Int)))=45::ds (m+1):=by
 show(Str.ofString (toString (Int.negSucc m))).cps.toList=_;rw[X9];show("-" ++ Nat.repr (m+1)).toList.map Char.toNat=_;rw[String.toList_append,Wq,Nat.toList_repr];rfl
def fk(n:Int):Prop:=n.natAbs<10 ^ 60
theorem iD(n:Int):(∃ m:Nat,n=m/\cl (aq n)=ds m)\/∃ m:Nat,n=-((m+1:Nat):Int)/\cl (aq n)=45::ds (m+1):=by
 cases n with
 |ofNat m=>exact .inl ⟨m,rfl,Ux m⟩
 |negSucc m=>exact .inr ⟨m,rfl,Uy m⟩
theorem cN{n:Int}(h:fk n):(aq n).length<=61:=by
 rw[l8];unfold fk at h;rcases iD n with ⟨m,rfl,e⟩|⟨m,rfl,e⟩
 ·rw[e]; have:=rM 59 m (by omega); omega
 ·rw[e]; have:=rM 59 (m+1) (by omega); simp only[VU]; omega
theorem oZ(n:Int):∀ c∈cl (aq n),c=45\/48<=c/\c<=57:=by
 rcases iD n with ⟨m,rfl,e⟩|⟨m,rfl,e⟩
 ·rw[e]; exact λc a=> .inr (jg m c a)
 · rw[e]; intro c a;rcases List.mem_cons.mp a with z|z
   ·exact .inl z
   ·exact .inr (jg _ c z)
theorem vh{n:Int}(h:fk n):n.natAbs.log2<1920:=by
 by_cases z:n.natAbs=0
 ·rw[z]; decide
 ·rw[Nat.log2_lt z];unfold fk at h;exact Nat.lt_of_lt_of_le h (Nat.le_trans (show 10 ^ 60<=2 ^ 200 by decide) (Nat.pow_le_pow_right (by decide) (by decide)))
theorem DZ(c:Nat)(h:48<=c/\c<=57):xm ⟨#[c]⟩ "0123456789" = .ok false:=by
 have:∀ d:Nat,d<10->(Builtin.Str.occurrences "0123456789" ⟨#[48+d]⟩ 0 ("0123456789" : Str).length 1).isEmpty=false:=by decide +kernel
 have:=this (c-48) (by omega)
 rw[show 48+(c-48)=c from by omega] at this;unfold xm;rw[this];rfl
theorem oW(x:Str):Txt.startswith x "-" = match cl x with|c::_=>decide (c=45) | []=>false:=by
 unfold Txt.startswith;rw[StrLaws.subAt_eq,List.drop_zero];have a:("-" : Str).length=1:=rfl;have b:("-" : Str).cps.toList=[45]:=rfl;rw[a,b,l8];show(decide (0+1<=(cl x).length)&&((cl x).take 1==[45]))=_;cases cl x with
 |nil=>rfl
 |cons c r=>simp; rfl
theorem nP{n:Int}(h:fk n):(nJ (aq n)).res= .ok n:=by
 have E:=cN h;have hz:sizeLine=16777216:=rfl
 -- the f
 obtain⟨m,a,D,j,H,C⟩:∃ (m:Nat) (a:Str),LO (aC qu (pC (·.vyq)) (kC ("-" : Str))) (aC vJ (pC (·.vyq)) (kC (1:Int))) (pC (·.vyq)) (⟨aq n,none⟩:S_bi9)= .ok a/\cl a=ds m/\m<10 ^ 60/\(m=0->aq n=("0" : Str)):=by
  unfold fk at h;rcases iD n with ⟨m,rfl,e⟩|⟨m,rfl,e⟩
  · refine⟨m,aq m,?_,e,by omega,λz=>by rw[z]; rfl⟩
    have:Txt.startswith (aq (m:Int)) "-" = false:=by
     rw[oW,e];cases q:ds m with
     |nil=>rfl
     |cons c r=>
       have:=jg m c (by rw[q]; exact VP)
       show decide (c=45)=false;exact We (by omega)
    simp[qu,this]
  · refine⟨m+1,⟨(ds (m+1)).toArray⟩,?_,by simp[cl],by omega,λz=>by omega⟩
    have:Txt.startswith (aq (-((m+1:Nat):Int))) "-" = true:=by rw[oW,e]; rfl
    have b:=Eo _ _ _ e
    have d:(⟨(ds (m+1)).toArray⟩:Str).length<=sizeLine:=by
     have:=rM 59 (m+1) (by omega)
     show(ds (m+1)).toArray.size<=_;rw[VZ]; omega
    simp only[LO,aC,pC,kC,Res.bind,qu,this,on,vJ,b,on d]
 have A:a.length<=60/\1<=a.length:=by
  rw[l8,j];have G:=rM 59 m (by omega);have F:=List.length_pos_iff.mpr (xQ m);omega
 obtain⟨g,w,hd⟩:∃ c r,ds m=c::r:=by
  cases q:ds m with
  |nil=>exact absurd q (xQ m)
  |cons c r=>exact⟨c,r,rfl⟩
 have v:sC ⟨aq n,none⟩= .nx ⟨aq n,some a⟩:=by
  unfold sC bJ aY;rw[D]; rfl
 have s2:sB ⟨aq n,some a⟩= .nx ⟨aq n,some a⟩:=by
  have o:a.length<=sizeLine:=by omega
  have l:¬ (a.length:Int)<1:=by omega
  have i:¬ (60:Int)<a.length:=by omega
  simp[sB,BW,o,l,i]
 have u:sA ⟨aq n,some a⟩= .nx ⟨aq n,some a⟩:=by
  have b:cp (aZ Nr (vC (·.v8q))) (λ_=> .ok true) (aC xm (pC λp=>p.1) (kC ("0123456789" : Str))) (⟨aq n,some a⟩:S_bi9)= .ok (((cl a).map λc=>(⟨#[c]⟩:Str)).map λ_=>false):=by
   refine fG (λ_=>false) rfl (by rw[List.length_map,<-l8]; unfold ak; omega) λx y=>?_;obtain⟨c,b,rfl⟩:=List.mem_map.mp y;rw[j] at b
   have:=DZ c (jg m c b)
   simp[this]
  have:(((cl a).map λc=>(⟨#[c]⟩:Str)).map λ_=>false).any id=false:=by simp
  unfold sA gv aY;simp only[aZ] at b ⊢;rw[b];simp[QR,-List.map_map,-List.any_map,this]
 have t:nu ⟨aq n,some a⟩= .nx ⟨aq n,some a⟩:=by
  have o:a.length<=sizeLine:=by omega
  have l:kj a.cps.toList 0=some g:=by
   rw[k8 _ (by omega),show a.cps.toList=g::w from j.trans hd]; rfl
  have i:LN a 0= .ok ⟨#[g]⟩:=by unfold LN; rw[if_pos o,l]
  by_cases z:g=48
  · subst z
    have:=C (LX hd)
    simp[nu,i,this]
  · have:(⟨#[g]⟩:Str)≠("0" : Str):=λq=>z (by have:=congrArg cl q; injection this)
    simp[nu,i,this]
 have s:sy ⟨aq n,some a⟩= .rt n ⟨aq n,some a⟩:=by
  have:intText? (aq n)=some n:=by
   rcases iD n with ⟨k,rfl,e⟩|⟨k,rfl,e⟩
   ·have e:(aq (k:Int)).cps.toList=ds k:=e;rw[intText_digits (by rw[e]; exact jg k) (by rw[e]; exact xQ k) (by omega),e,YV]
   ·rw[intText_neg e (jg _) (xQ _) (by omega),YV]
  have B:(aq n).length<=640:=by omega
  unfold sy bZ aY;simp only[aZ,pC,Res.bind,IG];rw[if_pos B,this]; rfl
 unfold nJ Ao;simp only[aA,v,s2,u,t,s];rfl
def cD(sz:Int)(P:DI Bool)(a:Int):List Int:=(bg 0 sz).filter λb=>(P.get [a,b]).isSome
theorem tW(g:GΩ)(P:DI Bool)(a:Int)(h0:0<=g.hω)(c:g.hω<=1000):(Ky g P a).res= .ok (cD g.hω P a):=by
 have e:∀ s:S_b9,s=⟨g,P,a⟩->cp (aZ (fq 0) (aZ (λg=> .ok g.hω) (pC (·.vtq)))) (aC (El false) (aZ fN (kz (pC λp=>p.2.v0q) (pC λp=>p.1))) (pC λp=>p.2.vmq)) (pC λp=>p.1) s= .ok (cD g.hω P a):=by
  rintro s rfl;rw[jQ (l:=bg 0 g.hω) (λb=>(P.get [a,b]).isSome) (λx=>x) (by simp[dQ (lo:=0) (hi:=g.hω) (by omega) (by omega) (by omega) (by omega)]) (by rw[bH]; unfold ak; omega) (λb _=>by simp) (λb _ _=>by simp)];simp[cD]
 unfold Ky J7 C9;simp only[bZ,aY];rw[e _ rfl];rfl
theorem lI(g:GΩ)(a:Int)(b:0<=a/\a<g.hω)(c:g.hω<=1000):(EU g a).res= .ok (cD g.hω g.U a):=by
 have e:=nO g [a] (in1 b) (by omega);have d:=tW g g.U a (by omega) c;unfold EU JX;simp[CV,CU,e,d,ak]
theorem qy(g:GΩ)(a:Int)(b:0<=a/\a<g.hω)(c:g.hω<=1000):(ER g a).res= .ok (cD g.hω g.sω a):=by
 have e:=nO g [a] (in1 b) (by omega);have d:=tW g g.sω a (by omega) c;unfold ER JS;simp[CJ,CI,e,d,ak]
structure GI (g:GΩ) (sz:Int) (U:P1) (Y X:DI Int) (V:P1):Prop where
 wf:Wf sz g
 way:∀ x y,(g.U.get [x,y]).isSome=true↔(x,y)∈U\/(y,x)∈U
 lik:∀ k,(g.lω.get k).getD 0=(Y.get k).getD 0
 wsh:∀ k,g.wω.get k=X.get k
 shn:∀ x y,(g.sω.get [x,y]).isSome=true↔(x,y)∈V
structure Dr (sz:Int) (U:P1) (Y X:DI Int) (V:P1):Prop where
 ok:DrawOk sz U Y X V
 wl:U.length<64
 fl:Y.length<64
 dl:X.length<64
 sl:V.length<64
 fn:∀ p∈Y,fk p.2
 dn:∀ p∈X,fk p.2
def pl(sz:Int)(P:Int->Int->Bool):P1:=(bg 0 sz).flatMap λa=>((bg 0 sz).filter (P a)).map λb=>(a,b)
def pr(p:Int×Int):List Int:=[p.1,p.2]
theorem h9{sz:Int}{P:Int->Int->Bool}{p:Int×Int}:p∈pl sz P↔(0<=p.1/\p.1<sz)/\(0<=p.2/\p.2<sz)/\P p.1 p.2=true:=by
 obtain⟨x,y⟩:=p;unfold pl;rw[List.mem_flatMap];constructor
 · rintro⟨a,g,h⟩;obtain⟨b,f,e⟩:=List.mem_map.mp h;injection e with k j
   subst k j;obtain⟨d,c⟩:=List.mem_filter.mp f;exact⟨d6.mp g,d6.mp d,c⟩
 ·rintro⟨d,c,i⟩;exact⟨x,d6.mpr d,List.mem_map.mpr ⟨y,List.mem_filter.mpr ⟨d6.mpr c,i⟩,rfl⟩⟩
theorem t0(lo hi:Int):(bg lo hi).Pairwise (·<·):=by
 unfold bg;rw[List.pairwise_map];exact List.pairwise_lt_range.imp λh=>by omega
theorem MV{a b x y:Int}:HT.cQ [a,b] [x,y]=true↔a<x\/a=x/\b<y:=by
 rw[HT.dC];by_cases h:a=x
 · rw[on h,HT.dC];by_cases q:b=y
   · rw[on q]; constructor
     ·intro z; simp[HT.cQ] at z
     ·intro z; omega
   ·rw[VM q,WV]; omega
 ·rw[VM h,WV]; omega
theorem qK(sz:Int)(P:Int->Int->Bool):mH ((pl sz P).map pr):=by
 unfold mH pl;rw[List.pairwise_map,List.pairwise_flatMap];refine⟨λa _=>?_,(t0 0 sz).imp λ{a b} h x d y c=>?_⟩
 ·rw[List.pairwise_map];exact((t0 0 sz).filter _).imp λh=>MV.mpr (.inr ⟨rfl,h⟩)
 ·obtain⟨_,_,rfl⟩:=List.mem_map.mp d;obtain⟨_,_,rfl⟩:=List.mem_map.mp c;exact MV.mpr (.inl h)
theorem rJ{W:Type}{f:Int->List W}{n:Nat}:∀ l:List Int,(∀ a∈l,(f a).length<=n)->(l.flatMap f).length<=l.length*n
 |[],_=>by simp
 | a::l,h=>by
   have:=rJ l λx b=>h x (VR _ b)
   have:=h a VP
   rw[List.flatMap_cons,VT,VU,Nat.succ_mul];omega
theorem nZ{sz:Int}(h:sz<=60)(P:Int->Int->Bool):(pl sz P).length<=3600:=by
 have c:(bg 0 sz).length<=60:=by rw[bH]; omega
 have:=rJ (f:=λa=>((bg 0 sz).filter (P a)).map λb=>(a,b)) (n:=60) (bg 0 sz) λa _=>by
  rw[VN]; exact V4 (Wo _ _) c
 have:(bg 0 sz).length*60<=60*60:=YW _ c
 unfold pl;omega
abbrev ln(ws:List Str):Str:=Txt.join " " ws
theorem sY(x:Str):cl (ln [x])=cl x:=by show cl (Builtin.Str.glued " " [x])=_; rw[Wx]; rfl
theorem ip(x y:Str)(r:List Str):cl (ln (x::y::r))=cl x++32::cl (ln (y::r)):=by
 show cl (Builtin.Str.glued " " (x::y::r))=cl x++32::cl (Builtin.Str.glued " " (y::r));rw[Wx,Wx,iq];rfl
theorem jI{Z:Type}{c:Z->Res Int}{r:Str->Z->Res Str}{acc:Str}{st:Z}{a:Int}(B:Nat)(h:c st= .ok a)(b:fk a)(e:acc.length<=B)(f:B+61<=16000000):gh ik c r acc st=r (acc++aq a) st:=by
 have hz:sizeLine=16777216:=rfl;have d:(acc++aq a).length<=sizeLine:=by rw[V7]; have:=cN b; omega
 unfold gh ik;rw[h];show(match (if a.natAbs.log2<1920 then some (aq a) else none) with|some y=>if (acc++y).length<=sizeLine then r (acc++y) st else Res.bad|none=> .bad)=_;rw[if_pos (vh b)];show(if (acc++aq a).length<=sizeLine then r (acc++aq a) st else Res.bad)=_;rw[if_pos d]
theorem jS{Z:Type}{c:Z->Res Str}{r:Str->Z->Res Str}{acc y:Str}{st:Z}(B:Nat)(h:c st= .ok y)(b:y.length<=4000)(d:acc.length<=B)(e:B+4000<=16000000):gh fK c r acc st=r (acc++y) st:=by
 have hz:sizeLine=16777216:=rfl;have a:(acc++y).length<=sizeLine:=by rw[V7]; omega
 unfold gh fK;rw[h];show(match (if y.length<=sizeLine then some y else none) with|some y=>if (acc++y).length<=sizeLine then r (acc++y) st else Res.bad|none=> .bad)=_;rw[if_pos (by omega)];show(if (acc++y).length<=sizeLine then r (acc++y) st else Res.bad)=_;rw[if_pos a]
theorem jK{Z:Type}{r:Str->Z->Res Str}{acc y:Str}{st:Z}(B:Nat)(a:y.length<=4000)(b:acc.length<=B)(d:B+4000<=16000000):gh fK (kC y) r acc st=r (acc++y) st:=jS (c:=kC y) B rfl a b d
theorem Vd{Z:Type}{m:Str->Z->Res Str}{st:Z}{x:Str}(h:m Str.empty st= .ok x)(a:x.length<=16000000):B8 m st= .ok x:=by
 have hz:sizeLine=16777216:=rfl;unfold B8;rw[h];show(if x.length<=sizeLine then Res.ok x else .bad)=_;rw[if_pos (by omega)]
theorem fs2{Z:Type}{ca cb:Z->Res Int}{st:Z}{a b:Int}(x:Str)(k:x.length<=10)(f:ca st= .ok a)(e:cb st= .ok b)(d:fk a)(c:fk b):
 B8 (gh fK (kC x) (gh ik ca (gh fK (kC (" " : Str)) (gh ik cb EZ)))) st= .ok (Str.empty++x++aq a++(" " : Str)++aq b):=by
 have h:=cN d;have g:=cN c;have j:Str.empty.length=0:=rfl;have i:(" " : Str).length=1:=rfl;refine Vd ?_ (by simp only[V7]; omega);rw[jK 10 (by omega) (by omega) (by omega),jI 100 f d (by simp only[V7]; omega) (by omega),jK 200 (by omega) (by simp only[V7]; omega) (by omega),jI 300 e c (by simp only[V7]; omega) (by omega)];rfl
theorem fs3{Z:Type}{ca cb cd:Z->Res Int}{st:Z}{a b d:Int}(x:Str)(m:x.length<=10)(h:ca st= .ok a)(g:cb st= .ok b)(f:cd st= .ok d)(e:fk a)(c:fk b)(hd:fk d):
 B8 (gh fK (kC x) (gh ik ca (gh fK (kC (" " : Str)) (gh ik cb (gh fK (kC (" " : Str)) (gh ik cd EZ)))))) st= .ok (Str.empty++x++aq a++(" " : Str)++aq b++(" " : Str)++aq d):=by
 have j:=cN e;have i:=cN c;have ld:=cN hd;have l:Str.empty.length=0:=rfl;have k:(" " : Str).length=1:=rfl;refine Vd ?_ (by simp only[V7]; omega);rw[jK 10 (by omega) (by omega) (by omega),jI 100 h e (by simp only[V7]; omega) (by omega),jK 200 (by omega) (by simp only[V7]; omega) (by omega),jI 300 g c (by simp only[V7]; omega) (by omega),jK 400 (by omega) (by simp only[V7]; omega) (by omega),jI 500 f hd (by simp only[V7]; omega) (by omega)];rfl
theorem fsW{Z:Type}{ca:Z->Res Int}{cb:Z->Res Str}{st:Z}{a:Int}{y:Str}(e:ca st= .ok a)(d:cb st= .ok y)(b:fk a)(c:y.length<=4000):
 B8 (gh fK (kC ("wish " : Str)) (gh ik ca (gh fK (kC (" " : Str)) (gh fK cb EZ)))) st= .ok (Str.empty++("wish " : Str)++aq a++(" " : Str)++y):=by
 have f:=cN b;have i:Str.empty.length=0:=rfl;have h:(" " : Str).length=1:=rfl;have g:("wish " : Str).length=5:=rfl;refine Vd ?_ (by simp only[V7]; omega);rw[jK 10 (by omega) (by omega) (by omega),jI 100 e b (by simp only[V7]; omega) (by omega),jK 200 (by omega) (by simp only[V7]; omega) (by omega),jS 300 d c (by simp only[V7]; omega) (by omega)];rfl
theorem fs1{Z:Type}{ca:Z->Res Int}{st:Z}{a:Int}(x:Str)(f:x.length<=10)(c:ca st= .ok a)(b:fk a):
 B8 (gh fK (kC x) (gh ik ca EZ)) st= .ok (Str.empty++x++aq a):=by
 have d:=cN b;have e:Str.empty.length=0:=rfl;refine Vd ?_ (by simp only[V7]; omega);rw[jK 10 (by omega) (by omega) (by omega),jI 100 c b (by simp only[V7]; omega) (by omega)];rfl
def wR(p:Int×Int):List Str:=["way",aq p.1,aq p.2]
def fR(Y:DI Int)(p:Int×Int):List Str:=["like",aq p.1,aq p.2,aq ((Y.get [p.1,p.2]).getD 0)]
def sR(p:Int×Int):List Str:=["shun",aq p.1,aq p.2]
def dR(X:DI Int)(k:List Int):List Str := "wish" :: aq ((X.get k).getD 0)::k.map aq
def hR(sz:Int):List Str:=["houses",aq sz]
theorem eW(a b:Int):Str.empty++("way " : Str)++aq a++(" " : Str)++aq b=ln (wR (a,b)):=by
 apply iT;unfold wR;rw[ip,ip,sY,bU,bU,bU,bU];simp only[List.append_assoc];rfl
theorem eS2(a b:Int):Str.empty++("shun " : Str)++aq a++(" " : Str)++aq b=ln (sR (a,b)):=by
 apply iT;unfold sR;rw[ip,ip,sY,bU,bU,bU,bU];simp only[List.append_assoc];rfl
theorem eF(Y:DI Int)(a b:Int):Str.empty++("like " : Str)++aq a++(" " : Str)++aq b++(" " : Str)++aq ((Y.get [a,b]).getD 0)=ln (fR Y (a,b)):=by
 apply iT;unfold fR;rw[ip,ip,ip,sY,bU,bU,bU,bU,bU,bU];simp only[List.append_assoc];rfl
theorem eD(X:DI Int)(k:List Int)(b:k≠[]):Str.empty++("wish " : Str)++aq ((X.get k).getD 0)++(" " : Str)++Txt.join " " (k.map aq)=ln (dR X k):=by
 apply iT;unfold dR;cases k with
 |nil=>exact absurd rfl b
 |cons a k=>
   rw[ip,VQ,ip,bU,bU,bU,bU];simp only[WH];rfl
theorem eH(sz:Int):Str.empty++("houses " : Str)++aq sz=ln (hR sz):=by
 apply iT;unfold hR;rw[ip,sY,bU,bU];simp only[List.append_assoc];rfl
theorem aN{a sz:Int}(h:0<=a/\a<sz)(b:sz<=61):fk a:=by
 unfold fk
 have:a.natAbs<61:=by omega
 exact Nat.lt_trans this (by decide)
abbrev pW(U:P1):Int->Int->Bool:=λa b=>decide (a<b/\(a,b)∈U)
abbrev pF(Y:DI Int):Int->Int->Bool:=λa b=>decide ((Y.get [a,b]).getD 0≠0)
abbrev pS(V:P1):Int->Int->Bool:=λa b=>decide ((a,b)∈V)
abbrev ks(X:DI Int):List (List Int):=pick (X.map (·.1)) (bq (X.map (·.1)))
theorem zr{W:Type}(sz:Int)(P:Int->Int->Bool)(f:Int×Int->W):(pl sz P).map f=(bg 0 sz).flatMap λa=>((bg 0 sz).filter (P a)).map λb=>f (a,b):=by
 unfold pl;rw[List.map_flatMap];simp only[List.map_map];rfl
theorem oE{W:Type}(f:Int->List W)(p:List Int)(a:Int):(p++[a]).flatMap f=p.flatMap f++f a:=by
 rw[List.flatMap_append]; simp
theorem qM{W:Type}{sz:Int}(d:sz<=60){p r:List Int}{a:Int}(c:bg 0 sz=p++a::r)(P:Int->Int->Bool)(f:Int->Int->W):(p.flatMap λa=>((bg 0 sz).filter (P a)).map (f a)).length<=3600:=by
 have b:(bg 0 sz).length<=60:=by rw[bH]; omega
 have:=rJ (f:=λa=>((bg 0 sz).filter (P a)).map (f a)) (n:=60) p λa _=>by
  rw[VN]; exact V4 (Wo _ _) b
 have hp:p.length<=60:=by rw[c,VT] at b; omega
 have:p.length*60<=60*60:=YW _ hp
 omega
theorem Bb{W:Type}{sz:Int}(a:sz<=60)(P:Int->Bool)(f:Int->W):(((bg 0 sz).filter P).map f).length<=60:=by
 rw[VN];exact V4 (Wo _ _) (by rw[bH]; omega)
theorem oG{W:Type}{l m:List W}(h:l.length+m.length<=ak):tL l m=some ((),l++m):=by unfold tL; rw[if_pos h]
theorem qN(sz:Int)(h:sz<=60)(P:DI Bool)(a:Int):(cD sz P a).length<ak:=by
 have:=Wo (λb=>(P.get [a,b]).isSome) (bg 0 sz)
 have:=bH 0 sz
 unfold cD ak;omega
theorem yW{g:GΩ}{sz:Int}{U:P1}{Y X:DI Int}{V:P1}(G:GI g sz U Y X V)(W:WaysOk sz U)(a:Int):(cD sz g.U a).filter (λb=>decide (a<b))=(bg 0 sz).filter (pW U a):=by
 unfold cD;rw[List.filter_filter];congr 1;funext b
 have:=G.way a b
 rw[Xk,Xe,WV,WV,this];constructor
 · rintro⟨d,c|c⟩
   ·exact⟨d,c⟩
   · have:=W.all _ c
     simp only at this;omega
 ·rintro⟨d,c⟩;exact⟨d,.inl c⟩
theorem oY{g:GΩ}{sz:Int}{U:P1}{Y X:DI Int}{V:P1}(G:GI g sz U Y X V)(a:Int):cD sz g.sω a=(bg 0 sz).filter (pS V a):=by
 unfold cD;congr 1;funext b
 have:=G.shn a b
 rw[Xk,WV,this]
section
variable{g:GΩ}{sz:Int}{U:P1}{Y X:DI Int}{V:P1}
theorem KJ(G:GI g sz U Y X V)(h:DrawOk sz U Y X V):(Dh g).res= .ok ((pl sz (pW U)).map λp=>ln (wR p)):=by
 have d:=h.size;have f:=G.wf.count;have t:fq 0 sz= .ok (bg 0 sz):=dQ (by omega) (by omega) (by omega) (by omega);have q:(oV g).res= .ok sz:=by rw[lj,f]
 obtain⟨x,e,A,rfl⟩:=cF (u:=λa s=>{s with v0q:=some a}) (c:=jG) (λp (s:S_bp9)=>∃ o,s=⟨g,some (p.flatMap λa=>((bg 0 sz).filter (pW U a)).map λb=>ln (wR (a,b))),o⟩)
  (bg 0 sz) ⟨g,some [],none⟩ ⟨none,rfl⟩ (by
    rintro p a r s j ⟨o,rfl⟩;have k:=(lp j).2;have m:=lI g a (by rw[f]; exact k) (by omega);rw[f] at m
    have v:cp (dM EU (pC (·.vcq)) (vC (·.v0q))) (aC LB (vC λp=>p.2.v0q) (pC λp=>p.1)) (B8 (gh fK (kC ("way " : Str)) (gh ik (vC λp=>p.2.v0q) (gh fK (kC (" " : Str)) (gh ik (pC λp=>p.1) EZ))))) (⟨g,some (p.flatMap λa=>((bg 0 sz).filter (pW U a)).map λb=>ln (wR (a,b))),some a⟩:S_bp9)= .ok (((bg 0 sz).filter (pW U a)).map λb=>ln (wR (a,b))):=by
     rw[jQ (l:=cD sz g.U a) (λb=>decide (a<b)) (λb=>ln (wR (a,b))) (by simp[m]) (qN sz d.2 _ _) (λb _=>by simp) (λb i _=>by
      have i:=d6.mp (List.mem_filter.mp i).1;rw[<-eW]
      exact fs2 "way " (by decide) rfl rfl (aN k (by omega)) (aN i (by omega))),yW G h.U]
    have z:=qM d.2 j (pW U) λa b=>ln (wR (a,b));have y:=Bb d.2 (pW U a) λb=>ln (wR (a,b));refine⟨⟨g,some ((p.flatMap λa=>((bg 0 sz).filter (pW U a)).map λb=>ln (wR (a,b)))++((bg 0 sz).filter (pW U a)).map λb=>ln (wR (a,b))),some a⟩,.inl ?_,some a,by rw[oE]⟩;simp only[jG,bf,pZ];rw[v];simp only[bndO];rw[oG (by unfold ak; omega)]
    rfl)
 have w:r9 ⟨g,none,none⟩= .nx ⟨g,some [],none⟩:=by simp[r9,ak]
 have n:r8 ⟨g,some [],none⟩=ij (λa s=>{s with v0q:=some a}) jG (bg 0 sz) ⟨g,some [],none⟩:=by
  unfold r8 ci;simp only[aZ,cq,pC,Res.bind,q,t]
 rw[e] at n;unfold Dh Ah;simp only[aA,w,n];rw[zr];rfl
theorem Fj(G:GI g sz U Y X V)(h:DrawOk sz U Y X V):(Di g).res= .ok ((pl sz (pS V)).map λp=>ln (sR p)):=by
 have d:=h.size;have f:=G.wf.count;have t:fq 0 sz= .ok (bg 0 sz):=dQ (by omega) (by omega) (by omega) (by omega);have q:(oV g).res= .ok sz:=by rw[lj,f]
 obtain⟨x,e,A,rfl⟩:=cF (u:=λa s=>{s with v0q:=some a}) (c:=jH) (λp (s:S_bn9)=>∃ o,s=⟨g,some (p.flatMap λa=>((bg 0 sz).filter (pS V a)).map λb=>ln (sR (a,b))),o⟩)
  (bg 0 sz) ⟨g,some [],none⟩ ⟨none,rfl⟩ (by
    rintro p a r s j ⟨o,rfl⟩;have k:=(lp j).2;have m:=qy g a (by rw[f]; exact k) (by omega);rw[f] at m
    have v:cp (dM ER (pC (·.vcq)) (vC (·.v0q))) (λ_=> .ok true) (B8 (gh fK (kC ("shun " : Str)) (gh ik (vC λp=>p.2.v0q) (gh fK (kC (" " : Str)) (gh ik (pC λp=>p.1) EZ))))) (⟨g,some (p.flatMap λa=>((bg 0 sz).filter (pS V a)).map λb=>ln (sR (a,b))),some a⟩:S_bn9)= .ok (((bg 0 sz).filter (pS V a)).map λb=>ln (sR (a,b))):=by
     rw[fG (l:=cD sz g.sω a) (λb=>ln (sR (a,b))) (by simp[m]) (qN sz d.2 _ _) (λb i=>by
      have i:=d6.mp (List.mem_filter.mp i).1;rw[<-eS2]
      exact fs2 "shun " (by decide) rfl rfl (aN k (by omega)) (aN i (by omega))),oY G]
    have z:=qM d.2 j (pS V) λa b=>ln (sR (a,b));have y:=Bb d.2 (pS V a) λb=>ln (sR (a,b));refine⟨⟨g,some ((p.flatMap λa=>((bg 0 sz).filter (pS V a)).map λb=>ln (sR (a,b)))++((bg 0 sz).filter (pS V a)).map λb=>ln (sR (a,b))),some a⟩,.inl ?_,some a,by rw[oE]⟩;simp only[jH,bf,pZ];rw[v];simp only[bndO];rw[oG (by unfold ak; omega)]
    rfl)
 have w:sj ⟨g,none,none⟩= .nx ⟨g,some [],none⟩:=by simp[sj,ak]
 have n:si ⟨g,some [],none⟩=ij (λa s=>{s with v0q:=some a}) jH (bg 0 sz) ⟨g,some [],none⟩:=by
  unfold si ci;simp only[aZ,cq,pC,Res.bind,q,t]
 rw[e] at n;unfold Di Aj;simp only[aA,w,n];rw[zr];rfl
theorem rH(D:Dr sz U Y X V)(k:List Int):fk ((Y.get k).getD 0):=by
 cases q:Y.get k with
 |none=>exact(by unfold fk; decide:fk 0)
 |some v=>exact D.fn _ (m8 q)
theorem rR(D:Dr sz U Y X V)(k:List Int):fk ((X.get k).getD 0):=by
 cases q:X.get k with
 |none=>exact(by unfold fk; decide:fk 0)
 |some v=>exact D.dn _ (m8 q)
theorem Fl(G:GI g sz U Y X V)(D:Dr sz U Y X V):(Dm g).res= .ok ((pl sz (pF Y)).map λp=>ln (fR Y p)):=by
 have I:=D.ok.size;have l:=G.wf.count;have y:fq 0 sz= .ok (bg 0 sz):=dQ (by omega) (by omega) (by omega) (by omega);have x:(oV g).res= .ok sz:=by rw[lj,l]
 obtain⟨N,e,R,Q,O,rfl⟩:=cF (u:=λa s=>{s with v0q:=some a}) (c:=jL) (λp (s:S_bh9)=>∃ E i f,s=⟨g,some (p.flatMap λa=>((bg 0 sz).filter (pF Y a)).map λb=>ln (fR Y (a,b))),E,i,f⟩)
  (bg 0 sz) ⟨g,some [],none,none,none⟩ ⟨none,none,none,rfl⟩ (by
    rintro p a r s o ⟨E,i,f,rfl⟩;have v:=(lp o).2;have H:=qM I.2 o (pF Y) λa b=>ln (fR Y (a,b));generalize J:(p.flatMap λa=>((bg 0 sz).filter (pF Y a)).map λb=>ln (fR Y (a,b)))=d at H
    obtain⟨s2,k,C,n,rfl⟩:=cF (u:=λa s=>{s with v2q:=some a}) (c:=jT) (λq (s:S_bh9)=>∃ i f,s=⟨g,some (d++(q.filter (pF Y a)).map λb=>ln (fR Y (a,b))),some a,i,f⟩)
     (bg 0 sz) ⟨g,some d,some a,i,f⟩ ⟨i,f,by simp⟩ (by
       rintro q b r s j ⟨i,f,rfl⟩;have t:=(lp j).2;have m:=nQ g a b (by rw[l]; exact v) (by rw[l]; exact t);rw[G.lik] at m
       have P:q.length<=60:=by
        have:=bH 0 sz
        rw[j,VT] at this;omega
       have F:=Wo (pF Y a) q;generalize B:(q.filter (pF Y a))=h at F;by_cases z:(Y.get [a,b]).getD 0=0
       · have ep:pF Y a b=false:=We (λw=>w z);refine⟨⟨g,some (d++(h.map λb=>ln (fR Y (a,b)))),some a,some b,some ((Y.get [a,b]).getD 0)⟩,.inl ?_,some b,some ((Y.get [a,b]).getD 0),?_⟩
         rotate_left
         ·rw[XF,WG,ep,B];simp only[W4,XM,List.filter_nil,Wp]
         ·simp[jT,gM,jJ,m,z]
       · have ep:pF Y a b=true:=Wm z;refine⟨⟨g,some (d++(h.map λb=>ln (fR Y (a,b)))++[ln (fR Y (a,b))]),some a,some b,some ((Y.get [a,b]).getD 0)⟩,.inl ?_,some b,some ((Y.get [a,b]).getD 0),?_⟩
         · have A:=fs3 (Z:=S_bh9) (ca:=vC (·.v0q)) (cb:=vC (·.v2q)) (cd:=vC (·.vnq)) (st:=⟨g,some (d++(h.map λb=>ln (fR Y (a,b)))),some a,some b,some ((Y.get [a,b]).getD 0)⟩) "like " (by decide) rfl rfl rfl (aN v (by omega)) (aN t (by omega)) (rH D [a,b]);rw[eF] at A;have M:gM ⟨g,some (d++(h.map λb=>ln (fR Y (a,b)))),some a,some b,f⟩= .nx ⟨g,some (d++(h.map λb=>ln (fR Y (a,b)))),some a,some b,some ((Y.get [a,b]).getD 0)⟩:=by simp[gM,m]
           have L:fX ⟨g,some (d++(h.map λb=>ln (fR Y (a,b)))),some a,some b,some ((Y.get [a,b]).getD 0)⟩= .nx ⟨g,some (d++(h.map λb=>ln (fR Y (a,b)))++[ln (fR Y (a,b))]),some a,some b,some ((Y.get [a,b]).getD 0)⟩:=by
            simp only[fX,bf,pZ];rw[A];simp only[bndO];rw[k9 (by rw[List.length_append,List.length_map]; unfold ak; omega)];rfl
           simp only[jT,aA];rw[M];simp only[jJ,gv,aY,aC,vC,kC,Res.bind,i3];rw[We z];exact L
         · rw[XF,WG,ep,B]
           simp)
    refine⟨⟨g,some (d++((bg 0 sz).filter (pF Y a)).map λb=>ln (fR Y (a,b))),some a,C,n⟩,.inl ?_,some a,C,n,by rw[oE,J]⟩;unfold jL ci;simp only[aZ,cq,pC,Res.bind,x,y]
    exact k)
 have K:sE ⟨g,none,none,none,none⟩= .nx ⟨g,some [],none,none,none⟩:=by simp[sE,ak]
 have k:sD ⟨g,some [],none,none,none⟩=ij (λa s=>{s with v0q:=some a}) jL (bg 0 sz) ⟨g,some [],none,none,none⟩:=by
  unfold sD ci;simp only[aZ,cq,pC,Res.bind,x,y]
 rw[e] at k;unfold Dm Aq;simp only[aA,K,k];rw[zr];rfl
end
theorem qe{X:Type}{F:DI X}(a:DI.nd F)(k:List Int):k∈F.map (·.1)↔(F.get k).isSome=true:=by
 constructor
 ·intro h; obtain⟨v,e,_⟩:=gF a h; rw[e]; rfl
 ·intro h;obtain⟨v,e⟩:=Option.isSome_iff_exists.mp h;exact List.mem_map.mpr ⟨(k,v),m8 e,rfl⟩
theorem i0{X:DI Int}(a:DI.nd X)(k:List Int):k∈ks X↔k∈X.map (·.1):=(fQ a).1.mem_iff
theorem kN{X:DI Int}(a:DI.nd X):(ks X).length=X.length:=by rw[(fQ a).1.length_eq,VN]
theorem vq{sep:Str}{xs:List Str}(B:Nat)(a:∀ y∈xs,y.length<=B)(h:xs.length*B+xs.length*sep.length<=16777216):mZ sep xs= .ok (Txt.join sep xs):=by
 unfold mZ JoinOk;rw[StrLaws.joinFits a h];rfl
theorem xA(sep:Str)(xs:List Str):(Txt.join sep xs).length<=(xs.map (·.length)).sum+xs.length*sep.length:=by
 show(Builtin.Str.glued sep xs).length<=_;rw[Wx];exact StrLaws.join_length_le sep xs
theorem zV(ws:List Str):(ln ws).length<=(ws.map (·.length)).sum+ws.length:=by
 have:=xA " " ws
 have e:(" " : Str).length=1:=rfl;rw[e,Nat.mul_one] at this;exact this
theorem uR{B:Nat}:∀ xs:List Str,(∀ y∈xs,y.length<=B)->(xs.map (·.length)).sum<=xs.length*B:=StrLaws.sumLen_le
def fJ(sz:Int)(U:P1)(Y X:DI Int)(V:P1):List (List Str):=
 [hR sz]++(pl sz (pW U)).map wR++(pl sz (pF Y)).map (fR Y)++(pl sz (pS V)).map sR++(ks X).map (dR X)
def vj(sz:Int)(U:P1)(Y X:DI Int)(V:P1):List Str:=(fJ sz U Y X V).map λr=>ln r
def Dt(sz:Int)(U:P1)(Y X:DI Int)(V:P1):Str:=Txt.join "" ((vj sz U Y X V).map λx=>x++("\n" : Str))
section
variable{g:GΩ}{sz:Int}{U:P1}{Y X:DI Int}{V:P1}
theorem wX(sz:Int)(P:Int->Int->Bool):(pl sz P).Nodup:=by
 have:=(qK sz P)
 unfold mH at this;rw[List.pairwise_map] at this;exact this.imp λ{a b} h e=>by subst e; rw[fT] at h; exact nomatch h
theorem mJ(D:Dr sz U Y X V)(p:Int×Int):p∈U↔p∈pl sz (pW U):=by
 rw[h9,WV];constructor
 ·intro h; have:=D.ok.U.all p h; exact⟨by omega,by omega,by omega,h⟩
 ·rintro⟨_,_,_,h⟩; exact h
theorem qB(D:Dr sz U Y X V)(p:Int×Int):p∈V↔p∈pl sz (pS V):=by
 rw[h9,WV];constructor
 ·intro h; have:=D.ok.V.2.2 p h; unfold uL at this; exact⟨by omega,by omega,h⟩
 ·rintro⟨_,_,h⟩; exact h
abbrev nz(Y:DI Int):List Int->Bool:=λk=>decide ((Y.get k).getD 0≠0)
theorem oB(D:Dr sz U Y X V):(ks Y).filter (nz Y)=(pl sz (pF Y)).map pr:=by
 refine nX (List.Pairwise.filter _ (fQ D.ok.Y.2.1).2) (qK sz _) λk=>?_;rw[List.mem_filter,i0 D.ok.Y.2.1];constructor
 ·rintro⟨g,c⟩;obtain⟨q,d,rfl⟩:=List.mem_map.mp g;obtain⟨a,b,e,h⟩:=D.ok.Y.2.2 q d;rw[e] at c ⊢;exact List.mem_map.mpr ⟨(a,b),h9.mpr ⟨⟨h.1,h.2.1⟩,⟨h.2.2.1,h.2.2.2⟩,c⟩,rfl⟩
 · intro f;obtain⟨p,hp,rfl⟩:=List.mem_map.mp f;have h:=(h9.mp hp).2.2;refine⟨(qe D.ok.Y.2.1 _).mpr ?_,h⟩;cases q:Y.get (pr p) with
   |some v=>rfl
   |none=>
     have h:=Wy h;exact absurd (by show(Y.get (pr p)).getD 0=0; rw[q]; rfl) h
theorem ll(D:Dr sz U Y X V){k:List Int}(a:k∈ks X):RoadOk sz k:=by
 obtain⟨p,hp,rfl⟩:=List.mem_map.mp ((i0 D.ok.X.2.1 k).mp a);exact D.ok.X.2.2 p hp
theorem tV(G:GI g sz U Y X V)(D:Dr sz U Y X V):(EO g).res= .ok ((ks X).map λk=>(k,(X.get k).getD 0)):=by
 have b:∀ k,k∈g.wω.map (·.1)↔k∈X.map (·.1):=λk=>by rw[qe G.wf.wsh.1,qe D.ok.X.2.1,G.wsh]
 have hp:(g.wω.map (·.1)).Perm (X.map (·.1)):=(Yi G.wf.wsh.1 D.ok.X.2.1).mpr b;have d:g.wω.length=X.length:=by have:=hp.length_eq; rwa [VN,VN] at this
 have hd:=D.dl
 have es:fM (g.wω.map (·.1))= .ok (ks X):=by
  unfold fM
  rw[on ⟨λk a z=>by
   obtain⟨p,hp,rfl⟩:=List.mem_map.mp a
   have:=(G.wf.wsh.2 p hp).two
   rw[z] at this
   simp at this,by rw[VN]; omega⟩]
  rw[AU G.wf.wsh.1 (fQ D.ok.X.2.1).2 λk=>(b k).trans (i0 D.ok.X.2.1 k).symm]
 have e:∀ s:S_o9,s=⟨g⟩->cp (aZ zb (aZ (λg=> .ok g.wω) (pC (·.vtq)))) (λ_=> .ok true) (kz (aZ E1 (pC λp=>p.1)) (aC Ce (aZ (λg=> .ok g.wω) (pC λp=>p.2.vtq)) (pC λp=>p.1))) s= .ok ((ks X).map λk=>(k,(X.get k).getD 0)):=by
  rintro s rfl;refine fG (l:=ks X) _ ?_ (by rw[kN D.ok.X.2.1]; unfold ak; omega) λk a=>?_
  ·exact es
  ·obtain⟨v,c,_⟩:=gF D.ok.X.2.1 ((i0 D.ok.X.2.1 k).mp a);simp[G.wsh,c]
 unfold EO JP CD;simp only[bZ,aY];rw[e _ rfl];rfl
theorem Fi(G:GI g sz U Y X V)(D:Dr sz U Y X V):(Dg g).res= .ok ((ks X).map λk=>ln (dR X k)):=by
 have H:=tV G D;have N:=D.ok.size;have A:=kN D.ok.X.2.1;have hd:=D.dl
 obtain⟨M,e,a,b,c,rfl⟩:=cF (u:=λa s=>{s with vpq:=some a.1,vnq:=some a.2}) (c:=ny) (λp (s:S_bq9)=>∃ a b c,s=⟨g,some (p.map λx=>ln (dR X x.1)),a,b,c⟩)
  ((ks X).map λk=>(k,(X.get k).getD 0)) ⟨g,some [],none,none,none⟩ ⟨none,none,none,rfl⟩ (by
    rintro p ⟨k,v⟩ r s j ⟨a,b,c,rfl⟩;have w:(k,v)∈(ks X).map λk=>(k,(X.get k).getD 0):=by rw[j]; simp
    obtain⟨k',B,K⟩:=List.mem_map.mp w;injection K with i f
    subst i f;have d:=ll D B;have q:=d.len
    have t:p.length<=64:=by
     have e:((ks X).map λk=>(k,(X.get k).getD 0)).length=(ks X).length:=VN ..;rw[j,VT] at e;omega
    have m:∀ y∈k'.map aq,y.length<=61:=λy o=>by
     obtain⟨x,h,rfl⟩:=List.mem_map.mp o;exact cN (aN (d.all x h) (by omega))
    have I:=vq (sep := " ") 61 m (by rw[VN,show(" " : Str).length=1 from rfl]; omega)
    have C:(Txt.join " " (k'.map aq)).length<=4000:=by
     have F:=zV (k'.map aq);have E:=uR _ m;rw[VN] at F E;show(ln _).length<=_;omega
    have J:cp (vC (·.vpq)) (λ_=> .ok true) (aZ p6 (pC λp=>p.1)) (⟨g,some (p.map λx=>ln (dR X x.1)),some k',some ((X.get k').getD 0),c⟩:S_bq9)= .ok (k'.map aq):=by
     refine fG (l:=k') _ rfl (by unfold ak; omega) λx h=>?_
     have:=vh (aN (d.all x h) (by omega))
     simp[p6,this]
    have L:l9 ⟨g,some (p.map λx=>ln (dR X x.1)),some k',some ((X.get k').getD 0),c⟩= .nx ⟨g,some (p.map λx=>ln (dR X x.1)),some k',some ((X.get k').getD 0),some (Txt.join " " (k'.map aq))⟩:=by
     unfold l9 bJ aY;simp only[aC,kC,Res.bind];rw[J];simp only[I];rfl
    have n:=fsW (Z:=S_bq9) (ca:=vC (·.vnq)) (cb:=vC (·.veq)) (st:=⟨g,some (p.map λx=>ln (dR X x.1)),some k',some ((X.get k').getD 0),some (Txt.join " " (k'.map aq))⟩) rfl rfl (rR D k') C;rw[eD X k' (λz=>by have:=d.two; rw[z] at this; simp at this)] at n;refine⟨⟨g,some ((p.map λx=>ln (dR X x.1))++[ln (dR X k')]),some k',some ((X.get k').getD 0),some (Txt.join " " (k'.map aq))⟩,.inl ?_,some k',some ((X.get k').getD 0),some (Txt.join " " (k'.map aq)),by simp⟩;simp only[ny,aA];rw[L];simp only[rY,bf,pZ];rw[n];simp only[bndO];rw[k9 (by rw[List.length_map]; unfold ak; omega)]
    rfl)
 have i:r6 ⟨g,none,none,none,none⟩= .nx ⟨g,some [],none,none,none⟩:=by simp[r6,ak]
 have f:rZ ⟨g,some [],none,none,none⟩=ij (λa s=>{s with vpq:=some a.1,vnq:=some a.2}) ny ((ks X).map λk=>(k,(X.get k).getD 0)) ⟨g,some [],none,none,none⟩:=by
  unfold rZ ci;simp only[cq,pC,Res.bind,H]
 rw[e] at f;unfold Dg Af;simp only[aA,i,f];rw[List.map_map];rfl
def lh(x:Str):Prop:=10∉cl x/\32∉cl x/\x.length<=61
def Kn(r:List Str):Prop:=r≠[]/\r.length<=62/\∀ w∈r,lh w
theorem DT{n:Int}(h:fk n):lh (aq n):=⟨λh=>by have:=oZ n _ h; omega,λh=>by have:=oZ n _ h; omega,cN h⟩
theorem ko{w:Str}{r:List Str}(h:lh w)(b:∀ w∈r,lh w)(c:r.length<=61):Kn (w::r):=⟨by simp,by simp; omega,λx a=>by
 rcases List.mem_cons.mp a with rfl|a
 ·exact h
 ·exact b x a⟩
theorem g8{k:List Int}(h:∀ x∈k,fk x):∀ w∈k.map aq,lh w:=λw b=>by
 obtain⟨x,a,rfl⟩:=List.mem_map.mp b;exact DT (h x a)
theorem zq:lh "way" /\ lh "like" /\ lh "shun" /\ lh "wish" /\ lh "houses" := by unfold lh; decide
theorem Hc{p:Int×Int}{P:Int->Int->Bool}(e:sz<=60)(hp:p∈pl sz P){l:List Int}(b:∀ x∈l,fk x):∀ x∈p.1::p.2::l,fk x:=λx a=>by
 obtain⟨d,c,_⟩:=h9.mp hp;rcases List.mem_cons.mp a with rfl|a
 ·exact aN d (by omega)
 · rcases List.mem_cons.mp a with rfl|a
   ·exact aN c (by omega)
   ·exact b x a
theorem mO(D:Dr sz U Y X V):∀ r∈fJ sz U Y X V,Kn r:=by
 obtain⟨j,i,g,f,e⟩:=zq;have c:=D.ok.size;intro r a;have d:∀ x∈([]:List Int),fk x:=λ_ h=>(nomatch h);have one:∀ {v:Int},fk v->∀ x∈[v],fk x:=λl x b=>by rw[List.mem_singleton.mp b]; exact l
 unfold fJ at a;simp only[List.mem_append,List.mem_map,List.mem_singleton] at a;rcases a with (((rfl|⟨p,hp,rfl⟩)|⟨p,hp,rfl⟩)|⟨p,hp,rfl⟩)|⟨k,n,rfl⟩
 ·exact ko e (g8 (k:=[sz]) (one (aN (sz:=sz+1) (by omega) (by omega)))) (by simp)
 ·exact ko j (g8 (Hc c.2 hp d)) (by simp)
 ·exact ko i (g8 (Hc c.2 hp (one (rH D _)))) (by simp)
 ·exact ko g (g8 (Hc c.2 hp d)) (by simp)
 · have a:=ll D n;have m:=a.len
   exact ko f (g8 (k:=(X.get k).getD 0::k) λx b=>by
    rcases List.mem_cons.mp b with rfl|b
    ·exact rR D k
    ·exact aN (a.all x b) (by omega)) (by simp; omega)
theorem tZ{r:List Str}(h:Kn r):(ln r).length<=4000:=by
 have d:=zV r;have c:=uR r λw a=>(h.2.2 w a).2.2;have b:=h.2.1;omega
theorem ua{l:P1}{P:Int->Int->Bool}(a:l.Nodup)(c:l.length<64)(b:∀ p,p∈l↔p∈pl sz P):(pl sz P).length<64:=by
 have:=(Yi a (wX sz P)).mpr b
 rw[<-this.length_eq]; exact c
theorem FP(D:Dr sz U Y X V):(fJ sz U Y X V).length<=300:=by
 have:=ua D.ok.U.nd D.wl (mJ D)
 have:=ua D.ok.V.2.1 D.sl (qB D)
 have a:=congrArg List.length (oB D)
 have:=Wo (nz Y) (ks Y)
 have:=kN D.ok.Y.2.1
 have:=kN D.ok.X.2.1
 have:=D.dl
 have:=D.fl
 rw[List.length_map] at a;unfold fJ;simp only[List.length_append,List.length_map,List.length_cons,List.length_nil];omega
theorem OQ(x:Str):(x++("\n" : Str)).length=x.length+1:=by rw[V7]; rfl
theorem oh(D:Dr sz U Y X V):∀ y∈vj sz U Y X V,y.length<=4000:=λy a=>by
 obtain⟨r,b,rfl⟩:=List.mem_map.mp a;exact tZ (mO D r b)
theorem qd(D:Dr sz U Y X V):(vj sz U Y X V).length<=300:=by
 unfold vj; rw[List.length_map]; exact FP D
theorem E6(D:Dr sz U Y X V):mZ "" ((vj sz U Y X V).map λx=>x++("\n" : Str))= .ok (Dt sz U Y X V):=by
 have c:=qd D
 exact vq 4001 (λy a=>by
  obtain⟨x,b,rfl⟩:=List.mem_map.mp a;rw[OQ]
  have:=oh D x b
  omega) (by rw[VN,show("" : Str).length=0 from rfl]; omega)
theorem oj:vj sz U Y X V=[ln (hR sz)]++((pl sz (pW U)).map λp=>ln (wR p))++((pl sz (pF Y)).map λp=>ln (fR Y p))++((pl sz (pS V)).map λp=>ln (sR p))++((ks X).map λk=>ln (dR X k)):=by
 unfold vj fJ;simp only[List.map_append,List.map_map,List.map_cons,List.map_nil];rfl
theorem Fo(G:GI g sz U Y X V)(D:Dr sz U Y X V):(yP g).res= .ok (Dt sz U Y X V):=by
 have w:=D.ok.size;have n:=KJ G D.ok;have m:=Fl G D;have j:=Fj G D.ok;have i:=Fi G D;have d:=qd D;have b:=oh D;have c:=E6 D;rw[oj] at d b c;generalize (pl sz (pW U)).map (λp=>ln (wR p))=A at *;generalize (pl sz (pF Y)).map (λp=>ln (fR Y p))=B at *;generalize (pl sz (pS V)).map (λp=>ln (sR p))=C at *;generalize (ks X).map (λk=>ln (dR X k))=E at *;generalize Dt sz U Y X V=T at *;simp only[VT,VU,XC] at d;have v:sv ⟨g,none,none⟩= .nx ⟨g,some sz,none⟩:=by simp[sv,lj,G.wf.count]
 have e:=fs1 (Z:=S_bm9) (ca:=vC (·.vvq)) (st:=⟨g,some sz,none⟩) (a:=sz) "houses " (by decide) rfl (aN (a:=sz) (sz:=sz+1) (by omega) (by omega));rw[eH] at e
 have u:ss ⟨g,some sz,none⟩= .nx ⟨g,some sz,some [ln (hR sz)]⟩:=by
  simp only[ss,bJ,aY,lZ,bx];rw[e];simp[ak]
 have t:sr ⟨g,some sz,some [ln (hR sz)]⟩= .nx ⟨g,some sz,some ([ln (hR sz)]++A)⟩:=by
  simp only[sr,bf,pZ,cq,pC,Res.bind,n,bndO];rw[oG (by simp only[List.length_cons,List.length_nil]; unfold ak; omega)];rfl
 have s:sn ⟨g,some sz,some ([ln (hR sz)]++A)⟩= .nx ⟨g,some sz,some ([ln (hR sz)]++A++B)⟩:=by
  simp only[sn,bf,pZ,cq,pC,Res.bind,m,bndO];rw[oG (by simp only[List.length_append,List.length_cons,List.length_nil]; unfold ak; omega)];rfl
 have r:sm ⟨g,some sz,some ([ln (hR sz)]++A++B)⟩= .nx ⟨g,some sz,some ([ln (hR sz)]++A++B++C)⟩:=by
  simp only[sm,bf,pZ,cq,pC,Res.bind,j,bndO];rw[oG (by simp only[List.length_append,List.length_cons,List.length_nil]; unfold ak; omega)];rfl
 have q:sk ⟨g,some sz,some ([ln (hR sz)]++A++B++C)⟩= .nx ⟨g,some sz,some ([ln (hR sz)]++A++B++C++E)⟩:=by
  simp only[sk,bf,pZ,cq,pC,Res.bind,i,bndO];rw[oG (by simp only[List.length_append,List.length_cons,List.length_nil]; unfold ak; omega)];rfl
 generalize h:[ln (hR sz)]++A++B++C++E=L at *;have z:L.length<=300:=by rw[<-h]; simp only[VT,VU,XC]; omega
 have o:cp (vC (·.viq)) (λ_=> .ok true) (aC pQ (pC λp=>p.1) (kC ("\n" : Str))) (⟨g,some sz,some L⟩:S_bm9)= .ok (L.map λx=>x++("\n" : Str)):=by
  refine fG (l:=L) _ rfl (by unfold ak; omega) λx f=>?_
  have:=b x f
  have hz:sizeLine=16777216:=rfl;have y:("\n" : Str).length=1:=rfl;simp only[aC,pC,kC,Res.bind,pQ];rw[on (by omega)]
 unfold yP Ak;simp only[aA,v,u,t,s,r,q];simp only[yg,bZ,aY,aC,kC,Res.bind];rw[o];simp only[c];rfl
end
def wd:D->Str | .int i=>aq i | .str x=>x|_ => ""
def Q6(d:D):Prop:=(∃ i,d= .int i/\fk i)\/∃ x,d= .str x/\x.length<=61
theorem Mp{d:D}(h:Q6 d):qt d= .ok (wd d)/\(wd d).length<=61:=by
 rcases h with ⟨i,rfl,h⟩|⟨x,rfl,h⟩
 ·refine⟨?_,cN h⟩;unfold qt;simp[vh h,wd]
 ·exact⟨rfl,h⟩
def De:List D->Prop | []=>True|d::l=>Q6 d/\De l
theorem yU:∀ {l:List D},De l->∀ d∈l,Q6 d
 | d::l,h,x,a=>by
   rcases List.mem_cons.mp a with rfl|a
   ·exact h.1
   ·exact yU h.2 x a
theorem p7(l:List D)(h:De l)(k:l.length<=1000):(lG l).res= .ok (ln (l.map wd)++("\n" : Str)):=by
 have i:cp (pC (·.vzq)) (λ_=> .ok true) (aZ qt (pC λp=>p.1)) (⟨l⟩:S_w9)= .ok (l.map wd):=by
  refine fG (l:=l) _ rfl (by unfold ak; omega) λd hd=>?_
  have:=(Mp (yU h d hd)).1
  simp[this]
 have b:∀ y∈l.map wd,y.length<=61:=λy c=>by
  obtain⟨d,hd,rfl⟩:=List.mem_map.mp c;exact(Mp (yU h d hd)).2
 have g:=vq (sep := " ") 61 b (by rw[List.length_map,show(" " : Str).length=1 from rfl]; omega);have f:=zV (l.map wd);have e:=uR _ b;rw[List.length_map] at f e;have hz:sizeLine=16777216:=rfl;have j:("\n" : Str).length=1:=rfl;have a:pQ (ln (l.map wd)) "\n" = .ok (ln (l.map wd)++("\n" : Str)):=by unfold pQ; rw[if_pos (by omega)]
 unfold lG JJ;simp only[Ck,bZ,aY,aC,kC,Res.bind];rw[i];simp only[g];have a:pQ (Txt.join " " (l.map wd)) "\n" = _:=a;rw[a];rfl
theorem Ia{k:Str}{a b:Int}(c:k.length<=61)(e:fk a)(d:fk b):(lG [.str k,.int a,.int b]).res= .ok (ln [k,aq a,aq b]++("\n" : Str)):=
 p7 _ ⟨.inr ⟨_,rfl,c⟩,.inl ⟨_,rfl,e⟩,.inl ⟨_,rfl,d⟩,trivial⟩ (by simp)
theorem PB{k:Str}{a b v:Int}(d:k.length<=61)(f:fk a)(e:fk b)(c:fk v):(lG [.str k,.int a,.int b,.int v]).res= .ok (ln [k,aq a,aq b,aq v]++("\n" : Str)):=
 p7 _ ⟨.inr ⟨_,rfl,d⟩,.inl ⟨_,rfl,f⟩,.inl ⟨_,rfl,e⟩,.inl ⟨_,rfl,c⟩,trivial⟩ (by simp)
theorem TH{k:Str}{a:Int}(b:k.length<=61)(c:fk a):(lG [.str k,.int a]).res= .ok (ln [k,aq a]++("\n" : Str)):=
 p7 _ ⟨.inr ⟨_,rfl,b⟩,.inl ⟨_,rfl,c⟩,trivial⟩ (by simp)
theorem AM:∀ {k:List Int},(∀ x∈k,fk x)->De (k.map D.int)
 |[],_=>trivial
 |x::k,h=>⟨.inl ⟨_,rfl,h x VP⟩,AM λy a=>h y (VR _ a)⟩
theorem TK{v:Int}{k:List Int}(a:fk v)(b:∀ x∈k,fk x)(c:k.length<=100):(lG ([.str "wish",.int v]++k.map D.int)).res= .ok (ln ("wish" :: aq v::k.map aq)++("\n" : Str)):=by
 have:=p7 (.str "wish" :: .int v::k.map D.int) ⟨.inr ⟨_,rfl,by decide⟩,.inl ⟨_,rfl,a⟩,AM b⟩ (by simp; omega)
 rw[VQ,VQ,Wk] at this;exact this
theorem oR{X:Type}{d:Int×Int->Res X}(f:Int×Int->X):∀ {l:P1},(∀ p∈l,d p= .ok (f p))->kZ d (l.map pr)= .ok (l.map f)
 |[],_=>rfl
 | (a,b)::l,h=>by
   show(d (a,b)).calm.bind _=_;rw[h (a,b) VP];simp only[Res.calm,Res.bind];rw[oR f λp hp=>h p (VR _ hp)];rfl
theorem N8{p q:Int×Int}(h:pr p=pr q):p=q:=by
 unfold pr at h;injection h with b a
 injection a with a _
 exact Prod.ext b a
theorem He{l:P1}(h:l.Nodup):(l.map pr).Nodup:=Yo _ (λa b c e=>c (N8 e)) h
theorem qz{sz:Int}{l:P1}{P:Int->Int->Bool}(b:l.Nodup)(c:l.length<64)(a:∀ p,p∈l↔p∈pl sz P):fM (l.map λp=>[p.1,p.2])= .ok ((pl sz P).map pr):=by
 unfold fM
 rw[on ⟨λk d z=>by
  obtain⟨p,_,rfl⟩:=List.mem_map.mp d
  exact(nomatch z),by rw[VN]; exact c⟩]
 rw[show l.map (λp=>[p.1,p.2])=l.map pr from rfl,AU (He b) (qK sz P) λx=>by
  rw[List.mem_map,List.mem_map];constructor
  ·rintro⟨p,h,e⟩; exact⟨p,(a p).mp h,e⟩
  ·rintro⟨p,h,e⟩; exact⟨p,(a p).mpr h,e⟩]
def fL(Y:DI Int)(k:List Int):Str:=match k with | [a,b]=>ln (fR Y (a,b))++("\n" : Str)|_ => ""
section
variable{g:GΩ}{sz:Int}{U:P1}{Y X:DI Int}{V:P1}
theorem DH(D:Dr sz U Y X V):fM (Y.map (·.1))= .ok (ks Y):=by
 unfold fM
 rw[on ⟨λk c z=>by
  obtain⟨p,hp,rfl⟩:=List.mem_map.mp c;obtain⟨a,b,e,_⟩:=D.ok.Y.2.2 p hp;rw[e] at z
  exact(nomatch z),by rw[VN]; exact D.fl⟩]
theorem DJ(D:Dr sz U Y X V):fM (X.map (·.1))= .ok (ks X):=by
 unfold fM
 rw[on ⟨λk a z=>by
  obtain⟨p,hp,rfl⟩:=List.mem_map.mp a
  have:=(D.ok.X.2.2 p hp).two
  rw[z] at this
  simp at this,by rw[VN]; exact D.dl⟩]
theorem Fk(D:Dr sz U Y X V):(Kv U Y X V).res= .ok (((pl sz (pW U)).map λp=>ln (wR p)++("\n" : Str))++((pl sz (pF Y)).map λp=>ln (fR Y p)++("\n" : Str))++((pl sz (pS V)).map λp=>ln (sR p)++("\n" : Str))++((ks X).map λk=>ln (dR X k)++("\n" : Str))):=by
 have t:=D.ok.size;have J:=nZ t.2 (pW U);have l2:=nZ t.2 (pF Y);have I:=nZ t.2 (pS V);have l4:=kN D.ok.X.2.1;have l5:=D.dl;have H:=kN D.ok.Y.2.1;have l7:=D.fl
 -- U
 have ew:mF (aZ fM (aZ AH (pC (·.vxq)))) (cq lG (lZ (bx (aZ iw (kC ("way" : Str))) (bx (aZ eU (pC λp=>p.1)) (bx (aZ eU (pC λp=>p.2)) (fj:_->Res (List Mi.D))))))) (⟨U,Y,X,V,none,none⟩:S_x9)= .ok ((pl sz (pW U)).map λp=>ln (wR p)++("\n" : Str)):=by
  have:=qz (sz:=sz) (P:=pW U) D.ok.U.nd D.wl (mJ D)
  unfold mF;simp only[aZ,pC,AH,Res.bind,this,List.length_map];rw[if_pos (by unfold ak; omega)];refine oR _ λp hp=>?_;obtain⟨B,A,_⟩:=h9.mp hp
  have:=Ia (k := "way") (by decide) (aN B (by omega)) (aN A (by omega))
  simp[iw,eU,this,ak];rfl
 have e1:vV ⟨U,Y,X,V,none,none⟩= .nx ⟨U,Y,X,V,some ((pl sz (pW U)).map λp=>ln (wR p)++("\n" : Str)),none⟩:=by
  simp only[vV,bJ,aY];rw[ew];rfl
 have R:((pl sz (pW U)).map λp=>ln (wR p)++("\n" : Str)).length<=3600:=by rw[VN]; exact J
 generalize ((pl sz (pW U)).map λp=>ln (wR p)++("\n" : Str))=d at *
 -- lω
 obtain⟨s2,e2,e,rfl⟩:=cF (u:=λa s=>{s with vlq:=some a}) (c:=jk) (λp (s:S_x9)=>∃ C,s=⟨U,Y,X,V,some (d++(p.filter (nz Y)).map (fL Y)),C⟩)
  (ks Y) ⟨U,Y,X,V,some d,none⟩ ⟨none,by simp⟩ (by
    rintro p k r s G ⟨C,rfl⟩;have o:k∈ks Y:=by rw[G]; simp
    obtain⟨v,f,n⟩:=gF D.ok.Y.2.1 ((i0 D.ok.Y.2.1 k).mp o);obtain⟨a,b,y,Z,W,T,S⟩:=D.ok.Y.2.2 _ n;have y:k=[a,b]:=y;subst y;have hp:p.length<=64:=by rw[G,VT] at H; omega
    have M:=Wo (nz Y) p;by_cases z:v=0
    · refine⟨⟨U,Y,X,V,some (d++(p.filter (nz Y)).map (fL Y)),some [a,b]⟩,.inl ?_,some [a,b],?_⟩
      ·simp[jk,f,z]
      · have:nz Y [a,b]=false:=We λw=>w (by rw[f]; exact z)
        rw[XF,WG,this];simp
    · refine⟨⟨U,Y,X,V,some (d++(p.filter (nz Y)).map (fL Y)++[fL Y [a,b]]),some [a,b]⟩,.inl ?_,some [a,b],?_⟩
      · have F:=PB (k := "like") (a:=a) (b:=b) (v:=v) (by decide) (aN ⟨Z,W⟩ (by omega)) (aN ⟨T,S⟩ (by omega)) (D.fn _ n);have ef:fL Y [a,b]=ln ["like",aq a,aq b,aq v]++("\n" : Str):=by show ln (fR Y (a,b))++_=_; unfold fR; simp only[f,Option.getD_some]
        rw[<-ef] at F;generalize (p.filter (nz Y))=q at M;simp only[jk,gv,aY,aC,pC,vC,kC,Res.bind,Ce,f,i3];rw[decide_eq_false z];have ea:mG (d++q.map (fL Y)) (fL Y [a,b])=some ((),d++q.map (fL Y)++[fL Y [a,b]]):=k9 (by rw[List.length_append,List.length_map]; unfold ak; omega);simp[lP,QP,QO,iw,eU,f,F,ak,-List.append_assoc,ea]
      · have:nz Y [a,b]=true:=Wm (by rw[f]; exact z)
        rw[XF,WG,this]
        simp)
 have j:qk ⟨U,Y,X,V,some d,none⟩=ij (λa s=>{s with vlq:=some a}) jk (ks Y) ⟨U,Y,X,V,some d,none⟩:=by
  unfold qk ci;simp only[aZ,pC,lM,Res.bind,DH D]
 rw[e2,oB D,Wk] at j;have i:qk ⟨U,Y,X,V,some d,none⟩= .nx ⟨U,Y,X,V,some (d++(pl sz (pF Y)).map λp=>ln (fR Y p)++("\n" : Str)),e⟩:=j;have Q:(d++(pl sz (pF Y)).map λp=>ln (fR Y p)++("\n" : Str)).length<=7200:=by rw[VT,VN]; omega
 generalize (d++(pl sz (pF Y)).map λp=>ln (fR Y p)++("\n" : Str))=L2 at *
 -- h
 have ey:mF (aZ fM (aZ AH (pC (·.vuq)))) (cq lG (lZ (bx (aZ iw (kC ("shun" : Str))) (bx (aZ eU (pC λp=>p.1)) (bx (aZ eU (pC λp=>p.2)) (fj:_->Res (List Mi.D))))))) (⟨U,Y,X,V,some L2,e⟩:S_x9)= .ok ((pl sz (pS V)).map λp=>ln (sR p)++("\n" : Str)):=by
  have:=qz (sz:=sz) (P:=pS V) D.ok.V.2.1 D.sl (qB D)
  unfold mF;simp only[aZ,pC,AH,Res.bind,this,List.length_map];rw[if_pos (by unfold ak; omega)];refine oR _ λp hp=>?_;obtain⟨B,A,_⟩:=h9.mp hp
  have:=Ia (k := "shun") (by decide) (aN B (by omega)) (aN A (by omega))
  simp[iw,eU,this,ak];rfl
 have O:((pl sz (pS V)).map λp=>ln (sR p)++("\n" : Str)).length<=3600:=by rw[VN]; exact I
 generalize ((pl sz (pS V)).map λp=>ln (sR p)++("\n" : Str))=g at *
 have e3:vU ⟨U,Y,X,V,some L2,e⟩= .nx ⟨U,Y,X,V,some (L2++g),e⟩:=by
  simp only[vU,bJ,aY]
  rw[show aC jV (vC (·.viq)) _ (⟨U,Y,X,V,some L2,e⟩:S_x9)=jV L2 g from by
   simp only[aC,vC,Res.bind]
   rw[ey],s9 (by unfold ak; omega)]
  rfl
 -- m
 have ed:cp (aZ fM (aZ lM (pC (·.v5q)))) (λ_=> .ok true) (cq lG (aC jV (lZ (bx (aZ iw (kC ("wish" : Str))) (bx (aZ eU (aC Ce (pC λp=>p.2.v5q) (pC λp=>p.1))) (fj:_->Res (List Mi.D))))) (aZ (Df Mi.D.int) (aZ E1 (pC λp=>p.1))))) (⟨U,Y,X,V,some (L2++g),e⟩:S_x9)= .ok ((ks X).map λk=>ln (dR X k)++("\n" : Str)):=by
  refine fG (l:=ks X) _ (by simp only[aZ,pC,lM,Res.bind,DJ D]) (by unfold ak; omega) λk o=>?_;have E:=ll D o;have L:=E.len;obtain⟨v,f,n⟩:=gF D.ok.X.2.1 ((i0 D.ok.X.2.1 k).mp o)
  have:=TK (v:=v) (k:=k) (D.dn _ n) (λx K=>aN (E.all x K) (by omega)) (by omega)
  have N:jV ([.str "wish",.int v]:List Mi.D) (k.map Mi.D.int)= .ok ([.str "wish",.int v]++k.map Mi.D.int):=s9 (by rw[List.length_map]; simp only[List.length_cons,List.length_nil]; unfold ak; omega);have hd:dR X k=("wish" : Str)::aq v::k.map aq:=by unfold dR; rw[f]; rfl
  rw[hd];simp only[cq,aC,lZ,bx,aZ,kC,fj,pC,E1,iw,eU,Df,Res.bind,Ce,f];rw[if_pos (by simp only[List.length_cons,List.length_nil]; unfold ak; omega)];simp only[Res.bind,N,this]
 have e4:vT ⟨U,Y,X,V,some (L2++g),e⟩= .rt (L2++g++(ks X).map λk=>ln (dR X k)++("\n" : Str)) ⟨U,Y,X,V,some (L2++g),e⟩:=by
  simp only[vT,bZ,aY]
  rw[show aC jV (vC (·.viq)) _ (⟨U,Y,X,V,some (L2++g),e⟩:S_x9)=jV (L2++g) ((ks X).map λk=>ln (dR X k)++("\n" : Str)) from by
   simp only[aC,vC,Res.bind]
   rw[ed],s9 (by rw[List.length_append,List.length_map]; unfold ak; omega)]
  rfl
 unfold Kv JI;simp only[aA,e1,i,e3,e4];rfl
end
theorem qi{Z W X O:Type}{u:W->Z->Z}{c:Z->FlC Z X}(f:O->W)(R:List O->Z->Prop)(l:List O)(s:Z)(h:R [] s)(st:∀ p a r s,l=p++a::r->R p s->∃ b,c (u (f a) s)= .nx b/\R (p++[a]) b):∃ b,R l b/\∀ m,ij u c (l.map f++m) s=ij u c m b:=by
 have d:∀ (r p:List O) (s:Z),l=p++r->R p s->∃ b,R l b/\∀ m,ij u c (r.map f++m) s=ij u c m b:=by
  intro r
  induction r with
  |nil=>intro p s e h; exact⟨s,by rw[e,Wp]; exact h,λm=>rfl⟩
  |cons a r i=>
    intro p s e h;obtain⟨g,q,k⟩:=st p a r s e h;obtain⟨s2,j,n⟩:=i (p++[a]) g (by rw[e]; simp) k;refine⟨s2,j,λm=>?_⟩;rw[VQ,XX];show(match c (u (f a) s) with | .nx b=>ij u c (r.map f++m) b | .ct b=>ij u c (r.map f++m) b | .bk b=> .nx b | o=>o)=_;rw[q];exact n m
 exact d l [] s rfl h
theorem B9{c:Nat}(a:c≠32):∀ ws:List Str,(∀ w∈ws,c∉cl w)->c∉cl (ln ws)
 |[],_=>by show c∉cl (Builtin.Str.glued " " []); rw[Wx]; exact λh=>nomatch h
 |[x],h=>by rw[sY]; exact h x VP
 | x::y::r,h=>by
   rw[ip];intro z;rcases List.mem_append.mp z with z|z
   ·exact h x VP z
   · rcases List.mem_cons.mp z with z|z
     ·exact a z
     ·exact B9 a (y::r) (λw b=>h w (VR _ b)) z
section
variable{g:GΩ}{sz:Int}{U:P1}{Y X:DI Int}{V:P1}
theorem H9:vj sz U Y X V≠[]:=by rw[oj]; simp
theorem KP(D:Dr sz U Y X V):(Dj (Dt sz U Y X V)).res= .ok (fJ sz U Y X V):=by
 have o:=qd D;have hz:sizeLine=16777216:=rfl;have i:Dt sz U Y X V=Txt.join "\n" (vj sz U Y X V)++("\n" : Str):=zW _ H9
 have n:(Txt.join "\n" (vj sz U Y X V)).length<=5000000:=by
  have h:=xA "\n" (vj sz U Y X V);have q:=uR _ (oh D);rw[show("\n" : Str).length=1 from rfl] at h;omega
 have e:Txt.split (Txt.join "\n" (vj sz U Y X V)) "\n" = vj sz U Y X V:=lS (c:=10) H9 λx d=>by
  obtain⟨r,a,rfl⟩:=List.mem_map.mp d;exact B9 (by omega) r λw b=>((mO D r a).2.2 w b).1
 rw[i];generalize Txt.join "\n" (vj sz U Y X V)=J at *
 have m:sw ⟨J++("\n" : Str)⟩= .nx ⟨J++("\n" : Str)⟩:=by
  simp[sw,P6,Ek]
 have k:cp (aC lT (aC vK (pC (·.vwq)) (aZ Hi (kC (1:Int)))) (kC ("\n" : Str))) (λ_=> .ok true) (aC lT (pC λp=>p.1) (kC (" " : Str))) (⟨J++("\n" : Str)⟩:S_bl9)= .ok ((vj sz U Y X V).map λx=>Txt.split x " "):=by
  refine fG (l:=vj sz U Y X V) _ ?_ (by unfold ak; omega) λx d=>?_
  ·simp only[aC,pC,aZ,kC,Hi,Res.bind,vK];rw[Je,on (by omega)];simp only[Res.bind,lT];rw[e,on ⟨rfl,by omega,by omega⟩]
  ·obtain⟨r,a,rfl⟩:=List.mem_map.mp d;have hp:=mO D r a;have f:=tZ hp;have es:Txt.split (ln r) " " = r:=lS (c:=32) hp.1 λw b=>(hp.2.2 w b).2.1;simp only[aC,pC,kC,Res.bind,lT];rw[es,on ⟨rfl,by omega,by have:=hp.2.1; omega⟩]
 have j:(vj sz U Y X V).map (λx=>Txt.split x " ")=fJ sz U Y X V:=by
  unfold vj;rw[List.map_map];refine(List.map_congr_left (g:=id) λr a=>?_).trans (List.map_id _);exact lS (c:=32) (mO D r a).1 λw b=>((mO D r a).2.2 w b).2.1
 unfold Dj Al;simp only[aA,m];simp only[yh,bZ,aY];rw[k,j];rfl
end
section
variable{g:GΩ}{sz:Int}{U:P1}{Y X:DI Int}{V:P1}
theorem KU{ws:List Int}(h:∀ n∈ws,fk n)(d:ws.length<=1000){k:Str}{b:Option Str}:cp (aC rN (pC (·.vzq)) (kC (1:Int))) (λ_=> .ok true) (cq nJ (pC λp=>p.1)) (⟨g,k::ws.map aq,b,none⟩:S_bo9)= .ok ws:=by
 have:=fG (Z:=S_bo9) (src:=aC rN (pC (·.vzq)) (kC (1:Int))) (te:=cq nJ (pC λp=>p.1)) (s:=⟨g,k::ws.map aq,b,none⟩) (l:=ws.map aq) (λx=>match (nJ x).res with | .ok n=>n|_=>0) (by simp) (by rw[List.length_map]; unfold ak; omega) (λx c=>by
  obtain⟨n,a,rfl⟩:=List.mem_map.mp c
  simp[nP (h n a)])
 rw[this,Wk];refine congrArg Res.ok ((W1 (g:=id) λn a=>?_).trans (List.map_id _));show(match (nJ (aq n)).res with | .ok n=>n|_=>0)=n;rw[nP (h n a)]
theorem jt{ws:List Int}(h:∀ n∈ws,fk n)(a:ws.length<=1000)(k:Str):nI g (k::ws.map aq)=cC (some ()) (jn ⟨g,k::ws.map aq,some k,some ws⟩):=by
 have c:sg ⟨g,k::ws.map aq,none,none⟩= .nx ⟨g,k::ws.map aq,some k,none⟩:=by
  have:kj (k::ws.map aq) 0=some k:=by rw[k8 _ (by omega)]; rfl
  simp[sg,this]
 have b:sf ⟨g,k::ws.map aq,some k,none⟩= .nx ⟨g,k::ws.map aq,some k,some ws⟩:=by
  simp only[sf,bJ,aY];rw[KU h a];rfl
 unfold nI Ai;simp only[aA,c,b]
theorem Sy{a b:Int}(e:0<=a/\a<g.hω)(d:0<=b/\b<g.hω)(f:g.hω<=60):∀ n∈[a,b],fk n:=λn c=>by
 simp only[W3,Xx,Zf] at c;rcases c with rfl|rfl
 ·exact aN e (by omega)
 ·exact aN d (by omega)
theorem PQ:(("like" : Str) ≠ "way" /\ ("shun" : Str) ≠ "way" /\ ("shun" : Str) ≠ "like" /\ ("wish" : Str) ≠ "way" /\ ("wish" : Str) ≠ "like" /\ ("wish" : Str) ≠ "shun"):=by decide
theorem E9{a b:Int}(j:g.hω<=60)(h:0<=a/\a<g.hω)(f:0<=b/\b<g.hω)(c:a≠b)(i:g.U.get [a,b]=none)(k:g.U.length+1<ak):∃ d,nI g (wR (a,b))= .ok () d/\d.vcq={g with U:=(g.U.put [a,b] true).put [b,a] true}:=by
 have e:=jt (g:=g) (ws:=[a,b]) (Sy h f j) (by simp) "way";have sp:=y8 g a b h f c i k;exact⟨_,e.trans (by simp[jn,nr,QP,QO,sp]; rfl),rfl⟩
theorem Dy{a b:Int}(i:g.hω<=60)(h:0<=a/\a<g.hω)(f:0<=b/\b<g.hω)(c:a≠b)(j:g.sω.length<ak):∃ d,nI g (sR (a,b))= .ok () d/\d.vcq={g with sω:=g.sω.put [a,b] true}:=by
 have e:=jt (g:=g) (ws:=[a,b]) (Sy h f i) (by simp) "shun";have sp:=uT g a b h f c j;exact⟨_,e.trans (by simp[jn,gL,fW,ge,PQ,QP,QO,sp]; rfl),rfl⟩
theorem Dz{a b v:Int}(l:g.hω<=60)(h:0<=a/\a<g.hω)(f:0<=b/\b<g.hω)(i:fk v)(j:g.lω.length<ak):∃ c,nI g ["like",aq a,aq b,aq v]= .ok () c/\c.vcq={g with lω:=g.lω.put [a,b] v}:=by
 have e:=jt (g:=g) (ws:=[a,b,v]) (λn d=>by
  simp only[W3,Xx,Zf] at d;rcases d with rfl|rfl|rfl
  ·exact aN h (by omega)
  ·exact aN f (by omega)
  ·exact i) (by simp) "like"
 have sp:=uU g a b v h f j;have k:kj [a,b,v] 2=some v:=by rw[k8 _ (by omega)]; rfl
 exact⟨_,e.trans (by simp[jn,gL,jm,PQ,QP,QO,k,sp]; rfl),rfl⟩
theorem Dx{k:List Int}{v:Int}(j:g.hω<=60)(a:RoadOk g.hω k)(d:fk v)(h:g.wω.length<ak):∃ c,nI g ("wish" :: aq v::k.map aq)= .ok () c/\c.vcq={g with wω:=g.wω.put k v}:=by
 have f:=a.len
 have e:=jt (g:=g) (ws:=v::k) (λn b=>by
  rcases List.mem_cons.mp b with rfl|b
  ·exact d
  ·exact aN (a.all n b) (by omega)) (by rw[VU]; omega) "wish"
 have sp:=uS g k v a (by omega) h;have i:kj (v::k) 0=some v:=by rw[k8 _ (by omega)]; rfl
 have h0:(0:Int)<(k.length:Int)+1:=by omega
 exact⟨_,e.trans (by simp[jn,gL,fW,gf,eT,PQ,i,sp,h0]; rfl),rfl⟩
end
section
variable{g:GΩ}{sz:Int}{U:P1}{Y X:DI Int}{V:P1}
theorem y9(b:1<=sz/\sz<=60):(Ml (hR sz)).res= .ok ⟨sz,[],[],[],[]⟩:=by
 have e:=nP (n:=sz) (aN (sz:=sz+1) (by omega) (by omega));have c:mk_Guild sz= .ok ⟨sz,[],[],[],[]⟩:=by unfold mk_Guild; rw[if_pos b]
 have a:hR sz=[("houses" : Str),aq sz]:=rfl;have f:kj [("houses" : Str),aq sz] 0=some "houses" := QP _ _ _;have d:kj [("houses" : Str),aq sz] 1=some (aq sz):=QO _ _ _;unfold Ml JO;rw[a];simp[CC,CB,f,d,e,c]
theorem lq{t:Str}{b:Option (List (List Str))}{g':GΩ}{r:List Str}{x:Option Int}(h:∃ a,nI g r= .ok () a/\a.vcq=g'):cV ⟨t,b,some g,some r,x⟩= .nx ⟨t,b,some g',some r,x⟩:=by
 obtain⟨a,d,c⟩:=h;simp[cV,d,c]
theorem Nq(D:Dr sz U Y X V):∃ g,(Dl (Dt sz U Y X V)).res= .ok g/\GI g sz U Y X V/\VJ g:=by
 have R:=D.ok.size;have er:=KP D;generalize Dt sz U Y X V=t at er;have q1:=nZ R.2 (pW U);have q2:=nZ R.2 (pF Y);have q3:=nZ R.2 (pS V);have q4:=kN D.ok.X.2.1;have q5:=D.dl
 -- U
 obtain⟨s1,⟨g1,w1,rfl,f1,l1,n1,N,y1,len1⟩,e1⟩:=qi (u:=λa (s:S_bj9)=>{s with vzq:=some a}) (c:=cV) wR (λp (s:S_bj9)=>∃ g w,s=⟨t,some (fJ sz U Y X V),some g,w,none⟩/\Wf sz g/\g.lω=[]/\g.sω=[]/\g.wω=[]/\(∀ x y,(g.U.get [x,y]).isSome=true↔(x,y)∈p\/(y,x)∈p)/\g.U.length<=2*p.length)
  (pl sz (pW U)) ⟨t,some (fJ sz U Y X V),some ⟨sz,[],[],[],[]⟩,none,none⟩ ⟨_,none,rfl,Wf.new,rfl,rfl,rfl,λx y=>by simp[lz],by simp⟩ (by
    rintro p ⟨a,b⟩ r s d ⟨g,w,rfl,f,hl,hn,hd,n,e⟩;have l:=f.count;have o:(a,b)∈pl sz (pW U):=by rw[d]; simp
    obtain⟨i,h,m⟩:=h9.mp o;have m:=Wy m;have M:=wX sz (pW U);rw[d] at M;have nd1:=List.nodup_append.mp M;have hp1:(a,b)∉p:=λz=>nd1.2.2 _ z _ VP rfl
    have hp2:(b,a)∉p:=λz=>by
     have:(b,a)∈pl sz (pW U):=by rw[d]; exact V9 _ z
     have:=Wy (h9.mp this).2.2
     simp only at m this;omega
    have E:p.length<=3600:=by rw[d,VT] at q1; omega
    simp only at i h m
    have gn:g.U.get [a,b]=none:=by
     cases q:g.U.get [a,b] with
     |none=>rfl
     |some v=>
       rcases(n a b).mp (by rw[q]; rfl) with z|z
       ·exact absurd z hp1
       ·exact absurd z hp2
    refine⟨_,lq (E9 (by omega) (by rw[l]; exact i) (by rw[l]; exact h) (by omega) gn (by unfold ak; omega)),{g with U:=(g.U.put [a,b] true).put [b,a] true},some (wR (a,b)),rfl,f.lay i h,hl,hn,hd,λx y=>qI (n x y),?_⟩;show((g.U.put [a,b] true).put [b,a] true).length<=_
    have:=cy (F:=g.U.put [a,b] true) (k:=[b,a]) (v:=true)
    have:=cy (F:=g.U) (k:=[a,b]) (v:=true)
    rw[VT]; simp; omega)
 -- lω
 obtain⟨s2,⟨g2,w2,rfl,f2,v2,n2,d2,y2,k2,len2⟩,e2⟩:=qi (u:=λa (s:S_bj9)=>{s with vzq:=some a}) (c:=cV) (fR Y) (λp (s:S_bj9)=>∃ g w,s=⟨t,some (fJ sz U Y X V),some g,w,none⟩/\Wf sz g/\g.U.length<=30000/\g.sω=[]/\g.wω=[]/\(∀ x y,(g.U.get [x,y]).isSome=true↔(x,y)∈pl sz (pW U)\/(y,x)∈pl sz (pW U))/\(∀ k,(g.lω.get k).getD 0=if k∈p.map pr then (Y.get k).getD 0 else 0)/\g.lω.length<=p.length)
  (pl sz (pF Y)) ⟨t,some (fJ sz U Y X V),some g1,w1,none⟩ ⟨g1,w1,rfl,f1,by omega,n1,N,y1,λk=>by rw[l1]; simp[lz],by rw[l1]; simp⟩ (by
    rintro p ⟨a,b⟩ r s d ⟨g,w,rfl,f,L,hn,hd,n,O,e⟩;have l:=f.count;have o:(a,b)∈pl sz (pF Y):=by rw[d]; simp
    obtain⟨i,h,m⟩:=h9.mp o;have E:p.length<=3600:=by rw[d,VT] at q2; omega
    simp only at i h;refine⟨_,lq (Dz (v:=(Y.get [a,b]).getD 0) (by omega) (by rw[l]; exact i) (by rw[l]; exact h) (rH D _) (by unfold ak; omega)),{g with lω:=g.lω.put [a,b] ((Y.get [a,b]).getD 0)},some (fR Y (a,b)),rfl,f.like _ i h,L,hn,hd,n,λk=>?_,?_⟩
    · show((g.lω.put [a,b] ((Y.get [a,b]).getD 0)).get k).getD 0=_;rw[gI,show(p++[(a,b)]).map pr=p.map pr++[[a,b]] from by simp[pr]];by_cases z:k=[a,b]
      ·subst z; rw[on rfl,on (VV _ (List.mem_singleton.mpr rfl))]; rfl
      · rw[VM z,O k];by_cases A:k∈p.map pr
        ·rw[on A,on (V9 _ A)]
        · rw[VM A,VM (λH=>by
           rcases List.mem_append.mp H with H|H
           ·exact A H
           ·exact z (List.mem_singleton.mp H))]
    · show(g.lω.put [a,b] _).length<=_
      rw[VT]; exact V4 cy (by simp; omega))
 -- I S
 obtain⟨s3,⟨g3,w3,rfl,f3,v3,d3,y3,k3,K,sh3,Z⟩,e3⟩:=qi (u:=λa (s:S_bj9)=>{s with vzq:=some a}) (c:=cV) sR (λp (s:S_bj9)=>∃ g w,s=⟨t,some (fJ sz U Y X V),some g,w,none⟩/\Wf sz g/\g.U.length<=30000/\g.wω=[]/\(∀ x y,(g.U.get [x,y]).isSome=true↔(x,y)∈pl sz (pW U)\/(y,x)∈pl sz (pW U))/\(∀ k,(g.lω.get k).getD 0=if k∈(pl sz (pF Y)).map pr then (Y.get k).getD 0 else 0)/\g.lω.length<=30000/\(∀ x y,(g.sω.get [x,y]).isSome=true↔(x,y)∈p)/\g.sω.length<=p.length)
  (pl sz (pS V)) ⟨t,some (fJ sz U Y X V),some g2,w2,none⟩ ⟨g2,w2,rfl,f2,v2,d2,y2,k2,by omega,λx y=>by rw[n2]; simp[lz],by rw[n2]; simp⟩ (by
    rintro p ⟨a,b⟩ r s d ⟨g,w,rfl,f,L,hd,n,O,G,C,e⟩;have l:=f.count;have o:(a,b)∈pl sz (pS V):=by rw[d]; simp
    obtain⟨i,h,m⟩:=h9.mp o;have m:=of_decide_eq_true m;have ho:=D.ok.V.2.2 _ m;unfold uL at ho;have E:p.length<=3600:=by rw[d,List.length_append] at q3; omega
    simp only at i h ho;refine⟨_,lq (Dy (by omega) (by rw[l]; exact i) (by rw[l]; exact h) ho.2.2.2.2 (by unfold ak; omega)),{g with sω:=g.sω.put [a,b] true},some (sR (a,b)),rfl,f.shun i h,L,hd,n,O,G,λx y=>mP (C x y),?_⟩;show(g.sω.put [a,b] true).length<=_
    rw[VT]; exact V4 cy (by simp; omega))
 -- Q
 obtain⟨s4,⟨g4,w4,rfl,f4,v4,y4,k4,J,sh4,B,T,W⟩,e4⟩:=qi (u:=λa (s:S_bj9)=>{s with vzq:=some a}) (c:=cV) (dR X) (λp (s:S_bj9)=>∃ g w,s=⟨t,some (fJ sz U Y X V),some g,w,none⟩/\Wf sz g/\g.U.length<=30000/\(∀ x y,(g.U.get [x,y]).isSome=true↔(x,y)∈pl sz (pW U)\/(y,x)∈pl sz (pW U))/\(∀ k,(g.lω.get k).getD 0=if k∈(pl sz (pF Y)).map pr then (Y.get k).getD 0 else 0)/\g.lω.length<=30000/\(∀ x y,(g.sω.get [x,y]).isSome=true↔(x,y)∈pl sz (pS V))/\g.sω.length<=30000/\(∀ k,g.wω.get k=if k∈p then X.get k else none)/\g.wω.length<=p.length)
  (ks X) ⟨t,some (fJ sz U Y X V),some g3,w3,none⟩ ⟨g3,w3,rfl,f3,v3,y3,k3,K,sh3,by omega,λk=>by rw[d3]; simp[lz],by rw[d3]; simp⟩ (by
    rintro p k r s d ⟨g,w,rfl,f,L,n,O,G,C,hsl,hw,e⟩;have l:=f.count;have o:k∈ks X:=by rw[d]; simp
    have hr:=ll D o;obtain⟨v,ev,hmm⟩:=gF D.ok.X.2.1 ((i0 D.ok.X.2.1 k).mp o);have E:p.length<=64:=by rw[d,VT] at q4; omega
    refine⟨_,lq (Dx (k:=k) (v:=(X.get k).getD 0) (by omega) (by rw[l]; exact hr) (rR D k) (by unfold ak; omega)),{g with wω:=g.wω.put k ((X.get k).getD 0)},some (dR X k),rfl,f.wish _ hr,L,n,O,G,C,hsl,λj=>?_,?_⟩
    ·exact rF hw (by rw[ev]; rfl) j
    · show(g.wω.put k _).length<=_
      rw[VT]; exact V4 cy (by simp; omega))
 have P:ij (λa (s:S_bj9)=>{s with vzq:=some a}) cV ((fJ sz U Y X V).drop 1) ⟨t,some (fJ sz U Y X V),some ⟨sz,[],[],[],[]⟩,none,none⟩= .nx ⟨t,some (fJ sz U Y X V),some g4,w4,none⟩:=by
  have e0:(fJ sz U Y X V).drop 1=(pl sz (pW U)).map wR++((pl sz (pF Y)).map (fR Y)++((pl sz (pS V)).map sR++((ks X).map (dR X)++[]))):=by
   unfold fJ; simp
  rw[e0,e1,e2,e3,e4];rfl
 have a0:kj (fJ sz U Y X V) 0=some (hR sz):=by rw[k8 _ (by omega)]; unfold fJ; simp
 have c1:sx ⟨t,none,none,none,none⟩= .nx ⟨t,some (fJ sz U Y X V),none,none,none⟩:=by simp[sx,er]
 have c2:mh ⟨t,some (fJ sz U Y X V),none,none,none⟩= .nx ⟨t,some (fJ sz U Y X V),some ⟨sz,[],[],[],[]⟩,none,none⟩:=by simp[mh,a0,y9 R]
 have c3:mf ⟨t,some (fJ sz U Y X V),some ⟨sz,[],[],[],[]⟩,none,none⟩= .nx ⟨t,some (fJ sz U Y X V),some g4,w4,none⟩:=by
  rw[<-P];unfold mf ci;simp only[aC,vC,kC,Res.bind,rN];rw[if_pos (by omega)];rfl
 refine⟨g4,?_,⟨f4,λx y=>?_,λk=>?_,λk=>?_,λx y=>?_⟩,v4,J,by omega,B⟩
 ·unfold Dl An yj;simp only[aA,c1,c2,c3];rfl
 ·rw[y4,<-mJ D,<-mJ D]
 · rw[k4];by_cases z:k∈(pl sz (pF Y)).map pr
   ·rw[on z]
   · rw[VM z];cases q:Y.get k with
     |none=>rfl
     |some v=>
       rw[<-oB D] at z;by_cases A:v=0
       ·rw[A]; rfl
       ·refine absurd (List.mem_filter.mpr ⟨(i0 D.ok.Y.2.1 k).mpr ((qe D.ok.Y.2.1 k).mpr (by rw[q]; rfl)),Wm ?_⟩) z;rw[q]; exact A
 · rw[T];by_cases z:k∈ks X
   ·rw[on z]
   ·rw[VM z,kP λw=>z ((i0 D.ok.X.2.1 k).mpr w)]
 ·rw[sh4,<-qB D]
end
theorem qx(x:Int):(uM x).res= .ok true:=by
 unfold uM At yo;simp
theorem AS(o:Option (List Int)):(uN o o).res= .ok true:=by
 cases o with
 |none=>
   unfold uN wt sL nw;simp
 |some f=>
   obtain⟨b,e,x,rfl⟩:=kQ (u:=λa s=>{s with vdq:=some a}) (c:=my) (λs:S_bb9=>∃ x,s=⟨some f,some f,x⟩) f ⟨some f,some f,none⟩ ⟨none,rfl⟩ (by
    rintro o s d ⟨x,rfl⟩
    exact⟨_,.inl (by simp[my,qx]; rfl),_,rfl⟩)
   unfold uN wt sL yB yA yz;simp[e]
theorem Gm{W:Type}[DecidableEq W]:∀ {xs:List W} {x:W},x∈xs->xs.Nodup->∃ ys,zn xs x=some ((),ys)/\ys.Nodup/\ys.length<=xs.length/\∀ y,y∈ys↔y∈xs/\y≠x
 |[],x,h,_=>(nomatch h)
 | z::xs,x,h,nd=>by
   have a:=List.nodup_cons.mp nd;by_cases e:z=x
   · subst e;refine⟨xs,by unfold zn; simp[List.findIdx?_cons],a.2,by simp,λy=>?_⟩;constructor
     ·exact λc=>⟨VR _ c,λw=>a.1 (w▸c)⟩
     · rintro⟨c,l⟩;rcases List.mem_cons.mp c with w|w
       ·exact absurd w l
       ·exact w
   · have k:x∈xs:=by
      rcases List.mem_cons.mp h with w|w
      ·exact absurd w.symm e
      ·exact w
     obtain⟨ys,g,o,n,f⟩:=Gm k a.2;unfold zn at g;obtain⟨j,m,b⟩:=Option.map_eq_some_iff.mp g;have b:xs.eraseIdx j=ys:=by injection b
     refine⟨z::ys,?_,List.nodup_cons.mpr ⟨λw=>a.1 ((f z).mp w).1,o⟩,by simpa using n,λy=>?_⟩
     ·unfold zn;rw[List.findIdx?_cons,decide_eq_false e,m];simp[b]
     · rw[W3,W3,f];constructor
       · rintro(w|⟨i,d⟩)
         ·exact⟨.inl w,by rw[w]; exact e⟩
         ·exact⟨.inr i,d⟩
       · rintro⟨w|w,d⟩
         ·exact .inl w
         ·exact .inr ⟨w,d⟩
section
variable{g:GΩ}{sz:Int}{U:P1}{Y X:DI Int}{V:P1}
theorem yV(W:WaysOk sz U)(a b:Int):((a,b)∈U\/(b,a)∈U)↔(min a b,max a b)∈U:=by
 constructor
 · rintro(h|h)
   · have:=W.all _ h
     simp only at this;rw[show min a b=a from by omega,show max a b=b from by omega]; exact h
   · have:=W.all _ h
     simp only at this;rw[show min a b=b from by omega,show max a b=a from by omega]; exact h
 · intro h;by_cases q:a<=b
   ·rw[show min a b=a from by omega,show max a b=b from by omega] at h; exact .inl h
   ·rw[show min a b=b from by omega,show max a b=a from by omega] at h; exact .inr h
theorem KF(G:GI g sz U Y X V)(W:WaysOk sz U)(a:Int):cD sz g.U a=qq U sz a:=by
 unfold cD qq;congr 1;funext b;rw[Bool.eq_iff_iff,decide_eq_true_iff,G.way,yV W]
theorem wH(G:GI g sz U Y X V)(D:Dr sz U Y X V):(yS g sz U Y X V).res= .ok true:=by
 have hs:=D.ok.size;have f:=G.wf.count;have C:=tV G D;have w:=kN D.ok.X.2.1;have E:fq 0 sz= .ok (bg 0 sz):=dQ (by omega) (by omega) (by omega) (by omega)
 have c1:sV ⟨g,sz,U,Y,X,V,none,none,none,none,none⟩= .nx ⟨g,sz,U,Y,X,V,none,none,none,none,none⟩:=by
  simp[sV,lj,f,C,w]
 obtain⟨s2,A,d,e,rfl⟩:=kQ (u:=λ(a:List Int×Int) s=>{s with vpq:=some a.1,vnq:=some a.2}) (c:=mE) (λs:S_ba9=>∃ r k,s=⟨g,sz,U,Y,X,V,r,k,none,none,none⟩) ((ks X).map λk=>(k,(X.get k).getD 0)) ⟨g,sz,U,Y,X,V,none,none,none,none,none⟩ ⟨none,none,rfl⟩ (by
  rintro⟨k,v⟩ s i ⟨r,k0,rfl⟩;obtain⟨k',L,m⟩:=List.mem_map.mp i;injection m with W A
  subst W A;obtain⟨v,q,_⟩:=gF D.ok.X.2.1 ((i0 D.ok.X.2.1 k').mp L)
  exact⟨_,.inl (by simp[mE,q,qx]; rfl),_,_,rfl⟩)
 have c2:sT ⟨g,sz,U,Y,X,V,none,none,none,none,none⟩= .nx ⟨g,sz,U,Y,X,V,d,e,none,none,none⟩:=by
  rw[<-A];unfold sT ci;simp only[cq,pC,Res.bind,C]
 obtain⟨s3,T,o,n,rfl⟩:=kQ (u:=λa s=>{s with v0q:=some a}) (c:=sZ) (λs:S_ba9=>∃ a b,s=⟨g,sz,U,Y,X,V,d,e,a,b,none⟩) (bg 0 sz) ⟨g,sz,U,Y,X,V,d,e,none,none,none⟩ ⟨none,none,rfl⟩ (by
  rintro a s i ⟨a0,h,rfl⟩;have y:=d6.mp i;have F:=lI g a (by rw[f]; exact y) (by omega);rw[f,KF G D.ok.U] at F;have S:=KM U sz a (by omega) (by omega);have B:=qy g a (by rw[f]; exact y) (by omega);rw[f,oY G] at B
  have es:cp (aZ (fq 0) (pC (·.vvq))) (aC (LQ false) (kz (vC λp=>p.2.v0q) (pC λp=>p.1)) (pC λp=>p.2.vuq)) (pC λp=>p.1) (⟨g,sz,U,Y,X,V,d,e,some a,h,none⟩:S_ba9)= .ok ((bg 0 sz).filter (pS V a)):=by
   rw[jQ (l:=bg 0 sz) (pS V a) (λx=>x) (by simp[E]) (by rw[bH]; unfold ak; omega) (λb _=>by simp) (λb _ _=>by simp)];simp
  have N:mD ⟨g,sz,U,Y,X,V,d,e,some a,h,none⟩= .nx ⟨g,sz,U,Y,X,V,d,e,some a,h,none⟩:=by
   simp[mD,F,S,AS]
  have d2:mC ⟨g,sz,U,Y,X,V,d,e,some a,h,none⟩= .nx ⟨g,sz,U,Y,X,V,d,e,some a,h,none⟩:=by
   simp only[mC,gv,aY,aZ,dM,pC,vC,Res.bind,B,tY];rw[es];simp[AS]
  have z1:0<=(a+1)%sz:=Wb _ (by omega);have z2:(a+1)%sz<sz:=V5 _ (by omega);have I:0<sz:=by omega
  obtain⟨J,z,H,rfl⟩:=kQ (u:=λa s=>{s with v2q:=some a}) (c:=jP) (λs:S_ba9=>∃ b,s=⟨g,sz,U,Y,X,V,d,e,some a,b,none⟩) [0,a,(a+1)%sz,sz-1] ⟨g,sz,U,Y,X,V,d,e,some a,h,none⟩ ⟨h,rfl⟩ (by
   rintro b s i ⟨h,rfl⟩
   have M:0<=b/\b<sz:=by
    simp only[W3,Xx,Zf] at i;omega
   have j:=nQ g a b (by rw[f]; exact y) (by rw[f]; exact M);rw[G.lik] at j
   exact⟨_,.inl (by simp[jP,j]; rfl),_,rfl⟩)
  have Z:mB ⟨g,sz,U,Y,X,V,d,e,some a,h,none⟩= .nx ⟨g,sz,U,Y,X,V,d,e,some a,H,none⟩:=by
   rw[<-z];simp[mB,I,ak]
  exact⟨_,.inl (by simp only[sZ,aA,N,d2,Z]),some a,H,rfl⟩)
 have c3:sQ ⟨g,sz,U,Y,X,V,d,e,none,none,none⟩= .nx ⟨g,sz,U,Y,X,V,d,e,o,n,none⟩:=by
  rw[<-T];unfold sQ ci;simp only[aZ,pC,Res.bind,E]
 obtain⟨J,z,K,rfl⟩:=kQ (u:=λa s=>{s with vlq:=some a}) (c:=mz) (λs:S_ba9=>∃ p,s=⟨g,sz,U,Y,X,V,d,e,o,n,p⟩) (Y.map (·.1)) ⟨g,sz,U,Y,X,V,d,e,o,n,none⟩ ⟨none,rfl⟩ (by
  rintro k s i ⟨p0,rfl⟩;obtain⟨v,q,t⟩:=gF D.ok.Y.2.1 i;obtain⟨a,b,m,R,Q,P,O⟩:=D.ok.Y.2.2 _ t;have m:k=[a,b]:=m;subst m;have j:=nQ g a b (by rw[f]; exact⟨R,Q⟩) (by rw[f]; exact⟨P,O⟩);rw[G.lik,q] at j
  exact⟨_,.inl (by simp[mz,QP,QO,j,q,qx]; rfl),_,rfl⟩)
 have c4:sN ⟨g,sz,U,Y,X,V,d,e,o,n,none⟩= .nx ⟨g,sz,U,Y,X,V,d,e,o,n,K⟩:=by
  rw[<-z];unfold sN ci;simp only[aZ,pC,lM,Res.bind]
 unfold yS Aw;simp only[aA,c1,c2,c3,c4];rfl
theorem Np(D:Dr sz U Y X V)(s:S_bg9)(l:s.vvq=sz)(j:s.vxq=U)(i:s.vaq=Y)(h:s.v5q=X)(g:s.vuq=V):aC mZ (kC ("" : Str)) (aC jV (lZ (bx (cq lG (lZ (bx (aZ iw (kC ("houses" : Str))) (bx (aZ eU (pC (·.vvq))) (fj:_->Res (List Mi.D)))))) (fj:_->Res (List Str)))) (Lc Kv (pC (·.vxq)) (pC (·.vaq)) (pC (·.v5q)) (pC (·.vuq)))) s= .ok (Dt sz U Y X V):=by
 have o:=D.ok.size;have m:=Fk D;have n:=TH (k := "houses") (a:=sz) (by decide) (aN (sz:=sz+1) (by omega) (by omega));have q:=qd D;have d:=E6 D
 have e:(vj sz U Y X V).map (λx=>x++("\n" : Str))=[ln (hR sz)++("\n" : Str)]++(((pl sz (pW U)).map λp=>ln (wR p)++("\n" : Str))++((pl sz (pF Y)).map λp=>ln (fR Y p)++("\n" : Str))++((pl sz (pS V)).map λp=>ln (sR p)++("\n" : Str))++((ks X).map λk=>ln (dR X k)++("\n" : Str))):=by
  rw[oj];simp only[Wq,Wk,VQ,Wv,WH];rfl
 have b:[ln (hR sz)++("\n" : Str)].length+(((pl sz (pW U)).map λp=>ln (wR p)++("\n" : Str))++((pl sz (pF Y)).map λp=>ln (fR Y p)++("\n" : Str))++((pl sz (pS V)).map λp=>ln (sR p)++("\n" : Str))++((ks X).map λk=>ln (dR X k)++("\n" : Str))).length<=ak:=by
  rw[<-List.length_append,<-e,List.length_map]; unfold ak; omega
 rw[e] at d;subst l j i h g;simp only[aC,lZ,bx,aZ,kC,fj,pC,cq,Lc,iw,eU,Res.bind];rw[if_pos (by simp only[List.length_cons,List.length_nil]; unfold ak; omega)];simp only[Res.bind,n];rw[if_pos (by simp only[List.length_cons,List.length_nil]; unfold ak; omega)];simp only[Res.bind,m];have f:=s9 b;have c:jV [ln (hR s.vvq)++("\n" : Str)] _=_:=f;show(jV [ln (hR s.vvq)++("\n" : Str)] _).bind _=_;rw[c];exact d
theorem qw(G:GI g sz U Y X V)(D:Dr sz U Y X V):(yQ g sz U Y X V).res= .ok true:=by
 obtain⟨j,e,a,_⟩:=Nq D;have f:=Fo G D;have d:=Fo a D;have c:=wH a D;have b:=wH G D;have i:sG ⟨g,sz,U,Y,X,V,none,none,none⟩= .nx ⟨g,sz,U,Y,X,V,some (Dt sz U Y X V),none,none⟩:=by simp[sG,f]
 have h:sF ⟨g,sz,U,Y,X,V,some (Dt sz U Y X V),none,none⟩= .nx ⟨g,sz,U,Y,X,V,some (Dt sz U Y X V),some (Dt sz U Y X V),none⟩:=by
  simp only[sF,bJ,aY];rw[Np D _ rfl rfl rfl rfl rfl];rfl
 generalize Dt sz U Y X V=t at *;unfold yQ Ar;simp only[aA,i,h];simp[yn,ym,yl,yk,e,d,c,b]
end
section
variable{g:GΩ}{sz:Int}{U:P1}{Y X:DI Int}{V:P1}
theorem lr{F:DI Int}{k:List Int}{v:Int}(h:∀ p∈F,fk p.2)(a:fk v):∀ p∈F.put k v,fk p.2:=by
 intro p hp;unfold DI.put at hp;split at hp
 · obtain⟨q,b,rfl⟩:=List.mem_map.mp hp;split
   ·exact a
   ·exact h q b
 · rcases List.mem_append.mp hp with z|z
   ·exact h p z
   ·rw[List.mem_singleton.mp z]; exact a
theorem lx{v:Int}(h:v.natAbs<=1000):fk v:=WA h (by decide)
structure Lt (U:P1) (Y X:DI Int) (V:P1):Prop where
 w:U.length<62
 f:Y.length<62
 d:X.length<62
 s:V.length<62
theorem KN(G:GI g sz U Y X V)(D:Dr sz U Y X V)(F:VJ g)(L:Lt U Y X V)(c:Int):∃ n:S_z9,Ku g U Y X V c= .ok () n/\GI n.vcq sz n.vxq n.vaq n.v5q n.vuq/\Dr sz n.vxq n.vaq n.v5q n.vuq:=by
 obtain⟨hs1,hs2⟩:=D.ok.size;have J:=G.wf.count;obtain⟨F1,F2,F3,F4⟩:=F;have lw:=L.w;have lf:=L.f;have ld:=L.d;have ls:=L.s;have hz:0<sz:=by omega
 obtain⟨m,T,S⟩:∃ m,(if sz-1>1 then sz-1 else 1)=m/\0<m:=⟨_,rfl,by split<;>omega⟩;obtain⟨a,ea,B,A⟩:∃ a,c / 4%sz=a/\0<=a/\a<sz:=⟨_,rfl,Wb _ (by omega),V5 _ hz⟩;obtain⟨b,eb,u,t⟩:∃ b,(a+1+c / 7%m)%sz=b/\0<=b/\b<sz:=⟨_,rfl,Wb _ (by omega),V5 _ hz⟩;have c1:vN ⟨g,U,Y,X,V,c,none,none,none⟩= .nx ⟨g,U,Y,X,V,c,some sz,none,none⟩:=by simp[vN,lj,J]
 have c2:vM ⟨g,U,Y,X,V,c,some sz,none,none⟩= .nx ⟨g,U,Y,X,V,c,some sz,some a,none⟩:=by simp[vM,hz,ea]
 have c3:vL ⟨g,U,Y,X,V,c,some sz,some a,none⟩= .nx ⟨g,U,Y,X,V,c,some sz,some a,some b⟩:=by
  simp only[vL,bJ,aY,aC,vC,pC,kC,Res.bind,tI,lR,iA,iP,c9,T];rw[on ⟨by omega,by omega⟩];simp only[Res.bind];rw[on S];simp only[Res.bind];rw[on hz,eb];rfl
 have c0:Ku g U Y X V c=cC (some ()) (eZ ⟨g,U,Y,X,V,c,some sz,some a,some b⟩):=by
  unfold Ku JG;simp only[aA,c1,c2,c3]
 rw[c0];have M:0<=a/\a<g.hω:=by rw[J]; exact⟨B,A⟩
 have K:0<=b/\b<g.hω:=by rw[J]; exact⟨u,t⟩
 by_cases I:c%4=0
 · have sp:=uU g a b 5 M K (by unfold ak; omega);have H:Y.length<ak:=by unfold ak; omega
   refine⟨_,by simp[eZ,pD,pA,I,sp,H]; rfl,⟨G.wf.like 5 ⟨B,A⟩ ⟨u,t⟩,G.way,λk=>?_,G.wsh,G.shn⟩,⟨⟨D.ok.size,D.ok.U,⟨?_,h8 D.ok.Y.2.1,ft D.ok.Y.2.2 ⟨a,b,rfl,B,A,u,t⟩⟩,D.ok.X,D.ok.V⟩,D.wl,?_,D.dl,D.sl,lr D.fn (lx (v:=5) (by decide)),D.dn⟩⟩
   · show((g.lω.put [a,b] 5).get k).getD 0=((Y.put [a,b] 5).get k).getD 0;rw[gI,gI];by_cases z:k=[a,b]
     ·rw[on z,on z]
     ·rw[VM z,VM z]; exact G.lik k
   ·exact V4 cy (by omega)
   ·exact WA cy (by omega)
 · by_cases e:a=b
   · have:eZ ⟨g,U,Y,X,V,c,some sz,some a,some b⟩= .nx ⟨g,U,Y,X,V,c,some sz,some a,some b⟩:=by
      subst e;by_cases o:c%4=1
      ·simp[eZ,cU,cu,bR,bM,o]
      · by_cases C:c%4=2
        ·simp[eZ,cU,cu,bR,bM,C]
        ·simp[eZ,cU,cu,bR,bM,I,o,C]
     rw[this];exact⟨_,rfl,G,D⟩
   · by_cases o:c%4=1
     · have sp:=uT g a b M K e (by unfold ak; omega);by_cases j:(a,b)∈V
       · refine⟨_,by simp[eZ,cU,gq,gp,o,e,sp,j]; rfl,⟨G.wf.shun ⟨B,A⟩ ⟨u,t⟩,G.way,G.lik,G.wsh,λx y=>?_⟩,D⟩;show((g.sω.put [a,b] true).get [x,y]).isSome=true↔_;rw[mP (G.shn x y),XD,Xj];constructor
         · rintro(z|z)
           ·exact z
           ·rw[z]; exact j
         ·exact .inl
       · have r:=k9 (l:=V) (x:=(a,b)) (by unfold ak; omega);refine⟨_,by simp[eZ,cU,gq,gp,gw,o,e,sp,j,r]; rfl,⟨G.wf.shun ⟨B,A⟩ ⟨u,t⟩,G.way,G.lik,G.wsh,λx y=>mP (G.shn x y)⟩,⟨⟨D.ok.size,D.ok.U,D.ok.Y,D.ok.X,⟨?_,jz D.ok.V.2.1 j,λp hp=>?_⟩⟩,D.wl,D.fl,D.dl,?_,D.fn,D.dn⟩⟩
         ·show(V++[(a,b)]).length<=100;rw[VT]; simp; omega
         · rcases List.mem_append.mp hp with z|z
           ·exact D.ok.V.2.2 p z
           ·rw[List.mem_singleton.mp z]; exact⟨B,A,u,t,e⟩
         ·show(V++[(a,b)]).length<64;rw[VT]; simp; omega
     · by_cases C:c%4=2
       · obtain⟨x,ex,x1,x2⟩:∃ x,(if b>a then b else a)=x/\1<=x/\x<sz:=⟨_,rfl,by split<;>omega,by split<;>omega⟩
         have R:RoadOk sz [x,0]:=⟨by simp,rfl,by simp; omega,λy hy=>by
          simp only[W3,Xx,Zf] at hy
          omega⟩
         have sp:=uS g [x,0] 7 (by rw[J]; exact R) (by omega) (by unfold ak; omega);have H:X.length<ak:=by unfold ak; omega
         have W:(if a<b then b else a)=x:=ex;refine⟨_,by simp[eZ,cU,cu,gy,gx,C,e,W,sp,H,ak]<;>(try unfold ak at H; simp[H])<;>rfl,⟨G.wf.wish 7 R,G.way,G.lik,λk=>?_,G.shn⟩,⟨⟨D.ok.size,D.ok.U,D.ok.Y,⟨?_,h8 D.ok.X.2.1,ft D.ok.X.2.2 R⟩,D.ok.V⟩,D.wl,D.fl,?_,D.sl,D.fn,lr D.dn (lx (v:=7) (by decide))⟩⟩
         · show(g.wω.put [x,0] 7).get k=(X.put [x,0] 7).get k;rw[gI,gI];by_cases z:k=[x,0]
           ·rw[on z,on z]
           ·rw[VM z,VM z]; exact G.wsh k
         ·exact V4 cy (by omega)
         ·exact WA cy (by omega)
       · have e1:(if b<a then b else a)=min a b:=by rw[Int.min_def]; split<;>split<;>omega
         have e2:(if a<b then b else a)=max a b:=by rw[Int.max_def]; split<;>split<;>omega
         have Q:=G.way a b;have E:=G.way b a;rw[yV D.ok.U] at Q;rw[or_comm,yV D.ok.U] at E;have lt:min a b<max a b:=by omega
         by_cases j:(min a b,max a b)∈U
         · have sp:=KY g a b M K e (Q.mpr j) (E.mpr j);obtain⟨ys,r1,r2,Z,O⟩:=Gm j D.ok.U.nd;refine⟨_,by simp[eZ,cU,cu,bR,fi,fh,I,o,C,e,e1,e2,j,sp,r1]; rfl,⟨G.wf.lift a b,λx y=>?_,G.lik,G.wsh,G.shn⟩,⟨⟨D.ok.size,⟨r2,λp hp=>D.ok.U.all p ((O p).mp hp).1,V4 Z D.ok.U.len⟩,D.ok.Y,D.ok.X,D.ok.V⟩,WA Z D.wl,D.fl,D.dl,D.sl,D.fn,D.dn⟩⟩;show(((g.U.del [a,b]).del [b,a]).get [x,y]).isSome=true↔(x,y)∈ys\/(y,x)∈ys;rw[vv,vv,O,O];have P:=G.way x y;by_cases i:[x,y]=[b,a]
           · rw[on i]; injection i with i h; injection h with h; subst i h
             constructor
             ·intro z; exact nomatch z
             · rintro(⟨i,h⟩|⟨i,h⟩)
               ·have:=D.ok.U.all _ i; simp only at this; exact absurd (by rw[show min y x=x from by omega,show max y x=y from by omega]) h
               ·have:=D.ok.U.all _ i; simp only at this; exact absurd (by rw[show min y x=y from by omega,show max y x=x from by omega]) h
           · rw[VM i];by_cases h:[x,y]=[a,b]
             · rw[on h]; injection h with h N; injection N with N; subst h N
               constructor
               ·intro z; exact nomatch z
               · rintro(⟨i,h⟩|⟨i,h⟩)
                 ·have:=D.ok.U.all _ i; simp only at this; exact absurd (by rw[show min x y=x from by omega,show max x y=y from by omega]) h
                 ·have:=D.ok.U.all _ i; simp only at this; exact absurd (by rw[show min x y=y from by omega,show max x y=x from by omega]) h
             · rw[VM h,P];have n1:¬ (x=a/\y=b):=λz=>h (by rw[z.1,z.2]);have n2:¬ (x=b/\y=a):=λz=>i (by rw[z.1,z.2]);constructor
               · rintro(z|z)
                 ·exact .inl ⟨z,λw=>by injection w with w1 w2; omega⟩
                 ·exact .inr ⟨z,λw=>by injection w with w1 w2; omega⟩
               · rintro(⟨z,_⟩|⟨z,_⟩)
                 ·exact .inl z
                 ·exact .inr z
         · have gn:g.U.get [a,b]=none:=by
            cases q:g.U.get [a,b] with
            |none=>rfl
            |some v=>exact absurd (Q.mp (by rw[q]; rfl)) j
           have sp:=y8 g a b M K e gn (by unfold ak; omega);have r:=k9 (l:=U) (x:=(min a b,max a b)) (by unfold ak; omega);refine⟨_,by simp[eZ,cU,cu,bR,bM,dX,dW,I,o,C,e,e1,e2,j,sp,r]; rfl,⟨G.wf.lay ⟨B,A⟩ ⟨u,t⟩,λx y=>?_,G.lik,G.wsh,G.shn⟩,⟨⟨D.ok.size,⟨jz D.ok.U.nd j,λp hp=>?_,?_⟩,D.ok.Y,D.ok.X,D.ok.V⟩,?_,D.fl,D.dl,D.sl,D.fn,D.dn⟩⟩
           · show(((g.U.put [a,b] true).put [b,a] true).get [x,y]).isSome=true↔(x,y)∈U++[(min a b,max a b)]\/(y,x)∈U++[(min a b,max a b)];rw[qI (G.way x y)];simp only[XD,Xj,Prod.mk.injEq];constructor
             · rintro((z|z) | (z|z))
               ·exact .inl (.inl z)
               · by_cases w:a<=b
                 ·exact .inl (.inr ⟨by omega,by omega⟩)
                 ·exact .inr (.inr ⟨by omega,by omega⟩)
               ·exact .inr (.inl z)
               · by_cases w:a<=b
                 ·exact .inr (.inr ⟨by omega,by omega⟩)
                 ·exact .inl (.inr ⟨by omega,by omega⟩)
             · rintro((z|z) | (z|z))
               ·exact .inl (.inl z)
               · by_cases w:a<=b
                 ·exact .inl (.inr ⟨by omega,by omega⟩)
                 ·exact .inr (.inr ⟨by omega,by omega⟩)
               ·exact .inr (.inl z)
               · by_cases w:a<=b
                 ·exact .inr (.inr ⟨by omega,by omega⟩)
                 ·exact .inl (.inr ⟨by omega,by omega⟩)
           · rcases List.mem_append.mp hp with z|z
             ·exact D.ok.U.all p z
             ·rw[List.mem_singleton.mp z]; exact⟨by show 0<=min a b; omega,lt,by show max a b<sz; omega⟩
           ·show(U++[(min a b,max a b)]).length<=10000;rw[VT]; simp; omega
           ·show(U++[(min a b,max a b)]).length<64;rw[VT]; simp; omega
end
theorem Fm(c sz:Int)(d:0<sz):∃ F:DI Int,(Mj c sz).res= .ok F/\F.length<=5/\DI.nd F/\(∀ p∈F,iy sz p.1)/\∀ p∈F,fk p.2:=by
 have n:0<=c%5/\c%5<5:=⟨Wb _ (by omega),V5 _ (by omega)⟩
 obtain⟨m,e,b,k,F,rfl,j,f,hF,g⟩:=cF (u:=λa s=>{s with vfq:=some a}) (c:=wn) (λp (s:S_t9)=>∃ b k F,s=⟨b,sz,some F,k⟩/\F.length<=p.length/\DI.nd F/\(∀ p∈F,iy sz p.1)/\∀ p∈F,fk p.2)
  (bg 0 (c%5)) ⟨c,sz,some [],none⟩ ⟨c,none,[],rfl,by simp,by simp[DI.nd],λ_ h=>(nomatch h),λ_ h=>(nomatch h)⟩ (by
    rintro p a r s l ⟨b,k,F,rfl,j,f,hF,g⟩
    have hp:p.length<5:=by
     have:=bH 0 (c%5)
     rw[l,VT,VU] at this;omega
    have hz:F.length<ak:=by unfold ak; omega
    have i:fk ((b*48271+11)%2147483647 / 49%7-3):=by
     have q:0<=(b*48271+11)%2147483647 / 49%7:=Wb _ (by omega);have o:(b*48271+11)%2147483647 / 49%7<7:=V5 _ (by omega);exact lx (by omega)
    refine⟨_,.inl ?_,(b*48271+11)%2147483647,some a,F.put [(b*48271+11)%2147483647%sz,(b*48271+11)%2147483647 / 7%sz] ((b*48271+11)%2147483647 / 49%7-3),rfl,?_,h8 f,ft hF ⟨_,_,rfl,Wb _ (by omega),V5 _ d,Wb _ (by omega),V5 _ d⟩,lr g i⟩
    ·simp[wn,uA,uz,d,hz]
    ·rw[VT]; exact V4 cy (by simp; omega))
 refine⟨F,?_,?_,f,hF,g⟩
 ·unfold Mj JL Cv Cu Ct;simp[dQ (lo:=0) (hi:=c%5) (by omega) (by omega) (by omega) (by omega),e]
 ·have:=bH 0 (c%5); omega
theorem Fn(c sz:Int)(v:1<=sz)(t:sz<=1000):∃ F:DI Int,(Kx c sz).res= .ok F/\F.length<=4/\DI.nd F/\(∀ p∈F,RoadOk sz p.1)/\∀ p∈F,fk p.2:=by
 by_cases l:sz<2
 ·refine⟨[],?_,by simp,by simp[DI.nd],λ_ h=>(nomatch h),λ_ h=>(nomatch h)⟩;simp[Kx,Dc,vZ,vY,pG,l]
 · have B:0<=c%4/\c%4<4:=⟨Wb _ (by omega),V5 _ (by omega)⟩
   obtain⟨y,e,f,k,F,r,rfl,o,i,hF,j⟩:=cF (u:=λa s=>{s with vfq:=some a}) (c:=wo) (λp (s:S_s9)=>∃ f k F r,s=⟨f,sz,some F,k,r⟩/\F.length<=p.length/\DI.nd F/\(∀ p∈F,RoadOk sz p.1)/\∀ p∈F,fk p.2)
    (bg 0 (c%4)) ⟨c,sz,some [],none,none⟩ ⟨c,none,[],none,rfl,by simp,by simp[DI.nd],λ_ h=>(nomatch h),λ_ h=>(nomatch h)⟩ (by
      rintro p a r s q ⟨f,k,F,rd,rfl,o,i,hF,j⟩
      have hp:p.length<4:=by
       have:=bH 0 (c%4)
       rw[q,VT,VU] at this;omega
      have hz:F.length<ak:=by unfold ak; omega
      have g:1<sz:=by omega
      generalize x:(f*48271+17)%2147483647=b;have A:0<=b%(sz-1):=Wb _ (by omega);have z:b%(sz-1)<sz-1:=V5 _ (by omega)
      have m:fk (b / 5%9-4):=by
       have v:0<=b / 5%9:=Wb _ (by omega);have C:b / 5%9<9:=V5 _ (by omega);exact lx (by omega)
      obtain⟨d,w,n,_,_⟩:=KQ (b / 9) (1+b%(sz-1)) sz (by omega) (by omega) t;refine⟨_,.inl ?_,b,some a,F.put d (b / 5%9-4),some d,rfl,?_,h8 i,ft hF n,lr j m⟩
      ·simp[wo,uD,uC,uB,x,hz,g,w]
      ·rw[VT]; exact V4 cy (by simp; omega))
   refine⟨F,?_,?_,i,hF,j⟩
   ·unfold Kx Dc;simp[vZ,vY,Cy,Cw,l,dQ (lo:=0) (hi:=c%4) (by omega) (by omega) (by omega) (by omega),e]
   ·have:=bH 0 (c%4); omega
theorem E2{sz:Int}{W:P1}(h:WaysOk sz W)(f:sz<=7):W.length<=49:=by
 have nd:(W.map λp=>p.1*7+p.2).Nodup:=by
  have:=List.Pairwise.and_mem.mp h.nd
  refine Yo _ (λa b c e=>?_) this;have i:=h.all a c.1;have g:=h.all b c.2.1;exact c.2.2 (Prod.ext (by omega) (by omega))
 have:=o7 49 _ nd λx d=>by
  obtain⟨p,hp,rfl⟩:=List.mem_map.mp d
  have:=h.all p hp
  omega
 rwa [VN] at this
theorem wI(c:Int):∃ v,(Kw c).res= .ok v/\fk v:=by
 have f:0<=c%(2*10 ^ 60-1):=Wb _ (by decide);have e:c%(2*10 ^ 60-1)<2*10 ^ 60-1:=V5 _ (by decide);refine⟨c%(2*10 ^ 60-1)-10 ^ 60+1,?_,?_⟩
 · have b:GA 10 60= .ok ((10:Int) ^ 60):=by unfold GA; rw[if_pos (by decide)]; rfl
   have d:og 2 ((10:Int) ^ 60)= .ok (2*10 ^ 60):=by unfold og; rw[if_pos (.inl (by decide))]
   have a:c9 c (2*10 ^ 60-1)= .ok (c%(2*10 ^ 60-1)):=by unfold c9; rw[if_pos (by decide)]
   unfold Kw Db;simp only[vX,bZ,aY,aC,pC,kC,Res.bind,b,d,lR,a,iA];rfl
 ·unfold fk;generalize c%(2*10 ^ 60-1)=x at f e;omega
theorem Nh(c:Int):∃ W:P1,W.length<=30/\WaysOk 60 W/\∀ s:S_q9,s.vrq=s.vrq->(kg s.vrq 1).res= .ok c->cp (aZ (fq 0) (kC (30:Int))) (aC IM (aC c9 (aC iA (aC og (pC λp=>p.1) (kC (7:Int))) (dM kg (pC λp=>p.2.vrq) (kC (1:Int)))) (kC (5:Int))) (kC (0:Int))) (kz (pC λp=>p.1) (aC lR (kC (59:Int)) (pC λp=>p.1))) s= .ok W:=by
 have h:(bg 0 30).length=30:=by rw[bH]; rfl
 have i:=Wo (λk=>decide (0<(k*7+c)%5)) (bg 0 30);refine⟨((bg 0 30).filter λk=>decide (0<(k*7+c)%5)).map λk=>(k,59-k),by rw[VN]; omega,⟨?_,λp hp=>?_,by rw[VN]; omega⟩,λs _ j=>?_⟩
 ·exact Yo _ (λa b d e=>d (by injection e)) ((qY 0 30).filter _)
 · obtain⟨k,f,rfl⟩:=List.mem_map.mp hp
   have:=d6.mp (List.mem_filter.mp f).1
   exact⟨this.1,by show k<59-k; omega,by show 59-k<60; omega⟩
 · rw[jQ (l:=bg 0 30) (λk=>decide (0<(k*7+c)%5)) (λk=>(k,59-k)) (by simp[dQ (lo:=0) (hi:=30) (by omega) (by omega) (by omega) (by omega)]) (by rw[h]; decide) (λk f=>by
    have:=d6.mp f
    have g:og k 7= .ok (k*7):=by unfold og; rw[if_pos (.inr (by decide))]
    simp only[aC,pC,kC,dM,Res.bind,g,j,iA,c9,IM]
    rw[on (by decide)]) (λk _ _=>by simp)]
theorem pV{Z X:Type}{a b:Z->FlC Z X}{s c:Z}(h:a s= .nx c):aA a b s=b c:=by unfold aA; rw[h]
theorem Ac(ns:List Int):∃ s,Q9 ns= .ok true s:=by
 have e:∀ k:Int,0<=k->(kg ns k).res= .ok (dO ns k):=λk Z=>KZ ns k Z;obtain⟨first,hf⟩:∃ f,dO ns 0=f:=⟨_,rfl⟩;have e1:wc ⟨ns,none,none,none,none,none,none,none⟩= .nx ⟨ns,some first,none,none,none,none,none,none⟩:=by simp[wc,e 0 (by omega),hf]
 obtain⟨b,m,A,s2⟩:∃ z,1 + first % 7=z/\1<=z/\z<=7:=by
  have h1:0<=first % 7:=Wb _ (by omega)
  have B:first % 7 < 7:=V5 _ (by omega)
  exact⟨_,rfl,by omega,by omega⟩
 have e2:v9 ⟨ns,some first,none,none,none,none,none,none⟩= .nx ⟨ns,some first,some b,none,none,none,none,none⟩:=by simp[v9,m]
 obtain⟨h,P,x⟩:=KH (dO ns 1) b A (by omega);have e3:v8 ⟨ns,some first,some b,none,none,none,none,none⟩= .nx ⟨ns,some first,some b,some h,none,none,none,none⟩:=by simp[v8,e 1 (by omega),P]
 obtain⟨sz,W,e4,l,K,hW,hWl⟩:∃ sz W,qm ⟨ns,some first,some b,some h,none,none,none,none⟩= .nx ⟨ns,some first,some sz,some W,none,none,none,none⟩/\1<=sz/\sz<=60/\WaysOk sz W/\W.length<=49:=by
  by_cases q:first / 7 % 4=1
  · obtain⟨W,h1,B,h3⟩:=Nh (dO ns 1);refine⟨60,W,?_,by omega,by omega,B,by omega⟩;have N:kX ⟨ns,some first,some b,some h,none,none,none,none⟩= .nx ⟨ns,some first,some 60,some h,none,none,none,none⟩:=by simp[kX]
    have I:kW ⟨ns,some first,some 60,some h,none,none,none,none⟩= .nx ⟨ns,some first,some 60,some W,none,none,none,none⟩:=by
     simp only[kW,bJ,aY];rw[h3 ⟨ns,some first,some 60,some h,none,none,none,none⟩ rfl (e 1 (by omega))];rfl
    have dq:(aC (i3 false) (aC c9 (aC iP (vC (·.v9q)) (kC (7:Int))) (kC (4:Int))) (kC (1:Int))) (⟨ns,some first,some b,some h,none,none,none,none⟩:S_q9)= .ok true:=by simp[q]
    simp only[qm,gv,aY];rw[dq];simp only[QN,aA,N,I,on]
  ·refine⟨b,h,?_,A,by omega,x,E2 x s2⟩;simp[qm,q]
 have i:0<sz:=by omega
 obtain⟨F,f1,f2,f3,f4,f5⟩:=Fm (dO ns 2) sz i;have e5:v7 ⟨ns,some first,some sz,some W,none,none,none,none⟩= .nx ⟨ns,some first,some sz,some W,some F,none,none,none⟩:=by simp[v7,e 2 (by omega),f1]
 obtain⟨Q,N,I,H,E,C⟩:=Fn (dO ns 3) sz l (by omega);have e6:v6 ⟨ns,some first,some sz,some W,some F,none,none,none⟩= .nx ⟨ns,some first,some sz,some W,some F,some Q,none,none⟩:=by simp[v6,e 3 (by omega),N]
 obtain⟨Y,O,y2,M,L⟩:=No (dO ns 4) sz l;have e7:v5 ⟨ns,some first,some sz,some W,some F,some Q,none,none⟩= .nx ⟨ns,some first,some sz,some W,some F,some Q,some Y,none⟩:=by simp[v5,e 4 (by omega),O]
 obtain⟨v,S,R⟩:=wI (dO ns 7)
 obtain⟨c,hF',e8,F2,F3,F4,F5⟩:∃ c:DI Int,c=F.put [dO ns 5 % sz,dO ns 6 % sz] v/\v0 ⟨ns,some first,some sz,some W,some F,some Q,some Y,none⟩= .nx ⟨ns,some first,some sz,some W,some c,some Q,some Y,none⟩/\c.length<=6/\DI.nd c/\(∀ p∈c,iy sz p.1)/\∀ p∈c,fk p.2:=by
  have n:F.length<ak:=by unfold ak; omega
  refine⟨_,rfl,?_,V4 cy (by omega),h8 f3,ft f4 ⟨_,_,rfl,Wb _ (by omega),V5 _ i,Wb _ (by omega),V5 _ i⟩,lr f5 R⟩;simp[v0,e 5 (by omega),e 6 (by omega),e 7 (by omega),i,S,n]
 obtain⟨u,U,T⟩:=wI (dO ns 9)
 obtain⟨d,e9,Q2,Q3,Q4,Q5⟩:∃ d:DI Int,ql ⟨ns,some first,some sz,some W,some c,some Q,some Y,none⟩= .nx ⟨ns,some first,some sz,some W,some c,some d,some Y,none⟩/\d.length<=5/\DI.nd d/\(∀ p∈d,RoadOk sz p.1)/\∀ p∈d,fk p.2:=by
  by_cases q:1<sz
  · have n:Q.length<ak:=by unfold ak; omega
    have q1:0<=dO ns 8%(sz-1):=Wb _ (by omega);have q2:dO ns 8%(sz-1)<sz-1:=V5 _ (by omega)
    have X:RoadOk sz [1+dO ns 8%(sz-1),0]:=⟨by simp,rfl,by simp; omega,λy V=>by
     simp only[W3,Xx,Zf] at V
     omega⟩
    refine⟨Q.put [1+dO ns 8%(sz-1),0] u,?_,V4 cy (by omega),h8 H,ft E X,lr C T⟩;simp[ql,pJ,q,e 8 (by omega),e 9 (by omega),U,n]
  ·refine⟨Q,?_,by omega,H,E,C⟩;simp[ql,q]
 have J:DrawOk sz W c d Y:=⟨⟨l,K⟩,hW,⟨by omega,F3,F4⟩,⟨by omega,Q3,Q4⟩,⟨by omega,M,L⟩⟩;have D:Dr sz W c d Y:=⟨J,by omega,by omega,by omega,by omega,F5,Q5⟩;obtain⟨g,g1,j,g3,g4⟩:=DF J;have G:GI g sz W c d Y:=⟨g4,j.way,λk=>by rw[j.lik],j.wsh,j.shn⟩;have w:rX ⟨ns,some first,some sz,some W,some c,some d,some Y,none⟩= .nx ⟨ns,some first,some sz,some W,some c,some d,some Y,some g⟩:=by simp[rX,g1]
 have t:rW ⟨ns,some first,some sz,some W,some c,some d,some Y,some g⟩= .nx ⟨ns,some first,some sz,some W,some c,some d,some Y,some g⟩:=by simp[rW,qw G D]
 obtain⟨a,a1,a2,a3⟩:=KN G D g3 ⟨by omega,by omega,by omega,by omega⟩ (dO ns 10);have r:rV ⟨ns,some first,some sz,some W,some c,some d,some Y,some g⟩= .nx ⟨ns,some first,some sz,some a.vxq,some a.vaq,some a.v5q,some a.vuq,some a.vcq⟩:=by simp[rV,e 10 (by omega),a1]
 have o:rT ⟨ns,some first,some sz,some a.vxq,some a.vaq,some a.v5q,some a.vuq,some a.vcq⟩= .rt true ⟨ns,some first,some sz,some a.vxq,some a.vaq,some a.v5q,some a.vuq,some a.vcq⟩:=by simp[rT,qw a2 a3]
 refine⟨⟨ns,some first,some sz,some a.vxq,some a.vaq,some a.v5q,some a.vuq,some a.vcq⟩,?_⟩;unfold Q9 JN;rw[pV e1,pV e2,pV e3,pV e4,pV e5,pV e6,pV e7,pV e8,pV e9,pV w,pV t,pV r,o];rfl
theorem Iw(ns:List Int)(a:ns.length<=63):∃ M,m_q9 [.scr (ns.map D.int)]= .ok (.bl true) M:=by
 obtain⟨s,e⟩:=Ac ns
 have:=UF ns
 rw[e] at this;exact⟨_,this⟩
end K08
namespace K08
open PySem L2
theorem cY{K:L0}{x q:Str}{st s2:Stmt}{f:Addr}(h:HD.fnO K f q=HD.fnE x q st)(e:st=s2):∃ d,Fun K x q s2 f d:=by
 subst e;have b:=HD.fn_keep h;obtain⟨oc,n,kV,k,pm,an,m,ct,a,l,c⟩:=HD.fn_of h;have j:HD.dA st=nq st:=by cases st<;>rfl
 have i:HD.dB st=dg st:=by cases st<;>rfl
 have g:HD.dS st=am st:=by cases st<;>rfl
 rw[j,i,g] at l;exact⟨_,P0 l c b⟩
def Vn:Tns:=[]
theorem QS{w:World}{K:L0}{h:Heap}{mg:Str->Option Value}{T:Tbs}{n:Addr}(X:K.In h)(G:h.Ns mainGlobals mg)(m:mg "law" = some (.ref n))(TO:TabsOf mg h Vn T)(y:HD.obK U5 U6 Vc Vg Vf Ve U8 K=UU PySem.Challenge.pw_heraldways_k08_a_guild_written):∃ fd:FuncData,(∀ (s:Shared) (v:Value),BindsTo s fd ⟨[v],[]⟩ [("script",v)])/\∀ base:Heap,K.In base->base.Ns mainGlobals mg->(∀ c P,PySem.W.CodeHd h c P->PySem.W.CodeHd base c P)->FnOk PySem.Challenge.rw_heraldways_k08_a_guild_written.prog w K mg base gi 8 n fd ["script"] (Mi.spT K T):=by
 have b:=congrArg (·.1) y;have f:=congrArg (·.2.1) y;have g:=congrArg (·.2.2.1) y;have d:=congrArg (·.2.2.2.1) y;have I:=congrArg (·.2.2.2.2.1) y;have F:=congrArg (·.2.2.2.2.2) y;clear y;have e:=m.symm.trans (V2 X G (HD.nth b 28 rfl rfl));cases e;obtain⟨d_a9,F_a9⟩:=cY (s2:=NX) (HD.nth d 0 rfl rfl) rfl;obtain⟨d_b9,F_b9⟩:=cY (s2:=FK) (HD.nth d 1 rfl rfl) rfl;obtain⟨d_m9,F_m9⟩:=cY (s2:=NI) (HD.nth d 2 rfl rfl) rfl;obtain⟨d_o9,F_o9⟩:=cY (s2:=Fy) (HD.nth d 3 rfl rfl) rfl;obtain⟨d_r9,F_r9⟩:=cY (s2:=NE) (HD.nth d 4 rfl rfl) rfl;obtain⟨d_t9,F_t9⟩:=cY (s2:=NC) (HD.nth d 5 rfl rfl) rfl;obtain⟨d_u9,F_u9⟩:=cY (s2:=NB) (HD.nth d 6 rfl rfl) rfl;obtain⟨d_w9,F_w9⟩:=cY (s2:=K4) (HD.nth d 7 rfl rfl) rfl;obtain⟨d_y9,F_y9⟩:=cY (s2:=Fw) (HD.nth d 8 rfl rfl) rfl;obtain⟨d_bc9,F_bc9⟩:=cY (s2:=FI) (HD.nth d 9 rfl rfl) rfl;obtain⟨d_bd9,F_bd9⟩:=cY (s2:=wP) (HD.nth d 10 rfl rfl) rfl;obtain⟨d_be9,F_be9⟩:=cY (s2:=FH) (HD.nth d 11 rfl rfl) rfl;obtain⟨d_bf9,F_bf9⟩:=cY (s2:=FG) (HD.nth d 12 rfl rfl) rfl;obtain⟨d_bi9,F_bi9⟩:=cY (s2:=A8) (HD.nth d 13 rfl rfl) rfl;obtain⟨d_bk9,F_bk9⟩:=cY (s2:=FC) (HD.nth d 14 rfl rfl) rfl;obtain⟨d_bl9,F_bl9⟩:=cY (s2:=wO) (HD.nth d 15 rfl rfl) rfl;obtain⟨d_h9,F_h9⟩:=cY (s2:=NP) (HD.nth d 16 rfl rfl) rfl;obtain⟨d_s9,F_s9⟩:=cY (s2:=ND) (HD.nth d 17 rfl rfl) rfl;obtain⟨d_x9,F_x9⟩:=cY (s2:=zi) (HD.nth d 18 rfl rfl) rfl;obtain⟨d_bb9,F_bb9⟩:=cY (s2:=FJ) (HD.nth d 19 rfl rfl) rfl;obtain⟨d_bq9,F_bq9⟩:=cY (s2:=A4) (HD.nth d 20 rfl rfl) rfl;obtain⟨d_e9,F_e9⟩:=cY (s2:=NU) (HD.nth d 21 rfl rfl) rfl;obtain⟨d_f9,F_f9⟩:=cY (s2:=NS) (HD.nth d 22 rfl rfl) rfl;obtain⟨d_g9,F_g9⟩:=cY (s2:=NQ) (HD.nth d 23 rfl rfl) rfl;obtain⟨d_i9,F_i9⟩:=cY (s2:=NO) (HD.nth d 24 rfl rfl) rfl;obtain⟨d_j9,F_j9⟩:=cY (s2:=NM) (HD.nth d 25 rfl rfl) rfl;obtain⟨d_l9,F_l9⟩:=cY (s2:=NK) (HD.nth d 26 rfl rfl) rfl;obtain⟨d_p9,F_p9⟩:=cY (s2:=NF) (HD.nth d 27 rfl rfl) rfl;obtain⟨d_c9,F_c9⟩:=cY (s2:=NW) (HD.nth d 28 rfl rfl) rfl;obtain⟨d_d9,F_d9⟩:=cY (s2:=NV) (HD.nth d 29 rfl rfl) rfl;obtain⟨d_k9,F_k9⟩:=cY (s2:=NL) (HD.nth d 30 rfl rfl) rfl;obtain⟨d_n9,F_n9⟩:=cY (s2:=NH) (HD.nth d 31 rfl rfl) rfl;obtain⟨d_ba9,F_ba9⟩:=cY (s2:=A9) (HD.nth d 32 rfl rfl) rfl;obtain⟨d_bh9,F_bh9⟩:=cY (s2:=FE) (HD.nth d 33 rfl rfl) rfl;obtain⟨d_bn9,F_bn9⟩:=cY (s2:=A6) (HD.nth d 34 rfl rfl) rfl;obtain⟨d_bp9,F_bp9⟩:=cY (s2:=A5) (HD.nth d 35 rfl rfl) rfl;obtain⟨d_v9,F_v9⟩:=cY (s2:=NA) (HD.nth d 36 rfl rfl) rfl;obtain⟨d_z9,F_z9⟩:=cY (s2:=Nz) (HD.nth d 37 rfl rfl) rfl;obtain⟨d_bm9,F_bm9⟩:=cY (s2:=A7) (HD.nth d 38 rfl rfl) rfl;obtain⟨d_bo9,F_bo9⟩:=cY (s2:=wN) (HD.nth d 39 rfl rfl) rfl;obtain⟨d_bj9,F_bj9⟩:=cY (s2:=FD) (HD.nth d 40 rfl rfl) rfl;obtain⟨d_bg9,F_bg9⟩:=cY (s2:=FF) (HD.nth d 41 rfl rfl) rfl;obtain⟨d_q9,F_q9⟩:=cY (s2:=Fx) (HD.nth d 42 rfl rfl) rfl;obtain⟨j,l,i,mk_Guild,k⟩:=HD.cls_of (HD.nth g 15 rfl rfl)
 have A:∀ (s:Shared) (v:Value),BindsTo s d_q9 ⟨[v],[]⟩ [("script",v)]:=by
  obtain⟨oc,L,kV,B,pm,an,C,ct,o,rfl,M,z⟩:=F_q9.ex;exact λs v=> .of_eq rfl
 refine⟨d_q9,A,λbase _ _ J=>?_⟩
 have D:Txt K mg ⟨240,115,d_a9,202,d_b9,122,d_m9,190,d_o9,307,d_r9,340,d_t9,383,d_u9,371,d_w9,326,d_y9,354,d_bc9,366,d_bd9,333,d_be9,314,d_bf9,300,d_bi9,101,d_bk9,283,d_bl9,223,d_h9,347,d_s9,376,d_x9,321,d_bb9,271,d_bq9,157,d_e9,164,d_f9,129,d_g9,237,d_i9,230,d_j9,178,d_l9,290,d_p9,143,d_c9,150,d_d9,171,d_k9,185,d_n9,388,d_ba9,261,d_bh9,266,d_bn9,254,d_bp9,361,d_v9,402,d_z9,249,d_bm9,295,d_bo9,278,d_bj9,395,d_bg9,407,d_q9⟩ base:={
  cl_Guild:=⟨j,l,i,HD.nth f 15 rfl rfl⟩
  mgC_Guild:=V2 X G (HD.nth b 0 rfl rfl)
  mk_Guild:=⟨mk_Guild,HD.nth f 0 rfl rfl,HD.nth g 0 rfl rfl,k⟩
  n_house_count:=HD.nth f 16 rfl rfl
  n_ways:=HD.nth f 17 rfl rfl
  n_likings:=HD.nth f 18 rfl rfl
  n_shuns:=HD.nth f 19 rfl rfl
  n_wish_ranks:=HD.nth f 20 rfl rfl
  F_a9:=F_a9
  b_a9:=F_a9.binds λ_ _ _ _ _ _=>L2.iJ λ_ _=>rfl
  F_b9:=F_b9
  b_b9:=F_b9.binds λ_ _ _ _ _ _=>L2.lL λ_ _ _=>rfl
  me_b9:=⟨HD.nth f 1 rfl rfl,HD.nth g 1 rfl rfl,F_b9.kp⟩
  F_m9:=F_m9
  b_m9:=F_m9.binds λ_ _ _ _ _ _=>L2.gu λ_=>rfl
  me_m9:=⟨HD.nth f 2 rfl rfl,HD.nth g 2 rfl rfl,F_m9.kp⟩
  F_o9:=F_o9
  b_o9:=F_o9.binds λ_ _ _ _ _ _=>L2.gu λ_=>rfl
  me_o9:=⟨HD.nth f 3 rfl rfl,HD.nth g 3 rfl rfl,F_o9.kp⟩
  F_r9:=F_r9
  b_r9:=F_r9.binds λ_ _ _ _ _ _=>L2.iJ λ_ _=>rfl
  m_r9:=V2 X G (HD.nth b 1 rfl rfl)
  F_t9:=F_t9
  b_t9:=F_t9.binds λ_ _ _ _ _ _=>L2.iJ λ_ _=>rfl
  m_t9:=V2 X G (HD.nth b 2 rfl rfl)
  F_u9:=F_u9
  b_u9:=F_u9.binds λ_ _ _ _ _ _=>L2.gu λ_=>rfl
  m_u9:=V2 X G (HD.nth b 3 rfl rfl)
  F_w9:=F_w9
  b_w9:=F_w9.binds λ_ _ _ _ _ _=>L2.gu λ_=>rfl
  m_w9:=V2 X G (HD.nth b 4 rfl rfl)
  F_y9:=F_y9
  b_y9:=F_y9.binds λ_ _ _ _ _ _=>L2.lL λ_ _ _=>rfl
  m_y9:=V2 X G (HD.nth b 5 rfl rfl)
  F_bc9:=F_bc9
  b_bc9:=F_bc9.binds λ_ _ _ _ _ _=>L2.iJ λ_ _=>rfl
  m_bc9:=V2 X G (HD.nth b 6 rfl rfl)
  F_bd9:=F_bd9
  b_bd9:=F_bd9.binds λ_ _ _ _ _ _=>L2.lL λ_ _ _=>rfl
  m_bd9:=V2 X G (HD.nth b 7 rfl rfl)
  F_be9:=F_be9
  b_be9:=F_be9.binds λ_ _ _ _ _ _=>L2.iJ λ_ _=>rfl
  m_be9:=V2 X G (HD.nth b 8 rfl rfl)
  F_bf9:=F_bf9
  b_bf9:=F_bf9.binds λ_ _ _ _ _ _=>L2.gu λ_=>rfl
  m_bf9:=V2 X G (HD.nth b 9 rfl rfl)
  F_bi9:=F_bi9
  b_bi9:=F_bi9.binds λ_ _ _ _ _ _=>L2.gu λ_=>rfl
  m_bi9:=V2 X G (HD.nth b 10 rfl rfl)
  F_bk9:=F_bk9
  b_bk9:=F_bk9.binds λ_ _ _ _ _ _=>L2.iJ λ_ _=>rfl
  m_bk9:=V2 X G (HD.nth b 11 rfl rfl)
  F_bl9:=F_bl9
  b_bl9:=F_bl9.binds λ_ _ _ _ _ _=>L2.gu λ_=>rfl
  m_bl9:=V2 X G (HD.nth b 12 rfl rfl)
  F_h9:=F_h9
  b_h9:=F_h9.binds λ_ _ _ _ _ _=>L2.iJ λ_ _=>rfl
  me_h9:=⟨HD.nth f 4 rfl rfl,HD.nth g 4 rfl rfl,F_h9.kp⟩
  F_s9:=F_s9
  b_s9:=F_s9.binds λ_ _ _ _ _ _=>L2.iJ λ_ _=>rfl
  m_s9:=V2 X G (HD.nth b 13 rfl rfl)
  F_x9:=F_x9
  b_x9:=F_x9.binds λ_ _ _ _ _ _=>L2.Ie λ_ _ _ _=>rfl
  m_x9:=V2 X G (HD.nth b 14 rfl rfl)
  F_bb9:=F_bb9
  b_bb9:=F_bb9.binds λ_ _ _ _ _ _=>L2.iJ λ_ _=>rfl
  m_bb9:=V2 X G (HD.nth b 15 rfl rfl)
  F_bq9:=F_bq9
  b_bq9:=F_bq9.binds λ_ _ _ _ _ _=>L2.gu λ_=>rfl
  m_bq9:=V2 X G (HD.nth b 16 rfl rfl)
  F_e9:=F_e9
  b_e9:=F_e9.binds λ_ _ _ _ _ _=>L2.Ie λ_ _ _ _=>rfl
  me_e9:=⟨HD.nth f 5 rfl rfl,HD.nth g 5 rfl rfl,F_e9.kp⟩
  F_f9:=F_f9
  b_f9:=F_f9.binds λ_ _ _ _ _ _=>L2.lL λ_ _ _=>rfl
  me_f9:=⟨HD.nth f 6 rfl rfl,HD.nth g 6 rfl rfl,F_f9.kp⟩
  F_g9:=F_g9
  b_g9:=F_g9.binds λ_ _ _ _ _ _=>L2.iJ λ_ _=>rfl
  me_g9:=⟨HD.nth f 7 rfl rfl,HD.nth g 7 rfl rfl,F_g9.kp⟩
  F_i9:=F_i9
  b_i9:=F_i9.binds λ_ _ _ _ _ _=>L2.iJ λ_ _=>rfl
  me_i9:=⟨HD.nth f 8 rfl rfl,HD.nth g 8 rfl rfl,F_i9.kp⟩
  F_j9:=F_j9
  b_j9:=F_j9.binds λ_ _ _ _ _ _=>L2.lL λ_ _ _=>rfl
  me_j9:=⟨HD.nth f 9 rfl rfl,HD.nth g 9 rfl rfl,F_j9.kp⟩
  F_l9:=F_l9
  b_l9:=F_l9.binds λ_ _ _ _ _ _=>L2.iJ λ_ _=>rfl
  me_l9:=⟨HD.nth f 10 rfl rfl,HD.nth g 10 rfl rfl,F_l9.kp⟩
  F_p9:=F_p9
  b_p9:=F_p9.binds λ_ _ _ _ _ _=>L2.gu λ_=>rfl
  m_p9:=V2 X G (HD.nth b 17 rfl rfl)
  F_c9:=F_c9
  b_c9:=F_c9.binds λ_ _ _ _ _ _=>L2.lL λ_ _ _=>rfl
  me_c9:=⟨HD.nth f 11 rfl rfl,HD.nth g 11 rfl rfl,F_c9.kp⟩
  F_d9:=F_d9
  b_d9:=F_d9.binds λ_ _ _ _ _ _=>L2.lL λ_ _ _=>rfl
  me_d9:=⟨HD.nth f 12 rfl rfl,HD.nth g 12 rfl rfl,F_d9.kp⟩
  F_k9:=F_k9
  b_k9:=F_k9.binds λ_ _ _ _ _ _=>L2.lL λ_ _ _=>rfl
  me_k9:=⟨HD.nth f 13 rfl rfl,HD.nth g 13 rfl rfl,F_k9.kp⟩
  F_n9:=F_n9
  b_n9:=F_n9.binds λ_ _ _ _ _ _=>L2.lL λ_ _ _=>rfl
  me_n9:=⟨HD.nth f 14 rfl rfl,HD.nth g 14 rfl rfl,F_n9.kp⟩
  F_ba9:=F_ba9
  b_ba9:=F_ba9.binds λ_ _ _ _ _ _=>L2.Ic λ_ _ _ _ _ _=>rfl
  m_ba9:=V2 X G (HD.nth b 18 rfl rfl)
  F_bh9:=F_bh9
  b_bh9:=F_bh9.binds λ_ _ _ _ _ _=>L2.gu λ_=>rfl
  m_bh9:=V2 X G (HD.nth b 19 rfl rfl)
  F_bn9:=F_bn9
  b_bn9:=F_bn9.binds λ_ _ _ _ _ _=>L2.gu λ_=>rfl
  m_bn9:=V2 X G (HD.nth b 20 rfl rfl)
  F_bp9:=F_bp9
  b_bp9:=F_bp9.binds λ_ _ _ _ _ _=>L2.gu λ_=>rfl
  m_bp9:=V2 X G (HD.nth b 21 rfl rfl)
  F_v9:=F_v9
  b_v9:=F_v9.binds λ_ _ _ _ _ _=>L2.MW λ_ _ _ _ _=>rfl
  m_v9:=V2 X G (HD.nth b 22 rfl rfl)
  F_z9:=F_z9
  b_z9:=F_z9.binds λ_ _ _ _ _ _=>L2.Ic λ_ _ _ _ _ _=>rfl
  m_z9:=V2 X G (HD.nth b 23 rfl rfl)
  F_bm9:=F_bm9
  b_bm9:=F_bm9.binds λ_ _ _ _ _ _=>L2.gu λ_=>rfl
  m_bm9:=V2 X G (HD.nth b 24 rfl rfl)
  F_bo9:=F_bo9
  b_bo9:=F_bo9.binds λ_ _ _ _ _ _=>L2.iJ λ_ _=>rfl
  m_bo9:=V2 X G (HD.nth b 25 rfl rfl)
  F_bj9:=F_bj9
  b_bj9:=F_bj9.binds λ_ _ _ _ _ _=>L2.gu λ_=>rfl
  m_bj9:=V2 X G (HD.nth b 26 rfl rfl)
  F_bg9:=F_bg9
  b_bg9:=F_bg9.binds λ_ _ _ _ _ _=>L2.Ic λ_ _ _ _ _ _=>rfl
  m_bg9:=V2 X G (HD.nth b 27 rfl rfl)
  F_q9:=F_q9
  b_q9:=F_q9.binds λ_ _ _ _ _ _=>L2.gu λ_=>rfl
  m_q9:=V2 X G (HD.nth b 28 rfl rfl)
  g_SEAT:=⟨_,V2 X G (HD.nth b 29 rfl rfl)⟩
  g_MOST_HOUSES:=⟨_,V2 X G (HD.nth b 30 rfl rfl)⟩
  g_FIGURES:=⟨_,V2 X G (HD.nth b 31 rfl rfl)⟩
  g_MOST_FIGURES:=⟨_,V2 X G (HD.nth b 32 rfl rfl)⟩
  z_len:=Wl X G (HD.nth b 33 rfl rfl)
  z_range:=Wl X G (HD.nth b 34 rfl rfl)
  z_min:=Wl X G (HD.nth b 35 rfl rfl)
  z_max:=Wl X G (HD.nth b 36 rfl rfl)
  z_set:=Wl X G (HD.nth b 37 rfl rfl)
  z_list:=Wl X G (HD.nth b 38 rfl rfl)
  z_tuple:=Wl X G (HD.nth b 39 rfl rfl)
  z_isinstance:=Wl X G (HD.nth b 40 rfl rfl)
  z_bool:=Wl X G (HD.nth b 41 rfl rfl)
  z_int:=Wl X G (HD.nth b 42 rfl rfl)
  z_str:=Wl X G (HD.nth b 43 rfl rfl)
  z_sorted:=Wl X G (HD.nth b 44 rfl rfl)
  z_any:=Wl X G (HD.nth b 45 rfl rfl)
 }
 refine(Sk D).imp λvs H Q E r=>?_;obtain⟨a,xs,q,t,u,N,x⟩:=r;refine Mi.PF Iw q t u (λp hp=>?_) x;cases hp
theorem Vm{K:L0}{q:Program}{loose:List Str}{XP:(Str->Option Value)->Heap->Prop}{d:DefRec}(e:d.params.defaults=[])(b:d.name = "law")(y:HD.obK U5 U6 Vc Vg Vf Ve U8 K=UU PySem.Challenge.pw_heraldways_k08_a_guild_written):PySem.W.WalkO q loose XP (λ_ h=>K.In h) PySem.Challenge.rw_heraldways_k08_a_guild_written.row.toRowW d [] (λf vs=>PySem.call f vs):=
 L2.KD (l:=PySem.Challenge.rw_heraldways_k08_a_guild_written) (K:=λ_=>K) (n:=63) (k:=8) (x := "script") (CX:=λ_=>gi) (sp:=λ_ T=>Mi.spT K T) Vn rfl (by decide) e ⟨rfl,by decide,by decide⟩ (λ_ _ Y=>Y) (λ_ h=>absurd rfl h) (λ_ h=>(nomatch h)) (by unfold Tns.ok Vn; decide) (λw mg j h T X G c TO=>QS X G (b▸c) TO y) (λw T H a ns g hO i=>⟨a,ns,rfl,Mi.Nn hO i,g,Mi.Rl hO,λ_=>rfl⟩) λ_ _ _ _ _ z=>z
end K08
open PySem PySem.W PyProof.Rows
set_option maxRecDepth 100000 in
set_option maxHeartbeats 0 in
theorem PySem.Challenge.cw_heraldways_k08_a_guild_written_holds : PySem.Challenge.rw_heraldways_k08_a_guild_written.Holds := by
 refine K08.hd0 λsaid=>?_;refine holds_openX (q:=K08.qP PySem.Challenge.pw_heraldways_k08_a_guild_written) (loose:=[]) (Xt:=λs=>xlAt (K08.qP PySem.Challenge.pw_heraldways_k08_a_guild_written) [] s&&recOk (RowW.records PySem.Challenge.rw_heraldways_k08_a_guild_written.row.toRowW) s) (XP:=XL (K08.qP PySem.Challenge.pw_heraldways_k08_a_guild_written) []) (Yf:=HD.ob K08.asL K08.U5 K08.U6 K08.Vc K08.Vg K08.Vf K08.Ve K08.U8) (Ya:=λ_=>K08.UU PySem.Challenge.pw_heraldways_k08_a_guild_written) (N:=6090) (λw=>HD.two (K08.TN w) (K08.TM w)) (λs e=>xl_of s (Bool.and_eq_true_iff.mp e).1) XL.keeps (by rfl) (by rfl) (by rfl) (λs e=>recFacts_of (Bool.and_eq_true_iff.mp e).2) (by rfl) said (by decide +kernel) ⟨rfl,rfl,rfl,rfl,rfl,by decide +kernel⟩ ?hw (HD.walkX λK y=>K08.Vm rfl rfl y)
 case hw=>w_witness2
