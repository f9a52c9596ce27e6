import PyProof.Rows.All
import Wide.All
import Wide.FinOn
import OpenK.XOpen
import OpenK.KWalk
import OpenK.KMake
import OpenK.KOwn
import OpenK.Peek
import OpenK.KCall
import OpenK.KGet
import KE.KIsAll
import KE.KBytesAny
import KE.BytesK
import KE.KxBytes
import KE.KDictOf
import KE.KItem
import Lean
import PyProof.EqAt
import PyProof.EqKinds
import PyProof.TupleCall
import KE.KLam
import KE.KMinKey
import KE.KDictList
import KE.KRevIter
import PyProof.WalksMore
import PyProof.Rows.SetFrom
import KE.KSortTup
import KE.KDictSum
import PyProof.DictUpdate
import PySem.Challenge.RW_heraldways_k20_whole_a_quarrel_never_end
set_option Elab.async false
set_option linter.all false
set_option maxRecDepth 100000
def Aa0:=@PySem.wpAny_bind
def Aa1:=@PySem.Heap.get?_push_of_some
def Aa2:=@List.map_cons
def Aa3:=@if_neg
def Aa4:=@List.mem_cons_of_mem
def Aa5:=@List.mem_cons_self
def Aa6:=@if_pos
def Aa7:=@List.length_map
def Aa8:=@List.mem_append_right
def Aa9:=@PySem.wpAny_pure
def Ab0:=@List.getD_eq_getElem?_getD
def Ab1:=@Bool.false_ne_true
def Ab2:=@List.length_cons
def Ab3:=@PySem.Heap.lt_size
def Ab4:=@PySem.Heap.get?_update_other
def Ab5:=@List.size_toArray
def Ab6:=@List.getElem?_eq_getElem
def Ab7:=@Nat.le_refl
def Ab8:=@PySem.Heap.get?_push_size
def Ab9:=@List.mem_append_left
def Ac0:=@PySem.F.plain_min_loop
def Ac1:=@Option.some.inj
def Ac2:=@Nat.lt_of_lt_of_le
def Ac3:=@PySem.Heap.get?_update_self
def Ac4:=@List.length_append
def Ac5:=@Nat.ne_of_lt
def Ac6:=@List.getElem?_eq_none
def Ac7:=@List.getElem?_map
def Ac8:=@PySem.Around.under_plainId
def Ac9:=@List.lookup_cons
def Ad0:=@PySem.F.plainAttrs_dict
def Ad1:=@Nat.lt_irrefl
def Ad2:=@decide_eq_false
def Ad3:=@List.map_append
def Ad4:=@PySem.wpAny_tryCatch
def Ad5:=@PySem.W.mg_none_of
def Ad6:=@List.replicate_succ
def Ad7:=@List.eraseIdx_cons_succ
def Ad8:=@List.length_set
def Ad9:=@PySem.W.mg_of
def Ae0:=@Array.length_toList
def Ae1:=@PySem.wpAny_passesOwn
def Ae2:=@PySem.plainId_quiet
def Ae3:=@Nat.le_trans
def Ae4:=@PySem.F.plain_max_loop
def Ae5:=@PySem.W.kia_one
def Ae6:=@PySem.codeAny_builtin
def Ae7:=@PySem.wpAny_truthy_bool
def Ae8:=@List.flatten_cons
def Ae9:=@List.append_assoc
def Af0:=@List.length_singleton
def Af1:=@List.nodup_nil
def Af2:=@PySem.wpAny_holding
def Af3:=@PySem.Calls.spliced_cons
def Af4:=@List.append_nil
def Af5:=@List.filter_cons
def Af6:=@List.map_nil
def Af7:=@List.map_map
def Af8:=@List.getElem?_append_right
def Af9:=@PySem.Calls.callWith_builtin
def Ag0:=@PySem.F.entry_min_loop
def Ag1:=@PySem.wpAny_letGo
def Ag2:=@decide_eq_true
def Ag3:=@List.getElem?_append_left
def Ag4:=@List.find?_cons
def Ag5:=@PySem.F.slot_dict_get
def Ag6:=@if_true
def Ag7:=@PySem.wpAny_updateSeq
def Ag8:=@PySem.wpAny_typeNameOfWhole_keyiter
def Ag9:=@PySem.Obj.data_mapDictKeys
def Ah0:=@Nat.le_of_lt
def Ah1:=@PySem.wpAny_seqItems
def Ah2:=@PyProof.Rows.callWith_type1
def Ah3:=@PySem.mem_of_lookup
def Ah4:=@List.getD_cons_succ
def Ah5:=@beq_self_eq_true
def Ah6:=@PySem.wpAny_Call_Name_kw
def Ah7:=@PySem.tupleKind_room_in1
def Ah8:=@List.length_replicate
def Ah9:=@List.mem_of_getElem?
def Ai0:=@PySem.Calls.evalArgs_plain
def Ai1:=@Ne.symm
def Ai2:=@PySem.Calls.spliced_nil
def Ai3:=@PySem.wpAny_typeNameOf_keyiter
def Ai4:=@PySem.PassesOwn.never
def Ai5:=@PySem.F.slot_dict_update
def Ai6:=@PySem.F.type_dict_update
def Ai7:=@PySem.Paired.length
def Ai8:=@Nat.zero_le
def Ai9:=@List.getElem?_replicate
def Aj0:=@List.getElem?_cons_succ
def Aj1:=@List.map_congr_left
def Aj2:=@Nat.lt_succ_self
def Aj3:=@List.cons_append
def Aj4:=@PySem.Heap.size_push
def Aj5:=@PySem.F.entry_dict_get
def Aj6:=@Nat.lt_of_le_of_lt
def Aj7:=@Bool.false_eq_true
def Aj8:=@Int.emod_lt_of_pos
def Aj9:=@PySem.F.slot_dict_pop
def Ak0:=@List.foldl_cons
def Ak1:=@Option.map_some
def Ak2:=@Int.emod_nonneg
def Ak3:=@PySem.wpAny_pyIter_list
def Ak4:=@List.any_cons
def Ak5:=@PySem.wpAny_newObj_type
def Ak6:=@PySem.wpAny_dictEntries
def Ak7:=@Array.getElem?_eq_getElem
def Ak8:=@List.drop_eq_getElem_cons
def Ak9:=@List.mem_or_eq_of_mem_set
def Al0:=@Bool.and_eq_true
def Al1:=@List.getElem_mem
def Al2:=@PySem.Obj.isFreed_of_dict
def Al3:=@PySem.wpAny_mono
def Al4:=@PySem.call_meetsIn
def Al5:=@PySem.wpAny_execs_nil
def Al6:=@List.getElem?_set_self
def Al7:=@PySem.F.entry_max_loop
def Al8:=@PySem.wpAny_Call_method
def Al9:=@List.eraseIdxIfInBounds_toArray
def Am0:=@Nat.lt_succ_of_lt
def Am1:=@Array.getElem?_toList
def Am2:=@List.getElem?_toArray
def Am3:=@Bool.beq_eq_decide_eq
def Am4:=@if_false
def Am6:=@Bool.eq_iff_iff
def Am7:=@PySem.W.plainGet_of
def Am8:=@List.length_nil
def Am9:=@List.getElem_of_mem
def An0:=@List.getElem?_range
def An1:=@PySem.Heap.SameBut.update
def An2:=@PySem.W.shaped_ints
def An3:=@List.nodup_cons
def An5:=@PySem.W.callWith_K
def An6:=@Nat.pos_of_ne_zero
def An7:=@List.set_cons_zero
def An8:=@List.set_cons_succ
def An9:=@List.exists_mem_of_ne_nil
def Ao0:=@Option.isSome_map
def Ao2:=@List.length_range
def Ao3:=@of_decide_eq_true
def Ao4:=@List.set_eq_of_length_le
def Ao5:=@PySem.F.slot_dict_values
def Ao6:=@Nat.mod_lt
def Ao7:=@Sum.inl.inj
def Ao8:=@PySem.wpAny_standAt
def Ao9:=@PySem.F.args_dict_pop_3
def Ap0:=@PySem.F.args_dict_get_2
def Ap1:=@PySem.F.args_dict_get_3
def Ap2:=@PySem.F.plainAttrs_list
def Ap3:=@List.drop_length
def Ap4:=@List.all_eq_true
def Ap5:=@Nat.mod_eq_of_lt
def Ap6:=@PySem.W.cellsFrom_some
def Ap7:=@PySem.F.entry_dict_pop
def Aq0:=@List.drop_eq_nil_of_le
def Aq3:=@Nat.ne_of_gt
def Aq4:=@PySem.codeAny_mono
def Aq5:=@PySem.W.methodCall_KW
def Aq6:=@PySem.F.type_dict_get
def Aq7:=@PySem.F.type_dict_pop
def Aq8:=@PySem.wpAny_dictEpoch
def Ar0:=@Nat.lt_or_ge
def Ar1:=@Nat.succ.inj
def Ar2:=@decide_false
def Ar3:=@Nat.sub_self
def Ar4:=@Nat.not_lt_zero
def Ar5:=@PySem.F.slot_dict_len
def As6:=@PySem.sizeLine_eq
def As7:=@PySem.wpAny_of_eq
def Au5:=@List.all_map
def Au6:=@List.map_set
def Au7:=@Nat.mod_self
namespace HD
open PySem PySem.W PyProof.Rows
def top(p:Program)(i:Nat):Stmt:=p.main.body.getD i (.Pass ⟨0,0,0,0⟩)
def iC(s:Stmt)(j:Nat):Stmt:=match s with
 |.ClassDef _ _ _ body _ _ _ _ _ _ _=>body.getD j (.Pass ⟨0,0,0,0⟩)
 |_=> .Pass ⟨0,0,0,0⟩
def dA(s:Stmt):Arguments:=match s with
 |.FunctionDef _ a _ _ _ _ _ _ _ _=>a
 |_=>{ posonlyargs:=[],args:=[],vararg:=none,kwonlyargs:=[],kw_defaults:=[],kwarg:=none,defaults:=[] }
def dB(s:Stmt):List Stmt:=match s with
 |.FunctionDef _ _ b _ _ _ _ _ _ _=>b
 |_=>[]
def dS(s:Stmt):Scope:=match s with
 |.FunctionDef _ _ _ _ _ _ sc _ _ _=>sc
 |_=>{ kind:= .function,names:=[],isGenerator:=false,isCoroutine:=false }
def frag(as:List Addr)(h:Heap):Frag:=as.filterMap fun a=>(h.get? a).map fun o=>(a,o)
theorem cm8(as:List Addr)(h:Heap):(frag as h).In h:=by
 intro a o e
 induction as with
 |nil=>cases e
 |cons b as ih=>
   unfold frag at e;rw[List.filterMap_cons] at e;cases q:h.get? b with
   |none=>
     rw[q] at e;exact ih e
   |some x=>
     rw[q] at e;replace e:List.lookup a ((b,x) :: frag as h)=some o:=e;rw[Ac9] at e;by_cases z:a=b
     ·subst z;rw[Ah5 a] at e;cases e;exact q
     ·rw[beq_eq_false_iff_ne.mpr z] at e;exact ih e
abbrev FnO:=Str×Str×Arguments×FuncBody×Scope×Addr×List (Str×Addr)×Value×Addr×Bool
def fnO(K:Frag)(f:Addr)(q:Str):Option FnO:=match K.lookup f with
 |some ⟨_,_,.func fd,_⟩=>some (fd.name,fd.qualname,fd.params,fd.body,fd.scope,fd.globals,fd.closure,fd.defaults,fd.builtins,codeIn K fd.code q)
 |_=>none
def fnE(x q:Str)(st:Stmt):Option FnO:=some (x,q,dA st,.stmts (dB st),dS st,mainGlobals,[],.none,builtinsNs,true)
theorem fn_of{K:Frag}{f:Addr}{x q:Str}{st:Stmt}(h:fnO K f q=fnE x q st):∃ (oc:Value) (od:Option Addr) (kV doc pm:Value) (an:Option Addr) (cdv ct:Value) (osl:Array (Option Value)),
 K.lookup f=some ⟨oc,od,.func (fnOf x q (dA st) (dB st) (dS st) .none kV doc pm an cdv ct),osl⟩∧codeIn K cdv q=true:=by
 unfold fnO at h;split at h
 · next oc od fd osl e=>
   obtain⟨n,qn,pr,bd,sc,gl,cl,df,kd,dc,pm,an,cd,ct,bi⟩:=fd;unfold fnE at h;simp only[Option.some.injEq,Prod.mk.injEq] at h;obtain⟨rfl,rfl,rfl,rfl,rfl,rfl,rfl,rfl,rfl,hc⟩:=h;exact⟨oc,od,kd,dc,pm,an,cd,ct,osl,e,hc⟩
 ·exact nomatch h
theorem fn_keep{K:Frag}{f:Addr}{x q:Str}{st:Stmt}(h:fnO K f q=fnE x q st):keepIn K (.ref f)=true:=by
 obtain⟨oc,od,kV,doc,pm,an,cdv,ct,osl,e,_⟩:=fn_of h;show(match K.lookup f with | some ⟨_,_,.func _,_⟩=>true | some ⟨_,_,.cls _,_⟩=>specialIn K (.ref f) "__call__" == some (some (.builtin "type.__call__")) | _=>false)=true;rw[e]
def mroK(K:Frag)(C:Addr):List Value:=match K.lookup C with
 |some ⟨_,_,.cls cd,_⟩=>cd.mro
 |_=>[]
def excK(K:Frag)(C:Addr):Bool:=excIn K C [.type "ValueError",.type "Exception",.type "BaseException",.type "object"] "ValueError.__new__"
def cH4(K:Frag)(D:Addr):Bool:=findIn K (.ref D) "__getattribute__" == some (some (.builtin "BaseException.__getattribute__")) && (findIn K (.ref D) "__getattr__" == some none && (findIn K (.ref D) "__class__" == some (some (.builtin "object.__class__")) &&
 (specialIn K (.builtin "object.__class__") "__get__" == some (some (.builtin "getset_descriptor.__get__")) && (takesIn K (.builtin "object.__class__") == some true && (mroIn K D (.type "object") == some true && (mroIn K D (.type "BaseException") == some true && (clsIn K D).isSome))))))
abbrev Ob:=List (Option (Option Value))×List (Option (Option Value))×List Bool×List (Option FnO)×List (Bool×List Value)×List (Option Bool)
def cls(K:Frag)(C:Addr):Bool:=plainGet K C Str.empty && (hasDictIn K C && (plainOver K C && (makesIn K C && keepIn K (.ref C))))
def obK(ns:List Str)(ms:List (Addr×Str))(fs cs:List Addr)(ds:List (Addr×Str))(es:List Addr)(ks:List (Addr×Value))(K:Frag):Ob:=
 (ns.map (nsIn K mainGlobals),ms.map (fun p=>findIn K (.ref p.1) p.2),(fs.map fun f=>isFn K (.ref f)) ++ cs.map (cls K),ds.map (fun p=>fnO K p.1 p.2),es.map (fun C=>(excK K C && cH4 K C,mroK K C)),ks.map fun p=>kitOne K (.ref p.1) p.2)
def ob(n:List Addr)(ns:List Str)(ms:List (Addr×Str))(fs cs:List Addr)(ds:List (Addr×Str))(es:List Addr)(ks:List (Addr×Value))(s:Shared):Ob:=obK ns ms fs cs ds es ks (frag n s.heap)
theorem two{α β γ:Type}{o:Option α}{f:α→β}{g:α→γ}{a:β}{b:γ}(h1:o.map f=some a)(h2:o.map g=some b):o.map (fun s=>(f s,g s))=some (a,b):=by
 cases o with
 |none=>cases h1
 |some s=>cases h1; cases h2; rfl
theorem nth{α:Type}{l m:List α}(h:l=m)(i:Nat){a b:α}(ha:l[i]?=some a)(hb:m[i]?=some b):a=b:=by
 subst h;rw[ha] at hb;exact Ac1 hb
theorem cls_of{K:Frag}{C:Addr}(h:cls K C=true):plainGet K C Str.empty=true∧hasDictIn K C=true∧plainOver K C=true∧makesIn K C=true∧keepIn K (.ref C)=true:=by
 unfold cls at h;simpa only[Bool.and_eq_true] using h
theorem walkX{q:Program}{loose:List Str}{XP:(Str→Option Value)→Heap→Prop}{n:List Addr}{ns:List Str}{ms:List (Addr×Str)}{fs cs:List Addr}{ds:List (Addr×Str)}{es:List Addr}{ks:List (Addr×Value)}{E:Ob}{r:RowW}{d:DefRec}{kwd:List (Str×Expr)}{run:Value→List Value→Sem Value}
 (W:∀ K:Frag,obK ns ms fs cs ds es ks K=E→WalkO q loose XP (fun _ h=>K.In h) r d kwd run):WalkX q loose XP (ob n ns ms fs cs ds es ks) (fun _=>E) r d kwd run:=
 fun w s0 s1 mg mb G y a o pm cd doc dV kV h1 h2 h3 h4 h5 h6 args vals as1 L b1 b2 b3 b4 b5=>W _ y w s0 s1 mg mb G ((cm8 _ _).keeps L.keeps) a o pm cd doc dV kV h1 h2 h3 h4 h5 h6 args vals as1 b1 b2 b3 b4 b5
end HD
set_option maxHeartbeats 4000000
namespace K20
open PySem PySem.W PyProof.Rows
theorem hd0(h:PySem.Challenge.rw_heraldways_k20_whole_a_quarrel_never_end.row.wellSaid=true→PySem.Challenge.rw_heraldways_k20_whole_a_quarrel_never_end.row.Holds):PySem.Challenge.rw_heraldways_k20_whole_a_quarrel_never_end.Holds:=by
 w_on; o_law; exact h (by assumption)
abbrev qP(p:Program):Program:=view p [0,2,3,4,5,6,8,9,10,11,13,14,15,17,18,20,21,22,23,24]
def asL:List Addr:=[3,88,89,102,103,109,110,116,117,130,131,151,152,172,173,186,187,191,192,198,199,203,204,210,211,217,218,224,225,227,228,238,239,245,246,252,253,259,260,271,272,297,298,311,312,318,319,325,326,346,347,353,354,360,361,367,368,381,382,384,385,395,396,402,403,407,408,414,415,421,422]
def nsL:List Str := "Guild" :: "Post" :: "_law_cell_at" :: "_law_order" :: "_law_whole" :: "best_road" :: "copied" :: "require_within" :: "may_take" :: "_law_guild_of" :: "standing" :: "law" :: "SEAT" :: "MOST_HOUSES" :: "len" :: "range" :: "min" :: "max" :: "set" :: "list" :: "tuple" :: "isinstance" :: "bool" :: "int" :: "any" :: []
def msL:List (Addr×Str):=(228, "__init__") :: (228, "houses_paired") :: (228, "shuns_one_of") :: (228, "size") :: (385, "first_of_line") :: (385, "write_road") :: (228, "require_houses") :: (385, "waiting") :: (228, "liking") :: (228, "neighbours") :: (228, "require_long_road") :: (228, "require_two_houses") :: (228, "twin") :: (228, "lay_way") :: (228, "rank_of") :: (228, "wish") :: (385, "write_to_all") :: (385, "__init__") :: (385, "choose_anew") :: (385, "hear") :: (385, "carry") :: (385, "carry_next") :: (385, "settle") :: (228, "__setattr__") :: (385, "__setattr__") :: (228, "house_count") :: (228, "ways") :: (228, "likings") :: (228, "shuns") :: (228, "wish_ranks") :: (385, "guild") :: (385, "roads") :: (385, "told_last") :: (385, "written_last") :: (385, "letters") :: (385, "standings") :: []
def fsL:List Addr:=[103,192,204,110,347,354,211,298,152,117,225,218,199,131,187,173,361,272,382,368,312,319,326]
def csL:List Addr:=[228,385]
def dsL:List (Addr×Str):=(103, "Guild.__init__") :: (192, "Guild.houses_paired") :: (204, "Guild.shuns_one_of") :: (110, "Guild.size") :: (347, "Post.first_of_line") :: (354, "Post.write_road") :: (396, "_law_cell_at") :: (408, "_law_order") :: (403, "_law_whole") :: (253, "best_road") :: (260, "copied") :: (89, "require_within") :: (211, "Guild.require_houses") :: (298, "Post.waiting") :: (246, "may_take") :: (152, "Guild.liking") :: (117, "Guild.neighbours") :: (225, "Guild.require_long_road") :: (218, "Guild.require_two_houses") :: (199, "Guild.twin") :: (131, "Guild.lay_way") :: (187, "Guild.rank_of") :: (173, "Guild.wish") :: (361, "Post.write_to_all") :: (272, "Post.__init__") :: (382, "Post.choose_anew") :: (415, "_law_guild_of") :: (239, "standing") :: (368, "Post.hear") :: (312, "Post.carry") :: (319, "Post.carry_next") :: (326, "Post.settle") :: (422, "law") :: []
def esL:List Addr:=[]
def ksL:List (Addr×Value):=[]
def xpL(p:Program):HD.Ob:=(some (some (.ref 228)) :: some (some (.ref 385)) :: some (some (.ref 396)) :: some (some (.ref 408)) :: some (some (.ref 403)) :: some (some (.ref 253)) :: some (some (.ref 260)) :: some (some (.ref 89)) :: some (some (.ref 246)) :: some (some (.ref 415)) :: some (some (.ref 239)) :: some (some (.ref 422)) :: some (some (.int 0 280)) :: some (some (.int 60 282)) :: some none :: some none :: some none :: some none :: some none :: some none :: some none :: some none :: some none :: some none :: some none :: [],some (some (.ref 103)) :: some (some (.ref 192)) :: some (some (.ref 204)) :: some (some (.ref 110)) :: some (some (.ref 347)) :: some (some (.ref 354)) :: some (some (.ref 211)) :: some (some (.ref 298)) :: some (some (.ref 152)) :: some (some (.ref 117)) :: some (some (.ref 225)) :: some (some (.ref 218)) :: some (some (.ref 199)) :: some (some (.ref 131)) :: some (some (.ref 187)) :: some (some (.ref 173)) :: some (some (.ref 361)) :: some (some (.ref 272)) :: some (some (.ref 382)) :: some (some (.ref 368)) :: some (some (.ref 312)) :: some (some (.ref 319)) :: some (some (.ref 326)) :: some (some (.builtin "object.__setattr__")) :: some (some (.builtin "object.__setattr__")) :: some none :: some none :: some none :: some none :: some none :: some none :: some none :: some none :: some none :: some none :: some none :: [],true :: true :: true :: true :: true :: true :: true :: true :: true :: true :: true :: true :: true :: true :: true :: true :: true :: true :: true :: true :: true :: true :: true :: true :: true :: [],HD.fnE "__init__" "Guild.__init__" (HD.iC (HD.top p 11) 0) :: HD.fnE "houses_paired" "Guild.houses_paired" (HD.iC (HD.top p 11) 13) :: HD.fnE "shuns_one_of" "Guild.shuns_one_of" (HD.iC (HD.top p 11) 15) :: HD.fnE "size" "Guild.size" (HD.iC (HD.top p 11) 1) :: HD.fnE "first_of_line" "Post.first_of_line" (HD.iC (HD.top p 18) 11) :: HD.fnE "write_road" "Post.write_road" (HD.iC (HD.top p 18) 12) :: HD.fnE "_law_cell_at" "_law_cell_at" (HD.top p 20) :: HD.fnE "_law_order" "_law_order" (HD.top p 22) :: HD.fnE "_law_whole" "_law_whole" (HD.top p 21) :: HD.fnE "best_road" "best_road" (HD.top p 15) :: HD.fnE "copied" "copied" (HD.top p 17) :: HD.fnE "require_within" "require_within" (HD.top p 10) :: HD.fnE "require_houses" "Guild.require_houses" (HD.iC (HD.top p 11) 16) :: HD.fnE "waiting" "Post.waiting" (HD.iC (HD.top p 18) 4) :: HD.fnE "may_take" "may_take" (HD.top p 14) :: HD.fnE "liking" "Guild.liking" (HD.iC (HD.top p 11) 7) :: HD.fnE "neighbours" "Guild.neighbours" (HD.iC (HD.top p 11) 2) :: HD.fnE "require_long_road" "Guild.require_long_road" (HD.iC (HD.top p 11) 18) :: HD.fnE "require_two_houses" "Guild.require_two_houses" (HD.iC (HD.top p 11) 17) :: HD.fnE "twin" "Guild.twin" (HD.iC (HD.top p 11) 14) :: HD.fnE "lay_way" "Guild.lay_way" (HD.iC (HD.top p 11) 4) :: HD.fnE "rank_of" "Guild.rank_of" (HD.iC (HD.top p 11) 12) :: HD.fnE "wish" "Guild.wish" (HD.iC (HD.top p 11) 10) :: HD.fnE "write_to_all" "Post.write_to_all" (HD.iC (HD.top p 18) 13) :: HD.fnE "__init__" "Post.__init__" (HD.iC (HD.top p 18) 0) :: HD.fnE "choose_anew" "Post.choose_anew" (HD.iC (HD.top p 18) 16) :: HD.fnE "_law_guild_of" "_law_guild_of" (HD.top p 23) :: HD.fnE "standing" "standing" (HD.top p 13) :: HD.fnE "hear" "Post.hear" (HD.iC (HD.top p 18) 14) :: HD.fnE "carry" "Post.carry" (HD.iC (HD.top p 18) 6) :: HD.fnE "carry_next" "Post.carry_next" (HD.iC (HD.top p 18) 7) :: HD.fnE "settle" "Post.settle" (HD.iC (HD.top p 18) 8) :: HD.fnE "law" "law" (HD.top p 24) :: [],[],[])
theorem left1(w:World):(openEnds treeTable PySem.Challenge.pw_heraldways_k20_whole_a_quarrel_never_end w 6086).map (openSeen (qP PySem.Challenge.pw_heraldways_k20_whole_a_quarrel_never_end) [] (importedModules PySem.Challenge.pw_heraldways_k20_whole_a_quarrel_never_end.main.body) (fun s=>xlAt (qP PySem.Challenge.pw_heraldways_k20_whole_a_quarrel_never_end) [] s && recOk (RowW.records PySem.Challenge.rw_heraldways_k20_whole_a_quarrel_never_end.row.toRowW) s) true)=some (openGood (qP PySem.Challenge.pw_heraldways_k20_whole_a_quarrel_never_end) []):=by
 rw[Fast.te14364793385576792824,Fast.te4187177175401517315,Fast.te5923862056798008813,Fast.te3811859036725603956]
 kernel_rfl
theorem left2(w:World):(openEnds treeTable PySem.Challenge.pw_heraldways_k20_whole_a_quarrel_never_end w 6086).map (HD.ob asL nsL msL fsL csL dsL esL ksL)=some (xpL PySem.Challenge.pw_heraldways_k20_whole_a_quarrel_never_end):=by
 rw[Fast.te14364793385576792824,Fast.te3811859036725603956]
 kernel_rfl
end K20
namespace L2
open PySem PySem.Spec PyProof.Rows
abbrev Key:=Sum Int Str
def bi8:Key→Value→Bool
 |.inl k,v=>Value.isInt k v
 |.inr x,v=>Value.isStrOf x v
def keyH(w:World):Key→Int
 |.inl k=>hashInt k
 |.inr x=>hashStr w x
theorem ae1:∀ {k:Key} {v:Value},bi8 k v=true→(∃ i t,k=Sum.inl i∧v=Value.int i t)∨(∃ x t,k=Sum.inr x∧v=Value.str x t)
 | .inl i,v,h=>by
   obtain⟨t,e⟩:=Value.isInt_shape (k:=i) (v:=v) h;exact .inl ⟨i,t,rfl,e⟩
 | .inr x,v,h=>by
   obtain⟨t,e⟩:=Value.isStrOf_shape (x:=x) (v:=v) h;exact .inr ⟨x,t,rfl,e⟩
theorem bt2(i:Int)(t:Tok):bi8 (.inl i) (.int i t)=true:=by simp[bi8,Value.isInt]
theorem bt1(x:Str)(t:Tok):bi8 (.inr x) (.str x t)=true:=by simp[bi8,Value.isStrOf]
theorem cG3(a b:Int):decide ((Sum.inl a:Key)=Sum.inl b)=(a == b):=by
 by_cases e:a=b
 ·subst e; simp
 ·have h:¬ (Sum.inl a:Key)=Sum.inl b:=fun q=>e (Ao7 q);rw[Ad2 h];exact(beq_eq_false_iff_ne.mpr e).symm
theorem cG0(a b:Str):decide ((Sum.inr a:Key)=Sum.inr b)=decide (a=b):=by
 by_cases e:a=b
 ·subst e; simp
 ·have h:¬ (Sum.inr a:Key)=Sum.inr b:=fun q=>e (Sum.inr.inj q);rw[Ad2 h,Ad2 e]
theorem cG2(a:Int)(b:Str):decide ((Sum.inl a:Key)=Sum.inr b)=false:=Ad2 (fun q=>nomatch q)
theorem cG1(a:Str)(b:Int):decide ((Sum.inr a:Key)=Sum.inl b)=false:=Ad2 (fun q=>nomatch q)
def ab6(prog:Program)(w:World):PySem.KeyKind prog w Key where
 is:=bi8
 hash:=keyH w
 inj:=fun v a b ha hb=>by
  rcases ae1 ha with ⟨i,t,rfl,rfl⟩ | ⟨x,t,rfl,rfl⟩
  · rcases ae1 hb with ⟨j,u,rfl,e⟩ | ⟨y,u,rfl,e⟩
    ·injection e with e1 _; rw[e1]
    ·exact nomatch e
  · rcases ae1 hb with ⟨j,u,rfl,e⟩ | ⟨y,u,rfl,e⟩
    ·exact nomatch e
    ·injection e with e1 _; rw[e1]
 byValue:=fun k v h=>by
  rcases ae1 h with ⟨i,t,rfl,rfl⟩ | ⟨x,t,rfl,rfl⟩ <;> rfl
 pyHash:=fun hv h=>by
  rcases ae1 hv with ⟨i,t,rfl,rfl⟩ | ⟨x,t,rfl,rfl⟩
  ·exact wpAny_pyHash_int h
  ·exact wpAny_pyHash_str h
 eqBool:=fun hu hv h=>by
  rcases ae1 hu with ⟨i,t,rfl,rfl⟩ | ⟨x,t,rfl,rfl⟩
  · rcases ae1 hv with ⟨j,u,rfl,rfl⟩ | ⟨y,u,rfl,rfl⟩
    ·rw[cG3] at h; exact wpAny_eqBool_int h
    ·rw[cG2] at h; exact SeqAt.EqAt.int_str i t y u _ _ _ _ h
  · rcases ae1 hv with ⟨j,u,rfl,rfl⟩ | ⟨y,u,rfl,rfl⟩
    ·rw[cG1] at h; exact SeqAt.EqAt.str_int x t j u _ _ _ _ h
    ·rw[cG0] at h; exact wpAny_eqBool_str h
 «strs»:=fun k x t v h=>by
  rcases ae1 h with ⟨i,u,rfl,e⟩ | ⟨y,u,rfl,e⟩
  ·exact nomatch e
  · injection e with e1 _
    subst e1;cases v <;> rfl
theorem aT7(prog:Program)(w:World)(i:Int)(t:Tok):(ab6 prog w).is (.inl i) (.int i t)=true:=bt2 i t
theorem aT6(prog:Program)(w:World)(x:Str)(t:Tok):(ab6 prog w).is (.inr x) (.str x t)=true:=bt1 x t
inductive V where
 |non | bl (b:Bool) | int (i:Int) | str (x:Str) | byt (b:Array UInt8) | flt (b:UInt64) | ref (a:Addr) | ty (n:String)
 deriving DecidableEq
def RelV:V→Value→Prop
 |.non,u=>u=Value.none
 |.bl b,u=>u=Value.bool b
 |.int i,u=>∃ t,u=Value.int i t
 |.str x,u=>∃ t,u=Value.str x t
 |.byt b,u=>∃ t,u=Value.bytes b t
 |.flt b,u=>∃ t,u=Value.float b t
 |.ref a,u=>u=Value.ref a
 |.ty n,u=>u=Value.type n
abbrev Vals:List V→List Value→Prop:=Paired RelV
theorem Vals.length{xs:List V}{us:List Value}(r:Vals xs us):xs.length=us.length:=Ai7 r
theorem Vals.get:∀ {xs:List V} {us:List Value} {i:Nat} {x:V},Vals xs us→xs[i]?=some x→∃ u,us[i]?=some u∧RelV x u
 |_,_,_,_,.nil,e=>by simp at e
 |_,_,0,_,.cons r _,e=>by simp at e; subst e; exact⟨_,rfl,r⟩
 | _,_,i + 1,x,.cons _ t,e=>by
   obtain⟨u,h1,h2⟩:=Vals.get (i:=i) (x:=x) t (by simpa using e);exact⟨u,by simpa using h1,h2⟩
theorem Vals.set{x:V}{u:Value}(r:RelV x u):∀ {xs:List V} {us:List Value} (i:Nat),Vals xs us→Vals (xs.set i x) (us.set i u)
 |_,_,_,.nil=> .nil
 |_,_,0,.cons _ t=> .cons r t
 |_,_,i + 1,.cons q t=> .cons q (Vals.set r i t)
theorem Vals.append:∀ {xs ys:List V} {us ws:List Value},Vals xs us→Vals ys ws→Vals (xs ++ ys) (us ++ ws)
 |_,_,_,_,.nil,s=>s
 |_,_,_,_,.cons r t,s=> .cons r (Vals.append t s)
theorem Vals.take:∀ {xs:List V} {us:List Value} (n:Nat),Vals xs us→Vals (xs.take n) (us.take n)
 |_,_,0,_=> .nil
 |_,_,_ + 1,.nil=> .nil
 |_,_,n + 1,.cons r t=> .cons r (Vals.take n t)
theorem Vals.drop:∀ {xs:List V} {us:List Value} (n:Nat),Vals xs us→Vals (xs.drop n) (us.drop n)
 |_,_,0,r=>r
 |_,_,_ + 1,.nil=> .nil
 |_,_,n + 1,.cons _ t=>Vals.drop n t
def RelO:Option V→Option Value→Prop
 |some v,some u=>RelV v u
 |none,none=>True
 |_,_=>False
def KV{κ:Type}:List (κ×V)→List (κ×Value)→Prop:=Paired fun (p:κ×V) (q:κ×Value)=>p.1=q.1∧RelV p.2 q.2
def kV:Key→V
 |.inl i=> .int i
 |.inr x=> .str x
inductive HO where
 /-- a list -/
 |lst (xs:List V)
 /-- a tuple (never changes) -/
 |tup (xs:List V)
 /-- a dict whose keys are ints and texts; one whose keys are tuples of ints and texts (the empty one is both) -/
 |dK (kvs:List (Key×V)) | dT (kvs:List (List Key×V))
 /-- a set of ints: its members,its size -/
 |set (S:Int→Bool) (n:Nat)
 /-- an instance of the class at C,its dict at dx,its attributes -/
 |ins (C dx:Addr) (fs:List (Str×V))
 /-- the dict of the instance at x -/
 |own (x:Addr)
 /-- the dict of an exception -/
 |xd (fs:List (Str×V))
 /-- a bound method,f of x -/
 |met (f x:Addr)
 /-- a range object lo,lo + 1,.. below hi -/
 |rng (lo hi:Int)
 /-- a thing that is known to the object (the script; a dict while a loop walks it): read,never written while it is so -/
 |frz (o:Obj) (u:HO)
 /-- a code object's table: at each of these places nothing,or a code of that name -/
 |tbl (l:List (Pos×Str))
 /-- any other thing,by what is true of its one object (a def of one's own: SetO a S n:=HO.ext fun h=> ..) -/
 |ext (φ:Heap→Prop)
abbrev Hp:=Addr→Option HO
def upd(H:Hp)(a:Addr)(o:HO):Hp:=fun b=>if b=a then some o else H b
theorem ab3{H:Hp}{a:Addr}{o:HO}:upd H a o a=some o:=by unfold upd; rw[if_pos rfl]
theorem ab0{H:Hp}{a b:Addr}{o:HO}(h:b≠a):upd H a o b=H b:=by unfold upd; rw[if_neg h]
theorem bI9{H:Hp}{a b:Addr}{o u:HO}(h:H a=some o)(h':H b=some u)(d:o≠u):a≠b:=by
 intro e; subst e; rw[h] at h'; exact d (Ac1 h')
theorem ac0{H:Hp}{a b:Addr}{o:HO}(h:H a=some o)(h':H b=none):a≠b:=by
 intro e; subst e; rw[h] at h'; cases h'
section
variable(P:Program)(w:World)
def ObjOk(H:Hp)(h:Heap)(a:Addr):HO→Prop
 |.lst xs=>xs.length≤sizeLine∧∃ (its:List Value) (n:Nat),Vals xs its∧h.get? a=some { cls:= .type "list",data:= .seq its.toArray n }
 |.tup xs=>xs.length≤sizeLine∧∃ its:List Value,Vals xs its∧IsTup h a its.toArray
 |.dK kvs=>kvs.length≤sizeLine∧(a == sysModules)=false∧∃ vs,KV kvs vs∧h.DictOf (ab6 P w) a vs
 | .dT kvs=>kvs.length≤sizeLine∧(a == sysModules)=false∧∃ xs:List (List Key×Addr×Value),
    Paired (fun (p:List Key×V) (q:List Key×Addr×Value)=>p.1=q.1∧H q.2.1=some (.tup (p.1.map kV))∧RelV p.2 q.2.2) kvs xs∧
    ∃ o es ep,h.get? a=some o∧o.ExactDict∧o.data= .dict es ep∧es.toList=xs.map (entryOfKey (tupleKind (ab6 P w)))∧(xs.map (·.1)).Nodup
 |.set S n=>h.SetOf (intKind P w) a S n
 | .ins C dx fs=>H dx=some (.own a)∧fs.length≤1000∧dx≠a∧h.get? a=some (PySem.W.instObj C dx)∧
    ∃ mA,h.Ns1 dx mA∧(∀ f,RelO (fs.lookup f) (mA f))∧PySem.Within mA (fs.map (·.1))
 |.own _=>∃ o,h.get? a=some o
 |.xd fs=>∃ mA,h.Ns1 a mA∧∀ f,RelO (fs.lookup f) (mA f)
 |.rng lo hi=>∃ t u v,h.get? a=some { cls:= .type "range",data:= .fields #[.int lo t,.int hi u,.int 1 v] }
 |.frz o u=>h.get? a=some o∧ObjOk H h a u
 |.tbl l=>(∀ y∈l,∀ z∈l,y.1.line=z.1.line→y.1.col=z.1.col→y.2=z.2)∧∃ ps:Array Value,h.get? a=some { cls:= .none,data:= .fields ps }∧TriplesOk ps.toList∧∀ x∈l,codeAmong x.1 ps.toList=none∨∃ c,codeAmong x.1 ps.toList=some (.ref c)∧H c=some (.own a)∧h.CodeRec (.ref c) x.2
 |.met f x=>h.get? a=some (PySem.W.methodObj (.ref f) (.ref x))
 |.ext φ=>φ h∧(∃ o,h.get? a=some o)∧∀ h1 h2:Heap,φ h1→(∀ o,h1.get? a=some o→h2.get? a=some o)→φ h2
def HOk(H:Hp)(h:Heap):Prop:=∀ a o,H a=some o→ObjOk P w H h a o
end
section
variable{P:Program}{w:World}{H H':Hp}{h h':Heap}{a:Addr}{o:HO}
theorem ObjOk.lt(x:ObjOk P w H h a o):a < h.objs.size:=by
 cases o with
 |lst xs=>obtain⟨_,_,_,_,e⟩:=x; exact Ab3 e
 |tup xs=>obtain⟨_,_,_,p⟩:=x; exact p.lt
 |dK kvs=>obtain⟨_,_,_,_,o,_,_,e,_⟩:=x; exact Ab3 e
 |dT kvs=>obtain⟨_,_,_,_,o,_,_,e,_⟩:=x; exact Ab3 e
 |set S n=>obtain⟨o,_,_,_,e,_⟩:=x; exact Ab3 e
 |ins C dx fs=>obtain⟨_,_,_,e,_⟩:=x; exact Ab3 e
 |own y=>obtain⟨_,e⟩:=x; exact Ab3 e
 |xd fs=>obtain⟨_,⟨_,_,_,e,_⟩,_⟩:=x; exact Ab3 e
 |rng lo hi=>obtain⟨_,_,_,e⟩:=x; exact Ab3 e
 |frz ob u=>obtain⟨e,_⟩:=x; exact Ab3 e
 |tbl l=>obtain⟨_,_,e,_⟩:=x; exact Ab3 e
 |met f y=>exact Ab3 (show h.get? a=some _ from x)
 |ext φ=>obtain⟨_,⟨_,e⟩,_⟩:=x; exact Ab3 e
theorem Paired.mapP{α β:Type}{F G:α→β→Prop}:∀ {l₁:List α} {l₂:List β},Paired F l₁ l₂→(∀ a b,F a b→G a b)→Paired G l₁ l₂
 |_,_,.nil,_=> .nil
 |_,_,.cons r t,f=> .cons (f _ _ r) (Paired.mapP t f)
theorem ObjOk.stay(x:ObjOk P w H h a o)(k:∀ b u,(b=a∨H b=some (.own a))→h.get? b=some u→h'.get? b=some u)
 (ho:∀ b,H b=some (.own a)→H' b=some (.own a)) (ht:∀ b xs,H b=some (.tup xs)→H' b=some (.tup xs)):ObjOk P w H' h' a o:=by
 induction o with
 |lst xs=>obtain⟨z,its,n,r,e⟩:=x; exact⟨z,its,n,r,k _ _ (.inl rfl) e⟩
 |tup xs=>obtain⟨z,its,r,ob,e,c⟩:=x; exact⟨z,its,r,ob,k _ _ (.inl rfl) e,c⟩
 |dK kvs=>obtain⟨z,y,vs,r,ob,es,ep,e,c⟩:=x; exact⟨z,y,vs,r,ob,es,ep,k _ _ (.inl rfl) e,c⟩
 |dT kvs=>
   obtain⟨z,y,xs,r,ob,es,ep,e,c⟩:=x;exact⟨z,y,xs,Paired.mapP r fun p q z=>⟨z.1,ht _ _ z.2.1,z.2.2⟩,ob,es,ep,k _ _ (.inl rfl) e,c⟩
 |set S n=>obtain⟨ob,es,ep,t,e,c⟩:=x; exact⟨ob,es,ep,t,k _ _ (.inl rfl) e,c⟩
 |ins C dx fs=>
   obtain⟨d,z,ne,e,mA,⟨od,es,ep,e2,c⟩,r⟩:=x;exact⟨ho _ d,z,ne,k _ _ (.inl rfl) e,mA,⟨od,es,ep,k _ _ (.inr d) e2,c⟩,r⟩
 |own y=>obtain⟨ob,e⟩:=x; exact⟨ob,k _ _ (.inl rfl) e⟩
 |xd fs=>obtain⟨mA,⟨od,es,ep,e,c⟩,r⟩:=x; exact⟨mA,⟨od,es,ep,k _ _ (.inl rfl) e,c⟩,r⟩
 |rng lo hi=>obtain⟨t,u,v,e⟩:=x; exact⟨t,u,v,k _ _ (.inl rfl) e⟩
 |frz ob u ih=>obtain⟨e,q⟩:=x; exact⟨k _ _ (.inl rfl) e,ih q⟩
 |tbl l=>
   obtain⟨cl,ps,e,t,q⟩:=x;refine⟨cl,ps,k _ _ (.inl rfl) e,t,fun y hy=>?_⟩;rcases q y hy with z | ⟨c,z,hc,⟨c',o,vs,tt,ec,g,r⟩⟩
   ·exact .inl z
   ·cases ec;exact .inr ⟨c,z,ho _ hc,⟨c,o,vs,tt,rfl,k _ _ (.inr hc) g,r⟩⟩
 |met f y=>
   have e:h.get? a=some (PySem.W.methodObj (.ref f) (.ref y)):=x;show h'.get? a=some (PySem.W.methodObj (.ref f) (.ref y));exact k a _ (.inl rfl) e
 |ext φ=>obtain⟨p,⟨o,e⟩,st⟩:=x; exact⟨st _ _ p fun o q=>k _ _ (.inl rfl) q,⟨o,k _ _ (.inl rfl) e⟩,st⟩
theorem HOk.lt(x:HOk P w H h)(e:H a=some o):a < h.objs.size:=(x a o e).lt
theorem HOk.fresh(x:HOk P w H h)(e:h.objs.size≤a):H a=none:=by
 cases q:H a with
 |none=>rfl
 |some u=>exact absurd (Ac2 (x.lt q) e) (Ad1 _)
theorem HOk.kept(x:HOk P w H h)(k:∀ b u,h.get? b=some u→h'.get? b=some u):HOk P w H h':=fun a o e=>
 (x a o e).stay (fun b u _ q=>k b u q) (fun _ q=>q) fun _ _ q=>q
theorem HOk.laid(x:HOk P w H h)(k:∀ b u,h.get? b=some u→h'.get? b=some u)(hp:h.objs.size≤a)(new:ObjOk P w (upd H a o) h' a o):HOk P w (upd H a o) h':=fun b u e=>by
 have hn:=x.fresh hp;by_cases hb:b=a
 ·subst hb; rw[ab3] at e; cases e; exact new
 ·rw[ab0 hb] at e;exact(x b u e).stay (fun c v _ q=>k c v q) (fun c q=>by rw[ab0 (ac0 q hn)]; exact q) fun c xs q=>by rw[ab0 (ac0 q hn)]; exact q
end
def Rd(H:Hp)(a:Addr)(u:HO):Prop:=H a=some u∨∃ o,H a=some (.frz o u)
theorem Rd.ok{P:Program}{w:World}{H:Hp}{h:Heap}{a:Addr}{u:HO}(r:Rd H a u)(x:HOk P w H h):ObjOk P w H h a u:=by
 rcases r with r | ⟨o,r⟩
 ·exact x a u r
 ·obtain⟨_,q⟩:=x a _ r;exact q
def Mut:Option HO→Prop
 |some (.lst _)=>True
 |some (.dK _)=>True
 |some (.dT _)=>True
 |some (.set _ _)=>True
 |some (.ins _ _ _)=>True
 |some (.ext _)=>True
 |_=>False
section
variable{P:Program}{w:World}{H:Hp}{h h':Heap}{x e:Addr}{o':HO}
theorem HOk.write(ok:HOk P w H h)(mu:Mut (H x))(he:e=x∨H e=some (.own x))(k:∀ b u,b≠e→h.get? b=some u→h'.get? b=some u)(heo:∃ u,h'.get? e=some u)
 (new:ObjOk P w (upd H x o') h' x o'):HOk P w (upd H x o') h':=fun b u q=>by
 have nown:∀ c y,H c=some (.own y)→c≠x:=fun c y r z=>by subst z; rw[r] at mu; exact mu
 have ntup:∀ c xs,H c=some (.tup xs)→c≠x:=fun c xs r z=>by subst z; rw[r] at mu; exact mu
 by_cases hb:b=x
 ·subst hb; rw[ab3] at q; cases q; exact new
 · rw[ab0 hb] at q;by_cases hbe:b=e
   · have q':H b=some (.own x):=by
      rcases he with z | z
      ·exact absurd (hbe.trans z) hb
      ·rw[hbe]; exact z
     rw[q] at q'; cases q';obtain⟨v,hv⟩:=heo;exact⟨v,by rw[hbe]; exact hv⟩
   · refine(ok b u q).stay (fun c v hc r=>k c v ?_ r) (fun c r=>by rw[ab0 (nown c b r)]; exact r) fun c xs r=>by rw[ab0 (ntup c xs r)]; exact r
     rcases hc with rfl | hc
     ·exact hbe
     · rintro rfl;rcases he with z | z
       ·exact nown c b hc z
       ·rw[hc] at z; cases z; exact hb rfl
end
structure Un (fs ex:List Addr) (H H':Hp) (h h':Heap):Prop where
 keep:∀ b o,h.get? b=some o→H b=none→b∉fs→b∉ex→h'.get? b=some o
 slot:∀ b o,h.get? b=some o→H b=none→b∈fs→b∉ex→∃ sl,h'.get? b=some { o with slots:=sl }
 free:∀ b o,h.get? b=some o→H b=none→b∉ex→H' b=none
 there:∀ b o,h.get? b=some o→b∉ex→∃ o',h'.get? b=some o'
 tups:∀ b xs,H b=some (.tup xs)→H' b=some (.tup xs)
 frzs:∀ b o u,H b=some (.frz o u)→H' b=some (.frz o u)
 tbls:∀ b l,H b=some (.tbl l)→H' b=some (.tbl l)∧∀ c o,H c=some (.own b)→h.get? c=some o→H' c=some (.own b)∧h'.get? c=some o
section
variable{fs fs' ex ex':List Addr}{H H1 H2:Hp}{h h1 h2 h':Heap}{a x e:Addr}{o:HO}
theorem Un.any(u:Un fs ex H H1 h h1){b:Addr}{ob:Obj}(q:h.get? b=some ob)(n:H b=none)(hx:b∉ex):∃ sl,h1.get? b=some { ob with slots:=sl }:=by
 by_cases hb:b∈fs
 ·exact u.slot b ob q n hb hx
 ·exact⟨ob.slots,u.keep b ob q n hb hx⟩
theorem Un.kept(k:∀ b u,h.get? b=some u→h'.get? b=some u):Un fs ex H H h h':=
 ⟨fun b ob q _ _ _=>k b ob q,fun b ob q _ _ _=>⟨ob.slots,k b ob q⟩,fun _ _ _ n _=>n,fun b ob q _=>⟨ob,k b ob q⟩,fun _ _ q=>q,fun _ _ _ q=>q,fun _ _ q=>⟨q,fun c o e1 e2=>⟨e1,k c o e2⟩⟩⟩
theorem Un.refl:Un fs ex H H h h:=Un.kept fun _ _ q=>q
theorem Un.laid(k:∀ b u,h.get? b=some u→h'.get? b=some u)(hp:h.objs.size≤a)(hn:H a=none):Un fs ex H (upd H a o) h h' where
 keep:=fun b u q _ _ _=>k b u q
 slot:=fun b u q _ _ _=>⟨u.slots,k b u q⟩
 free:=fun b u q n _=>by rw[ab0 (Ac5 (Ac2 (Ab3 q) hp))]; exact n
 there:=fun b u q _=>⟨u,k b u q⟩
 tups:=fun b xs q=>by rw[ab0 (ac0 q hn)]; exact q
 frzs:=fun b u xs q=>by rw[ab0 (ac0 q hn)]; exact q
 tbls:=fun b xs q=>⟨by rw[ab0 (ac0 q hn)]; exact q,fun c o e1 e2=>⟨by rw[ab0 (ac0 e1 hn)]; exact e1,k c o e2⟩⟩
theorem Un.write(mu:Mut (H x))(he:e=x∨H e=some (.own x))(k:∀ b u,b≠e→h.get? b=some u→h'.get? b=some u)(heo:∃ u,h'.get? e=some u):Un fs ex H (upd H x o) h h':=by
 have hx:∀ b,H b=none→b≠x:=fun b n z=>by subst z; rw[n] at mu; exact mu
 have hb:∀ b,H b=none→b≠e:=fun b n z=>by
  subst z;rcases he with r | r
  ·exact hx b n r
  ·rw[n] at r; cases r
 have hm:∀ b u,H b=some u→¬ Mut (some u)→b≠x:=fun b u q nm z=>by subst z; rw[q] at mu; exact nm mu
 refine⟨fun b u q n _ _=>k b u (hb b n) q,fun b u q n _ _=>⟨u.slots,k b u (hb b n) q⟩,fun b u q n _=>by rw[ab0 (hx b n)]; exact n,fun b u q _=>?_,
  fun b xs q=>by rw[ab0 (hm b _ q fun z=>z)]; exact q,fun b u xs q=>by rw[ab0 (hm b _ q fun z=>z)]; exact q,fun b ps q=>⟨by rw[ab0 (hm b _ q fun z=>z)]; exact q,fun c o e1 e2=>⟨by rw[ab0 (hm c _ e1 fun z=>z)]; exact e1,k c o (fun z=>by
   rcases he with r | r
   ·exact hm c _ e1 (fun z=>z) (z.trans r)
   ·rw[← z,e1] at r; cases r; rw[q] at mu; exact mu) e2⟩⟩⟩
 by_cases hbe:b=e
 ·subst hbe; exact heo
 ·exact⟨u,k b u hbe q⟩
end
def trk(h:Heap)(H:Hp):List Addr:=(List.range h.objs.size).filter fun a=>(H a).isSome
def hidT(h:Heap)(H:Hp):Heap:=PySem.W.hideAll h (trk h H)
theorem bu3(h:Heap)(H:Hp):(hidT h H).objs.size=h.objs.size:=PySem.W.hideAll_size _ _
theorem bL1{h:Heap}{H:Hp}{b:Addr}{o:Obj}(e:h.get? b=some o)(n:H b=none):(hidT h H).get? b=some o:=
 PySem.W.hideAll_get _ e fun hm=>by
  have q:(H b).isSome=true:=(List.mem_filter.mp hm).2;rw[n] at q; simp at q
theorem ch1{h:Heap}{H:Hp}{b:Addr}{o:Obj}(e:(hidT h H).get? b=some o):h.get? b=some o∧H b=none:=by
 have e':h.get? b=some o:=PySem.W.of_hideAll (trk h H) e;refine⟨e',?_⟩;cases q:H b with
 |none=>rfl
 |some x=>
   have hm:b∈trk h H:=List.mem_filter.mpr ⟨List.mem_range.mpr (Ab3 e'),by simp[q]⟩;have z:(hidT h H).get? b=none:=PySem.W.hideAll_none (trk h H) hm;rw[z] at e; cases e
def cr1(g h:Heap)(L:Addr):List (Addr×Obj):=(List.range h.objs.size).filterMap fun a=>if a=L∨(g.get? a).isSome=true then none else (h.get? a).map fun o=>(a,o)
def rest(g h:Heap)(L d:Addr):List (Addr×Obj):=(cr1 g h L).filter fun p=>decide (p.1≠d)
structure Mod (K:PySem.W.Frag) (mg:Str→Option Value) (base:Heap):Prop where
 kin:K.In base
 glob:base.Ns mainGlobals mg
 blt:∃ mb,base.Ns builtinsNs mb∧∀ x:Str,x ≠ "__name__" → mb x=bootBuiltins x
 nolimit:base.NoLimit
 bmod:∃ bm o,mg "__builtins__" = some (.ref bm)∧bm≠builtinsNs∧base.get? bm=some o∧o.cls= .type "module" ∧ o.dict=some builtinsNs∧o.data= .plain
structure Cx where
 prog:Program
 w:World
 K:PySem.W.Frag
 mg:Str→Option Value
 base:Heap
 A:Around
 N:List Str
 s₀:Shared
 H₀:Hp
 env:Env
 outer:List Env
 stack:List Env
 ex:List Addr
 fn:Str→Bool
 calm:Bool
 pn:List (Addr×Obj)
 xe:Value→Shared→Prop
def frs(l:List Env):List Addr:=l.filterMap (·.frame)
abbrev Cx.fs(X:Cx):List Addr:=frs X.outer
def Vis(sc:Scope)(x:Str):Prop:=sc.names.lookup x=some .local∨sc.names.lookup x=some .cell∨sc.names.lookup x=some .free
def Loc(sc:Scope)(x:Str):Prop:=sc.names.lookup x=some .local∨sc.names.lookup x=some .cell
def Look(env:Env)(h:Heap)(m:Str→Option Value)(x:Str)(u:Value):Prop:=
 (env.kindOf x=some .local∧m x=some u)∨((env.kindOf x=some .cell∨env.kindOf x=some .free)∧∃ c,env.cells.lookup x=some c∧h.IsCell c (some u))
structure Cx.Ok (X:Cx):Prop where
 mod:Mod X.K X.mg X.base
 kind:X.env.scope.kind= .function
 glob:X.env.globals=mainGlobals
 blt:X.env.builtins=builtinsNs
 above:X.s₀.heap.objs.size≤X.env.locals
 inj:∀ x y c,X.env.cells.lookup x=some c→X.env.cells.lookup y=some c→x=y
 has:∀ x,(X.env.kindOf x=some .cell∨X.env.kindOf x=some .free)→∃ c,X.env.cells.lookup x=some c
 cab:∀ x c,X.fn x=true→X.env.cells.lookup x=some c→X.s₀.heap.objs.size≤c
 hd:X.calm=true→X.A.handled=none
 frames:X.A.frames=some X.stack
 stk:X.stack=X.outer∨(X.stack=X.env :: X.outer∧X.env.frame=some X.env.locals)
 exf:∀ b∈X.ex,b≠X.env.locals∧∀ x c,X.env.cells.lookup x=some c→c≠b
 bs:∀ b o,X.base.get? b=some o→X.s₀.heap.get? b=some o∧X.H₀ b=none
 bsz:X.base.objs.size≤X.s₀.heap.objs.size
 noex:∀ b o,X.base.get? b=some o→b∉X.ex
 exfs:∀ b∈X.ex,b∉X.fs
 funs:X.s₀.heap.FunFrames X.base X.outer
 frf:∀ b∈X.fs,X.H₀ b=none
structure Inv (X:Cx) (pins:List (Addr×Obj)) (σ:List (Option V)) (H:Hp) (s:Shared):Prop where
 ok:X.Ok
 os:s.os=X.s₀.os
 bare:AllBare s.gens
 base:Un X.fs X.ex X.H₀ H X.s₀.heap s.heap
 loc:∃ m,s.heap.Ns X.env.locals m∧∀ (i:Nat) (x:Str) (v:V),X.N[i]?=some x→σ[i]?=some (some v)→Vis X.env.scope x→∃ u,RelV v u∧Look X.env s.heap m x u
 cell:∀ x c,X.env.cells.lookup x=some c→∃ v,s.heap.IsCell c v
 free:H X.env.locals=none
 freeC:∀ x c,X.env.cells.lookup x=some c→H c=none
 pin:∀ p∈X.pn ++ pins,s.heap.get? p.1=some p.2∧H p.1=none∧p.1≠X.env.locals∧p.1∉X.fs∧∀ v,p.2.data≠ .cell v
 hok:HOk X.prog X.w H s.heap
 len:σ.length=X.N.length
section
variable{X:Cx}{pins:List (Addr×Obj)}{σ:List (Option V)}{H H':Hp}{s:Shared}{h':Heap}
theorem Cx.Ok.nofr(ok:X.Ok){b:Addr}{o:Obj}(e:X.base.get? b=some o):b∉X.fs:=fun hb=>by
 have:=(ok.funs.mem hb).1
 rw[e] at this; cases this
theorem Inv.bs(I:Inv X pins σ H s):∀ b o,X.base.get? b=some o→s.heap.get? b=some o∧H b=none:=fun b o e=>
 ⟨I.base.keep b o (I.ok.bs b o e).1 (I.ok.bs b o e).2 (I.ok.nofr e) (I.ok.noex b o e),I.base.free b o (I.ok.bs b o e).1 (I.ok.bs b o e).2 (I.ok.noex b o e)⟩
theorem Inv.bk(I:Inv X pins σ H s):∀ b o,X.base.get? b=some o→s.heap.get? b=some o:=fun b o e=>(I.bs b o e).1
theorem Inv.mod(I:Inv X pins σ H s):Mod X.K X.mg X.base:=I.ok.mod
theorem Inv.kIn(I:Inv X pins σ H s):X.K.In s.heap:=I.ok.mod.kin.keeps I.bk
theorem Inv.nolimit(I:Inv X pins σ H s):s.heap.NoLimit:=I.ok.mod.nolimit.keeps I.bk
theorem Inv.fr(I:Inv X pins σ H s):∃ m,Fr X.base X.env.locals s.heap m:=
 let ⟨m,hn,_⟩:=I.loc
 ⟨m,hn,I.bk,Ae3 I.ok.bsz I.ok.above⟩
theorem Inv.lt(I:Inv X pins σ H s):X.env.locals < s.heap.objs.size:=let ⟨_,hn,_⟩:=I.loc; hn.lt
theorem Inv.sz(I:Inv X pins σ H s):X.s₀.heap.objs.size≤s.heap.objs.size:=Ae3 I.ok.above (Ah0 I.lt)
theorem Inv.nofs(I:Inv X pins σ H s){a:Addr}(h:s.heap.objs.size≤a):a∉X.fs:=fun hb=>by
 obtain⟨_,o,ho,_⟩:=I.ok.funs.mem hb;exact absurd (Ac2 (Ab3 ho) (Ae3 I.sz h)) (Ad1 _)
theorem Inv.cne(I:Inv X pins σ H s):∀ x c,X.env.cells.lookup x=some c→c≠X.env.locals:=fun x c e z=>by
 obtain⟨v,o,ho,hd⟩:=I.cell x c e;obtain⟨m,⟨o',es,ep,ho',hd',_⟩,_⟩:=I.loc;rw[z,ho'] at ho; cases ho; rw[hd'] at hd; cases hd
theorem Inv.funs(I:Inv X pins σ H s):s.heap.FunFrames X.base X.outer:=by
 have all:∀ (l:List Env),(∀ b∈frs l,b∈X.fs)→X.s₀.heap.FunFrames X.base l→s.heap.FunFrames X.base l:=by
  intro l
  induction l with
  |nil=>intro _ _; trivial
  |cons env r ih=>
    intro hs hl;obtain⟨hk,⟨L,o,hf,hn,ho,hd⟩,hr⟩:=hl;have hL:L∈X.fs:=hs L (by unfold frs; rw[List.filterMap_cons,hf]; exact List.mem_cons_self);obtain⟨sl,e⟩:=I.base.slot L o ho (I.ok.frf L hL) hL fun z=>I.ok.exfs L z hL;exact⟨hk,⟨L,_,hf,hn,e,hd⟩,ih (fun b hb=>hs b (by unfold frs; rw[List.filterMap_cons,hf]; exact List.mem_cons_of_mem _ hb)) hr⟩
 exact all X.outer (fun _ hb=>hb) I.ok.funs
theorem Inv.stack(I:Inv X pins σ H s):s.heap.FunFrames X.base X.stack:=by
 rcases I.ok.stk with e | ⟨e,hf⟩
 ·rw[e]; exact I.funs
 ·rw[e];obtain⟨m,hn,_⟩:=I.loc;refine .cons (by rw[I.ok.kind]; decide) hf hn ?_ I.funs;exact Heap.get?_none_of_le (Ae3 I.ok.bsz I.ok.above)
theorem Inv.stkSub(I:Inv X pins σ H s):∀ b∈frs X.stack,b∈X.env.locals :: X.fs:=fun b hb=>by
 rcases I.ok.stk with e | ⟨e,hf⟩
 ·rw[e] at hb; exact Aa4 _ hb
 ·rw[e] at hb;unfold frs at hb;rw[List.filterMap_cons,hf] at hb;exact hb
theorem Inv.stkFree(I:Inv X pins σ H s):∀ b∈frs X.stack,H b=none:=fun b hb=>by
 rcases List.mem_cons.mp (I.stkSub b hb) with e | hb
 ·rw[e]; exact I.free
 ·obtain⟨_,o,ho,_⟩:=I.ok.funs.mem hb;exact I.base.free b o ho (I.ok.frf b hb) fun z=>I.ok.exfs b z hb
theorem Inv.step{g':Array GenState}{t':Nat}{d':Drawn}{ch:List Addr}(I:Inv X pins σ H s)
 (hch:∀ b∈ch,(b∈X.ex∨X.s₀.heap.objs.size≤b)∧b≠X.env.locals∧(∀ x c,X.env.cells.lookup x=some c→c≠b)∧∀ p∈X.pn ++ pins,p.1≠b)
 (keep:∀ b o,b≠X.env.locals→b∉X.fs→b∉ch→s.heap.get? b=some o→H b=none→h'.get? b=some o)
 (slot:∀ b o,b≠X.env.locals→b∈X.fs→b∉ch→s.heap.get? b=some o→H b=none→∃ sl,h'.get? b=some { o with slots:=sl }) (free:∀ b o,b∉ch→s.heap.get? b=some o→H b=none→H' b=none)
 (there:∀ b o,b∉ch→s.heap.get? b=some o→∃ o',h'.get? b=some o')
 (tups:∀ b xs,H b=some (.tup xs)→H' b=some (.tup xs)) (frzs:∀ b o u,H b=some (.frz o u)→H' b=some (.frz o u)) (tbls:∀ b l,H b=some (.tbl l)→H' b=some (.tbl l)∧∀ c o,H c=some (.own b)→s.heap.get? c=some o→H' c=some (.own b)∧h'.get? c=some o)
 (ns:∀ m,s.heap.Ns X.env.locals m→h'.Ns X.env.locals m) (hok:HOk X.prog X.w H' h') (hg:AllBare g'):
 Inv X pins σ H' { s with heap:=h',gens:=g',drawn:=d',toks:=t' }:=by
 have neL:∀ b o,X.s₀.heap.get? b=some o→b≠X.env.locals:=fun b o e=>Ac5 (Ac2 (Ab3 e) I.ok.above)
 have neC:∀ b o,X.s₀.heap.get? b=some o→b∉X.ex→b∉ch:=fun b o e hx hb=>by
  rcases(hch b hb).1 with z | z
  ·exact hx z
  ·exact absurd (Ac2 (Ab3 e) z) (Ad1 _)
 have cellK:∀ x c,X.env.cells.lookup x=some c→∀ v,s.heap.IsCell c v→h'.IsCell c v:=fun x c e v ⟨o,ho,hd⟩=>by
  have nch:c∉ch:=fun z=>(hch c z).2.2.1 x c e rfl;by_cases hc:c∈X.fs
  ·obtain⟨sl,q⟩:=slot c o (I.cne x c e) hc nch ho (I.freeC x c e);exact⟨_,q,hd⟩
  ·exact⟨o,keep c o (I.cne x c e) hc nch ho (I.freeC x c e),hd⟩
 refine⟨I.ok,I.os,hg,⟨fun b o e n hb hx=>?_,fun b o e n hb hx=>?_,fun b o e n hx=>?_,fun b o e hx=>?_,fun b xs e=>tups b xs (I.base.tups b xs e),fun b o xs e=>frzs b o xs (I.base.frzs b o xs e),fun b ps e=>⟨(tbls b ps (I.base.tbls b ps e).1).1,fun c o e1 e2=>let ⟨f1,f2⟩:=(I.base.tbls b ps e).2 c o e1 e2; (tbls b ps (I.base.tbls b ps e).1).2 c o f1 f2⟩⟩,?_,fun x c e=>?_,?_,fun x c e=>?_,fun p hp=>?_,hok,I.len⟩
 ·exact keep b o (neL b o e) hb (neC b o e hx) (I.base.keep b o e n hb hx) (I.base.free b o e n hx)
 ·obtain⟨sl,e1⟩:=I.base.slot b o e n hb hx;obtain⟨sl',e2⟩:=slot b _ (neL b o e) hb (neC b o e hx) e1 (I.base.free b o e n hx);exact⟨sl',e2⟩
 ·obtain⟨o',e1⟩:=I.base.there b o e hx;exact free b o' (neC b o e hx) e1 (I.base.free b o e n hx)
 ·obtain⟨o',e1⟩:=I.base.there b o e hx;exact there b o' (neC b o e hx) e1
 · obtain⟨m,hn,hl⟩:=I.loc;refine⟨m,ns m hn,fun i x v e1 e2 e3=>?_⟩;obtain⟨u,r,l⟩:=hl i x v e1 e2 e3;refine⟨u,r,?_⟩;rcases l with l | ⟨k,c,e,z⟩
   ·exact .inl l
   ·exact .inr ⟨k,c,e,cellK x c e _ z⟩
 ·obtain⟨v,z⟩:=I.cell x c e;exact⟨v,cellK x c e v z⟩
 ·obtain⟨m,⟨o,_,_,ho,_⟩,_⟩:=I.loc;exact free _ o (fun z=>(hch _ z).2.1 rfl) ho I.free
 ·obtain⟨v,o,ho,hd⟩:=I.cell x c e;exact free c o (fun z=>(hch c z).2.2.1 x c e rfl) ho (I.freeC x c e)
 ·obtain⟨e,n,ne,nf,d⟩:=I.pin p hp;have nch:p.1∉ch:=fun z=>(hch p.1 z).2.2.2 p hp rfl;exact⟨keep p.1 p.2 ne nf nch e n,free p.1 p.2 nch e n,ne,nf,d⟩
theorem Inv.un{t':Nat}(I:Inv X pins σ H s)(u:Un X.fs [] H H' s.heap h')(hok:HOk X.prog X.w H' h'):Inv X pins σ H' { s with heap:=h',toks:=t' }:=by
 obtain⟨m,⟨o,es,ep,ho,r⟩,_⟩:=id I.loc;obtain⟨sl,hL⟩:=u.any ho I.free (by simp)
 exact I.step (g':=s.gens) (d':=s.drawn) (ch:=[]) (fun _ z=>nomatch z) (fun b o _ hb _ e n=>u.keep b o e n hb (by simp)) (fun b o _ hb _ e n=>u.slot b o e n hb (by simp)) (fun b o _ e n=>u.free b o e n (by simp)) (fun b o _ e=>u.there b o e (by simp)) u.tups u.frzs u.tbls (fun m' hm=>by
  obtain⟨o',es',ep',ho',r'⟩:=hm;rw[ho] at ho'; cases ho'
  exact⟨_,es',ep',hL,r'⟩) hok I.bare
theorem Inv.call{g':Array GenState}{t':Nat}{d':Drawn}{ch:List Addr}(I:Inv X pins σ H s)(u:Un (frs X.stack) ch H H' s.heap h')(hok:HOk X.prog X.w H' h')(hg:AllBare g')
 (hch:∀ b∈ch,(b∈X.ex∨X.s₀.heap.objs.size≤b)∧b≠X.env.locals∧(∀ x c,X.env.cells.lookup x=some c→c≠b)∧∀ p∈X.pn ++ pins,p.1≠b):
 Inv X pins σ H' { s with heap:=h',gens:=g',drawn:=d',toks:=t' }:=by
 obtain⟨m,⟨o,es,ep,ho,r⟩,_⟩:=id I.loc;obtain⟨sl,hL⟩:=u.any ho I.free fun z=>(hch _ z).2.1 rfl
 exact I.step (ch:=ch) hch (fun b o hL hb hc e n=>u.keep b o e n (fun z=>(List.mem_cons.mp (I.stkSub b z)).elim hL hb) hc) (fun b o _ _ hc e n=>u.any e n hc) (fun b o hc e n=>u.free b o e n hc) (fun b o hc e=>u.there b o e hc) u.tups u.frzs u.tbls (fun m' hm=>by
  obtain⟨o',es',ep',ho',r'⟩:=hm;rw[ho] at ho'; cases ho'
  exact⟨_,es',ep',hL,r'⟩) hok hg
theorem Inv.turned{t':Nat}{it:Addr}(I:Inv X pins σ H s)(k:∀ b o,b≠it→s.heap.get? b=some o→h'.get? b=some o)(hn:H it=none)(hL:it≠X.env.locals)
 (h1:it∈X.ex∨X.s₀.heap.objs.size≤it) (h2:∀ x c,X.env.cells.lookup x=some c→c≠it) (h3:∀ p∈X.pn ++ pins,p.1≠it):Inv X pins σ H { s with heap:=h',toks:=t' }:=by
 have nit:∀ b u,H b=some u→b≠it:=fun b u e z=>by rw[z,hn] at e; cases e
 refine I.step (g':=s.gens) (d':=s.drawn) (ch:=[it]) (fun b hb=>?_) (fun b o _ _ hc e _=>k b o (fun z=>hc (by simp[z])) e) (fun b o _ _ hc e _=>⟨o.slots,k b o (fun z=>hc (by simp[z])) e⟩) (fun _ _ _ _ n=>n)
  (fun b o hc e=>⟨o,k b o (fun z=>hc (by simp[z])) e⟩) (fun _ _ e=>e) (fun _ _ _ e=>e) (fun _ _ e=>⟨e,fun c o e1 e2=>⟨e1,k c o (ac0 e1 hn) e2⟩⟩) (fun m hm=>?_) (fun b u e=>?_) I.bare
 · have e:b=it:=by simpa using hb
   subst e;exact⟨h1,hL,h2,h3⟩
 ·obtain⟨o,es,ep,ho,r⟩:=hm;exact⟨o,es,ep,k _ o (Ai1 hL) ho,r⟩
 · refine(I.hok b u e).stay (fun c v hc q=>k c v ?_ q) (fun _ q=>q) fun _ _ q=>q;rcases hc with z | z
   ·rw[z]; exact nit b u e
   ·exact nit c _ z
theorem Inv.tok(I:Inv X pins σ H s)(t:Nat):Inv X pins σ H { s with toks:=t }:=I.un (h':=s.heap) (t':=t) Un.refl I.hok
theorem Inv.kept{t':Nat}(I:Inv X pins σ H s)(k:∀ b u,s.heap.get? b=some u→h'.get? b=some u):Inv X pins σ H { s with heap:=h',toks:=t' }:=I.un (Un.kept k) (I.hok.kept k)
theorem Inv.laid{a:Addr}{o:HO}{t':Nat}(I:Inv X pins σ H s)(k:∀ b u,s.heap.get? b=some u→h'.get? b=some u)(hp:s.heap.objs.size≤a)(new:ObjOk X.prog X.w (upd H a o) h' a o):
 Inv X pins σ (upd H a o) { s with heap:=h',toks:=t' }:=I.un (Un.laid k hp (I.hok.fresh hp)) (I.hok.laid k hp new)
theorem Inv.write{x e:Addr}{o:HO}{t':Nat}(I:Inv X pins σ H s)(mu:Mut (H x))(he:e=x∨H e=some (.own x))(k:∀ b u,b≠e→s.heap.get? b=some u→h'.get? b=some u)(heo:∃ u,h'.get? e=some u)
 (new:ObjOk X.prog X.w (upd H x o) h' x o):Inv X pins σ (upd H x o) { s with heap:=h',toks:=t' }:=I.un (Un.write mu he k heo) (I.hok.write mu he k heo new)
theorem Inv.pins_of{pins':List (Addr×Obj)}(I:Inv X pins σ H s)(h:∀ p∈pins',s.heap.get? p.1=some p.2∧H p.1=none∧p.1≠X.env.locals∧p.1∉X.fs∧∀ v,p.2.data≠ .cell v):Inv X pins' σ H s:=
 ⟨I.ok,I.os,I.bare,I.base,I.loc,I.cell,I.free,I.freeC,fun p hp=>(List.mem_append.mp hp).elim (fun z=>I.pin p (Ab9 _ z)) (h p),I.hok,I.len⟩
theorem bb9{N:List Str}(hN:N.Nodup){i j:Nat}{x:Str}(a:N[i]?=some x)(b:N[j]?=some x):i=j:=by
 obtain⟨h1,e1⟩:=List.getElem?_eq_some_iff.mp a;obtain⟨h2,e2⟩:=List.getElem?_eq_some_iff.mp b;exact(List.getElem_inj hN).mp (e1.trans e2.symm)
theorem bl1{M:Model}{A:Around}{E:Value→Shared→Prop}{i:Nat}{x:Str}{v:V}{u:Value}{Q:Unit→Shared→Prop}(I:Inv X pins σ H s)(hN:X.N.Nodup)(hi:X.N[i]?=some x)(hx:Loc X.env.scope x)(r:RelV v u)
 (h:∀ s',Inv X pins (σ.set i (some v)) H s'→(∃ a,Heap.SameBut a s.heap s'.heap∧(a=X.env.locals∨X.env.cells.lookup x=some a))→Q () s') (hf:X.fn x=true∨X.env.scope.names.lookup x=some .local:=by first | exact .inl rfl | exact .inr rfl | assumption):wpAny M A (storeName X.env x u) Q E s:=by
 obtain⟨m,hn,hl⟩:=id I.loc;have hcls:(X.env.scope.kind == .class || (X.env.scope.kind == .module && X.env.locals != X.env.globals))=false:=by rw[I.ok.kind]; rfl
 have hiσ:i < σ.length:=by rw[I.len]; exact(List.getElem?_eq_some_iff.mp hi).1
 have cne:=I.cne
 have tracked:∀ {a:Addr} {h':Heap},(∃ o,s.heap.get? a=some o∧H a=none)→Heap.SameBut a s.heap h'→HOk X.prog X.w H h':=fun {a h'} ha hs b ob e=>by
  obtain⟨_,_,hfree⟩:=ha;refine(I.hok b ob e).stay (fun c w' hc q=>(hs.2 c ?_).trans q) (fun _ q=>q) fun _ _ q=>q;rintro rfl;rcases hc with rfl | hc
  ·rw[hfree] at e; cases e
  ·rw[hfree] at hc; cases hc
 rcases hx with hk | hk
 · refine wpAny_storeName_local hk hn (fun h' hn' hs=>?_) hcls;obtain⟨oL,_,_,hoL,_⟩:=id hn;refine h _ ⟨I.ok,I.os,I.bare,⟨fun b o e n hb hx=>?_,fun b o e n hb hx=>?_,I.base.free,fun b o e hx=>?_,I.base.tups,I.base.frzs,fun b l q=>⟨(I.base.tbls b l q).1,fun c o e1 e2=>let ⟨f1,f2⟩:=(I.base.tbls b l q).2 c o e1 e2; ⟨f1,(hs.2 c (ac0 f1 I.free)).trans f2⟩⟩⟩,⟨_,hn',fun j y v' e1 e2 e3=>?_⟩,fun y c e=>?_,I.free,I.freeC,fun p hp=>?_,tracked ⟨oL,hoL,I.free⟩ hs,by simpa using I.len⟩ ⟨_,hs,.inl rfl⟩
   ·exact(hs.2 b (Ac5 (Ac2 (Ab3 e) I.ok.above))).trans (I.base.keep b o e n hb hx)
   ·obtain⟨sl,e1⟩:=I.base.slot b o e n hb hx;exact⟨sl,(hs.2 b (Ac5 (Ac2 (Ab3 e) I.ok.above))).trans e1⟩
   ·obtain⟨o',e1⟩:=I.base.there b o e hx;exact⟨o',(hs.2 b (Ac5 (Ac2 (Ab3 e) I.ok.above))).trans e1⟩
   · by_cases hj:j=i
     ·subst hj;rw[hi] at e1; cases e1;rw[Al6 hiσ] at e2;cases e2;exact⟨u,r,.inl ⟨hk,by simp⟩⟩
     · rw[List.getElem?_set_ne (Ai1 hj)] at e2;obtain⟨u',r',q⟩:=hl j y v' e1 e2 e3;refine⟨u',r',?_⟩;rcases q with ⟨k,e⟩ | ⟨k,c,e,z⟩
       · refine .inl ⟨k,?_⟩
         have:y≠x:=fun e=>hj (bb9 hN e1 (e ▸ hi))
         simp[this,e]
       ·exact .inr ⟨k,c,e,z.sameBut hs (cne y c e)⟩
   ·obtain⟨w',z⟩:=I.cell y c e;exact⟨w',z.sameBut hs (cne y c e)⟩
   ·obtain⟨e,n,ne,nf,d⟩:=I.pin p hp;exact⟨(hs.2 p.1 ne).trans e,n,ne,nf,d⟩
 · have hfn:X.fn x=true:=by
    rcases hf with z | z
    ·exact z
    ·rw[z] at hk; cases hk
   obtain⟨c,hc⟩:=I.ok.has x (.inl hk);obtain⟨w',z⟩:=I.cell x c hc;refine wpAny_storeName_cell I.ok.kind hk hc z (fun h' hc' hs=>?_);obtain⟨oc,hoc,hocd⟩:=id z;refine h { s with heap:=h' } ⟨I.ok,I.os,I.bare,⟨fun b o e n hb hx=>?_,fun b o e n hb hx=>?_,I.base.free,fun b o e hx=>?_,I.base.tups,I.base.frzs,fun b l q=>⟨(I.base.tbls b l q).1,fun c' o e1 e2=>let ⟨f1,f2⟩:=(I.base.tbls b l q).2 c' o e1 e2; ⟨f1,(hs.2 c' (ac0 f1 (I.freeC x c hc))).trans f2⟩⟩⟩,⟨m,hn.sameBut hs (Ai1 (cne x c hc)),fun j y v' e1 e2 e3=>?_⟩,fun y c' e=>?_,I.free,I.freeC,fun p hp=>?_,tracked ⟨oc,hoc,I.freeC x c hc⟩ hs,by simpa using I.len⟩ ⟨c,hs,.inr hc⟩
   ·exact(hs.2 b (Ac5 (Ac2 (Ab3 e) (I.ok.cab x c hfn hc)))).trans (I.base.keep b o e n hb hx)
   ·obtain⟨sl,e1⟩:=I.base.slot b o e n hb hx;exact⟨sl,(hs.2 b (Ac5 (Ac2 (Ab3 e) (I.ok.cab x c hfn hc)))).trans e1⟩
   ·obtain⟨o',e1⟩:=I.base.there b o e hx;exact⟨o',(hs.2 b (Ac5 (Ac2 (Ab3 e) (I.ok.cab x c hfn hc)))).trans e1⟩
   · by_cases hj:j=i
     ·subst hj;rw[hi] at e1; cases e1;rw[Al6 hiσ] at e2;cases e2;exact⟨u,r,.inr ⟨.inl hk,c,hc,hc'⟩⟩
     · rw[List.getElem?_set_ne (Ai1 hj)] at e2;obtain⟨u',r',q⟩:=hl j y v' e1 e2 e3;refine⟨u',r',?_⟩;rcases q with q | ⟨k,c',e,z'⟩
       ·exact .inl q
       ·refine .inr ⟨k,c',e,z'.sameBut hs ?_⟩;rintro rfl;exact hj (bb9 hN e1 (I.ok.inj _ _ _ e hc ▸ hi))
   · by_cases hcc:c'=c
     ·subst hcc; exact⟨_,hc'⟩
     ·obtain⟨w2,z2⟩:=I.cell y c' e;exact⟨w2,z2.sameBut hs hcc⟩
   ·obtain⟨e,n,ne,nf,d⟩:=I.pin p hp;refine⟨(hs.2 p.1 ?_).trans e,n,ne,nf,d⟩;intro q;rw[q,hoc] at e;have q':oc=p.2:=Ac1 e;exact d w' (by rw[← q']; exact hocd)
theorem aG4{M:Model}{A:Around}{E:Value→Shared→Prop}{i:Nat}{x:Str}{v:V}{u:Value}{Q:Unit→Shared→Prop}(I:Inv X pins σ H s)(hN:X.N.Nodup)(hi:X.N[i]?=some x)(hx:Loc X.env.scope x)(r:RelV v u)
 (h:∀ s',Inv X pins (σ.set i (some v)) H s'→Q () s') (hf:X.fn x=true∨X.env.scope.names.lookup x=some .local:=by first | exact .inl rfl | exact .inr rfl | assumption):wpAny M A (storeName X.env x u) Q E s:=
 bl1 I hN hi hx r (fun s' I' _=>h s' I') hf
theorem Inv.call'{s':Shared}{ch:List Addr}(I:Inv X pins σ H s)(ho:s'.os=s.os)(u:Un (frs X.stack) ch H H' s.heap s'.heap)(hok:HOk X.prog X.w H' s'.heap)(hg:AllBare s'.gens)
 (hch:∀ b∈ch,(b∈X.ex∨X.s₀.heap.objs.size≤b)∧b≠X.env.locals∧(∀ x c,X.env.cells.lookup x=some c→c≠b)∧∀ p∈X.pn ++ pins,p.1≠b):Inv X pins σ H' s':=by
 obtain⟨h',g',d',t',o'⟩:=s';have e:o'=s.os:=ho;subst e;exact I.call (g':=g') (t':=t') (d':=d') u hok hg hch
end
abbrev XK:=Value→Option Addr→Hp→Prop
abbrev St:=List (Option V)
abbrev VK:=V→Hp→Prop
abbrev TE:=St→Hp→VK→Prop
abbrev TT:=St→Hp→(Bool→Hp→Prop)→Prop
abbrev TA:=St→Hp→(List V→Hp→Prop)→Prop
structure Ends where
 nx:St→Hp→Prop
 rt:VK
 bk:St→Hp→Prop:=fun _ _=>False
 ct:St→Hp→Prop:=fun _ _=>False
abbrev TS:=Ends→St→Hp→Prop
def EP(X:Cx)(pins:List (Addr×Obj))(σ:St)(Q:VK)(u:Value)(s':Shared):Prop:=∃ v H',Inv X pins σ H' s'∧RelV v u∧Q v H'
def TP(X:Cx)(pins:List (Addr×Obj))(σ:St)(Q:Bool→Hp→Prop)(b:Bool)(s':Shared):Prop:=∃ H',Inv X pins σ H' s'∧Q b H'
def AP(X:Cx)(pins:List (Addr×Obj))(σ:St)(Q:List V→Hp→Prop)(us:List Value)(s':Shared):Prop:=∃ vs H',Inv X pins σ H' s'∧Vals vs us∧Q vs H'
def SP(X:Cx)(pins:List (Addr×Obj))(D:Ends)(f:Flow)(s':Shared):Prop:=
 match f with
 |.next=>∃ σ' H',Inv X pins σ' H' s'∧D.nx σ' H'
 |.brk=>∃ σ' H',Inv X pins σ' H' s'∧D.bk σ' H'
 |.cont=>∃ σ' H',Inv X pins σ' H' s'∧D.ct σ' H'
 |.ret u=>∃ v σ' H',Inv X pins σ' H' s'∧RelV v u∧D.rt v H'
def PE(X:Cx)(e:Expr)(t:TE):Prop:=
 ∀ (pins:List (Addr×Obj)) (s:Shared) (σ:St) (H:Hp) (Q:VK),Inv X pins σ H s→t σ H Q→wpAny (model X.prog X.w) X.A (eval e X.env) (EP X pins σ Q) X.xe s
def PT(X:Cx)(e:Expr)(t:TT):Prop:=
 ∀ (pins:List (Addr×Obj)) (s:Shared) (σ:St) (H:Hp) (Q:Bool→Hp→Prop),Inv X pins σ H s→t σ H Q→wpAny (model X.prog X.w) X.A (isTrue e X.env (eval e X.env)) (TP X pins σ Q) X.xe s
def PW(X:Cx)(e:Expr)(t:TT):Prop:=
 ∀ (whole:Sem Value) (pins:List (Addr×Obj)) (s:Shared) (σ:St) (H:Hp) (Q:Bool→Hp→Prop),Inv X pins σ H s→t σ H Q→wpAny (model X.prog X.w) X.A (isTrue e X.env whole) (TP X pins σ Q) X.xe s
theorem PW.pt{X:Cx}{e:Expr}{t:TT}(h:PW X e t):PT X e t:=h _
def PA(X:Cx)(es:List Expr)(t:TA):Prop:=
 ∀ (pos:Pos) (pins:List (Addr×Obj)) (s:Shared) (σ:St) (H:Hp) (Q:List V→Hp→Prop),Inv X pins σ H s→t σ H Q→wpAny (model X.prog X.w) X.A (spliced (backTo pos (starEach es X.env))) (AP X pins σ Q) X.xe s
def PS(X:Cx)(st:Stmt)(t:TS):Prop:=
 ∀ (pins:List (Addr×Obj)) (s:Shared) (σ:St) (H:Hp) (D:Ends),Inv X pins σ H s→t D σ H→wpAny (model X.prog X.w) X.A (exec st X.env) (SP X pins D) X.xe s
def PSs(X:Cx)(st:List Stmt)(t:TS):Prop:=
 ∀ (pins:List (Addr×Obj)) (s:Shared) (σ:St) (H:Hp) (D:Ends),Inv X pins σ H s→t D σ H→wpAny (model X.prog X.w) X.A (execs st X.env) (SP X pins D) X.xe s
theorem thn{α:Type}{t:Sem α}{Q Q':α→Shared→Prop}{M:Model}{A:Around}{E:Value→Shared→Prop}{s:Shared}(h:wpAny M A t Q E s)(hQ:∀ a s,Q a s→Q' a s):wpAny M A t Q' E s:=Al3 h hQ fun _ _ x=>x
section
variable{X:Cx}
def tVar(i:Nat):TE:=fun σ H Q=>∃ v,σ[i]?=some (some v)∧Q v H
def tC(v:V):TE:=fun _ H Q=>Q v H
theorem cw6{i:Nat}{x:Str}{pos:Pos}(hN:X.N[i]?=some x)(hv:Vis X.env.scope x)(hd:(x == ("__debug__" : Str))=false:=by decide)(hcd:(x == ("__classdict__" : Str))=false:=by decide):PE X (.Name x pos) (tVar i):=by
 intro pins s σ H Q I h;obtain⟨v,e,h⟩:=h;obtain⟨m,hn,hl⟩:=I.loc;obtain⟨u,r,l⟩:=hl i x v hN e hv;have fin:EP X pins σ Q u s:=⟨v,H,I,r,h⟩;rcases l with ⟨hk,hm⟩ | ⟨hk,c,hc,hcell⟩
 ·exact wpAny_Name (wpAny_loadName_local I.ok.kind hk hn hm fin) hd
 · rcases hk with hk | hk
   ·exact wpAny_Name (wpAny_loadName_cell I.ok.kind hk hc hcell fin) hd
   ·exact wpAny_Name (wpAny_loadName_free I.ok.kind hk hc hcell fin hcd) hd
theorem ab4{i j pos}:PE X (.Constant (.int i) j pos) (tC (.int i)):=fun _ _ _ H _ I h=>wpAny_Constant_int ⟨.int i,H,I.tok _,⟨_,rfl⟩,h⟩
theorem aT3{b j pos}:PE X (.Constant (.bool b) j pos) (tC (.bl b)):=fun _ _ _ H _ I h=>Constant_bool ⟨.bl b,H,I,rfl,h⟩
theorem ar1{j pos}:PE X (.Constant .none j pos) (tC .non):=fun _ _ _ H _ I h=>Constant_none ⟨.non,H,I,rfl,h⟩
def Gl(X:Cx)(x:Str):Prop:=X.env.kindOf x=some .globalImplicit
theorem aU1{E:Value→Shared→Prop}{pins:List (Addr×Obj)}{s:Shared}{σ:St}{H:Hp}{x:Str}{u:Value}{pos:Pos}{Q:Value→Shared→Prop}(I:Inv X pins σ H s)(hg:Gl X x)(hm:X.mg x=some u)(h:Q u s)
 (hd:(x == ("__debug__" : Str))=false:=by decide):wpAny (model X.prog X.w) X.A (eval (.Name x pos) X.env) Q E s:=
 Calls.Name_function_global I.ok.kind hg (Calls.loadGlobal_global (by rw[I.ok.glob]; exact I.mod.glob.keeps I.bk) hm h) hd
theorem az1{E:Value→Shared→Prop}{pins:List (Addr×Obj)}{s:Shared}{σ:St}{H:Hp}{x:Str}{u:Value}{pos:Pos}{Q:Value→Shared→Prop}(I:Inv X pins σ H s)(hg:Gl X x)(hm:X.mg x=none)(hv:bootBuiltins x=some u)(h:Q u s)
 (hn:x ≠ "__name__" := by decide) (hd:(x == ("__debug__" : Str))=false:=by decide):wpAny (model X.prog X.w) X.A (eval (.Name x pos) X.env) Q E s:=by
 obtain⟨mb,h1,h2⟩:=I.mod.blt;exact Calls.Name_function_global I.ok.kind hg (Calls.loadGlobal_builtin (by rw[I.ok.glob]; exact I.mod.glob.keeps I.bk) hm (by rw[I.ok.blt]; exact h1.keeps I.bk) ((h2 x hn).trans hv) h) hd
theorem aj4{x:Str}{v:V}{u:Value}{pos:Pos}(hg:Gl X x)(hm:X.mg x=some u)(r:RelV v u)(hd:(x == ("__debug__" : Str))=false:=by decide):PE X (.Name x pos) (tC v):=
 fun _ _ _ H _ I h=>aU1 I hg hm ⟨v,H,I,r,h⟩ hd
theorem bp7{x:Str}{v:V}{u:Value}{pos:Pos}(hg:Gl X x)(hm:X.mg x=none)(hv:bootBuiltins x=some u)(r:RelV v u)(hn:x ≠ "__name__" := by decide)(hd:(x == ("__debug__" : Str))=false:=by decide):PE X (.Name x pos) (tC v):=
 fun _ _ _ H _ I h=>az1 I hg hm hv ⟨v,H,I,r,h⟩ hn hd
variable{a b:Expr}{ta tb:TE}{pos:Pos}
def PC(X:Cx)(op:CmpOp)(a b:Expr)(t:TE):Prop:=
 ∀ (pins:List (Addr×Obj)) (s:Shared) (σ:St) (H:Hp) (Q:VK),Inv X pins σ H s→t σ H Q→
  wpAny (model X.prog X.w) X.A (eval a X.env) (fun v s₁=>wpAny (model X.prog X.w) X.A (eval b X.env) (fun u s₂=>wpAny (model X.prog X.w) X.A (compareOp op v u) (EP X pins σ Q) X.xe s₂) X.xe s₁) X.xe s
theorem bc1(b:Expr){op:CmpOp}(h:op≠ .In)(h2:op≠ .NotIn):behindInMarks op b=false:=by
 have e1:(op == CmpOp.In)=false:=by cases op <;> first | rfl | exact absurd rfl h
 have e2:(op == CmpOp.NotIn)=false:=by cases op <;> first | rfl | exact absurd rfl h2
 cases b <;> simp[behindInMarks,e1,e2]
def tB(t:TE):TT:=fun σ H Q=>t σ H fun x H1=>∃ c,x= .bl c∧Q c H1
theorem cw9{op:CmpOp}{t:TE}(h:PC X op a b t)(h1:behindInMarks op b=false:=by first | exact bc1 _ (by decide) (by decide) | rfl):PE X (.Compare a [op] [b] pos) t:=fun pins s σ H Q I hw=>wpAny_Compare1 (h pins s σ H Q I hw) h1
theorem bp2{op:CmpOp}{t:TE}(h:PC X op a b t)(h1:behindInMarks op b=false:=by first | exact bc1 _ (by decide) (by decide) | rfl):PT X (.Compare a [op] [b] pos) (tB t):=by
 intro pins s σ H Q I hw;refine wpAny_isTrue_Compare1 (thn (h pins s σ H _ I hw) fun v s1 h1=>thn h1 fun u s2 h2=>thn h2 fun c s3 ⟨x,H1,I1,r1,q1⟩=>?_) h1;obtain⟨d,rfl,q⟩:=q1;cases r1;exact Ae7 ⟨H1,I1,q⟩
theorem cw1{e:Expr}{t:TE}(h:PE X e t)(he:∀ whole,isTrue e X.env whole=(do let v ← whole; standAt e.pos; holding [v] (truthy v)):=by intro _; rfl):PT X e (tB t):=by
 intro pins s σ H Q I hw;refine isTrue_plain (thn (h pins s σ H _ I hw) fun v s1 ⟨x,H1,I1,r1,q1⟩=>?_) (he _);obtain⟨d,rfl,q⟩:=q1;cases r1;exact Ae7 ⟨H1,I1,q⟩
variable{tA tB':TT}{rest:List Expr}
def tAnd(t u:TT):TT:=fun σ H Q=>t σ H fun c H1=>if c=true then u σ H1 Q else Q false H1
def tOr(t u:TT):TT:=fun σ H Q=>t σ H fun c H1=>if c=true then Q true H1 else u σ H1 Q
theorem cf4(ha:PT X a tA):PW X (.BoolOp .And [a] pos) tA:=by
 intro wh pins s σ H Q I h;refine isTrue_and (thn (ha pins s σ H Q I h) fun c s1 e=>?_);cases c with
 |true=>exact isTrue_and_nil e
 |false=>exact e
theorem bp1(ha:PT X a tA):PW X (.BoolOp .Or [a] pos) tA:=by
 intro wh pins s σ H Q I h;refine isTrue_or (thn (ha pins s σ H Q I h) fun c s1 e=>?_);cases c with
 |false=>exact isTrue_or_nil e
 |true=>exact e
theorem cw0(ha:PT X a tA)(hb:PW X (.BoolOp .And (b :: rest) pos) tB'):PW X (.BoolOp .And (a :: b :: rest) pos) (tAnd tA tB'):=by
 intro wh pins s σ H Q I h;refine isTrue_and (thn (ha pins s σ H _ I h) fun c s1 ⟨H1,I1,q1⟩=>?_);cases c with
 |true=>exact hb wh pins s1 σ H1 Q I1 q1
 |false=>exact⟨H1,I1,q1⟩
theorem bH2(ha:PT X a tA)(hb:PW X (.BoolOp .Or (b :: rest) pos) tB'):PW X (.BoolOp .Or (a :: b :: rest) pos) (tOr tA tB'):=by
 intro wh pins s σ H Q I h;refine isTrue_or (thn (ha pins s σ H _ I h) fun c s1 ⟨H1,I1,q1⟩=>?_);cases c with
 |true=>exact⟨H1,I1,q1⟩
 |false=>exact hb wh pins s1 σ H1 Q I1 q1
def cs8(ta tb:TE):TE:=fun σ H Q=>ta σ H fun x H1=>∃ c,x= .bl c∧if c=true then tb σ H1 Q else Q (.bl false) H1
def cs4(ta:TE):TE:=fun σ H Q=>ta σ H fun x H1=>∃ c,x= .bl c∧Q (.bl (!c)) H1
theorem bR8{op}{t:TE}(h:PE X a t):PE X (.BoolOp op [a] pos) t:=fun pins s σ H Q I hw=>BoolOp_one (h pins s σ H Q I hw)
theorem bp8(ha:PE X a ta)(hb:PE X (.BoolOp .And (b :: rest) pos) tb):PE X (.BoolOp .And (a :: b :: rest) pos) (cs8 ta tb):=by
 intro pins s σ H Q I h;refine BoolOp_and (thn (ha pins s σ H _ I h) fun v s1 ⟨x,H1,I1,r1,q1⟩=>?_);obtain⟨c,rfl,q1⟩:=q1;cases r1;refine Ae7 ?_;cases c with
 |true=>exact hb pins s1 σ H1 Q I1 q1
 |false=>exact⟨.bl false,H1,I1,rfl,q1⟩
theorem bR9(ha:PE X a ta):PE X (.UnaryOp .Not a pos) (cs4 ta):=by
 intro pins s σ H Q I h;refine UnaryOp_ (thn (ha pins s σ H _ I h) fun v s1 ⟨x,H1,I1,r1,q1⟩=>?_);obtain⟨c,rfl,q1⟩:=q1;cases r1;exact not_of (Ae7 ⟨.bl (!c),H1,I1,rfl,q1⟩)
end
def SqL(K:PySem.W.Frag)(H:Hp)(a:Addr)(xs:List V):Prop:=
 Rd H a (.lst xs)∨
  ∃ (o:Obj) (its:Array Value) (n:Nat),K.lookup a=some o∧o.cls= .type "list" ∧ o.dict=none∧o.data= .seq its n∧its.size≤sizeLine∧Vals xs its.toList
def SqT(K:PySem.W.Frag)(H:Hp)(a:Addr)(xs:List V):Prop:=
 Rd H a (.tup xs)∨
  ∃ (o:Obj) (its:Array Value) (n:Nat),K.lookup a=some o∧o.cls= .type "tuple" ∧ o.data= .seq its n∧its.size≤sizeLine∧Vals xs its.toList
def absV:Value→Option V
 |.none=>some .non
 |.bool b=>some (.bl b)
 |.int i _=>some (.int i)
 |.str x _=>some (.str x)
 |.bytes b _=>some (.byt b)
 |.float b _=>some (.flt b)
 |.ref a=>some (.ref a)
 |.type n=>some (.ty n)
 |_=>none
theorem RelV.abs{x:V}{u:Value}(r:RelV x u):absV u=some x:=by
 cases x with
 |non=>cases r; rfl
 |bl _=>cases r; rfl
 |int _=>obtain⟨t,rfl⟩:=r; rfl
 |str _=>obtain⟨t,rfl⟩:=r; rfl
 |byt _=>obtain⟨t,rfl⟩:=r; rfl
 |flt _=>obtain⟨t,rfl⟩:=r; rfl
 |ref _=>cases r; rfl
 |ty _=>cases r; rfl
theorem RelV.inj{x y:V}{u:Value}(r:RelV x u)(q:RelV y u):x=y:=Ac1 (r.abs.symm.trans q.abs)
theorem Vals.inj:∀ {xs ys:List V} {us:List Value},Vals xs us→Vals ys us→xs=ys
 |_,_,_,.nil,.nil=>rfl
 |_,_,_,.cons r t,.cons r' t'=>by rw[r.inj r',Vals.inj t t']
section
variable{X:Cx}{pins:List (Addr×Obj)}{σ:St}{H:Hp}{s:Shared}{a:Addr}{xs ys:List V}
theorem SqL.of{K:PySem.W.Frag}(h:H a=some (.lst xs)):SqL K H a xs:= .inl (.inl h)
theorem SqT.of{K:PySem.W.Frag}(h:H a=some (.tup xs)):SqT K H a xs:= .inl (.inl h)
theorem Inv.list(I:Inv X pins σ H s)(h:SqL X.K H a xs):∃ its:List Value,Vals xs its∧PlainL s.heap a its.toArray∧xs.length≤sizeLine:=by
 rcases h with h | ⟨o,its,n,hk,hc,hd,hs,hz,r⟩
 ·obtain⟨z,its,n,r,e⟩:=h.ok I.hok;exact⟨its,r,⟨_,n,e,rfl,rfl,rfl⟩,z⟩
 ·refine⟨its.toList,r,⟨o,n,I.kIn a o hk,hc,hd,by simpa using hs⟩,?_⟩;have e:=r.length;simp only[Ae0] at e;omega
theorem Inv.tuple(I:Inv X pins σ H s)(h:SqT X.K H a xs):∃ its:List Value,Vals xs its∧IsTup s.heap a its.toArray∧xs.length≤sizeLine:=by
 rcases h with h | ⟨o,its,n,hk,hc,hs,hz,r⟩
 ·obtain⟨z,its,r,p⟩:=h.ok I.hok;exact⟨its,r,p,z⟩
 ·refine⟨its.toList,r,⟨o,I.kIn a o hk,hc,n,by simpa using hs⟩,?_⟩;have e:=r.length;simp only[Ae0] at e;omega
theorem Inv.list_inj(I:Inv X pins σ H s)(h:SqL X.K H a xs)(h':SqL X.K H a ys):xs=ys:=by
 obtain⟨its,r,⟨o,n,e,_,_,d⟩,_⟩:=I.list h;obtain⟨its',r',⟨o',n',e',_,_,d'⟩,_⟩:=I.list h';rw[e] at e'; cases e';rw[d] at d';injection d' with d1 _
 have:its=its':=by simpa using congrArg Array.toList d1
 subst this;exact r.inj r'
end
abbrev Cx.wish(X:Cx)(E:Value→Shared→Prop):Cx:={ X with xe:=E }
abbrev Cx.nox(X:Cx):Cx:=X.wish fun _ _=>False
theorem Cx.Ok.wish{X:Cx}(ok:X.Ok)(E:Value→Shared→Prop):(X.wish E).Ok:=
 ⟨ok.mod,ok.kind,ok.glob,ok.blt,ok.above,ok.inj,ok.has,ok.cab,ok.hd,ok.frames,ok.stk,ok.exf,ok.bs,ok.bsz,ok.noex,ok.exfs,ok.funs,ok.frf⟩
theorem Cx.Ok.unwish{X:Cx}{E:Value→Shared→Prop}(ok:(X.wish E).Ok):X.Ok:=
 ⟨ok.mod,ok.kind,ok.glob,ok.blt,ok.above,ok.inj,ok.has,ok.cab,ok.hd,ok.frames,ok.stk,ok.exf,ok.bs,ok.bsz,ok.noex,ok.exfs,ok.funs,ok.frf⟩
section
variable{X:Cx}{pins:List (Addr×Obj)}{σ:St}{H:Hp}{s:Shared}{E:Value→Shared→Prop}
theorem Inv.wish(I:Inv X pins σ H s)(E:Value→Shared→Prop):Inv (X.wish E) pins σ H s:=⟨I.ok.wish E,I.os,I.bare,I.base,I.loc,I.cell,I.free,I.freeC,I.pin,I.hok,I.len⟩
theorem Inv.unwish(I:Inv (X.wish E) pins σ H s):Inv X pins σ H s:=⟨I.ok.unwish,I.os,I.bare,I.base,I.loc,I.cell,I.free,I.freeC,I.pin,I.hok,I.len⟩
theorem SP.unwish{D:Ends}{f:Flow}{s':Shared}(h:SP (X.wish E) pins D f s'):SP X pins D f s':=by
 cases f with
 |next=>obtain⟨σ',H',I,q⟩:=h; exact⟨σ',H',I.unwish,q⟩
 |brk=>obtain⟨σ',H',I,q⟩:=h; exact⟨σ',H',I.unwish,q⟩
 |cont=>obtain⟨σ',H',I,q⟩:=h; exact⟨σ',H',I.unwish,q⟩
 |ret u=>obtain⟨v,σ',H',I,r,q⟩:=h; exact⟨v,σ',H',I.unwish,r,q⟩
theorem PSs.nox{st:List Stmt}{t:TS}(h:PSs X.nox st t):PSs X st t:=fun pins s σ H D I hw=>
 Al3 (h pins s σ H D (I.wish _) hw) (fun _ _ q=>q.unwish) fun _ _ z=>False.elim z
end
section
variable{X:Cx}{st:Stmt}{rest:List Stmt}{t u:TS}{e:Expr}{te:TE}{pos:Pos}
def cs5:TS:=fun D σ H=>D.nx σ H
def tSeq(t u:TS):TS:=fun D σ H=>t { D with nx:=u D } σ H
theorem ae3:PSs X [] cs5:=fun _ _ σ H _ I h=>Al5 ⟨σ,H,I,h⟩
theorem aa1(h1:PS X st t)(h2:PSs X rest u):PSs X (st :: rest) (tSeq t u):=by
 intro pins s σ H D I h;refine wpAny_execs_cons (thn (h1 pins s σ H { D with nx:=u D } I h) fun f s1 q=>?_);cases f with
 |next=>
   obtain⟨σ',H',I',q⟩:=q;exact h2 pins s1 σ' H' D I' q
 |ret v=>exact q
 |brk=>exact q
 |cont=>exact q
theorem aa3(h1:PS X st t):PSs X [st] t:=by
 intro pins s σ H D I h;refine wpAny_execs_cons (thn (h1 pins s σ H D I h) fun f s1 q=>?_);cases f with
 |next=>exact Al5 q
 |ret v=>exact q
 |brk=>exact q
 |cont=>exact q
theorem Inv.quiet{pins:List (Addr×Obj)}{σ:St}{H:Hp}{s:Shared}(I:Inv X pins σ H s):interactive X.env=false:=by simp[interactive,I.ok.kind]
def cs6(te:TE):TS:=fun D σ H=>te σ H fun _ H1=>D.nx σ H1
theorem ac4(he:PE X e te)(hs:swapsWith e none pos.line X.env=pure false:=by rfl):PS X (.Expr e pos) (cs6 te):=by
 intro pins s σ H D I h;exact wpAny_Expr_any (thn (he pins s σ H _ I h) fun v s1 ⟨x,H1,I1,r1,q1⟩=>⟨σ,H1,I1,q1⟩) I.quiet hs
def tRet(te:TE):TS:=fun D σ H=>te σ H D.rt
theorem ac9(he:PE X e te):PS X (.Return (some e) pos) (tRet te):=by
 intro pins s σ H D I h;exact wpAny_Return_some (thn (he pins s σ H _ I h) fun v s1 ⟨x,H1,I1,r1,q1⟩=>⟨x,σ,H1,I1,r1,q1⟩)
def cs2:TS:=fun D _ H=>D.rt .non H
theorem cf7:PS X (.Return none pos) cs2:=fun _ _ σ H _ I h=>wpAny_Return_none ⟨.non,σ,H,I,rfl,h⟩
def tIfS(c:TT)(t u:TS):TS:=fun D σ H=>c σ H fun b H1=>if b=true then t D σ H1 else u D σ H1
theorem al1{c:Expr}{a b:List Stmt}{tc:TT}(hc:PT X c tc)(ha:PSs X a t)(hb:PSs X b u):PS X (.If c a b pos) (tIfS tc t u):=by
 intro pins s σ H D I h;refine wpAny_If (thn (hc pins s σ H _ I h) fun d s1 ⟨H1,I1,q1⟩=>?_);cases d with
 |true=>exact ha pins s1 σ H1 D I1 q1
 |false=>exact hb pins s1 σ H1 D I1 q1
def bO1:TS:=fun _ _ _=>False
theorem ai0:PS X st bO1:=fun _ _ _ _ _ _ h=>h.elim
end
abbrev TG:=V→St→Hp→(St→Hp→Prop)→Prop
def PG(X:Cx)(target:Expr)(t:TG):Prop:=
 ∀ (pins:List (Addr×Obj)) (s:Shared) (σ:St) (H:Hp) (v:V) (u:Value) (Q:St→Hp→Prop),Inv X pins σ H s→RelV v u→t v σ H Q→
  wpAny (model X.prog X.w) X.A (assign target X.env u) (fun _ s'=>∃ σ' H',Inv X pins σ' H' s'∧Q σ' H') X.xe s
abbrev TSet:=V→V→V→Hp→(Hp→Prop)→Prop
def PSet(X:Cx)(t:TSet):Prop:=
 ∀ (pins:List (Addr×Obj)) (s:Shared) (σ:St) (H:Hp) (o i v:V) (ov iv u:Value) (Q:Hp→Prop),Inv X pins σ H s→RelV o ov→RelV i iv→RelV v u→t o i v H Q→
  wpAny (model X.prog X.w) X.A (setItem ov iv u) (fun _ s'=>∃ H',Inv X pins σ H' s'∧Q H') X.xe s
abbrev TIp:=V→V→Hp→VK→Prop
def PIp(X:Cx)(op:Operator)(t:TIp):Prop:=
 ∀ (pins:List (Addr×Obj)) (s:Shared) (σ:St) (H:Hp) (x y:V) (v u:Value) (Q:VK),Inv X pins σ H s→RelV x v→RelV y u→t x y H Q→
  wpAny (model X.prog X.w) X.A (inplaceOp op v u) (EP X pins σ Q) X.xe s
section
variable{X:Cx}{pos:Pos}
def aD3(i:Nat):TG:=fun v σ H Q=>Q (σ.set i (some v)) H
theorem ap7{i:Nat}{x:Str}(hN:X.N.Nodup)(hi:X.N[i]?=some x)(hx:Loc X.env.scope x)(hf:X.fn x=true∨X.env.scope.names.lookup x=some .local:=by first | exact .inl rfl | exact .inr rfl | assumption):PG X (.Name x pos) (aD3 i):=by
 intro pins s σ H v u Q I r h;exact wpAny_assign_Name (aG4 I hN hi hx r (fun s' I'=>⟨_,H,I',h⟩) hf)
def gSub(to ti:TE)(t:TSet):TG:=fun v σ H Q=>to σ H fun o H1=>ti σ H1 fun i H2=>t o i v H2 fun H3=>Q σ H3
theorem bR7{o i:Expr}{to ti:TE}{t:TSet}(ho:PE X o to)(hi:PE X i ti)(hs:PSet X t)
 (ha:∀ v,assign (.Subscript o i pos) X.env v=(do
   let ov ← holding [v] (eval o X.env)
   let iv ← holding [v,ov] (eval i X.env)
   standAt pos
   holding [v,ov,iv] (setItem ov iv v)
   release [v,ov,iv] []):=by intro _; rfl):PG X (.Subscript o i pos) (gSub to ti t):=by
 intro pins s σ H v u Q I r h;rw[ha];refine Aa0 (Af2 (thn (ho pins s σ H _ I h) fun ov s1 ⟨x,H1,I1,r1,q1⟩=>?_));refine Aa0 (Af2 (thn (hi pins s1 σ H1 _ I1 q1) fun iv s2 ⟨y,H2,I2,r2,q2⟩=>?_));refine Aa0 (Ao8 (Aa0 (Af2 (thn (hs pins s2 σ H2 x y v ov iv u _ I2 r1 r2 r q2) fun _ s3 ⟨H3,I3,q3⟩=>?_))));exact wpAny_release ⟨σ,H3,I3,q3⟩
def tAsg(te:TE)(g:TG):TS:=fun D σ H=>te σ H fun x H1=>g x σ H1 D.nx
theorem bR6{tg e:Expr}{te:TE}{g:TG}(he:PE X e te)(hg:PG X tg g)(hs:swapsWithSole [tg] e pos.line X.env=pure false:=by rfl)(hw:swappedStores [tg] e X.env=pure none:=by rfl)
 (h1:(assignEach [tg] X.env).map (·.2)=[assign tg X.env]:=by rfl):PS X (.Assign [tg] e pos) (tAsg te g):=by
 intro pins s σ H D I h;refine wpAny_Assign_stores (thn (he pins s σ H _ I h) fun v s1 ⟨x,H1,I1,r1,q1⟩=>?_) hs hw;rw[h1];exact thn (hg pins s1 σ H1 x v _ I1 r1 q1) fun _ s2 q=>q
theorem ah2{i:Nat}{x:Str}{e:Expr}{te:TE}{pos':Pos}(hN:X.N.Nodup)(hi:X.N[i]?=some x)(hx:Loc X.env.scope x)(he:PE X e te)(hs:swapsWith e (some (.Name x pos')) pos.line X.env=pure false:=by rfl)(hf:X.fn x=true∨X.env.scope.names.lookup x=some .local:=by first | exact .inl rfl | exact .inr rfl | assumption):
 PS X (.Assign [.Name x pos'] e pos) (tAsg te (aD3 i)):=by
 intro pins s σ H D I h;refine wpAny_Assign_Name (thn (he pins s σ H _ I h) fun v s1 ⟨y,H1,I1,r1,q1⟩=>?_) hs;exact aG4 I1 hN hi hx r1 (fun s2 I2=>⟨_,H1,I2,q1⟩) hf
def tAug(i:Nat)(te:TE)(ti:TIp):TS:=fun D σ H=>∃ x,σ[i]?=some (some x)∧te σ H fun y H1=>ti x y H1 fun z H2=>D.nx (σ.set i (some z)) H2
theorem cw3{i:Nat}{x:Str}{e:Expr}{te:TE}{op:Operator}{ti:TIp}{pos':Pos}(hN:X.N.Nodup)(hi:X.N[i]?=some x)(hx:Loc X.env.scope x)(he:PE X e te)(ho:PIp X op ti)(hf:X.fn x=true∨X.env.scope.names.lookup x=some .local:=by first | exact .inl rfl | exact .inr rfl | assumption):
 PS X (.AugAssign (.Name x pos') op e pos) (tAug i te ti):=by
 intro pins s σ H D I h;obtain⟨v,e1,h⟩:=h;obtain⟨m,hn,hl⟩:=I.loc;have vis:Vis X.env.scope x:=by rcases hx with k | k; exact .inl k; exact .inr (.inl k)
 obtain⟨u,r,l⟩:=hl i x v hi e1 vis;refine wpAny_AugAssign_Name ?_
 have go:wpAny (model X.prog X.w) X.A (eval e X.env) (fun w s₂=>wpAny (model X.prog X.w) X.A (inplaceOp op u w) (fun r s₃=>wpAny (model X.prog X.w) X.A (storeName X.env x r) (fun _=>SP X pins D .next) X.xe s₃) X.xe s₂) X.xe s:=by
  refine thn (he pins s σ H _ I h) fun w s1 ⟨y,H1,I1,r1,q1⟩=>?_;refine thn (ho pins s1 σ H1 v y u w _ I1 r r1 q1) fun z s2 ⟨zv,H2,I2,r2,q2⟩=>?_;exact aG4 I2 hN hi hx r2 (fun s3 I3=>⟨_,H2,I3,q2⟩) hf
 rcases l with ⟨hk,hm⟩ | ⟨hk,c,hc,hcell⟩
 ·exact wpAny_loadName_local I.ok.kind hk hn hm go
 · rcases hk with hk | hk
   ·exact wpAny_loadName_cell I.ok.kind hk hc hcell go
   · rcases hx with k | k
     · have:X.env.scope.names.lookup x=some .free:=hk
       rw[k] at this; cases this
     · have:X.env.scope.names.lookup x=some .free:=hk
       rw[k] at this; cases this
def ipI(f:Int→Int→Int):TIp:=fun x y H Q=>∃ i j,x= .int i∧y= .int j∧Q (.int (f i j)) H
theorem cG7:PIp X .Add (ipI fun i j=>i + j):=by
 intro pins s σ H x y v u Q I r1 r2 h;obtain⟨i,j,e1,e2,q⟩:=h;subst e1; subst e2;obtain⟨t,rfl⟩:=r1;obtain⟨t',rfl⟩:=r2;exact iadd_int ⟨.int _,H,I.tok _,⟨_,rfl⟩,q⟩
end
section
variable{X:Cx}{pos:Pos}
def bO0(c:TT)(tb:TS):TS:=fun D σ H=>∃ W:Nat→St→Hp→Prop,(∃ m,W m σ H)∧∀ m σ H,W m σ H→
 c σ H fun b H1=>if b=true then ∃ N:St→Hp→Prop,(∀ σ' H',N σ' H'→∃ m',m' < m∧W m' σ' H')∧tb { D with nx:=N,ct:=N,bk:=D.nx } σ H1 else D.nx σ H1
theorem bb0{c:Expr}{body:List Stmt}{tc:TT}{tb:TS}(hp:PassesOwn (model X.prog X.w) X.A X.env X.xe)(hc:PT X c tc)(hb:PSs X body tb):PS X (.While c body [] pos) (bO0 tc tb):=by
 intro pins s σ H D I h;obtain⟨W,⟨m0,w0⟩,turn⟩:=h;refine wpAny_While (codeAny_whileLoop (fun n s'=>∃ σ' H',Inv X pins σ' H' s'∧W n σ' H') ?_ m0 ⟨σ,H,I,w0⟩);rintro n s1 ⟨σ1,H1,I1,w1⟩;refine Ae1 hp (thn (hc pins s1 σ1 H1 _ I1 (turn n σ1 H1 w1)) fun b s2 ⟨H2,I2,q2⟩=>?_);cases b with
 |true=>
   obtain⟨N,hN,q2⟩:=q2;rw[Aa6 rfl];refine Ae1 hp (thn (hb pins s2 σ1 H2 _ I2 q2) fun f s3 q3=>?_);cases f with
   |next=>
     obtain⟨σ3,H3,I3,n3⟩:=q3;obtain⟨m',hm,w3⟩:=hN σ3 H3 n3;exact⟨m',hm,σ3,H3,I3,w3⟩
   |cont=>
     obtain⟨σ3,H3,I3,n3⟩:=q3;obtain⟨m',hm,w3⟩:=hN σ3 H3 n3;exact⟨m',hm,σ3,H3,I3,w3⟩
   |brk=>exact q3
   |ret v=>exact q3
 |false=>
   rw[Aa3 Ab1];exact Al5 ⟨σ1,H2,I2,q2⟩
end
structure It where
 go:Nat→Hp→Prop
 yld:Nat→Hp→V→Hp→Prop
 stop:Nat→Hp→Prop
def FpOk(X:Cx)(pins:List (Addr×Obj))(H:Hp)(b:Addr):Prop:=
 H b=none∧b≠X.env.locals∧b∉X.fs∧(b∈X.ex∨X.s₀.heap.objs.size≤b)∧(∀ x c,X.env.cells.lookup x=some c→c≠b)∧∀ p∈X.pn ++ pins,p.1≠b
theorem Inv.fpOk{X:Cx}{pins:List (Addr×Obj)}{σ:St}{H H':Hp}{s:Shared}{b:Addr}(I:Inv X pins σ H s)(hb:s.heap.objs.size≤b)(hn:H' b=none):FpOk X pins H' b:=by
 refine⟨hn,Aq3 (Ac2 I.lt hb),I.nofs hb,.inr (Ae3 I.sz hb),fun x c e z=>?_,fun p hp z=>?_⟩
 ·obtain⟨v,q⟩:=I.cell x c e;exact absurd (Ac2 q.lt (by rw[z]; exact hb)) (Ad1 _)
 ·exact absurd (Ac2 (Ab3 (I.pin p hp).1) (by rw[z]; exact hb)) (Ad1 _)
structure Turn (P:Program) (w:World) (K:PySem.W.Frag) (tg:Expr) (J:It) (fp:List Addr) (it:Addr) (tn:Nat→Heap→Prop):Prop where
 mem:it∈fp
 obj:∀ i h,tn i h→∀ b∈fp,∃ o,h.get? b=some o∧∀ v,o.data≠ .cell v
 keep:∀ i h h',tn i h→(∀ b∈fp,∀ o,h.get? b=some o→h'.get? b=some o)→tn i h'
 item:∀ (X:Cx),X.prog=P→X.w=w→X.K=K→X.calm=true→∀ (i:Nat) (pins:List (Addr×Obj)) (s:Shared) (σ:St) (H:Hp) (E:Value→Shared→Prop),Inv X pins σ H s→(∀ b∈fp,FpOk X pins H b)→tn i s.heap→J.go i H→
  wpAny (model P w) X.A (pyNext (.ref it)) (fun r s1=>∃ u,r=some u∧
   wpAny (model P w) X.A (letOwnedTupleGo tg (.ref it) u) (fun _ s2=>∃ x H',Inv X pins σ H' s2∧RelV x u∧J.yld i H x H'∧tn (i + 1) s2.heap∧∀ b∈fp,H' b=none) E s1) E s
 done:∀ (X:Cx),X.prog=P→X.w=w→X.K=K→X.calm=true→∀ (i:Nat) (pins:List (Addr×Obj)) (s:Shared) (σ:St) (H:Hp) (E:Value→Shared→Prop),Inv X pins σ H s→(∀ b∈fp,FpOk X pins H b)→tn i s.heap→J.stop i H→
  wpAny (model P w) X.A (pyNext (.ref it)) (fun r s1=>r=none∧Inv X pins σ H s1) E s
 self:∀ (A:Around) (i:Nat) (s:Shared) (Q:Value→Shared→Prop) (E:Value→Shared→Prop),tn i s.heap→Q (.ref it) s→wpAny (model P w) A (pyIter (.ref it)) Q E s
abbrev TI:=St→Hp→(It→Hp→Prop)→Prop
def PIE(X:Cx)(pins:List (Addr×Obj))(σ:St)(tg:Expr)(R:It→Hp→Prop)(itv:Value)(s2:Shared):Prop:=
 ∃ (it:Addr) (fp:List Addr) (tn:Nat→Heap→Prop) (J:It) (H':Hp),itv= .ref it∧Inv X pins σ H' s2∧Turn X.prog X.w X.K tg J fp it tn∧tn 0 s2.heap∧(∀ b∈fp,FpOk X pins H' b)∧R J H'
def PI(X:Cx)(tg iter:Expr)(wi:TI):Prop:=
 ∀ (pins:List (Addr×Obj)) (s:Shared) (σ:St) (H:Hp) (R:It→Hp→Prop),Inv X pins σ H s→wi σ H R→
  wpAny (model X.prog X.w) X.A (eval iter X.env) (fun v s1=>wpAny (model X.prog X.w) X.A (pyIter v) (PIE X pins σ tg R) X.xe s1) X.xe s
theorem bL3{M:Model}{A:Around}{E:Value→Shared→Prop}{s:Shared}{tg:Expr}{it:Addr}{u:Value}{o:Obj}{n:String}{vs:Array Value}{Q:Unit→Shared→Prop}(ho:s.heap.get? it=some o)(hc:o.cls= .type n)(hd:o.data= .fields vs)
 (hn:["enumerate", "zip", "dict_itemiterator", "dict_reverseitemiterator", "odict_iterator", "itertools.zip_longest", "itertools.pairwise"].contains n=false) (hQ:Q () s):wpAny M A (letOwnedTupleGo tg (.ref it) u) Q E s:=by
 unfold letOwnedTupleGo
 cases tg <;> first
  |exact Aa9 hQ
  | (cases u <;> first
      |exact Aa9 hQ
      | (refine Aa0 (wpAny_load ho ?_)
         rw[hc,hd];show wpAny M A (if (["enumerate", "zip", "dict_itemiterator", "dict_reverseitemiterator", "odict_iterator", "itertools.zip_longest", "itertools.pairwise"].contains n && vs[0]? == some (rawInt _))=true then _ else _) Q E s;rw[Aa3 (by intro h; rw[hn,Bool.false_and] at h; cases h)]
         exact Aa9 hQ))
def Itl(K:PySem.W.Frag)(a:Addr):It:=
 ⟨fun i H=>∃ xs x,SqL K H a xs∧xs[i]?=some x,fun i H x H'=>H'=H∧∀ xs,SqL K H a xs→xs[i]?=some x,fun i H=>∃ xs,SqL K H a xs∧xs.length≤i⟩
def Itr(lo:Int)(n:Nat):It:=⟨fun i _=>i < n,fun i H x H'=>H'=H∧x= .int (lo + i),fun i _=>n≤i⟩
theorem bk7{P:Program}{w:World}{K:PySem.W.Frag}{tg:Expr}(a it:Addr):Turn P w K tg (Itl K a) [it] it (fun i h=>h.IsListIter it a i) where
 mem:=by simp
 obj:=fun i h st b hb=>by
  have e:b=it:=by simpa using hb
  subst e;obtain⟨o,e,c,d⟩:=st;exact⟨o,e,fun v z=>by rw[d] at z; cases z⟩
 keep:=fun i h h' st k=>st.at fun o e=>k it (by simp) o e
 item:=by
  intro X hP hw hK hc i pins s σ H E I hf st hg;subst hP hw hK;obtain⟨xs,x,hq,hx⟩:=hg;obtain⟨its,rv,p,hz⟩:=I.list hq;obtain⟨u,hu,ru⟩:=rv.get hx;obtain⟨f0,f1,f2,f3,f4,f5⟩:=hf it (by simp);refine wpAny_pyNext_list_item st p.isList (x:=u) (by simpa using hu) fun h' st' sb=>?_;have I1:Inv X pins σ H { s with heap:=h' }:=I.turned (t':=s.toks) (fun b o hb e=>(sb.2 b hb).trans e) f0 f1 f3 f4 f5;obtain⟨o,e,c,d⟩:=id st';exact⟨u,rfl,bL3 (s:={ s with heap:=h' }) e c d (by decide) ⟨x,H,I1,ru,⟨rfl,fun ys hy=>by rw[I.list_inj hy hq]; exact hx⟩,st',fun b hb=>(hf b hb).1⟩⟩
 done:=by
  intro X hP hw hK hc i pins s σ H E I hf st hg;subst hP hw hK;obtain⟨xs,hq,hx⟩:=hg;obtain⟨its,rv,p,hz⟩:=I.list hq;obtain⟨f0,f1,f2,f3,f4,f5⟩:=hf it (by simp);have hl:=rv.length;exact wpAny_pyNext_list_end (I.ok.hd hc) st p.isList (by simp; omega) fun h' eb=>⟨rfl,I.turned (t':=s.toks) (fun b o hb e=>eb b o hb e) f0 f1 f3 f4 f5⟩
 self:=fun _ _ _ _ _ st h=>wpAny_pyIter_listiter st h
theorem bg4{P:Program}{w:World}{K:PySem.W.Frag}{tg:Expr}(it:Addr)(lo:Int)(n:Nat):Turn P w K tg (Itr lo n) [it] it (fun i h=>IsRangeIter h it (lo + (i:Nat) * 1) ((n:Int) - (i:Nat)) 1) where
 mem:=by simp
 obj:=fun i h st b hb=>by
  have e:b=it:=by simpa using hb
  subst e
  exact⟨_,st,fun v z=>by
   have z':Data.fields _=Data.cell v:=z
   cases z'⟩
 keep:=fun i h h' st k=>k it (by simp) _ st
 item:=by
  intro X hP hw hK hc i pins s σ H E I hf st hg;subst hP hw hK;obtain⟨f0,f1,f2,f3,f4,f5⟩:=hf it (by simp);have W:=Walks.range (prog:=X.prog) (w:=X.w) (I.ok.hd hc) it lo 1 n;refine W.item i s _ _ hg st fun v h' tk hv st' kk=>?_;obtain⟨t,rfl⟩:=hv;have I1:Inv X pins σ H { s with heap:=h',toks:=tk }:=I.turned (fun b o hb e=>kk b o (by simpa using hb) e) f0 f1 f3 f4 f5;refine⟨_,rfl,bL3 (s:={ s with heap:=h',toks:=tk }) (n := "range_iterator") st' rfl rfl (by decide) ⟨.int (lo + i),H,I1,⟨t,?_⟩,⟨rfl,rfl⟩,st',fun b hb=>(hf b hb).1⟩⟩;rw[Int.mul_one]
 done:=by
  intro X hP hw hK hc i pins s σ H E I hf st hg;subst hP hw hK;obtain⟨f0,f1,f2,f3,f4,f5⟩:=hf it (by simp);exact wpAny_pyNext_range_end (I.ok.hd hc) st (by have:n≤i:=hg; omega) fun h' eb=>⟨rfl,I.turned (t':=s.toks) (fun b o hb e=>eb b o hb e) f0 f1 f3 f4 f5⟩
 self:=fun _ _ _ _ _ st h=>wpAny_pyIter_rangeiter st h
section
variable{X:Cx}{tg:Expr}
def bu2(K:PySem.W.Frag)(tl:TE):TI:=fun σ H R=>tl σ H fun x H1=>∃ a,x= .ref a∧(∃ xs,SqL K H1 a xs)∧R (Itl K a) H1
theorem cg1{l:Expr}{tl:TE}(hl:PE X l tl):PI X tg l (bu2 X.K tl):=by
 intro pins s σ H R I h;refine thn (hl pins s σ H _ I h) fun v s1 ⟨x,H1,I1,r1,q1⟩=>?_;obtain⟨a,e,⟨xs,hq⟩,q⟩:=q1;subst e;cases r1;obtain⟨its,rv,p,hz⟩:=I1.list hq;refine Ak3 p.isList ?_;refine⟨s1.heap.objs.size,[s1.heap.objs.size],_,_,H1,rfl,I1.kept (t':=s1.toks) fun b o e=>Aa1 _ e,bk7 a _,⟨_,Ab8 _ rfl,rfl,rfl⟩,fun b hb=>?_,q⟩;have e:b=s1.heap.objs.size:=by simpa using hb
 subst e;exact I1.fpOk (Ab7 _) (I1.hok.fresh (Ab7 _))
theorem ba6{pins:List (Addr×Obj)}{σ:St}{H:Hp}{s:Shared}{R:It→Hp→Prop}{E:Value→Shared→Prop}{lo hi:Int}{t u v:Tok}{tk:Nat}(I:Inv X pins σ H s)(h1:-(2 ^ 62)≤lo)(h2:lo < 2 ^ 62)(h3:-(2 ^ 62)≤hi)(h4:hi < 2 ^ 62)
 (q:R (Itr lo (hi - lo).toNat) H):wpAny (model X.prog X.w) X.A (pyIter (.ref s.heap.objs.size)) (PIE X pins σ tg R) E { s with heap:=s.heap.push { cls:= .type "range",data:= .fields #[.int lo t,.int hi u,.int 1 v] },toks:=tk }:=by
 refine wpAny_pyIter_range (IsRange.new ..) (small_one h1 h2 h3 h4) ?_;have I1:Inv X pins σ H { s with heap:=s.heap.push { cls:= .type "range",data:= .fields #[.int lo t,.int hi u,.int 1 v] },toks:=tk }:=I.kept fun b o e=>Aa1 _ e
 refine⟨(s.heap.push { cls:= .type "range",data:= .fields #[.int lo t,.int hi u,.int 1 v] }).objs.size,[(s.heap.push { cls:= .type "range",data:= .fields #[.int lo t,.int hi u,.int 1 v] }).objs.size],_,_,H,rfl,
  I1.kept (t':=tk) fun b o e=>Aa1 _ e,bg4 _ lo (hi - lo).toNat,?_,fun b hb=>?_,q⟩
 · have e1:lo + ((0:Nat):Int) * 1=lo:=by simp
   have e2:(((hi - lo).toNat:Nat):Int) - ((0:Nat):Int)=Builtin.Range.rangeSize lo hi 1:=by rw[rangeSize_one]; split <;> omega
   show IsRangeIter _ _ (lo + ((0:Nat):Int) * 1) ((((hi - lo).toNat:Nat):Int) - ((0:Nat):Int)) 1;rw[e1,e2];exact Ab8 _ rfl
 · have e:b=(s.heap.push { cls:= .type "range",data:= .fields #[.int lo t,.int hi u,.int 1 v] }).objs.size:=by simpa using hb
   subst e;exact I1.fpOk (Ab7 _) (I1.hok.fresh (Ab7 _))
def cH1(ta:TA):TI:=fun σ H R=>ta σ H fun vs H1=>∃ j:Int,vs=[.int j]∧-(2 ^ 62)≤j∧j < 2 ^ 62∧R (Itr 0 j.toNat) H1
def cH0(ta:TA):TI:=fun σ H R=>ta σ H fun vs H1=>∃ i j:Int,vs=[.int i,.int j]∧(-(2 ^ 62)≤i∧i < 2 ^ 62∧-(2 ^ 62)≤j∧j < 2 ^ 62)∧R (Itr i (j - i).toNat) H1
theorem ar0{a:Expr}{ta:TA}{p pos:Pos}(hg:Gl X "range")(hm:X.mg "range" = none)(ha:PA X [a] ta)(hs:starEach [a] X.env=[(false,eval a X.env)]:=by rfl):PI X tg (.Call (.Name "range" p) [a] [] pos) (cH1 ta):=by
 intro pins s σ H R I h;refine Call_ (az1 I hg hm boot_range (Ah2 (thn (ha pos pins s σ H _ I h) fun us s1 ⟨vs,H1,I1,r1,q1⟩=>?_) hs rfl));obtain⟨j,e,q1,q2,q⟩:=q1;subst e;cases r1 with
 |cons r rr=>
   cases rr;obtain⟨t,rfl⟩:=r;exact call_range_1 (ba6 I1 (by omega) (by omega) q1 q2 (by simpa using q))
theorem bp5{a b:Expr}{ta:TA}{p pos:Pos}(hg:Gl X "range")(hm:X.mg "range" = none)(ha:PA X [a,b] ta)(hs:starEach [a,b] X.env=[(false,eval a X.env),(false,eval b X.env)]:=by rfl)(hs2:starEach [b] X.env=[(false,eval b X.env)]:=by rfl):
 PI X tg (.Call (.Name "range" p) [a,b] [] pos) (cH0 ta):=by
 intro pins s σ H R I h;refine Call_ (az1 I hg hm boot_range (Ah2 (thn (ha pos pins s σ H _ I h) fun us s1 ⟨vs,H1,I1,r1,q1⟩=>?_) (by rw[hs,hs2]) (by rw[hs2]; rfl)));obtain⟨i,j,e,⟨q1,q2,q3,q4⟩,q⟩:=q1;subst e;cases r1 with
 |cons r rr=>
   cases rr with
   |cons r' rr=>
     cases rr;obtain⟨t,rfl⟩:=r;obtain⟨t',rfl⟩:=r';exact call_range_2 (ba6 I1 q1 q2 q3 q4 q)
def tFor(wi:TI)(g:TG)(tb:TS):TS:=fun D σ H=>wi σ H fun J H1=>∃ W:Nat→Nat→St→Hp→Prop,(∃ m,W 0 m σ H1)∧∀ i m σ H,W i m σ H→
 (J.stop i H∧D.nx σ H)∨(J.go i H∧∃ N:St→Hp→Prop,(∀ σ' H',N σ' H'→∃ m',m' < m∧W (i + 1) m' σ' H')∧∀ x H',J.yld i H x H'→g x σ H' fun σ2 H2=>tb { D with nx:=N,ct:=N,bk:=D.nx } σ2 H2)
def aM4(fp:List Addr)(h:Heap):List (Addr×Obj):=fp.filterMap fun b=>(h.get? b).map fun o=>(b,o)
theorem an6{fp:List Addr}{h:Heap}{b:Addr}{o:Obj}(hb:b∈fp)(e:h.get? b=some o):(b,o)∈aM4 fp h:=List.mem_filterMap.mpr ⟨b,hb,by rw[e]; rfl⟩
theorem bq9{fp:List Addr}{h:Heap}{p:Addr×Obj}(hp:p∈aM4 fp h):p.1∈fp∧h.get? p.1=some p.2:=by
 obtain⟨b,hb,e⟩:=List.mem_filterMap.mp hp;cases q:h.get? b with
 |none=>rw[q] at e; cases e
 |some o=>
   rw[q] at e;have e':(b,o)=p:=Ac1 e;subst e';exact⟨hb,q⟩
theorem Inv.pinned{pins:List (Addr×Obj)}{σ:St}{H:Hp}{s:Shared}{fp:List Addr}(I:Inv X pins σ H s)(hf:∀ b∈fp,FpOk X pins H b)(ho:∀ b∈fp,∃ o,s.heap.get? b=some o∧∀ v,o.data≠ .cell v):Inv X (pins ++ aM4 fp s.heap) σ H s:=
 I.pins_of fun p hp=>(List.mem_append.mp hp).elim (fun z=>I.pin p (Aa8 _ z)) fun z=>by
  obtain⟨hb,e⟩:=bq9 z;obtain⟨f0,f1,f2,_⟩:=hf p.1 hb;obtain⟨o,e',d⟩:=ho p.1 hb;rw[e] at e'; cases e';exact⟨e,f0,f1,f2,d⟩
theorem Inv.unpinned{pins pl:List (Addr×Obj)}{σ:St}{H:Hp}{s:Shared}(I:Inv X (pins ++ pl) σ H s):Inv X pins σ H s:=I.pins_of fun p hp=>I.pin p (Aa8 _ (Ab9 _ hp))
theorem bb1{iter:Expr}{body:List Stmt}{wi:TI}{g:TG}{tb:TS}{pos:Pos}(hp:PassesOwn (model X.prog X.w) X.A X.env X.xe)(hc:X.calm=true)(hi:PI X tg iter wi)(hg:PG X tg g)(hb:PSs X body tb)
 (hs:∀ x,foldedSetIterable iter X.env x=pure x:=by intro _; rfl):PS X (.For tg iter body [] pos) (tFor wi g tb):=by
 intro pins s σ H D I h;refine wpAny_For (thn (hi pins s σ H _ I h) fun v s1 h1=>thn h1 fun itv s2 h2=>?_) hs;obtain⟨it,fp,tn,J,H2,e,I2,T,st2,f2,W,⟨m0,w0⟩,turn⟩:=h2;subst e
 -- what stays true of the iterator's objects through the loop
 have stat:∀ {H':Hp},(∀ b∈fp,H' b=none)→∀ b∈fp,FpOk X pins H' b:=fun hn b hb=>⟨hn b hb,(f2 b hb).2⟩;refine codeAny_forLoop_any (fun n s'=>∃ i σ' H',Inv X pins σ' H' s'∧tn i s'.heap∧(∀ b∈fp,H' b=none)∧W i n σ' H') ?_ m0 ⟨0,σ,H2,I2,st2,fun b hb=>(f2 b hb).1,w0⟩;rintro n s3 ⟨i,σ3,H3,I3,st3,fr3,w3⟩;rcases turn i n σ3 H3 w3 with ⟨stop,qn⟩ | ⟨go,N,hN,step⟩
 ·refine Ae1 hp (thn (T.done X rfl rfl rfl hc i pins s3 σ3 H3 X.xe I3 (stat fr3) st3 stop) fun r s4 ⟨hr,I4⟩=>?_);subst hr;exact Al5 ⟨σ3,H3,I4,qn⟩
 · refine Ae1 hp (thn (T.item X rfl rfl rfl hc i pins s3 σ3 H3 X.xe I3 (stat fr3) st3 go) fun r s4 ⟨u,hr,h4⟩=>?_);subst hr;refine Ae1 hp (thn h4 fun _ s5 ⟨x,H5,I5,r5,y5,st5,fr5⟩=>?_);have I5':=I5.pinned (stat fr5) (T.obj _ _ st5);refine Ae1 hp (thn (hg _ s5 σ3 H5 x u _ I5' r5 (step x H5 y5)) fun _ s6 ⟨σ6,H6,I6,q6⟩=>?_);refine Ae1 hp (thn (hb _ s6 σ6 H6 _ I6 q6) fun f s7 q7=>?_)
   have again:∀ {σ7:St} {H7:Hp},Inv X (pins ++ aM4 fp s5.heap) σ7 H7 s7→N σ7 H7→∃ m,m < n∧∃ i σ' H',Inv X pins σ' H' s7∧tn i s7.heap∧(∀ b∈fp,H' b=none)∧W i m σ' H':=fun {σ7 H7} I7 n7=>by
    obtain⟨m',hm,w7⟩:=hN σ7 H7 n7;refine⟨m',hm,i + 1,σ7,H7,I7.unpinned,T.keep _ _ _ st5 fun b hb o e=>(I7.pin (b,o) (Aa8 _ (Aa8 _ (an6 hb e)))).1,fun b hb=>?_,w7⟩;obtain⟨o,e,d⟩:=T.obj _ _ st5 b hb;exact(I7.pin (b,o) (Aa8 _ (Aa8 _ (an6 hb e)))).2.1
   cases f with
   |next=>obtain⟨σ7,H7,I7,n7⟩:=q7; exact again I7 n7
   |cont=>obtain⟨σ7,H7,I7,n7⟩:=q7; exact again I7 n7
   |brk=>obtain⟨σ7,H7,I7,q7⟩:=q7; exact⟨σ7,H7,I7.unpinned,q7⟩
   |ret v=>obtain⟨x7,σ7,H7,I7,r7,q7⟩:=q7; exact⟨x7,σ7,H7,I7.unpinned,r7,q7⟩
end
abbrev R2:=V→V→Hp→VK→Prop
def OpR(X:Cx)(f:Value→Value→Sem Value)(r:R2):Prop:=
 ∀ (pins:List (Addr×Obj)) (s:Shared) (σ:St) (H:Hp) (x y:V) (v u:Value) (Q:VK),Inv X pins σ H s→RelV x v→RelV y u→r x y H Q→
  wpAny (model X.prog X.w) X.A (f v u) (EP X pins σ Q) X.xe s
def UnR(X:Cx)(f:Value→Sem Value)(r:V→Hp→VK→Prop):Prop:=
 ∀ (pins:List (Addr×Obj)) (s:Shared) (σ:St) (H:Hp) (x:V) (v:Value) (Q:VK),Inv X pins σ H s→RelV x v→r x H Q→
  wpAny (model X.prog X.w) X.A (f v) (EP X pins σ Q) X.xe s
def CallR(X:Cx)(f:Value)(r:List V→Hp→VK→Prop):Prop:=
 ∀ (pins:List (Addr×Obj)) (s:Shared) (σ:St) (H:Hp) (xs:List V) (us:List Value) (Q:VK),Inv X pins σ H s→Vals xs us→r xs H Q→
  wpAny (model X.prog X.w) X.A (call f us) (EP X pins σ Q) X.xe s
def tOp(r:R2)(ta tb:TE):TE:=fun σ H Q=>ta σ H fun x H1=>tb σ H1 fun y H2=>r x y H2 Q
def tUn(r:V→Hp→VK→Prop)(ta:TE):TE:=fun σ H Q=>ta σ H fun x H1=>r x H1 Q
def rI(C:Int→Int→Prop)(g:Int→Int→V):R2:=fun x y H Q=>∃ i j,x= .int i∧y= .int j∧C i j∧Q (g i j) H
def rI0(g:Int→Int→V):R2:=fun x y H Q=>∃ i j,x= .int i∧y= .int j∧Q (g i j) H
def rU(g:Int→V):V→Hp→VK→Prop:=fun x H Q=>∃ i,x= .int i∧Q (g i) H
section
variable{X:Cx}{a b c:Expr}{ta tb tc:TE}{pos:Pos}
theorem binT(ha:PE X a ta)(hb:PE X b tb){pins:List (Addr×Obj)}{s:Shared}{σ:St}{H:Hp}{R:V→V→Hp→Prop}(I:Inv X pins σ H s)
 (h:ta σ H fun x H1=>tb σ H1 fun y H2=>R x y H2) {Q:Value→Shared→Prop} {f:Value→Value→Sem Value}
 (hf:∀ v u s2 x y H2,Inv X pins σ H2 s2→RelV x v→RelV y u→R x y H2→wpAny (model X.prog X.w) X.A (f v u) Q X.xe s2):
 wpAny (model X.prog X.w) X.A (eval a X.env) (fun v s₁=>wpAny (model X.prog X.w) X.A (eval b X.env) (fun u s₂=>wpAny (model X.prog X.w) X.A (f v u) Q X.xe s₂) X.xe s₁) X.xe s:=by
 refine thn (ha pins s σ H _ I h) fun v s1 ⟨x,H1,I1,r1,q1⟩=>?_;refine thn (hb pins s1 σ H1 _ I1 q1) fun u s2 ⟨y,H2,I2,r2,q2⟩=>?_;exact hf v u s2 x y H2 I2 r1 r2 q2
theorem ag0{op:Operator}{r:R2}(ho:OpR X (binaryOp op) r)(ha:PE X a ta)(hb:PE X b tb):PE X (.BinOp a op b pos) (tOp r ta tb):=by
 intro pins s σ H Q I h;exact wpAny_BinOp (binT ha hb I h fun v u s2 x y H2 I2 rx ry q=>ho pins s2 σ H2 x y v u Q I2 rx ry q)
theorem cw7{op:UnaryOp}{r:V→Hp→VK→Prop}(ho:UnR X (unaryOp op) r)(ha:PE X a ta):PE X (.UnaryOp op a pos) (tUn r ta):=by
 intro pins s σ H Q I h;exact UnaryOp_ (thn (ha pins s σ H _ I h) fun v s1 ⟨x,H1,I1,r1,q1⟩=>ho pins s1 σ H1 x v Q I1 r1 q1)
theorem opI{f:Value→Value→Sem Value}{C:Int→Int→Prop}{g:Int→Int→Int}
 (rule:∀ (i j:Int) (t u:Tok) (s:Shared) (Q:Value→Shared→Prop) (E:Value→Shared→Prop),C i j→Q (.int (g i j) s.toks) { s with toks:=s.toks + 1 }→wpAny (model X.prog X.w) X.A (f (.int i t) (.int j u)) Q E s):
 OpR X f (rI C fun i j=> .int (g i j)):=by
 intro pins s σ H x y v u Q I rx ry h;obtain⟨i,j,rfl,rfl,hc,q⟩:=h;obtain⟨t,rfl⟩:=rx;obtain⟨t',rfl⟩:=ry;exact rule i j t t' s _ _ hc ⟨.int (g i j),H,I.tok _,⟨_,rfl⟩,q⟩
theorem opI0{f:Value→Value→Sem Value}{g:Int→Int→Int}
 (rule:∀ (i j:Int) (t u:Tok) (s:Shared) (Q:Value→Shared→Prop) (E:Value→Shared→Prop),Q (.int (g i j) s.toks) { s with toks:=s.toks + 1 }→wpAny (model X.prog X.w) X.A (f (.int i t) (.int j u)) Q E s):
 OpR X f (rI0 fun i j=> .int (g i j)):=by
 intro pins s σ H x y v u Q I rx ry h;obtain⟨i,j,rfl,rfl,q⟩:=h;obtain⟨t,rfl⟩:=rx;obtain⟨t',rfl⟩:=ry;exact rule i j t t' s _ _ ⟨.int (g i j),H,I.tok _,⟨_,rfl⟩,q⟩
theorem opB0{f:Value→Value→Sem Value}{g:Int→Int→Bool}
 (rule:∀ (i j:Int) (t u:Tok) (s:Shared) (Q:Value→Shared→Prop) (E:Value→Shared→Prop),Q (.bool (g i j)) s→wpAny (model X.prog X.w) X.A (f (.int i t) (.int j u)) Q E s):
 OpR X f (rI0 fun i j=> .bl (g i j)):=by
 intro pins s σ H x y v u Q I rx ry h;obtain⟨i,j,rfl,rfl,q⟩:=h;obtain⟨t,rfl⟩:=rx;obtain⟨t',rfl⟩:=ry;exact rule i j t t' s _ _ ⟨.bl (g i j),H,I,rfl,q⟩
def CDiv(i j:Int):Prop:=0 < j∧j < 1073741824
def CPow(i j:Int):Prop:=0≤j∧j≤1000000∧i.natAbs < 2 ^ 64
def CMul(i j:Int):Prop:=(-(2 ^ 64) < i∧i < 2 ^ 64)∨(-(2 ^ 64) < j∧j < 2 ^ 64)
theorem CMul.ok{i j:Int}(h:CMul i j):IntMulOk i j:=by
 rcases h with ⟨h1,h2⟩ | ⟨h1,h2⟩
 ·exact .of_left (intBits_le_64 h1 h2)
 ·exact .of_right (intBits_le_64 h1 h2)
theorem al9:OpR X (binaryOp .Add) (rI0 fun i j=> .int (i + j)):=opI0 fun _ _ _ _ _ _ _ q=>add_int q
theorem bb5:OpR X (binaryOp .Mult) (rI CMul fun i j=> .int (i * j)):=opI fun _ _ _ _ _ _ _ hc q=>mul_int q hc.ok
theorem bq6:OpR X (binaryOp .FloorDiv) (rI CDiv fun i j=> .int (i / j)):=opI fun i j _ _ _ _ _ hc q=>by
 have h1:(0:Int) < j:=hc.1;have h2:j < 1073741824:=hc.2;exact floordiv_int (by omega) (by rw[Int.fdiv_eq_ediv_of_nonneg i (by omega)]; exact q) (.inl (PyProof.noPylong_small (by omega)))
theorem ar4:OpR X (binaryOp .Mod) (rI (fun _ j=>0 < j) fun i j=> .int (i % j)):=opI fun i j _ _ _ _ _ hc q=>by
 have h1:(0:Int) < j:=hc;exact mod_int' (by omega) (by rw[Int.fmod_eq_emod_of_nonneg i (by omega)]; exact q)
theorem cy6:OpR X (binaryOp .Pow) (rI CPow fun i j=> .int (i ^ j.toNat)):=opI fun _ _ _ _ _ _ _ hc q=>pow_int_small hc.1 hc.2.1 hc.2.2 q
theorem unI{f:Value→Sem Value}{g:Int→Int}
 (rule:∀ (i:Int) (t:Tok) (s:Shared) (Q:Value→Shared→Prop) (E:Value→Shared→Prop),Q (.int (g i) s.toks) { s with toks:=s.toks + 1 }→wpAny (model X.prog X.w) X.A (f (.int i t)) Q E s):
 UnR X f (rU fun i=> .int (g i)):=by
 intro pins s σ H x v Q I rx h;obtain⟨i,rfl,q⟩:=h;obtain⟨t,rfl⟩:=rx;exact rule i t s _ _ ⟨.int (g i),H,I.tok _,⟨_,rfl⟩,q⟩
theorem bN9:UnR X (unaryOp .USub) (rU fun i=> .int (-i)):=unI fun _ _ _ _ _ q=>neg_int q
end
def scal:V→V→Bool
 |.non,.non=>true | .non,.int _=>true | .int _,.non=>true | .non,.bl _=>true | .bl _,.non=>true | .non,.str _=>true | .str _,.non=>true
 |.int _,.int _=>true | .bl _,.bl _=>true | .str _,.str _=>true | .byt _,.byt _=>true
 |.int _,.str _=>true | .str _,.int _=>true | .bl _,.str _=>true | .str _,.bl _=>true
 |_,_=>false
def rEq:R2:=fun x y H Q=>scal x y=true∧Q (.bl (decide (x=y))) H
def rNe:R2:=fun x y H Q=>scal x y=true∧Q (.bl (!decide (x=y))) H
theorem bw5{i j:Int}:decide (V.int i=V.int j)=(i == j):=by
 rw[Am6];simp
theorem bU2{i j:Bool}:decide (V.bl i=V.bl j)=(i == j):=by
 rw[Am6];simp
theorem bw4{i j:Str}:decide (V.str i=V.str j)=(i == j):=by
 rw[Am6];simp
theorem bw6{i j:Array UInt8}:decide (V.byt i=V.byt j)=(i.toList == j.toList):=by
 rw[Am6];cases i;cases j;simp
section
variable{X:Cx}{a b c:Expr}{ta tb tc:TE}{pos:Pos}
theorem ad1{pins:List (Addr×Obj)}{σ:St}{H:Hp}{s:Shared}{Q:VK}{k k':Bool}(I:Inv X pins σ H s)(q:Q (.bl k) H)(e:k=k'):EP X pins σ Q (.bool k') s:=by
 subst e;exact⟨.bl k,H,I,rfl,q⟩
theorem bh9:OpR X (compareOp .Eq) rEq:=by
 intro pins s σ H x y v u Q I rx ry h;obtain⟨hs,q⟩:=h;cases x with
 |non=>
   cases rx;cases y with
   |non=>cases ry; exact PySem.EqNone.eq_none_none (ad1 I q (by simp))
   |bl j=>cases ry; exact PySem.EqNone.eq_none_bool (ad1 I q (by simp))
   |int j=>obtain⟨t',rfl⟩:=ry; exact PySem.EqNone.eq_none_int (ad1 I q (by simp))
   |str j=>obtain⟨t',rfl⟩:=ry; exact PySem.EqNone.eq_none_str (ad1 I q (by simp))
   |_=>exact absurd (show false=true from hs) Ab1
 |bl i=>
   cases rx;cases y with
   |non=>cases ry; exact PySem.EqNone.eq_bool_none (ad1 I q (by simp))
   |bl j=>cases ry; exact eq_bool (ad1 I q bU2)
   |str j=>obtain⟨t',rfl⟩:=ry; exact PySem.EqMixed.eq_bool_str (ad1 I q (by simp))
   |_=>exact absurd (show false=true from hs) Ab1
 |int i=>
   obtain⟨t,rfl⟩:=rx;cases y with
   |non=>cases ry; exact PySem.EqNone.eq_int_none (ad1 I q (by simp))
   |int j=>obtain⟨t',rfl⟩:=ry; exact eq_int (ad1 I q bw5)
   |str j=>obtain⟨t',rfl⟩:=ry; exact PySem.EqMixed.eq_int_str (ad1 I q (by simp))
   |_=>exact absurd (show false=true from hs) Ab1
 |str i=>
   obtain⟨t,rfl⟩:=rx;cases y with
   |non=>cases ry; exact PySem.EqNone.eq_str_none (ad1 I q (by simp))
   |bl j=>cases ry; exact PySem.EqMixed.eq_str_bool (ad1 I q (by simp))
   |int j=>obtain⟨t',rfl⟩:=ry; exact PySem.EqMixed.eq_str_int (ad1 I q (by simp))
   |str j=>obtain⟨t',rfl⟩:=ry; exact eq_str (ad1 I q bw4)
   |_=>exact absurd (show false=true from hs) Ab1
 |byt i=>
   obtain⟨t,rfl⟩:=rx;cases y with
   |byt j=>obtain⟨t',rfl⟩:=ry; exact PySem.W.eq_bytes (ad1 I q bw6)
   |_=>exact absurd (show false=true from hs) Ab1
 |_=>cases y <;> exact absurd (show false=true from hs) Ab1
theorem cy7:OpR X (compareOp .NotEq) rNe:=by
 intro pins s σ H x y v u Q I rx ry h;obtain⟨hs,q⟩:=h;cases x with
 |non=>
   cases rx;cases y with
   |non=>cases ry; exact PySem.EqNone.ne_none_none (ad1 I q (by simp))
   |bl j=>cases ry; exact PySem.EqNone.ne_none_bool (ad1 I q (by simp))
   |int j=>obtain⟨t',rfl⟩:=ry; exact PySem.EqNone.ne_none_int (ad1 I q (by simp))
   |str j=>obtain⟨t',rfl⟩:=ry; exact PySem.EqNone.ne_none_str (ad1 I q (by simp))
   |_=>exact absurd (show false=true from hs) Ab1
 |bl i=>
   cases rx;cases y with
   |non=>cases ry; exact PySem.EqNone.ne_bool_none (ad1 I q (by simp))
   |bl j=>cases ry; exact ne_bool (ad1 I q (congrArg not bU2))
   |str j=>obtain⟨t',rfl⟩:=ry; exact PySem.EqMixed.ne_bool_str (ad1 I q (by simp))
   |_=>exact absurd (show false=true from hs) Ab1
 |int i=>
   obtain⟨t,rfl⟩:=rx;cases y with
   |non=>cases ry; exact PySem.EqNone.ne_int_none (ad1 I q (by simp))
   |int j=>obtain⟨t',rfl⟩:=ry; exact ne_int (ad1 I q (congrArg not bw5))
   |str j=>obtain⟨t',rfl⟩:=ry; exact PySem.EqMixed.ne_int_str (ad1 I q (by simp))
   |_=>exact absurd (show false=true from hs) Ab1
 |str i=>
   obtain⟨t,rfl⟩:=rx;cases y with
   |non=>cases ry; exact PySem.EqNone.ne_str_none (ad1 I q (by simp))
   |bl j=>cases ry; exact PySem.EqMixed.ne_str_bool (ad1 I q (by simp))
   |int j=>obtain⟨t',rfl⟩:=ry; exact PySem.EqMixed.ne_str_int (ad1 I q (by simp))
   |str j=>obtain⟨t',rfl⟩:=ry; exact ne_str (ad1 I q (congrArg not bw4))
   |_=>exact absurd (show false=true from hs) Ab1
 |byt i=>
   obtain⟨t,rfl⟩:=rx;cases y with
   |byt j=>obtain⟨t',rfl⟩:=ry; exact PySem.W.ne_bytes (ad1 I q (congrArg not bw6))
   |_=>exact absurd (show false=true from hs) Ab1
 |_=>cases y <;> exact absurd (show false=true from hs) Ab1
theorem bq5:OpR X (compareOp .Lt) (rI0 fun i j=> .bl (decide (i < j))):=opB0 fun _ _ _ _ _ _ _ q=>lt_int q
theorem bI4:OpR X (compareOp .Gt) (rI0 fun i j=> .bl (decide (j < i))):=opB0 fun _ _ _ _ _ _ _ q=>gt_int q
theorem op_ge:OpR X (compareOp .GtE) (rI0 fun i j=> .bl (decide (j≤i))):=opB0 fun _ _ _ _ _ _ _ q=>ge_int q
theorem bb6:OpR X (compareOp .Is) (fun x y H Q=>y= .non∧Q (.bl (decide (x= .non))) H):=by
 intro pins s σ H x y v u Q I rx ry h;obtain⟨rfl,q⟩:=h;cases ry;refine is_none_gen (ad1 I q ?_)
 cases x <;> first
  |(cases rx; rfl)
  |(obtain⟨t,rfl⟩:=rx; rfl)
theorem OpR.or{f:Value→Value→Sem Value}{r r':R2}(h:OpR X f r)(h':OpR X f r'):OpR X f (fun x y H Q=>r x y H Q∨r' x y H Q):=by
 intro pins s σ H x y v u Q I rx ry q;rcases q with q | q
 ·exact h pins s σ H x y v u Q I rx ry q
 ·exact h' pins s σ H x y v u Q I rx ry q
theorem ae4(b:Expr){op:CmpOp}(h:op≠ .In:=by decide)(h2:op≠ .NotIn:=by decide):behindInMarks op b=false:=by
 have e1:(op == CmpOp.In)=false:=by cases op <;> first | rfl | exact absurd rfl h
 have e2:(op == CmpOp.NotIn)=false:=by cases op <;> first | rfl | exact absurd rfl h2
 cases b <;> simp[behindInMarks,e1,e2]
theorem bp6{op:CmpOp}{r:R2}(ho:OpR X (compareOp op) r)(ha:PE X a ta)(hb:PE X b tb)(hm:behindInMarks op b=false):PE X (.Compare a [op] [b] pos) (tOp r ta tb):=by
 intro pins s σ H Q I h;exact wpAny_Compare1 (binT ha hb I h fun v u s2 x y H2 I2 rx ry q=>ho pins s2 σ H2 x y v u Q I2 rx ry q) hm
def cs1(t:TE):TT:=fun σ H Q=>t σ H fun x H'=>∃ k,x= .bl k∧Q k H'
theorem ac8{op:CmpOp}{r:R2}(ho:OpR X (compareOp op) r)(ha:PE X a ta)(hb:PE X b tb)(hm:behindInMarks op b=false):PT X (.Compare a [op] [b] pos) (cs1 (tOp r ta tb)):=by
 intro pins s σ H Q I h
 refine wpAny_isTrue_Compare1 (thn (ha pins s σ H _ I h) fun v s1 ⟨x,H1,I1,r1,q1⟩=>thn (hb pins s1 σ H1 _ I1 q1) fun u s2 ⟨y,H2,I2,r2,q2⟩=>
  thn (ho pins s2 σ H2 x y v u _ I2 r1 r2 q2) fun c s3 ⟨z,H3,I3,r3,k,e,q3⟩=>?_) hm
 subst e;cases r3;exact Ae7 ⟨H3,I3,q3⟩
theorem bc7:(sizeLine:Nat) < 2 ^ 63:=by rw[As6]; decide
theorem bD7{x:V}{us:List Value}(r:Vals [x] us):∃ u,us=[u]∧RelV x u:=by
 cases r with
 |cons r1 r2=>cases r2; exact⟨_,rfl,r1⟩
theorem vals2{x y:V}{us:List Value}(r:Vals [x,y] us):∃ u w',us=[u,w']∧RelV x u∧RelV y w':=by
 cases r with
 |cons r1 r2=>
   cases r2 with
   |cons r3 r4=>cases r4; exact⟨_,_,rfl,r1,r3⟩
end
structure ObjM (h:Heap) (x dx C:Addr) (mA:Str→Option Value):Prop where
 obj:h.get? x=some (PySem.W.instObj C dx)
 ns:h.Ns1 dx mA
 ne:dx≠x
theorem bs5{h:Heap}{dx:Addr}{mA:Str→Option Value}(n:h.Ns1 dx mA):∃ od,h.get? dx=some od∧∀ name,PySem.W.lookIn name od=some (mA name):=by
 obtain⟨o,es,ep,ho,hd,hk,_,hm⟩:=n;refine⟨o,ho,fun name=>?_⟩;have e:=hm name;unfold nsFind findBy at e;rw[← Array.find?_toList] at e;unfold PySem.W.lookIn;rw[hd];dsimp only;split
 ·rename_i y q;rw[q] at e;exact congrArg some e
 · rename_i q;rw[q] at e
   have a:es.toList.any (·.refKey)=false:=by
    rw[List.any_eq_false];intro y hy;obtain⟨z,t,hkey⟩:=hk y (Array.mem_toList_iff.mp hy);simp[DictEntry.refKey,hkey]
   have a':¬ es.toList.any (·.refKey)=true:=by rw[a]; exact Ab1
   rw[Aa3 a'];exact congrArg some e
theorem ObjM.look{h:Heap}{x dx C:Addr}{mA:Str→Option Value}(I:ObjM h x dx C mA):∃ od,PySem.W.InstAt h x (PySem.W.instObj C dx) C (some od)∧∀ name,PySem.W.lookIn name od=some (mA name):=
 let ⟨od,ho,hl⟩:=bs5 I.ns
 ⟨od,⟨I.obj,rfl,rfl,ho⟩,hl⟩
section
variable{prog:Program}{w:World}{A:Around}{E:Value→Shared→Prop}{s:Shared}{K:PySem.W.Frag}{x dx C f:Addr}{mA:Str→Option Value}{name:Str}{v:Value}
theorem cm5{expr:Bool}{Q:Value→Shared→Prop}(X:K.In s.heap)(I:ObjM s.heap x dx C mA)(hg:PySem.W.plainGet K C name=true)(hh:PySem.W.hasDictIn K C=true)
 (ha:PySem.W.findIn K (.ref C) name=some none) (hv:mA name=some v) (hv':PySem.W.handedIn v=true) (h:Q v { s with toks:=s.toks + 1 }):
 wpAny (model prog w) A (getAttr (.ref x) name expr) Q E s:=by
 obtain⟨od,J,hl⟩:=I.look;exact PySem.W.get_value X J (Am7 hg).1 (PySem.W.findObj_own hh ha rfl (by rw[hl,hv])) hv' h
theorem bL4{pl:Sem Bool}{Q:Value×List Value→Shared→Prop}(X:K.In s.heap)(I:ObjM s.heap x dx C mA)(hg:PySem.W.plainGet K C name=true)
 (hf:PySem.W.findIn K (.ref C) name=some (some (.ref f))) (ht:PySem.W.isFn K (.ref f)=true) (hv:mA name=none) (h:Q (.ref f,[.ref x]) s):
 wpAny (model prog w) A (getMethod (.ref x) name pl) Q E s:=by
 obtain⟨od,J,hl⟩:=I.look;exact PySem.W.method_fn X J (Am7 hg).1 (Am7 hg).2 hf (beq_iff_eq.mp ht) (by show(PySem.W.lookIn name od).map (·.isSome)=some false; rw[hl,hv]; rfl) h
theorem ce4{ns:List Str}{Q:Unit→Shared→Prop}(X:K.In s.heap)(I:ObjM s.heap x dx C mA)
 (hs:PySem.W.findIn K (.ref C) "__setattr__" = some (some (.builtin "object.__setattr__"))) (hp:PySem.W.plainOver K C=true) (ht:PySem.W.takerIn K C name=some none) (hh:PySem.W.hasDictIn K C=true)
 (hw:PySem.Within mA ns) (hsz:ns.length≤sizeLine)
 (h:∀ h',ObjM h' x dx C (fun y=>if y=name then some v else mA y)→Heap.SameBut dx s.heap h'→Q () { s with heap:=h',toks:=s.toks + 2 }):
 wpAny (model prog w) A (setAttr (.ref x) name v) Q E s:=by
 obtain⟨od,J,hl⟩:=I.look;refine PySem.W.set_plain X J hs (PySem.W.osa_open (s:={ s with toks:=s.toks + 1 }) (r:=none) X J hp ht fun b=>?_);obtain⟨cd,hc,hd'⟩:=PySem.W.any_some hh;have hx:s.heap.get? x=some ⟨.ref C,some dx,.plain,#[]⟩:=I.obj;refine Aa0 (Aa9 (Aa0 (Aa0 (wpAny_loadPart hx (Aa0 (PySem.W.Looks.here (s:={ s with toks:=s.toks + 1 }) (PySem.W.looks_clsIn X hc) ?_))))));rw[hd'];refine Aa9 (a:=some dx) (Aa0 (Aa9 (Aa0 ?_)));refine wpAny_nsSet1 (s:={ s with toks:=s.toks + 1 }) I.ns fun h' hn2 hs2=>?_;obtain⟨oD,esD,epD,hoD,hdD,hcD⟩:=hn2.count (PySem.Within.cons name v hw);refine Aa0 (wpAny_lookBehind hoD (by rw[hdD]; exact pastItsLine_dict (Ae3 hcD (by rw[Ab2]; omega))) ?_);exact Aa9 (h _ ⟨(hs2.2 _ (Ai1 I.ne)).trans I.obj,hn2,I.ne⟩ hs2)
theorem bJ7{R:Result→Shared→Prop}{vs:List Value}{kw:List (Str×Value)}(X:K.In s.heap)(hm:PySem.W.makesIn K C=true)
 (hi:PySem.W.findIn K (.ref C) "__init__" = some (some (.ref f))) (hf:PySem.W.typeIn K (.ref f)=some (.type "function"))
 (h:codeAny (model prog w) (A.under (.builtin "type.__call__" ⟨.ref C :: vs,kw⟩)) (.call (.ref f) ⟨.ref (s.heap.objs.size + 1) :: vs,kw⟩) (PySem.W.InitBack (s.heap.objs.size + 1) R)
   { s with heap:=(s.heap.push PySem.W.emptyDict).push (PySem.W.instObj C s.heap.objs.size) }):
 codeAny (model prog w) A (.call (.ref C) ⟨vs,kw⟩) R s:=by
 obtain⟨hh,g,d,t,os⟩:=s;exact PySem.W.make_core (PySem.W.makes_of X hm) (PySem.W.looks_findIn X hi) (fun self=>PySem.W.bind_fn X self hf) (.inl rfl) h
end
def putF(f:Str)(v:V):List (Str×V)→List (Str×V)
 |[]=>[(f,v)]
 |(g,x) :: r=>if g=f then (g,v) :: r else (g,x) :: putF f v r
theorem ay6(f g:Str)(v:V):∀ fs:List (Str×V),(putF f v fs).lookup g=if g=f then some v else fs.lookup g
 | []=>by
   show List.lookup g [(f,v)]=_;by_cases h:g=f
   ·have hb:(g == f)=true:=beq_iff_eq.mpr h;simp only[List.lookup,hb,Aa6 h]
   ·have hb:(g == f)=false:=beq_eq_false_iff_ne.mpr h;simp only[List.lookup,hb,Aa3 h]
 | (k,x) :: r=>by
   have ih:=ay6 f g v r;rw[show putF f v ((k,x) :: r)=(if k=f then (k,v) :: r else (k,x) :: putF f v r) from rfl];by_cases hk:k=f
   · rw[Aa6 hk];by_cases h:g=k
     ·have hb:(g == k)=true:=beq_iff_eq.mpr h;simp only[List.lookup,hb,Aa6 (h.trans hk)]
     ·have hb:(g == k)=false:=beq_eq_false_iff_ne.mpr h;simp only[List.lookup,hb,Aa3 (fun e:g=f=>h (e.trans hk.symm))]
   · rw[Aa3 hk];by_cases h:g=k
     ·have hb:(g == k)=true:=beq_iff_eq.mpr h;simp only[List.lookup,hb,Aa3 (fun e:g=f=>hk (h.symm.trans e))]
     ·have hb:(g == k)=false:=beq_eq_false_iff_ne.mpr h;simp only[List.lookup,hb];exact ih
theorem az2(f:Str)(v:V):∀ fs:List (Str×V),f∈(putF f v fs).map (·.1)∧∀ g,g∈fs.map (·.1)→g∈(putF f v fs).map (·.1)
 |[]=>⟨by simp[putF],fun g h=>by simp at h⟩
 | (k,x) :: r=>by
   obtain⟨i1,i2⟩:=az2 f v r;rw[show putF f v ((k,x) :: r)=(if k=f then (k,v) :: r else (k,x) :: putF f v r) from rfl];by_cases hk:k=f
   ·rw[Aa6 hk];subst hk;exact⟨by simp,fun g h=>by simpa using h⟩
   · rw[Aa3 hk];refine⟨?_,fun g h=>?_⟩
     ·rw[Aa2];exact Aa4 _ i1
     · rw[Aa2] at h ⊢;rcases List.mem_cons.mp h with e | e
       ·exact List.mem_cons.mpr (.inl e)
       ·exact Aa4 _ (i2 g e)
theorem ay9(f:Str)(v:V):∀ fs:List (Str×V),(putF f v fs).length≤fs.length + 1
 |[]=>by simp[putF]
 | (k,x) :: r=>by
   have ih:=ay9 f v r;rw[show putF f v ((k,x) :: r)=(if k=f then (k,v) :: r else (k,x) :: putF f v r) from rfl];by_cases hk:k=f
   ·rw[Aa6 hk,Ab2,Ab2]; omega
   ·rw[Aa3 hk,Ab2,Ab2]; omega
theorem RelO.some_of{v:V}{o:Option Value}(r:RelO (some v) o):∃ u,o=some u∧RelV v u:=by
 cases o with
 |none=>exact(show False from r).elim
 |some u=>exact⟨u,rfl,r⟩
theorem RelO.none_of{o:Option Value}(r:RelO none o):o=none:=by
 cases o with
 |none=>rfl
 |some u=>exact(show False from r).elim
theorem bu7{v:V}{u:Value}(r:RelV v u):PySem.W.handedIn u=true:=by
 cases v with
 |non=>cases(show u=Value.none from r); rfl
 |bl b=>cases(show u=Value.bool b from r); rfl
 |int i=>obtain⟨t,e⟩:=(show ∃ t,u=Value.int i t from r); cases e; rfl
 |str x=>obtain⟨t,e⟩:=(show ∃ t,u=Value.str x t from r); cases e; rfl
 |byt b=>obtain⟨t,e⟩:=(show ∃ t,u=Value.bytes b t from r); cases e; rfl
 |flt b=>obtain⟨t,e⟩:=(show ∃ t,u=Value.float b t from r); cases e; rfl
 |ref a=>cases(show u=Value.ref a from r); rfl
 |ty n=>cases(show u=Value.type n from r); rfl
section
variable{P:Program}{w:World}{H H':Hp}{h h':Heap}{a C dx:Addr}{fs fs':List (Str×V)}
theorem aI3(hok:HOk P w H h)(e:H a=some (.ins C dx fs)):∃ mA,ObjM h a dx C mA∧(∀ f,RelO (fs.lookup f) (mA f))∧PySem.Within mA (fs.map (·.1))∧fs.length≤1000∧H dx=some (.own a):=by
 obtain⟨d,z,ne,ob,mA,n,r,q⟩:=(show ObjOk P w H h a (.ins C dx fs) from hok a _ e);exact⟨mA,⟨ob,n,ne⟩,r,q,z,d⟩
end
structure Cls (K:PySem.W.Frag) (C:Addr):Prop where
 pg:PySem.W.plainGet K C Str.empty=true
 hd:PySem.W.hasDictIn K C=true
 po:PySem.W.plainOver K C=true
 sa:PySem.W.findIn K (.ref C) "__setattr__" = some (some (.builtin "object.__setattr__"))
theorem Cls.get{K:PySem.W.Frag}{C:Addr}(c:Cls K C)(f:Str):PySem.W.plainGet K C f=true:=c.pg
def NoAttr(K:PySem.W.Frag)(C:Addr)(f:Str):Prop:=PySem.W.findIn K (.ref C) f=some none
theorem NoAttr.taker{K:PySem.W.Frag}{C:Addr}{f:Str}(n:NoAttr K C f):PySem.W.takerIn K C f=some none:=by
 unfold PySem.W.takerIn;rw[show PySem.W.findIn K (.ref C) f=some none from n];rfl
structure Meth (K:PySem.W.Frag) (C:Addr) (m:Str) (f:Addr):Prop where
 at_:PySem.W.findIn K (.ref C) m=some (some (.ref f))
 fn:PySem.W.isFn K (.ref f)=true
 kp:PySem.W.keepIn K (.ref f)=true
section
variable{X:Cx}{pins:List (Addr×Obj)}{σ:St}{H:Hp}{s:Shared}{a C dx:Addr}{fs:List (Str×V)}{f:Str}{v:V}{A:Around}{E:Value→Shared→Prop}
theorem bj1{b:Bool}{Q:Value→Shared→Prop}(I:Inv X pins σ H s)(e:H a=some (.ins C dx fs))(c:Cls X.K C)(n:NoAttr X.K C f)(l:fs.lookup f=some v)
 (h:∀ u s',Inv X pins σ H s'→RelV v u→Q u s'):wpAny (model X.prog X.w) A (getAttr (.ref a) f b) Q E s:=by
 obtain⟨mA,O,r,_,_,_⟩:=aI3 I.hok e;obtain⟨u,hu,ru⟩:=RelO.some_of (v:=v) (o:=mA f) (by rw[← l]; exact r f);exact cm5 I.kIn O (c.get f) c.hd n hu (bu7 ru) (h u _ (I.tok _) ru)
theorem aF1{m:Str}{g:Addr}{pl:Sem Bool}{Q:Value×List Value→Shared→Prop}(I:Inv X pins σ H s)(e:H a=some (.ins C dx fs))(c:Cls X.K C)(k:Meth X.K C m g)(l:fs.lookup m=none)
 (h:Q (.ref g,[.ref a]) s):wpAny (model X.prog X.w) A (getMethod (.ref a) m pl) Q E s:=by
 obtain⟨mA,O,r,_,_,_⟩:=aI3 I.hok e;have hn:mA m=none:=RelO.none_of (by rw[← l]; exact r m);exact bL4 I.kIn O (c.get m) k.at_ k.fn hn h
theorem bh4{y:V}{u:Value}{Q:Unit→Shared→Prop}(I:Inv X pins σ H s)(e:H a=some (.ins C dx fs))(c:Cls X.K C)(n:NoAttr X.K C f)(hl:fs.length < 1000)(ry:RelV y u)
 (h:∀ s',Inv X pins σ (upd H a (.ins C dx (putF f y fs))) s'→Q () s'):wpAny (model X.prog X.w) A (setAttr (.ref a) f u) Q E s:=by
 obtain⟨mA,O,r,wi,_,ho⟩:=aI3 I.hok e;have hz:(fs.map (·.1)).length≤sizeLine:=by rw[Aa7,As6]; omega
 refine ce4 I.kIn O c.sa c.po n.taker c.hd wi hz fun h' O' sb=>h _ ?_;have hd:∃ o,h'.get? dx=some o:=let ⟨o,_,_,e',_⟩:=O'.ns; ⟨o,e'⟩
 refine I.write (x:=a) (e:=dx) (by rw[e]; exact True.intro) (.inr ho) (fun b q hb z=>(sb.2 b hb).trans z) hd ?_;refine⟨by rw[ab0 O.ne]; exact ho,?_,O.ne,O'.obj,_,O'.ns,fun g=>?_,fun g hg=>?_⟩
 ·have:=ay9 f y fs; omega
 · show RelO ((putF f y fs).lookup g) (if g=f then some u else mA g);rw[ay6];by_cases q:g=f
   ·rw[Aa6 q,Aa6 q]; exact ry
   ·rw[Aa3 q,Aa3 q]; exact r g
 · by_cases q:g=f
   ·rw[q]; exact(az2 f y fs).1
   ·refine(az2 f y fs).2 g (wi g fun z=>hg ?_);show(if g=f then some u else mA g)=none;rw[Aa3 q]; exact z
theorem Inv.made(I:Inv X pins σ H s):Inv X pins σ (upd (upd H s.heap.objs.size (.own (s.heap.objs.size + 1))) (s.heap.objs.size + 1) (.ins C s.heap.objs.size []))
 { s with heap:=(s.heap.push PySem.W.emptyDict).push (PySem.W.instObj C s.heap.objs.size) }:=by
 have e1:(s.heap.push PySem.W.emptyDict).get? s.heap.objs.size=some PySem.W.emptyDict:=Ab8 s.heap rfl
 have e2:((s.heap.push PySem.W.emptyDict).push (PySem.W.instObj C s.heap.objs.size)).get? (s.heap.objs.size + 1)=some (PySem.W.instObj C s.heap.objs.size):=by
  have:=Ab8 (s.heap.push PySem.W.emptyDict) (o:=PySem.W.instObj C s.heap.objs.size) rfl
  rwa [Aj4] at this
 have e3:(s.heap.push PySem.W.emptyDict).Ns s.heap.objs.size (fun _=>none):=⟨PySem.W.emptyDict,#[],_,e1,rfl,(fun e he=>absurd he (by simp)),fun _=>rfl⟩;have I1:=I.laid (a:=s.heap.objs.size) (o:= .own (s.heap.objs.size + 1)) (h':=s.heap.push PySem.W.emptyDict) (t':=s.toks) (fun b u q=>Aa1 _ q) (Ab7 _) ⟨_,e1⟩;refine I1.laid (a:=s.heap.objs.size + 1) (o:= .ins C s.heap.objs.size []) (t':=s.toks) (fun b u q=>Aa1 _ q) (Nat.le_of_eq (Aj4 _ _)) ?_;have ne:s.heap.objs.size≠s.heap.objs.size + 1:=Ac5 (Aj2 _);refine⟨by rw[ab0 ne,ab3],Ai8 _,ne,e2,fun _=>none,(Heap.Ns1.of_empty e3).at fun o q=>Aa1 _ q,fun _=>True.intro,fun y hy=>absurd rfl hy⟩
theorem cq9{prog:Program}{w:World}{env:Env}{e:Expr}{f:Str}{pos:Pos}{s:Shared}{Q:Value→Shared→Prop}(hb:attributeBase e f env (eval e env)=eval e env)
 (h:wpAny (model prog w) A (eval e env) (fun o s₁=>wpAny (model prog w) A (getAttr o f true) Q E s₁) E s):wpAny (model prog w) A (eval (.Attribute e f pos) env) Q E s:=
 Attribute_any_ h (by rw[arm_eval_Attribute,hb])
end
def tFld(K:PySem.W.Frag)(ta:TE)(f:Str):TE:=fun σ H Q=>ta σ H fun x H1=>∃ a C dx fs v,x= .ref a∧H1 a=some (.ins C dx fs)∧Cls K C∧NoAttr K C f∧fs.lookup f=some v∧Q v H1
def sFld(K:PySem.W.Frag)(ta tv:TE)(f:Str):TS:=fun D σ H=>tv σ H fun y H1=>ta σ H1 fun x H2=>∃ a C dx fs,x= .ref a∧H2 a=some (.ins C dx fs)∧Cls K C∧NoAttr K C f∧fs.length < 1000∧
 D.nx σ (upd H2 a (.ins C dx (putF f y fs)))
section
variable{X:Cx}{o e value:Expr}{f:Str}{pos pos' tpos:Pos}{ta tv:TE}
theorem cw8(he:PE X e ta)(hb:attributeBase e f X.env (eval e X.env)=eval e X.env):PE X (.Attribute e f pos) (tFld X.K ta f):=by
 intro pins s σ H Q I h;refine cq9 hb (thn (he pins s σ H _ I h) fun u s1 ⟨x,H1,I1,rx,a,C,dx,fs,v,ex,ea,c,n,l,q⟩=>?_);subst ex;obtain rfl:u=Value.ref a:=rx;exact bj1 I1 ea c n l fun u' s2 I2 ru=>⟨v,H1,I2,ru,q⟩
theorem am5(ha:PE X o ta)(hv:PE X value tv)(hs:swapsWith value (some (.Attribute o f pos')) pos.line X.env=pure false):PS X (.Assign [.Attribute o f pos'] value pos) (sFld X.K ta tv f):=by
 intro pins s σ H D I h;refine plainObj_wpAny_Assign_Attribute (thn (hv pins s σ H _ I h) fun u s1 ⟨y,H1,I1,ry,q⟩=>thn (ha pins s1 σ H1 _ I1 q) fun ov s2 ⟨x,H2,I2,rx,a,C,dx,fs,ex,ea,c,n,l,q2⟩=>?_) hs;subst ex;obtain rfl:ov=Value.ref a:=rx;exact bh4 I2 ea c n l ry fun s3 I3=>⟨σ,_,I3,q2⟩
end
section
variable{X:Cx}{pins:List (Addr×Obj)}{σ:St}{H:Hp}{s:Shared}{A:Around}{E:Value→Shared→Prop}{Q:Value→Shared→Prop}{c:Value}{b:Bool}
inductive TyOf (K:PySem.W.Frag) (H:Hp):V→Value→Prop where
 |non:TyOf K H .non (.type "NoneType")
 |bl (x:Bool):TyOf K H (.bl x) (.type "bool")
 |int (i:Int):TyOf K H (.int i) (.type "int")
 |str (x:Str):TyOf K H (.str x) (.type "str")
 |flt (x:UInt64):TyOf K H (.flt x) (.type "float")
 |lst {a:Addr} {xs:List V} (e:H a=some (.lst xs)):TyOf K H (.ref a) (.type "list")
 |frz {a:Addr} {o:Obj} {xs:List V} (e:H a=some (.frz o (.lst xs))):TyOf K H (.ref a) (.type "list")
 |tup {a:Addr} {xs:List V} (e:H a=some (.tup xs)):TyOf K H (.ref a) (.type "tuple")
 |dK {a:Addr} {kvs:List (Key×V)} (e:H a=some (.dK kvs)):TyOf K H (.ref a) (.type "dict")
 |dT {a:Addr} {kvs:List (List Key×V)} (e:H a=some (.dT kvs)):TyOf K H (.ref a) (.type "dict")
 | ins {a C dx:Addr} {fs:List (Str×V)} (e:H a=some (.ins C dx fs)) (cl:Cls K C) (ha:PySem.W.findIn K (.ref C) "__class__" = some (some (.builtin "object.__class__")))
    (hn:PySem.W.specialIn K (.builtin "object.__class__") "__get__" = some (some (.builtin "getset_descriptor.__get__"))) (htk:PySem.W.takesIn K (.builtin "object.__class__")=some true)
    (hm:PySem.W.mroIn K C (.type "object")=some true):TyOf K H (.ref a) (.ref C)
theorem bt6{x:V}{u t:Value}(I:Inv X pins σ H s)(rx:RelV x u)(ty:TyOf X.K H x t)(e:PySem.W.kitOne X.K t c=some b)(h:∀ tk,Q (.bool b) { s with toks:=tk }):
 wpAny (model X.prog X.w) A (call (.builtin "isinstance") [u,c]) Q E s:=by
 cases ty with
 |non=>cases(show u=Value.none from rx); exact Ae5 PySem.W.kitx_none I.kIn True.intro e (fun z=>nomatch z) h
 |bl y=>cases(show u=Value.bool y from rx); exact Ae5 PySem.W.kitx_bool I.kIn True.intro e (fun z=>nomatch z) h
 |int i=>obtain⟨t,q⟩:=(show ∃ t,u=Value.int i t from rx); cases q; exact Ae5 PySem.W.kitx_int I.kIn True.intro e (fun z=>nomatch z) h
 |str y=>obtain⟨t,q⟩:=(show ∃ t,u=Value.str y t from rx); cases q; exact Ae5 PySem.W.kitx_str I.kIn True.intro e (fun z=>nomatch z) h
 |flt y=>obtain⟨t,q⟩:=(show ∃ t,u=Value.float y t from rx); cases q; exact Ae5 PySem.W.kitx_float I.kIn True.intro e (fun z=>nomatch z) h
 |@lst a xs ea=>
   cases(show u=Value.ref a from rx);obtain⟨_,_,n,_,h1⟩:=(show ObjOk X.prog X.w H s.heap a (.lst xs) from I.hok a _ ea);exact Ae5 PySem.W.kitx_list I.kIn ⟨_,h1,rfl⟩ e (fun z=>nomatch z) h
 |@frz a ob xs ea=>
   cases(show u=Value.ref a from rx);obtain⟨_,_,_,n,_,h1⟩:=(show ObjOk X.prog X.w H s.heap a (.frz ob (.lst xs)) from I.hok a _ ea);exact Ae5 PySem.W.kitx_list I.kIn ⟨_,h1,rfl⟩ e (fun z=>nomatch z) h
 |@tup a xs ea=>
   cases(show u=Value.ref a from rx);obtain⟨_,_,_,p⟩:=(show ObjOk X.prog X.w H s.heap a (.tup xs) from I.hok a _ ea);obtain⟨o,h1,h2,_⟩:=p;exact Ae5 PySem.W.kitx_tuple I.kIn ⟨o,h1,h2⟩ e (fun z=>nomatch z) h
 |@dK a kvs ea=>
   cases(show u=Value.ref a from rx);obtain⟨_,_,vs,_,p⟩:=(show ObjOk X.prog X.w H s.heap a (.dK kvs) from I.hok a _ ea);obtain⟨o,es,ep,h1,h2,_⟩:=p;exact Ae5 PySem.W.kitx_dict I.kIn ⟨o,h1,h2.1⟩ e (fun z=>nomatch z) h
 |@dT a kvs ea=>
   cases(show u=Value.ref a from rx);obtain⟨_,_,xs,_,o,es,ep,h1,h2,_⟩:=(show ObjOk X.prog X.w H s.heap a (.dT kvs) from I.hok a _ ea);exact Ae5 PySem.W.kitx_dict I.kIn ⟨o,h1,h2.1⟩ e (fun z=>nomatch z) h
 |@ins a C dx fs ea cl ha hn htk hm=>
   cases(show u=Value.ref a from rx);obtain⟨mA,O,_⟩:=aI3 I.hok ea;obtain⟨od,J,_⟩:=O.look;exact Ae5 (PySem.W.kitx_own (cl.get _) cl.hd ha hn htk hm) I.kIn J e (fun z=>nomatch z) h
end
structure Room (k:Nat) (A:Around):Prop where
 hd:A.handled=none
 dp:A.depth + 3 * k + 5 < recursionLimit
 un:A.units + 16 * k + 200 < cLine
theorem Room.mono{j k:Nat}{A:Around}(r:Room k A)(h:j≤k):Room j A:=⟨r.hd,by have:=r.dp; omega,by have:=r.un; omega⟩
theorem Room.deeper{k:Nat}{A:Around}(r:Room (k + 1) A)(env:Env):Room k (A.deeper env):=
 ⟨r.hd,by have:=r.dp; show A.depth + 1 + 3 * k + 5 < _; omega,by have:=r.un; show A.units + 3 + 16 * k + 200 < _; omega⟩
theorem bi3{A:Around}{C:Addr}{us:List Value}{kw:List (Str×Value)}:(A.under (.builtin "type.__call__" ⟨.ref C :: us,kw⟩)).depth=A.depth + 1:=by
 first | rfl | simp[Around.under,Code.weight,Code.isCreation,Code.isGuard,Code.isCaller,Code.frames,Code.isFrame,guardIds]
theorem bi2{A:Around}{C:Addr}{us:List Value}{kw:List (Str×Value)}:(A.under (.builtin "type.__call__" ⟨.ref C :: us,kw⟩)).units=A.units + 1:=by
 first | rfl | simp[Around.under,Code.cUnits,Code.frames,Code.isFrame]
theorem Room.make{k:Nat}{A:Around}(r:Room (k + 1) A)(C:Addr)(us:List Value)(kw:List (Str×Value)):Room k (A.under (.builtin "type.__call__" ⟨.ref C :: us,kw⟩)):=
 ⟨r.hd,by have:=r.dp; rw[bi3]; omega,by have:=r.un; rw[bi2]; omega⟩
theorem Room.depth{k:Nat}{A:Around}(r:Room k A):A.depth < recursionLimit:=by have:=r.dp; omega
theorem Room.units{k:Nat}{A:Around}(r:Room k A):A.units + 64 < cLine:=by have:=r.un; omega
def tNil:TA:=fun _ H Q=>Q [] H
def af7(ta:TE)(tr:TA):TA:=fun σ H Q=>ta σ H fun x H1=>tr σ H1 fun xs H2=>Q (x :: xs) H2
section
variable{X:Cx}{e:Expr}{es:List Expr}{te:TE}{t:TA}{pos:Pos}
theorem aa2:PA X [] tNil:=fun _ _ _ _ H Q I h=>Ai2 ⟨[],H,I,.nil,h⟩
theorem aa0(ha:PE X e te)(hr:PA X es t)(hs:starEach (e :: es) X.env=(false,eval e X.env) :: starEach es X.env:=by rfl):PA X (e :: es) (af7 te t):=by
 intro pos pins s σ H Q I h;rw[hs];show wpAny _ _ (spliced ((false,eval e X.env) :: backTo pos (starEach es X.env))) _ _ s;refine Af3 (thn (ha pins s σ H _ I h) fun u s1 ⟨x,H1,I1,r1,q1⟩=>?_);exact thn (hr pos pins s1 σ H1 _ I1 q1) fun us s2 ⟨xs,H2,I2,r2,q2⟩=>⟨x :: xs,H2,I2,.cons r1 r2,q2⟩
def tTup(t:TA):TE:=fun σ H Q=>t σ H fun xs H1=>xs.length≤sizeLine∧∀ p,H1 p=none→Q (.ref p) (upd H1 p (.tup xs))
def tLst(t:TA):TE:=fun σ H Q=>t σ H fun xs H1=>xs.length≤sizeLine∧∀ p,H1 p=none→Q (.ref p) (upd H1 p (.lst xs))
theorem ai9{x1}(h:PA X es t):PE X (.Tuple es x1 pos) (tTup t):=by
 intro pins s σ H Q I hq;refine wpAny_Tuple_spliced (thn (h pos pins s σ H _ I hq) fun us s1 ⟨xs,H1,I1,r,z,q⟩=>⟨by rw[← r.length]; exact z,?_⟩);have hf:H1 s1.heap.objs.size=none:=I1.hok.fresh (Ab7 _);refine⟨.ref s1.heap.objs.size,upd H1 s1.heap.objs.size (.tup xs),I1.laid (t':=s1.toks) (fun b u e=>Aa1 _ e) (Ab7 _) ?_,rfl,q _ hf⟩;exact⟨z,us,r,⟨_,Ab8 _ rfl,rfl,_,rfl⟩⟩
theorem ao9(h:PA X es t):PE X (.List es pos) (tLst t):=by
 intro pins s σ H Q I hq;refine wpAny_List_spliced (thn (h pos pins s σ H _ I hq) fun us s1 ⟨xs,H1,I1,r,z,q⟩=>⟨by rw[← r.length]; exact z,?_⟩);have hf:H1 s1.heap.objs.size=none:=I1.hok.fresh (Ab7 _);refine⟨.ref s1.heap.objs.size,upd H1 s1.heap.objs.size (.lst xs),I1.laid (t':=s1.toks) (fun b u e=>Aa1 _ e) (Ab7 _) ?_,rfl,q _ hf⟩;exact⟨z,us,0,r,Ab8 _ rfl⟩
end
abbrev Sp:=List V→Hp→VK→XK→Prop
abbrev CXT:=List Env→Hp→Shared→XK→Value→Shared→Prop
structure Env0 (P:Program) (w:World) (K:PySem.W.Frag) (mg:Str→Option Value) (base:Heap) (A:Around) (outer:List Env) (s:Shared) (H:Hp):Prop where
 frames:A.frames=some outer
 mod:Mod K mg base
 bs:∀ b o,base.get? b=some o→s.heap.get? b=some o∧H b=none
 bsz:base.objs.size≤s.heap.objs.size
 funs:s.heap.FunFrames base outer
 frf:∀ b∈frs outer,H b=none
 hok:HOk P w H s.heap
 bare:AllBare s.gens
def CE(outer:List Env)(P:Program)(w:World)(H:Hp)(s:Shared)(Q:VK)(u:Value)(s':Shared):Prop:=
 ∃ v H',s'.os=s.os∧AllBare s'.gens∧Un (frs outer) [] H H' s.heap s'.heap∧HOk P w H' s'.heap∧RelV v u∧Q v H'
def CR(CX:CXT)(outer:List Env)(P:Program)(w:World)(H:Hp)(s:Shared)(Q:VK)(E:XK)(r:Result)(s':Shared):Prop:=
 match r with
 |.ok (.ret u)=>CE outer P w H s Q u s'
 |.ok _=>False
 |.error e=>CX outer H s E e s'
structure FnOk (P:Program) (w:World) (K:PySem.W.Frag) (mg:Str→Option Value) (base:Heap) (CX:CXT) (k:Nat) (f:Addr) (fd:FuncData) (ps:List Str) (sp:Sp):Prop where
 len:∀ vs H Q E,sp vs H Q E→vs.length=ps.length
 run:∀ (A:Around) (outer:List Env) (s:Shared) (H:Hp) (args:Args) (us:List Value) (vs:List V) (Q:VK) (E:XK),Room k A→Env0 P w K mg base A outer s H→BindsTo s fd args (ps.zip us)→Vals vs us→sp vs H Q E→
  codeAny (model P w) A (.call (.ref f) args) (CR CX outer P w H s Q E) s
theorem FnOk.imp{P:Program}{w:World}{K:PySem.W.Frag}{mg:Str→Option Value}{base:Heap}{CX:CXT}{k:Nat}{f:Addr}{fd:FuncData}{ps:List Str}{sp sp':Sp}(F:FnOk P w K mg base CX k f fd ps sp)
 (h:∀ vs H Q E,sp' vs H Q E→sp vs H Q E):FnOk P w K mg base CX k f fd ps sp':=
 ⟨fun vs H Q E q=>F.len vs H Q E (h _ _ _ _ q),fun A outer s H args us vs Q E hr he hb hv hs=>F.run A outer s H args us vs Q E hr he hb hv (h _ _ _ _ hs)⟩
theorem Env0.make{P:Program}{w:World}{K:PySem.W.Frag}{mg:Str→Option Value}{base:Heap}{A:Around}{outer:List Env}{s:Shared}{H:Hp}(e:Env0 P w K mg base A outer s H)(C:Addr)(us:List Value)(kw:List (Str×Value)):
 Env0 P w K mg base (A.under (.builtin "type.__call__" ⟨.ref C :: us,kw⟩)) outer s H:=⟨by first | exact e.frames | (simpa [Around.under,Code.envs,Code.isFrame,pushEnvs] using e.frames),e.mod,e.bs,e.bsz,e.funs,e.frf,e.hok,e.bare⟩
section
variable{X:Cx}{pins:List (Addr×Obj)}{σ:St}{H:Hp}{s s':Shared}
theorem Inv.env0(I:Inv X pins σ H s):Env0 X.prog X.w X.K X.mg X.base X.A X.stack s H:=
 ⟨I.ok.frames,I.ok.mod,I.bs,Ae3 I.ok.bsz I.sz,I.stack,I.stkFree,I.hok,I.bare⟩
theorem Inv.after{Q:VK}{u:Value}(I:Inv X pins σ H s)(h:CE X.stack X.prog X.w H s Q u s'):EP X pins σ Q u s':=by
 obtain⟨v,H',os,bare,un,hok,r,q⟩:=h;obtain⟨hh,g,d,t,os'⟩:=s';obtain rfl:os'=s.os:=os;exact⟨v,H',I.call (h':=hh) (g':=g) (d':=d) (t':=t) (ch:=[]) un hok bare (fun b z=>absurd z (by simp)),r,q⟩
end
def bE1(sp:Sp)(dvs:List V)(E:XK)(t:TA):TE:=fun σ H Q=>t σ H fun vs H1=>sp (vs ++ dvs) H1 Q E
def aG3(C:Addr)(m:Str)(sp:Sp)(dvs:List V)(E:XK)(ta:TE)(t:TA):TE:=fun σ H Q=>ta σ H fun x H1=>∃ a dx fs,x= .ref a∧H1 a=some (.ins C dx fs)∧fs.lookup m=none∧
 t σ H1 fun vs H2=>sp (x :: (vs ++ dvs)) H2 Q E
def bV1(C:Addr)(sp:Sp)(dvs:List V)(E:XK)(t:TA):TE:=fun σ H Q=>t σ H fun vs H1=>∀ x dx,H1 x=none→H1 dx=none→dx≠x→
 sp (.ref x :: (vs ++ dvs)) (upd (upd H1 dx (.own x)) x (.ins C dx [])) (fun v H2=>v= .non∧Q (.ref x) H2) E
def Binds(K:PySem.W.Frag)(fd:FuncData)(ps:List Str)(ds:List Value):Prop:=
 ∀ (s:Shared) (us:List Value),K.In s.heap→(us ++ ds).length=ps.length→BindsTo s fd ⟨us,[]⟩ (ps.zip (us ++ ds))
theorem Binds.all{K:PySem.W.Frag}{fd:FuncData}{ps:List Str}(h:∀ us:List Value,us.length=ps.length→bindArgs fd ⟨us,[]⟩=pure (ps.zip us)):Binds K fd ps []:=fun s us _ hl=>by
 rw[Af4] at hl ⊢;exact .of_eq (h us hl)
def aC4(CX:CXT)(X:Cx)(E:XK):Prop:=∀ (pins:List (Addr×Obj)) (σ:St) (H:Hp) (s:Shared) (e:Value) (s':Shared),Inv X pins σ H s→CX X.stack H s E e s'→X.xe e s'
section
variable{X:Cx}{CX:CXT}{k:Nat}{f C:Addr}{fd:FuncData}{ps:List Str}{sp:Sp}{dvs:List V}{ds:List Value}{E:XK}{x m:Str}{p pos apos:Pos}{e o:Expr}{es:List Expr}{ta:TE}{t:TA}
theorem bn1{pins:List (Addr×Obj)}{σ:St}{H:Hp}{s:Shared}{Q:VK}{us:List Value}{vs:List V}(F:FnOk X.prog X.w X.K X.mg X.base CX k f fd ps sp)(hr:Room k X.A)(hb:Binds X.K fd ps ds)(hd:Vals dvs ds)(hx:aC4 CX X E)
 (I:Inv X pins σ H s) (r:Vals vs us) (h:sp (vs ++ dvs) H Q E):wpAny (model X.prog X.w) X.A (call (.ref f) us) (EP X pins σ Q) X.xe s:=by
 have r2:Vals (vs ++ dvs) (us ++ ds):=r.append hd;have hl:(us ++ ds).length=ps.length:=by rw[← r2.length]; exact F.len _ _ _ _ h
 refine wpAny_call (Aq4 (F.run X.A X.stack s H ⟨us,[]⟩ (us ++ ds) (vs ++ dvs) Q E hr I.env0 (hb s us I.kIn hl) r2 h) fun r s' hq=>?_);cases r with
 |error e=>exact hx pins σ H s e s' I hq
 |ok fl=>
   cases fl with
   |ret u=>exact I.after hq
   |next=>exact False.elim hq
   |brk=>exact False.elim hq
   |cont=>exact False.elim hq
theorem ah4(F:FnOk X.prog X.w X.K X.mg X.base CX k f fd ps sp)(hr:Room k X.A)(hg:Gl X x)(hm:X.mg x=some (.ref f))(hk:PySem.W.keepIn X.K (.ref f)=true)(hb:Binds X.K fd ps ds)(hd:Vals dvs ds)(hx:aC4 CX X E)
 (ha:PA X (e :: es) t) (hdb:(x == ("__debug__" : Str))=false:=by decide) (he:starEach (e :: es) X.env=(false,eval e X.env) :: starEach es X.env:=by rfl) (hpl:(backTo pos (starEach es X.env)).any (·.1)=false:=by rfl):
 PE X (.Call (.Name x p) (e :: es) [] pos) (bE1 sp dvs E t):=by
 intro pins s σ H Q I h;refine Ah6 (aU1 I hg hm ?_ hdb);refine An5 (h₀:=X.base) I.ok.mod.kin hk (thn (ha pos pins s σ H _ I h) fun us s1 ⟨vs,H1,I1,r,q⟩=>⟨I1.kIn,?_⟩) he hpl;exact bn1 F hr hb hd hx I1 r q
theorem ac5{pl:Sem Bool}(he:PE X o ta)(c:Cls X.K C)(hm:Meth X.K C m f)(F:FnOk X.prog X.w X.K X.mg X.base CX k f fd ps sp)(hr:Room k X.A)(hb:Binds X.K fd ps ds)(hd:Vals dvs ds)(hx:aC4 CX X E)(ha:PA X (e :: es) t)
 (hst:starEach (e :: es) X.env=(false,eval e X.env) :: starEach es X.env:=by rfl) (hpl:(backTo pos (starEach es X.env)).any (·.1)=false:=by rfl)
 (ht:eval (.Call (.Attribute o m apos) (e :: es) [] pos) X.env=(do
   let ov ← eval o X.env
   standAt apos.atName
   let (f,first) ← holding [ov] (getMethod ov m pl)
   callWith pos f first (backTo pos (starEach (e :: es) X.env)) (backToKw pos (keywordEach [] X.env))):=by rfl):
 PE X (.Call (.Attribute o m apos) (e :: es) [] pos) (aG3 C m sp dvs E ta t):=by
 intro pins s σ H Q I h;refine Aq5 (pl:=pl) (thn (he pins s σ H _ I h) fun u s1 ⟨x,H1,I1,rx,a,dx,fs,ex,ea,l,q⟩=>?_) ht;subst ex;obtain rfl:u=Value.ref a:=rx;refine aF1 I1 ea c hm l ?_;refine An5 (first:=[.ref a]) (h₀:=X.base) I.ok.mod.kin hm.kp (thn (ha pos pins s1 σ H1 _ I1 q) fun us s2 ⟨vs,H2,I2,r,q2⟩=>⟨I2.kIn,?_⟩) hst hpl;exact bn1 (us:= .ref a :: us) (vs:= .ref a :: vs) F hr hb hd hx I2 (.cons rfl r) q2
theorem aj0{pl:Sem Bool}(he:PE X o ta)(c:Cls X.K C)(hm:Meth X.K C m f)(F:FnOk X.prog X.w X.K X.mg X.base CX k f fd ps sp)(hr:Room k X.A)(hb:Binds X.K fd ps ds)(hd:Vals dvs ds)(hx:aC4 CX X E)
 (ht:eval (.Call (.Attribute o m apos) [] [] pos) X.env=(do
   let ov ← eval o X.env
   standAt apos.atName
   let (f,first) ← holding [ov] (getMethod ov m pl)
   callWith pos f first (backTo pos (starEach [] X.env)) (backToKw pos (keywordEach [] X.env))):=by rfl):
 PE X (.Call (.Attribute o m apos) [] [] pos) (aG3 C m sp dvs E ta tNil):=by
 intro pins s σ H Q I h;refine Aq5 (pl:=pl) (thn (he pins s σ H _ I h) fun u s1 ⟨x,H1,I1,rx,a,dx,fs,ex,ea,l,q⟩=>?_) ht;subst ex;obtain rfl:u=Value.ref a:=rx;refine aF1 I1 ea c hm l ?_;exact PySem.W.callWith_K0 (first:=[.ref a]) I1.kIn hm.kp (bn1 (us:=[.ref a]) (vs:=[.ref a]) F hr hb hd hx I1 (.cons rfl .nil) q)
structure Mk (K:PySem.W.Frag) (C f:Addr):Prop where
 makes:PySem.W.makesIn K C=true
 init:PySem.W.findIn K (.ref C) "__init__" = some (some (.ref f))
 fn:PySem.W.isFn K (.ref f)=true
 kp:PySem.W.keepIn K (.ref C)=true
theorem bH0{pins:List (Addr×Obj)}{σ:St}{H:Hp}{s:Shared}{Q:VK}{us:List Value}{vs:List V}(M:Mk X.K C f)(F:FnOk X.prog X.w X.K X.mg X.base CX k f fd ps sp)(hr:Room (k + 1) X.A)(hb:Binds X.K fd ps ds)(hd:Vals dvs ds)
 (hx:aC4 CX X E) (I:Inv X pins σ H s) (r:Vals vs us)
 (h:∀ x dx,H x=none→H dx=none→dx≠x→sp (.ref x :: (vs ++ dvs)) (upd (upd H dx (.own x)) x (.ins C dx [])) (fun v H2=>v= .non∧Q (.ref x) H2) E):
 wpAny (model X.prog X.w) X.A (call (.ref C) us) (EP X pins σ Q) X.xe s:=by
 have hq:=h (s.heap.objs.size + 1) s.heap.objs.size (I.hok.fresh (Nat.le_succ _)) (I.hok.fresh (Ab7 _)) (Ac5 (Aj2 _));have I2:=Inv.made (C:=C) I;have r2:Vals (V.ref (s.heap.objs.size + 1) :: (vs ++ dvs)) (Value.ref (s.heap.objs.size + 1) :: (us ++ ds)):= .cons rfl (r.append hd)
 have hl:(Value.ref (s.heap.objs.size + 1) :: us ++ ds).length=ps.length:=by
  have e:=r2.length;rw[F.len _ _ _ _ hq] at e;exact e.symm
 refine wpAny_call (bJ7 (f:=f) I.kIn M.makes M.init (beq_iff_eq.mp M.fn) (Aq4 (F.run _ X.stack _ _ ⟨Value.ref (s.heap.objs.size + 1) :: us,[]⟩ (Value.ref (s.heap.objs.size + 1) :: (us ++ ds)) _ _ E (hr.make C us [])
  (I2.env0.make C us []) (hb _ (Value.ref (s.heap.objs.size + 1) :: us) I2.kIn hl) r2 hq) fun r s' hq'=>?_))
 cases r with
 |error e=>exact hx pins σ _ _ e s' I2 hq'
 |ok fl=>
   cases fl with
   |ret u=>
     obtain⟨v,H',I3,rv,ev,q3⟩:=I2.after hq';subst ev;exact⟨rv,⟨V.ref (s.heap.objs.size + 1),H',I3,rfl,q3⟩⟩
   |next=>exact False.elim hq'
   |brk=>exact False.elim hq'
   |cont=>exact False.elim hq'
theorem aT1(M:Mk X.K C f)(F:FnOk X.prog X.w X.K X.mg X.base CX k f fd ps sp)(hr:Room (k + 1) X.A)(hg:Gl X x)(hm:X.mg x=some (.ref C))(hb:Binds X.K fd ps ds)(hd:Vals dvs ds)(hx:aC4 CX X E)
 (ha:PA X (e :: es) t) (hdb:(x == ("__debug__" : Str))=false:=by decide) (he:starEach (e :: es) X.env=(false,eval e X.env) :: starEach es X.env:=by rfl) (hpl:(backTo pos (starEach es X.env)).any (·.1)=false:=by rfl):
 PE X (.Call (.Name x p) (e :: es) [] pos) (bV1 C sp dvs E t):=by
 intro pins s σ H Q I h;refine Ah6 (aU1 I hg hm ?_ hdb);refine An5 (h₀:=X.base) I.ok.mod.kin M.kp (thn (ha pos pins s σ H _ I h) fun us s1 ⟨vs,H1,I1,r,q⟩=>⟨I1.kIn,?_⟩) he hpl;exact bH0 M F hr hb hd hx I1 r q
end
def PK(X:Cx)(kws:List Keyword)(t:TA):Prop:=
 ∀ (pos:Pos) (pins:List (Addr×Obj)) (s:Shared) (σ:St) (H:Hp) (Q:List V→Hp→Prop),Inv X pins σ H s→t σ H Q→wpAny (model X.prog X.w) X.A (evalAll ((backToKw pos (keywordEach kws X.env)).map (·.2))) (AP X pins σ Q) X.xe s
section
variable{X:Cx}{CX:CXT}{k:Nat}{f C:Addr}{fd:FuncData}{ps ks:List Str}{sp:Sp}{E:XK}{x m:Str}{p pos apos kpos:Pos}{e o:Expr}{es:List Expr}{kws:List Keyword}{te ta:TE}{t tk:TA}{nm:Option Str}
theorem bp4:PK X [] tNil:=fun _ _ _ _ H Q I h=>wpAny_evalAll_nil ⟨[],H,I,.nil,h⟩
theorem aT0(ha:PE X e te)(hr:PK X kws t):PK X (⟨nm,e,kpos⟩ :: kws) (af7 te t):=by
 intro pos pins s σ H Q I h;show wpAny _ _ (evalAll ((do let v ← eval e X.env; standAt pos; pure v) :: (backToKw pos (keywordEach kws X.env)).map (·.2))) _ _ s;refine wpAny_evalAll_cons (Aa0 (thn (ha pins s σ H _ I h) fun u s1 ⟨x,H1,I1,r1,q1⟩=>Aa0 (Ao8 (Aa9 ?_))));exact thn (hr pos pins s1 σ H1 _ I1 q1) fun us s2 ⟨xs,H2,I2,r2,q2⟩=>⟨x :: xs,H2,I2,.cons r1 r2,q2⟩
variable{g:List Value→List Value→List Value}{gV:List V→List V→List V}
end
structure FnScope (N P:List Str) (sc:Scope):Prop where
 kind:sc.kind= .function
 co:sc.isCoroutine=false
 gen:sc.isGenerator=false
 nd:N.Nodup
 pre:N.take P.length=P
 par:∀ x∈P,sc.names.lookup x=some .local∨sc.names.lookup x=some .cell
 nofree:∀ y∈sc.names,y.2≠ .free
theorem aQ2{kindOf:Str→Option NameKind}{x:Str}:∀ {binds:List (Str×Value)} {m:Str→Option Value},(∀ v,(x,v)∉binds)→bindL kindOf binds m x=m x
 |[],_,_=>rfl
 | (n,v) :: r,m,h=>by
   unfold bindL;rw[aQ2 fun w hw=>h w (List.mem_cons_of_mem _ hw)];split
   · have:x≠n:=by rintro rfl; exact h v Aa5
     simp[this]
   ·rfl
theorem aQ4{kindOf:Str→Option NameKind}{x:Str}:∀ {binds:List (Str×Value)} {m:Str→Option Value},(∀ v,(x,v)∉binds)→bindC kindOf binds m x=m x
 |[],_,_=>rfl
 | (n,v) :: r,m,h=>by
   unfold bindC;rw[aQ4 fun w hw=>h w (List.mem_cons_of_mem _ hw)];split
   ·rfl
   · have:x≠n:=by rintro rfl; exact h v Aa5
     simp[this]
theorem aQ3{kindOf:Str→Option NameKind}{x:Str}{v:Value}:∀ {P:List Str} {vs:List Value} {i:Nat} {m:Str→Option Value},P.Nodup→P[i]?=some x→vs[i]?=some v→kindOf x=some .local→
 bindL kindOf (P.zip vs) m x=some v
 |[],_,_,_,_,h,_,_=>by simp at h
 |_ :: _,[],_,_,_,_,h,_=>by simp at h
 | p :: P,w :: vs,0,m,nd,h1,h2,hk=>by
   simp at h1 h2; subst h1; subst h2;show bindL kindOf ((p,w) :: P.zip vs) m p=_;unfold bindL;rw[aQ2 fun v hv=>(List.nodup_cons.mp nd).1 (List.of_mem_zip hv).1,if_pos hk];simp
 | p :: P,w :: vs,i + 1,m,nd,h1,h2,hk=>by
   show bindL kindOf ((p,w) :: P.zip vs) m x=_;unfold bindL;exact aQ3 (i:=i) (List.nodup_cons.mp nd).2 (by simpa using h1) (by simpa using h2) hk
theorem aQ5{kindOf:Str→Option NameKind}{x:Str}{v:Value}:∀ {P:List Str} {vs:List Value} {i:Nat} {m:Str→Option Value},P.Nodup→P[i]?=some x→vs[i]?=some v→kindOf x≠some .local→
 bindC kindOf (P.zip vs) m x=some v
 |[],_,_,_,_,h,_,_=>by simp at h
 |_ :: _,[],_,_,_,_,h,_=>by simp at h
 | p :: P,w :: vs,0,m,nd,h1,h2,hk=>by
   simp at h1 h2; subst h1; subst h2;show bindC kindOf ((p,w) :: P.zip vs) m p=_;unfold bindC;rw[aQ4 fun v hv=>(List.nodup_cons.mp nd).1 (List.of_mem_zip hv).1,if_neg hk];simp
 | p :: P,w :: vs,i + 1,m,nd,h1,h2,hk=>by
   show bindC kindOf ((p,w) :: P.zip vs) m x=_;unfold bindC;exact aQ5 (i:=i) (List.nodup_cons.mp nd).2 (by simpa using h1) (by simpa using h2) hk
def av8(N:List Str)(vs:List V):St:=vs.map some ++ List.replicate (N.length - vs.length) none
def cxOf(CX:CXT)(P:Program)(w:World)(K:PySem.W.Frag)(mg:Str→Option Value)(base:Heap)(N:List Str)(qual:Str)(scope:Scope)(f:Addr)(cd:Value)(A:Around)(outer:List Env)(s:Shared)(H:Hp)(E:XK):Cx where
 prog:=P
 w:=w
 K:=K
 mg:=mg
 base:=base
 A:=A.deeper (envOfC qual scope s.heap.objs.size f cd)
 N:=N
 s₀:=s
 H₀:=H
 env:=envOfC qual scope s.heap.objs.size f cd
 outer:=outer
 stack:=envOfC qual scope s.heap.objs.size f cd :: outer
 ex:=[]
 calm:=true
 fn:=fun _=>true
 pn:=[]
 xe:=fun e s'=>wpAny (model P w) (A.deeper (envOfC qual scope s.heap.objs.size f cd)) (leaving (envOfC qual scope s.heap.objs.size f cd) e) (fun _ s''=>CX outer H s E e s'') (fun e' s''=>CX outer H s E e' s'') s'
theorem bf6{sc:Scope}{n:Nat}{x:Str}(h:sc.names.lookup x=some .cell):∃ c,(cellsFrom n sc.names []).lookup x=some c:=by
 have q:=Ap6 sc.names n [] (.inl h);exact Option.isSome_iff_exists.mp q
theorem bt8{CX:CXT}{P:Program}{w:World}{K:PySem.W.Frag}{mg:Str→Option Value}{base:Heap}{N ps:List Str}{qual:Str}{scope:Scope}{f:Addr}{cd:Value}{A:Around}{outer:List Env}{s s1:Shared}{H:Hp}{E:XK}{us:List Value}{vs:List V}
 (S:FnScope N ps scope) (hd:A.handled=none) (e0:Env0 P w K mg base A outer s H) (hl:vs.length=ps.length) (r:Vals vs us)
 (x:InCallC s s.heap.objs.size (bindL (envOfC qual scope s.heap.objs.size f cd).kindOf (ps.zip us) fun _=>none) (cellsFrom (s.heap.objs.size + 1) scope.names []) (bindC (envOfC qual scope s.heap.objs.size f cd).kindOf (ps.zip us) fun _=>none) s1):
 Inv (cxOf CX P w K mg base N qual scope f cd A outer s H E) [] (av8 N vs) H s1:=by
 have hpl:ps.length≤N.length:=by have:=congrArg List.length S.pre; rw[List.length_take] at this; omega
 obtain⟨h1,tk,rfl,hk⟩:=x.done;have noA:∀ b:Addr,b∉(cxOf CX P w K mg base N qual scope f cd A outer s H E).ex:=fun b z=>absurd (show b∈([]:List Addr) from z) (by simp)
 refine⟨⟨e0.mod,S.kind,rfl,rfl,Ab7 _,fun y z c h1 h2=>?_,fun y hy=>?_,fun y c _ h=>?_,fun _=>hd,Around.frames_deeper e0.frames,.inr ⟨rfl,rfl⟩,fun b z=>absurd z (noA b),e0.bs,e0.bsz,fun b _ _=>noA b,fun b z=>absurd z (noA b),e0.funs,e0.frf⟩,
  rfl,e0.bare,Un.kept hk,⟨_,x.toInCall.ns,fun i y v h1 h2 h3=>?_⟩,fun y c h=>⟨_,x.cell y c h⟩,e0.hok.fresh (Ab7 _),fun y c h=>?_,fun p hp=>absurd (show p∈([]:List (Addr×Obj)) from hp) (by simp),e0.hok.kept hk,?_⟩
 ·exact name_of_addr x.apart (Ah3 h1) (Ah3 h2)
 · have hy:scope.names.lookup y=some .cell∨scope.names.lookup y=some .free:=hy;rcases hy with hy | hy
   ·exact bf6 hy
   ·exact absurd rfl (S.nofree _ (Ah3 hy))
 ·exact Ah0 (x.above y c (Ah3 h))
 · have hi:i < vs.length:=by
    unfold av8 at h2;by_cases hi:i < vs.length
    ·exact hi
    ·rw[Af8 (by simpa using hi)] at h2;rw[Ai9] at h2;split at h2 <;> cases h2
   have ha:vs[i]?=some v:=by
    unfold av8 at h2;rw[List.getElem?_append_left (by simpa using hi),List.getElem?_map] at h2;cases e:vs[i]? with
    |none=>rw[e] at h2; cases h2
    |some a=>rw[e] at h2; cases h2; rfl
   obtain⟨u,hu,rv⟩:=r.get ha
   have hp:ps[i]?=some y:=by
    rw[← S.pre,List.getElem?_take_of_lt (by omega)]; exact h1
   have ndP:ps.Nodup:=by rw[← S.pre]; exact S.nd.sublist (List.take_sublist _ _)
   refine⟨u,rv,?_⟩;rcases S.par y (Ah9 hp) with k | k
   ·exact .inl ⟨k,aQ3 ndP hp hu k⟩
   ·obtain⟨c,e⟩:=bf6 (n:=s.heap.objs.size + 1) k;refine .inr ⟨.inl k,c,e,?_⟩;have q:=x.cell y c e;rw[aQ5 ndP hp hu (by show scope.names.lookup y≠_; rw[k]; decide)] at q;exact q
 ·exact e0.hok.fresh (Ah0 (x.above y c (Ah3 h)))
 ·unfold av8;show _=N.length;rw[List.length_append,List.length_map,List.length_replicate];omega
theorem fn_of{CX:CXT}{P:Program}{w:World}{K:PySem.W.Frag}{mg:Str→Option Value}{base:Heap}{k:Nat}{f:Addr}{name qual:Str}{params:Arguments}{body:List Stmt}{scope:Scope}{dV kV doc pm cdv ct oc:Value}{an od:Option Addr}
 {osl:Array (Option Value)} {N ps:List Str} {sp:Sp} (lk:K.lookup f=some ⟨oc,od,.func (PySem.W.fnOf name qual params body scope dV kV doc pm an cdv ct),osl⟩) (hcd:PySem.W.codeIn K cdv qual=true) (S:FnScope N ps scope)
 (len:∀ vs H Q E,sp vs H Q E→vs.length=ps.length)
 (hbody:∀ (A:Around) (outer:List Env) (s:Shared) (H:Hp) (vs:List V) (Q:VK) (E:XK),Room k (A.deeper (envOfC qual scope s.heap.objs.size f cdv))→sp vs H Q E→
   ∃ t,PSs (cxOf CX P w K mg base N qual scope f cdv A outer s H E) body t∧t { nx:=fun _ H'=>Q .non H',rt:=Q } (av8 N vs) H):
 FnOk P w K mg base CX (k + 1) f (PySem.W.fnOf name qual params body scope dV kV doc pm an cdv ct) ps sp:=by
 refine⟨len,fun A outer s H args us vs Q E hr e0 hb r hsp=>?_⟩;have hl:=len _ _ _ _ hsp;have KX:K.In s.heap:=e0.mod.kin.keeps fun b o e=>(e0.bs b o e).1;have lim:s.heap.NoLimit:=e0.mod.nolimit.keeps fun b o e=>(e0.bs b o e).1
 have hkind:∀ y∈ps.zip us,scope.names.lookup y.1=some .local∨(scope.names.lookup y.1=some .cell∧((cellsFrom (s.heap.objs.size + 1) scope.names []).lookup y.1).isSome=true):=fun ⟨n,v⟩ hy=>by
  rcases S.par n (List.of_mem_zip hy).1 with q | q
  ·exact .inl q
  ·exact .inr ⟨q,Ap6 _ _ _ (.inl q)⟩
 refine codeAny_call_function hr.depth (KX _ _ lk) rfl S.co S.gen rfl (PySem.W.codeRec_of KX hcd) (hb _ _ _ _ ?_);refine wpAny_newFunctionEnv_cells S.kind hkind fun env he s1 x=>?_;subst he;refine⟨lim.keeps x.toInCall.keep,codeAny_func ?_⟩;obtain⟨t,ht,hq⟩:=hbody A outer s H vs Q E (hr.deeper _) hsp;have I:Inv (cxOf CX P w K mg base N qual scope f cdv A outer s H E) [] (av8 N vs) H s1:=bt8 S hr.hd e0 hl r x;refine Al3 (ht [] s1 (av8 N vs) H _ I hq) (fun fl s' hs=>?_) fun e s' hs=>hs
 have fin:∀ {σ':St} {H':Hp} {v:V} {u:Value},Inv (cxOf CX P w K mg base N qual scope f cdv A outer s H E) [] σ' H' s'→RelV v u→Q v H'→CE outer P w H s Q u s':=
  fun {σ' H' v u} J rv q=>⟨v,H',J.os,J.bare,J.base,J.hok,rv,q⟩
 cases fl with
 |ret u=>
   obtain⟨v,σ',H',J,rv,q⟩:=hs;exact fin J rv q
 |next=>
   obtain⟨σ',H',J,q⟩:=hs;exact fin (v:=V.non) (u:=Value.none) J rfl q
 |brk=>
   obtain⟨_,_,_,q⟩:=hs;exact False.elim q
 |cont=>
   obtain⟨_,_,_,q⟩:=hs;exact False.elim q
section
variable{X:Cx}{x:Str}{p pos:Pos}{e:Expr}{es:List Expr}{t:TA}{id T:String}{r:List V→Hp→VK→Prop}
def tCB(r:List V→Hp→VK→Prop)(t:TA):TE:=fun σ H Q=>t σ H fun vs H1=>r vs H1 Q
theorem ad7(hc:CallR X (.builtin id) r)(hg:Gl X x)(hm:X.mg x=none)(hv:bootBuiltins x=some (.builtin id))(ha:PA X (e :: es) t)(hn:x ≠ "__name__" := by decide)(hdb:(x == ("__debug__" : Str))=false:=by decide)
 (he:starEach (e :: es) X.env=(false,eval e X.env) :: starEach es X.env:=by rfl) (hpl:(backTo pos (starEach es X.env)).any (·.1)=false:=by rfl):PE X (.Call (.Name x p) (e :: es) [] pos) (tCB r t):=by
 intro pins s σ H Q I h;refine Ah6 (az1 I hg hm hv ?_ hn hdb);exact PyProof.Rows.callWith_builtin1 (thn (ha pos pins s σ H _ I h) fun us s1 ⟨vs,H1,I1,r1,q1⟩=>hc pins s1 σ H1 vs us Q I1 r1 q1) he hpl
theorem ar2(hc:CallR X (.type T) r)(hg:Gl X x)(hm:X.mg x=none)(hv:bootBuiltins x=some (.type T))(ha:PA X (e :: es) t)(hn:x ≠ "__name__" := by decide)(hdb:(x == ("__debug__" : Str))=false:=by decide)
 (he:starEach (e :: es) X.env=(false,eval e X.env) :: starEach es X.env:=by rfl) (hpl:(backTo pos (starEach es X.env)).any (·.1)=false:=by rfl):PE X (.Call (.Name x p) (e :: es) [] pos) (tCB r t):=by
 intro pins s σ H Q I h;refine Ah6 (az1 I hg hm hv ?_ hn hdb);exact Ah2 (thn (ha pos pins s σ H _ I h) fun us s1 ⟨vs,H1,I1,r1,q1⟩=>hc pins s1 σ H1 vs us Q I1 r1 q1) he hpl
end
section
variable{κ:Type}[DecidableEq κ]
def valV(kvs:List (κ×V))(k:κ):Option V:=(kvs.find? fun kv=>decide (kv.1=k)).map (·.2)
def putK(kvs:List (κ×V))(k:κ)(v:V):List (κ×V):=
 if (kvs.any fun kv=>decide (kv.1=k))=true then kvs.map (fun kv=>if kv.1=k then (kv.1,v) else kv) else kvs ++ [(k,v)]
def aq5(kvs:List (κ×V))(k:κ):List (κ×V):=kvs.filter fun kv=>decide (kv.1≠k)
theorem bD8{k:κ}:valV ([]:List (κ×V)) k=none:=rfl
theorem aw4{p:κ×V}{r:List (κ×V)}{k:κ}(e:p.1=k):valV (p :: r) k=some p.2:=by simp[valV,Ag4,e]
theorem aw5{p:κ×V}{r:List (κ×V)}{k:κ}(e:¬ p.1=k):valV (p :: r) k=valV r k:=by simp[valV,Ag4,e]
theorem aZ7(k:κ):∀ kvs:List (κ×V),(kvs.any fun kv=>decide (kv.1=k))=(valV kvs k).isSome
 |[]=>rfl
 | p :: r=>by
   rw[Ak4];by_cases e:p.1=k
   ·simp only[aw4 e,Ag2 e,Bool.true_or,Option.isSome_some]
   ·rw[aw5 e,Ad2 e,Bool.false_or]; exact aZ7 k r
theorem ay8(kvs:List (κ×V))(k:κ)(v:V):(putK kvs k v).length≤kvs.length + 1:=by
 unfold putK;split
 ·rw[Aa7]; omega
 ·rw[Ac4,Ab2,Am8]; omega
theorem RelO.isSome_eq{o:Option V}{u:Option Value}(r:RelO o u):o.isSome=u.isSome:=by
 cases o with
 | none=>cases u with
   |none=>rfl
   |some _=>exact(show False from r).elim
 | some _=>cases u with
   |none=>exact(show False from r).elim
   |some _=>rfl
theorem RelO.getD{o:Option V}{u:Option Value}{d:V}{d':Value}(r:RelO o u)(rd:RelV d d'):RelV (o.getD d) (u.getD d'):=by
 cases o with
 | none=>cases u with
   |none=>exact rd
   |some _=>exact(show False from r).elim
 | some _=>cases u with
   |none=>exact(show False from r).elim
   |some _=>exact r
theorem KV.val{kvs:List (κ×V)}{vs:List (κ×Value)}(r:KV kvs vs)(k:κ):RelO (valV kvs k) (valueAt vs k):=by
 unfold KV at r
 induction r with
 |nil=>exact True.intro
 |@cons p q ps qs h t ih=>
   obtain⟨h1,h2⟩:=h;by_cases e:p.1=k
   · have e':q.1=k:=h1.symm.trans e;have b:valueAt (q :: qs) k=some q.2:=by simp[valueAt,Ag4,e']
     rw[aw4 e,b]; exact h2
   · have e':¬ q.1=k:=fun z=>e (h1.trans z);have b:valueAt (q :: qs) k=valueAt qs k:=by simp[valueAt,Ag4,e']
     rw[aw5 e,b]; exact ih
theorem KV.any{kvs:List (κ×V)}{vs:List (κ×Value)}(r:KV kvs vs)(k:κ):(kvs.any fun kv=>decide (kv.1=k))=vs.any fun kv=>decide (kv.1=k):=by
 unfold KV at r
 induction r with
 |nil=>rfl
 |cons h t ih=>rw[Ak4,Ak4,ih,h.1]
theorem KV.repl{kvs:List (κ×V)}{vs:List (κ×Value)}(r:KV kvs vs)(k:κ){y:V}{u:Value}(ry:RelV y u):
 KV (kvs.map fun kv=>if kv.1=k then (kv.1,y) else kv) (vs.map fun kv=>if kv.1=k then (kv.1,u) else kv):=by
 unfold KV at r ⊢
 induction r with
 |nil=>exact .nil
 |@cons p q ps qs h t ih=>
   rw[Aa2,Aa2];refine .cons ?_ ih;obtain⟨h1,h2⟩:=h;by_cases e:p.1=k
   ·rw[Aa6 e,Aa6 (h1.symm.trans e)]; exact⟨h1,ry⟩
   ·rw[Aa3 e,Aa3 (fun z=>e (h1.trans z))]; exact⟨h1,h2⟩
theorem KV.put{kvs:List (κ×V)}{vs:List (κ×Value)}(r:KV kvs vs)(k:κ){y:V}{u:Value}(ry:RelV y u):KV (putK kvs k y) (stored vs k u):=by
 unfold putK stored;rw[r.any k];by_cases e:(vs.any fun kv=>decide (kv.1=k))=true
 ·rw[Aa6 e,Aa6 e]; exact r.repl k ry
 ·rw[Aa3 e,Aa3 e]; exact Paired.snoc r ⟨rfl,ry⟩
theorem KV.drop{kvs:List (κ×V)}{vs:List (κ×Value)}(r:KV kvs vs)(k:κ):KV (aq5 kvs k) (without vs k):=by
 unfold KV at r ⊢;unfold aq5 without
 induction r with
 |nil=>exact .nil
 |@cons p q ps qs h t ih=>
   obtain⟨h1,h2⟩:=h;rw[Af5,Af5];by_cases e:p.1=k
   · have a:¬ decide (p.1≠k)=true:=by simp[e]
     have b:¬ decide (q.1≠k)=true:=by simp[h1.symm.trans e]
     rw[Aa3 a,Aa3 b]; exact ih
   · have e':¬ q.1=k:=fun z=>e (h1.trans z);have a:decide (p.1≠k)=true:=by simp[e]
     have b:decide (q.1≠k)=true:=by simp[e']
     rw[Aa6 a,Aa6 b]; exact .cons ⟨h1,h2⟩ ih
theorem KV.length{kvs:List (κ×V)}{vs:List (κ×Value)}(r:KV kvs vs):kvs.length=vs.length:=Ai7 r
theorem be1(kvs:List (κ×V))(k:κ):(aq5 kvs k).length≤kvs.length:=List.length_filter_le _ _
end
theorem aI2{P:Program}{w:World}{k:Key}{u:Value}(r:RelV (kV k) u):(ab6 P w).is k u=true:=by
 cases k with
 |inl i=>obtain⟨t,e⟩:=(show ∃ t,u=Value.int i t from r); subst e; exact aT7 P w i t
 |inr x=>obtain⟨t,e⟩:=(show ∃ t,u=Value.str x t from r); subst e; exact aT6 P w x t
theorem aN7{P:Program}{w:World}:∀ {ks:List Key} {us:List Value},Vals (ks.map kV) us→ItemsAre (ab6 P w) ks us
 |[],_,r=>by rw[Af6] at r; cases r; exact .nil
 | k :: ks,_,r=>by
   rw[Aa2] at r;cases r with
   |cons h t=>exact .cons (aI2 h) (aN7 t)
abbrev KT(H:Hp):List (List Key×V)→List (List Key×Addr×Value)→Prop:=Paired fun p q=>p.1=q.1∧H q.2.1=some (.tup (p.1.map kV))∧RelV p.2 q.2.2
theorem KT.val{H:Hp}{kvs:List (List Key×V)}{xs:List (List Key×Addr×Value)}(r:KT H kvs xs)(k:List Key):RelO (valV kvs k) ((atKey xs k).map (·.2)):=by
 induction r with
 |nil=>exact True.intro
 |@cons p q ps qs h t ih=>
   obtain⟨h1,_,h2⟩:=h;by_cases e:p.1=k
   · have e':q.1=k:=h1.symm.trans e;have b:atKey (q :: qs) k=some q.2:=by simp[atKey,Ag4,e']
     rw[aw4 e,b]; exact h2
   · have e':¬ q.1=k:=fun z=>e (h1.trans z);have b:atKey (q :: qs) k=atKey qs k:=by simp[atKey,Ag4,e']
     rw[aw5 e,b]; exact ih
theorem KT.repl{H:Hp}{kvs:List (List Key×V)}{xs:List (List Key×Addr×Value)}(r:KT H kvs xs)(k:List Key){y:V}{u:Value}(ry:RelV y u):
 KT H (kvs.map fun kv=>if kv.1=k then (kv.1,y) else kv) (xs.map (putAt k u)):=by
 induction r with
 |nil=>exact .nil
 |@cons p q ps qs h t ih=>
   rw[List.map_cons,List.map_cons];refine .cons ?_ ih;obtain⟨h1,h2,h3⟩:=h;unfold putAt;by_cases e:p.1=k
   ·rw[Aa6 e,Aa6 (h1.symm.trans e)]; exact⟨h1,h2,ry⟩
   ·rw[Aa3 e,Aa3 (fun z=>e (h1.trans z))]; exact⟨h1,h2,h3⟩
theorem KT.put{H:Hp}{kvs:List (List Key×V)}{xs:List (List Key×Addr×Value)}(r:KT H kvs xs)(k:List Key){b:Addr}{y:V}{u:Value}(hb:H b=some (.tup (k.map kV)))(ry:RelV y u):
 KT H (putK kvs k y) (storedH xs k b u):=by
 have e:(kvs.any fun kv=>decide (kv.1=k))=(atKey xs k).isSome:=by
  rw[aZ7,(r.val k).isSome_eq,Ao0]
 unfold putK storedH;rw[e];by_cases q:(atKey xs k).isSome=true
 ·rw[Aa6 q,Aa6 q]; exact r.repl k ry
 ·rw[Aa3 q,Aa3 q]; exact Paired.snoc r ⟨rfl,hb,ry⟩
theorem KT.keeps{H H':Hp}{kvs:List (List Key×V)}{xs:List (List Key×Addr×Value)}(r:KT H kvs xs)(ht:∀ b ys,H b=some (.tup ys)→H' b=some (.tup ys)):KT H' kvs xs:=
 Paired.mapP r fun _ _ z=>⟨z.1,ht _ _ z.2.1,z.2.2⟩
section
variable{P:Program}{w:World}{H:Hp}{h:Heap}{a:Addr}
theorem cv8{u:HO}(ok:HOk P w H h)(e:Rd H a u):ObjOk P w H h a u:=e.ok ok
theorem aI9{kvs:List (Key×V)}(ok:HOk P w H h)(e:Rd H a (.dK kvs)):kvs.length≤sizeLine∧(a == sysModules)=false∧∃ vs,KV kvs vs∧h.DictOf (ab6 P w) a vs:=
 show ObjOk P w H h a (.dK kvs) from cv8 ok e
theorem cn7{kvs:List (Key×V)}(ok:HOk P w H h)(e:H a=some (.dK kvs)):kvs.length≤sizeLine∧(a == sysModules)=false∧∃ vs,KV kvs vs∧h.DictOf (ab6 P w) a vs:=aI9 ok (.inl e)
theorem ap2{ks:List Key}(ok:HOk P w H h)(e:H a=some (.tup (ks.map kV))):(tupleKind (ab6 P w)).is h ks a:=by
 obtain⟨_,its,r,o,h1,h2,n,h3⟩:=(show ObjOk P w H h a (.tup (ks.map kV)) from ok a _ e);exact⟨o,its.toArray,n,h1,h2,h3,by simpa using aN7 r⟩
theorem aO7{kvs:List (List Key×V)}(ok:HOk P w H h)(e:Rd H a (.dT kvs)):kvs.length≤sizeLine∧(a == sysModules)=false∧
 ∃ xs,KT H kvs xs∧h.DictOfH (tupleKind (ab6 P w)) a xs:=by
 obtain⟨z,y,xs,r,o,es,ep,h1,h2,h3,h4,h5⟩:=(show ObjOk P w H h a (.dT kvs) from cv8 ok e);refine⟨z,y,xs,r,o,es,ep,h1,h2,h3,h4,fun x hx=>?_,h5⟩
 have all:∀ {l:List (List Key×V)} {m:List (List Key×Addr×Value)},KT H l m→∀ x∈m,(tupleKind (ab6 P w)).is h x.1 x.2.1:=by
  intro l m q
  induction q with
  |nil=>intro x hx; exact nomatch hx
  |@cons p q ps qs hq t ih=>
    intro x hx;rcases List.mem_cons.mp hx with e | hx
    ·subst e;exact ap2 ok (by rw[← hq.1]; exact hq.2.1)
    ·exact ih x hx
 exact all r x hx
theorem cH9{kvs:List (List Key×V)}(ok:HOk P w H h)(e:H a=some (.dT kvs)):kvs.length≤sizeLine∧(a == sysModules)=false∧
 ∃ xs,KT H kvs xs∧h.DictOfH (tupleKind (ab6 P w)) a xs:=aO7 ok (.inl e)
end
def DGet(H:Hp)(a:Addr)(y:V)(r:Option V):Prop:=
 (∃ kvs k,Rd H a (.dK kvs)∧y=kV k∧r=valV kvs k)∨∃ kvs k b,Rd H a (.dT kvs)∧y= .ref b∧H b=some (.tup (k.map kV))∧r=valV kvs k
def DPut(H:Hp)(a:Addr)(y v:V)(H':Hp):Prop:=
 (∃ kvs k,H a=some (.dK kvs)∧y=kV k∧kvs.length < sizeLine∧H'=upd H a (.dK (putK kvs k v)))∨
 ∃ kvs k b,H a=some (.dT kvs)∧y= .ref b∧H b=some (.tup (k.map kV))∧kvs.length < sizeLine∧H'=upd H a (.dT (putK kvs k v))
theorem DGet.k{H:Hp}{a:Addr}{kvs:List (Key×V)}{k:Key}(e:H a=some (.dK kvs)):DGet H a (kV k) (valV kvs k):= .inl ⟨kvs,k,.inl e,rfl,rfl⟩
theorem DPut.k{H:Hp}{a:Addr}{kvs:List (Key×V)}{k:Key}{v:V}(e:H a=some (.dK kvs))(hl:kvs.length < sizeLine):DPut H a (kV k) v (upd H a (.dK (putK kvs k v))):= .inl ⟨kvs,k,e,rfl,hl,rfl⟩
theorem DPut.t{H:Hp}{a b:Addr}{kvs:List (List Key×V)}{k:List Key}{v:V}(e:H a=some (.dT kvs))(eb:H b=some (.tup (k.map kV)))(hl:kvs.length < sizeLine):
 DPut H a (.ref b) v (upd H a (.dT (putK kvs k v))):= .inr ⟨kvs,k,b,e,rfl,eb,hl,rfl⟩
section
variable{X:Cx}{pins:List (Addr×Obj)}{σ:St}{H:Hp}{s:Shared}{a:Addr}{y v:V}{u r:Value}{o:Option V}{A:Around}{E:Value→Shared→Prop}
theorem Inv.big(I:Inv X pins σ H s):sysModules < s.heap.objs.size:=by
 have h:mainGlobals < s.heap.objs.size:=(I.mod.glob.keeps I.bk).lt;exact Nat.lt_trans (by decide) h
theorem bw8{Q:Value→Shared→Prop}(hu:A.units + 1 < cLine)(I:Inv X pins σ H s)(g:DGet H a y (some v))(ry:RelV y u)(h:∀ w' s',Inv X pins σ H s'→RelV v w'→Q w' s'):
 wpAny (model X.prog X.w) A (getItem (.ref a) u) Q E s:=by
 rcases g with ⟨kvs,k,e,ey,l⟩ | ⟨kvs,k,b,e,ey,eb,l⟩
 ·subst ey;obtain⟨z,hd,vs,rel,dd⟩:=aI9 I.hok e;obtain⟨w',hw,rw'⟩:=RelO.some_of (v:=v) (o:=valueAt vs k) (by rw[l]; exact rel.val k);exact wpAny_getItem_of (aI2 ry) dd.mapOf hw (h w' _ (I.tok _) rw')
 ·subst ey;cases(show u=Value.ref b from ry);obtain⟨z,hd,xs,rel,dd⟩:=aO7 I.hok e;obtain⟨w',hw,rw'⟩:=RelO.some_of (v:=v) (o:=(atKey xs k).map (·.2)) (by rw[l]; exact rel.val k);obtain⟨p,hp,hp2⟩:=Option.map_eq_some_iff.mp hw;refine wpAny_getItem_heap (Ah7 hu) (ap2 I.hok eb) dd hp ?_;rw[hp2];exact h w' _ (I.tok _) rw'
theorem d_in{Q:Value→Shared→Prop}(hu:A.units + 1 < cLine)(I:Inv X pins σ H s)(g:DGet H a y o)(ry:RelV y u)(h:∀ s',Inv X pins σ H s'→Q (.bool o.isSome) s'):
 wpAny (model X.prog X.w) A (compareOp .In u (.ref a)) Q E s:=by
 rcases g with ⟨kvs,k,e,ey,l⟩ | ⟨kvs,k,b,e,ey,eb,l⟩
 ·subst ey;obtain⟨z,hd,vs,rel,dd⟩:=aI9 I.hok e;refine wpAny_in_of (aI2 ry) hd dd.mapOf ?_;rw[← (rel.val k).isSome_eq,← l];exact h _ (I.tok _)
 ·subst ey;cases(show u=Value.ref b from ry);obtain⟨z,hd,xs,rel,dd⟩:=aO7 I.hok e;refine wpAny_in_heap (Ah7 hu) (ap2 I.hok eb) hd dd ?_;have q:=(rel.val k).isSome_eq;rw[Ao0] at q;rw[← q,← l];exact h _ (I.tok _)
theorem co0{Q:Value→Shared→Prop}(hu:A.units + 1 < cLine)(I:Inv X pins σ H s)(g:DGet H a y o)(ry:RelV y u)(h:∀ s',Inv X pins σ H s'→Q (.bool (!o.isSome)) s'):
 wpAny (model X.prog X.w) A (compareOp .NotIn u (.ref a)) Q E s:=by
 rcases g with ⟨kvs,k,e,ey,l⟩ | ⟨kvs,k,b,e,ey,eb,l⟩
 ·subst ey;obtain⟨z,hd,vs,rel,dd⟩:=aI9 I.hok e;refine wpAny_notIn_of (aI2 ry) hd dd.mapOf ?_;rw[← (rel.val k).isSome_eq,← l];exact h _ (I.tok _)
 ·subst ey;cases(show u=Value.ref b from ry);obtain⟨z,hd,xs,rel,dd⟩:=aO7 I.hok e;refine wpAny_notIn_heap (Ah7 hu) (ap2 I.hok eb) hd dd ?_;have q:=(rel.val k).isSome_eq;rw[Ao0] at q;rw[← q,← l];exact h _ (I.tok _)
theorem aJ0{h':Heap}{t':Nat}{ob:HO}(I:Inv X pins σ H s)(mu:Mut (H a))(hs:Heap.SameBut a s.heap h')(he:∃ q,h'.get? a=some q)(new:ObjOk X.prog X.w (upd H a ob) h' a ob):
 Inv X pins σ (upd H a ob) { s with heap:=h',toks:=t' }:=
 I.write (x:=a) (e:=a) mu (.inl rfl) (fun b q hb z=>(hs.2 b hb).trans z) he new
theorem bU1{P:Program}{w:World}{H':Hp}{h':Heap}{kvs:List (Key×V)}{vs:List (Key×Value)}(z:kvs.length≤sizeLine)(hd:(a == sysModules)=false)(rel:KV kvs vs)(dd:h'.DictOf (ab6 P w) a vs):
 ObjOk P w H' h' a (.dK kvs):=⟨z,hd,vs,rel,dd⟩
theorem bw7{H':Hp}{Q:Unit→Shared→Prop}(hu:A.units + 1 < cLine)(I:Inv X pins σ H s)(g:DPut H a y v H')(ry:RelV y u)(rv:RelV v r)(h:∀ s',Inv X pins σ H' s'→Q () s'):
 wpAny (model X.prog X.w) A (setItem (.ref a) u r) Q E s:=by
 rcases g with ⟨kvs,k,e,ey,l,eH⟩ | ⟨kvs,k,b,e,ey,eb,l,eH⟩
 · subst ey eH;obtain⟨z,hd,vs,rel,dd⟩:=cn7 I.hok e;have hz:vs.length≤sizeLine:=by rw[← rel.length]; exact z
   have hl:(putK kvs k v).length≤sizeLine:=by have:=ay8 kvs k v; omega
   refine wpAny_setItem_pairs (hsz:=hz) (aI2 ry) dd fun h' dd' hs=>h _ ?_;have he:∃ q,h'.get? a=some q:=let ⟨q,_,_,hq,_⟩:=dd'; ⟨q,hq⟩
   exact aJ0 I (by rw[e]; exact True.intro) hs he (bU1 hl hd (rel.put k rv) dd')
 · subst ey eH;cases(show u=Value.ref b from ry);obtain⟨z,hd,xs,rel,dd⟩:=cH9 I.hok e;have hz:xs.length≤sizeLine:=by rw[← Ai7 rel]; exact z
   have hl:(putK kvs k v).length≤sizeLine:=by have:=ay8 kvs k v; omega
   refine wpAny_setItem_heap (hsz:=hz) (Ah7 hu) (ap2 I.hok eb) dd fun h' dd' hs=>h _ ?_;obtain⟨q,es,ep,hq,h2,h3,h4,_,h5⟩:=dd';refine aJ0 I (by rw[e]; exact True.intro) hs ⟨q,hq⟩ ⟨hl,hd,_,(rel.put k eb rv).keeps fun c ys ec=>?_,q,es,ep,hq,h2,h3,h4,h5⟩;rw[ab0 (bI9 ec e (fun z=>nomatch z))];exact ec
end
section
variable{X:Cx}{pins:List (Addr×Obj)}{σ:St}{H:Hp}{s:Shared}{a:Addr}{kvs:List (Key×V)}{k:Key}{u:Value}{A:Around}{E:Value→Shared→Prop}
theorem d_pop{v:V}{more:List Value}{Q:Value→Shared→Prop}(I:Inv X pins σ H s)(e:H a=some (.dK kvs))(ry:RelV (kV k) u)(l:valV kvs k=some v)(hm:more=[]∨∃ x,more=[x])
 (h:∀ w' s',Inv X pins σ (upd H a (.dK (aq5 kvs k))) s'→RelV v w'→Q w' s'):wpAny (model X.prog X.w) A (call (.builtin "dict.pop") (.ref a :: u :: more)) Q E s:=by
 obtain⟨z,hd,vs,rel,dd⟩:=cn7 I.hok e;obtain⟨w',hw,rw'⟩:=RelO.some_of (v:=v) (o:=valueAt vs k) (by rw[← l]; exact rel.val k)
 have hp:(keyPart u).isSome=true:=by
  cases k with
  |inl i=>obtain⟨t,q⟩:=(show ∃ t,u=Value.int i t from ry); subst q; rfl
  |inr x=>obtain⟨t,q⟩:=(show ∃ t,u=Value.str x t from ry); subst q; rfl
 have ha:argsOk "dict.pop" ⟨.ref a :: u :: more,[]⟩:=by
  rcases hm with q | ⟨x,q⟩
  ·subst q; exact PySem.F.args_dict_pop_2 _ _
  ·subst q; exact Ao9 _ _ _
 refine Al4 Aj9 dd.typeIs Ap7 ha (meets_dict_pop_there (ab6 X.prog X.w) a (aI2 ry) more hm hp)
  ⟨vs,w',dd,by rw[← rel.length]; exact z,hw,fun h' dd' hs=>h w' _ ?_ rw'⟩
 have he:∃ q,h'.get? a=some q:=let ⟨q,_,_,hq,_⟩:=dd'; ⟨q,hq⟩
 exact aJ0 I (by rw[e]; exact True.intro) hs he (bU1 (Ae3 (be1 kvs k) z) hd (rel.drop k) dd')
theorem cI5{r:Value}{Q:Value→Shared→Prop}(I:Inv X pins σ H s)(e:H a=some (.dK kvs))(ry:RelV (kV k) u)(l:valV kvs k=none)(h:∀ s',Inv X pins σ H s'→Q r s'):
 wpAny (model X.prog X.w) A (call (.builtin "dict.pop") [.ref a,u,r]) Q E s:=by
 obtain⟨z,hd,vs,rel,dd⟩:=cn7 I.hok e;have hn:valueAt vs k=none:=RelO.none_of (by rw[← l]; exact rel.val k)
 have hp:(keyPart u).isSome=true:=by
  cases k with
  |inl i=>obtain⟨t,q⟩:=(show ∃ t,u=Value.int i t from ry); subst q; rfl
  |inr x=>obtain⟨t,q⟩:=(show ∃ t,u=Value.str x t from ry); subst q; rfl
 exact Al4 Aj9 dd.typeIs Ap7 (Ao9 _ _ _) (meets_dict_pop_default (ab6 X.prog X.w) a (aI2 ry) hd hp r) ⟨vs,dd,hn,h _ (I.tok _)⟩
end
def NoSl(i:Expr):Prop:=∀ ov iv,subscripted i false ov iv=operate [ov,iv] (getItem ov iv)
theorem bV2{prog:Program}{w:World}{A:Around}{E:Value→Shared→Prop}{s:Shared}{env:Env}{value slice:Expr}{pos:Pos}{T id:String}{Q:Value→Shared→Prop}
 (hl:typeLookup (.type T) "__getitem__" = pure (some (.builtin id))) (hs:NoSl slice)
 (h:wpAny (model prog w) A (eval value env) (fun o s₁=>wpAny (model prog w) A (eval slice env) (fun i s₂=>s₂.TypeIs o T∧wpAny (model prog w) A (getItem o i) Q E s₂) E s₁) E s):
 wpAny (model prog w) A (eval (.Subscript value slice pos) env) Q E s:=by
 refine Subscript_ (wpAny_mono h (fun o s₁ h₁=>wpAny_mono h₁ (fun i s₂ h₂=>?_) fun _ _ x=>x) fun _ _ x=>x);obtain⟨hT,h₂⟩:=h₂;unfold subscriptTail;refine wpAny_bind ?_;rw[getitemInPython_of_ne hT.not_modules];refine wpAny_bind (wpAny_specialOf hT hl ?_)
 have fin:wpAny (model prog w) A (subscripted slice false o i) (fun r s₃=>wpAny (model prog w) A (letTemporaryGo value o r >>= fun _=>pure r) Q E s₃) E s₂:=by
  rw[hs o i];exact wpAny_operating (Al3 h₂ (fun r s₃ h₃=>Aa0 (wpAny_letTemporaryGo (Aa9 h₃))) fun _ _ x=>x)
 first
  |exact Aa9 (Aa0 fin)
  |exact Aa0 (Aa9 (Aa0 fin))
  |exact Aa0 fin
theorem aV5{X:Cx}{pins:List (Addr×Obj)}{σ:St}{H:Hp}{s:Shared}{a:Addr}{y:V}{o:Option V}(I:Inv X pins σ H s)(g:DGet H a y o):s.TypeIs (.ref a) "dict" := by
 rcases g with ⟨kvs,k,e,_,_⟩ | ⟨kvs,k,b,e,_,_,_⟩
 ·obtain⟨_,_,vs,_,dd⟩:=aI9 I.hok e;exact dd.typeIs
 ·obtain⟨_,_,xs,_,dd⟩:=aO7 I.hok e;exact dd.typeIs
def cs7(td ty:TE):TE:=fun σ H Q=>td σ H fun x H1=>ty σ H1 fun y H2=>∃ a v,x= .ref a∧DGet H2 a y (some v)∧Q v H2
def tDIn(ty td:TE):TE:=fun σ H Q=>ty σ H fun y H1=>td σ H1 fun x H2=>∃ a o,x= .ref a∧DGet H2 a y o∧Q (.bl o.isSome) H2
def bl0(ty td:TE):TE:=fun σ H Q=>ty σ H fun y H1=>td σ H1 fun x H2=>∃ a o,x= .ref a∧DGet H2 a y o∧Q (.bl (!o.isSome)) H2
def cv5(td ty tv:TE):TS:=fun D σ H=>tv σ H fun v H1=>td σ H1 fun x H2=>ty σ H2 fun y H3=>∃ a H4,x= .ref a∧DPut H3 a y v H4∧D.nx σ H4
section
variable{X:Cx}{o i e value:Expr}{pos pos' tpos:Pos}{td ty tv:TE}
theorem cg3(hu:X.A.units + 1 < cLine)(ho:PE X o td)(hi:PE X i ty)(hs:NoSl i):PE X (.Subscript o i pos) (cs7 td ty):=by
 intro pins s σ H Q I h;refine bV2 PySem.F.slot_dict_getitem.lookup hs (thn (ho pins s σ H _ I h) fun u s1 ⟨x,H1,I1,rx,q1⟩=>thn (hi pins s1 σ H1 _ I1 q1) fun iv s2 ⟨y,H2,I2,ry,a,v,ex,g,q2⟩=>?_);subst ex;obtain rfl:u=Value.ref a:=rx;exact⟨aV5 I2 g,bw8 hu I2 g ry fun w' s3 I3 rw'=>⟨v,H2,I3,rw',q2⟩⟩
theorem bq0(hu:X.A.units + 1 < cLine)(hi:PE X i ty)(ho:PE X o td):PC X .In i o (tDIn ty td):=by
 intro pins s σ H Q I h;refine thn (hi pins s σ H _ I h) fun iv s1 ⟨y,H1,I1,ry,q1⟩=>thn (ho pins s1 σ H1 _ I1 q1) fun u s2 ⟨x,H2,I2,rx,a,ov,ex,g,q2⟩=>?_;subst ex;obtain rfl:u=Value.ref a:=rx;exact d_in hu I2 g ry fun s3 I3=>⟨.bl ov.isSome,H2,I3,rfl,q2⟩
theorem bp9(hu:X.A.units + 1 < cLine)(hi:PE X i ty)(ho:PE X o td):PC X .NotIn i o (bl0 ty td):=by
 intro pins s σ H Q I h;refine thn (hi pins s σ H _ I h) fun iv s1 ⟨y,H1,I1,ry,q1⟩=>thn (ho pins s1 σ H1 _ I1 q1) fun u s2 ⟨x,H2,I2,rx,a,ov,ex,g,q2⟩=>?_;subst ex;obtain rfl:u=Value.ref a:=rx;exact co0 hu I2 g ry fun s3 I3=>⟨.bl (!ov.isSome),H2,I3,rfl,q2⟩
theorem ap6(hu:X.A.units + 1 < cLine)(ho:PE X o td)(hi:PE X i ty)(hv:PE X value tv)(hs:swapsWith value (some (.Subscript o i pos')) pos.line X.env=pure false):
 PS X (.Assign [.Subscript o i pos'] value pos) (cv5 td ty tv):=by
 intro pins s σ H D I h;refine wpAny_Assign_Subscript (thn (hv pins s σ H _ I h) fun r s1 ⟨v,H1,I1,rv,q1⟩=>thn (ho pins s1 σ H1 _ I1 q1) fun u s2 ⟨x,H2,I2,rx,q2⟩=>thn (hi pins s2 σ H2 _ I2 q2) fun iv s3 ⟨y,H3,I3,ry,a,H4,ex,g,q3⟩=>?_) hs;subst ex;obtain rfl:u=Value.ref a:=rx;exact bw7 hu I3 g ry rv fun s4 I4=>⟨σ,H4,I4,q3⟩
end
theorem bM4{P:Program}{w:World}{H:Hp}(h:Heap)(hb:sysModules < h.objs.size):ObjOk P w H (h.push { cls:= .type "dict",data:= .dict #[] }) h.objs.size (.dK []):=
 ⟨Ai8 _,beq_eq_false_iff_ne.mpr (Ai1 (Ac5 hb)),[],.nil,Heap.DictOf.new h⟩
theorem bM0{P:Program}{w:World}{H:Hp}(h:Heap)(hb:sysModules < h.objs.size):ObjOk P w H (h.push { cls:= .type "dict",data:= .dict #[] }) h.objs.size (.dT []):=
 ⟨Ai8 _,beq_eq_false_iff_ne.mpr (Ai1 (Ac5 hb)),[],.nil,_,#[],0,Ab8 _ rfl,⟨rfl,rfl,rfl⟩,rfl,rfl,Af1⟩
def bO6:TE:=fun _ H Q=>∀ p,H p=none→Q (.ref p) (upd H p (.dK []))
def bO5:TE:=fun _ H Q=>∀ p,H p=none→Q (.ref p) (upd H p (.dT []))
section
variable{X:Cx}{pos:Pos}
theorem bH9:PE X (.Dict [] [] pos) bO6:=fun pins s σ H Q I h=>
 wpAny_Dict_empty ⟨.ref s.heap.objs.size,_,I.laid (a:=s.heap.objs.size) (o:= .dK []) (t':=s.toks) (fun _ _ q=>Aa1 _ q) (Ab7 _) (bM4 s.heap I.big),rfl,h _ (I.hok.fresh (Ab7 _))⟩
theorem al2:PE X (.Dict [] [] pos) bO5:=fun pins s σ H Q I h=>
 wpAny_Dict_empty ⟨.ref s.heap.objs.size,_,I.laid (a:=s.heap.objs.size) (o:= .dT []) (t':=s.toks) (fun _ _ q=>Aa1 _ q) (Ab7 _) (bM0 s.heap I.big),rfl,h _ (I.hok.fresh (Ab7 _))⟩
end
def cF2(kvs more:List (Key×V)):List (Key×V):=more.foldl (fun acc kv=>putK acc kv.1 kv.2) kvs
theorem KV.merge:∀ {more:List (Key×V)} {rs:List (Key×Value)} {kvs:List (Key×V)} {vs:List (Key×Value)},KV more rs→KV kvs vs→KV (cF2 kvs more) (merged vs rs):=by
 intro more rs kvs vs r;unfold KV at r
 induction r generalizing kvs vs with
 |nil=>intro q; exact q
 |@cons p q ps qs h t ih=>
   intro r0
   have e:KV (putK kvs p.1 p.2) (stored vs q.1 q.2):=by
    have:=r0.put p.1 h.2
    rw[← h.1]; exact this
   exact ih e
structure M1 (X:Cx) (o:Expr) (m:Str) (apos:Pos) (e:Expr) (cpos:Pos):Prop where
 base:attributeBase o m X.env (eval o X.env)=eval o X.env
 few:((backTo cpos (starEach [e] X.env)).all (fun x=>!x.1) && (backToKw cpos (keywordEach [] X.env)).all (fun x=>x.1.isSome)
  && decide (([e]:List Expr).length + ([]:List Keyword).length + (if ([]:List Keyword).isEmpty then 0 else 1) < 30))=true
 line:(apos.endLine == cpos.line)=true
 trees:backTo cpos (starEach [e] X.env)=[(false,eval e X.env)]
structure M2 (X:Cx) (o:Expr) (m:Str) (apos:Pos) (e f:Expr) (cpos:Pos):Prop where
 base:attributeBase o m X.env (eval o X.env)=eval o X.env
 few:((backTo cpos (starEach [e,f] X.env)).all (fun x=>!x.1) && (backToKw cpos (keywordEach [] X.env)).all (fun x=>x.1.isSome)
  && decide (([e,f]:List Expr).length + ([]:List Keyword).length + (if ([]:List Keyword).isEmpty then 0 else 1) < 30))=true
 line:(apos.endLine == cpos.line)=true
 trees:backTo cpos (starEach [e,f] X.env)=[(false,eval e X.env),(false,eval f X.env)]
def IsD(H:Hp)(a:Addr):Prop:=(∃ kvs,Rd H a (.dK kvs))∨∃ kvs,Rd H a (.dT kvs)
theorem aN8{X:Cx}{pins:List (Addr×Obj)}{σ:St}{H:Hp}{s:Shared}{a:Addr}(I:Inv X pins σ H s)(d:IsD H a):
 s.TypeIs (.ref a) "dict" ∧ (∀ b,Value.ref a= .ref b→∃ ob,s.heap.get? b=some ob∧ob.dict=none)∧(a == sysModules)=false:=by
 rcases d with ⟨kvs,e⟩ | ⟨kvs,e⟩
 ·obtain⟨_,hd,vs,_,dd⟩:=aI9 I.hok e;refine⟨dd.typeIs,fun b q=>?_,hd⟩;cases q;obtain⟨ob,_,_,h1,h2,_⟩:=dd;exact⟨ob,h1,h2.2.1⟩
 ·obtain⟨_,hd,xs,_,dd⟩:=aO7 I.hok e;refine⟨dd.typeIs,fun b q=>?_,hd⟩;cases q;obtain⟨ob,_,_,h1,h2,_⟩:=dd;exact⟨ob,h1,h2.2.1⟩
section
variable{X:Cx}{pins:List (Addr×Obj)}{σ:St}{H:Hp}{s:Shared}{a:Addr}{y d:V}{u r:Value}{o:Option V}{A:Around}{E:Value→Shared→Prop}
theorem cI7{Q:Value→Shared→Prop}(hu:A.units + 1 < cLine)(I:Inv X pins σ H s)(g:DGet H a y o)(ry:RelV y u)(h:∀ w' s',Inv X pins σ H s'→RelV (o.getD .non) w'→Q w' s'):
 wpAny (model X.prog X.w) A (call (.builtin "dict.get") [.ref a,u]) Q E s:=by
 rcases g with ⟨kvs,k,e,ey,l⟩ | ⟨kvs,k,b,e,ey,eb,l⟩
 ·subst ey;obtain⟨z,hd,vs,rel,dd⟩:=aI9 I.hok e;refine Al4 Ag5 dd.typeIs Aj5 (Ap0 _ _) (meets_dict_get (ab6 X.prog X.w) a (aI2 ry) hd) ⟨_,dd.mapOf,h _ _ (I.tok _) ?_⟩;rw[l];exact(rel.val k).getD rfl
 ·subst ey;cases(show u=Value.ref b from ry);obtain⟨z,hd,xs,rel,dd⟩:=aO7 I.hok e;refine Al4 Ag5 dd.typeIs Aj5 (Ap0 _ _) (meetsH_dict_get (tupleKind (ab6 X.prog X.w)) a b hd) ⟨Ah7 hu,k,xs,ap2 I.hok eb,dd,h _ _ (I.tok _) ?_⟩;rw[l];exact(rel.val k).getD rfl
theorem cI6{Q:Value→Shared→Prop}(hu:A.units + 1 < cLine)(I:Inv X pins σ H s)(g:DGet H a y o)(ry:RelV y u)(rd:RelV d r)(h:∀ w' s',Inv X pins σ H s'→RelV (o.getD d) w'→Q w' s'):
 wpAny (model X.prog X.w) A (call (.builtin "dict.get") [.ref a,u,r]) Q E s:=by
 rcases g with ⟨kvs,k,e,ey,l⟩ | ⟨kvs,k,b,e,ey,eb,l⟩
 ·subst ey;obtain⟨z,hd,vs,rel,dd⟩:=aI9 I.hok e;refine Al4 Ag5 dd.typeIs Aj5 (Ap1 _ _ _) (meets_dict_get_default (ab6 X.prog X.w) a (aI2 ry) hd r) ⟨_,dd.mapOf,h _ _ (I.tok _) ?_⟩;rw[l];exact(rel.val k).getD rd
 ·subst ey;cases(show u=Value.ref b from ry);obtain⟨z,hd,xs,rel,dd⟩:=aO7 I.hok e;refine Al4 Ag5 dd.typeIs Aj5 (Ap1 _ _ _) (meetsH_dict_get_default (tupleKind (ab6 X.prog X.w)) a b hd r) ⟨Ah7 hu,k,xs,ap2 I.hok eb,dd,h _ _ (I.tok _) ?_⟩;rw[l];exact(rel.val k).getD rd
end
def bO8(td ty:TE):TE:=fun σ H Q=>td σ H fun x H1=>∃ a,x= .ref a∧IsD H1 a∧ty σ H1 fun y H2=>∃ o,DGet H2 a y o∧Q (o.getD .non) H2
def bO7(td ty tx:TE):TE:=fun σ H Q=>td σ H fun x H1=>∃ a,x= .ref a∧IsD H1 a∧ty σ H1 fun y H2=>tx σ H2 fun z H3=>∃ o,DGet H3 a y o∧Q (o.getD z) H3
def bO4(td ty tx:TE):TE:=fun σ H Q=>td σ H fun x H1=>∃ a,x= .ref a∧IsD H1 a∧ty σ H1 fun y H2=>tx σ H2 fun z H3=>∃ kvs k,H3 a=some (.dK kvs)∧y=kV k∧
 (∀ v,valV kvs k=some v→Q v (upd H3 a (.dK (aq5 kvs k))))∧(valV kvs k=none→Q z H3)
section
variable{X:Cx}{o e f:Expr}{apos cpos:Pos}{td ty tx:TE}
theorem bb2(hu:X.A.units + 1 < cLine)(ho:PE X o td)(he:PE X e ty)(m:M1 X o "get" apos e cpos):PE X (.Call (.Attribute o "get" apos) [e] [] cpos) (bO8 td ty):=by
 intro pins s σ H Q I h;refine Al8 m.base m.few m.line Ad0 Ag5 Aq6 (thn (ho pins s σ H _ I h) fun u s1 ⟨x,H1,I1,rx,a,ex,d,q1⟩=>?_);subst ex;obtain rfl:u=Value.ref a:=rx;obtain⟨t1,t2,_⟩:=aN8 I1 d;refine⟨t1,t2,?_⟩;rw[m.trees];refine Af9 rfl (Ai0 (Af3 (thn (he pins s1 σ H1 _ I1 q1) fun iv s2 ⟨y,H2,I2,ry,ov,g,q2⟩=>Ai2 ?_)));exact cI7 hu I2 g ry fun w' s3 I3 rw'=>⟨_,H2,I3,rw',q2⟩
theorem bI0(hu:X.A.units + 1 < cLine)(ho:PE X o td)(he:PE X e ty)(hf:PE X f tx)(m:M2 X o "get" apos e f cpos):PE X (.Call (.Attribute o "get" apos) [e,f] [] cpos) (bO7 td ty tx):=by
 intro pins s σ H Q I h;refine Al8 m.base m.few m.line Ad0 Ag5 Aq6 (thn (ho pins s σ H _ I h) fun u s1 ⟨x,H1,I1,rx,a,ex,d,q1⟩=>?_);subst ex;obtain rfl:u=Value.ref a:=rx;obtain⟨t1,t2,_⟩:=aN8 I1 d;refine⟨t1,t2,?_⟩;rw[m.trees]
 refine Af9 rfl (Ai0 (Af3 (thn (he pins s1 σ H1 _ I1 q1) fun iv s2 ⟨y,H2,I2,ry,q2⟩=>
  Af3 (thn (hf pins s2 σ H2 _ I2 q2) fun fv s3 ⟨z,H3,I3,rz,ov,g,q3⟩=>Ai2 ?_))))
 exact cI6 hu I3 g ry rz fun w' s4 I4 rw'=>⟨_,H3,I4,rw',q3⟩
theorem bH8(ho:PE X o td)(he:PE X e ty)(hf:PE X f tx)(m:M2 X o "pop" apos e f cpos):PE X (.Call (.Attribute o "pop" apos) [e,f] [] cpos) (bO4 td ty tx):=by
 intro pins s σ H Q I h;refine Al8 m.base m.few m.line Ad0 Aj9 Aq7 (thn (ho pins s σ H _ I h) fun u s1 ⟨x,H1,I1,rx,a,ex,d,q1⟩=>?_);subst ex;obtain rfl:u=Value.ref a:=rx;obtain⟨t1,t2,_⟩:=aN8 I1 d;refine⟨t1,t2,?_⟩;rw[m.trees]
 refine Af9 rfl (Ai0 (Af3 (thn (he pins s1 σ H1 _ I1 q1) fun iv s2 ⟨y,H2,I2,ry,q2⟩=>
  Af3 (thn (hf pins s2 σ H2 _ I2 q2) fun fv s3 ⟨z,H3,I3,rz,kvs,k,ea,ey,q3,q4⟩=>Ai2 ?_))))
 subst ey;cases l:valV kvs k with
 |some v=>exact d_pop I3 ea ry l (.inr ⟨fv,rfl⟩) fun w' s4 I4 rw'=>⟨v,_,I4,rw',q3 v l⟩
 |none=>exact cI5 I3 ea ry l fun s4 I4=>⟨z,H3,I4,rz,q4 l⟩
end
end L2
namespace HT
open PySem PyProof.Rows
def aH7:List Int→List Int→Bool
 |[],[]=>false
 |[],_ :: _=>true
 |_ :: _,[]=>false
 |x :: xs,y :: ys=>if x=y then aH7 xs ys else decide (x < y)
theorem aE9(x y:Int)(xs ys:List Int):aH7 (x :: xs) (y :: ys)=if x=y then aH7 xs ys else decide (x < y):=rfl
theorem bH1(A:Around)(s:Shared)(a:Int)(t:Tok)(c:Int)(u:Tok)(prog:Program)(w:World)(E:Value→Shared→Prop)(Q:Value→Shared→Prop)(h:Q (.bool (decide (a < c))) s):
 wpAny (model prog w) A (richCompare .Lt (.int a t) (.int c u)) Q E s:=
 (PyProof.Rows.lt_int h:wpAny (model prog w) A (compareOp .Lt (.int a t) (.int c u)) Q E s)
section
variable{prog:Program}{w:World}{A:Around}{E:Value→Shared→Prop}{s:Shared}
def sIx(n d:Nat):Option Int→Nat
 |none=>d
 |some v=>if v < 0 then (v + (n:Int)).toNat else min v.toNat n
theorem bG9(n d:Nat):sIx n d none=d:=rfl
end
end HT
namespace L2
open PySem PySem.Spec PyProof.Rows
abbrev TO:=St→Hp→(Option Int→Hp→Prop)→Prop
def PO(X:Cx)(e:Option Expr)(t:TO):Prop:=
 ∀ (pins:List (Addr×Obj)) (s:Shared) (σ:St) (H:Hp) (Q:Option Int→Hp→Prop),Inv X pins σ H s→t σ H Q→
  wpAny (model X.prog X.w) X.A (evalPart e X.env) (fun u s'=>∃ o H',Inv X pins σ H' s'∧IsPart u o∧Q o H') X.xe s
def bk9:TO:=fun _ H Q=>Q none H
def cs3(t:TE):TO:=fun σ H Q=>t σ H fun x H1=>∃ i,x= .int i∧Q (some i) H1
theorem bi9{ns:List Int}:∀ {us:List Value},Vals (ns.map V.int) us→IntsAre us ns:=by
 induction ns with
 |nil=>intro us r; rw[Af6] at r; cases r; exact .nil
 |cons n ns ih=>
   intro us r;rw[Aa2] at r;cases r with
   |cons r1 r2=>
     obtain⟨t,e⟩:=r1;subst e;exact .cons n t (ih r2)
section
variable{X:Cx}{e:Expr}{te:TE}{lo hi:Option Expr}{tl th:TO}{pos p2:Pos}
theorem cf9:PO X none bk9:=by
 intro pins s σ H Q I h;rw[evalPart_none];exact Aa9 ⟨none,H,I,.none,h⟩
theorem cf8(h:PE X e te):PO X (some e) (cs3 te):=by
 intro pins s σ H Q I hw;rw[evalPart_some];refine thn (h pins s σ H _ I hw) fun u s1 ⟨x,H1,I1,r1,q1⟩=>?_;obtain⟨i,rfl,q⟩:=q1;obtain⟨t,rfl⟩:=r1;exact⟨some i,H1,I1,.int i t,q⟩
def SlR(X:Cx)(r:V→Option Int→Option Int→Hp→VK→Prop):Prop:=
 ∀ (pins:List (Addr×Obj)) (s:Shared) (σ:St) (H:Hp) (x:V) (v vl vu:Value) (lo hi:Option Int) (sl:Addr) (Q:VK),Inv X pins σ H s→RelV x v→s.heap.IsSliceOf sl vl vu .none→IsPart vl lo→IsPart vu hi→r x lo hi H Q→
  ∃ T id,typeLookup (.type T) "__getitem__" = pure (some (.builtin id))∧s.TypeIs v T∧wpAny (model X.prog X.w) X.A (getItem v (.ref sl)) (EP X pins σ Q) X.xe s
theorem SlR.or{r r':V→Option Int→Option Int→Hp→VK→Prop}(h:SlR X r)(h':SlR X r'):SlR X (fun x lo hi H Q=>r x lo hi H Q∨r' x lo hi H Q):=by
 intro pins s σ H x v vl vu lo hi sl Q I rx hs pl pu q;rcases q with q | q
 ·exact h pins s σ H x v vl vu lo hi sl Q I rx hs pl pu q
 ·exact h' pins s σ H x v vl vu lo hi sl Q I rx hs pl pu q
def tSl(r:V→Option Int→Option Int→Hp→VK→Prop)(te:TE)(tl th:TO):TE:=fun σ H Q=>te σ H fun x H1=>tl σ H1 fun l H2=>th σ H2 fun u H3=>r x l u H3 Q
theorem bH6{r:V→Option Int→Option Int→Hp→VK→Prop}(hr:SlR X r)(he:PE X e te)(hl:PO X lo tl)(hu:PO X hi th):PE X (.Subscript e (.Slice lo hi none p2) pos) (tSl r te tl th):=by
 intro pins s σ H Q I h;refine Subscript_ (thn (he pins s σ H _ I h) fun v s1 ⟨x,H1,I1,r1,q1⟩=>?_);refine wpAny_Slice (thn (hl pins s1 σ H1 _ I1 q1) fun vl s2 ⟨l,H2,I2,pl,q2⟩=>thn (hu pins s2 σ H2 _ I2 q2) fun vu s3 ⟨u,H3,I3,pu,q3⟩=>?_);rw[evalPart_none];refine wpAny_pure ?_;have I4:Inv X pins σ H3 { s3 with heap:=s3.heap.push { cls:= .type "slice",data:= .fields #[vl,vu,.none] } }:=I3.kept (t':=s3.toks) fun b ob q=>Heap.get?_push_of_some _ q;obtain⟨T,id,hT,ht,hg⟩:=hr pins { s3 with heap:=s3.heap.push { cls:= .type "slice",data:= .fields #[vl,vu,.none] } } σ H3 x v vl vu l u s3.heap.objs.size Q I4 r1 (Heap.IsSliceOf.new ..) pl pu q3;show wpAny (model X.prog X.w) X.A (subscriptTail e (.Slice lo hi none p2) v (.ref s3.heap.objs.size)) (EP X pins σ Q) X.xe { s3 with heap:=s3.heap.push { cls:= .type "slice",data:= .fields #[vl,vu,.none] } };exact tail_any (ops:=[.ref s3.heap.objs.size,v]) ht hT hg (by with_unfolding_all rfl)
def cutV(xs:List V)(lo hi:Option Int):List V:=(xs.drop (HT.sIx xs.length 0 lo)).take (HT.sIx xs.length xs.length hi - HT.sIx xs.length 0 lo)
theorem aV8(xs:List V)(lo hi:Option Int):(cutV xs lo hi).length≤xs.length:=by
 unfold cutV;rw[List.length_take,List.length_drop];omega
end
def ixN(n:Nat)(i:Int):Option Nat:=if 0≤i then (if i < n then some i.toNat else none) else if -(n:Int)≤i then some (i + n).toNat else none
def atI{α:Type}(xs:List α)(i:Int):Option α:=(ixN xs.length i).bind fun j=>xs[j]?
theorem aU2{n:Nat}{i:Int}{j:Nat}(h:ixN n i=some j):seqIndex? i n=some j∧j < n∧-(n:Int)≤i∧i < n:=by
 unfold ixN at h;by_cases h0:0≤i
 · rw[Aa6 h0] at h;by_cases h1:i < n
   ·rw[Aa6 h1] at h;have e:i.toNat=j:=Ac1 h;exact⟨by rw[seqIndex_of h0 h1,e],by omega,by omega,h1⟩
   ·rw[Aa3 h1] at h; cases h
 · rw[Aa3 h0] at h;by_cases h1:-(n:Int)≤i
   ·rw[Aa6 h1] at h;have e:(i + n).toNat=j:=Ac1 h;exact⟨by rw[seqIndex_neg (by omega) h1,e],by omega,h1,by omega⟩
   ·rw[Aa3 h1] at h; cases h
theorem bC6{α:Type}{xs:List α}{i:Int}{v:α}(h:atI xs i=some v):∃ j,seqIndex? i xs.length=some j∧xs[j]?=some v∧j < xs.length∧-(xs.length:Int)≤i∧i < xs.length:=by
 unfold atI at h;cases e:ixN xs.length i with
 |none=>rw[e] at h; cases h
 |some j=>
   rw[e] at h;obtain⟨h1,h2,h3,h4⟩:=aU2 e;exact⟨j,h1,h,h2,h3,h4⟩
theorem bg0{α:Type}(xs:List α)(v:α):atI (xs ++ [v]) (-1)=some v:=by
 have hl:(xs ++ [v]).length=xs.length + 1:=by simp
 have e:ixN (xs ++ [v]).length (-1)=some xs.length:=by
  unfold ixN;rw[hl,if_neg (by decide),if_pos (by omega)];congr 1;omega
 unfold atI;rw[e];show(xs ++ [v])[xs.length]?=some v;simp
def cr2(b:Expr):Prop:=∀ o i,subscripted b false o i=operate [o,i] (getItem o i)
def IxR(X:Cx)(r:R2):Prop:=
 ∀ (value slice:Expr) (pins:List (Addr×Obj)) (s:Shared) (σ:St) (H:Hp) (x y:V) (v u:Value) (Q:VK),Inv X pins σ H s→RelV x v→RelV y u→r x y H Q→
  subscripted slice false v u=operate [v,u] (getItem v u)→wpAny (model X.prog X.w) X.A (subscriptTail value slice v u) (EP X pins σ Q) X.xe s
def MtR(X:Cx)(id:String)(r:V→List V→Hp→VK→Prop):Prop:=
 ∀ (pins:List (Addr×Obj)) (s:Shared) (σ:St) (H:Hp) (x:V) (xs:List V) (v:Value) (us:List Value) (Q:VK),Inv X pins σ H s→RelV x v→Vals xs us→r x xs H Q→
  wpAny (model X.prog X.w) X.A (call (.builtin id) (v :: us)) (EP X pins σ Q) X.xe s
section
variable{X:Cx}{a b:Expr}{ta tb:TE}{pos:Pos}
theorem IxR.or{r r':R2}(h:IxR X r)(h':IxR X r'):IxR X (fun x y H Q=>r x y H Q∨r' x y H Q):=by
 intro value slice pins s σ H x y v u Q I rx ry q hs;rcases q with q | q
 ·exact h value slice pins s σ H x y v u Q I rx ry q hs
 ·exact h' value slice pins s σ H x y v u Q I rx ry q hs
theorem MtR.or{id:String}{r r':V→List V→Hp→VK→Prop}(h:MtR X id r)(h':MtR X id r'):MtR X id (fun x xs H Q=>r x xs H Q∨r' x xs H Q):=by
 intro pins s σ H x xs v us Q I rx rs q;rcases q with q | q
 ·exact h pins s σ H x xs v us Q I rx rs q
 ·exact h' pins s σ H x xs v us Q I rx rs q
theorem ai3{r:R2}(hr:IxR X r)(ha:PE X a ta)(hb:PE X b tb)(hs:cr2 b):PE X (.Subscript a b pos) (tOp r ta tb):=by
 intro pins s σ H Q I h;exact Subscript_ (binT ha hb I h fun v u s2 x y H2 I2 rx ry q=>hr a b pins s2 σ H2 x y v u Q I2 rx ry q (hs _ _))
def rIxL(K:PySem.W.Frag):R2:=fun x y H Q=>∃ p xs i v,x= .ref p∧y= .int i∧SqL K H p xs∧atI xs i=some v∧Q v H
def rIxT(K:PySem.W.Frag):R2:=fun x y H Q=>∃ p xs i v,x= .ref p∧y= .int i∧SqT K H p xs∧atI xs i=some v∧Q v H
theorem cm1:IxR X (rIxL X.K):=by
 intro value slice pins s σ H x y v u Q I rx ry h hs;obtain⟨p,xs,i,z,rfl,rfl,hq,he,q⟩:=h;cases rx;obtain⟨t,rfl⟩:=ry;obtain⟨its,r,pl,hz⟩:=I.list hq;obtain⟨j,h1,h2,h3,h4,h5⟩:=bC6 he;obtain⟨w,ew,rw'⟩:=r.get h2;have hl:=r.length;have hn:=bc7;have fin:EP X pins σ Q w s:=⟨z,H,I,rw',q⟩;by_cases h0:0≤i
 · have hj:i.toNat=j:=by
    rw[seqIndex_of h0 h5] at h1;exact Ac1 h1
   exact item_listR pl.isList h0 (by omega) (by rw[hj]; simpa using ew) fin hs
 · have hj:(i + (its.toArray.size:Int)).toNat=j:=by
    rw[seqIndex_neg (by omega) h4] at h1;rw[Ab5,← hl];exact Ac1 h1
   exact subscriptTail_builtinR (x:=w) pl.isList.typeIs slot_list_getitem.lookup
    (wpAny_getItem_list_neg (Q:=fun r s'=>r=w∧EP X pins σ Q r s') pl.isList (by omega) (by rw[Ab5] <;> omega) (by omega) (by rw[hj]; simpa using ew) ⟨rfl,fin⟩) hs
theorem cG5:IxR X (rIxT X.K):=by
 intro value slice pins s σ H x y v u Q I rx ry h hs;obtain⟨p,xs,i,z,rfl,rfl,hq,he,q⟩:=h;cases rx;obtain⟨t,rfl⟩:=ry;obtain⟨its,r,pl,hz⟩:=I.tuple hq;obtain⟨j,h1,h2,h3,h4,h5⟩:=bC6 he;obtain⟨w,ew,rw'⟩:=r.get h2;have hl:=r.length;have hn:=bc7;have fin:EP X pins σ Q w s:=⟨z,H,I,rw',q⟩
 exact subscriptTail_builtinR (x:=w) pl.typeIs slot_tuple_getitem.lookup
  (getItem_tuple (j:=j) (Q:=fun r s'=>r=w∧EP X pins σ Q r s') pl (by omega) (by omega) (by rw[Ab5,← hl]; exact h1) (by simpa using ew) ⟨rfl,fin⟩) hs
theorem bi1(its:List Value)(n j:Nat)(u:Value):Obj.mapSeq (·.setIfInBounds j u) { cls:= .type "list",data:= .seq its.toArray n }={ cls:= .type "list",data:= .seq (its.set j u).toArray n }:=by
 simp[Obj.mapSeq]
theorem Inv.lst{pins:List (Addr×Obj)}{σ:St}{H:Hp}{s:Shared}{p:Addr}{xs:List V}(I:Inv X pins σ H s)(h:H p=some (.lst xs)):
 ∃ (its:List Value) (n:Nat),Vals xs its∧s.heap.get? p=some { cls:= .type "list",data:= .seq its.toArray n }∧xs.length≤sizeLine:=by
 obtain⟨z,its,n,r,e⟩:=I.hok p _ h;exact⟨its,n,r,e,z⟩
theorem Inv.lstUpd{pins:List (Addr×Obj)}{σ:St}{H:Hp}{s:Shared}{p:Addr}{xs ys:List V}{its its':List Value}{n n':Nat}{f:Obj→Obj}(I:Inv X pins σ H s)(h:H p=some (.lst xs))
 (ho:s.heap.get? p=some { cls:= .type "list",data:= .seq its.toArray n }) (hf:f { cls:= .type "list",data:= .seq its.toArray n }={ cls:= .type "list",data:= .seq its'.toArray n' }) (r:Vals ys its') (hz:ys.length≤sizeLine) (t:Nat):
 Inv X pins σ (upd H p (.lst ys)) { s with heap:=s.heap.update p f,toks:=t }:=by
 have e:(s.heap.update p f).get? p=some { cls:= .type "list",data:= .seq its'.toArray n' }:=by
  rw[Ac3 f ho (by rw[hf] <;> rfl),hf]
 refine I.write (x:=p) (e:=p) (by rw[h]; trivial) (.inl rfl) (fun b u hb q=>(Ab4 _ _ (Ai1 hb)).trans q) ⟨_,e⟩ ?_;exact⟨hz,its',n',r,e⟩
def cv9:V→V→V→Hp→(Hp→Prop)→Prop:=fun o i v H Q=>∃ p xs k j,o= .ref p∧i= .int k∧H p=some (.lst xs)∧ixN xs.length k=some j∧Q (upd H p (.lst (xs.set j v)))
theorem aZ9:PSet X cv9:=by
 intro pins s σ H o i v ov iv u Q I ro ri rv h;obtain⟨p,xs,k,j,rfl,rfl,hp,hj,q⟩:=h;cases ro;obtain⟨t,rfl⟩:=ri;obtain⟨its,n,r,ho,hz⟩:=I.lst hp;obtain⟨h1,h2,h3,h4⟩:=aU2 hj;have hl:=r.length;have hn:=bc7
 have I':Inv X pins σ (upd H p (.lst (xs.set j v))) { s with heap:=s.heap.update p (Obj.mapSeq (·.setIfInBounds j u)) }:=
  I.lstUpd hp ho (bi1 its n j u) (r.set rv j) (by rw[Ad8]; exact hz) s.toks
 by_cases h0:0≤k
 · have hk:k.toNat=j:=by
    rw[seqIndex_of h0 h4] at h1;exact Ac1 h1
   exact PySem.W.ki_setAt ho h0 (by omega) (by rw[Ab5,← hl]; exact h4) (by rw[hk]; exact⟨_,I',q⟩)
 · have hk:(k + (its.toArray.size:Int)).toNat=j:=by
    rw[seqIndex_neg (by omega) h3] at h1;rw[Ab5,← hl];exact Ac1 h1
   exact PySem.W.ki_setBack ho (by omega) (by rw[Ab5,← hl]; exact h3) (by omega) (by rw[hk]; exact⟨_,I',q⟩)
theorem aL5(lo hi:Option Int)(n:Nat):(sliceBounds lo hi none n).1=((HT.sIx n 0 lo:Nat):Int)∧(sliceBounds lo hi none n).2.1=((HT.sIx n n hi:Nat):Int)∧(sliceBounds lo hi none n).2.2=1:=by
 refine⟨?_,?_,rfl⟩
 · cases lo with
   |none=>simp[sliceBounds,HT.sIx]
   |some i=>
     simp only[sliceBounds,HT.sIx,Option.getD_none,show(1:Int) > 0 by decide,Ag6];by_cases h:i < 0
     ·simp only[h,Ag6] <;> omega
     ·simp only[h,Am4] <;> omega
 · cases hi with
   |none=>simp[sliceBounds,HT.sIx]
   |some i=>
     simp only[sliceBounds,HT.sIx,Option.getD_none,show(1:Int) > 0 by decide,Ag6];by_cases h:i < 0
     ·simp only[h,Ag6] <;> omega
     ·simp only[h,Am4] <;> omega
theorem aG7(its:List Value)(lo hi:Option Int):slicePick its.toArray lo hi none=((its.drop (HT.sIx its.length 0 lo)).take (HT.sIx its.length its.length hi - HT.sIx its.length 0 lo)).toArray:=by
 obtain⟨h1,h2,h3⟩:=aL5 lo hi its.toArray.size;unfold slicePick;rw[h1,h2,h3];simp only[sliceRange_one,pick_run,List.size_toArray] <;> rfl
def rSlL(K:PySem.W.Frag):V→Option Int→Option Int→Hp→VK→Prop:=fun x lo hi H Q=>∃ a xs,x= .ref a∧SqL K H a xs∧∀ p,H p=none→Q (.ref p) (upd H p (.lst (cutV xs lo hi)))
theorem ce3:SlR X (rSlL X.K):=by
 intro pins s σ H x v vl vu lo hi sl Q I rx hs pl pu h;obtain⟨a,xs,rfl,hx,q⟩:=h;cases rx;obtain⟨its,r,ht,hz⟩:=I.list hx;have hlen:=r.length;refine⟨"list",_,slot_list_getitem.lookup,ht.isList.typeIs,?_⟩;refine wpAny_getItem_list_slice ht.isList hs pl pu .none (by simp) ?_ (by rw[Ab5] <;> omega);rw[aG7,← hlen];refine⟨.ref s.heap.objs.size,_,I.laid (t':=s.toks) (o:= .lst (cutV xs lo hi)) (fun b ob q=>Aa1 _ q) (Ab7 _) ?_,rfl,q _ (I.hok.fresh (Ab7 _))⟩;exact⟨Ae3 (aV8 xs lo hi) hz,_,0,(r.drop (HT.sIx xs.length 0 lo)).take (HT.sIx xs.length xs.length hi - HT.sIx xs.length 0 lo),Ab8 _ rfl⟩
theorem aQ0:CallR X (.builtin "len") (fun xs H Q=>∃ p ys,xs=[.ref p]∧(SqL X.K H p ys∨SqT X.K H p ys)∧Q (.int ys.length) H):=by
 intro pins s σ H xs us Q I r h;obtain⟨p,ys,rfl,hq,q⟩:=h;obtain⟨u,rfl,rx⟩:=bD7 r;cases rx;have hn:=bc7;rcases hq with hq | hq
 ·obtain⟨its,r',pl,hz⟩:=I.list hq;have hlen:=r'.length;exact Calls.call_len_list pl.isList (by simp only[Ab5] <;> omega) ⟨.int ys.length,H,I.tok _,⟨s.toks + 1,by rw[Ab5,hlen]⟩,q⟩
 ·obtain⟨its,r',pl,hz⟩:=I.tuple hq;have hlen:=r'.length;exact len_tuple pl (by simp only[Ab5] <;> omega) ⟨.int ys.length,H,I.tok _,⟨s.toks + 1,by rw[Ab5,hlen]⟩,q⟩
theorem CallR.or{f:Value}{r r':List V→Hp→VK→Prop}(h:CallR X f r)(h':CallR X f r'):CallR X f (fun xs H Q=>r xs H Q∨r' xs H Q):=by
 intro pins s σ H xs us Q I rs q;rcases q with q | q
 ·exact h pins s σ H xs us Q I rs q
 ·exact h' pins s σ H xs us Q I rs q
theorem aP9:CallR X (.type "list") (fun xs H Q=>∃ p ys,xs=[.ref p]∧(SqL X.K H p ys∨SqT X.K H p ys)∧∀ l,H l=none→Q (.ref l) (upd H l (.lst ys))):=by
 intro pins s σ H xs us Q I r h;obtain⟨p,ys,rfl,hq,q⟩:=h;obtain⟨u,rfl,rx⟩:=bD7 r;cases rx
 have fin:∀ (its:List Value),Vals ys its→ys.length≤sizeLine→∀ (h':Heap) (c':Nat),(∀ b o',s.heap.get? b=some o'→h'.get? b=some o')→
  h'.get? s.heap.objs.size=some { cls:= .type "list",dict:=none,data:= .seq its.toArray c',slots:=#[] }→EP X pins σ Q (.ref s.heap.objs.size) { s with heap:=h' }:=fun its r' hz h' c' kp e=>
  ⟨.ref s.heap.objs.size,_,I.laid (t':=s.toks) kp (Ab7 _) (show ObjOk X.prog X.w _ h' _ (.lst ys) from⟨hz,its,c',r',e⟩),rfl,q _ (I.hok.fresh (Ab7 _))⟩
 rcases hq with hq | hq
 ·obtain⟨its,r',pl,hz⟩:=I.list hq;have hlen:=r'.length;obtain⟨o,ho,hc,n,hd⟩:=pl.isList;exact call_list_seq p (.inl rfl) ho hc hd (fun h' c' kp e=>fin its r' hz h' c' kp e) (by simp only[Ab5] <;> omega)
 ·obtain⟨its,r',pl,hz⟩:=I.tuple hq;have hlen:=r'.length;obtain⟨o,ho,hc,n,hd⟩:=pl;exact call_list_seq p (.inr rfl) ho hc hd (fun h' c' kp e=>fin its r' hz h' c' kp e) (by simp only[Ab5] <;> omega)
theorem aK2:CallR X (.type "tuple") (fun xs H Q=>∃ p ys,xs=[.ref p]∧((SqL X.K H p ys∧∀ l,H l=none→Q (.ref l) (upd H l (.tup ys)))∨(SqT X.K H p ys∧Q (.ref p) H))):=by
 intro pins s σ H xs us Q I r h;obtain⟨p,ys,rfl,h⟩:=h;obtain⟨u,rfl,rx⟩:=bD7 r;cases rx;rcases h with ⟨hq,q⟩ | ⟨hq,q⟩
 · obtain⟨its,r',pl,hz⟩:=I.list hq;have hlen:=r'.length;refine call_tuple_list pl.isList (fun h' kp=>?_) (by simp only[Ab5] <;> omega);have I1:Inv X pins σ H { s with heap:=h' }:=I.kept (t':=s.toks) kp
   have I2:Inv X pins σ (upd H h'.objs.size (.tup ys)) { s with heap:=h'.push { cls:= .type "tuple",data:= .seq its.toArray } }:=
    I1.laid (t':=s.toks) (fun b o e=>Aa1 _ e) (Ab7 _) (show ObjOk X.prog X.w _ _ _ (.tup ys) from⟨hz,its,r',IsTup.new _ _⟩)
   exact⟨.ref h'.objs.size,_,I2,rfl,q _ (I1.hok.fresh (Ab7 _))⟩
 ·obtain⟨its,r',pl,hz⟩:=I.tuple hq;exact call_tuple_same pl ⟨.ref p,H,I,rfl,q⟩
def tyV(K:PySem.W.Frag)(T:String)(x:V)(H:Hp):Prop:=match x with
 |.str _=>T = "str"
 |.int _=>T = "int"
 | .ref p=>(T = "list" ∧ ∃ xs,SqL K H p xs)∨(T = "tuple" ∧ ∃ o,K.lookup p=some o∧o.cls= .type "tuple" ∧ o.dict=none)∨
    (T = "dict" ∧ ((∃ kvs,H p=some (.dK kvs))∨∃ kvs,H p=some (.dT kvs)))∨(T = "set" ∧ ∃ S n,H p=some (.set S n))
 |_=>False
theorem cr7{pins:List (Addr×Obj)}{σ:St}{H:Hp}{s:Shared}{T:String}{x:V}{v:Value}(I:Inv X pins σ H s)(r:RelV x v)(ty:tyV X.K T x H):
 s.TypeIs v T∧∀ a,v= .ref a→∃ ob,s.heap.get? a=some ob∧ob.dict=none:=by
 cases x with
 |str z=>
   obtain⟨t,rfl⟩:=r;cases(show T = "str" from ty);exact⟨typeIs_str s z t,fun _ e=>nomatch e⟩
 |int i=>
   obtain⟨t,rfl⟩:=r;cases(show T = "int" from ty);exact⟨typeIs_int s i t,fun _ e=>nomatch e⟩
 |ref p=>
   cases r;rcases ty with ⟨rfl,xs,hq⟩ | ⟨rfl,o,hk,hc,hd⟩ | ⟨rfl,hk⟩ | ⟨rfl,S,n,hk⟩
   ·obtain⟨its,_,pl,_⟩:=I.list hq;refine⟨pl.isList.typeIs,fun a e=>?_⟩;cases e;obtain⟨o,n,e,c,hd,_⟩:=pl;exact⟨o,e,hd⟩
   ·refine⟨⟨o,I.kIn p o hk,hc⟩,fun a e=>?_⟩;cases e;exact⟨o,I.kIn _ o hk,hd⟩
   · have z:∃ o,s.heap.get? p=some o∧o.ExactDict:=by
      rcases hk with ⟨kvs,hk⟩ | ⟨kvs,hk⟩
      ·obtain⟨_,_,_,_,o,_,_,e,ex,_⟩:=I.hok p _ hk;exact⟨o,e,ex⟩
      ·obtain⟨_,_,_,_,o,_,_,e,ex,_⟩:=I.hok p _ hk;exact⟨o,e,ex⟩
     obtain⟨o,e,ex⟩:=z;refine⟨⟨o,e,ex.1⟩,fun a e2=>?_⟩;cases e2;exact⟨o,e,ex.2.1⟩
   ·obtain⟨o,_,_,_,e,ex,_⟩:=I.hok p _ hk;refine⟨⟨o,e,ex.1⟩,fun a e2=>?_⟩;cases e2;exact⟨o,e,ex.2.1⟩
 |_=>exact False.elim ty
def tBM(K:PySem.W.Frag)(T:String)(r:V→List V→Hp→VK→Prop)(to:TE)(t:TA):TE:=fun σ H Q=>to σ H fun x H1=>tyV K T x H1∧t σ H1 fun xs H2=>r x xs H2 Q
variable{o e:Expr}{es:List Expr}{to:TE}{t:TA}{name:Str}{apos cpos:Pos}{T id:String}{r:V→List V→Hp→VK→Prop}
theorem bh8(pa:PlainAttrs T)(slot:Slot T name id)(hty:typeOf (.builtin id)=pure (.type "method_descriptor"))(hm:MtR X id r)(ho:PE X o to)(ha:PA X (e :: es) t)
 (hbase:attributeBase o name X.env (eval o X.env)=eval o X.env:=by rfl)
 (hfew:((backTo cpos (starEach (e :: es) X.env)).all (fun x=>!x.1) && (backToKw cpos (keywordEach [] X.env)).all (fun x=>x.1.isSome)
   && decide ((e :: es).length + ([]:List Keyword).length + (if ([]:List Keyword).isEmpty then 0 else 1) < 30))=true:=by rfl)
 (hline:(apos.endLine == cpos.line)=true:=by rfl) (hs:starEach (e :: es) X.env=(false,eval e X.env) :: starEach es X.env:=by rfl) (hplain:(backTo cpos (starEach es X.env)).any (·.1)=false:=by rfl):
 PE X (.Call (.Attribute o name apos) (e :: es) [] cpos) (tBM X.K T r to t):=by
 intro pins s σ H Q I h;refine wpAny_Call_method_late hbase hfew hline rfl (thn (ho pins s σ H _ I h) fun v s1 ⟨x,H1,I1,r1,ty,q1⟩=>?_);obtain⟨h1,h2⟩:=cr7 I1 r1 ty;refine⟨T,id,pa,slot,hty,h1,h2,?_⟩;have hA:=ha cpos pins s1 σ H1 _ I1 q1;rw[hs] at hA ⊢;refine Af9 (by show(false || (backTo cpos (starEach es X.env)).any (·.1))=false; rw[hplain] <;> rfl) (Ai0 ?_);exact thn hA fun us s2 ⟨vs,H2,I2,r2,q2⟩=>hm pins s2 σ H2 x vs v us Q I2 r1 r2 q2
end
def MtM(X:Cx)(id:String)(r:V→List V→Hp→VK→Prop):Prop:=
 ∀ (pins:List (Addr×Obj)) (s:Shared) (σ:St) (H:Hp) (x:V) (xs:List V) (v:Value) (us:List Value) (Q:VK),Inv X pins σ H s→RelV x v→Vals xs us→r x xs H Q→
  wpAny (model X.prog X.w) X.A (call (.builtin id) (v :: us)) (EP X pins σ Q) X.xe s
theorem Vals.one:∀ {x:V} {us:List Value},Vals [x] us→∃ u,us=[u]∧RelV x u
 |_,_,.cons r .nil=>⟨_,rfl,r⟩
theorem Vals.eraseIdx:∀ {xs:List V} {us:List Value} (i:Nat),Vals xs us→Vals (xs.eraseIdx i) (us.eraseIdx i)
 |_,_,_,.nil=> .nil
 |_,_,0,.cons _ t=>t
 |_,_,i + 1,.cons r t=> .cons r (Vals.eraseIdx i t)
theorem Vals.rep{xs:List V}{us:List Value}(h:Vals xs us):∀ k:Nat,Vals (List.replicate k xs).flatten (List.replicate k us).flatten
 |0=> .nil
 | k + 1=>by
   rw[Ad6,Ad6,Ae8,Ae8];exact Vals.append h (Vals.rep h k)
theorem aN2{α:Type}:∀ (l:List α) (i:Nat),(l.eraseIdx i).length≤l.length
 |[],_=>Ab7 _
 |_ :: _,0=>Nat.le_succ _
 |_ :: r,i + 1=>Nat.succ_le_succ (aN2 r i)
theorem aO3(its:List Value):∀ (k:Nat) (acc:List Value),
 List.foldl (fun x1 x2=>x1 ++ x2) acc.toArray (List.replicate k its.toArray)=(acc ++ (List.replicate k its).flatten).toArray
 |0,acc=>by simp
 | k + 1,acc=>by
   have e:acc.toArray ++ its.toArray=(acc ++ its).toArray:=by simp
   have e2:(acc ++ its) ++ (List.replicate k its).flatten=acc ++ (List.replicate (k + 1) its).flatten:=by
    rw[Ad6,Ae8,Ae9]
   rw[← e2,← aO3 its k (acc ++ its),← e,Ad6,Ak0]
section
variable{X:Cx}{pins:List (Addr×Obj)}{σ:St}{H:Hp}{s:Shared}{l b:Addr}{xs ys zs:List V}
theorem Inv.lset{its its':List Value}{n:Nat}{f:Array Value→Array Value}{t':Nat}(I:Inv X pins σ H s)(hH:H l=some (.lst xs))
 (e:s.heap.get? l=some { cls:= .type "list",data:= .seq its.toArray n }) (hf:f its.toArray=its'.toArray) (hv:Vals ys its') (hz:ys.length≤sizeLine):
 Inv X pins σ (upd H l (.lst ys)) { s with heap:=s.heap.update l (Obj.mapSeq f),toks:=t' }:=by
 have q:=PySem.IsL.update e f;rw[hf] at q;refine I.write (x:=l) (e:=l) (by rw[hH]; exact trivial) (.inl rfl) (fun b' u hb hu=>(Ab4 s.heap (Obj.mapSeq f) (Ai1 hb)).trans hu) ⟨_,q⟩ ?_;exact⟨hz,its',_,hv,q⟩
theorem Inv.lnew{its:List Value}{t':Nat}(I:Inv X pins σ H s)(hv:Vals ys its)(hz:ys.length≤sizeLine):
 Inv X pins σ (upd H s.heap.objs.size (.lst ys)) { s with heap:=s.heap.push { cls:= .type "list",data:= .seq its.toArray },toks:=t' }:=
 I.laid (fun _ _ q=>Aa1 _ q) (Ab7 _) ⟨hz,its,0,hv,Ab8 _ rfl⟩
theorem Inv.fresh(I:Inv X pins σ H s):H s.heap.objs.size=none:=I.hok.fresh (Ab7 _)
theorem Inv.lstM(I:Inv X pins σ H s)(hH:H l=some (.lst xs)):xs.length≤sizeLine∧∃ (its:List Value) (n:Nat),Vals xs its∧xs.length=its.length∧s.heap.get? l=some { cls:= .type "list",data:= .seq its.toArray n }:=by
 obtain⟨z,its,n,r,e⟩:=I.hok l _ hH;exact⟨z,its,n,r,r.length,e⟩
theorem bI8{n:Nat}(h:n≤sizeLine):Builtin.List.listTooLong n=false:=by
 unfold Builtin.List.listTooLong;exact decide_eq_false (by omega)
end
section
variable{X:Cx}
def bo9:V→List V→Hp→VK→Prop:=fun x vs H Q=>∃ l xs y,x= .ref l∧vs=[y]∧H l=some (.lst xs)∧xs.length < sizeLine∧Q .non (upd H l (.lst (xs ++ [y])))
theorem aM6:MtM X "list.append" bo9:=by
 intro pins s σ H x vs v us Q I rx rv h;obtain⟨l,xs,y,rfl,rfl,hH,hz,q⟩:=h;cases rx;obtain⟨u,rfl,ru⟩:=rv.one;obtain⟨z,its,n,r,hl,e⟩:=I.lstM hH;refine call_meets F.slot_list_append ⟨_,e,rfl⟩ F.entry_list_append (F.args_list_append_2 _ _) (PySem.list_append l its.toArray n u (by rw[Ab5]; omega)) ⟨e,?_⟩;refine⟨.non,_,I.lset (its':=its ++ [u]) hH e (by simp) (r.append (.cons ru .nil)) ?_,rfl,q⟩;rw[Ac4,Af0];omega
def bR5:V→List V→Hp→VK→Prop:=fun x vs H Q=>∃ l xs i k y,x= .ref l∧vs=[.int i]∧H l=some (.lst xs)∧-(2 ^ 63)≤i∧i < 2 ^ 63∧seqIndex? i xs.length=some k∧xs[k]?=some y∧Q y (upd H l (.lst (xs.eraseIdx k)))
theorem bJ1:MtM X "list.pop" bR5:=by
 intro pins s σ H x vs v us Q I rx rv h;obtain⟨l,xs,i,k,y,rfl,rfl,hH,h1,h2,hk,hy,q⟩:=h;cases rx;obtain⟨u,rfl,ru⟩:=rv.one;obtain⟨t,rfl⟩:=ru;obtain⟨z,its,n,r,hl,e⟩:=I.lstM hH;obtain⟨w,hw,rw'⟩:=r.get hy
 refine call_meets F.slot_list_pop ⟨_,e,rfl⟩ F.entry_list_pop (F.args_list_pop_2 _ _)
  (MeetsSeq.list_pop_at l its.toArray n i t k w (fitsIndex_both h1 h2) (by rw[Ab5,← hl]; exact hk) (by rw[← Am1]; exact hw) (by rw[Ab5]; omega)) ⟨e,?_⟩
 refine⟨y,_,I.lset (its':=its.eraseIdx k) hH e ?_ (r.eraseIdx k) ?_,rw',q⟩
 ·show its.toArray.eraseIdxIfInBounds k=(its.eraseIdx k).toArray;rw[Al9]
 · have:=aN2 xs k
   omega
def rCat:R2:=fun x y H Q=>∃ l b xs zs,x= .ref l∧y= .ref b∧H l=some (.lst xs)∧H b=some (.lst zs)∧xs.length + zs.length≤sizeLine∧∀ p,H p=none→Q (.ref p) (upd H p (.lst (xs ++ zs)))
theorem cz0:OpR X (binaryOp .Add) rCat:=by
 intro pins s σ H x y v u Q I rx ry h;obtain⟨l,b,xs,zs,rfl,rfl,hH,hB,hz,q⟩:=h;cases rx;cases ry;obtain⟨z,its,n,r,hl,e⟩:=I.lstM hH;obtain⟨z2,its2,n2,r2,hl2,e2⟩:=I.lstM hB;refine PySem.P.add_list e e2 ?_ (by rw[Ab5,Ab5]; omega);have ea:its.toArray ++ its2.toArray=(its ++ its2).toArray:=by simp
 rw[ea];exact⟨.ref _,_,I.lnew (t':=s.toks) (r.append r2) (by rw[Ac4]; omega),rfl,q _ I.fresh⟩
def rRep:R2:=fun x y H Q=>∃ l k xs,x= .ref l∧y= .int k∧H l=some (.lst xs)∧-(2 ^ 63)≤k∧k < 2 ^ 63∧xs.length * k.toNat≤sizeLine∧
 ∀ p,H p=none→Q (.ref p) (upd H p (.lst (List.replicate k.toNat xs).flatten))
theorem cl4{α:Type}(xs:List α)(k:Nat):(List.replicate k xs).flatten.length=k * xs.length:=by
 induction k with
 |zero=>simp
 |succ k ih=>rw[Ad6,Ae8,Ac4,ih,Nat.succ_mul,Nat.add_comm]
theorem cy5:OpR X (binaryOp .Mult) rRep:=by
 intro pins s σ H x y v u Q I rx ry h;obtain⟨l,k,xs,rfl,rfl,hH,h1,h2,hz,q⟩:=h;cases rx;obtain⟨t,rfl⟩:=ry;obtain⟨z,its,n,r,hl,e⟩:=I.lstM hH;have hlen:its.toArray.size * k.toNat≤sizeLine:=by rw[Ab5,← hl]; exact hz
 have hcap:¬ its.toArray.size * k.toNat > (2 ^ 63 - 1) / 8:=by
  have:(sizeLine:Nat)≤(2 ^ 63 - 1) / 8:=by decide
  omega
 have hfit:¬ (!Builtin.List.listFitsIndex k)=true:=by
  rw[fitsIndex_both h1 h2];exact Ab1
 have hlong:¬ Builtin.List.listTooLong (its.toArray.size * k.toNat)=true:=by
  rw[bI8 hlen];exact Ab1
 have hnew:List.foldl (fun x1 x2=>x1 ++ x2) #[] (List.replicate (if its.toArray.isEmpty=true then 0 else k.toNat) its.toArray)=(List.replicate k.toNat its).flatten.toArray:=by
  have f0:∀ m:Nat,List.foldl (fun x1 x2=>x1 ++ x2) #[] (List.replicate m its.toArray)=(List.replicate m its).flatten.toArray:=fun m=>by
   have:=aO3 its m []
   rw[List.nil_append] at this;exact this
  rw[f0];cases its with
  |nil=>simp
  |cons a r'=>rw[Aa3 (by simp)]
 refine wpAny_binaryOp_repeat_ref (T := "list") (U := "int") (by decide) ⟨_,e,rfl⟩ (fun s'=>typeIs_int s' k t) noFill_list_mul F.fills_int_mul F.slot_int_rmul repeat_list F.slot_int_index.lookup
  (call_meets F.slot_int_rmul (typeIs_int s k t) F.entry_int_rmul (F.args_int_rmul_2 _ _) (int___rmul___int_list k t l its.toArray n)
    ⟨e,rfl,⟨_,e,rfl⟩,call_meets F.slot_list_mul ⟨_,e,rfl⟩ F.entry_list_mul (F.args_list_mul_2 _ _) (AutoListH.list___mul___list_int_3 l its.toArray n k t hfit hcap hlong) ⟨e,?_⟩⟩)
 rw[hnew];exact⟨.ref _,_,I.lnew (t':=s.toks) (r.rep k.toNat) (by rw[cl4,Nat.mul_comm]; exact hz),rfl,q _ I.fresh⟩
end
end L2
namespace Att
open PySem PySem.W PySem.Calls PyProof.Rows
theorem az4{P:Params}{h:Heap}:∀ (ns:List Int) (vs:List Value),WellAll P h vs (ns.map WData.int)→IntsAre vs ns:=by
 intro ns
 induction ns with
 |nil=>
   intro vs w;rw[Af6] at w;cases w;exact .nil
 |cons n ns ih=>
   intro vs w;rw[Aa2] at w;cases w with
   |cons a b=>
     cases a;exact .cons _ _ (ih _ b)
theorem bm7{l:OpenLaw}{n:Nat}(hn:l.most=some n){P:Params}{h:Heap}{args:List WData}{vals:List Value}
 (hpre:l.row.toRowW.claim.pre args=true) (hwl:WellAll P h vals args):
 ∃ a vs ns,vals=[Value.ref a]∧args=[WData.list (ns.map WData.int)]∧h.get? a=some { cls:= .type "list",data:= .seq vs.toArray }∧IntsAre vs ns∧ns.length≤n:=by
 have hsh:WShape.hasAll [] args [.list .int]=true:=(pre_splitW hpre).1;have hc:l.pre.holds [] { args:=args }=true:=(pre_splitW hpre).2;obtain⟨d,r,rfl,h1,h2⟩:=hasAllW_cons hsh;obtain rfl:=hasAllW_nil h2;obtain⟨xs,rfl,h3⟩:=hasW_list h1;obtain⟨ns,rfl⟩:=items_int h3
 have hlen:ns.length≤n:=by
  unfold OpenLaw.pre at hc
  have h4:(WTm.not (.lt (.lit (.int (n:Int))) (.len (.arg 0)))).holds [] { args:=[.list (ns.map .int)] }=true:=by
   have h4:=(holds_andW hc).1;rw[hn] at h4;exact h4
  have h5:=condW_of h4 (w_not (w_lt w_lit (w_len_list (w_arg rfl))));rw[Aa7] at h5;refine Nat.le_of_not_lt fun q=>?_;have q':(n:Int) < ((ns.length:Nat):Int):=by omega
  first
   |(rw[Ag2 q'] at h5; exact absurd h5 (by decide))
   |(simp at h5; omega)
 cases hwl with
 |cons w1 w2=>
   cases w2;cases w1 with
   |list ho hall=>exact⟨_,_,ns,rfl,rfl,ho,az4 ns _ hall,hlen⟩
theorem bp3(l:OpenLaw)(args:List WData):l.row.toRowW.claim.post args (.bool true) args=true:=
 postW_of (r:=l.row.toRowW) (X:=(true == true))
  (show WShape.has [] (.bool true) .bool=true by first | rfl | decide | simp[WShape.has,WShape.arms,WShape.armsAll])
  (show(WTm.eq .res (.lit (.bool true))).value [] { args:=args,res:=some (.bool true),after:=args }=some (.bool (true == true)) from w_eq_bool (w_res rfl) w_lit) rfl
theorem aZ3{l:OpenLaw}{n:Nat}{q:Program}{loose:List Str}{XP:(Str→Option Value)→Heap→Prop}{YP:World→Heap→Prop}{d:DefRec}
 (hn:l.most=some n) (hdf:d.params.defaults=[])
 (call:∀ (w:World) (s₀ s₁:Shared) (mg mb:Str→Option Value) (fa:Addr) (o:Obj) (pm cd doc:Value) (a:Addr) (vs:List Value) (ns:List Int),
   Ground q loose [] XP w s₀ mg mb s₁.heap→YP w s₁.heap→
   s₁.heap.get? fa=some o→o.data= .func (docDef d.name d.params d.body d.scope pm cd doc)→s₁.heap.CodeRec cd d.name→mg d.name=some (.ref fa)→
   s₁.heap.get? a=some { cls:= .type "list",data:= .seq vs.toArray }→IntsAre vs ns→ns.length≤n→s₁.gens=#[]→
   codeAny (model l.prog w) callerA (.call (.ref fa) ⟨[.ref a],[]⟩) (fun r s'=>r= .ok (.ret (.bool true))∧OldK s₁.heap s'.heap∧s'.os=s₁.os∧AllBare s'.gens) s₁):
 WalkO q loose XP YP l.row.toRowW d [] (fun f vs=>PySem.call f vs):=by
 intro w s₀ s₁ mg mb G Y fa o pm cd doc dV kV ho hd hcd hD hmg hg args vals as hpre hlay hrd hwl hlo;obtain rfl:dV= .none:=Dflts.none hD hdf;obtain rfl:kV= .none:=Dflts.noKw hD;obtain⟨a,vs,ns,rfl,rfl,hobj,hints,hlen⟩:=bm7 hn hpre hwl;refine enter_call (Aq4 (call w s₀ s₁ mg mb fa o pm cd doc a vs ns G Y ho (fd_plain hd) hcd hmg hobj hints hlen hg) fun r s' hq=>?_);obtain⟨rfl,h2,h3,h4⟩:=hq;exact⟨.inl ⟨.bool true,.bool true,[],rfl,fun _=>rfl,.bool true,bp3 l _,fun _=>⟨List.Pairwise.nil,fun _ hm=>(nomatch hm)⟩⟩,h2,h3,h4⟩
end Att
namespace L2
open PySem PySem.Spec PyProof.Rows
theorem aK5:∀ {vs:List Value} {ns:List Int},IntsAre vs ns→Vals (ns.map V.int) vs
 |_,_,.nil=> .nil
 |_,_,.cons n t h=> .cons ⟨t,rfl⟩ (aK5 h)
abbrev Tbs:=List (Addr×Pos×Str)
def Tbs.at(T:Tbs)(b:Addr):List (Pos×Str):=(T.filter fun p=>p.1 == b).map (·.2)
def Tbs.ok(T:Tbs):Prop:=∀ y∈T,∀ z∈T,y.2.1.line=z.2.1.line→y.2.1.col=z.2.1.col→y.2.2=z.2.2
theorem Tbs.mem{T:Tbs}{b:Addr}{y:Pos×Str}:y∈T.at b↔(b,y)∈T:=by
 unfold Tbs.at;simp only[List.mem_map,List.mem_filter,beq_iff_eq];constructor
 ·rintro⟨⟨c,x⟩,⟨h1,h2⟩,h3⟩;dsimp only at h2 h3;subst h2 h3;exact h1
 ·intro h;exact⟨(b,y),⟨h,rfl⟩,rfl⟩
def Only(T:Tbs)(H:Hp):Prop:=(∀ p∈T,H p.1=some (.tbl (T.at p.1)))∧∀ b,H b=none∨(∃ o xs,H b=some (.frz o (.lst xs)))∨H b=some (.tbl (T.at b))
theorem bK5{P:Program}{w:World}{K:PySem.W.Frag}{mg mb:Str→Option Value}{CX:CXT}{k:Nat}{fa a:Addr}{fd:FuncData}{x:Str}{sp:Sp}{s₁:Shared}{vs:List Value}{ns:List Int}{T:Tbs}
 (KX:K.In s₁.heap) (hns:s₁.heap.Ns mainGlobals mg) (hb:s₁.heap.Ns builtinsNs mb) (hbb:∀ x:Str,x ≠ "__name__" → mb x=bootBuiltins x) (hlim:s₁.heap.NoLimit) (hg:s₁.gens=#[])
 (hbm:∃ bm ob,mg "__builtins__" = some (.ref bm)∧bm≠builtinsNs∧s₁.heap.get? bm=some ob∧ob.cls= .type "module" ∧ ob.dict=some builtinsNs∧ob.data= .plain)
 (hT:∀ p∈T,∃ c,PySem.W.CodeHd s₁.heap c p.1∧s₁.heap.get? p.1=some (PySem.W.tabObj #[])) (hTK:∀ p∈T,K.lookup p.1=none) (hTo:T.ok)
 (ha:s₁.heap.get? a=some { cls:= .type "list",data:= .seq vs.toArray }) (hi:IntsAre vs ns) (hl:ns.length≤sizeLine) (hr:Room k callerA)
 (F:∀ base:Heap,K.In base→base.Ns mainGlobals mg→(∀ c P,PySem.W.CodeHd s₁.heap c P→PySem.W.CodeHd base c P)→FnOk P w K mg base CX k fa fd [x] sp) (hbind:∀ (s:Shared) (u:Value),BindsTo s fd ⟨[u],[]⟩ [(x,u)])
 (hsp:∀ H:Hp,Only T H→SqL K H a (ns.map V.int)→sp [.ref a] H (fun v _=>v= .bl true) fun _ _ _=>False)
 (hCX:∀ H e s',CX [] H s₁ (fun _ _ _=>False) e s'→False):
 codeAny (model P w) callerA (.call (.ref fa) ⟨[.ref a],[]⟩) (fun r s'=>r= .ok (.ret (.bool true))∧OldK s₁.heap s'.heap∧s'.os=s₁.os∧AllBare s'.gens) s₁:=by
 have rv:=aK5 hi;have lenV:=hi.length
 -- from an abstract heap in which nothing but the script and the tables may be tracked
 have core:∀ H:Hp,Only T H→SqL K H a (ns.map V.int)→HOk P w H s₁.heap→(∀ b,H b≠none→b=a∨∃ p∈T,p.1=b)→(H a≠none→K.lookup a=none)→
  codeAny (model P w) callerA (.call (.ref fa) ⟨[.ref a],[]⟩) (fun r s'=>r= .ok (.ret (.bool true))∧OldK s₁.heap s'.heap∧s'.os=s₁.os∧AllBare s'.gens) s₁:=by
  intro H hO hS hok hA hK;have base_of:∀ {b:Addr} {o:Obj},s₁.heap.get? b=some o→H b=none→(hidT s₁.heap H).get? b=some o:=fun e n=>bL1 e n
  have noB:∀ {b:Addr} {o:Obj},s₁.heap.get? b=some o→o≠{ cls:= .type "list",data:= .seq vs.toArray }→o≠PySem.W.tabObj #[]→H b=none:=fun {b o} e d1 d2=>by
   cases q:H b with
   |none=>rfl
   |some u=>
     rcases hA b (by rw[q]; simp) with e' | ⟨p,hp,e'⟩
     ·subst e';rw[ha] at e;exact absurd (Ac1 e).symm d1
     ·subst e';obtain⟨_,_,e2⟩:=hT p hp;rw[e2] at e;exact absurd (Ac1 e).symm d2
  have noA:∀ {b:Addr} {o:Obj} {es:Array DictEntry} {ep:Nat},s₁.heap.get? b=some o→o.data= .dict es ep→H b=none:=fun {b o es ep} e d=>
   noB e (fun z=>by rw[z] at d; cases d) (fun z=>by rw[z] at d; cases d)
  have nsK:∀ {b:Addr} {m:Str→Option Value},s₁.heap.Ns b m→(hidT s₁.heap H).Ns b m:=fun {b m} ⟨o,es,ep,e,d,r⟩=>⟨o,es,ep,base_of e (noA e d),d,r⟩
  have hKb:K.In (hidT s₁.heap H):=fun b o e=>base_of (KX b o e) (by
   cases q:H b with
   |none=>rfl
   |some u=>
     rcases hA b (by rw[q]; simp) with e' | ⟨p,hp,e'⟩
     ·subst e';rw[hK (by rw[q]; simp)] at e; cases e
     · subst e'
       rw[hTK p hp] at e; cases e)
  have hbm':∃ bm ob,mg "__builtins__" = some (.ref bm)∧bm≠builtinsNs∧(hidT s₁.heap H).get? bm=some ob∧ob.cls= .type "module" ∧ ob.dict=some builtinsNs∧ob.data= .plain:=by
   obtain⟨bm,ob,h1,h2,h3,h4,h5,h6⟩:=hbm;exact⟨bm,ob,h1,h2,base_of h3 (noB h3 (fun z=>by rw[z] at h6; cases h6) fun z=>by rw[z] at h6; cases h6),h4,h5,h6⟩
  have hcd:∀ c P,PySem.W.CodeHd s₁.heap c P→PySem.W.CodeHd (hidT s₁.heap H) c P:=fun c P h=>by
   obtain⟨o,vs',file,tf,flags,tg,inF,text,tt,e,hc,r⟩:=h;exact⟨o,vs',file,tf,flags,tg,inF,text,tt,base_of e (noB e (fun z=>by rw[z] at hc; simp at hc) fun z=>by rw[z] at hc; simp at hc),hc,r⟩
  have hM:Mod K mg (hidT s₁.heap H):=⟨hKb,nsK hns,⟨mb,nsK hb,hbb⟩,(let ⟨mc,h1,h2⟩:=hlim; ⟨mc,nsK h1,h2⟩),hbm'⟩;have e0:Env0 P w K mg (hidT s₁.heap H) callerA [] s₁ H:=⟨rfl,hM,fun b o e=>ch1 e,Nat.le_of_eq (bu3 _ _),trivial,fun b hb=>absurd (show b∈([]:List Addr) from hb) (by simp),hok,.of_eq hg⟩;refine Aq4 ((F _ hKb (nsK hns) hcd).run callerA [] s₁ H ⟨[.ref a],[]⟩ [.ref a] [.ref a] _ _ hr e0 (hbind s₁ (.ref a)) (.cons rfl .nil) (hsp H hO hS)) fun r s' h=>?_;cases r with
  |error e=>exact(hCX H e s' h).elim
  |ok fl=>
    cases fl with
    |next=>exact False.elim h
    |brk=>exact False.elim h
    |cont=>exact False.elim h
    |ret u=>
      obtain⟨v,H',os,bare,un,hok',r',q⟩:=h;have q':v= .bl true:=q;subst q';obtain rfl:u=Value.bool true:=r';refine⟨rfl,⟨fun b o e=>?_,fun b o e=>un.there b o e (by simp)⟩,os,bare⟩;cases q:H b with
      |none=>exact .inl (un.keep b o e q (by intro z; exact absurd (show b∈([]:List Addr) from z) (by simp)) (by simp))
      |some u=>
        rcases hO.2 b with z | ⟨ob,xs,z⟩ | z
        ·rw[q] at z; cases z
        ·have z2:=un.frzs b ob _ z;obtain⟨e1,_⟩:=hok b _ z;obtain⟨e2,_⟩:=hok' b _ z2;rw[e] at e1; cases e1;exact .inl e2
        · have z2:=(un.tbls b _ z).1;obtain⟨_,ps,e2,_⟩:=hok' b _ z2
          have hb':∃ p∈T,p.1=b:=by
           rcases hA b (by rw[q]; simp) with e' | e'
           ·subst e';obtain⟨_,ps',e3,_⟩:=hok b _ z;rw[ha] at e3; cases e3
           ·exact e'
          obtain⟨p,hp,e'⟩:=hb';obtain⟨c,hc,e3⟩:=hT p hp;rw[e'] at e3 hc;rw[e] at e3;cases e3;refine .inr (.inl ⟨(hc.tab (ps:=#[]) e).isCodeTable,rfl,#[],ps,rfl,?_⟩);rw[e2]; simp
 have tabOk:∀ (H:Hp) (b:Addr),(∃ p∈T,p.1=b)→ObjOk P w H s₁.heap b (.tbl (T.at b)):=fun H b ⟨p,hp,e⟩=>by
  obtain⟨c,hc,e3⟩:=hT p hp;rw[e] at e3;exact⟨fun y hy z hz h1 h2=>hTo _ (Tbs.mem.mp hy) _ (Tbs.mem.mp hz) h1 h2,#[],e3,trivial,fun y hy=> .inl rfl⟩
 have hne:∀ p∈T,p.1≠a:=fun p hp z=>by
  obtain⟨c,hc,e3⟩:=hT p hp;rw[z,ha] at e3;cases e3
 cases hk:K.lookup a with
 |some o=>
   -- the script is one of the module's own objects
   have e:=KX a o hk;rw[ha] at e;cases e;have hTa:¬ ∃ p∈T,p.1=a:=fun ⟨p,hp,z⟩=>hne p hp z;have dec:∀ b,Decidable (∃ p∈T,p.1=b):=fun b=>Classical.propDecidable _;refine core (fun b=>if ∃ p∈T,p.1=b then some (.tbl (T.at b)) else none) ⟨fun p hp=>Aa6 ⟨p,hp,rfl⟩,fun b=>?_⟩ (.inr ⟨_,vs.toArray,_,hk,rfl,rfl,rfl,by rw[Ab5,lenV]; exact hl,by simpa using rv⟩) (fun b u z=>?_) (fun b z=>?_) fun z=>absurd (Aa3 hTa) z
   · by_cases h:∃ p∈T,p.1=b
     ·exact .inr (.inr (Aa6 h))
     ·exact .inl (Aa3 h)
   · by_cases h:∃ p∈T,p.1=b
     ·have z':=(Aa6 h).symm.trans z;cases z';exact tabOk _ b h
     ·have z':=(Aa3 h).symm.trans z;cases z'
   · by_cases h:∃ p∈T,p.1=b
     ·exact .inr h
     ·exact absurd (Aa3 h) z
 |none=>
   have dec:∀ b,Decidable (∃ p∈T,p.1=b):=fun b=>Classical.propDecidable _;have hTa:∀ {b},(∃ p∈T,p.1=b)→b≠a:=fun ⟨p,hp,z⟩ e=>hne p hp (z.trans e);refine core (fun b=>if b=a then some (.frz { cls:= .type "list",data:= .seq vs.toArray } (.lst (ns.map V.int))) else if ∃ p∈T,p.1=b then some (.tbl (T.at b)) else none) ⟨fun p hp=>(Aa3 (hne p hp)).trans (Aa6 ⟨p,hp,rfl⟩),fun b=>?_⟩ (.inl (.inr ⟨{ cls:= .type "list",data:= .seq vs.toArray },Aa6 rfl⟩)) (fun b u z=>?_) (fun b z=>?_) fun _=>hk
   · by_cases hb:b=a
     ·exact .inr (.inl ⟨_,_,Aa6 hb⟩)
     · by_cases h:∃ p∈T,p.1=b
       ·exact .inr (.inr ((Aa3 hb).trans (Aa6 h)))
       ·exact .inl ((Aa3 hb).trans (Aa3 h))
   · by_cases hb:b=a
     ·have z':=(Aa6 hb).symm.trans z;cases z';subst hb;exact⟨ha,by rw[Aa7]; exact hl,vs,_,rv,ha⟩
     · by_cases h:∃ p∈T,p.1=b
       ·have z':=((Aa3 hb).trans (Aa6 h)).symm.trans z;cases z';exact tabOk _ b h
       ·have z':=((Aa3 hb).trans (Aa3 h)).symm.trans z;cases z'
   · by_cases hb:b=a
     ·exact .inl hb
     · by_cases h:∃ p∈T,p.1=b
       ·exact .inr h
       ·exact absurd ((Aa3 hb).trans (Aa3 h)) z
abbrev Tns:=List (Str×Pos×Str)
structure TabsOf (mg:Str→Option Value) (h:Heap) (N:Tns) (T:Tbs):Prop where
 all:∀ n∈N,∃ P,(P,n.2)∈T∧∃ a o fd c,mg n.1=some (.ref a)∧h.get? a=some o∧o.data= .func fd∧fd.code= .ref c∧PySem.W.CodeHd h c P
theorem aK8{p:Program}{loose:List Str}{mean:ExcName→Option Value}{mg mb:Str→Option Value}{h:Heap}(Tp:PyProof.Rows.Top p loose mean mg mb h):∀ (N:Tns),(∀ n∈N,n.1∈(PyProof.Rows.recsOf p).map (·.name))→
 ∃ T:Tbs,TabsOf mg h N T∧(∀ q∈T,∃ c,PySem.W.CodeHd h c q.1∧h.get? q.1=some (PySem.W.tabObj #[]))∧∀ q∈T,∃ n∈N,n.2=q.2
 |[],_=>⟨[],⟨fun _ h=>nomatch h⟩,fun _ h=>(nomatch h),fun _ h=>(nomatch h)⟩
 | n :: N,hN=>by
   obtain⟨T,h1,h2,h3⟩:=aK8 Tp N fun m hm=>hN m (Aa4 _ hm);obtain⟨d,hd,e⟩:=List.mem_map.mp (hN n Aa5);obtain⟨a,o,fd,c,P,e1,e2,e3,e4,e5,e6⟩:=Tp.tab d hd;have hc:=PySem.W.CodeHd.of e5 e6;refine⟨(P,n.2) :: T,⟨fun m hm=>?_⟩,fun q hq=>?_,fun q hq=>?_⟩
   · rcases List.mem_cons.mp hm with z | z
     ·subst z;exact⟨P,Aa5,a,o,fd,c,by rw[← e]; exact e1,e2,e3,e4,hc⟩
     ·obtain⟨P',m1,r⟩:=h1.all m z;exact⟨P',Aa4 _ m1,r⟩
   · rcases List.mem_cons.mp hq with z | z
     ·subst z;exact⟨c,hc,e6.2⟩
     ·exact h2 q z
   · rcases List.mem_cons.mp hq with z | z
     ·subst z;exact⟨n,Aa5,rfl⟩
     ·obtain⟨m,hm,e⟩:=h3 q z;exact⟨m,Aa4 _ hm,e⟩
def Tns.ok(N:Tns):Prop:=∀ y∈N,∀ z∈N,y.2.1.line=z.2.1.line→y.2.1.col=z.2.1.col→y.2.2=z.2.2
def bS5(K:PySem.W.Frag):Bool:=K.all fun p=>match p.2.cls,p.2.data with
 |.none,.fields vs=>!vs.isEmpty
 |_,_=>true
theorem aE7{α:Type}:∀ {K:List (Nat×α)} {b:Nat} {o:α},K.lookup b=some o→(b,o)∈K
 | (c,x) :: r,b,o,h=>by
   rw[Ac9] at h;by_cases z:b=c
   ·subst z;rw[Ah5] at h;cases h;exact Aa5
   ·rw[beq_false_of_ne z] at h;exact Aa4 _ (aE7 h)
theorem aH4{K:PySem.W.Frag}{h:Heap}{b:Addr}(X:K.In h)(hn:bS5 K=true)(e:h.get? b=some (PySem.W.tabObj #[])):K.lookup b=none:=by
 cases q:K.lookup b with
 |none=>rfl
 |some o=>
   have e2:=X b o q;rw[e] at e2;cases e2
   have:=List.all_eq_true.mp hn (b,PySem.W.tabObj #[]) (aE7 q)
   cases this
theorem bU4{l:PySem.W.OpenLaw}{n k:Nat}{q:Program}{loose:List Str}{XP:(Str→Option Value)→Heap→Prop}{YP:World→Heap→Prop}{d:DefRec}{K:Params→PySem.W.Frag}{CX:World→CXT}{sp:World→Tbs→Sp}{x:Str}(N:Tns)
 (hn:l.most=some n) (hn2:n≤sizeLine) (hdf:d.params.defaults=[]) (hr:Room k callerA)
 (hY:∀ (w:World) (h:Heap),YP w h→(K w.params).In h) (hK:∀ w:World,N≠[]→bS5 (K w.params)=true) (hN:∀ n∈N,n.1∈(PyProof.Rows.recsOf q).map (·.name)) (hNo:Tns.ok N)
 (F:∀ (w:World) (mg:Str→Option Value) (fa:Addr) (h:Heap) (T:Tbs),(K w.params).In h→h.Ns mainGlobals mg→mg d.name=some (.ref fa)→TabsOf mg h N T→
   ∃ fd:FuncData,(∀ (s:Shared) (u:Value),BindsTo s fd ⟨[u],[]⟩ [(x,u)])∧
    ∀ base:Heap,(K w.params).In base→base.Ns mainGlobals mg→(∀ c P,PySem.W.CodeHd h c P→PySem.W.CodeHd base c P)→FnOk l.prog w (K w.params) mg base (CX w) k fa fd [x] (sp w T))
 (hsp:∀ (w:World) (T:Tbs) (H:Hp) (a:Addr) (ns:List Int),ns.length≤n→Only T H→SqL (K w.params) H a (ns.map V.int)→sp w T [.ref a] H (fun v _=>v= .bl true) fun _ _ _=>False)
 (hCX:∀ (w:World) (H:Hp) (s:Shared) (e:Value) (s':Shared),CX w [] H s (fun _ _ _=>False) e s'→False):
 PySem.W.WalkO q loose XP YP l.row.toRowW d [] (fun f vs=>PySem.call f vs):=by
 refine Att.aZ3 hn hdf fun w s₀ s₁ mg mb fa o pm cd doc a vs ns G Y ho hd hcd hmg hobj hints hlen hg=>?_;have KX:=hY w _ Y;obtain⟨T,hT1,hT2,hT3⟩:=aK8 G.T N hN;obtain⟨fd,hb,hF⟩:=F w mg fa _ T KX G.T.g hmg hT1;refine bK5 (T:=T) KX G.T.g G.T.b G.T.builtins G.T.nolimit hg G.T.bmain hT2 (fun p hp=>?_) (fun y hy z hz h1 h2=>?_) hobj hints (Ae3 hlen hn2) hr hF hb (fun H hO hS=>hsp w T H a ns hlen hO hS) fun H e s'=>hCX w H s₁ e s'
 ·obtain⟨c,_,e⟩:=hT2 p hp;obtain⟨m,hm,_⟩:=hT3 p hp;exact aH4 KX (hK w (fun z=>by rw[z] at hm; cases hm)) e
 ·obtain⟨m1,hm1,e1⟩:=hT3 y hy;obtain⟨m2,hm2,e2⟩:=hT3 z hz;rw[← e1,← e2];exact hNo m1 hm1 m2 hm2 (by rw[e1]; exact h1 |>.trans (by rw[e2])) (by rw[e1]; exact h2 |>.trans (by rw[e2]))
def ad0(s:Stmt)(j:Nat):Stmt:=match s with
 |.ClassDef _ _ _ body _ _ _ _ _ _ _=>body.getD j (.Pass ⟨0,0,0,0⟩)
 |_=> .Pass ⟨0,0,0,0⟩
def aA3(s:Stmt):Arguments:=match s with
 |.FunctionDef _ a _ _ _ _ _ _ _ _=>a
 |_=>{ posonlyargs:=[],args:=[],vararg:=none,kwonlyargs:=[],kw_defaults:=[],kwarg:=none,defaults:=[] }
def aj6(s:Stmt):List Stmt:=match s with
 |.FunctionDef _ _ b _ _ _ _ _ _ _=>b
 |_=>[]
def aa4(s:Stmt):Scope:=match s with
 |.FunctionDef _ _ _ _ _ _ sc _ _ _=>sc
 |_=>{ kind:= .function,names:=[],isGenerator:=false,isCoroutine:=false }
abbrev CX0:CXT:=fun _ _ _ _ _ _=>False
abbrev E0:XK:=fun _ _ _=>False
theorem ac7{X:Cx}:aC4 CX0 X E0:=fun _ _ _ _ _ _ _ h=>h.elim
structure Fun (K:PySem.W.Frag) (x qual:Str) (st:Stmt) (f:Addr) (fd:FuncData):Prop where
 ex:∃ (oc:Value) (od:Option Addr) (kV doc pm:Value) (an:Option Addr) (cdv ct:Value) (osl:Array (Option Value)),
  fd=PySem.W.fnOf x qual (aA3 st) (aj6 st) (aa4 st) .none kV doc pm an cdv ct∧K.lookup f=some ⟨oc,od,.func fd,osl⟩∧PySem.W.codeIn K cdv qual=true
 kp:PySem.W.keepIn K (.ref f)=true
section
variable{P:Program}{w:World}{K:PySem.W.Frag}{mg:Str→Option Value}{base:Heap}
theorem Fun.ok{x qual:Str}{st:Stmt}{f:Addr}{fd:FuncData}{N ps:List Str}{k:Nat}{sp:Sp}(F:Fun K x qual st f fd)(S:FnScope N ps (aa4 st))(len:∀ vs H Q E,sp vs H Q E→vs.length=ps.length)
 (hbody:∀ (cdv:Value) (A:Around) (outer:List Env) (s:Shared) (H:Hp) (vs:List V) (Q:VK) (E:XK),Room k (A.deeper (envOfC qual (aa4 st) s.heap.objs.size f cdv))→sp vs H Q E→
   ∃ t,PSs (cxOf CX0 P w K mg base N qual (aa4 st) f cdv A outer s H E).nox (aj6 st) t∧t { nx:=fun _ H'=>Q .non H',rt:=Q } (av8 N vs) H):FnOk P w K mg base CX0 (k + 1) f fd ps sp:=by
 obtain⟨oc,od,kV,doc,pm,an,cdv,ct,osl,rfl,lk,hcd⟩:=F.ex;refine fn_of lk hcd S len fun A outer s H vs Q E hr hsp=>?_;obtain⟨t,h,q⟩:=hbody cdv A outer s H vs Q E hr hsp;exact⟨t,h.nox,q⟩
theorem Fun.binds{x qual:Str}{st:Stmt}{f:Addr}{fd:FuncData}{ps:List Str}(F:Fun K x qual st f fd)
 (h:∀ (kV doc pm:Value) (an:Option Addr) (cdv ct:Value) (us:List Value),us.length=ps.length→bindArgs (PySem.W.fnOf x qual (aA3 st) (aj6 st) (aa4 st) .none kV doc pm an cdv ct) ⟨us,[]⟩=pure (ps.zip us)):Binds K fd ps []:=by
 obtain⟨oc,od,kV,doc,pm,an,cdv,ct,osl,rfl,lk,hcd⟩:=F.ex;exact .all (h kV doc pm an cdv ct)
theorem cH3{x qual:Str}{st:Stmt}{f:Addr}{oc:Value}{od an:Option Addr}{osl:Array (Option Value)}{kV doc pm cdv ct:Value}(l:K.lookup f=some ⟨oc,od,.func (PySem.W.fnOf x qual (aA3 st) (aj6 st) (aa4 st) .none kV doc pm an cdv ct),osl⟩)
 (c:PySem.W.codeIn K cdv qual=true) (k:PySem.W.keepIn K (.ref f)=true):Fun K x qual st f (PySem.W.fnOf x qual (aA3 st) (aj6 st) (aa4 st) .none kV doc pm an cdv ct):=⟨⟨oc,od,kV,doc,pm,an,cdv,ct,osl,rfl,l,c⟩,k⟩
end
theorem aD1{A:Around}{k:Nat}(hr:Room k A):A.units + 1 < cLine:=Aj6 (Nat.add_le_add_left (by decide:1≤64) _) hr.units
section
variable{X:Cx}
theorem pv(i:Nat){x:Str}{pos:Pos}(hN:X.N[i]?=some x:=by rfl)(hv:Vis X.env.scope x:=by first | exact Or.inl rfl | exact Or.inr (Or.inl rfl) | exact Or.inr (Or.inr rfl))(hd:(x == ("__debug__" : Str))=false:=by decide)
 (hcd:(x == ("__classdict__" : Str))=false:=by decide):PE X (.Name x pos) (tVar i):=cw6 hN hv hd hcd
end
def Same(H H':Hp):Prop:=∀ b o,H b=some o→H' b=some o
theorem Same.refl(H:Hp):Same H H:=fun _ _ h=>h
theorem Same.trans{H H1 H2:Hp}(a:Same H H1)(b:Same H1 H2):Same H H2:=fun c o h=>b c o (a c o h)
theorem Same.free{H H':Hp}(e:Same H H'){l:Addr}(h:H' l=Option.none):H l=Option.none:=by
 cases q:H l with
 |none=>rfl
 |some o=>
   rw[e l o q] at h;cases h
theorem Same.seq{K:PySem.W.Frag}{H H':Hp}{a:Addr}{xs:List V}(e:Same H H')(h:SqL K H a xs):SqL K H' a xs:=by
 rcases h with (h | ⟨o,h⟩) | h
 ·exact .inl (.inl (e _ _ h))
 ·exact .inl (.inr ⟨o,e _ _ h⟩)
 ·exact .inr h
def af8(env:Env):List (Str×NameKind)→List (Str×Addr)→List (Str×Addr)
 |[],acc=>acc
 |(n,k) :: r,acc=>if (k == NameKind.free)=true then af8 env r ((n,(env.cells.lookup n).getD 0) :: acc) else af8 env r acc
theorem ao4{env:Env}{y:Str}{c:Addr}:∀ {l:List (Str×NameKind)} {acc:List (Str×Addr)},(∀ z∈l,z.2= .free→∃ c,env.cells.lookup z.1=some c)→(af8 env l acc).lookup y=some c→
 acc.lookup y=some c∨env.cells.lookup y=some c
 |[],acc,_,h=> .inl h
 | (n,k) :: r,acc,hh,h=>by
   unfold af8 at h;split at h
   · rename_i hk;rcases ao4 (fun z hz=>hh z (Aa4 _ hz)) h with e | e
     · by_cases q:(y == n)=true
       · have e':y=n:=by simpa using q
         subst e';obtain⟨c',hc⟩:=hh (y,k) List.mem_cons_self (by simpa using hk);dsimp only at hc;rw[List.lookup_cons,beq_self_eq_true,hc] at e;exact .inr (hc.trans e)
       ·rw[Bool.not_eq_true] at q;rw[Ac9,q] at e;exact .inl e
     ·exact .inr e
   ·exact ao4 (fun z hz=>hh z (Aa4 _ hz)) h
theorem ao5{env:Env}{y:Str}:∀ {l:List (Str×NameKind)} {acc:List (Str×Addr)},((y,NameKind.free)∈l∨∃ c,acc.lookup y=some c)→∃ c,(af8 env l acc).lookup y=some c
 | [],acc,h=>by
   rcases h with h | h
   ·cases h
   ·exact h
 | (n,k) :: r,acc,h=>by
   unfold af8;split
   · rename_i hk;refine ao5 ?_;by_cases q:(y == n)=true
     ·exact .inr ⟨_,by rw[Ac9,q]⟩
     · rw[Bool.not_eq_true] at q;rcases h with h | ⟨c,h⟩
       · rcases List.mem_cons.mp h with e | e
         ·cases e;rw[Ah5] at q;cases q
         ·exact .inl e
       ·exact .inr ⟨c,by rw[Ac9,q]; exact h⟩
   · rename_i hk;refine ao5 ?_;rcases h with h | h
     · rcases List.mem_cons.mp h with e | e
       ·cases e;exact absurd (by rfl) hk
       ·exact .inl e
     ·exact .inr h
theorem ap5{scope:Scope}{env:Env}{y:Str}{k:NameKind}(h:(relabel scope env).names.lookup y=some k):∃ k',(y,k')∈scope.names∧(k'=k∨(k'= .free∧k= .cell)):=by
 obtain⟨⟨n,k0⟩,hm,e⟩:=List.mem_map.mp (PySem.mem_of_lookup h);dsimp only at e;split at e
 ·rename_i hc;simp only[Al0,beq_iff_eq] at hc;cases e;exact⟨k0,hm,.inr ⟨hc.1.1,rfl⟩⟩
 ·cases e;exact⟨_,hm,.inl rfl⟩
structure CompSc (osc sc:Scope) (x:Str) (cs:List Str):Prop where
 kind:sc.kind= .function
 cell:∀ y∈sc.names,y.2≠ .cell
 loc:∀ y∈sc.names,y.2= .local→sc.names.lookup y.1=some .local
 var:sc.names.lookup x=some .local
 cap:∀ y∈cs,(osc.names.lookup y=some .cell∨osc.names.lookup y=some .free)∧sc.names.lookup y=some .free
 free:∀ y∈sc.names,y.2= .free→osc.names.lookup y.1=some .cell∨osc.names.lookup y.1=some .free
 nd:(x :: cs).Nodup
def av6(X:Cx)(scope:Scope)(cl:List (Str×Addr))(C:Addr)(N:List Str)(fp:List Addr)(s₀:Shared)(H₀:Hp):Cx where
 prog:=X.prog
 w:=X.w
 K:=X.K
 mg:=X.mg
 base:=X.base
 A:=X.A
 N:=N
 s₀:=s₀
 H₀:=H₀
 env:=compEnvC scope cl C X.env
 outer:=X.stack
 stack:=X.stack
 ex:=fp
 fn:=fun _=>false
 calm:=X.calm
 pn:=[]
 xe:=fun _ _=>False
def capV(σ:St)(ix:List Nat):St:=ix.map fun j=>(σ[j]?).join
section
variable{X:Cx}{pins:List (Addr×Obj)}{σ:St}{H:Hp}{s:Shared}{scope:Scope}{x:Str}{cs:List Str}{ix:List Nat}{fp:List Addr}
theorem bf4(I:Inv X pins σ H s)(hsc:CompSc X.env.scope scope x cs):∀ y∈scope.names,y.2= .free→∃ c,X.env.cells.lookup y.1=some c:=fun y hy hk=>I.ok.has _ (hsc.free y hy hk)
theorem bL0{h₁:Heap}{t₁:Nat}{m0:Str→Option Value}(I:Inv X pins σ H s)(hsc:CompSc X.env.scope scope x cs)(hix:ix.map (fun i=>X.N[i]?)=cs.map some)(hf:∀ b∈fp,FpOk X pins H b)
 (hlt:∀ b∈fp,b < s.heap.objs.size) (hn:h₁.Ns s.heap.objs.size m0) (hk:∀ b o,s.heap.get? b=some o→h₁.get? b=some o):
 Inv (av6 X scope (af8 X.env scope.names []) s.heap.objs.size (x :: cs) fp s H) [] (none :: capV σ ix) H { s with heap:=h₁,toks:=t₁ }:=by
 have cin:=bf4 I hsc
 have old:∀ y c,(af8 X.env scope.names []).lookup y=some c→X.env.cells.lookup y=some c:=fun y c e=>by
  rcases ao4 cin e with z | z
  ·cases z
  ·exact z
 have lenix:ix.length=cs.length:=by
  have:=congrArg List.length hix
  rwa [Aa7,Aa7] at this
 refine⟨⟨I.ok.mod,hsc.kind,I.ok.glob,I.ok.blt,Ab7 _,fun y z c h1 h2=>I.ok.inj y z c (old y c h1) (old z c h2),fun y hy=>?_,fun y c h=>(nomatch h),I.ok.hd,I.ok.frames,.inl rfl,fun b hb=>⟨Ac5 (hlt b hb),fun y c e=>(hf b hb).2.2.2.2.1 y c (old y c e)⟩,
  I.bs,Ae3 I.ok.bsz I.sz,fun b o e hb=>?_,fun b hb hb'=>?_,I.stack,I.stkFree⟩,rfl,I.bare,Un.kept hk,⟨m0,hn,fun i y v h1 h2 h3=>?_⟩,fun y c e=>?_,I.hok.fresh (Ab7 _),fun y c e=>I.freeC y c (old y c e),fun p hp=>absurd (show p∈([]:List (Addr×Obj)) from hp) (by simp),I.hok.kept hk,?_⟩
 · have hy':(relabel scope X.env).names.lookup y=some .cell∨(relabel scope X.env).names.lookup y=some .free:=hy
   have:(y,NameKind.free)∈scope.names:=by
    rcases hy' with q | q
    · obtain⟨k',hm,e | ⟨e,_⟩⟩:=ap5 q
      ·subst e;exact absurd rfl (hsc.cell _ hm)
      ·subst e;exact hm
    · obtain⟨k',hm,e | ⟨_,e⟩⟩:=ap5 q
      ·subst e;exact hm
      ·cases e
   exact ao5 (.inl this)
 · rcases(hf b hb).2.2.2.1 with z | z
   ·exact I.ok.noex b o e z
   ·exact absurd (Ac2 (Ab3 e) (Ae3 I.ok.bsz z)) (Ad1 _)
 · rcases List.mem_cons.mp (I.stkSub b hb') with z | z
   ·exact(hf b hb).2.1 z
   ·exact(hf b hb).2.2.1 z
 · -- a captured name
   cases i with
   |zero=>
     have:(none :: capV σ ix:St)[0]?=some none:=rfl
     rw[this] at h2;cases h2
   |succ j=>
     have h1':cs[j]?=some y:=h1;have h2':(capV σ ix)[j]?=some (some v):=h2;unfold capV at h2';rw[List.getElem?_map] at h2';cases ej:ix[j]? with
     |none=>rw[ej] at h2'; cases h2'
     |some k=>
       rw[ej] at h2';have h4:(σ[k]?).join=some v:=Ac1 h2'
       have h5:σ[k]?=some (some v):=by
        cases e:σ[k]? with
        |none=>rw[e] at h4; cases h4
        |some w=>rw[e] at h4; exact congrArg some h4
       have h6:X.N[k]?=some y:=by
        have q:=congrArg (fun l=>l[j]?) hix;simp only[Ac7,ej,h1',Ak1] at q;exact Ac1 q
       obtain⟨c1,c2⟩:=hsc.cap y (Ah9 h1');obtain⟨m,hn',hl⟩:=I.loc;obtain⟨u,r,l⟩:=hl k y v h6 h5 (c1.elim (fun z=> .inr (.inl z)) fun z=> .inr (.inr z));refine⟨u,r,?_⟩;rcases l with ⟨l,_⟩ | ⟨_,c,ec,hc⟩
       ·have l':X.env.scope.names.lookup y=some .local:=l;rcases c1 with z | z <;> (rw[z] at l'; cases l')
       · obtain⟨c',ec'⟩:=ao5 (env:=X.env) (y:=y) (l:=scope.names) (acc:=[]) (.inl (Ah3 c2));have e':=old y c' ec';rw[ec] at e';cases e';refine .inr ⟨?_,c,ec',?_⟩
         · rcases h3 with z | z | z
           · have z':(relabel scope X.env).names.lookup y=some .local:=z;obtain ⟨k',hm,e | ⟨_,e⟩⟩:=ap5 z'
             · subst e
               have:=hsc.loc _ hm rfl
               dsimp only at this;rw[c2] at this;cases this
             ·cases e
           ·exact .inl z
           ·exact .inr z
         ·obtain⟨o,ho,hd⟩:=hc;exact⟨o,hk c o ho,hd⟩
 ·obtain⟨v,o,ho,hd⟩:=I.cell y c (old y c e);exact⟨v,o,hk c o ho,hd⟩
 ·show(none :: capV σ ix:St).length=(x :: cs).length;rw[Ab2,Ab2,capV,Aa7,lenix]
end
def PTs(X:Cx)(ifs:List Expr)(t:TT):Prop:=
 ∀ (pins:List (Addr×Obj)) (s:Shared) (σ:St) (H:Hp) (Q:Bool→Hp→Prop),Inv X pins σ H s→t σ H Q→
  wpAny (model X.prog X.w) X.A (forIn ifs true fun c r=>if r=true then do let ok ← isTrue c X.env (eval c X.env); pure (ForInStep.yield ok) else pure (ForInStep.yield r)) (TP X pins σ Q) X.xe s
def tYes:TT:=fun _ H Q=>Q true H
theorem aH0{X:Cx}:PTs X [] tYes:=fun _ _ _ H _ I h=>wpAny_tests_nil ⟨H,I,h⟩
theorem cf6{X:Cx}{c:Expr}{t:TT}(h:PT X c t):PTs X [c] t:=fun pins s σ H Q I hq=>wpAny_tests_one (h pins s σ H Q I hq)
section
variable{prog:Program}{w:World}{A:Around}{R:Result→Shared→Prop}{s:Shared}
theorem aZ0{elt target iter:Expr}{ifs:List Expr}{scope:Scope}{pos:Pos}{it acc:Value}{env:Env}(I:Nat→Shared→Prop)
 (turn:∀ n s,I n s→wpAny (model prog w) A (pyNext it) (fun r s₁=>match r with
   |none=>R (.ok .next) s₁
   |some v=>wpAny (model prog w) A (letOwnedTupleGo target it v) (fun _ s₁=>wpAny (model prog w) A (assign target env v) (fun _ s₂=>
      wpAny (model prog w) A (forIn ifs true fun c r=>if r=true then do let ok ← isTrue c env (eval c env); pure (ForInStep.yield ok) else pure (ForInStep.yield r)) (fun ok s₃=>
       if ok=true then wpAny (model prog w) A (eval elt env) (fun x s₄=>
        wpAny (model prog w) A (call (.builtin "list.append") [acc,x]) (fun _ s₅=>∃ m,m < n∧I m s₅) (fun _ _=>False) s₄) (fun _ _=>False) s₃
       else ∃ m,m < n∧I m s₃) (fun _ _=>False) s₂) (fun _ _=>False) s₁) (fun _ _=>False) s₁) (fun _ _=>False) s)
 (n:Nat) (h:I n s):codeAny (model prog w) A (.compLoop (.ListComp elt [⟨target,iter,ifs,0⟩] scope pos) 0 it acc env) R s:=by
 refine codeAny_loop rfl I (fun n s hI=>?_) n h;have up:∀ {α:Type} {t:Sem α} {Q:α→Shared→Prop} {E:Value→Shared→Prop} {s:Shared},wpAny (model prog w) A t Q (fun _ _=>False) s→wpAny (model prog w) A t Q E s:=fun h=>Al3 h (fun _ _ z=>z) fun _ _ z=>z.elim;show wpAny _ A ((compTurn (.ListComp elt [⟨target,iter,ifs,0⟩] scope pos) 0 it acc env).onRaise _) _ _ s;refine wpAny_noted (up ?_);rw[compTurn_list];refine Aa0 (Ao8 (Aa0 (thn (turn n s hI) fun r s₁ h₁=>?_)));cases r with
 |none=>exact Aa9 h₁
 |some v=>
   refine Aa0 (thn h₁ fun _ s₁' h₁'=>Aa0 (thn h₁' fun _ s₂ h₂=>Aa0 (thn h₂ fun ok s₃ h₃=>?_)));cases ok with
   |false=>exact Aa9 ⟨rfl,h₃⟩
   |true=>exact Aa0 (Aa0 (thn h₃ fun x s₄ h₄=>Aa0 (thn h₄ fun _ s₅ h₅=>Aa9 (Aa9 ⟨rfl,h₅⟩))))
end
def cr3(J:It)(τ:V→St)(ti:TT)(te:TE)(p:Addr)(H1:Hp)(Q:VK):Prop:=
 ∃ W:Nat→Nat→List V→Hp→Prop,(∃ m,W 0 m [] (upd H1 p (.lst [])))∧∀ i m ys H2,W i m ys H2→H2 p=some (.lst ys)∧ys.length < sizeLine∧
  ((J.stop i H2∧Q (.ref p) H2)∨(J.go i H2∧∀ v H3,J.yld i H2 v H3→ti (τ v) H3 fun b H4=>if b=true then te (τ v) H4 fun y H5=>H5 p=some (.lst ys)∧∃ m',m' < m∧W (i + 1) m' (ys ++ [y]) (upd H5 p (.lst (ys ++ [y])))
    else ∃ m',m' < m∧W (i + 1) m' ys H4))
def aK9(wi:TI)(ix:List Nat)(ti:TT)(te:TE):TE:=fun σ H Q=>wi σ H fun J H1=>∀ p,H1 p=none→cr3 J (fun v=>some v :: capV σ ix) ti te p H1 Q
section
variable{X:Cx}{pins:List (Addr×Obj)}{σ:St}{H:Hp}{s:Shared}{scope:Scope}{x:Str}{px pos:Pos}{cs:List Str}{ix:List Nat}{fp:List Addr}{elt iter:Expr}{ifs:List Expr}{ti:TT}{te:TE}
theorem aF6{J:It}{it:Addr}{tn:Nat→Heap→Prop}{Qe:VK}{RR:Value→Addr→Result→Shared→Prop}{E:Value→Shared→Prop}(hcalm:X.calm=true)(I2:Inv X pins σ H s)(hsc:CompSc X.env.scope scope x cs)(hix:ix.map (fun i=>X.N[i]?)=cs.map some)
 (T:Turn X.prog X.w X.K (.Name x px) J fp it tn) (st0:tn 0 s.heap) (hf:∀ b∈fp,FpOk X pins H b)
 (hti:∀ C fp s₀ H₀,PTs (av6 X scope (af8 X.env scope.names []) C (x :: cs) fp s₀ H₀) ifs ti) (hte:∀ C fp s₀ H₀,PE (av6 X scope (af8 X.env scope.names []) C (x :: cs) fp s₀ H₀) elt te)
 (hW:∀ p,H p=none→cr3 J (fun v=>some v :: capV σ ix) ti te p H Qe)
 (hRR:∀ p C H' s',Inv X pins σ H' s'→FpOk X pins H' C→(∃ m,s'.heap.Ns C m)→Qe (.ref p) H'→RR (.ref p) C (.ok .next) s'):
 wpAny (model X.prog X.w) X.A (newList []) (fun acc s₃=>wpAny (model X.prog X.w) X.A (newFunctionEnv scope X.env.globals (af8 X.env scope.names []) [] X.env.qual none .none (some X.env)) (fun cenv s₄=>
  codeAny (model X.prog X.w) X.A (.compStart (.ListComp elt [⟨.Name x px,iter,ifs,0⟩] scope pos) 0 (.ref it) acc { cenv with scope:=relabel scope X.env }) (RR acc cenv.locals) s₄) E s₃) E s:=by
 refine wpAny_newObj_type (wpAny_newFunctionEnv hsc.cell (by intro y hy; simp at hy) (fun h₁ hns₁ hsb₁=>?_) hsc.kind);dsimp only at hns₁ hsb₁ ⊢;have hD:H s.heap.objs.size=none:=I2.hok.fresh (Nat.le_refl _)
 have I3:Inv X pins σ (upd H s.heap.objs.size (.lst [])) { s with heap:=s.heap.push { cls:= .type "list",dict:=none,data:= .seq ([]:List Value).toArray } }:=
  I2.laid (t':=s.toks) (fun b u e=>Aa1 _ e) (Ab7 _) ⟨Ai8 _,[],0,.nil,Ab8 _ rfl⟩
 obtain⟨W,⟨m0,w0⟩,turn⟩:=hW _ hD
 have hlt0:∀ b∈fp,b < s.heap.objs.size:=fun b hb=>by
  obtain⟨o,e,_⟩:=T.obj 0 _ st0 b hb;exact Ab3 e
 have hlt:∀ b∈fp,b < (s.heap.push { cls:= .type "list",dict:=none,data:= .seq ([]:List Value).toArray }).objs.size:=fun b hb=>by
  rw[Aj4];exact Am0 (hlt0 b hb)
 have hf3:∀ b∈fp,FpOk X pins (upd H s.heap.objs.size (.lst [])) b:=fun b hb=>⟨by rw[ab0 (Ac5 (hlt0 b hb))]; exact(hf b hb).1,(hf b hb).2⟩
 have kept:∀ b o,(s.heap.push { cls:= .type "list",dict:=none,data:= .seq ([]:List Value).toArray }).get? b=some o→h₁.get? b=some o:=fun b o e=>
  hsb₁.extBut b o (Ac5 (Ab3 e)) (Aa1 _ e)
 have kept0:∀ b o,s.heap.get? b=some o→h₁.get? b=some o:=fun b o e=>kept b o (Aa1 _ e);have I4:=bL0 (t₁:=s.toks + ([]:List (Str×Value)).length) I3 hsc hix hf3 hlt hns₁ kept;have st4:tn 0 h₁:=T.keep 0 _ _ st0 fun b _ o e=>kept0 b o e
 have loop:codeAny (model X.prog X.w) X.A (.compLoop (.ListComp elt [⟨.Name x px,iter,ifs,0⟩] scope pos) 0 (.ref it) (.ref s.heap.objs.size) (compEnvC scope (af8 X.env scope.names []) (s.heap.push { cls:= .type "list",dict:=none,data:= .seq ([]:List Value).toArray }).objs.size X.env))
  (RR (.ref s.heap.objs.size) (s.heap.push { cls:= .type "list",dict:=none,data:= .seq ([]:List Value).toArray }).objs.size) { s with heap:=h₁,toks:=s.toks + ([]:List (Str×Value)).length }:=by
  generalize hY:av6 X scope (af8 X.env scope.names []) (s.heap.push { cls:= .type "list",dict:=none,data:= .seq ([]:List Value).toArray }).objs.size (x :: cs) fp { s with heap:=s.heap.push { cls:= .type "list",dict:=none,data:= .seq ([]:List Value).toArray } } (upd H s.heap.objs.size (.lst []))=Y at I4;have hti':PTs Y ifs ti:=by rw[← hY]; exact hti _ _ _ _
  have hte':PE Y elt te:=by rw[← hY]; exact hte _ _ _ _
  have hcY:Y.calm=true:=by rw[← hY]; exact hcalm
  have hg:PG Y (.Name x px) (aD3 0):=by
   rw [← hY];exact ap7 hsc.nd rfl (.inl (lookup_relabel_local hsc.var)) (.inr (lookup_relabel_local hsc.var))
  have f4:∀ {H':Hp},(∀ b∈fp,H' b=none)→∀ b∈fp,FpOk Y [] H' b:=fun {H'} hn b hb=>by
   rw[← hY];refine⟨hn b hb,Ac5 (hlt b hb),fun z=>?_,.inl hb,fun y c e z=>?_,fun p hp=>absurd (show p∈([]:List (Addr×Obj)) from hp) (by simp)⟩
   · rcases List.mem_cons.mp (I3.stkSub b z) with q | q
     ·exact(hf b hb).2.1 q
     ·exact(hf b hb).2.2.1 q
   · rcases ao4 (bf4 I2 hsc) e with q | q
     ·cases q
     ·exact(hf b hb).2.2.2.2.1 y c q z
  have fin:∀ {vo:Option V} {H':Hp} {s':Shared},Inv Y [] (vo :: capV σ ix) H' s'→Qe (.ref s.heap.objs.size) H'→RR (.ref s.heap.objs.size) (s.heap.push { cls:= .type "list",dict:=none,data:= .seq ([]:List Value).toArray }).objs.size (.ok .next) s':=fun {vo H' s'} J q=>by
   rw[← hY] at J;have Ix:Inv X pins σ H' s':=I3.call' (ch:=fp) J.os J.base J.hok J.bare fun b hb=>⟨(hf b hb).2.2.2.1,(hf b hb).2.1,(hf b hb).2.2.2.2.1,(hf b hb).2.2.2.2.2⟩;refine hRR _ _ H' s' Ix (I3.fpOk (Ab7 _) J.free) ?_ q;obtain⟨m,hm,_⟩:=J.loc;exact⟨m,hm⟩
  have eY:compEnvC scope (af8 X.env scope.names []) (s.heap.push { cls:= .type "list",dict:=none,data:= .seq ([]:List Value).toArray }).objs.size X.env=Y.env:=by rw[← hY]; rfl
  have eP:X.prog=Y.prog:=by rw[← hY]; rfl
  have eW:X.w=Y.w:=by rw[← hY]; rfl
  have eK:X.K=Y.K:=by rw[← hY]; rfl
  have eA:X.A=Y.A:=by rw[← hY]; rfl
  have eX:Y.xe=fun _ _=>False:=by rw[← hY]; rfl
  rw[eP,eW,eK] at T;rw[eY,eP,eW,eA];refine aZ0 (fun n s'=>∃ i ys vo H',Inv Y [] (vo :: capV σ ix) H' s'∧tn i s'.heap∧(∀ b∈fp,H' b=none)∧W i n ys H') ?_ m0 ⟨0,[],none,_,I4,st4,fun b hb=>(hf3 b hb).1,w0⟩;rintro n s' ⟨i,ys,vo,H',I',st',fr',w'⟩;obtain⟨hp,hlen,ways⟩:=turn i n ys H' w';rcases ways with ⟨stop,q⟩ | ⟨go,step⟩
  ·refine thn (T.done Y rfl rfl rfl hcY i [] s' (vo :: capV σ ix) H' (fun _ _=>False) I' (f4 fr') st' stop) fun r s1 ⟨hr,I1⟩=>?_;subst hr;exact fin I1 q
  · refine thn (T.item Y rfl rfl rfl hcY i [] s' (vo :: capV σ ix) H' (fun _ _=>False) I' (f4 fr') st' go) fun r s1 ⟨u,hr,h4⟩=>?_;subst hr;refine thn h4 fun _ s2 ⟨v,H2,J2,r2,y2,st2,fr2⟩=>?_;have J2p:=J2.pinned (f4 fr2) (T.obj _ _ st2)
    have again:∀ {σ':St} {H7:Hp} {s7:Shared},Inv Y ([] ++ aM4 fp s2.heap) σ' H7 s7→tn (i + 1) s7.heap∧∀ b∈fp,H7 b=none:=fun {σ' H7 s7} I7=>by
     refine⟨T.keep _ _ _ st2 fun b hb o e=>(I7.pin (b,o) (Aa8 _ (Aa8 _ (an6 hb e)))).1,fun b hb=>?_⟩;obtain⟨o,e,d⟩:=T.obj _ _ st2 b hb;exact(I7.pin (b,o) (Aa8 _ (Aa8 _ (an6 hb e)))).2.1
    have hga:=hg _ s2 (vo :: capV σ ix) H2 v u (fun σ' H'=>σ'=some v :: capV σ ix∧H'=H2) J2p r2 ⟨rfl,rfl⟩;rw[eX] at hga;refine thn hga fun _ s3 ⟨σ3,H3,J3,e3,e3'⟩=>?_;subst e3 e3';have htt:=hti' _ s3 _ H3 _ J3 (step v H3 y2);rw[eX] at htt;refine thn htt fun b s4 ⟨H4,J4,q4⟩=>?_;cases b with
    |false=>
      rw[Aa3 Ab1] at q4 ⊢;obtain⟨m',hm,w4⟩:=q4;exact⟨m',hm,i + 1,ys,some v,H4,J4.unpinned,(again J4).1,(again J4).2,w4⟩
    |true=>
      rw[Aa6 rfl] at q4 ⊢;have hee:=hte' _ s4 _ H4 _ J4 q4;rw[eX] at hee;refine thn hee fun y s5 ⟨yv,H5,J5,r5,hp5,m',hm,w5⟩=>?_;have hap:=aM6 (X:=Y) _ s5 _ H5 (.ref s.heap.objs.size) [yv] (.ref s.heap.objs.size) [y] (fun _ H6=>H6=upd H5 s.heap.objs.size (.lst (ys ++ [yv]))) J5 rfl (.cons r5 .nil) ⟨_,ys,yv,rfl,rfl,hp5,hlen,rfl⟩;rw[eX] at hap;refine thn hap fun _ s6 ⟨_,H6,J6,_,e6⟩=>?_;subst e6;exact⟨m',hm,i + 1,ys ++ [yv],some v,_,J6.unpinned,(again J6).1,(again J6).2,w5⟩
 exact codeAny_compStart_list loop (T.self _ 0 _ _ _ st4 loop)
theorem aH2{wi:TI}(hcalm:X.calm=true)(hi:PI X (.Name x px) iter wi)(hsc:CompSc X.env.scope scope x cs)(hix:ix.map (fun i=>X.N[i]?)=cs.map some)
 (hti:∀ C fp s₀ H₀,PTs (av6 X scope (af8 X.env scope.names []) C (x :: cs) fp s₀ H₀) ifs ti) (hte:∀ C fp s₀ H₀,PE (av6 X scope (af8 X.env scope.names []) C (x :: cs) fp s₀ H₀) elt te)
 (hcl:closureFor scope X.env=pure (af8 X.env scope.names []):=by rfl) (hs:∀ x,foldedSetIterable iter X.env x=pure x:=by intro _; rfl):
 PE X (.ListComp elt [⟨.Name x px,iter,ifs,0⟩] scope pos) (aK9 wi ix ti te):=by
 intro pins s σ H Q I h;rw[eval_ListComp];refine wpAny_comprehension_free (use:=none) rfl hs hcl hsc.kind hsc.loc (thn (hi pins s σ H _ I h) fun v s1 h1=>thn h1 fun itv s2 h2=>?_);obtain⟨it,fp,tn,J,H2,e,I2,T,st2,f2,hW⟩:=h2;subst e;refine aF6 (RR:=fun acc C=>compPost (model X.prog X.w) X.A X.xe none (EP X pins σ Q) acc C) hcalm I2 hsc hix T st2 f2 hti hte hW ?_;rintro p C H' s' I' ⟨f0,f1,_,f3,f4,f5⟩ ⟨m,hm⟩ q;exact⟨m,hm,fun h' hs'=>⟨.ref p,H',I'.turned (t':=s'.toks) (fun b o hb e=>hs'.extBut b o hb e) f0 f1 f3 f4 f5,rfl,q⟩⟩
theorem bh7{wi:TI}{y:Str}{py spos:Pos}{i:Nat}(hcalm:X.calm=true)(hN:X.N.Nodup)(hi':X.N[i]?=some y)(hy:Loc X.env.scope y)(hi:PI X (.Name x px) iter wi)(hsc:CompSc X.env.scope scope x cs)(hix:ix.map (fun i=>X.N[i]?)=cs.map some)
 (hti:∀ C fp s₀ H₀,PTs (av6 X scope (af8 X.env scope.names []) C (x :: cs) fp s₀ H₀) ifs ti) (hte:∀ C fp s₀ H₀,PE (av6 X scope (af8 X.env scope.names []) C (x :: cs) fp s₀ H₀) elt te)
 (hsw:swapsWith (.ListComp elt [⟨.Name x px,iter,ifs,0⟩] scope pos) (some (.Name y py)) spos.line X.env=pure true:=by rfl)
 (hcl:closureFor scope X.env=pure (af8 X.env scope.names []):=by rfl) (hs:∀ x,foldedSetIterable iter X.env x=pure x:=by intro _; rfl)
 (hf:X.fn y=true∨X.env.scope.names.lookup y=some .local:=by first | exact .inl rfl | exact .inr rfl | assumption):
 PS X (.Assign [.Name y py] (.ListComp elt [⟨.Name x px,iter,ifs,0⟩] scope pos) spos) (tAsg (aK9 wi ix ti te) (aD3 i)):=by
 intro pins s σ H D I h;rw[exec_Assign_Name_used _ _ _ _ hsw];refine Aa0 (Ao8 (Aa0 ?_));show wpAny _ X.A (do let _ ← comprehension (.ListComp elt [⟨.Name x px,iter,ifs,0⟩] scope pos) scope X.env _ (newList []) false (eval iter X.env) (some (assign (.Name y py) X.env))) _ _ s;refine Aa0 (thn (wpAny_comprehension_free (Q:=fun _ s'=>SP X pins D .next s') rfl hs hcl hsc.kind hsc.loc (thn (hi pins s σ H _ I h) fun v s1 h1=>thn h1 fun itv s2 h2=>?_)) fun _ s' hq=>Aa9 (Aa9 hq));obtain⟨it,fp,tn,J,H2,e,I2,T,st2,f2,hW⟩:=h2;subst e;refine aF6 (RR:=fun acc C=>compPost (model X.prog X.w) X.A X.xe (some (assign (.Name y py) X.env)) (fun _ s'=>SP X pins D .next s') acc C) hcalm I2 hsc hix T st2 f2 hti hte hW ?_;rintro p C H' s' I' ⟨f0,f1,f2',f3,f4,f5⟩ ⟨m,hm⟩ q;obtain⟨oC,es,ep,hoC,hdC,rC⟩:=hm
 have Ip:Inv X (pins ++ [(C,oC)]) σ H' s':=I'.pins_of fun p hp=>(List.mem_append.mp hp).elim (fun z=>I'.pin p (Aa8 _ z)) fun z=>by
  have e:p=(C,oC):=by simpa using z
  subst e;exact⟨hoC,f0,f1,f2',fun v z=>by rw[hdC] at z; cases z⟩
 have hg:PG X (.Name y py) (aD3 i):=ap7 hN hi' hy hf;refine thn (hg _ s' σ H' (.ref p) (.ref p) D.nx Ip rfl q) fun _ s3 ⟨σ3,H3,I3,q3⟩=>?_;have hpin:=I3.pin (C,oC) (Aa8 _ (Aa8 _ (by simp)));refine⟨m,⟨oC,es,ep,hpin.1,hdC,rC⟩,fun h' hs'=>?_⟩;exact⟨σ3,H3,(I3.unpinned).turned (t':=s3.toks) (fun b o hb e=>hs'.extBut b o hb e) hpin.2.1 f1 f3 f4 f5,q3⟩
end
mutual
def Den(K:PySem.W.Frag)(H:Hp):PyData→V→Prop
 |.none,v=>v= .non
 |.bool b,v=>v= .bl b
 |.int i,v=>v= .int i
 |.str x,v=>v= .str x
 |.list ds,v=>∃ a xs,v= .ref a∧SqL K H a xs∧Dens K H ds xs
 |.tuple ds,v=>∃ a xs,v= .ref a∧SqT K H a xs∧Dens K H ds xs
 |.dict _,_=>False
def Dens(K:PySem.W.Frag)(H:Hp):List PyData→List V→Prop
 |[],xs=>xs=[]
 |d :: ds,xs=>∃ x r,xs=x :: r∧Den K H d x∧Dens K H ds r
end
section
variable{X:Cx}{pins:List (Addr×Obj)}{σ:St}{H:Hp}{s:Shared}
mutual
theorem den_reads(I:Inv X pins σ H s):∀ (d:PyData) {v:V} {u:Value},Den X.K H d v→RelV v u→∃ as,Reads s.heap u d as
 | .none,v,u,h,r=>by
   rw[Den] at h;subst h;have r':u=Value.none:=r;subst r';exact⟨_,.none⟩
 | .bool b,v,u,h,r=>by
   rw[Den] at h;subst h;have r':u=Value.bool b:=r;subst r';exact⟨_,.bool b⟩
 | .int i,v,u,h,r=>by
   rw[Den] at h;subst h;obtain⟨t,r'⟩:=(show ∃ t,u=Value.int i t from r);subst r';exact⟨_,.int i t⟩
 | .str x,v,u,h,r=>by
   rw[Den] at h;subst h;obtain⟨t,r'⟩:=(show ∃ t,u=Value.str x t from r);subst r';exact⟨_,.str x t⟩
 | .list ds,v,u,h,r=>by
   rw[Den] at h;obtain⟨a,xs,rfl,hq,hd⟩:=h;have r':u=Value.ref a:=r;subst r';obtain⟨its,rv,p,hz⟩:=I.list hq;obtain⟨as,ra⟩:=dens_reads I ds hd rv;obtain⟨o,ho,hc,n,hdat⟩:=p.isList;exact⟨_,.list ho hc hdat (by simpa using ra)⟩
 | .tuple ds,v,u,h,r=>by
   rw[Den] at h;obtain⟨a,xs,rfl,hq,hd⟩:=h;have r':u=Value.ref a:=r;subst r';obtain⟨its,rv,p,hz⟩:=I.tuple hq;obtain⟨as,ra⟩:=dens_reads I ds hd rv;obtain⟨o,ho,hc,n,hdat⟩:=p;exact⟨_,.tuple ho hc hdat (by simpa using ra)⟩
 | .dict _,v,u,h,r=>by
   rw[Den] at h;exact h.elim
theorem dens_reads(I:Inv X pins σ H s):∀ (ds:List PyData) {xs:List V} {us:List Value},Dens X.K H ds xs→Vals xs us→∃ as,ReadsAll s.heap us ds as
 | [],xs,us,h,r=>by
   rw[Dens] at h;subst h;cases r;exact⟨_,.nil⟩
 | d :: ds,xs,us,h,r=>by
   rw[Dens] at h;obtain⟨x,t,rfl,hx,ht⟩:=h;cases r with
   |cons r1 r2=>
     obtain⟨as,ra⟩:=den_reads I d hx r1;obtain⟨bs,rb⟩:=dens_reads I ds ht r2;exact⟨_,.cons ra rb⟩
end
end
theorem aP4{K:PySem.W.Frag}{H:Hp}:∀ ns:List Int,Dens K H (ns.map PyData.int) (ns.map V.int)
 |[]=>by rw[Af6,Af6,Dens]
 | n :: r=>by
   rw[Aa2,Aa2,Dens];exact⟨_,_,rfl,by rw[Den],aP4 r⟩
theorem be2{K:PySem.W.Frag}{H:Hp}{a:Addr}{ns:List Int}(h:SqL K H a (ns.map V.int)):Den K H (.list (ns.map PyData.int)) (.ref a):=by
 rw[Den];exact⟨a,_,rfl,h,aP4 ns⟩
theorem bL6(ns ms:List Int):PyData.eqv (.list (ns.map PyData.int)) (.list (ms.map PyData.int))=decide (ns=ms):=by
 rw[← SeqAt.same_eq_eqv _ _ (by simp only[SeqAt.noMix]; exact PySem.W.noMix_ints ns ms)];simp only[same];exact PySem.W.same_ints ns ms
section
variable{X:Cx}
def rEqD(K:PySem.W.Frag)(neg:Bool):R2:=fun x y H Q=>∃ d e,Den K H d x∧Den K H e y∧SeqAt.shaped d=true∧SeqAt.shaped e=true∧Q (.bl (if neg then !PyData.eqv d e else PyData.eqv d e)) H
theorem cy9(hu:X.A.units + 64 < cLine):OpR X (compareOp .Eq) (rEqD X.K false):=by
 intro pins s σ H x y v u Q I rx ry h;obtain⟨d,e,hd,he,sd,se,q⟩:=h;obtain⟨as,ra⟩:=den_reads I d hd rx;obtain⟨bs,rb⟩:=den_reads I e he ry;exact eq_dataH ra rb sd se hu ⟨.bl _,H,I,rfl,q⟩
theorem cy8(hu:X.A.units + 65 < cLine):OpR X (compareOp .In) (fun x y H Q=>∃ d xs,Den X.K H d x∧Den X.K H (.list xs) y∧SeqAt.shaped d=true∧SeqAt.shaped (.list xs)=true∧(∀ z∈xs,SeqAt.noMix z d=true)∧Q (.bl (decide (countIn d xs≠0))) H):=by
 intro pins s σ H x y v u Q I rx ry h;obtain⟨d,xs,hd,he,sd,se,nm,q⟩:=h;obtain⟨as,ra⟩:=den_reads I d hd rx;obtain⟨bs,rb⟩:=den_reads I _ he ry;exact in_list_dataH rb ra se sd hu nm ⟨.bl _,H,I,rfl,q⟩
end
section
variable{X:Cx}
theorem bN1:CallR X (.builtin "isinstance") (fun xs H Q=>∃ x c t b,xs=[x,.ty c]∧TyOf X.K H x t∧PySem.W.kitOne X.K t (.type c)=some b∧Q (.bl b) H):=by
 intro pins s σ H xs us Q I r h;obtain⟨x,c,t,b,rfl,ty,e,q⟩:=h;obtain⟨u,w',rfl,r1,r2⟩:=vals2 r;have r3:w'=Value.type c:=r2;subst r3;exact bt6 I r1 ty e fun tk=>⟨.bl b,H,I.tok tk,rfl,q⟩
end
section
variable{prog:Program}{w:World}{A:Around}{R:Result→Shared→Prop}{I:Addr}{fp wr:List Addr}{n:Nat}{P:Nat→Value→Prop}{St:Nat→Heap→Prop}
theorem aV6(W:Walks prog w A.in1 I fp wr n P St)(kw:List (Str×Value))(bt:Nat→Nat→Bool)(cmp:CmpOf prog w A.in1 .Lt P bt)(S:Addr)(nS:S∉fp):∀ (k j:Nat) (s:Shared) (vb:Value) (c:Nat),
 n - (j + 1)=k→j + 1≤n→St (j + 1) s.heap→P (argBest bt j) vb→s.heap.get? S=some { cls:= .type "list",dict:=none,data:= .seq #[vb,vb] c,slots:=#[] }→
 (∀ v h' tk,P (argBest bt (n - 1)) v→(∀ b o,b∉wr→b≠S→s.heap.get? b=some o→h'.get? b=some o)→R (.ok (.ret v)) { s with heap:=h',toks:=tk })→
 codeAny (model prog w) A (.builtin "min.loop" ⟨[.ref I,.none,.ref S],kw⟩) R s:=by
 have nW:S∉wr:=fun z=>nS (W.sub _ z);have nm:(toString "min" ++ toString ".loop" : String) = "min.loop" := by decide
 intro k
 induction k with
 |zero=>
   intro j s vb c e1 e2 st pb oS fin;refine Ae6 Ag0 ?_;rw[Ac8 Ac0 _];refine Aa0 (m:=seqItems? (.ref S)) (Ah1 oS rfl ?_);refine Aa0 (m:=tryCatch (pyNext (.ref I)) _) (Ad4 (W.done s _ _ ((show j + 1=n by omega) ▸ st) fun h' tk kp=>?_));refine Aa0 (m:=updateSeq S (fun _=>#[])) ?_;refine Ag7 (kp S _ nW oS) rfl (Aa0 (Ag1 (Aa9 ?_)));exact fin vb _ tk (by rw[show n - 1=j by omega]; exact pb) fun b o hw hS e=>(Ab4 _ _ (Ai1 hS)).trans (kp b o hw e)
 |succ k ih=>
   intro j s vb c e1 e2 st pb oS fin;have lt:j + 1 < n:=by omega
   refine Ae6 Ag0 ?_;rw[Ac8 Ac0 _];refine Aa0 (m:=seqItems? (.ref S)) (Ah1 oS rfl ?_);refine Aa0 (m:=tryCatch (pyNext (.ref I)) _) (Ad4 (W.item (j + 1) s _ _ lt st fun v h' tk pv st' kp=>?_));have oS':=kp S _ nW oS;refine Aa0 (m:=tryCatch (holding [v,v] (richCompare .Lt v vb >>= _)) _) (Ad4 (Af2 (Aa0 (cmp (j + 1) (argBest bt j) v vb _ _ _ pv pb ?_))));refine Aa0 (Af2 (Ae7 (Aa0 (Ag1 (Aa9 ?_)))));cases eb:bt (j + 1) (argBest bt j) with
   |true=>
     rw[Aa6 rfl];refine Aa0 ?_;refine Ag7 oS' rfl (Aa0 (Ag1 ?_));rw[nm];refine Aa9 ⟨Ae2 Ac0 _,ih (j + 1) _ v _ (by omega) lt (W.frame _ _ _ st' fun b hb o e=>?_) (by simp only[argBest,eb,Ag6]; exact pv) (Ac3 _ oS' rfl) fun v' h'' tk'' pv' kp''=>?_⟩
     ·exact(Ab4 _ _ (fun z:S=b=>nS (by rw[z]; exact hb))).trans e
     ·exact fin v' h'' tk'' pv' fun b o hw hS e=>kp'' b o hw hS ((Ab4 _ _ (Ai1 hS)).trans (kp b o hw e))
   |false=>
     rw[Aa3 Ab1];refine Aa0 (Ag1 ?_);rw[nm];exact Aa9 ⟨Ae2 Ac0 _,ih (j + 1) _ vb c (by omega) lt st' (by simp only[argBest,eb,Aj7,Am4]; exact pb) oS' fun v' h'' tk'' pv' kp''=>fin v' h'' tk'' pv' fun b o hw hS e=>kp'' b o hw hS (kp b o hw e)⟩
end
theorem aQ6(a d:Value):argsOk "min" ⟨[a],[(Str.ofString "default",d)]⟩:=by unfold argsOk; kernel_rfl
section
variable{prog:Program}{w:World}{A:Around}{E:Value→Shared→Prop}{s:Shared}
theorem bB6{x d:Value}{Q:Value→Shared→Prop}
 (h:wpAny (model prog w) A.in1 (pyIter x) (fun it s₂=>∃ I fp wr n P St bt,it= .ref I∧Walks prog w A.in1 I fp wr n P St∧St 0 s₂.heap∧(∀ b∈fp,b < s₂.heap.objs.size)∧CmpOf prog w A.in1 .Lt P bt∧
   (n=0→∀ h' tk,(∀ b o,b∉wr→s₂.heap.get? b=some o→h'.get? b=some o)→Q d { s₂ with heap:=h',toks:=tk })∧
   (0 < n→∀ v h' tk,P (argBest bt (n - 1)) v→(∀ b o,b∉wr→s₂.heap.get? b=some o→h'.get? b=some o)→Q v { s₂ with heap:=h',toks:=tk })) E s):
 wpAny (model prog w) A (call (.builtin "min") [x] [(Str.ofString "default",d)]) Q E s:=by
 have nm:(toString "min" ++ toString ".loop" : String) = "min.loop" := by decide
 refine kmk_tree PySem.F.kind_min PySem.F.plain_min PySem.F.entry_min (aQ6 _ _) ?_;refine Aa0 (m:=Builtin.Builtins.bindParams "min" ["key", "default"] 0 ⟨[],[(Str.ofString "default",d)]⟩) (As7 (show _=pure [none,some d] from rfl) ?_);refine Aa0 (Aa9 (Aa0 (Al3 h (fun it s₂ h₂=>?_) fun _ _ e=>e)));obtain⟨I,fp,wr,n,P,St,bt,rfl,W,st,lts,cmp,q0,q1⟩:=h₂;refine Aa0 (Ak5 ?_);have nS:s₂.heap.objs.size∉fp:=fun z=>Ad1 _ (lts _ z);have nW:s₂.heap.objs.size∉wr:=fun z=>nS (W.sub _ z);rw[nm];have st1:=W.frame _ _ (s₂.heap.push { cls:= .type "list",dict:=none,data:= .seq ([]:List Value).toArray }) st fun b _ o e=>Aa1 _ e;have oS:(s₂.heap.push { cls:= .type "list",dict:=none,data:= .seq ([]:List Value).toArray }).get? s₂.heap.objs.size=some { cls:= .type "list",dict:=none,data:= .seq ([]:List Value).toArray }:=Ab8 _ rfl;refine Aa9 ⟨Ae2 Ac0 _,Ae6 Ag0 ?_⟩;rw[Ac8 Ac0 _];refine Aa0 (m:=seqItems? (.ref s₂.heap.objs.size)) (Ah1 oS rfl ?_);by_cases hn:n=0
 ·refine Aa0 (m:=tryCatch (pyNext (.ref I)) _) (Ad4 (W.done _ _ _ (hn ▸ st1) fun h' tk kp=>?_));refine Aa0 (m:=rule _) (wpAny_rule (Aa9 ?_));exact q0 hn h' tk fun b o hw e=>kp b o hw (Aa1 _ e)
 · have lt:0 < n:=An6 hn;refine Aa0 (m:=tryCatch (pyNext (.ref I)) _) (Ad4 (W.item 0 _ _ _ lt st1 fun v h' tk pv st' kp=>?_));have oS':=kp _ _ nW oS;refine Aa0 (m:=updateSeq s₂.heap.objs.size (fun _=>#[v,v])) ?_;refine Ag7 oS' rfl ?_;rw[nm];refine Aa9 ⟨Ae2 Ac0 _,aV6 W _ bt cmp _ nS _ 0 _ v _ rfl lt (W.frame _ _ _ st' fun b hb o e=>?_) pv (Ac3 _ oS' rfl) fun v' h'' tk'' pv' kp''=>?_⟩
   ·exact(Ab4 _ _ (fun z:s₂.heap.objs.size=b=>nS (by rw[z]; exact hb))).trans e
   ·exact q1 lt v' h'' tk'' pv' fun b o hw e=>kp'' b o hw (Ac5 (Ab3 e)) ((Ab4 _ _ (Aq3 (Ab3 e))).trans (kp b o hw (Aa1 _ e)))
end
section
variable{prog:Program}{w:World}{A:Around}{R:Result→Shared→Prop}{I:Addr}{fp wr:List Addr}{n:Nat}{P:Nat→Value→Prop}{St:Nat→Heap→Prop}
theorem aV7(W:Walks prog w A.in1 I fp wr n P St)(kw:List (Str×Value))(bt:Nat→Nat→Bool)(cmp:CmpOf prog w A.in1 .Gt P bt)(S:Addr)(nS:S∉fp):∀ (k j:Nat) (s:Shared) (vb:Value) (c:Nat),
 n - (j + 1)=k→j + 1≤n→St (j + 1) s.heap→P (argBest bt j) vb→s.heap.get? S=some { cls:= .type "list",dict:=none,data:= .seq #[vb,vb] c,slots:=#[] }→
 (∀ v h' tk,P (argBest bt (n - 1)) v→(∀ b o,b∉wr→b≠S→s.heap.get? b=some o→h'.get? b=some o)→R (.ok (.ret v)) { s with heap:=h',toks:=tk })→
 codeAny (model prog w) A (.builtin "max.loop" ⟨[.ref I,.none,.ref S],kw⟩) R s:=by
 have nW:S∉wr:=fun z=>nS (W.sub _ z);have nm:(toString "max" ++ toString ".loop" : String) = "max.loop" := by decide
 intro k
 induction k with
 |zero=>
   intro j s vb c e1 e2 st pb oS fin;refine Ae6 Al7 ?_;rw[Ac8 Ae4 _];refine Aa0 (m:=seqItems? (.ref S)) (Ah1 oS rfl ?_);refine Aa0 (m:=tryCatch (pyNext (.ref I)) _) (Ad4 (W.done s _ _ ((show j + 1=n by omega) ▸ st) fun h' tk kp=>?_));refine Aa0 (m:=updateSeq S (fun _=>#[])) ?_;refine Ag7 (kp S _ nW oS) rfl (Aa0 (Ag1 (Aa9 ?_)));exact fin vb _ tk (by rw[show n - 1=j by omega]; exact pb) fun b o hw hS e=>(Ab4 _ _ (Ai1 hS)).trans (kp b o hw e)
 |succ k ih=>
   intro j s vb c e1 e2 st pb oS fin;have lt:j + 1 < n:=by omega
   refine Ae6 Al7 ?_;rw[Ac8 Ae4 _];refine Aa0 (m:=seqItems? (.ref S)) (Ah1 oS rfl ?_);refine Aa0 (m:=tryCatch (pyNext (.ref I)) _) (Ad4 (W.item (j + 1) s _ _ lt st fun v h' tk pv st' kp=>?_));have oS':=kp S _ nW oS;refine Aa0 (m:=tryCatch (holding [v,v] (richCompare .Gt v vb >>= _)) _) (Ad4 (Af2 (Aa0 (cmp (j + 1) (argBest bt j) v vb _ _ _ pv pb ?_))));refine Aa0 (Af2 (Ae7 (Aa0 (Ag1 (Aa9 ?_)))));cases eb:bt (j + 1) (argBest bt j) with
   |true=>
     rw[Aa6 rfl];refine Aa0 ?_;refine Ag7 oS' rfl (Aa0 (Ag1 ?_));rw[nm];refine Aa9 ⟨Ae2 Ae4 _,ih (j + 1) _ v _ (by omega) lt (W.frame _ _ _ st' fun b hb o e=>?_) (by simp only[argBest,eb,Ag6]; exact pv) (Ac3 _ oS' rfl) fun v' h'' tk'' pv' kp''=>?_⟩
     ·exact(Ab4 _ _ (fun z:S=b=>nS (by rw[z]; exact hb))).trans e
     ·exact fin v' h'' tk'' pv' fun b o hw hS e=>kp'' b o hw hS ((Ab4 _ _ (Ai1 hS)).trans (kp b o hw e))
   |false=>
     rw[Aa3 Ab1];refine Aa0 (Ag1 ?_);rw[nm];exact Aa9 ⟨Ae2 Ae4 _,ih (j + 1) _ vb c (by omega) lt st' (by simp only[argBest,eb,Aj7,Am4]; exact pb) oS' fun v' h'' tk'' pv' kp''=>fin v' h'' tk'' pv' fun b o hw hS e=>kp'' b o hw hS (kp b o hw e)⟩
end
theorem bD0(a d:Value):argsOk "max" ⟨[a],[(Str.ofString "default",d)]⟩:=by unfold argsOk; kernel_rfl
section
variable{prog:Program}{w:World}{A:Around}{E:Value→Shared→Prop}{s:Shared}
theorem bB7{x d:Value}{Q:Value→Shared→Prop}
 (h:wpAny (model prog w) A.in1 (pyIter x) (fun it s₂=>∃ I fp wr n P St bt,it= .ref I∧Walks prog w A.in1 I fp wr n P St∧St 0 s₂.heap∧(∀ b∈fp,b < s₂.heap.objs.size)∧CmpOf prog w A.in1 .Gt P bt∧
   (n=0→∀ h' tk,(∀ b o,b∉wr→s₂.heap.get? b=some o→h'.get? b=some o)→Q d { s₂ with heap:=h',toks:=tk })∧
   (0 < n→∀ v h' tk,P (argBest bt (n - 1)) v→(∀ b o,b∉wr→s₂.heap.get? b=some o→h'.get? b=some o)→Q v { s₂ with heap:=h',toks:=tk })) E s):
 wpAny (model prog w) A (call (.builtin "max") [x] [(Str.ofString "default",d)]) Q E s:=by
 have nm:(toString "max" ++ toString ".loop" : String) = "max.loop" := by decide
 refine kmk_tree PySem.F.kind_max PySem.F.plain_max PySem.F.entry_max (bD0 _ _) ?_;refine Aa0 (m:=Builtin.Builtins.bindParams "max" ["key", "default"] 0 ⟨[],[(Str.ofString "default",d)]⟩) (As7 (show _=pure [none,some d] from rfl) ?_);refine Aa0 (Aa9 (Aa0 (Al3 h (fun it s₂ h₂=>?_) fun _ _ e=>e)));obtain⟨I,fp,wr,n,P,St,bt,rfl,W,st,lts,cmp,q0,q1⟩:=h₂;refine Aa0 (Ak5 ?_);have nS:s₂.heap.objs.size∉fp:=fun z=>Ad1 _ (lts _ z);have nW:s₂.heap.objs.size∉wr:=fun z=>nS (W.sub _ z);rw[nm];have st1:=W.frame _ _ (s₂.heap.push { cls:= .type "list",dict:=none,data:= .seq ([]:List Value).toArray }) st fun b _ o e=>Aa1 _ e;have oS:(s₂.heap.push { cls:= .type "list",dict:=none,data:= .seq ([]:List Value).toArray }).get? s₂.heap.objs.size=some { cls:= .type "list",dict:=none,data:= .seq ([]:List Value).toArray }:=Ab8 _ rfl;refine Aa9 ⟨Ae2 Ae4 _,Ae6 Al7 ?_⟩;rw[Ac8 Ae4 _];refine Aa0 (m:=seqItems? (.ref s₂.heap.objs.size)) (Ah1 oS rfl ?_);by_cases hn:n=0
 ·refine Aa0 (m:=tryCatch (pyNext (.ref I)) _) (Ad4 (W.done _ _ _ (hn ▸ st1) fun h' tk kp=>?_));refine Aa0 (m:=rule _) (wpAny_rule (Aa9 ?_));exact q0 hn h' tk fun b o hw e=>kp b o hw (Aa1 _ e)
 · have lt:0 < n:=An6 hn;refine Aa0 (m:=tryCatch (pyNext (.ref I)) _) (Ad4 (W.item 0 _ _ _ lt st1 fun v h' tk pv st' kp=>?_));have oS':=kp _ _ nW oS;refine Aa0 (m:=updateSeq s₂.heap.objs.size (fun _=>#[v,v])) ?_;refine Ag7 oS' rfl ?_;rw[nm];refine Aa9 ⟨Ae2 Ae4 _,aV7 W _ bt cmp _ nS _ 0 _ v _ rfl lt (W.frame _ _ _ st' fun b hb o e=>?_) pv (Ac3 _ oS' rfl) fun v' h'' tk'' pv' kp''=>?_⟩
   ·exact(Ab4 _ _ (fun z:s₂.heap.objs.size=b=>nS (by rw[z]; exact hb))).trans e
   ·exact q1 lt v' h'' tk'' pv' fun b o hw e=>kp'' b o hw (Ac5 (Ab3 e)) ((Ab4 _ _ (Aq3 (Ab3 e))).trans (kp b o hw (Aa1 _ e)))
end
def aC5(X:Cx)(f:Value)(ks:List Str)(r:List V→List V→Hp→VK→Prop):Prop:=
 ∀ (pins:List (Addr×Obj)) (s:Shared) (σ:St) (H:Hp) (xs zs:List V) (us ws:List Value) (Q:VK),Inv X pins σ H s→Vals xs us→Vals zs ws→r xs zs H Q→
  wpAny (model X.prog X.w) X.A (call f us (ks.zip ws)) (EP X pins σ Q) X.xe s
def tCBK(r:List V→List V→Hp→VK→Prop)(t tk:TA):TE:=fun σ H Q=>t σ H fun vs H1=>tk σ H1 fun zs H2=>r vs zs H2 Q
section
variable{X:Cx}{x:Str}{p pos:Pos}{e:Expr}{es:List Expr}{kws:List Keyword}{t tk:TA}{id:String}{ks:List Str}{r:List V→List V→Hp→VK→Prop}
theorem ay2(hc:aC5 X (.builtin id) ks r)(hg:Gl X x)(hm:X.mg x=none)(hv:bootBuiltins x=some (.builtin id))(ha:PA X (e :: es) t)(hk:PK X kws tk)
 (hks:(backToKw pos (keywordEach kws X.env)).filterMap (·.1)=ks:=by rfl) (hn:x ≠ "__name__" := by decide) (hdb:(x == ("__debug__" : Str))=false:=by decide)
 (he:backTo pos (starEach (e :: es) X.env)=(false,eval e X.env) :: backTo pos (starEach es X.env):=by rfl) (hpl:(backTo pos (starEach (e :: es) X.env)).any (·.1)=false:=by rfl)
 (hall:(backToKw pos (keywordEach kws X.env)).all (·.1.isSome)=true:=by rfl) (hkn:(backToKw pos (keywordEach kws X.env)).any (·.1.isNone)=false:=by rfl):
 PE X (.Call (.Name x p) (e :: es) kws pos) (tCBK r t tk):=by
 intro pins s σ H Q I h;refine Ah6 (az1 I hg hm hv ?_ hn hdb);refine PyProof.Rows.callWith_kw (thn (ha pos pins s σ H _ I h) fun us s1 ⟨vs,H1,I1,r1,q1⟩=>thn (hk pos pins s1 σ H1 _ I1 q1) fun ws s2 ⟨zs,H2,I2,r2,q2⟩=>?_) he hpl hall hkn;rw[hks];exact hc pins s2 σ H2 vs zs us ws Q I2 r1 r2 q2
end
theorem af6:∀ {ns:List Int} {us:List Value} {i:Nat} {u:Value},Vals (ns.map V.int) us→us[i]?=some u→∃ t,u= .int (ns.getD i 0) t
 | [],us,i,u,r,e=>by
   cases r;cases e
 | n :: ns,us,i,u,r,e=>by
   rw[Aa2] at r;cases r with
   |cons r1 r2=>
     cases i with
     |zero=>
       cases e;exact r1
     |succ i=>
       show ∃ t,u= .int (ns.getD i 0) t;exact af6 (ns:=ns) (i:=i) r2 (by simpa using e)
theorem bC2{X:Cx}(hc:X.calm=true):aC5 X (.builtin "min") ["default"] (fun xs zs H Q=>∃ p ns d,xs=[.ref p]∧zs=[d]∧SqL X.K H p (ns.map V.int)∧(ns=[]→Q d H)∧∀ m∈ns,(∀ x∈ns,m≤x)→Q (.int m) H):=by
 intro pins s σ H xs zs us ws Q I r rz h;obtain⟨p,ns,d,rfl,rfl,hq,q0,q1⟩:=h;obtain⟨u,rfl,ru⟩:=Vals.one r;have ru':u=Value.ref p:=ru;subst ru';obtain⟨dv,rfl,rd⟩:=Vals.one rz;obtain⟨its,rv,pl,hz⟩:=I.list hq;have ln:ns.length=its.length:=by rw[← rv.length,Aa7]
 obtain⟨ol,hol,hcl,hdl⟩:=id pl.isList;have hlt:p < s.heap.objs.size:=Ab3 hol;refine bB6 (Ak3 pl.isList ⟨s.heap.objs.size,_,_,_,_,_,_,rfl,Walks.list (A:=X.A.in1) (I.ok.hd hc) _ p (Ac5 hlt) its.toArray,⟨⟨_,Ab8 _ rfl,rfl,rfl⟩,⟨ol,Aa1 _ hol,hcl,hdl⟩⟩,fun b hb=>?_,CmpOf.ints_lt (fun i=>ns.getD i 0) (fun i v e=>af6 rv (by simpa using e)),fun e h' tk kp=>?_,fun e v h' tk pv kp=>?_⟩)
 · rw[Aj4];rcases List.mem_cons.mp hb with z | z
   ·rw[z]; exact Aj2 _
   · have z':b=p:=by simpa using z
     rw[z']; exact Am0 hlt
 · have en:ns=[]:=List.length_eq_zero_iff.mp (by rw[ln]; simpa using e);refine⟨d,H,I.kept fun b o q=>kp b o (fun z=>?_) (Aa1 _ q),rd,q0 en⟩;have z':b=s.heap.objs.size:=by simpa using z
   exact absurd (Ab3 q) (by rw[z']; exact Ad1 _)
 · have e':0 < its.length:=by simpa using e
   have e1:its.toArray.size - 1=ns.length - 1:=by rw[Ab5,ln]
   rw[e1] at pv;obtain⟨b1,b2⟩:=argBest_lt (fun i=>ns.getD i 0) (ns.length - 1);rw[Am2] at pv;obtain⟨t,rfl⟩:=af6 rv pv
   have up:∀ i,i < ns.length→ns.getD i 0∈ns:=fun i hi=>by
    rw[Ab0,Ab6 hi];exact Al1 hi
   refine⟨.int _,H,I.kept fun b o q=>kp b o (fun z=>?_) (Aa1 _ q),⟨t,rfl⟩,q1 _ (up _ (by omega)) fun x hx=>?_⟩
   · have z':b=s.heap.objs.size:=by simpa using z
     exact absurd (Ab3 q) (by rw[z']; exact Ad1 _)
   · obtain⟨j,hj,rfl⟩:=Am9 hx
     have:=b2 j (by omega)
     rwa [show ns.getD j 0=ns[j] by rw[Ab0,Ab6 hj]; rfl] at this
theorem bC3{X:Cx}(hc:X.calm=true):aC5 X (.builtin "max") ["default"] (fun xs zs H Q=>∃ p ns d,xs=[.ref p]∧zs=[d]∧SqL X.K H p (ns.map V.int)∧(ns=[]→Q d H)∧∀ m∈ns,(∀ x∈ns,x≤m)→Q (.int m) H):=by
 intro pins s σ H xs zs us ws Q I r rz h;obtain⟨p,ns,d,rfl,rfl,hq,q0,q1⟩:=h;obtain⟨u,rfl,ru⟩:=Vals.one r;have ru':u=Value.ref p:=ru;subst ru';obtain⟨dv,rfl,rd⟩:=Vals.one rz;obtain⟨its,rv,pl,hz⟩:=I.list hq;have ln:ns.length=its.length:=by rw[← rv.length,Aa7]
 obtain⟨ol,hol,hcl,hdl⟩:=id pl.isList;have hlt:p < s.heap.objs.size:=Ab3 hol;refine bB7 (Ak3 pl.isList ⟨s.heap.objs.size,_,_,_,_,_,_,rfl,Walks.list (A:=X.A.in1) (I.ok.hd hc) _ p (Ac5 hlt) its.toArray,⟨⟨_,Ab8 _ rfl,rfl,rfl⟩,⟨ol,Aa1 _ hol,hcl,hdl⟩⟩,fun b hb=>?_,CmpOf.ints_gt (fun i=>ns.getD i 0) (fun i v e=>af6 rv (by simpa using e)),fun e h' tk kp=>?_,fun e v h' tk pv kp=>?_⟩)
 · rw[Aj4];rcases List.mem_cons.mp hb with z | z
   ·rw[z]; exact Aj2 _
   · have z':b=p:=by simpa using z
     rw[z']; exact Am0 hlt
 · have en:ns=[]:=List.length_eq_zero_iff.mp (by rw[ln]; simpa using e);refine⟨d,H,I.kept fun b o q=>kp b o (fun z=>?_) (Aa1 _ q),rd,q0 en⟩;have z':b=s.heap.objs.size:=by simpa using z
   exact absurd (Ab3 q) (by rw[z']; exact Ad1 _)
 · have e':0 < its.length:=by simpa using e
   have e1:its.toArray.size - 1=ns.length - 1:=by rw[Ab5,ln]
   rw[e1] at pv;obtain⟨b1,b2⟩:=argBest_gt (fun i=>ns.getD i 0) (ns.length - 1);rw[Am2] at pv;obtain⟨t,rfl⟩:=af6 rv pv
   have up:∀ i,i < ns.length→ns.getD i 0∈ns:=fun i hi=>by
    rw[Ab0,Ab6 hi];exact Al1 hi
   refine⟨.int _,H,I.kept fun b o q=>kp b o (fun z=>?_) (Aa1 _ q),⟨t,rfl⟩,q1 _ (up _ (by omega)) fun x hx=>?_⟩
   · have z':b=s.heap.objs.size:=by simpa using z
     exact absurd (Ab3 q) (by rw[z']; exact Ad1 _)
   · obtain⟨j,hj,rfl⟩:=Am9 hx
     have:=b2 j (by omega)
     rwa [show ns.getD j 0=ns[j] by rw[Ab0,Ab6 hj]; rfl] at this
def dd(ns:List Int):List Int:=ns.foldl step_dedup []
theorem bh6(ns:List Int):(List.range ns.length).map (fun i=>ns.getD i 0)=ns:=by
 apply List.ext_getElem?;intro i;rw[Ac7];by_cases h:i < ns.length
 ·rw[An0 h,Ab6 h,Ak1,Ab0,Ab6 h];rfl
 ·rw[Ac6 (by rw[Ao2]; omega),Ac6 (by omega)];rfl
theorem aV0(ns:List Int):firstMet (fun i=>ns.getD i 0) ns.length=dd ns:=by
 unfold firstMet dd;rw[bh6]
theorem cI2:∀ (ns acc:List Int),ns.Nodup→(∀ x∈ns,x∉acc)→ns.foldl step_dedup acc=acc ++ ns
 |[],acc,_,_=>by rw[List.foldl_nil,Af4]
 | n :: r,acc,h,hd=>by
   have hn:=List.nodup_cons.mp h
   have e:step_dedup acc n=acc ++ [n]:=by
    unfold step_dedup;rw[if_neg];intro z;obtain⟨y,hy,e⟩:=List.any_eq_true.mp z;have e':y=n:=by simpa using e
    subst e';exact hd y Aa5 hy
   rw[Ak0,e,cI2 r (acc ++ [n]) hn.2 fun x hx z=>?_,Ae9]
   ·rfl
   · rcases List.mem_append.mp z with z | z
     ·exact hd x (Aa4 _ hx) z
     · have e':x=n:=by simpa using z
       subst e';exact hn.1 hx
theorem bM5{ns:List Int}(h:ns.Nodup):dd ns=ns:=by
 unfold dd;rw[cI2 ns [] h fun _ _ z=>nomatch z];rfl
section
variable{X:Cx}
theorem bB5(hc:X.calm=true):CallR X (.type "set") (fun xs H Q=>∃ p ns,xs=[.ref p]∧SqL X.K H p (ns.map V.int)∧ns.length < 4000∧∀ q,H q=none→Q (.ref q) (upd H q (.set (fun k=>(dd ns).any (· == k)) (dd ns).length))):=by
 intro pins s σ H xs us Q I r h;obtain⟨p,ns,rfl,hq,hl,q⟩:=h;obtain⟨u,rfl,ru⟩:=Vals.one r;have ru':u=Value.ref p:=ru;subst ru';obtain⟨its,rv,pl,hz⟩:=I.list hq;have ln:its.length=ns.length:=by rw[← rv.length,Aa7]
 refine PySem.call_set_list (ns:=ns) (I.ok.hd hc) pl.isList (by simpa using bi9 rv) (by rw[List.size_toArray,ln]; unfold scanBound; omega) fun h' tk hS kp=>?_;have es:its.toArray.size=ns.length:=by rw[List.size_toArray,ln]
 rw[es,aV0] at hS;exact⟨.ref s.heap.objs.size,_,I.laid (o:= .set _ _) (fun b o e=>kp b o (Ab3 e) e) (Ab7 _) hS,rfl,q _ (I.hok.fresh (Ab7 _))⟩
theorem bB9:CallR X (.builtin "len") (fun xs H Q=>∃ a S n,xs=[.ref a]∧H a=some (.set S n)∧Q (.int n) H):=by
 intro pins s σ H xs us Q I r h;obtain⟨a,S,n,rfl,ha,q⟩:=h;obtain⟨u,rfl,ru⟩:=Vals.one r;have ru':u=Value.ref a:=ru;subst ru';obtain⟨o,es,ep,t,ho,hex,hd,_,_,hb,hf,hn⟩:=(show s.heap.SetOf (intKind X.prog X.w) a S n from I.hok a _ ha);refine call_len_set ho hex hd hf (Int.lt_of_lt_of_le (Int.ofNat_lt.mpr hb) (by unfold scanBound; decide)) ?_;rw[hn];exact⟨.int n,H,I.tok _,⟨_,rfl⟩,q⟩
end
def RawD(h:Heap)(d:Addr)(es:Array DictEntry)(ep:Nat):Prop:=∃ o,h.get? d=some o∧o.ExactDict∧o.data= .dict es ep
section
variable{prog:Program}{w:World}{A:Around}{E:Value→Shared→Prop}{s:Shared}{d it:Addr}{es:Array DictEntry}{ep i:Nat}
theorem RawD.typeIs(x:RawD s.heap d es ep):s.TypeIs (.ref d) "dict" := by
 obtain⟨o,ho,hx,_⟩:=x;exact⟨o,ho,hx.1⟩
theorem ba4{Q:Value→Shared→Prop}(hs:(d == sysModules)=false)(x:RawD s.heap d es ep)
 (hQ:Q (.ref s.heap.objs.size) { s with heap:=s.heap.push { cls:= .type "dict_keyiterator",data:= .fields #[.ref d,.int 0 0,.int es.size 0,.int ep 0] } }):wpAny (model prog w) A (pyIter (.ref d)) Q E s:=by
 have hT:=x.typeIs;obtain⟨o,ho,hx,hd⟩:=x;refine wpAny_pyIter_slot hT PySem.F.slot_dict_iter (wpAny_call_entry PySem.F.slot_dict_iter hT PySem.F.entry_dict_iter ?_ (PySem.F.args_dict_iter_1 _));unfold Builtin.«dict.__iter__» Builtin.Dict.dictSlotNone;refine wpAny_bind (wpAny_bind (wpAny_notOrdered_dict hT (wpAny_pure ?_)));refine wpAny_bind (m:=Builtin.Dict.showsAll d) ?_;unfold Builtin.Dict.showsAll;rw[if_neg (by rw[hs]; exact Bool.false_ne_true)];refine wpAny_pure (wpAny_bind (wpAny_dictEntries ho hd (wpAny_bind (wpAny_dictEpoch ho hd ?_))));exact wpAny_bind (wpAny_newObj_type (wpAny_pure ⟨_,rfl, "dict_keyiterator",_,⟨_,Heap.get?_push_size _ rfl,rfl⟩,PySem.F.slot_dict_keyiterator_next.lookup,hQ⟩))
theorem ba5{Q:Option Value→Shared→Prop}(hit:s.heap.IsKeyIter it d i es.size ep)(x:RawD s.heap d es ep)(hlt:i < es.size)
 (hQ:∀ h',h'.IsKeyIter it d (i + 1) es.size ep→Heap.SameBut it s.heap h'→Q (some es[i].key) { s with heap:=h' }):wpAny (model prog w) A (pyNext (.ref it)) Q E s:=by
 obtain⟨o,ho,hc,hd⟩:=id hit;obtain⟨od,hod,_,hdd⟩:=id x;unfold pyNext;refine wpAny_bind (wpAny_attempt (wpAny_callSpecial?_slot (name:=Str.ofString "__next__") hit.typeIs PySem.F.slot_dict_keyiterator_next (wpAny_call_entry PySem.F.slot_dict_keyiterator_next hit.typeIs PySem.F.entry_dict_keyiterator_next ?_ (PySem.F.args_dict_keyiterator_next_1 _))));refine wpAny_bind (wpAny_pure (wpAny_bind (wpAny_bind ?_)))
 first | refine Aa0 (Ag8 hit.typeIs (Aa9 ?_)) | refine Aa0 (Ai3 hit.typeIs (Aa9 ?_))
 refine Aa0 (wpAny_fieldsOf ho hd ?_);simp only[show Builtin.Dict_items.ownsTuple "dict_keyiterator" = false from by decide,Aj7,Am4];show wpAny _ _ (if (Value.ref d == Value.none)=true then _ else _) _ _ s;rw[Aa3 (show ¬ ((Value.ref d == Value.none)=true) from Ab1)];refine Aa0 (Aa9 (Aa0 (Ak6 hod hdd ?_)));rw[Aa3 (by simp)];refine Aa0 (Aa9 (Aa0 (Aq8 hod hdd ?_)));rw[Aa3 (by simp)];refine Aa9 ?_;simp only[show ¬ ((i:Int) < 0) from by omega,Am4,Int.toNat_natCast,Ak7 hlt];refine Aa0 ?_
 first | refine Aa0 (Ag8 hit.typeIs (Aa9 ?_)) | refine Aa0 (Ai3 hit.typeIs (Aa9 ?_))
 refine Aa0 (wpAny_isOneOf_keyiter hit.typeIs ?_);refine Aa0 (m:=setField (.ref it) 1 (rawInt ((i:Int) + 1))) (wpAny_setField ho hd (by simp) ?_)
 have hit':(s.heap.update it (Obj.mapFields (·.setIfInBounds 1 (rawInt ((i:Int) + 1))))).IsKeyIter it d (i + 1) es.size ep:=
  ⟨_,Ac3 _ ho (Obj.isFreed_of_fields (Obj.data_mapFields hd _)),(Obj.cls_mapFields ..).trans hc,by rw[Obj.data_mapFields hd]; simp[rawInt]⟩
 refine Aa0 (Af2 ?_);refine Aa0 (wpAny_isOneOf_keyiter (s:={ s with heap:=s.heap.update it (Obj.mapFields (·.setIfInBounds 1 (rawInt ((i:Int) + 1)))) }) hit'.typeIs ?_);exact Aa9 (Aa9 ⟨_,rfl,Aa9 (hQ _ hit' (An1 ..))⟩)
theorem bo7{Q:Option Value→Shared→Prop}(hh:A.handled=none)(hit:s.heap.IsKeyIter it d es.size es.size ep)(x:RawD s.heap d es ep)
 (hQ:∀ h',Heap.ExtBut it s.heap h'→Q none { s with heap:=h' }):wpAny (model prog w) A (pyNext (.ref it)) Q E s:=by
 obtain⟨o,ho,hc,hd⟩:=id hit;obtain⟨od,hod,_,hdd⟩:=id x;unfold pyNext;refine wpAny_bind (wpAny_attempt (wpAny_callSpecial?_slot (name:=Str.ofString "__next__") hit.typeIs PySem.F.slot_dict_keyiterator_next (wpAny_call_entry PySem.F.slot_dict_keyiterator_next hit.typeIs PySem.F.entry_dict_keyiterator_next ?_ (PySem.F.args_dict_keyiterator_next_1 _))));refine wpAny_bind (wpAny_pure (wpAny_bind (wpAny_bind ?_)))
 first | refine Aa0 (Ag8 hit.typeIs (Aa9 ?_)) | refine Aa0 (Ai3 hit.typeIs (Aa9 ?_))
 refine Aa0 (wpAny_fieldsOf ho hd ?_);simp only[show Builtin.Dict_items.ownsTuple "dict_keyiterator" = false from by decide,Aj7,Am4];show wpAny _ _ (if (Value.ref d == Value.none)=true then _ else _) _ _ s;rw[Aa3 (show ¬ ((Value.ref d == Value.none)=true) from Ab1)];refine Aa0 (Aa9 (Aa0 (Ak6 hod hdd ?_)));rw[Aa3 (by simp)];refine Aa0 (Aa9 (Aa0 (Aq8 hod hdd ?_)));rw[Aa3 (by simp)];refine Aa9 ?_;simp only[show ¬ ((es.size:Int) < 0) from by omega,Am4,Int.toNat_natCast,Array.getElem?_eq_none (Ab7 _)];refine Aa0 ?_
 first | refine Aa0 (Ag8 hit.typeIs (Aa9 ?_)) | refine Aa0 (Ai3 hit.typeIs (Aa9 ?_))
 refine Aa0 (m:=setField (.ref it) 0 .none) (wpAny_setField ho hd (by simp) ?_);refine Aa0 (m:=newExc (.type "StopIteration") []) ?_;simp only[newExc,newTuple];refine Aa0 (Ak5 ?_ (by size_fits));refine Aa0 (m:=firstArgMember _ _) (As7 (a:=Value.none) (by first | rfl | (simp only[firstArgMember]; rfl)) ?_);refine Ak5 ?_ (by size_fits);simp only[raiseNew];refine Aa0 (wpAny_handled ?_);rw[show A.in1.handled=none from hh];refine Aa0 (Aa9 (wpAny_throw ?_));refine Aa0 (wpAny_isInstance (T := "StopIteration") (b:=true) ⟨_,Ab8 _ rfl,rfl⟩ isSubtype_stop ?_);exact Aa9 (hQ _ (((An1 ..).extBut.push _).push _))
end
theorem aN6{P:Program}{w:World}{x:List Key×Addr×Value}:(entryOfKey (tupleKind (ab6 P w)) x).key= .ref x.2.1:=rfl
end L2
namespace HT
open PySem PyProof.Rows
open PySem.SeqAt
open PySem.AutoSeq1 (wpAny_loadPart')
open PySem.MeetsSeq PySem.MeetsSeq2 PySem.MeetsSeq3 PySem.SeqRoads2
def LtAt(A:Around)(s:Shared)(y x:Value)(b:Bool):Prop:=
 ∀ (prog:Program) (w:World) (E:Value→Shared→Prop) (Q:Value→Shared→Prop),Q (.bool b) s→wpAny (model prog w) A (richCompare .Lt y x) Q E s
def lexN(p:Nat→Bool×Bool)(t:Bool):Nat→Nat→Bool
 |0,_=>t
 |k + 1,i=>if (p i).1=true then lexN p t k (i + 1) else (p i).2
theorem bi5(l b:Addr)(items items2:Array Value)(n n2:Nat)(dd dd2:Option Addr)(sl sl2:Array (Option Value))(p:Nat→Bool×Bool)(k:Nat):
 ∀ i:Nat,min items.size items2.size - i=k→i≤min items.size items2.size→Meets (Builtin.«list.__eq__.loop» ⟨[.ref l,.ref b,rawInt i,rawInt 0],[]⟩)
  (fun A R s=>s.heap.get? l=some { cls:= .type "list",dict:=dd,data:= .seq items n,slots:=sl }∧s.heap.get? b=some { cls:= .type "list",dict:=dd2,data:= .seq items2 n2,slots:=sl2 }∧
    (∀ j (h1:j < items.size) (h2:j < items2.size),EqAt A.in1 s items[j] items2[j] (p j).1∧((p j).1=false→LtAt A.in1 s items[j] items2[j] (p j).2))∧
    R (.ok (.ret (.bool (lexN p (decide (items.size < items2.size)) k i)))) s):=by
 induction k with
 |zero=>
   intro i hk hi prog w A R s h;obtain⟨hp,g,d,tk,os⟩:=s; obtain⟨hl,hb,he,h⟩:=h
   wp_walk using wpAny_loadPart' hl,wpAny_loadPart' hb
   by_cases hlt:i < items.size
   · have hi1:items[((i:Nat):Int).toNat]?=some items[i]:=by simp[hlt]
     have hi2:items2[((i:Nat):Int).toNat]?=none:=by simp; omega
     rw[hi1,hi2]
     wp_walk using wpAny_loadPart' hl,wpAny_loadPart' hb
     exact h
   · have hi1:items[((i:Nat):Int).toNat]?=none:=by simp; omega
     rw[hi1]
     wp_walk using wpAny_loadPart' hl,wpAny_loadPart' hb
     exact h
 |succ k ih=>
   intro i hk hi prog w A R s h;obtain⟨hp,g,d,tk,os⟩:=s; obtain⟨hl,hb,he,h⟩:=h
   wp_walk using wpAny_loadPart' hl,wpAny_loadPart' hb
   have hlt:i < items.size:=by omega
   have hlt2:i < items2.size:=by omega
   have hi1:items[((i:Nat):Int).toNat]?=some items[i]:=by simp[hlt]
   have hi2:items2[((i:Nat):Int).toNat]?=some items2[i]:=by simp[hlt2]
   have hc:((i:Int) + 1)=((i + 1:Nat):Int):=by push_cast; rfl
   rw[hi1,hi2];obtain⟨e1,e2⟩:=he i hlt hlt2;refine Aa0 (e1 prog w _ _ ?_);cases hb':(p i).1 with
   |true=>
     rw[lexN,hb',Aa6 rfl] at h
     wp_walk
     rw[hc]
     exact⟨Ae2 plain_eq_loop _,Ae6 entry_eq_loop (by
      rw[Ac8 plain_eq_loop _]
      exact ih (i + 1) (by omega) (by omega) prog w A R _ ⟨hl,hb,he,h⟩)⟩
   |false=>
     rw[lexN,hb',Aa3 Ab1] at h
     wp_walk using wpAny_loadPart' hl,wpAny_loadPart' hb
     rw[hi1,hi2];have e3:=e2 hb' prog w
     wp_walk using e3
     exact h
theorem bs6(l b:Addr)(items items2:Array Value)(n n2:Nat)(dd dd2:Option Addr)(sl sl2:Array (Option Value))(p:Nat→Bool×Bool):
 Meets (Builtin.«list.__lt__» ⟨[.ref l,.ref b],[]⟩)
  (fun A R s=>s.heap.get? l=some { cls:= .type "list",dict:=dd,data:= .seq items n,slots:=sl }∧s.heap.get? b=some { cls:= .type "list",dict:=dd2,data:= .seq items2 n2,slots:=sl2 }∧
    (∀ j (h1:j < items.size) (h2:j < items2.size),EqAt A.in1 s items[j] items2[j] (p j).1∧((p j).1=false→LtAt A.in1 s items[j] items2[j] (p j).2))∧
    R (.ok (.ret (.bool (lexN p (decide (items.size < items2.size)) (min items.size items2.size) 0)))) s):=by
 intro prog w A R s h;obtain⟨hp,g,d,tk,os⟩:=s; obtain⟨hl,hb,he,h⟩:=h;have f3:=AutoSeq1.sub_list_list
 wp_walk using wpAny_loadPart' hl,wpAny_loadPart' hb
 exact⟨Ae2 plain_eq_loop _,Ae6 entry_eq_loop (by
  rw[Ac8 plain_eq_loop _]
  exact bi5 l b items items2 n n2 dd dd2 sl sl2 p _ 0 rfl (Ai8 _) prog w A R _ ⟨hl,hb,he,h⟩)⟩
theorem LtAt.int_int{A:Around}{s:Shared}(a:Int)(t:Tok)(c:Int)(u:Tok):LtAt A s (.int a t) (.int c u) (decide (a < c)):=fun prog w E Q h=>bH1 A s a t c u prog w E Q h
theorem LtAt.lists{A:Around}{s:Shared}{l b:Addr}{items items2:Array Value}{p:Nat→Bool×Bool}(hl:s.heap.IsList l items)(hb:s.heap.IsList b items2)(hu:A.units < cLine)
 (he:∀ j (h1:j < items.size) (h2:j < items2.size),EqAt A.in1 s items[j] items2[j] (p j).1∧((p j).1=false→LtAt A.in1 s items[j] items2[j] (p j).2)):
 LtAt A s (.ref l) (.ref b) (lexN p (decide (items.size < items2.size)) (min items.size items2.size) 0):=fun prog w E Q h=>by
 obtain⟨⟨cls,dd,data,sl⟩,ho,hc,n,hd⟩:=id hl;obtain⟨⟨cls2,dd2,data2,sl2⟩,ho2,hc2,n2,hd2⟩:=id hb;simp only at hc hd hc2 hd2;subst hc hd hc2 hd2
 exact richCompare_meets_room (op:= .Lt) ⟨_,ho,rfl⟩ ⟨_,ho2,rfl⟩ PySem.F.slot_list_lt PySem.F.entry_list_lt (PySem.F.args_list_lt_2 _ _) (bs6 l b items items2 n n2 dd dd2 sl sl2 p)
  ⟨ho,ho2,he,show Value.bool (lexN p (decide (items.size < items2.size)) (min items.size items2.size) 0)≠Value.notImplemented∧Q (.bool (lexN p (decide (items.size < items2.size)) (min items.size items2.size) 0)) s from⟨(fun x=>nomatch x),h⟩⟩ hu
theorem aN0:∀ (ns ms:List Int) (i:Nat) (f:Nat→Bool×Bool) (t:Bool),(∀ j,j < min ns.length ms.length→f (i + j)=(decide (ns.getD j 0=ms.getD j 0),decide (ns.getD j 0 < ms.getD j 0)))→t=decide (ns.length < ms.length)→
 lexN f t (min ns.length ms.length) i=aH7 ns ms
 |[],[],i,f,t,h,e=>by rw[e]; rfl
 | [],m :: ms,i,f,t,h,e=>by
   rw[e];show decide (0 < (m :: ms).length)=true;simp
 | n :: ns,[],i,f,t,h,e=>by
   rw[e];show decide ((n :: ns).length < 0)=false;simp
 | n :: ns,m :: ms,i,f,t,h,e=>by
   have e1:min (n :: ns).length (m :: ms).length=min ns.length ms.length + 1:=by
    rw[Ab2,Ab2]; omega
   rw[e1,lexN,aE9];have h0:=h 0 (by rw[e1]; omega);rw[Nat.add_zero] at h0;have h0':f i=(decide (n=m),decide (n < m)):=h0;rw[h0'];by_cases q:n=m
   · rw[Aa6 (by simpa using q),Aa6 q]
     exact aN0 ns ms (i + 1) f t (fun j hj=>by
      have:=h (j + 1) (by rw[e1]; omega)
      rw[show i + 1 + j=i + (j + 1) by omega,this]
      rfl) (by rw[e]; simp)
   ·rw[Aa3 (by simpa using q),Aa3 q]
def bi7(a b:Int)(xs:List Int)(c d:Int)(ys:List Int):Bool:=if a=c then (if b=d then aH7 xs ys else decide (b < d)) else decide (a < c)
theorem bg5(l b:Addr)(items items2:Array Value)(n n2:Nat)(dd dd2:Option Addr)(sl sl2:Array (Option Value))(p:Nat→Bool×Bool):
 Meets (Builtin.«tuple.__lt__» ⟨[.ref l,.ref b],[]⟩)
  (fun A R s=>s.heap.get? l=some { cls:= .type "tuple",dict:=dd,data:= .seq items n,slots:=sl }∧s.heap.get? b=some { cls:= .type "tuple",dict:=dd2,data:= .seq items2 n2,slots:=sl2 }∧
    (∀ j (h1:j < items.size) (h2:j < items2.size),EqAt A.in1 s items[j] items2[j] (p j).1∧((p j).1=false→LtAt A.in1 s items[j] items2[j] (p j).2))∧
    R (.ok (.ret (.bool (lexN p (decide (items.size < items2.size)) (min items.size items2.size) 0)))) s):=
 .of_wp fun prog w A R s h=>by
  obtain⟨hp,g,d,tk,os⟩:=s; obtain⟨hl,hb,he,h⟩:=h;have f2:=AutoSeq1.sub_tuple_tuple;have zl:(items.toList.zip items2.toList).length=min items.size items2.size:=by rw[List.length_zip,Ae0,Ae0]
  wp_walk using wpAny_loadPart' hl,wpAny_loadPart' hb,wpAny_forIn_list _ (fun rest b s'=>b.1=none∧s'=⟨hp,g,d,tk,os⟩∧∃ i,i≤min items.size items2.size∧rest=(items.toList.zip items2.toList).drop i∧
   R (.ok (.ret (.bool (lexN p (decide (items.size < items2.size)) (min items.size items2.size - i) i)))) ⟨hp,g,d,tk,os⟩) _
  case turn=>
   rintro⟨y,x⟩ rest b s' ⟨hb',rfl,i,hi,hz,hR⟩
   have hlt:i < min items.size items2.size:=by
    rcases Ar0 i (min items.size items2.size) with q | q
    ·exact q
    ·rw[Aq0 (by rw[zl]; exact q)] at hz;cases hz
   have h1:i < items.size:=by omega
   have h2:i < items2.size:=by omega
   rw[Ak8 (by rw[zl]; exact hlt)] at hz;injection hz with hyx hrest
   rw[List.getElem_zip,Array.getElem_toList,Array.getElem_toList] at hyx;injection hyx with hy hx
   subst hy hx;obtain⟨e1,e2⟩:=he i h1 h2;rw[show min items.size items2.size - i=(min items.size items2.size - (i + 1)) + 1 by omega,lexN] at hR;refine Aa0 (e1 prog w _ _ ?_);cases eb:(p i).1 with
   |true=>
     rw[eb,Aa6 rfl] at hR
     wp_walk
     exact⟨rfl,rfl,i + 1,by omega,hrest,hR⟩
   |false=>
     rw[eb,Aa3 Ab1] at hR;have e3:=e2 eb prog w
     wp_walk using e3
     exact⟨_,rfl,by simpa using hR⟩
  case fin=>
   rintro⟨b1,b2⟩ s' ⟨hb',rfl,i,hi,hz,hR⟩;simp only at hb';subst hb'
   have hge:min items.size items2.size≤i:=by
    rcases Ar0 i (min items.size items2.size) with q | q
    ·rw[Ak8 (by rw[zl]; exact q)] at hz;cases hz
    ·exact q
   rw[show min items.size items2.size - i=0 by omega,lexN] at hR
   wp_walk
   exact⟨_,rfl,by simpa [Builtin.Tuple.tupleCompareSizes] using hR⟩
  case h=>
   exact⟨rfl,rfl,0,Ai8 _,rfl,h⟩
theorem LtAt.tuples{A:Around}{s:Shared}{l b:Addr}{items items2:Array Value}{p:Nat→Bool×Bool}(hl:s.heap.IsTuple l items)(hb:s.heap.IsTuple b items2)(hu:A.units < cLine)
 (he:∀ j (h1:j < items.size) (h2:j < items2.size),EqAt A.in1 s items[j] items2[j] (p j).1∧((p j).1=false→LtAt A.in1 s items[j] items2[j] (p j).2)):
 LtAt A s (.ref l) (.ref b) (lexN p (decide (items.size < items2.size)) (min items.size items2.size) 0):=fun prog w E Q h=>by
 obtain⟨⟨cls,dd,data,sl⟩,ho,hc,n,hd⟩:=id hl;obtain⟨⟨cls2,dd2,data2,sl2⟩,ho2,hc2,n2,hd2⟩:=id hb;simp only at hc hd hc2 hd2;subst hc hd hc2 hd2
 exact richCompare_meets_room (op:= .Lt) ⟨_,ho,rfl⟩ ⟨_,ho2,rfl⟩ PySem.F.slot_tuple_lt PySem.F.entry_tuple_lt (PySem.F.args_tuple_lt_2 _ _) (bg5 l b items items2 n n2 dd dd2 sl sl2 p)
  ⟨ho,ho2,he,show Value.bool (lexN p (decide (items.size < items2.size)) (min items.size items2.size) 0)≠Value.notImplemented∧Q (.bool (lexN p (decide (items.size < items2.size)) (min items.size items2.size) 0)) s from⟨(fun x=>nomatch x),h⟩⟩ hu
end HT
namespace L2
open PySem PySem.Spec PyProof.Rows
theorem aE8:∀ xs:List Int,HT.aH7 xs xs=false
 |[]=>rfl
 |x :: xs=>by rw[HT.aE9,Aa6 rfl,aE8 xs]
section
variable{X:Cx}{pins:List (Addr×Obj)}{σ:St}{H:Hp}{s:Shared}
theorem bt9{A:Around}{a b:Addr}{ns ms:List Int}(I:Inv X pins σ H s)(ha:SqL X.K H a (ns.map V.int))(hb:SqL X.K H b (ms.map V.int))(hu:A.units + 64 < cLine):
 SeqAt.EqAt A s (.ref a) (.ref b) (decide (ns=ms))∧HT.LtAt A s (.ref a) (.ref b) (HT.aH7 ns ms):=by
 constructor
 ·obtain⟨as,ra⟩:=den_reads I _ (be2 ha) (show RelV (.ref a) (.ref a) from rfl);obtain⟨bs,rb⟩:=den_reads I _ (be2 hb) (show RelV (.ref b) (.ref b) from rfl);rw[← bL6];exact SeqAt.eqAt_reads _ _ A s _ _ as bs ra rb (SeqAt.canLay_of_shaped (An2 ns)) (SeqAt.canLay_of_shaped (An2 ms)) (SeqAt.room_of_shaped (An2 ns) hu)
 · obtain⟨its,rv,pl,_⟩:=I.list ha;obtain⟨its2,rv2,pl2,_⟩:=I.list hb;have l1:its.toArray.size=ns.length:=by rw[Ab5,← rv.length,Aa7]
   have l2:its2.toArray.size=ms.length:=by rw[Ab5,← rv2.length,Aa7]
   have key:=HT.LtAt.lists (A:=A) (p:=fun j=>(decide (ns.getD j 0=ms.getD j 0),decide (ns.getD j 0 < ms.getD j 0))) pl.isList pl2.isList (by omega) (fun j h1 h2=>?_)
   ·rw[l1,l2,HT.aN0 ns ms 0 _ _ (fun j _=>by rw[Nat.zero_add]) rfl] at key;exact key
   · obtain⟨t,e1⟩:=af6 rv (i:=j) (u:=its.toArray[j]) (by simp at h1; simp[h1]);obtain⟨u,e2⟩:=af6 rv2 (i:=j) (u:=its2.toArray[j]) (by simp at h2; simp[h2]);rw[e1,e2];refine⟨?_,fun _=>HT.LtAt.int_int _ _ _ _⟩
     have:=SeqAt.EqAt.int_int (A:=A.in1) (s:=s) (ns.getD j 0) t (ms.getD j 0) u
     rwa [show(ns.getD j 0 == ms.getD j 0)=decide (ns.getD j 0=ms.getD j 0) from Am3 _ _] at this
theorem cF7{A:Around}{p q:Addr}{a b c d:Int}{l m:Addr}{xs ys:List Int}(hu:A.units + 100 < cLine)(I:Inv X pins σ H s)(hp:SqT X.K H p [.int a,.int b,.ref l])(hq:SqT X.K H q [.int c,.int d,.ref m])(hl:SqL X.K H l (xs.map V.int))(hm:SqL X.K H m (ys.map V.int)):
 HT.LtAt A s (.ref p) (.ref q) (HT.bi7 a b xs c d ys):=by
 obtain⟨its,rv,t1,_⟩:=I.tuple hp;obtain⟨its2,rv2,t2,_⟩:=I.tuple hq;cases rv with | cons ra rv=>cases rv with | cons rb rv=>cases rv with | cons rl rv=>
 cases rv;cases rv2 with | cons rc rv2=>cases rv2 with | cons rd rv2=>cases rv2 with | cons rm rv2=>
 cases rv2;obtain⟨ta,rfl⟩:=ra;obtain⟨tb,rfl⟩:=rb;obtain⟨tc,rfl⟩:=rc;obtain⟨td,rfl⟩:=rd;obtain rfl:_=Value.ref l:=rl;obtain rfl:_=Value.ref m:=rm;have hu1:A.in1.units + 64 < cLine:=by show A.units + 1 + 64 < cLine; omega
 obtain⟨el,ll⟩:=bt9 (A:=A.in1) I hl hm hu1
 have ei:∀ (i j:Int) (t u:Tok),SeqAt.EqAt A.in1 s (.int i t) (.int j u) (decide (i=j)):=fun i j t u=>by
  have:=SeqAt.EqAt.int_int (A:=A.in1) (s:=s) i t j u
  rwa [show(i == j)=decide (i=j) from Am3 _ _] at this
 have key:=HT.LtAt.tuples (A:=A) (s:=s) (p:=fun j=>if j=0 then (decide (a=c),decide (a < c)) else if j=1 then (decide (b=d),decide (b < d)) else (decide (xs=ys),HT.aH7 xs ys)) t1 t2 (by omega) (fun j h1 h2=>by
  have h1':j < 3:=h1
  match j,h1' with
  |0,_=>exact⟨ei a c ta tc,fun _=>HT.LtAt.int_int a ta c tc⟩
  |1,_=>exact⟨ei b d tb td,fun _=>HT.LtAt.int_int b tb d td⟩
  |2,_=>exact⟨el,fun _=>ll⟩)
 have e:HT.lexN (fun j=>if j=0 then (decide (a=c),decide (a < c)) else if j=1 then (decide (b=d),decide (b < d)) else (decide (xs=ys),HT.aH7 xs ys)) (decide (3 < 3)) 3 0=HT.bi7 a b xs c d ys:=by
  simp only[HT.lexN,HT.bi7];by_cases h1:a=c
  · by_cases h2:b=d
    · by_cases h3:xs=ys
      ·subst h3;simp[h1,h2,aE8]
      ·simp[h1,h2,h3]
    ·simp[h1,h2]
  ·simp[h1]
 exact e ▸ key
end
end L2
namespace Gd
open PySem L2
theorem ak6:bootBuiltins "len" = some (.builtin "len"):=by decide +kernel
theorem bU3:bootBuiltins "min" = some (.builtin "min"):=by decide +kernel
theorem cK7:bootBuiltins "max" = some (.builtin "max"):=by decide +kernel
theorem as9:bootBuiltins "isinstance" = some (.builtin "isinstance"):=by decide +kernel
theorem cK6:bootBuiltins "set" = some (.type "set"):=by decide +kernel
theorem bC4:bootBuiltins "list" = some (.type "list"):=by decide +kernel
theorem bf9:bootBuiltins "tuple" = some (.type "tuple"):=by decide +kernel
theorem cq8:bootBuiltins "bool" = some (.type "bool"):=by decide +kernel
theorem cK8:bootBuiltins "int" = some (.type "int"):=by decide +kernel
theorem ba1{H H':Hp}{q:Addr}{o:HO}(h:H q=none)(e:Same H H'):Same H (upd H' q o):=fun b u z=>by
 rw[ab0 (ac0 z h)];exact e b u z
theorem ag3{H:Hp}{q:Addr}{o:HO}(h:H q=none):Same H (upd H q o):=ba1 h (Same.refl H)
def aI0(e:PySem.Expr):Scope:=match e with
 |.ListComp _ _ sc _=>sc
 |_=>{ kind:= .function,names:=[],isGenerator:=false,isCoroutine:=false,more:=[] }
def bF9(s:Stmt):PySem.Expr:=match s with
 |.Assign _ v _=>v
 |.Return (some v) _=>v
 |.Expr v _=>v
 |.For _ it _ _ _=>it
 |.If t _ _ _=>t
 |_=> .Constant .none 0 ⟨0,0,0,0⟩
def nth(l:List Stmt)(i:Nat):Stmt:=l.getD i (.Pass ⟨0,0,0,0⟩)
abbrev AL:=List (List Int×Int)
abbrev kI(k:List Int):List Key:=k.map Sum.inl
def encD(D:AL):List (List Key×V):=D.map fun p=>(kI p.1,V.int p.2)
def look(D:AL)(k:List Int):Option Int:=(D.find? fun p=>decide (p.1=k)).map (·.2)
def But(c:Addr)(H H':Hp):Prop:=∀ b o,H b=some o→b≠c→H' b=some o
theorem But.seq{K:PySem.W.Frag}{c a:Addr}{H H':Hp}{xs:List V}{kvs:List (List Key×V)}(hc:H c=some (.dT kvs))(e:But c H H')(h:SqL K H a xs):SqL K H' a xs:=by
 rcases h with (h | ⟨o,h⟩) | h
 ·exact .inl (.inl (e _ _ h (bI9 h hc (by intro z; cases z))))
 ·exact .inl (.inr ⟨o,e _ _ h (bI9 h hc (by intro z; cases z))⟩)
 ·exact .inr h
end Gd
namespace L2
open PySem PySem.Spec PyProof.Rows
theorem aA0{κ β:Type}[DecidableEq κ]{k:κ}:∀ {xs:List (κ×β)},k∉xs.map (·.1)→(xs.filter fun x=>decide (x.1≠k))=xs
 |[],_=>rfl
 | x :: r,h=>by
   rw[Aa2,List.mem_cons,not_or] at h;rw[Af5,Aa6 (by simpa using Ai1 h.1),aA0 h.2]
theorem av1{κ β:Type}[DecidableEq κ]{k:κ}:∀ {xs:List (κ×β)} {j:Nat} {p:β},(xs.map (·.1)).Nodup→xs[j]?=some (k,p)→xs.eraseIdx j=xs.filter fun x=>decide (x.1≠k)
 |[],j,p,_,h=>by simp at h
 | x :: r,0,p,hn,h=>by
   simp at h;subst h;rw[Aa2,An3] at hn;rw[Af5,Aa3 (by simp),aA0 hn.1];rfl
 | x :: r,j + 1,p,hn,h=>by
   rw[Aa2,An3] at hn;have h':r[j]?=some (k,p):=by simpa using h
   have:x.1≠k:=fun z=>hn.1 (by rw[z]; exact List.mem_map.mpr ⟨(k,p),Ah9 h',rfl⟩)
   rw[Af5,Aa6 (by simpa using this),Ad7,av1 hn.2 h']
theorem aM8{α β:Type}{f:α→β}:∀ {l:List α} {j:Nat},(l.map f).eraseIdx j=(l.eraseIdx j).map f
 |[],_=>rfl
 |_ :: _,0=>rfl
 |x :: r,j + 1=>by rw[Aa2,Ad7,Ad7,Aa2,aM8]
theorem KT.drop{H:Hp}{kvs:List (List Key×V)}{xs:List (List Key×Addr×Value)}(r:KT H kvs xs)(k:List Key):KT H (aq5 kvs k) (xs.filter fun x=>decide (x.1≠k)):=by
 induction r with
 |nil=>exact .nil
 |@cons p q ps qs h t ih=>
   unfold aq5 at ih ⊢;rw[List.filter_cons,List.filter_cons];by_cases e:p.1=k
   ·rw[Aa3 (by simp[e]),Aa3 (by simp[h.1.symm.trans e])];exact ih
   ·rw[Aa6 (by simpa using e),Aa6 (by simpa using fun z=>e (h.1.trans z))];exact .cons h ih
section
variable{X:Cx}{pins:List (Addr×Obj)}{σ:St}{H:Hp}{s:Shared}{a b:Addr}{kvs:List (List Key×V)}{k:List Key}{v:V}{A:Around}{E:Value→Shared→Prop}
theorem cI4{Q:Value→Shared→Prop}(hu:A.units + 1 < cLine)(I:Inv X pins σ H s)(e:H a=some (.dT kvs))(eb:H b=some (.tup (k.map kV)))(l:valV kvs k=some v)
 (h:∀ w' s',Inv X pins σ (upd H a (.dT (aq5 kvs k))) s'→RelV v w'→Q w' s'):wpAny (model X.prog X.w) A (call (.builtin "dict.pop") [.ref a,.ref b]) Q E s:=by
 obtain⟨z,hd,xs,rel,dd⟩:=cH9 I.hok e;have hz:xs.length≤sizeLine:=by rw[← Ai7 rel]; exact z
 have hkey:=ap2 I.hok eb;have hroom:=tupleKind_room_in1 (knd:=ab6 X.prog X.w) hu;have hT:=dd.typeIs;obtain⟨o,es,ep,ho,hc,hdt,he,his,hn⟩:=dd;obtain⟨w',hw,rw'⟩:=RelO.some_of (v:=v) (o:=(atKey xs k).map (·.2)) (by rw[← l]; exact rel.val k);have hes:es.size=xs.length:=size_of_entries he;refine wpAny_call_entry PySem.F.slot_dict_pop hT PySem.F.entry_dict_pop ?_ (PySem.F.args_dict_pop_2 _ _);unfold Builtin.«dict.pop»;refine wpAny_bind ?_;unfold Builtin.Dict.keyAndDefault;refine wpAny_bind (wpAny_notOrdered_dict hT ?_);show wpAny _ _ (pure (a,Value.ref b,none)) _ _ s;refine wpAny_pure ?_;dsimp only;rw[if_neg (by simp[keyPart])];refine wpAny_bind (wpAny_dictEntries ho hdt ?_);refine wpAny_bind (wpAny_pure ?_)
 have hne:es.isEmpty=false:=by
  cases q:es.isEmpty with
  |false=>rfl
  |true=>
    have:xs=[]:=by
     have e1:es.size=0:=by simpa using q
     exact List.length_eq_zero_iff.mp (by omega)
    subst this;cases hw
 rw[hne,if_neg Bool.false_ne_true];refine wpAny_bind ?_;unfold Builtin.Dict.takeOut
 try with_reducible refine Af2 ?_
 refine Aa0 ((tupleKind (ab6 X.prog X.w)).pyHash hroom hkey ?_);refine Aa0 (wpAny_dictFind_heap (knd:=tupleKind (ab6 X.prog X.w)) (s:={ s with toks:=s.toks + (tupleKind (ab6 X.prog X.w)).draws k }) hroom hkey ho hdt he his hn ?_ ?_)
 ·intro hno;rw[atKey_none_of_get hno] at hw;cases hw
 · intro j p hj;have hp:atKey xs k=some p:=atKey_of_get hn hj;rw[hp] at hw;have hw':p.2=w':=Ac1 hw;refine Aa0 (Ak6 (s:={ s with toks:=s.toks + (tupleKind (ab6 X.prog X.w)).draws k }) ho hdt ?_);rw[entry_at he j,hj];refine Aa0 (wpAny_updateDictKeys (hz:=by omega) (s:={ s with toks:=s.toks + (tupleKind (ab6 X.prog X.w)).draws k }) ho hdt (Aa9 ?_));rw[Aa3 (by simp)];refine Aa0 (Ag1 (Aa9 ⟨_,rfl,?_⟩));show Q p.2 _;rw[hw'];refine h w' _ ?_ rw';have hs:=An1 s.heap a (Obj.mapDictKeys fun es=>es.eraseIdxIfInBounds j);refine aJ0 (s:=s) (t':=s.toks + (tupleKind (ab6 X.prog X.w)).draws k) I (by rw[e]; exact True.intro) hs ⟨_,Ac3 _ ho (Al2 (Ag9 hdt _))⟩ ⟨Ae3 (be1 kvs k) z,hd,_,(rel.drop k).keeps fun c ys ec=>?_,_,_,ep + 1,Ac3 _ ho (Al2 (Ag9 hdt _)),hc.mapDictKeys _,Ag9 hdt _,?_,?_⟩
   ·rw[ab0 (bI9 ec e (fun z=>nomatch z))];exact ec
   ·rw[← av1 hn hj];obtain⟨el⟩:=es;have he':el=xs.map (entryOfKey (tupleKind (ab6 X.prog X.w))):=he;rw[Al9];show el.eraseIdx j=_;rw[he'];exact aM8
   ·exact(hn.sublist ((List.filter_sublist).map _))
end
def bO3(td ty:TE):TE:=fun σ H Q=>td σ H fun x H1=>∃ a,x= .ref a∧IsD H1 a∧ty σ H1 fun y H2=>∃ kvs k b v,H2 a=some (.dT kvs)∧y= .ref b∧H2 b=some (.tup (k.map kV))∧valV kvs k=some v∧Q v (upd H2 a (.dT (aq5 kvs k)))
theorem bH7{X:Cx}{o e:Expr}{apos cpos:Pos}{td ty:TE}(hu:X.A.units + 1 < cLine)(ho:PE X o td)(he:PE X e ty)(m:M1 X o "pop" apos e cpos):PE X (.Call (.Attribute o "pop" apos) [e] [] cpos) (bO3 td ty):=by
 intro pins s σ H Q I h;refine Al8 m.base m.few m.line Ad0 Aj9 Aq7 (thn (ho pins s σ H _ I h) fun u s1 ⟨x,H1,I1,rx,a,ex,d,q1⟩=>?_);subst ex;obtain rfl:u=Value.ref a:=rx;obtain⟨t1,t2,_⟩:=aN8 I1 d;refine⟨t1,t2,?_⟩;rw[m.trees];refine Af9 rfl (Ai0 (Af3 (thn (he pins s1 σ H1 _ I1 q1) fun iv s2 ⟨y,H2,I2,ry,kvs,k,b,v,ea,ey,eb,l,q2⟩=>Ai2 ?_)));subst ey;obtain rfl:iv=Value.ref b:=ry;exact cI4 hu I2 ea eb l fun w' s3 I3 rw'=>⟨v,_,I3,rw',q2⟩
theorem aD7:∀ {bs:List Bool} {us:List Value} {i:Nat} {u:Value},Vals (bs.map V.bl) us→us[i]?=some u→u= .bool (bs.getD i false)
 | [],us,i,u,r,e=>by
   cases r;cases e
 | b :: bs,us,i,u,r,e=>by
   rw[Aa2] at r;cases r with
   |cons r1 r2=>
     cases i with
     |zero=>
       cases e;exact r1
     |succ i=>
       show u= .bool (bs.getD i false);exact aD7 (bs:=bs) (i:=i) r2 (by simpa using e)
theorem aC8(bs:List Bool):((List.range bs.length).any fun i=>bs.getD i false)=bs.any id:=by
 induction bs with
 |nil=>rfl
 |cons b bs ih=>
   rw[Ab2,List.range_succ_eq_map,Ak4,List.any_map,Ak4,← ih];rfl
theorem bC1{X:Cx}(hc:X.calm=true):CallR X (.builtin "any") (fun xs H Q=>∃ p,∃ bs:List Bool,xs=[.ref p]∧SqL X.K H p (bs.map V.bl)∧Q (.bl (bs.any id)) H):=by
 intro pins s σ H xs us Q I r h;obtain⟨p,bs,rfl,hq,q⟩:=h;obtain⟨u,rfl,ru⟩:=Vals.one r;have ru':u=Value.ref p:=ru;subst ru';obtain⟨its,rv,pl,hz⟩:=I.list hq;have ln:bs.length=its.length:=by rw[← rv.length,Aa7]
 obtain⟨ol,hol,hcl,hdl⟩:=id pl.isList;have hlt:p < s.heap.objs.size:=Ab3 hol;refine call_any_walk (Ak3 pl.isList ⟨s.heap.objs.size,_,_,_,_,_,fun i=>bs.getD i false,rfl,Walks.list (A:=X.A.in1) (I.ok.hd hc) _ p (Ac5 hlt) its.toArray,⟨⟨_,Ab8 _ rfl,rfl,rfl⟩,⟨ol,Aa1 _ hol,hcl,hdl⟩⟩,fun i v s' Q' E' hP hQ=>?_,fun h' tk kp=>?_⟩)
 ·have e:=aD7 rv (i:=i) (u:=v) (by simpa using hP);rw[e];exact Ae7 hQ
 · have e:((List.range its.toArray.size).any fun i=>bs.getD i false)=bs.any id:=by
    rw[Ab5,← ln]; exact aC8 bs
   rw[e];refine⟨.bl _,H,I.kept fun b o q=>kp b o (fun z=>?_) (Aa1 _ q),rfl,q⟩;have z':b=s.heap.objs.size:=by simpa using z
   exact absurd (Ab3 q) (by rw[z']; exact Ad1 _)
section
variable{prog:Program}{w:World}{A:Around}{R:Result→Shared→Prop}{I:Addr}{fp wr:List Addr}{n:Nat}{P:Nat→Value→Prop}{St:Nat→Heap→Prop}
theorem aP3(W:Walks prog w A.in1 I fp wr n P St)(kw:List (Str×Value))(bt:Nat→Nat→Bool)(S:Addr)(nS:S∉fp)(G:Shared→Prop)
 (hG:∀ (s:Shared) h' tk,G s→(∀ b o,b∉wr→b≠S→s.heap.get? b=some o→h'.get? b=some o)→G { s with heap:=h',toks:=tk })
 (cmp:∀ i j vi vj (s:Shared) (Q:Value→Shared→Prop) (E:Value→Shared→Prop),G s→P i vi→P j vj→Q (.bool (bt i j)) s→wpAny (model prog w) A.in1 (richCompare .Lt vi vj) Q E s):∀ (k j:Nat) (s:Shared) (vb:Value) (c:Nat),
 n - (j + 1)=k→j + 1≤n→G s→St (j + 1) s.heap→P (argBest bt j) vb→s.heap.get? S=some { cls:= .type "list",dict:=none,data:= .seq #[vb,vb] c,slots:=#[] }→
 (∀ v h' tk,P (argBest bt (n - 1)) v→(∀ b o,b∉wr→b≠S→s.heap.get? b=some o→h'.get? b=some o)→R (.ok (.ret v)) { s with heap:=h',toks:=tk })→
 codeAny (model prog w) A (.builtin "min.loop" ⟨[.ref I,.none,.ref S],kw⟩) R s:=by
 have nW:S∉wr:=fun z=>nS (W.sub _ z);have nm:(toString "min" ++ toString ".loop" : String) = "min.loop" := by decide
 intro k
 induction k with
 |zero=>
   intro j s vb c e1 e2 g st pb oS fin;refine Ae6 Ag0 ?_;rw[Ac8 Ac0 _];refine Aa0 (m:=seqItems? (.ref S)) (Ah1 oS rfl ?_);refine Aa0 (m:=tryCatch (pyNext (.ref I)) _) (Ad4 (W.done s _ _ ((show j + 1=n by omega) ▸ st) fun h' tk kp=>?_));refine Aa0 (m:=updateSeq S (fun _=>#[])) ?_;refine Ag7 (kp S _ nW oS) rfl (Aa0 (Ag1 (Aa9 ?_)));exact fin vb _ tk (by rw[show n - 1=j by omega]; exact pb) fun b o hw hS e=>(Ab4 _ _ (Ai1 hS)).trans (kp b o hw e)
 |succ k ih=>
   intro j s vb c e1 e2 g st pb oS fin;have lt:j + 1 < n:=by omega
   refine Ae6 Ag0 ?_;rw[Ac8 Ac0 _];refine Aa0 (m:=seqItems? (.ref S)) (Ah1 oS rfl ?_);refine Aa0 (m:=tryCatch (pyNext (.ref I)) _) (Ad4 (W.item (j + 1) s _ _ lt st fun v h' tk pv st' kp=>?_));have oS':=kp S _ nW oS;have g':G { s with heap:=h',toks:=tk }:=hG s h' tk g fun b o hw _ e=>kp b o hw e;refine Aa0 (m:=tryCatch (holding [v,v] (richCompare .Lt v vb >>= _)) _) (Ad4 (Af2 (Aa0 (cmp (j + 1) (argBest bt j) v vb _ _ _ g' pv pb ?_))));refine Aa0 (Af2 (Ae7 (Aa0 (Ag1 (Aa9 ?_)))));cases eb:bt (j + 1) (argBest bt j) with
   |true=>
     rw[Aa6 rfl];refine Aa0 ?_;refine Ag7 oS' rfl (Aa0 (Ag1 ?_));rw[nm];refine Aa9 ⟨Ae2 Ac0 _,ih (j + 1) _ v _ (by omega) lt (hG _ _ tk g' fun b o hw hS e=>(Ab4 _ _ (Ai1 hS)).trans e) (W.frame _ _ _ st' fun b hb o e=>?_) (by simp only[argBest,eb,Ag6]; exact pv) (Ac3 _ oS' rfl) fun v' h'' tk'' pv' kp''=>?_⟩
     ·exact(Ab4 _ _ (fun z:S=b=>nS (by rw[z]; exact hb))).trans e
     ·exact fin v' h'' tk'' pv' fun b o hw hS e=>kp'' b o hw hS ((Ab4 _ _ (Ai1 hS)).trans (kp b o hw e))
   |false=>
     rw[Aa3 Ab1];refine Aa0 (Ag1 ?_);rw[nm];exact Aa9 ⟨Ae2 Ac0 _,ih (j + 1) _ vb c (by omega) lt g' st' (by simp only[argBest,eb,Aj7,Am4]; exact pb) oS' fun v' h'' tk'' pv' kp''=>fin v' h'' tk'' pv' fun b o hw hS e=>kp'' b o hw hS (kp b o hw e)⟩
end
section
variable{prog:Program}{w:World}{A:Around}{E:Value→Shared→Prop}{s:Shared}
theorem bk1{x d:Value}{Q:Value→Shared→Prop}
 (h:wpAny (model prog w) A.in1 (pyIter x) (fun it s₂=>∃ I fp wr n P St bt,∃ G:Shared→Prop,it= .ref I∧Walks prog w A.in1 I fp wr n P St∧St 0 s₂.heap∧(∀ b∈fp,b < s₂.heap.objs.size)∧
   G s₂∧(∀ (s:Shared) h' tk,G s→(∀ b o,b∉wr→b≠s₂.heap.objs.size→s.heap.get? b=some o→h'.get? b=some o)→G { s with heap:=h',toks:=tk })∧
   (∀ i j vi vj (s:Shared) (Q:Value→Shared→Prop) (E:Value→Shared→Prop),G s→P i vi→P j vj→Q (.bool (bt i j)) s→wpAny (model prog w) A.in1 (richCompare .Lt vi vj) Q E s)∧
   (n=0→∀ h' tk,(∀ b o,b∉wr→s₂.heap.get? b=some o→h'.get? b=some o)→Q d { s₂ with heap:=h',toks:=tk })∧
   (0 < n→∀ v h' tk,P (argBest bt (n - 1)) v→(∀ b o,b∉wr→s₂.heap.get? b=some o→h'.get? b=some o)→Q v { s₂ with heap:=h',toks:=tk })) E s):
 wpAny (model prog w) A (call (.builtin "min") [x] [(Str.ofString "default",d)]) Q E s:=by
 have nm:(toString "min" ++ toString ".loop" : String) = "min.loop" := by decide
 refine kmk_tree PySem.F.kind_min PySem.F.plain_min PySem.F.entry_min (aQ6 _ _) ?_;refine Aa0 (m:=Builtin.Builtins.bindParams "min" ["key", "default"] 0 ⟨[],[(Str.ofString "default",d)]⟩) (As7 (show _=pure [none,some d] from rfl) ?_);refine Aa0 (Aa9 (Aa0 (Al3 h (fun it s₂ h₂=>?_) fun _ _ e=>e)));obtain⟨I,fp,wr,n,P,St,bt,G,rfl,W,st,lts,g0,hG,cmp,q0,q1⟩:=h₂;refine Aa0 (Ak5 ?_);have nS:s₂.heap.objs.size∉fp:=fun z=>Ad1 _ (lts _ z);have nW:s₂.heap.objs.size∉wr:=fun z=>nS (W.sub _ z);rw[nm];have st1:=W.frame _ _ (s₂.heap.push { cls:= .type "list",dict:=none,data:= .seq ([]:List Value).toArray }) st fun b _ o e=>Aa1 _ e;have oS:(s₂.heap.push { cls:= .type "list",dict:=none,data:= .seq ([]:List Value).toArray }).get? s₂.heap.objs.size=some { cls:= .type "list",dict:=none,data:= .seq ([]:List Value).toArray }:=Ab8 _ rfl;refine Aa9 ⟨Ae2 Ac0 _,Ae6 Ag0 ?_⟩;rw[Ac8 Ac0 _];refine Aa0 (m:=seqItems? (.ref s₂.heap.objs.size)) (Ah1 oS rfl ?_);by_cases hn:n=0
 ·refine Aa0 (m:=tryCatch (pyNext (.ref I)) _) (Ad4 (W.done _ _ _ (hn ▸ st1) fun h' tk kp=>?_));refine Aa0 (m:=rule _) (wpAny_rule (Aa9 ?_));exact q0 hn h' tk fun b o hw e=>kp b o hw (Aa1 _ e)
 · have lt:0 < n:=An6 hn;refine Aa0 (m:=tryCatch (pyNext (.ref I)) _) (Ad4 (W.item 0 _ _ _ lt st1 fun v h' tk pv st' kp=>?_));have oS':=kp _ _ nW oS;refine Aa0 (m:=updateSeq s₂.heap.objs.size (fun _=>#[v,v])) ?_;refine Ag7 oS' rfl ?_;rw[nm];refine Aa9 ⟨Ae2 Ac0 _,aP3 W _ bt _ nS G hG cmp _ 0 _ v _ rfl lt (hG s₂ _ _ g0 fun b o hw hS e=>(Ab4 _ _ (Ai1 hS)).trans (kp b o hw (Aa1 _ e))) (W.frame _ _ _ st' fun b hb o e=>?_) pv (Ac3 _ oS' rfl) fun v' h'' tk'' pv' kp''=>?_⟩
   ·exact(Ab4 _ _ (fun z:s₂.heap.objs.size=b=>nS (by rw[z]; exact hb))).trans e
   ·exact q1 lt v' h'' tk'' pv' fun b o hw e=>kp'' b o hw (Ac5 (Ab3 e)) ((Ab4 _ _ (Aq3 (Ab3 e))).trans (kp b o hw (Aa1 _ e)))
end
def KeyV(K:PySem.W.Frag)(H:Hp)(v:V)(k:Int×Int×List Int):Prop:=∃ p l,v= .ref p∧SqT K H p [.int k.1,.int k.2.1,.ref l]∧SqL K H l (k.2.2.map V.int)
def ag8(a b:Int×Int×List Int):Bool:=HT.bi7 a.1 a.2.1 a.2.2 b.1 b.2.1 b.2.2
theorem aG0:∀ {vs:List V} {us:List Value} {i:Nat} {u:Value},Vals vs us→us[i]?=some u→∃ v,vs[i]?=some v∧RelV v u
 |[],us,i,u,r,e=>by cases r; cases e
 | v :: vs,us,i,u,r,e=>by
   cases r with
   |cons r1 r2=>
     cases i with
     |zero=>cases e; exact⟨v,rfl,r1⟩
     |succ i=>exact aG0 (i:=i) r2 (by simpa using e)
theorem au7(bt:Nat→Nat→Bool):∀ k,argBest bt k≤k
 |0=>Ab7 _
 | k + 1=>by
   unfold argBest;split
   ·exact Ab7 _
   ·exact Nat.le_succ_of_le (au7 bt k)
theorem bj8{X:Cx}(hc:X.calm=true)(hu:X.A.units + 101 < cLine):aC5 X (.builtin "min") ["default"] (fun xs zs H Q=>∃ p vs d,∃ ks:List (Int×Int×List Int),xs=[.ref p]∧zs=[d]∧SqL X.K H p vs∧vs.length=ks.length∧(∀ i v,vs[i]?=some v→KeyV X.K H v (ks.getD i (0,0,[])))∧
 (vs=[]→Q d H)∧∀ v,vs[argBest (fun i j=>ag8 (ks.getD i (0,0,[])) (ks.getD j (0,0,[]))) (vs.length - 1)]?=some v→Q v H):=by
 intro pins s σ H xs zs us ws Q I r rz h;obtain⟨p,vs,d,ks,rfl,rfl,hq,hlen,hk,q0,q1⟩:=h;obtain⟨u,rfl,ru⟩:=Vals.one r;have ru':u=Value.ref p:=ru;subst ru';obtain⟨dv,rfl,rd⟩:=Vals.one rz;obtain⟨its,rv,pl,hz⟩:=I.list hq;have ln:vs.length=its.length:=rv.length;obtain⟨ol,hol,hcl,hdl⟩:=id pl.isList;have hlt:p < s.heap.objs.size:=Ab3 hol;refine bk1 (Ak3 pl.isList ⟨s.heap.objs.size,_,_,_,_,_,fun i j=>ag8 (ks.getD i (0,0,[])) (ks.getD j (0,0,[])),fun s'=>∃ h' tk,s'={ s with heap:=h',toks:=tk }∧∀ b o,s.heap.get? b=some o→h'.get? b=some o,rfl,Walks.list (A:=X.A.in1) (I.ok.hd hc) _ p (Ac5 hlt) its.toArray,⟨⟨_,Ab8 _ rfl,rfl,rfl⟩,⟨ol,Aa1 _ hol,hcl,hdl⟩⟩,fun b hb=>?_,?_,?_,?_,fun e h' tk kp=>?_,fun e v h' tk pv kp=>?_⟩)
 · rw[Aj4];rcases List.mem_cons.mp hb with z | z
   ·rw[z]; exact Aj2 _
   · have z':b=p:=by simpa using z
     rw[z']; exact Am0 hlt
 ·exact⟨_,_,rfl,fun b o e=>Aa1 _ e⟩
 · rintro s' h' tk ⟨h1,t1,rfl,k1⟩ kp;refine⟨h',tk,rfl,fun b o e=>kp b o (fun z=>?_) (fun z=>?_) (k1 b o e)⟩
   · have z':b=s.heap.objs.size:=by simpa using z
     exact absurd (Ab3 e) (by rw[z']; exact Ad1 _)
   · have z':b=s.heap.objs.size + 1:=by rw[z,Aj4]
     exact absurd (Ab3 e) (by rw[z']; exact Nat.not_lt.mpr (Nat.le_succ _))
 ·rintro i j vi vj s' Q' E' ⟨h1,t1,rfl,k1⟩ pi pj hq';have I1:Inv X pins σ H { s with heap:=h1,toks:=t1 }:=I.kept k1;obtain⟨v1,e1,r1⟩:=aG0 rv (i:=i) (u:=vi) (by simpa using pi);obtain⟨v2,e2,r2⟩:=aG0 rv (i:=j) (u:=vj) (by simpa using pj);obtain⟨p1,l1,rfl,a1,b1⟩:=hk i v1 e1;obtain⟨p2,l2,rfl,a2,b2⟩:=hk j v2 e2;obtain rfl:vi=Value.ref p1:=r1;obtain rfl:vj=Value.ref p2:=r2;exact cF7 (A:=X.A.in1) (by show X.A.units + 1 + 100 < cLine; omega) I1 a1 a2 b1 b2 X.prog X.w E' Q' hq'
 · have en:vs=[]:=List.length_eq_zero_iff.mp (by rw[ln]; simpa using e);refine⟨d,H,I.kept fun b o q=>kp b o (fun z=>?_) (Aa1 _ q),rd,q0 en⟩;have z':b=s.heap.objs.size:=by simpa using z
   exact absurd (Ab3 q) (by rw[z']; exact Ad1 _)
 · rw[show its.toArray.size - 1=vs.length - 1 by rw[Ab5,ln],Am2] at pv;obtain⟨v1,e1,r1⟩:=aG0 rv pv;refine⟨v1,H,I.kept fun b o q=>kp b o (fun z=>?_) (Aa1 _ q),r1,q1 _ e1⟩;have z':b=s.heap.objs.size:=by simpa using z
   exact absurd (Ab3 q) (by rw[z']; exact Ad1 _)
end L2
namespace Mi
open PySem L2
inductive D where
 |non | bl (b:Bool) | int (i:Int) | str (x:Str) | ty (n:String)
 |lst (xs:List D) | tup (xs:List D) | scr (xs:List D)
 |dK (ks:List Key) (vs:List D) | dT (ks:List (List Key)) (vs:List D)
 |obj (c:Nat) (ns:List Str) (vs:List D)
abbrev Env:=List (Option D)
inductive Res (α:Type) where
 |ok (a:α) | exc (c:Nat) | bad
inductive Out (α:Type) where
 |ok (a:α) (ρ:Env) | exc (c:Nat) (ρ:Env) | bad
inductive SO where
 |nx (ρ:Env) | rt (d:D) (ρ:Env) | bk (ρ:Env) | ct (ρ:Env) | exc (c:Nat) (ρ:Env) | bad
@[simp] def Res.bind{α β:Type}:Res α→(α→Res β)→Res β
 |.ok a,f=>f a
 |.exc c,_=> .exc c
 |.bad,_=> .bad
@[simp] def Res.calm{α:Type}:Res α→Res α
 |.ok a=> .ok a
 |_=> .bad
@[simp] def Out.bind{α β:Type}:Out α→(α→Env→Out β)→Out β
 |.ok a ρ,f=>f a ρ
 |.exc c ρ,_=> .exc c ρ
 |.bad,_=> .bad
@[simp] def Res.up{α:Type}(ρ:Env):Res α→Out α
 |.ok a=> .ok a ρ
 |.exc c=> .exc c ρ
 |.bad=> .bad
def rg{α:Type}(l:List (Option α))(i:Nat):Option α:=(l[i]?).join
@[simp] def vr(i:Nat):Env→Res D:=fun ρ=>match rg ρ i with | some d=> .ok d | none=> .bad
def cst(d:D):Env→Res D:=fun _=> .ok d
def un(f:D→Res D)(a:Env→Res D):Env→Res D:=fun ρ=>(a ρ).bind f
def bn(f:D→D→Res D)(a b:Env→Res D):Env→Res D:=fun ρ=>(a ρ).bind fun x=>(b ρ).bind fun y=>f x y
def aa6:Nat:=1000000
def iI(g:Int→Int→Int):D→D→Res D | .int i,.int j=> .ok (.int (g i j)) | _,_=> .bad
def iB(g:Int→Int→Bool):D→D→Res D | .int i,.int j=> .ok (.bl (g i j)) | _,_=> .bad
def iC(C:Int→Int→Bool)(g:Int→Int→Int):D→D→Res D | .int i,.int j=>if C i j=true then .ok (.int (g i j)) else .bad | _,_=> .bad
def addI:=iI fun i j=>i + j
def mulI:=iC (fun i j=>decide ((-(2 ^ 64) < i∧i < 2 ^ 64)∨(-(2 ^ 64) < j∧j < 2 ^ 64))) fun i j=>i * j
def bj3:=iC (fun _ j=>decide (0 < j∧j < 1073741824)) fun i j=>i / j
def modI:=iC (fun _ j=>decide (0 < j)) fun i j=>i % j
def powI:=iC (fun i j=>decide (0≤j∧j≤1000000∧i.natAbs < 2 ^ 64)) fun i j=>i ^ j.toNat
def ltI:=iB fun i j=>decide (i < j)
def gtI:=iB fun i j=>decide (j < i)
def geI:=iB fun i j=>decide (j≤i)
@[simp] theorem addI_int(i j:Int):addI (.int i) (.int j)= .ok (.int (i + j)):=rfl
@[simp] theorem bJ0(i j:Int):mulI (.int i) (.int j)=if (-(2 ^ 64) < i∧i < 2 ^ 64)∨(-(2 ^ 64) < j∧j < 2 ^ 64) then .ok (.int (i * j)) else .bad:=by simp[mulI,iC]
@[simp] theorem bv0(i j:Int):bj3 (.int i) (.int j)=if 0 < j∧j < 1073741824 then .ok (.int (i / j)) else .bad:=by simp[bj3,iC]
@[simp] theorem bJ2(i j:Int):modI (.int i) (.int j)=if 0 < j then .ok (.int (i % j)) else .bad:=by simp[modI,iC]
@[simp] theorem bH5(i j:Int):powI (.int i) (.int j)=if 0≤j∧j≤1000000∧i.natAbs < 2 ^ 64 then .ok (.int (i ^ j.toNat)) else .bad:=by simp[powI,iC]
@[simp] theorem ltI_int(i j:Int):ltI (.int i) (.int j)= .ok (.bl (decide (i < j))):=rfl
@[simp] theorem gtI_int(i j:Int):gtI (.int i) (.int j)= .ok (.bl (decide (j < i))):=rfl
@[simp] theorem geI_int(i j:Int):geI (.int i) (.int j)= .ok (.bl (decide (j≤i))):=rfl
def negI:D→Res D | .int i=> .ok (.int (-i)) | _=> .bad
def notB:D→Res D | .bl b=> .ok (.bl (!b)) | _=> .bad
def eqS(neg:Bool):D→D→Res D
 |.int i,.int j=> .ok (.bl (neg.xor (decide (i=j))))
 |.str i,.str j=> .ok (.bl (neg.xor (decide (i=j))))
 |.bl i,.bl j=> .ok (.bl (neg.xor (decide (i=j))))
 |.non,.int _=> .ok (.bl neg)
 |.int _,.non=> .ok (.bl neg)
 |.non,.non=> .ok (.bl (!neg))
 |_,_=> .bad
def aU3:D→Bool | .non=>true | _=>false
def lenD:D→Res D
 |.lst xs=> .ok (.int xs.length)
 |.tup xs=> .ok (.int xs.length)
 |.scr xs=> .ok (.int xs.length)
 |_=> .bad
def atD(xs:List D)(i:Int):Res D:=match atI xs i with | some d=> .ok d | none=> .bad
def ixL:D→D→Res D | .lst xs,.int i=>atD xs i | .scr xs,.int i=>atD xs i | _,_=> .bad
def ixT:D→D→Res D | .tup xs,.int i=>atD xs i | _,_=> .bad
def catL:D→D→Res D | .lst xs,.lst ys=>if xs.length + ys.length≤aa6 then .ok (.lst (xs ++ ys)) else .bad | _,_=> .bad
def bc6:D→Res D | .lst xs=> .ok (.lst xs) | .scr xs=> .ok (.lst xs) | .tup xs=> .ok (.lst xs) | _=> .bad
def ai6:D→Option Key | .int i=>some (.inl i) | .str x=>some (.inr x) | _=>none
def ai4:List D→Option (List Key)
 |[]=>some []
 |d :: r=>match ai6 d,ai4 r with | some k,some ks=>some (k :: ks) | _,_=>none
section
variable{κ:Type}[DecidableEq κ]
def ae6:List κ→List D→κ→Option D
 |k :: ks,d :: ds,j=>if k=j then some d else ae6 ks ds j
 |_,_,_=>none
def hasK(ks:List κ)(j:κ):Bool:=ks.any fun k=>decide (k=j)
def putV:List κ→List D→κ→D→List D
 |k :: ks,d :: ds,j,x=>(if k=j then x else d) :: putV ks ds j x
 |_,_,_,_=>[]
def al0:List κ→List D→κ→D→List D
 |k :: ks,d :: ds,j,x=>if k=j then x :: ds else d :: al0 ks ds j x
 |_,_,_,_=>[]
end
def aD2:D→D→Option (Option D)
 |.dT ks vs,.tup k=>(ai4 k).map fun k=>ae6 ks vs k
 |.dK ks vs,k=>(ai6 k).map fun k=>ae6 ks vs k
 |_,_=>none
def bj5(d k:D):Res D:=match aD2 d k with | some (some x)=> .ok x | _=> .bad
def dinD(neg:Bool)(k d:D):Res D:=match aD2 d k with | some x=> .ok (.bl (neg.xor x.isSome)) | none=> .bad
def ap3(d k x:D):Res D:=match aD2 d k with | some (some y)=> .ok y | some none=> .ok x | none=> .bad
def bj4:D→D→D→Option D
 |.dT ks vs,.tup k,x=>(ai4 k).bind fun k=>if ks.length < aa6 then some (if hasK ks k=true then .dT ks (putV ks vs k x) else .dT (ks ++ [k]) (vs ++ [x])) else none
 |.dK ks vs,k,x=>(ai6 k).bind fun k=>if ks.length < aa6 then some (if hasK ks k=true then .dK ks (putV ks vs k x) else .dK (ks ++ [k]) (vs ++ [x])) else none
 |_,_,_=>none
def fldD(c:Nat)(f:Str):D→Res D
 |.obj c' ns vs=>if c'=c then (match ae6 ns vs f with | some x=> .ok x | none=> .bad) else .bad
 |_=> .bad
def aM3(c₀:Nat)(f:Str)(x:D):D→Option D
 |.obj c ns vs=>if c=c₀∧ns.length < 900 then some (if hasK ns f=true then .obj c ns (al0 ns vs f x) else .obj c (ns ++ [f]) (vs ++ [x])) else none
 |_=>none
def truB:D→Res Bool | .bl b=> .ok b | _=> .bad
def andD(a b:Env→Res D):Env→Res D:=fun ρ=>((a ρ).bind truB).bind fun c=>if c=true then b ρ else .ok (.bl false)
def esN:Env→Res (List D):=fun _=> .ok []
def esC(a:Env→Res D)(r:Env→Res (List D)):Env→Res (List D):=fun ρ=>(a ρ).bind fun x=>(r ρ).bind fun xs=> .ok (x :: xs)
def mkL(r:Env→Res (List D)):Env→Res D:=fun ρ=>(r ρ).bind fun xs=>if xs.length≤aa6 then .ok (.lst xs) else .bad
def mkT(r:Env→Res (List D)):Env→Res D:=fun ρ=>(r ρ).bind fun xs=>if xs.length≤aa6 then .ok (.tup xs) else .bad
def capD(ρ:Env)(ix:List Nat):Env:=ix.map fun j=>rg ρ j
def ad2(ti:Env→Res Bool)(te:Env→Res D)(cap:Env):List D→Res (List D)
 |[]=> .ok []
 |d :: r=>(ti (some d :: cap)).calm.bind fun c=>if c=true then (te (some d :: cap)).calm.bind fun x=>(ad2 ti te cap r).bind fun xs=> .ok (x :: xs) else ad2 ti te cap r
def comp(src:Env→Res (List D))(ix:List Nat)(ti:Env→Res Bool)(te:Env→Res D):Env→Res D:=fun ρ=>(src ρ).bind fun xs=>if xs.length < aa6 then (ad2 ti te (capD ρ ix) xs).bind fun ys=> .ok (.lst ys) else .bad
def srcL(a:Env→Res D):Env→Res (List D):=fun ρ=>(a ρ).bind fun d=>match d with | .lst xs=> .ok xs | .scr xs=> .ok xs | _=> .bad
def rng(lo hi:Int):List D:=(List.range (hi - lo).toNat).map fun i:Nat=>D.int (lo + i)
def srcR(a b:Env→Res D):Env→Res (List D):=fun ρ=>(a ρ).bind fun x=>(b ρ).bind fun y=>match x,y with
 |.int i,.int j=>if -(2 ^ 62)≤i∧i < 2 ^ 62∧-(2 ^ 62)≤j∧j < 2 ^ 62 then .ok (rng i j) else .bad
 |_,_=> .bad
def ax5(b:Env→Res D):Env→Res (List D):=srcR (cst (.int 0)) b
def seqS(a b:Env→SO):Env→SO:=fun ρ=>match a ρ with | .nx ρ'=>b ρ' | o=>o
def ai5:Env→SO:=fun ρ=> .nx ρ
def retN:Env→SO:=fun ρ=> .rt .non ρ
@[simp] def at4{α:Type}:Out α→(α→Env→SO)→SO
 |.ok a ρ,f=>f a ρ
 |.exc c ρ,_=> .exc c ρ
 |.bad,_=> .bad
abbrev MD:=Env→Out D
def liP{α:Type}(a:Env→Res α):Env→Out α:=fun ρ=>(a ρ).up ρ
def retS(a:MD):Env→SO:=fun ρ=>at4 (a ρ) fun d ρ'=> .rt d ρ'
def ag1(a:MD):Env→SO:=fun ρ=>at4 (a ρ) fun _ ρ'=> .nx ρ'
def setS(i:Nat)(a:MD):Env→SO:=fun ρ=>at4 (a ρ) fun d ρ'=> .nx (ρ'.set i (some d))
def ifS(c:Env→Out Bool)(a b:Env→SO):Env→SO:=fun ρ=>at4 (c ρ) fun t ρ'=>if t=true then a ρ' else b ρ'
def forS(tgt:D→Env→Option Env)(body:Env→SO):List D→Env→SO
 |[],ρ=> .nx ρ
 | d :: ds,ρ=>match tgt d ρ with
   |none=> .bad
   | some ρ1=>match body ρ1 with
     |.nx ρ'=>forS tgt body ds ρ'
     |.ct ρ'=>forS tgt body ds ρ'
     |.bk ρ'=> .nx ρ'
     |o=>o
def aT9(src:Env→Out (List D))(tgt:D→Env→Option Env)(body:Env→SO):Env→SO:=fun ρ=>at4 (src ρ) fun xs ρ'=>forS tgt body xs ρ'
def whS(c:Env→Out Bool)(body:Env→SO):Nat→Env→SO
 |0,_=> .bad
 | n + 1,ρ=>at4 (c ρ) fun t ρ1=>if t=true then (match body ρ1 with
    |.nx ρ'=>whS c body n ρ'
    |.ct ρ'=>whS c body n ρ'
    |.bk ρ'=> .nx ρ'
    |o=>o) else .nx ρ1
def tgN(i:Nat):D→Env→Option Env:=fun d ρ=>some (ρ.set i (some d))
def run(k:Nat)(body:Env→SO)(ds:List D):Out D:=match body (ds.map some ++ List.replicate (k - ds.length) none) with
 |.nx ρ=> .ok .non ρ
 |.rt d ρ=> .ok d ρ
 |.exc c ρ=> .exc c ρ
 |_=> .bad
structure Cm where
 f:Nat→Addr
 K:PySem.W.Frag
 tb:Tbs
instance:CoeFun Cm fun _=>Nat→Addr:=⟨Cm.f⟩
def SqF(K:PySem.W.Frag)(B:Hp)(a:Addr)(xs:List V):Prop:=(∃ o,B a=some (.frz o (.lst xs)))∨
 ∃ (o:Obj) (its:Array Value) (n:Nat),K.lookup a=some o∧o.cls= .type "list" ∧ o.dict=none∧o.data= .seq its n∧its.size≤sizeLine∧Vals xs its.toList
theorem SqF.mono{K:PySem.W.Frag}{B B':Hp}{a:Addr}{xs:List V}(h:SqF K B a xs)(e:Same B B'):SqF K B' a xs:=by
 rcases h with ⟨o,h⟩ | h
 ·exact .inl ⟨o,e _ _ h⟩
 ·exact .inr h
theorem SqF.sq{K:PySem.W.Frag}{H:Hp}{a:Addr}{xs:List V}(h:SqF K H a xs):SqL K H a xs:=by
 rcases h with ⟨o,h⟩ | h
 ·exact .inl (.inr ⟨o,h⟩)
 ·exact .inr h
theorem ay1{B B':Hp}{a:Addr}{u:HO}(e:Same B B')(h:Rd B a u):Rd B' a u:=by
 rcases h with h | ⟨o,h⟩
 ·exact .inl (e _ _ h)
 ·exact .inr ⟨o,e _ _ h⟩
section
variable(cm:Cm)
mutual
def Dn(B:Hp):D→V→Prop
 |.non,v=>v= .non
 |.bl b,v=>v= .bl b
 |.int i,v=>v= .int i
 |.str x,v=>v= .str x
 |.ty n,v=>v= .ty n
 |.lst ds,v=>∃ a xs,v= .ref a∧B a=some (.lst xs)∧Dns B ds xs
 |.scr ds,v=>∃ a xs,v= .ref a∧SqF cm.K B a xs∧Dns B ds xs
 |.tup ds,v=>∃ a xs,v= .ref a∧B a=some (.tup xs)∧Dns B ds xs
 |.dK ks ds,v=>∃ (a:Addr) (kvs:List (Key×V)),v= .ref a∧B a=some (.dK kvs)∧kvs.map (·.1)=ks∧Dns B ds (kvs.map (·.2))
 |.dT ks ds,v=>∃ (a:Addr) (kvs:List (List Key×V)),v= .ref a∧Rd B a (.dT kvs)∧kvs.map (·.1)=ks∧Dns B ds (kvs.map (·.2))
 |.obj c ns ds,v=>∃ (a dx:Addr) (fs:List (Str×V)),v= .ref a∧B a=some (.ins (cm c) dx fs)∧fs.map (·.1)=ns∧Dns B ds (fs.map (·.2))
def Dns(B:Hp):List D→List V→Prop
 |[],xs=>xs=[]
 |d :: ds,xs=>∃ x r,xs=x :: r∧Dn B d x∧Dns B ds r
end
inductive Sh where
 |fz | ct (s:Sh) | ob (fs:List (Str×Sh))
mutual
def Ow(B H:Hp):D→Sh→V→List Addr→Prop
 |d,.fz,v,A=>Dn cm B d v∧A=[]
 |.lst ds,.ct s,v,A=>∃ a xs A',v= .ref a∧H a=some (.lst xs)∧A=a :: A'∧Ows B H ds s xs A'
 |.dK ks ds,.ct s,v,A=>∃ (a:Addr) (kvs:List (Key×V)) (A':List Addr),v= .ref a∧H a=some (.dK kvs)∧kvs.map (·.1)=ks∧A=a :: A'∧Ows B H ds s (kvs.map (·.2)) A'
 |.dT ks ds,.ct s,v,A=>∃ (a:Addr) (kvs:List (List Key×V)) (A':List Addr),v= .ref a∧H a=some (.dT kvs)∧kvs.map (·.1)=ks∧A=a :: A'∧Ows B H ds s (kvs.map (·.2)) A'
 |.obj c ns ds,.ob fs,v,A=>∃ (a dx:Addr) (xs:List (Str×V)) (A':List Addr),v= .ref a∧H a=some (.ins (cm c) dx xs)∧xs.map (·.1)=ns∧A=a :: A'∧Owf B H ds ns fs (xs.map (·.2)) A'
 |_,_,_,_=>False
def Ows(B H:Hp):List D→Sh→List V→List Addr→Prop
 |[],_,xs,A=>xs=[]∧A=[]
 |d :: ds,s,xs,A=>∃ x r A1 A2,xs=x :: r∧A=A1 ++ A2∧Ow B H d s x A1∧Ows B H ds s r A2
def Owf(B H:Hp):List D→List Str→List (Str×Sh)→List V→List Addr→Prop
 |[],_,_,xs,A=>xs=[]∧A=[]
 |d :: ds,ns,fs,xs,A=>∃ n ns' x r A1 A2,ns=n :: ns'∧xs=x :: r∧A=A1 ++ A2∧Ow B H d ((fs.lookup n).getD .fz) x A1∧Owf B H ds ns' fs r A2
end
inductive Md where
 |F | R | O (s:Sh)
def LoV(B U H:Hp)(m:Md)(d:D)(v:V)(A:List Addr):Prop:=
 match m with
 |.F=>Dn cm B d v∧A=[]
 |.R=>Dn cm U d v∧A=[]
 |.O sh=>Ow cm B H d sh v A
def Lo(B U H:Hp)(m:Md)(o:Option D)(s:Option V)(A:List Addr):Prop:=
 match o with
 |none=>A=[]
 |some d=>∃ v,s=some v∧LoV cm B U H m d v A
structure Rel (ms:List Md) (B U:Hp) (As:Nat→List Addr) (σ:St) (H:Hp) (ρ:Env):Prop where
 bu:Same B U
 uh:Same U H
 nd:∀ i,(As i).Nodup
 dj:∀ i j a,i≠j→a∈As i→a∉As j
 un:∀ i a,a∈As i→U a=none
 lo:∀ i,Lo cm B U H (ms.getD i .F) (rg ρ i) (rg σ i) (As i)
 len:ρ.length=σ.length
 tb:∀ p∈cm.tb,∃ l,B p.1=some (.tbl l)∧p.2∈l
end
def aq3(o:HO):Prop:=∃ xs,o= .tup xs
structure Ex (B U B' U':Hp):Prop where
 b:Same B B'
 u:Same U U'
 nb:∀ a o,B' a=some o→B a=some o∨U a=none∨aq3 o
theorem Ex.refl(B U:Hp):Ex B U B U:=⟨Same.refl _,Same.refl _,fun _ _ h=> .inl h⟩
theorem Ex.trans{B U B1 U1 B2 U2:Hp}(a:Ex B U B1 U1)(b:Ex B1 U1 B2 U2):Ex B U B2 U2:=
 ⟨a.b.trans b.b,a.u.trans b.u,fun c o h=>by
  rcases b.nb c o h with h | h | h
  ·exact a.nb c o h
  ·exact .inr (.inl (a.u.free h))
  ·exact .inr (.inr h)⟩
section
variable{cm:Cm}
mutual
theorem Dn.mono{B B':Hp}(e:Same B B'):∀ {d:D} {v:V},Dn cm B d v→Dn cm B' d v
 |.non,_,h=>by rw[Dn] at h ⊢; exact h
 |.bl _,_,h=>by rw[Dn] at h ⊢; exact h
 |.int _,_,h=>by rw[Dn] at h ⊢; exact h
 |.str _,_,h=>by rw[Dn] at h ⊢; exact h
 |.ty _,_,h=>by rw[Dn] at h ⊢; exact h
 | .lst ds,_,h=>by
   rw[Dn] at h ⊢;obtain⟨a,xs,r,h1,h2⟩:=h;exact⟨a,xs,r,e _ _ h1,Dns.mono e h2⟩
 | .scr ds,_,h=>by
   rw[Dn] at h ⊢;obtain⟨a,xs,r,h1,h2⟩:=h;exact⟨a,xs,r,h1.mono e,Dns.mono e h2⟩
 | .tup ds,_,h=>by
   rw[Dn] at h ⊢;obtain⟨a,xs,r,h1,h2⟩:=h;exact⟨a,xs,r,e _ _ h1,Dns.mono e h2⟩
 | .dK ks ds,_,h=>by
   rw[Dn] at h ⊢;obtain⟨a,xs,r,h1,h2,h3⟩:=h;exact⟨a,xs,r,e _ _ h1,h2,Dns.mono e h3⟩
 | .dT ks ds,_,h=>by
   rw[Dn] at h ⊢;obtain⟨a,xs,r,h1,h2,h3⟩:=h;exact⟨a,xs,r,ay1 e h1,h2,Dns.mono e h3⟩
 | .obj c ns ds,_,h=>by
   rw[Dn] at h ⊢;obtain⟨a,dx,xs,r,h1,h2,h3⟩:=h;exact⟨a,dx,xs,r,e _ _ h1,h2,Dns.mono e h3⟩
theorem Dns.mono{B B':Hp}(e:Same B B'):∀ {ds:List D} {xs:List V},Dns cm B ds xs→Dns cm B' ds xs
 |[],_,h=>by rw[Dns] at h ⊢; exact h
 | d :: ds,_,h=>by
   rw[Dns] at h ⊢;obtain⟨x,r,h0,h1,h2⟩:=h;exact⟨x,r,h0,Dn.mono e h1,Dns.mono e h2⟩
end
theorem Dns.len{B:Hp}:∀ {ds:List D} {xs:List V},Dns cm B ds xs→ds.length=xs.length
 |[],_,h=>by rw[Dns] at h; subst h; rfl
 | d :: ds,_,h=>by
   rw[Dns] at h;obtain⟨x,r,rfl,_,h2⟩:=h;rw[Ab2,Ab2,Dns.len h2]
theorem Dns.get{B:Hp}:∀ {ds:List D} {xs:List V} {i:Nat} {d:D},Dns cm B ds xs→ds[i]?=some d→∃ x,xs[i]?=some x∧Dn cm B d x
 |[],_,_,_,_,e=>by cases e
 | d :: ds,_,i,d',h,e=>by
   rw[Dns] at h;obtain⟨x,r,rfl,h1,h2⟩:=h;cases i with
   |zero=>cases e; exact⟨x,rfl,h1⟩
   |succ i=>exact Dns.get (i:=i) h2 (by simpa using e)
theorem Dns.geti{B:Hp}:∀ {ds:List D} {xs:List V} {i:Nat} {x:V},Dns cm B ds xs→xs[i]?=some x→∃ d,ds[i]?=some d∧Dn cm B d x
 |[],_,_,_,h,e=>by rw[Dns] at h; subst h; cases e
 | d :: ds,_,i,x',h,e=>by
   rw[Dns] at h;obtain⟨x,r,rfl,h1,h2⟩:=h;cases i with
   |zero=>cases e; exact⟨d,rfl,h1⟩
   |succ i=>exact Dns.geti (i:=i) h2 (by simpa using e)
theorem Dns.append{B:Hp}:∀ {ds es:List D} {xs ys:List V},Dns cm B ds xs→Dns cm B es ys→Dns cm B (ds ++ es) (xs ++ ys)
 |[],_,_,_,h,k=>by rw[Dns] at h; subst h; exact k
 | d :: ds,_,_,_,h,k=>by
   rw[Dns] at h;obtain⟨x,r,rfl,h1,h2⟩:=h;rw[Aj3,Aj3,Dns];exact⟨x,_,rfl,h1,Dns.append h2 k⟩
theorem Dns.one{B:Hp}{d:D}{v:V}(h:Dn cm B d v):Dns cm B [d] [v]:=by
 rw[Dns];exact⟨v,[],rfl,h,by rw[Dns]⟩
theorem Dns.drop{B:Hp}:∀ {ds:List D} {xs:List V} (n:Nat),Dns cm B ds xs→Dns cm B (ds.drop n) (xs.drop n)
 |[],_,n,h=>by rw[Dns] at h; subst h; rw[List.drop_nil,List.drop_nil,Dns]
 | d :: ds,_,n,h=>by
   cases n with
   |zero=>exact h
   |succ n=>
     rw[Dns] at h;obtain⟨x,r,rfl,h1,h2⟩:=h;exact Dns.drop n h2
theorem Dns.erase{B:Hp}:∀ {ds:List D} {xs:List V} (n:Nat),Dns cm B ds xs→Dns cm B (ds.eraseIdx n) (xs.eraseIdx n)
 |[],_,n,h=>by rw[Dns] at h; subst h; rw[List.eraseIdx_nil,List.eraseIdx_nil,Dns]
 | d :: ds,_,n,h=>by
   rw[Dns] at h;obtain⟨x,r,rfl,h1,h2⟩:=h;cases n with
   |zero=>exact h2
   |succ n=>
     rw[Ad7,Ad7,Dns];exact⟨x,_,rfl,h1,Dns.erase n h2⟩
theorem Dns.set{B:Hp}{d':D}{v:V}(hd:Dn cm B d' v):∀ {ds:List D} {xs:List V} (n:Nat),Dns cm B ds xs→Dns cm B (ds.set n d') (xs.set n v)
 |[],_,n,h=>by rw[Dns] at h; subst h; rw[List.set_nil,List.set_nil,Dns]
 | d :: ds,_,n,h=>by
   rw[Dns] at h;obtain⟨x,r,rfl,h1,h2⟩:=h;cases n with
   |zero=>rw[An7,An7,Dns]; exact⟨v,r,rfl,hd,h2⟩
   |succ n=>
     rw[An8,An8,Dns];exact⟨x,_,rfl,h1,Dns.set hd n h2⟩
mutual
theorem Ow.mono{B B' H H':Hp}(e:Same B B'):∀ {d:D} {s:Sh} {v:V} {A:List Addr},(∀ a∈A,H' a=H a)→Ow cm B H d s v A→Ow cm B' H' d s v A
 | d,.fz,v,A,k,h=>by
   rw[Ow] at h ⊢;exact⟨h.1.mono e,h.2⟩
 | .lst ds,.ct s,v,A,k,h=>by
   rw[Ow] at h ⊢;obtain⟨a,xs,A',r,h1,h2,h3⟩:=h;subst h2;exact⟨a,xs,A',r,by rw[k a Aa5]; exact h1,rfl,Ows.mono e (fun b hb=>k b (Aa4 _ hb)) h3⟩
 | .dK ks ds,.ct s,v,A,k,h=>by
   rw[Ow] at h ⊢;obtain⟨a,xs,A',r,h1,h2,h3,h4⟩:=h;subst h3;exact⟨a,xs,A',r,by rw[k a Aa5]; exact h1,h2,rfl,Ows.mono e (fun b hb=>k b (Aa4 _ hb)) h4⟩
 | .dT ks ds,.ct s,v,A,k,h=>by
   rw[Ow] at h ⊢;obtain⟨a,xs,A',r,h1,h2,h3,h4⟩:=h;subst h3;exact⟨a,xs,A',r,by rw[k a Aa5]; exact h1,h2,rfl,Ows.mono e (fun b hb=>k b (Aa4 _ hb)) h4⟩
 | .obj c ns ds,.ob fs,v,A,k,h=>by
   rw[Ow] at h ⊢;obtain⟨a,dx,xs,A',r,h1,h2,h3,h4⟩:=h;subst h3;exact⟨a,dx,xs,A',r,by rw[k a Aa5]; exact h1,h2,rfl,Owf.mono e (fun b hb=>k b (Aa4 _ hb)) h4⟩
 |.non,.ct _,_,_,_,h=>by simp[Ow] at h
 |.bl _,.ct _,_,_,_,h=>by simp[Ow] at h
 |.int _,.ct _,_,_,_,h=>by simp[Ow] at h
 |.str _,.ct _,_,_,_,h=>by simp[Ow] at h
 |.ty _,.ct _,_,_,_,h=>by simp[Ow] at h
 |.tup _,.ct _,_,_,_,h=>by simp[Ow] at h
 |.scr _,.ct _,_,_,_,h=>by simp[Ow] at h
 |.obj _ _ _,.ct _,_,_,_,h=>by simp[Ow] at h
 |.non,.ob _,_,_,_,h=>by simp[Ow] at h
 |.bl _,.ob _,_,_,_,h=>by simp[Ow] at h
 |.int _,.ob _,_,_,_,h=>by simp[Ow] at h
 |.str _,.ob _,_,_,_,h=>by simp[Ow] at h
 |.ty _,.ob _,_,_,_,h=>by simp[Ow] at h
 |.tup _,.ob _,_,_,_,h=>by simp[Ow] at h
 |.scr _,.ob _,_,_,_,h=>by simp[Ow] at h
 |.lst _,.ob _,_,_,_,h=>by simp[Ow] at h
 |.dK _ _,.ob _,_,_,_,h=>by simp[Ow] at h
 |.dT _ _,.ob _,_,_,_,h=>by simp[Ow] at h
theorem Ows.mono{B B' H H':Hp}(e:Same B B'):∀ {ds:List D} {s:Sh} {xs:List V} {A:List Addr},(∀ a∈A,H' a=H a)→Ows cm B H ds s xs A→Ows cm B' H' ds s xs A
 |[],_,_,_,_,h=>by rw[Ows] at h ⊢; exact h
 | d :: ds,s,xs,A,k,h=>by
   rw[Ows] at h ⊢;obtain⟨x,r,A1,A2,h0,h1,h2,h3⟩:=h;subst h1;exact⟨x,r,A1,A2,h0,rfl,Ow.mono e (fun b hb=>k b (Ab9 _ hb)) h2,Ows.mono e (fun b hb=>k b (Aa8 _ hb)) h3⟩
theorem Owf.mono{B B' H H':Hp}(e:Same B B'):∀ {ds:List D} {ns:List Str} {fs:List (Str×Sh)} {xs:List V} {A:List Addr},(∀ a∈A,H' a=H a)→Owf cm B H ds ns fs xs A→Owf cm B' H' ds ns fs xs A
 |[],_,_,_,_,_,h=>by rw[Owf] at h ⊢; exact h
 | d :: ds,ns,fs,xs,A,k,h=>by
   rw[Owf] at h ⊢;obtain⟨n,ns',x,r,A1,A2,hn,h0,h1,h2,h3⟩:=h;subst h1;exact⟨n,ns',x,r,A1,A2,hn,h0,rfl,Ow.mono e (fun b hb=>k b (Ab9 _ hb)) h2,Owf.mono e (fun b hb=>k b (Aa8 _ hb)) h3⟩
end
end
section
variable{cm:Cm}
mutual
theorem Ow.dn{B H G:Hp}(e:Same B G):∀ {d:D} {s:Sh} {v:V} {A:List Addr},(∀ a∈A,∀ o,H a=some o→G a=some o)→Ow cm B H d s v A→Dn cm G d v
 | d,.fz,v,A,k,h=>by
   rw[Ow] at h;exact h.1.mono e
 | .lst ds,.ct s,v,A,k,h=>by
   rw[Ow] at h;obtain⟨a,xs,A',r,h1,h2,h3⟩:=h;subst h2;rw[Dn];exact⟨a,xs,r,k a Aa5 _ h1,Ows.dn e (fun b hb=>k b (Aa4 _ hb)) h3⟩
 | .dK ks ds,.ct s,v,A,k,h=>by
   rw[Ow] at h;obtain⟨a,xs,A',r,h1,h2,h3,h4⟩:=h;subst h3;rw[Dn];exact⟨a,xs,r,k a Aa5 _ h1,h2,Ows.dn e (fun b hb=>k b (Aa4 _ hb)) h4⟩
 | .dT ks ds,.ct s,v,A,k,h=>by
   rw[Ow] at h;obtain⟨a,xs,A',r,h1,h2,h3,h4⟩:=h;subst h3;rw[Dn];exact⟨a,xs,r,.inl (k a Aa5 _ h1),h2,Ows.dn e (fun b hb=>k b (Aa4 _ hb)) h4⟩
 | .obj c ns ds,.ob fs,v,A,k,h=>by
   rw[Ow] at h;obtain⟨a,dx,xs,A',r,h1,h2,h3,h4⟩:=h;subst h3;rw[Dn];exact⟨a,dx,xs,r,k a Aa5 _ h1,h2,Owf.dn e (fun b hb=>k b (Aa4 _ hb)) h4⟩
 |.non,.ct _,_,_,_,h=>by simp[Ow] at h
 |.bl _,.ct _,_,_,_,h=>by simp[Ow] at h
 |.int _,.ct _,_,_,_,h=>by simp[Ow] at h
 |.str _,.ct _,_,_,_,h=>by simp[Ow] at h
 |.ty _,.ct _,_,_,_,h=>by simp[Ow] at h
 |.tup _,.ct _,_,_,_,h=>by simp[Ow] at h
 |.scr _,.ct _,_,_,_,h=>by simp[Ow] at h
 |.obj _ _ _,.ct _,_,_,_,h=>by simp[Ow] at h
 |.non,.ob _,_,_,_,h=>by simp[Ow] at h
 |.bl _,.ob _,_,_,_,h=>by simp[Ow] at h
 |.int _,.ob _,_,_,_,h=>by simp[Ow] at h
 |.str _,.ob _,_,_,_,h=>by simp[Ow] at h
 |.ty _,.ob _,_,_,_,h=>by simp[Ow] at h
 |.tup _,.ob _,_,_,_,h=>by simp[Ow] at h
 |.scr _,.ob _,_,_,_,h=>by simp[Ow] at h
 |.lst _,.ob _,_,_,_,h=>by simp[Ow] at h
 |.dK _ _,.ob _,_,_,_,h=>by simp[Ow] at h
 |.dT _ _,.ob _,_,_,_,h=>by simp[Ow] at h
theorem Ows.dn{B H G:Hp}(e:Same B G):∀ {ds:List D} {s:Sh} {xs:List V} {A:List Addr},(∀ a∈A,∀ o,H a=some o→G a=some o)→Ows cm B H ds s xs A→Dns cm G ds xs
 |[],_,_,_,_,h=>by rw[Ows] at h; rw[Dns]; exact h.1
 | d :: ds,s,xs,A,k,h=>by
   rw[Ows] at h;obtain⟨x,r,A1,A2,h0,h1,h2,h3⟩:=h;subst h1;rw[Dns];exact⟨x,r,h0,Ow.dn e (fun b hb=>k b (Ab9 _ hb)) h2,Ows.dn e (fun b hb=>k b (Aa8 _ hb)) h3⟩
theorem Owf.dn{B H G:Hp}(e:Same B G):∀ {ds:List D} {ns:List Str} {fs:List (Str×Sh)} {xs:List V} {A:List Addr},(∀ a∈A,∀ o,H a=some o→G a=some o)→Owf cm B H ds ns fs xs A→Dns cm G ds xs
 |[],_,_,_,_,_,h=>by rw[Owf] at h; rw[Dns]; exact h.1
 | d :: ds,ns,fs,xs,A,k,h=>by
   rw[Owf] at h;obtain⟨n,ns',x,r,A1,A2,hn,h0,h1,h2,h3⟩:=h;subst h1;rw[Dns];exact⟨x,r,h0,Ow.dn e (fun b hb=>k b (Ab9 _ hb)) h2,Owf.dn e (fun b hb=>k b (Aa8 _ hb)) h3⟩
end
mutual
theorem Ow.at2{B H:Hp}:∀ {d:D} {s:Sh} {v:V} {A:List Addr} {a:Addr},Ow cm B H d s v A→a∈A→∃ o,H a=some o∧¬ aq3 o
 | d,.fz,v,A,a,h,m=>by
   rw[Ow] at h;rw[h.2] at m;cases m
 | .lst ds,.ct s,v,A,a,h,m=>by
   rw[Ow] at h;obtain⟨b,xs,A',r,h1,h2,h3⟩:=h;subst h2;rcases List.mem_cons.mp m with e | m
   ·refine⟨_,by rw[e]; exact h1,?_⟩;rintro⟨_,z⟩;cases z
   ·exact Ows.at2 h3 m
 | .dK ks ds,.ct s,v,A,a,h,m=>by
   rw[Ow] at h;obtain⟨b,xs,A',r,h1,h2,h3,h4⟩:=h;subst h3;rcases List.mem_cons.mp m with e | m
   ·refine⟨_,by rw[e]; exact h1,?_⟩;rintro⟨_,z⟩;cases z
   ·exact Ows.at2 h4 m
 | .dT ks ds,.ct s,v,A,a,h,m=>by
   rw[Ow] at h;obtain⟨b,xs,A',r,h1,h2,h3,h4⟩:=h;subst h3;rcases List.mem_cons.mp m with e | m
   ·refine⟨_,by rw[e]; exact h1,?_⟩;rintro⟨_,z⟩;cases z
   ·exact Ows.at2 h4 m
 | .obj c ns ds,.ob fs,v,A,a,h,m=>by
   rw[Ow] at h;obtain⟨b,dx,xs,A',r,h1,h2,h3,h4⟩:=h;subst h3;rcases List.mem_cons.mp m with e | m
   ·refine⟨_,by rw[e]; exact h1,?_⟩;rintro⟨_,z⟩;cases z
   ·exact Owf.at2 h4 m
 |.non,.ct _,_,_,_,h,_=>by simp[Ow] at h
 |.bl _,.ct _,_,_,_,h,_=>by simp[Ow] at h
 |.int _,.ct _,_,_,_,h,_=>by simp[Ow] at h
 |.str _,.ct _,_,_,_,h,_=>by simp[Ow] at h
 |.ty _,.ct _,_,_,_,h,_=>by simp[Ow] at h
 |.tup _,.ct _,_,_,_,h,_=>by simp[Ow] at h
 |.scr _,.ct _,_,_,_,h,_=>by simp[Ow] at h
 |.obj _ _ _,.ct _,_,_,_,h,_=>by simp[Ow] at h
 |.non,.ob _,_,_,_,h,_=>by simp[Ow] at h
 |.bl _,.ob _,_,_,_,h,_=>by simp[Ow] at h
 |.int _,.ob _,_,_,_,h,_=>by simp[Ow] at h
 |.str _,.ob _,_,_,_,h,_=>by simp[Ow] at h
 |.ty _,.ob _,_,_,_,h,_=>by simp[Ow] at h
 |.tup _,.ob _,_,_,_,h,_=>by simp[Ow] at h
 |.scr _,.ob _,_,_,_,h,_=>by simp[Ow] at h
 |.lst _,.ob _,_,_,_,h,_=>by simp[Ow] at h
 |.dK _ _,.ob _,_,_,_,h,_=>by simp[Ow] at h
 |.dT _ _,.ob _,_,_,_,h,_=>by simp[Ow] at h
theorem Ows.at2{B H:Hp}:∀ {ds:List D} {s:Sh} {xs:List V} {A:List Addr} {a:Addr},Ows cm B H ds s xs A→a∈A→∃ o,H a=some o∧¬ aq3 o
 |[],_,_,_,_,h,m=>by rw[Ows] at h; rw[h.2] at m; cases m
 | d :: ds,s,xs,A,a,h,m=>by
   rw[Ows] at h;obtain⟨x,r,A1,A2,h0,h1,h2,h3⟩:=h;subst h1;rcases List.mem_append.mp m with m | m
   ·exact Ow.at2 h2 m
   ·exact Ows.at2 h3 m
theorem Owf.at2{B H:Hp}:∀ {ds:List D} {ns:List Str} {fs:List (Str×Sh)} {xs:List V} {A:List Addr} {a:Addr},Owf cm B H ds ns fs xs A→a∈A→∃ o,H a=some o∧¬ aq3 o
 |[],_,_,_,_,_,h,m=>by rw[Owf] at h; rw[h.2] at m; cases m
 | d :: ds,ns,fs,xs,A,a,h,m=>by
   rw[Owf] at h;obtain⟨n,ns',x,r,A1,A2,hn,h0,h1,h2,h3⟩:=h;subst h1;rcases List.mem_append.mp m with m | m
   ·exact Ow.at2 h2 m
   ·exact Owf.at2 h3 m
end
theorem Ow.at{B H:Hp}{d:D}{s:Sh}{v:V}{A:List Addr}{a:Addr}(h:Ow cm B H d s v A)(m:a∈A):∃ o,H a=some o:=let ⟨o,e,_⟩:=Ow.at2 h m; ⟨o,e⟩
theorem Owf.at{B H:Hp}{ds:List D}{ns:List Str}{fs:List (Str×Sh)}{xs:List V}{A:List Addr}{a:Addr}(h:Owf cm B H ds ns fs xs A)(m:a∈A):∃ o,H a=some o:=let ⟨o,e,_⟩:=Owf.at2 h m; ⟨o,e⟩
theorem Ows.of{B H:Hp}:∀ {ds:List D} {xs:List V},Dns cm B ds xs→Ows cm B H ds .fz xs []
 |[],_,h=>by rw[Dns] at h; rw[Ows]; exact⟨h,rfl⟩
 | d :: ds,_,h=>by
   rw[Dns] at h;obtain⟨x,r,h0,h1,h2⟩:=h;rw[Ows];exact⟨x,r,[],[],h0,rfl,by rw[Ow]; exact⟨h1,rfl⟩,Ows.of h2⟩
theorem Ows.fz{B H:Hp}:∀ {ds:List D} {xs:List V} {A:List Addr},Ows cm B H ds .fz xs A→Dns cm B ds xs∧A=[]
 |[],_,_,h=>by rw[Ows] at h; rw[Dns]; exact h
 | d :: ds,_,_,h=>by
   rw[Ows] at h;obtain⟨x,r,A1,A2,h0,h1,h2,h3⟩:=h;rw[Ow] at h2;obtain⟨h4,h5⟩:=Ows.fz h3;rw[Dns];exact⟨⟨x,r,h0,h2.1,h4⟩,by rw[h1,h2.2,h5]; rfl⟩
theorem Lo.at2{B U H:Hp}{m:Md}{o:Option D}{s:Option V}{A:List Addr}{a:Addr}(h:Lo cm B U H m o s A)(ha:a∈A):∃ o,H a=some o∧¬ aq3 o:=by
 unfold Lo at h;cases o with
 |none=>simp only at h; rw[h] at ha; cases ha
 |some d=>
   obtain⟨v,_,h⟩:=h;cases m with
   |F=>have h:Dn cm B d v∧A=[]:=h; rw[h.2] at ha; cases ha
   |R=>have h:Dn cm U d v∧A=[]:=h; rw[h.2] at ha; cases ha
   |O sh=>exact Ow.at2 h ha
theorem Lo.at{B U H:Hp}{m:Md}{o:Option D}{s:Option V}{A:List Addr}{a:Addr}(h:Lo cm B U H m o s A)(ha:a∈A):∃ o,H a=some o:=let ⟨o,e,_⟩:=h.at2 ha; ⟨o,e⟩
theorem Lo.mono{B U H B' U' H':Hp}{m:Md}{o:Option D}{s:Option V}{A:List Addr}(h:Lo cm B U H m o s A)(e:Same B B')(f:Same U U')(k:∀ a∈A,H' a=H a):Lo cm B' U' H' m o s A:=by
 unfold Lo at h ⊢;cases o with
 |none=>exact h
 |some d=>
   obtain⟨v,hv,h⟩:=h;refine⟨v,hv,?_⟩;cases m with
   |F=>exact⟨h.1.mono e,h.2⟩
   |R=>exact⟨h.1.mono f,h.2⟩
   |O sh=>exact Ow.mono e k h
variable{ms:List Md}{B U H B' U' H':Hp}{As:Nat→List Addr}{σ:St}{ρ:Env}
theorem Rel.at(R:Rel cm ms B U As σ H ρ){i:Nat}{a:Addr}(h:a∈As i):∃ o,H a=some o:=(R.lo i).at h
theorem Rel.nt(R:Rel cm ms B U As σ H ρ){i:Nat}{a:Addr}{o:HO}(h:a∈As i)(e:H a=some o)(z:aq3 o):False:=by
 obtain⟨o',e',n⟩:=(R.lo i).at2 h;rw[e] at e'; cases e'; exact n z
theorem Rel.fresh(R:Rel cm ms B U As σ H ρ){p:Addr}(h:H p=none)(i:Nat):p∉As i:=fun m=>by
 obtain⟨o,e⟩:=R.at m;rw[h] at e;cases e
theorem Rel.grow(R:Rel cm ms B U As σ H ρ)(e:Same B B')(f:Same U U')(g:Same H H')(bu:Same B' U')(uh:Same U' H')(un:∀ i a,a∈As i→U' a=none):Rel cm ms B' U' As σ H' ρ:=
 ⟨bu,uh,R.nd,R.dj,un,fun i=>(R.lo i).mono e f fun a ha=>by
  obtain⟨o,q⟩:=R.at ha
  rw[q,g a o q],R.len,fun p hp=>let ⟨l,h1,h2⟩:=R.tb p hp; ⟨l,e _ _ h1,h2⟩⟩
theorem Rel.bh(R:Rel cm ms B U As σ H ρ):Same B H:=R.bu.trans R.uh
theorem Rel.new(R:Rel cm ms B U As σ H ρ){p:Addr}{o:HO}(h:H p=none):Rel cm ms B U As σ (upd H p o) ρ:=
 R.grow (Same.refl _) (Same.refl _) (Gd.ag3 h) R.bu (R.uh.trans (Gd.ag3 h)) R.un
theorem aL8{G G':Hp}{p:Addr}{o:HO}(e:Same G G'):Same (upd G p o) (upd G' p o):=fun b u q=>by
 by_cases z:b=p
 ·subst z; rw[ab3] at q ⊢; exact q
 ·rw[ab0 z] at q ⊢; exact e b u q
theorem Rel.newB(R:Rel cm ms B U As σ H ρ){p:Addr}{o:HO}(h:H p=none):Rel cm ms (upd B p o) (upd U p o) As σ (upd H p o) ρ:=
 R.grow (Gd.ag3 (R.bh.free h)) (Gd.ag3 (R.uh.free h)) (Gd.ag3 h) (aL8 R.bu) (aL8 R.uh) fun i a ha=>by
  rw[ab0 (fun z:a=p=>R.fresh h i (z ▸ ha))];exact R.un i a ha
theorem Ex.newB(R:Rel cm ms B U As σ H ρ){p:Addr}{o:HO}(h:H p=none):Ex B U (upd B p o) (upd U p o):=
 ⟨Gd.ag3 (R.bh.free h),Gd.ag3 (R.uh.free h),fun a u q=>by
  by_cases z:a=p
  ·subst z; exact .inr (.inl (R.uh.free h))
  ·rw[ab0 z] at q; exact .inl q⟩
def frz(B H:Hp)(A:List Addr):Hp:=fun a=>if a∈A then H a else B a
theorem af0{A:List Addr}(e:Same B H):Same B (frz B H A):=fun a o q=>by
 unfold frz;split
 ·exact e a o q
 ·exact q
theorem aU8{A:List Addr}(e:Same B H):Same (frz B H A) H:=fun a o q=>by
 unfold frz at q;split at q
 ·exact q
 ·exact e a o q
theorem aI6{A:List Addr}(e:Same B U):Same (frz B H A) (frz U H A):=fun a o q=>by
 unfold frz at q ⊢;split
 ·rename_i z; rw[Aa6 z] at q; exact q
 ·rename_i z; rw[Aa3 z] at q; exact e a o q
end
abbrev KT(α β:Type):=α→β→Hp→Hp→Hp→List Addr→Prop
inductive Kd where
 |F | U | X
def hp:Kd→Hp→Hp→Hp→Hp
 |.F,B,_,_=>B
 |.U,_,U,_=>U
 |.X,_,_,H=>H
structure Gw (B U H B' U' H':Hp):Prop extends Ex B U B' U' where
 h:Same H H'
 fr:∀ a o,U' a=some o→U a=some o∨H a=none∨aq3 o
theorem Gw.refl(B U H:Hp):Gw B U H B U H:=⟨Ex.refl _ _,Same.refl _,fun _ _ h=> .inl h⟩
theorem Gw.trans{B U H B1 U1 H1 B2 U2 H2:Hp}(a:Gw B U H B1 U1 H1)(b:Gw B1 U1 H1 B2 U2 H2):Gw B U H B2 U2 H2:=
 ⟨a.toEx.trans b.toEx,a.h.trans b.h,fun c o h=>by
  rcases b.fr c o h with h | h | h
  ·exact a.fr c o h
  ·exact .inr (.inl (a.h.free h))
  ·exact .inr (.inr h)⟩
structure New (N:List Addr) (H U:Hp) (As:Nat→List Addr):Prop where
 nd:N.Nodup
 fr:∀ a∈N,H a=none
 un:∀ a∈N,U a=none
theorem New.nil{H U:Hp}{As:Nat→List Addr}:New [] H U As:=⟨Af1,fun _ h=>(nomatch h),fun _ h=>(nomatch h)⟩
section
variable(cm:Cm)
def Cn(G H:Hp):D→V→Prop
 |.lst ds,v=>∃ a xs,v= .ref a∧H a=some (.lst xs)∧Dns cm G ds xs
 |.scr ds,v=>∃ a xs,v= .ref a∧SqF cm.K H a xs∧Dns cm G ds xs
 |.tup ds,v=>∃ a xs,v= .ref a∧H a=some (.tup xs)∧Dns cm G ds xs
 |.dK ks ds,v=>∃ (a:Addr) (kvs:List (Key×V)),v= .ref a∧H a=some (.dK kvs)∧kvs.map (·.1)=ks∧Dns cm G ds (kvs.map (·.2))
 |.dT ks ds,v=>∃ (a:Addr) (kvs:List (List Key×V)),v= .ref a∧Rd H a (.dT kvs)∧kvs.map (·.1)=ks∧Dns cm G ds (kvs.map (·.2))
 |.obj c ns ds,v=>∃ (a dx:Addr) (fs:List (Str×V)),v= .ref a∧H a=some (.ins (cm c) dx fs)∧fs.map (·.1)=ns∧Dns cm G ds (fs.map (·.2))
 |d,v=>Dn cm G d v
def KR(k:Kd):KT D V:=fun d v B U H _=>Dn cm (hp k B U H) d v
def KC(k:Kd):KT D V:=fun d v B U H _=>Cn cm (hp k B U H) H d v
def KO(s:Sh):KT D V:=fun d v B U H N=>Ow cm B H d s v N
def KB:KT Bool Bool:=fun b c _ _ _ _=>b=c
def KL(k:Kd):KT (List D) (List V):=fun d v B U H _=>Dns cm (hp k B U H) d v
def Po{α β:Type}(K:KT α β)(E:XK)(ms:List Md)(B U:Hp)(As:Nat→List Addr)(σ:St)(H:Hp)(ρ:Env)(r:Res α)(Q:β→Hp→Prop):Prop:=
 match r with
 |.ok d=>∀ v B' U' H' N,Rel cm ms B' U' As σ H' ρ→Gw B U H B' U' H'→New N H U' As→K d v B' U' H' N→Q v H'
 |.exc c=>∀ B' U' H',Rel cm ms B' U' As σ H' ρ→Gw B U H B' U' H'→∀ oa,E (.ref (cm c)) oa H'
 |.bad=>False
def PJ{α β:Type}(K:KT α β)(E:XK)(ms:List Md)(t:St→Hp→(β→Hp→Prop)→Prop)(m:Env→Res α):Prop:=
 ∀ B U As σ H ρ Q,Rel cm ms B U As σ H ρ→Po cm K E ms B U As σ H ρ (m ρ) Q→t σ H Q
end
section
variable{cm:Cm}{E:XK}{ms:List Md}{B U H:Hp}{As:Nat→List Addr}{σ:St}{ρ:Env}
theorem New.up{N:List Addr}{H1:Hp}(h:New N H1 U As)(s:Same H H1):New N H U As:=⟨h.nd,fun a ha=>s.free (h.fr a ha),h.un⟩
theorem Po.at{α β:Type}{K:KT α β}{B1 U1 H1:Hp}{r:Res α}{Q:β→Hp→Prop}(P:Po cm K E ms B U As σ H ρ r Q)(e:Gw B U H B1 U1 H1):Po cm K E ms B1 U1 As σ H1 ρ r Q:=by
 cases r with
 |ok d=>exact fun v B' U' H' N R' e' n' k=>P v B' U' H' N R' (e.trans e') (n'.up e.h) k
 |exc c=>exact fun B' U' H' R' e'=>P B' U' H' R' (e.trans e')
 |bad=>exact P
theorem PJ.bnd{α β γ δ:Type}{Ka:KT α β}{Kc:KT γ δ}{ta:St→Hp→(β→Hp→Prop)→Prop}{ma:Env→Res α}(ha:PJ cm Ka E ms ta ma)(R:Rel cm ms B U As σ H ρ){k:α→Res γ}{Q:δ→Hp→Prop}
 (P:Po cm Kc E ms B U As σ H ρ ((ma ρ).bind k) Q) {body:β→Hp→Prop}
 (h:∀ x v B1 U1 H1 N,ma ρ= .ok x→Rel cm ms B1 U1 As σ H1 ρ→Gw B U H B1 U1 H1→New N H U1 As→Ka x v B1 U1 H1 N→Po cm Kc E ms B1 U1 As σ H1 ρ (k x) Q→body v H1):ta σ H body:=by
 refine ha B U As σ H ρ body R ?_;cases e:ma ρ with
 |ok x=>
   rw[e] at P;exact fun v B1 U1 H1 N R1 e1 n1 k1=>h x v B1 U1 H1 N e R1 e1 n1 k1 (Po.at (r:=k x) P e1)
 |exc c=>rw[e] at P; exact P
 |bad=>rw[e] at P; exact P
theorem aq4{k:Kd}{B1 U1 H1:Hp}(e:Gw B U H B1 U1 H1):Same (hp k B U H) (hp k B1 U1 H1):=by
 cases k with
 |F=>exact e.b
 |U=>exact e.u
 |X=>exact e.h
theorem Cn.mono{G G' H H':Hp}(e:Same G G')(f:Same H H'){d:D}{v:V}(h:Cn cm G H d v):Cn cm G' H' d v:=by
 cases d with
 |lst ds=>obtain⟨a,xs,r,h1,h2⟩:=h; exact⟨a,xs,r,f _ _ h1,h2.mono e⟩
 |scr ds=>obtain⟨a,xs,r,h1,h2⟩:=h; exact⟨a,xs,r,h1.mono f,h2.mono e⟩
 |tup ds=>obtain⟨a,xs,r,h1,h2⟩:=h; exact⟨a,xs,r,f _ _ h1,h2.mono e⟩
 |dK ks ds=>obtain⟨a,xs,r,h1,h2,h3⟩:=h; exact⟨a,xs,r,f _ _ h1,h2,h3.mono e⟩
 |dT ks ds=>obtain⟨a,xs,r,h1,h2,h3⟩:=h; exact⟨a,xs,r,ay1 f h1,h2,h3.mono e⟩
 |obj c ns ds=>obtain⟨a,dx,xs,r,h1,h2,h3⟩:=h; exact⟨a,dx,xs,r,f _ _ h1,h2,h3.mono e⟩
 |non=>exact Dn.mono e h
 |bl _=>exact Dn.mono e h
 |int _=>exact Dn.mono e h
 |str _=>exact Dn.mono e h
 |ty _=>exact Dn.mono e h
theorem Dn.cn{G H:Hp}(f:Same G H){d:D}{v:V}(h:Dn cm G d v):Cn cm G H d v:=by
 cases d with
 |lst ds=>rw[Dn] at h; obtain⟨a,xs,r,h1,h2⟩:=h; exact⟨a,xs,r,f _ _ h1,h2⟩
 |scr ds=>rw[Dn] at h; obtain⟨a,xs,r,h1,h2⟩:=h; exact⟨a,xs,r,h1.mono f,h2⟩
 |tup ds=>rw[Dn] at h; obtain⟨a,xs,r,h1,h2⟩:=h; exact⟨a,xs,r,f _ _ h1,h2⟩
 |dK ks ds=>rw[Dn] at h; obtain⟨a,xs,r,h1,h2,h3⟩:=h; exact⟨a,xs,r,f _ _ h1,h2,h3⟩
 |dT ks ds=>rw[Dn] at h; obtain⟨a,xs,r,h1,h2,h3⟩:=h; exact⟨a,xs,r,ay1 f h1,h2,h3⟩
 |obj c ns ds=>rw[Dn] at h; obtain⟨a,dx,xs,r,h1,h2,h3⟩:=h; exact⟨a,dx,xs,r,f _ _ h1,h2,h3⟩
 |non=>exact h
 |bl _=>exact h
 |int _=>exact h
 |str _=>exact h
 |ty _=>exact h
theorem Cn.dn{H:Hp}{d:D}{v:V}(h:Cn cm H H d v):Dn cm H d v:=by
 cases d with
 |lst ds=>obtain⟨a,xs,r,h1,h2⟩:=h; rw[Dn]; exact⟨a,xs,r,h1,h2⟩
 |scr ds=>obtain⟨a,xs,r,h1,h2⟩:=h; rw[Dn]; exact⟨a,xs,r,h1,h2⟩
 |tup ds=>obtain⟨a,xs,r,h1,h2⟩:=h; rw[Dn]; exact⟨a,xs,r,h1,h2⟩
 |dK ks ds=>obtain⟨a,xs,r,h1,h2,h3⟩:=h; rw[Dn]; exact⟨a,xs,r,h1,h2,h3⟩
 |dT ks ds=>obtain⟨a,xs,r,h1,h2,h3⟩:=h; rw[Dn]; exact⟨a,xs,r,h1,h2,h3⟩
 |obj c ns ds=>obtain⟨a,dx,xs,r,h1,h2,h3⟩:=h; rw[Dn]; exact⟨a,dx,xs,r,h1,h2,h3⟩
 |non=>exact h
 |bl _=>exact h
 |int _=>exact h
 |str _=>exact h
 |ty _=>exact h
theorem Rel.hp(R:Rel cm ms B U As σ H ρ)(k:Kd):Same (hp k B U H) H:=by
 cases k with
 |F=>exact R.bh
 |U=>exact R.uh
 |X=>exact Same.refl _
theorem PJ.imp{α β:Type}{K K':KT α β}{t:St→Hp→(β→Hp→Prop)→Prop}{m:Env→Res α}(h:PJ cm K E ms t m)(f:∀ B U As σ H ρ d v N,Rel cm ms B U As σ H ρ→K d v B U H N→K' d v B U H N):PJ cm K' E ms t m:=by
 intro B U As σ H ρ Q R P;refine h B U As σ H ρ Q R ?_;cases e:m ρ with
 |ok d=>rw[e] at P; exact fun v B' U' H' N R' e' n' k=>P v B' U' H' N R' e' n' (f _ _ _ _ _ _ _ _ _ R' k)
 |exc c=>rw[e] at P; exact P
 |bad=>rw[e] at P; exact P
section
variable{t:TE}{m:Env→Res D}{k:Kd}{s:Sh}
theorem fu(h:PJ cm (KR cm .F) E ms t m):PJ cm (KR cm .U) E ms t m:=h.imp fun _ _ _ _ _ _ _ _ _ R q=>Dn.mono R.bu q
theorem ux(h:PJ cm (KR cm .U) E ms t m):PJ cm (KR cm .X) E ms t m:=h.imp fun _ _ _ _ _ _ _ _ _ R q=>Dn.mono R.uh q
theorem fx(h:PJ cm (KR cm .F) E ms t m):PJ cm (KR cm .X) E ms t m:=ux (fu h)
theorem rc(h:PJ cm (KR cm k) E ms t m):PJ cm (KC cm k) E ms t m:=h.imp fun _ _ _ _ _ _ _ _ _ R q=>Dn.cn (R.hp k) q
theorem cx(h:PJ cm (KC cm k) E ms t m):PJ cm (KR cm .X) E ms t m:=h.imp fun _ _ _ _ _ _ _ _ _ R q=>Cn.dn (Cn.mono (R.hp k) (Same.refl _) q)
theorem Rel.freeze{A:List Addr}(R:Rel cm ms B U As σ H ρ)(h:∀ a∈A,U a=none∧∀ i,a∉As i):Rel cm ms (Mi.frz B H A) (Mi.frz U H A) As σ H ρ∧Ex B U (Mi.frz B H A) (Mi.frz U H A):=by
 refine⟨R.grow (af0 R.bh) (af0 R.uh) (Same.refl _) (aI6 R.bu) (aU8 R.uh) fun i a ha=>?_,af0 R.bh,af0 R.uh,fun a o q=>?_⟩
 · unfold Mi.frz;split
   ·rename_i z; exact absurd ha ((h a z).2 i)
   ·exact R.un i a ha
 · unfold Mi.frz at q;split at q
   ·rename_i z; exact .inr (.inl (h a z).1)
   ·exact .inl q
theorem Rel.apart(R:Rel cm ms B U As σ H ρ){N:List Addr}{U':Hp}(n:New N H U' As):∀ a∈N,∀ i,a∉As i:=fun a ha i=>R.fresh (n.fr a ha) i
theorem oF(h:PJ cm (KO cm s) E ms t m):PJ cm (KR cm .F) E ms t m:=by
 intro B U As σ H ρ Q R P;refine h B U As σ H ρ Q R ?_;cases e:m ρ with
 |ok d=>
   rw[e] at P;intro v B' U' H' N R' e' n' ow;obtain⟨R2,e2⟩:=R'.freeze fun a ha=>⟨n'.un a ha,R.apart n' a ha⟩;refine P v _ _ H' [] R2 ⟨e'.toEx.trans e2,e'.h,fun a o q=>?_⟩ New.nil (Ow.dn (af0 R'.bh) (fun a ha o q=>?_) ow)
   · unfold Mi.frz at q;split at q
     ·rename_i z; exact .inr (.inl (n'.fr a z))
     ·exact e'.fr a o q
   ·unfold Mi.frz;rw[if_pos ha];exact q
 |exc c=>rw[e] at P; exact P
 |bad=>rw[e] at P; exact P
theorem oc(h:PJ cm (KO cm (.ct .fz)) E ms t m):PJ cm (KC cm .F) E ms t m:=rc (oF h)
end
theorem ah1{α:Type}{l:List (Option α)}{i:Nat}{x:α}(h:rg l i=some x):l[i]?=some (some x):=by
 unfold rg at h;cases e:l[i]? with
 |none=>rw[e] at h; cases h
 |some o=>rw[e] at h; exact congrArg some h
theorem bb3{K:KT D V}{i:Nat}(f:∀ (B U:Hp) (A:List Addr) (H:Hp) (d:D) (v:V) (s:Option V),Same B U→Same U H→Lo cm B U H (ms.getD i .F) (some d) s A→s=some v→K d v B U H []):PJ cm K E ms (tVar i) (vr i):=by
 intro B U As σ H ρ Q R P;unfold vr at P;have l:=R.lo i;cases e:rg ρ i with
 |none=>rw[e] at P; exact P.elim
 |some d=>
   rw[e] at P l;obtain⟨v,hv,q⟩:=id l;exact⟨v,ah1 hv,P v B U H [] R (Gw.refl _ _ _) New.nil (f B U _ H d v _ R.bu R.uh l hv)⟩
theorem ar9{B U H:Hp}{m:Md}{d:D}{v:V}{s:Option V}{A:List Addr}(l:Lo cm B U H m (some d) s A)(hs:s=some v):LoV cm B U H m d v A:=by
 obtain⟨w,hw,q⟩:=l;rw[hs] at hw;cases hw;exact q
theorem xF{i:Nat}(hm:ms.getD i .F= .F):PJ cm (KR cm .F) E ms (tVar i) (vr i):=bb3 fun B U As H d v s _ _ l hs=>by
 rw[hm] at l;exact(ar9 l hs).1
theorem xR{i:Nat}(hm:ms.getD i .F= .R):PJ cm (KR cm .U) E ms (tVar i) (vr i):=bb3 fun B U As H d v s _ _ l hs=>by
 rw[hm] at l;exact(ar9 l hs).1
theorem xO{i:Nat}{sh:Sh}(hm:ms.getD i .F= .O sh):PJ cm (KR cm .X) E ms (tVar i) (vr i):=bb3 fun B U As H d v s b u l hs=>by
 rw[hm] at l;exact Ow.dn (b.trans u) (fun _ _ _ q=>q) (ar9 l hs)
theorem Ow.cn{B H:Hp}{d:D}{v:V}{A:List Addr}(f:Same B H)(h:Ow cm B H d (.ct .fz) v A):Cn cm B H d v:=by
 cases d with
 |lst ds=>rw[Ow] at h; obtain⟨a,xs,A',r,h1,h2,h3⟩:=h; exact⟨a,xs,r,h1,(Ows.fz h3).1⟩
 |dK ks ds=>rw[Ow] at h; obtain⟨a,xs,A',r,h1,h2,h3,h4⟩:=h; exact⟨a,xs,r,h1,h2,(Ows.fz h4).1⟩
 |dT ks ds=>rw[Ow] at h; obtain⟨a,xs,A',r,h1,h2,h3,h4⟩:=h; exact⟨a,xs,r,.inl h1,h2,(Ows.fz h4).1⟩
 |scr ds=>simp[Ow] at h
 |tup ds=>simp[Ow] at h
 |obj c ns ds=>simp[Ow] at h
 |non=>simp[Ow] at h
 |bl _=>simp[Ow] at h
 |int _=>simp[Ow] at h
 |str _=>simp[Ow] at h
 |ty _=>simp[Ow] at h
theorem xC{i:Nat}(hm:ms.getD i .F= .O (.ct .fz)):PJ cm (KC cm .F) E ms (tVar i) (vr i):=bb3 fun B U As H d v s b u l hs=>by
 rw[hm] at l;exact Ow.cn (b.trans u) (ar9 l hs)
theorem p_c{d:D}{v:V}(h:∀ G,Dn cm G d v):PJ cm (KR cm .F) E ms (tC v) (cst d):=fun B U As σ H ρ Q R P=>P v B U H [] R (Gw.refl _ _ _) New.nil (h _)
theorem pI{i:Int}:PJ cm (KR cm .F) E ms (tC (.int i)) (cst (.int i)):=p_c fun _=>by rw[Dn]
theorem pB{b:Bool}:PJ cm (KR cm .F) E ms (tC (.bl b)) (cst (.bl b)):=p_c fun _=>by rw[Dn]
theorem pN:PJ cm (KR cm .F) E ms (tC .non) (cst .non):=p_c fun _=>by rw[Dn]
theorem pT{n:String}:PJ cm (KR cm .F) E ms (tC (.ty n)) (cst (.ty n)):=p_c fun _=>by rw[Dn]
end
def isNb(neg:Bool)(x y:D):Res D:=if aU3 y=true then .ok (.bl (neg.xor (aU3 x))) else .bad
def tst(m:Env→Res D):Env→Res Bool:=fun ρ=>(m ρ).bind truB
def andT(a b:Env→Res Bool):Env→Res Bool:=fun ρ=>(a ρ).bind fun c=>if c=true then b ρ else .ok false
def orT(a b:Env→Res Bool):Env→Res Bool:=fun ρ=>(a ρ).bind fun c=>if c=true then .ok true else b ρ
section
variable{cm:Cm}{E:XK}{ms:List Md}
def S2(cm:Cm)(r:R2)(f:D→D→Res D):Prop:=∀ H x y v u,Dn cm H x v→Dn cm H y u→match f x y with
 |.ok d=>∃ w,(∀ G,Dn cm G d w)∧∀ Q:VK,Q w H→r v u H Q
 |.exc _=>False
 |.bad=>True
def S1(cm:Cm)(r:V→Hp→VK→Prop)(f:D→Res D):Prop:=∀ H x v,Dn cm H x v→match f x with
 |.ok d=>∃ w,(∀ G,Dn cm G d w)∧∀ Q:VK,Q w H→r v H Q
 |.exc _=>False
 |.bad=>True
section
variable{r:R2}{r1:V→Hp→VK→Prop}{rb:List V→Hp→VK→Prop}{f:D→D→Res D}{f1:D→Res D}{ta tb:TE}{ma mb:Env→Res D}
theorem p_op(h:S2 cm r f)(ha:PJ cm (KR cm .X) E ms ta ma)(hb:PJ cm (KR cm .X) E ms tb mb):PJ cm (KR cm .F) E ms (tOp r ta tb) (bn f ma mb):=by
 intro B U As σ H ρ Q R P;refine ha.bnd R P fun x v B1 U1 H1 N1 _ R1 e1 n1 d1 P1=>hb.bnd R1 P1 fun y u B2 U2 H2 N2 _ R2 e2 n2 d2 P2=>?_;have q:=h H2 x y v u (Dn.mono e2.h d1) d2;cases e:f x y with
 |ok d=>
   rw[e] at q P2;obtain⟨w,hw,k⟩:=q;exact k Q (P2 w B2 U2 H2 [] R2 (Gw.refl _ _ _) New.nil (hw _))
 |exc c=>rw[e] at q; exact q.elim
 |bad=>rw[e] at P2; exact P2.elim
theorem p_un(h:S1 cm r1 f1)(ha:PJ cm (KR cm .X) E ms ta ma):PJ cm (KR cm .F) E ms (tUn r1 ta) (un f1 ma):=by
 intro B U As σ H ρ Q R P;refine ha.bnd R P fun x v B1 U1 H1 N1 _ R1 e1 n1 d1 P1=>?_;have q:=h H1 x v d1;cases e:f1 x with
 |ok d=>
   rw[e] at q P1;obtain⟨w,hw,k⟩:=q;exact k Q (P1 w B1 U1 H1 [] R1 (Gw.refl _ _ _) New.nil (hw _))
 |exc c=>rw[e] at q; exact q.elim
 |bad=>rw[e] at P1; exact P1.elim
theorem aw0(h:S1 cm (fun v H Q=>rb [v] H Q) f1)(ha:PJ cm (KR cm .X) E ms ta ma):PJ cm (KR cm .F) E ms (tCB rb (af7 ta tNil)) (un f1 ma):=p_un h ha
theorem cy4(h:S2 cm (fun v u H Q=>rb [v,u] H Q) f)(ha:PJ cm (KR cm .X) E ms ta ma)(hb:PJ cm (KR cm .X) E ms tb mb):PJ cm (KR cm .F) E ms (tCB rb (af7 ta (af7 tb tNil))) (bn f ma mb):=p_op h ha hb
end
theorem S2.imp{r r':R2}{f:D→D→Res D}(h:S2 cm r f)(k:∀ x y H Q,r x y H Q→r' x y H Q):S2 cm r' f:=by
 intro H x y v u hx hy;have q:=h H x y v u hx hy;cases e:f x y with
 |ok d=>
   rw[e] at q;obtain⟨w,hw,q⟩:=q;exact⟨w,hw,fun Q z=>k _ _ _ _ (q Q z)⟩
 |exc c=>rw[e] at q; exact q
 |bad=>trivial
theorem sI0{g:Int→Int→Int}:S2 cm (rI0 fun i j=> .int (g i j)) (iI g):=by
 intro H x y v u hx hy;cases x with
 |int i=>
   cases y with
   |int j=>
     rw[Dn] at hx; rw[Dn] at hy;subst hx hy;exact⟨.int (g i j),fun _=>by rw[Dn],fun Q q=>⟨i,j,rfl,rfl,q⟩⟩
   |_=>trivial
 |_=>trivial
theorem sB0{g:Int→Int→Bool}:S2 cm (rI0 fun i j=> .bl (g i j)) (iB g):=by
 intro H x y v u hx hy;cases x with
 |int i=>
   cases y with
   |int j=>
     rw[Dn] at hx; rw[Dn] at hy;subst hx hy;exact⟨.bl (g i j),fun _=>by rw[Dn],fun Q q=>⟨i,j,rfl,rfl,q⟩⟩
   |_=>trivial
 |_=>trivial
theorem sIc{C:Int→Int→Prop}{c:Int→Int→Bool}{g:Int→Int→Int}(hc:∀ i j,c i j=true→C i j):S2 cm (rI C fun i j=> .int (g i j)) (iC c g):=by
 intro H x y v u hx hy;cases x with
 |int i=>
   cases y with
   |int j=>
     rw[Dn] at hx; rw[Dn] at hy;subst hx hy;unfold iC;dsimp only;by_cases z:c i j=true
     ·rw[Aa6 z];exact⟨.int (g i j),fun _=>by rw[Dn],fun Q q=>⟨i,j,rfl,rfl,hc i j z,q⟩⟩
     ·rw[Aa3 z];trivial
   |_=>trivial
 |_=>trivial
theorem av9:S2 cm (rI0 fun i j=> .int (i + j)) addI:=sI0
theorem s_lt:S2 cm (rI0 fun i j=> .bl (decide (i < j))) ltI:=sB0
theorem s_gt:S2 cm (rI0 fun i j=> .bl (decide (j < i))) gtI:=sB0
theorem s_ge:S2 cm (rI0 fun i j=> .bl (decide (j≤i))) geI:=sB0
theorem bG7:S2 cm (rI CMul fun i j=> .int (i * j)) mulI:=sIc fun _ _ h=>by simpa [CMul] using h
theorem bP1:S2 cm (rI CDiv fun i j=> .int (i / j)) bj3:=sIc fun _ _ h=>by simpa [CDiv] using h
theorem aG8:S2 cm (rI (fun _ j=>0 < j) fun i j=> .int (i % j)) modI:=sIc fun _ _ h=>Ao3 h
theorem s_pow:S2 cm (rI CPow fun i j=> .int (i ^ j.toNat)) powI:=sIc fun _ _ h=>by simpa [CPow] using h
theorem cv0:S1 cm (rU fun i=> .int (-i)) negI:=by
 intro H x v hx;cases x with
 |int i=>
   rw[Dn] at hx;subst hx;exact⟨.int (-i),fun _=>by rw[Dn],fun Q q=>⟨i,rfl,q⟩⟩
 |_=>trivial
theorem cv4(neg:Bool):S2 cm (fun x y H Q=>scal x y=true∧Q (.bl (neg.xor (decide (x=y)))) H) (eqS neg):=by
 intro H x y v u hx hy;cases x with
 |int i=>
   cases y with
   |int j=>
     rw[Dn] at hx; rw[Dn] at hy;subst hx hy;exact⟨_,fun _=>by rw[Dn],fun Q q=>⟨rfl,by simpa using q⟩⟩
   |non=>
     rw[Dn] at hx; rw[Dn] at hy;subst hx hy;exact⟨_,fun _=>by rw[Dn],fun Q q=>⟨rfl,by simpa using q⟩⟩
   |_=>trivial
 |str i=>
   cases y with
   |str j=>
     rw[Dn] at hx; rw[Dn] at hy;subst hx hy;exact⟨_,fun _=>by rw[Dn],fun Q q=>⟨rfl,by simpa using q⟩⟩
   |_=>trivial
 |bl i=>
   cases y with
   |bl j=>
     rw[Dn] at hx; rw[Dn] at hy;subst hx hy;exact⟨_,fun _=>by rw[Dn],fun Q q=>⟨rfl,by simpa using q⟩⟩
   |_=>trivial
 |non=>
   cases y with
   |int j=>
     rw[Dn] at hx; rw[Dn] at hy;subst hx hy;exact⟨_,fun _=>by rw[Dn],fun Q q=>⟨rfl,by simpa using q⟩⟩
   |non=>
     rw[Dn] at hx; rw[Dn] at hy;subst hx hy;exact⟨_,fun _=>by rw[Dn],fun Q q=>⟨rfl,by simpa using q⟩⟩
   |_=>trivial
 |_=>cases y <;> trivial
theorem s_eq:S2 cm rEq (eqS false):=(cv4 false).imp fun x y H Q h=>⟨h.1,by simpa using h.2⟩
theorem s_ne:S2 cm rNe (eqS true):=(cv4 true).imp fun x y H Q h=>⟨h.1,by simpa using h.2⟩
theorem Dn.non{G:Hp}{d:D}{v:V}(h:Dn cm G d v):decide (v= .non)=aU3 d:=by
 cases d with
 |non=>rw[Dn] at h; subst h; rfl
 |bl _=>rw[Dn] at h; subst h; rfl
 |int _=>rw[Dn] at h; subst h; rfl
 |str _=>rw[Dn] at h; subst h; rfl
 |ty _=>rw[Dn] at h; subst h; rfl
 |lst _=>rw[Dn] at h; obtain⟨a,xs,e,_⟩:=h; subst e; rfl
 |scr _=>rw[Dn] at h; obtain⟨a,xs,e,_⟩:=h; subst e; rfl
 |tup _=>rw[Dn] at h; obtain⟨a,xs,e,_⟩:=h; subst e; rfl
 |dK _ _=>rw[Dn] at h; obtain⟨a,xs,e,_⟩:=h; subst e; rfl
 |dT _ _=>rw[Dn] at h; obtain⟨a,xs,e,_⟩:=h; subst e; rfl
 |obj _ _ _=>rw[Dn] at h; obtain⟨a,dx,xs,e,_⟩:=h; subst e; rfl
theorem s_is:S2 cm (fun x y H Q=>y= .non∧Q (.bl (decide (x= .non))) H) (isNb false):=by
 intro H x y v u hx hy;unfold isNb;by_cases e:aU3 y=true
 · rw[Aa6 e]
   have:decide (u= .non)=true:=by rw[Dn.non hy]; exact e
   refine⟨_,fun _=>by rw[Dn],fun Q q=>⟨Ao3 this,?_⟩⟩;rw[Dn.non hx];simpa using q
 ·rw[Aa3 e];trivial
theorem ax8:S1 cm (fun v H Q=>∃ p ys,[v]=[.ref p]∧(SqL cm.K H p ys∨SqT cm.K H p ys)∧Q (.int ys.length) H) lenD:=by
 intro H x v hx;cases x with
 |lst ds=>
   rw[Dn] at hx;obtain⟨a,xs,rfl,h1,h2⟩:=hx;exact⟨.int ds.length,fun _=>by rw[Dn],fun Q q=>⟨a,xs,rfl,.inl (SqL.of h1),by rw[← h2.len]; exact q⟩⟩
 |scr ds=>
   rw[Dn] at hx;obtain⟨a,xs,rfl,h1,h2⟩:=hx;exact⟨.int ds.length,fun _=>by rw[Dn],fun Q q=>⟨a,xs,rfl,.inl h1.sq,by rw[← h2.len]; exact q⟩⟩
 |tup ds=>
   rw[Dn] at hx;obtain⟨a,xs,rfl,h1,h2⟩:=hx;exact⟨.int ds.length,fun _=>by rw[Dn],fun Q q=>⟨a,xs,rfl,.inr (SqT.of h1),by rw[← h2.len]; exact q⟩⟩
 |_=>trivial
theorem cx3{ta:TE}{ma:Env→Res D}(ha:PJ cm (KR cm .X) E ms ta ma):PJ cm (KR cm .F) E ms (cs4 ta) (un notB ma):=by
 intro B U As σ H ρ Q R P;refine ha.bnd R P fun x v B1 U1 H1 N1 _ R1 e1 n1 d1 P1=>?_;cases x with
 |bl b=>
   have d1:Dn cm H1 (.bl b) v:=d1;rw[Dn] at d1;exact⟨b,d1,P1 _ B1 U1 H1 [] R1 (Gw.refl _ _ _) New.nil (show Dn cm _ (.bl (!b)) _ by rw[Dn])⟩
 |_=>exact P1.elim
theorem cx2{t:TE}{m:Env→Res D}(h:PJ cm (KR cm .X) E ms t m):PJ cm KB E ms (fun σ H Q=>t σ H fun x H1=>∃ c,x= .bl c∧Q c H1) (tst m):=by
 intro B U As σ H ρ Q R P;refine h.bnd R P fun x v B1 U1 H1 N1 _ R1 e1 n1 d1 P1=>?_;cases x with
 |bl b=>
   have d1:Dn cm H1 (.bl b) v:=d1;rw[Dn] at d1;exact⟨b,d1,P1 _ B1 U1 H1 [] R1 (Gw.refl _ _ _) New.nil rfl⟩
 |_=>exact P1.elim
theorem pt_B{t:TE}{m:Env→Res D}(h:PJ cm (KR cm .X) E ms t m):PJ cm KB E ms (tB t) (tst m):=cx2 h
theorem pt_T{t:TE}{m:Env→Res D}(h:PJ cm (KR cm .X) E ms t m):PJ cm KB E ms (cs1 t) (tst m):=cx2 h
theorem cw2{t u:TT}{m n:Env→Res Bool}(h:PJ cm KB E ms t m)(k:PJ cm KB E ms u n):PJ cm KB E ms (tAnd t u) (andT m n):=by
 intro B U As σ H ρ Q R P;refine h.bnd R P fun x v B1 U1 H1 N1 _ R1 e1 n1 d1 P1=>?_;cases d1;cases x with
 |true=>exact k B1 U1 As σ H1 ρ Q R1 P1
 |false=>exact P1 _ B1 U1 H1 [] R1 (Gw.refl _ _ _) New.nil rfl
theorem bH3{t u:TT}{m n:Env→Res Bool}(h:PJ cm KB E ms t m)(k:PJ cm KB E ms u n):PJ cm KB E ms (tOr t u) (orT m n):=by
 intro B U As σ H ρ Q R P;refine h.bnd R P fun x v B1 U1 H1 N1 _ R1 e1 n1 d1 P1=>?_;cases d1;cases x with
 |false=>exact k B1 U1 As σ H1 ρ Q R1 P1
 |true=>exact P1 _ B1 U1 H1 [] R1 (Gw.refl _ _ _) New.nil rfl
theorem cg7{k:Kd}{ta tb:TE}{ma mb:Env→Res D}(ha:PJ cm (KR cm .X) E ms ta ma)(hb:PJ cm (KR cm k) E ms tb mb):PJ cm (KR cm k) E ms (cs8 ta tb) (andD ma mb):=by
 intro B U As σ H ρ Q R P;unfold andD at P
 have P':Po cm (KR cm k) E ms B U As σ H ρ ((ma ρ).bind fun x=>(truB x).bind fun c=>if c=true then mb ρ else .ok (.bl false)) Q:=by
  cases e:ma ρ <;> (rw[e] at P; exact P)
 refine ha.bnd R P' fun x v B1 U1 H1 N1 _ R1 e1 n1 d1 P1=>?_;cases x with
 |bl b=>
   have d1:Dn cm H1 (.bl b) v:=d1;rw[Dn] at d1;refine⟨b,d1,?_⟩;cases b with
   |true=>exact hb B1 U1 As σ H1 ρ Q R1 P1
   |false=>exact P1 _ B1 U1 H1 [] R1 (Gw.refl _ _ _) New.nil (show Dn cm _ (.bl false) _ by rw[Dn])
 |_=>exact P1.elim
end
section
variable{cm:Cm}{E:XK}{ms:List Md}{K:PySem.W.Frag}
theorem am9{n:Nat}(h:n≤aa6):n < sizeLine:=by
 have:=As6
 unfold aa6 at h;omega
theorem bC7{G:Hp}{ds:List D}{xs:List V}{i:Int}{d:D}(h:Dns cm G ds xs)(e:atI ds i=some d):∃ v,atI xs i=some v∧Dn cm G d v:=by
 unfold atI at e ⊢;rw[← h.len];cases q:ixN ds.length i with
 |none=>rw[q] at e; cases e
 |some j=>
   rw[q] at e;exact h.get e
theorem at7{k:Kd}{ta tb:TE}{ma mb:Env→Res D}(ha:PJ cm (KC cm k) E ms ta ma)(hb:PJ cm (KR cm .X) E ms tb mb):PJ cm (KR cm k) E ms (tOp (rIxL cm.K) ta tb) (bn ixL ma mb):=by
 intro B U As σ H ρ Q R P;refine ha.bnd R P fun x v B1 U1 H1 N1 _ R1 e1 n1 d1 P1=>hb.bnd R1 P1 fun y u B2 U2 H2 N2 _ R2 e2 n2 d2 P2=>?_;have c:=Cn.mono (aq4 e2) e2.h d1;have d2:Dn cm H2 y u:=d2
 have fin:∀ (ds:List D) (i:Int),Po cm (KR cm k) E ms B2 U2 As σ H2 ρ (atD ds i) Q→∀ xs,Dns cm (hp k B2 U2 H2) ds xs→∃ w,atI xs i=some w∧Q w H2:=fun ds i P3 xs h=>by
  unfold atD at P3;cases q:atI ds i with
  |none=>rw[q] at P3; exact P3.elim
  |some d=>
    rw[q] at P3;obtain⟨w,hw,dw⟩:=bC7 h q;exact⟨w,hw,P3 w B2 U2 H2 [] R2 (Gw.refl _ _ _) New.nil dw⟩
 cases x with
 |lst ds=>
   cases y with
   |int i=>
     rw[Dn] at d2;obtain⟨a,xs,r,h1,h2⟩:=c;obtain⟨w,hw,q⟩:=fin ds i P2 xs h2;exact⟨a,xs,i,w,r,d2,SqL.of h1,hw,q⟩
   |_=>exact P2.elim
 |scr ds=>
   cases y with
   |int i=>
     rw[Dn] at d2;obtain⟨a,xs,r,h1,h2⟩:=c;obtain⟨w,hw,q⟩:=fin ds i P2 xs h2;exact⟨a,xs,i,w,r,d2,h1.sq,hw,q⟩
   |_=>exact P2.elim
 |_=>cases y <;> exact P2.elim
theorem aT4{k:Kd}{ta tb:TE}{ma mb:Env→Res D}(ha:PJ cm (KC cm k) E ms ta ma)(hb:PJ cm (KR cm .X) E ms tb mb):PJ cm (KR cm k) E ms (tOp (rIxT K) ta tb) (bn ixT ma mb):=by
 intro B U As σ H ρ Q R P;refine ha.bnd R P fun x v B1 U1 H1 N1 _ R1 e1 n1 d1 P1=>hb.bnd R1 P1 fun y u B2 U2 H2 N2 _ R2 e2 n2 d2 P2=>?_;have c:=Cn.mono (aq4 e2) e2.h d1;have d2:Dn cm H2 y u:=d2;cases x with
 |tup ds=>
   cases y with
   |int i=>
     rw[Dn] at d2;obtain⟨a,xs,r,h1,h2⟩:=c;have P3:Po cm (KR cm k) E ms B2 U2 As σ H2 ρ (atD ds i) Q:=P2;unfold atD at P3;cases q:atI ds i with
     |none=>rw[q] at P3; exact P3.elim
     |some d=>
       rw[q] at P3;obtain⟨w,hw,dw⟩:=bC7 h2 q;exact⟨a,xs,i,w,r,d2,SqT.of h1,hw,P3 w B2 U2 H2 [] R2 (Gw.refl _ _ _) New.nil dw⟩
   |_=>exact P2.elim
 |_=>cases y <;> exact P2.elim
theorem ae5{k:Kd}:PJ cm (KL cm k) E ms tNil esN:=fun B U As σ H ρ Q R P=>P [] B U H [] R (Gw.refl _ _ _) New.nil (show Dns cm _ [] [] by rw[Dns])
theorem aa9{k:Kd}{ta:TE}{tr:TA}{ma:Env→Res D}{mr:Env→Res (List D)}(ha:PJ cm (KR cm k) E ms ta ma)(hr:PJ cm (KL cm k) E ms tr mr):PJ cm (KL cm k) E ms (af7 ta tr) (esC ma mr):=by
 intro B U As σ H ρ Q R P;refine ha.bnd R P fun x v B1 U1 H1 N1 _ R1 e1 n1 d1 P1=>hr.bnd R1 P1 fun y u B2 U2 H2 N2 _ R2 e2 n2 d2 P2=>?_;refine P2 (v :: u) B2 U2 H2 [] R2 (Gw.refl _ _ _) New.nil ?_;show Dns cm _ (x :: y) (v :: u);rw[Dns];exact⟨v,u,rfl,Dn.mono (aq4 e2) d1,d2⟩
variable{B U H:Hp}{As:Nat→List Addr}{σ:St}{ρ:Env}
theorem Gw.newO(R:Rel cm ms B U As σ H ρ){p:Addr}{o:HO}(h:H p=none):Gw B U H B U (upd H p o):=⟨Ex.refl _ _,Gd.ag3 h,fun _ _ q=> .inl q⟩
theorem Gw.newB(R:Rel cm ms B U As σ H ρ){p:Addr}{o:HO}(h:H p=none):Gw B U H (upd B p o) (upd U p o) (upd H p o):=⟨Ex.newB R h,Gd.ag3 h,fun a u q=>by
 by_cases z:a=p
 ·subst z; exact .inr (.inl h)
 ·rw[ab0 z] at q; exact .inl q⟩
theorem New.one(R:Rel cm ms B U As σ H ρ){p:Addr}(h:H p=none):New [p] H U As:=⟨by simp,fun a ha=>by rw[List.mem_singleton.mp ha]; exact h,fun a ha=>by rw[List.mem_singleton.mp ha]; exact R.uh.free h⟩
theorem al5(R:Rel cm ms B U As σ H ρ){ds:List D}{xs:List V}{Q:VK}(P:Po cm (KO cm (.ct .fz)) E ms B U As σ H ρ (.ok (.lst ds)) Q)(h:Dns cm B ds xs){p:Addr}(hp:H p=none):Q (.ref p) (upd H p (.lst xs)):=
 P (.ref p) B U _ [p] (R.new hp) (Gw.newO R hp) (New.one R hp) (by
  show Ow cm B _ (.lst ds) (.ct .fz) (.ref p) [p];rw[Ow]
  exact⟨p,xs,[],rfl,ab3,rfl,Ows.of h⟩)
theorem bc3(R:Rel cm ms B U As σ H ρ){ds:List D}{xs:List V}{Q:VK}(P:Po cm (KR cm .F) E ms B U As σ H ρ (.ok (.tup ds)) Q)(h:Dns cm B ds xs){p:Addr}(hp:H p=none):Q (.ref p) (upd H p (.tup xs)):=
 P (.ref p) _ _ _ [] (R.newB hp) (Gw.newB R hp) New.nil (by
  show Dn cm (upd B p (.tup xs)) (.tup ds) (.ref p);rw[Dn]
  exact⟨p,xs,rfl,ab3,h.mono (Gd.ag3 (R.bh.free hp))⟩)
section
variable{t:TA}{m:Env→Res (List D)}
theorem aD0(h:PJ cm (KL cm .F) E ms t m):PJ cm (KO cm (.ct .fz)) E ms (tLst t) (mkL m):=by
 intro B U As σ H ρ Q R P;refine h.bnd R P fun ds xs B1 U1 H1 N1 _ R1 e1 n1 d1 P1=>?_;by_cases z:ds.length≤aa6
 ·rw[Aa6 z] at P1;have d1:Dns cm B1 ds xs:=d1;exact⟨Ah0 (am9 (by rw[← d1.len]; exact z)),fun p hp=>al5 R1 P1 d1 hp⟩
 ·rw[Aa3 z] at P1;exact P1.elim
theorem ar3(h:PJ cm (KL cm .F) E ms t m):PJ cm (KR cm .F) E ms (tTup t) (mkT m):=by
 intro B U As σ H ρ Q R P;refine h.bnd R P fun ds xs B1 U1 H1 N1 _ R1 e1 n1 d1 P1=>?_;by_cases z:ds.length≤aa6
 ·rw[Aa6 z] at P1;have d1:Dns cm B1 ds xs:=d1;exact⟨Ah0 (am9 (by rw[← d1.len]; exact z)),fun p hp=>bc3 R1 P1 d1 hp⟩
 ·rw[Aa3 z] at P1;exact P1.elim
end
theorem aT5:PJ cm (KO cm (.ct .fz)) E ms bO5 (cst (.dT [] [])):=by
 intro B U As σ H ρ Q R P p hp;refine P (.ref p) B U _ [p] (R.new hp) (Gw.newO R hp) (New.one R hp) ?_;show Ow cm B _ (.dT [] []) (.ct .fz) (.ref p) [p];rw[Ow];exact⟨p,[],[],rfl,ab3,rfl,rfl,Ows.of (by rw[Af6,Dns])⟩
theorem p_dnK:PJ cm (KO cm (.ct .fz)) E ms bO6 (cst (.dK [] [])):=by
 intro B U As σ H ρ Q R P p hp;refine P (.ref p) B U _ [p] (R.new hp) (Gw.newO R hp) (New.one R hp) ?_;show Ow cm B _ (.dK [] []) (.ct .fz) (.ref p) [p];rw[Ow];exact⟨p,[],[],rfl,ab3,rfl,rfl,Ows.of (by rw[Af6,Dns])⟩
theorem cK5{G:Hp}{x y:D}{v u:V}(hx:Cn cm G H x v)(hy:Cn cm G H y u){C:Res D→Prop}(hb:C .bad→False)(P:C (catL x y)){Q:VK}
 (h:∀ ds es xs ys,Dns cm G (ds ++ es) (xs ++ ys)→C (.ok (.lst (ds ++ es)))→∀ p,H p=none→Q (.ref p) (upd H p (.lst (xs ++ ys)))):rCat v u H Q:=by
 cases x with
 |lst ds=>
   cases y with
   |lst es=>
     obtain⟨a,xs,r,h1,h2⟩:=hx;obtain⟨b,ys,r',h3,h4⟩:=hy;have P':C (if ds.length + es.length≤aa6 then .ok (.lst (ds ++ es)) else .bad):=P;by_cases z:ds.length + es.length≤aa6
     ·rw[Aa6 z] at P';exact⟨a,b,xs,ys,r,r',h1,h3,Ah0 (am9 (by rw[← h2.len,← h4.len]; exact z)),h ds es xs ys (h2.append h4) P'⟩
     ·rw[Aa3 z] at P';exact(hb P').elim
   |_=>exact(hb P).elim
 |_=>cases y <;> exact(hb P).elim
theorem p_cat{ta tb:TE}{ma mb:Env→Res D}(ha:PJ cm (KC cm .F) E ms ta ma)(hb:PJ cm (KC cm .F) E ms tb mb):PJ cm (KO cm (.ct .fz)) E ms (tOp rCat ta tb) (bn catL ma mb):=by
 intro B U As σ H ρ Q R P;refine ha.bnd R P fun x v B1 U1 H1 N1 _ R1 e1 n1 d1 P1=>hb.bnd R1 P1 fun y u B2 U2 H2 N2 _ R2 e2 n2 d2 P2=>?_;exact cK5 (G:=B2) (Cn.mono e2.b e2.h d1) d2 (C:=fun r=>Po cm (KO cm (.ct .fz)) E ms B2 U2 As σ H2 ρ r Q) (fun h=>h) P2 fun ds es xs ys h P3 p hp=>al5 R2 P3 h hp
theorem bs7{G:Hp}{x:D}{v:V}(hx:Cn cm G H x v){C:Res D→Prop}(hb:C .bad→False)(P:C (bc6 x)){Q:VK}
 (h:∀ ds xs,Dns cm G ds xs→C (.ok (.lst ds))→∀ p,H p=none→Q (.ref p) (upd H p (.lst xs))):∃ p ys,[v]=[.ref p]∧(SqL cm.K H p ys∨SqT cm.K H p ys)∧∀ l,H l=none→Q (.ref l) (upd H l (.lst ys)):=by
 cases x with
 |lst ds=>
   obtain⟨a,xs,r,h1,h2⟩:=hx;exact⟨a,xs,by rw[r],.inl (SqL.of h1),h ds xs h2 P⟩
 |scr ds=>
   obtain⟨a,xs,r,h1,h2⟩:=hx;exact⟨a,xs,by rw[r],.inl h1.sq,h ds xs h2 P⟩
 |tup ds=>
   obtain⟨a,xs,r,h1,h2⟩:=hx;exact⟨a,xs,by rw[r],.inr (SqT.of h1),h ds xs h2 P⟩
 |_=>exact(hb P).elim
theorem cx8{ta:TE}{ma:Env→Res D}(ha:PJ cm (KC cm .F) E ms ta ma):
 PJ cm (KO cm (.ct .fz)) E ms (tCB (fun xs H Q=>∃ p ys,xs=[.ref p]∧(SqL cm.K H p ys∨SqT cm.K H p ys)∧∀ l,H l=none→Q (.ref l) (upd H l (.lst ys))) (af7 ta tNil)) (un bc6 ma):=by
 intro B U As σ H ρ Q R P;refine ha.bnd R P fun x v B1 U1 H1 N1 _ R1 e1 n1 d1 P1=>?_;exact bs7 (G:=B1) d1 (C:=fun r=>Po cm (KO cm (.ct .fz)) E ms B1 U1 As σ H1 ρ r Q) (fun h=>h) P1 fun ds xs h P3 p hp=>al5 R1 P3 h hp
def tupL:D→Res D | .lst xs=> .ok (.tup xs) | _=> .bad
theorem bq2{ta:TE}{ma:Env→Res D}(ha:PJ cm (KC cm .F) E ms ta ma):
 PJ cm (KR cm .F) E ms (tCB (fun xs H Q=>∃ p ys,xs=[.ref p]∧((SqL K H p ys∧∀ l,H l=none→Q (.ref l) (upd H l (.tup ys)))∨(SqT K H p ys∧Q (.ref p) H))) (af7 ta tNil)) (un tupL ma):=by
 intro B U As σ H ρ Q R P;refine ha.bnd R P fun x v B1 U1 H1 N1 _ R1 e1 n1 d1 P1=>?_;cases x with
 |lst ds=>
   obtain⟨a,xs,r,h1,h2⟩:=d1;exact⟨a,xs,by rw[r],.inl ⟨SqL.of h1,fun p hp=>bc3 R1 P1 h2 hp⟩⟩
 |_=>exact P1.elim
theorem an8{G:Hp}:∀ {ds:List D} {xs:List V} {k:List Key},ai4 ds=some k→Dns cm G ds xs→xs=k.map kV
 |[],_,_,e,h=>by rw[Dns] at h; cases e; rw[h]; rfl
 | d :: ds,_,k,e,h=>by
   rw[Dns] at h;obtain⟨x,r,rfl,h1,h2⟩:=h;unfold ai4 at e;cases q:ai6 d with
   |none=>rw[q] at e; cases e
   |some k0=>
     cases q2:ai4 ds with
     |none=>rw[q,q2] at e; cases e
     |some ks=>
       rw[q,q2] at e;cases e;rw[an8 q2 h2,Aa2];congr 1;cases d with
       |int i=>cases q; rw[Dn] at h1; exact h1
       |str x=>cases q; rw[Dn] at h1; exact h1
       |_=>cases q
theorem aI1{G:Hp}{d:D}{v:V}{k:Key}(e:ai6 d=some k)(h:Dn cm G d v):v=kV k:=by
 cases d with
 |int i=>cases e; rw[Dn] at h; exact h
 |str x=>cases e; rw[Dn] at h; exact h
 |_=>cases e
def OI(cm:Cm)(G:Hp):Option D→Option V→Prop
 |some d,r=>∃ v,r=some v∧Dn cm G d v
 |none,r=>r=none
section
variable{κ:Type}[DecidableEq κ]
theorem ar8{G:Hp}:∀ {kvs:List (κ×V)} {ds:List D} (j:κ),Dns cm G ds (kvs.map (·.2))→OI cm G (ae6 (kvs.map (·.1)) ds j) (valV kvs j)
 | [],ds,j,h=>by
   cases ds with
   |nil=>exact bD8
   |cons d ds=>rw[Dns] at h; obtain⟨x,r,e,_⟩:=h; cases e
 | p :: kvs,ds,j,h=>by
   cases ds with
   |nil=>rw[Dns] at h; cases h
   |cons d ds=>
     rw[List.map_cons,Dns] at h;obtain⟨x,r,e,h1,h2⟩:=h;cases e;rw[List.map_cons];unfold ae6;by_cases q:p.1=j
     ·rw[Aa6 q];exact⟨p.2,aw4 q,h1⟩
     ·rw[Aa3 q,aw5 q];exact ar8 j h2
end
theorem az7{G:Hp}{d k:D}{v u:V}{o:Option D}(hd:Cn cm G H d v)(hk:Dn cm H k u)(e:aD2 d k=some o):∃ a r,v= .ref a∧IsD H a∧DGet H a u r∧OI cm G o r:=by
 cases d with
 |dT ks vs=>
   obtain⟨a,kvs,rfl,h1,h2,h3⟩:=hd;cases k with
   |tup kd=>
     have e:(ai4 kd).map (fun k=>ae6 ks vs k)=some o:=e;obtain⟨kk,ek,eo⟩:=Option.map_eq_some_iff.mp e;rw[Dn] at hk;obtain⟨b,xs,rfl,h4,h5⟩:=hk;have ex:=an8 ek h5;subst ex;refine⟨a,valV kvs kk,rfl,.inr ⟨kvs,h1⟩,.inr ⟨kvs,_,_,h1,rfl,h4,rfl⟩,?_⟩;have l:=ar8 (κ:=List Key) kk h3;rw[h2,eo] at l;exact l
   |_=>cases e
 |dK ks vs=>
   obtain⟨a,kvs,rfl,h1,h2,h3⟩:=hd;have e:(ai6 k).map (fun k=>ae6 ks vs k)=some o:=by cases k <;> exact e
   obtain⟨kk,ek,eo⟩:=Option.map_eq_some_iff.mp e;have ex:=aI1 ek hk;subst ex;refine⟨a,valV kvs kk,rfl,.inl ⟨kvs,.inl h1⟩,DGet.k h1,?_⟩;have l:=ar8 (κ:=Key) kk h3;rw[h2,eo] at l;exact l
 |_=>cases k <;> cases e
theorem cy3{k:Kd}{td tk:TE}{md mk:Env→Res D}(hd:PJ cm (KC cm k) E ms td md)(hk:PJ cm (KR cm .X) E ms tk mk):PJ cm (KR cm k) E ms (cs7 td tk) (bn bj5 md mk):=by
 intro B U As σ H ρ Q R P;refine hd.bnd R P fun x v B1 U1 H1 N1 _ R1 e1 n1 d1 P1=>hk.bnd R1 P1 fun y u B2 U2 H2 N2 _ R2 e2 n2 d2 P2=>?_;unfold bj5 at P2;cases q:aD2 x y with
 |none=>rw[q] at P2; exact P2.elim
 |some o=>
   obtain⟨a,r,ea,_,g,l⟩:=az7 (Cn.mono (aq4 e2) e2.h d1) d2 q;cases o with
   |none=>rw[q] at P2; exact P2.elim
   |some d=>
     rw[q] at P2;obtain⟨w,rfl,dw⟩:=l;exact⟨a,w,ea,g,P2 w B2 U2 H2 [] R2 (Gw.refl _ _ _) New.nil dw⟩
theorem cg4{k:Kd}{td tk:TE}{md mk:Env→Res D}(hk:PJ cm (KR cm .X) E ms tk mk)(hd:PJ cm (KC cm k) E ms td md):PJ cm (KR cm .F) E ms (tDIn tk td) (bn (dinD false) mk md):=by
 intro B U As σ H ρ Q R P;refine hk.bnd R P fun y u B1 U1 H1 N1 _ R1 e1 n1 d1 P1=>hd.bnd R1 P1 fun x v B2 U2 H2 N2 _ R2 e2 n2 d2 P2=>?_;unfold dinD at P2;cases q:aD2 x y with
 |none=>rw[q] at P2; exact P2.elim
 |some o=>
   rw[q] at P2;obtain⟨a,r,ea,_,g,l⟩:=az7 d2 (Dn.mono e2.h d1) q;refine⟨a,r,ea,g,P2 _ B2 U2 H2 [] R2 (Gw.refl _ _ _) New.nil ?_⟩;show Dn cm _ (.bl (false.xor o.isSome)) _;rw[Dn];cases o with
   |none=>rw[show r=none from l]; rfl
   |some d=>obtain⟨w,rfl,_⟩:=l; rfl
theorem cy2{k:Kd}{td tk:TE}{md mk:Env→Res D}(hk:PJ cm (KR cm .X) E ms tk mk)(hd:PJ cm (KC cm k) E ms td md):PJ cm (KR cm .F) E ms (bl0 tk td) (bn (dinD true) mk md):=by
 intro B U As σ H ρ Q R P;refine hk.bnd R P fun y u B1 U1 H1 N1 _ R1 e1 n1 d1 P1=>hd.bnd R1 P1 fun x v B2 U2 H2 N2 _ R2 e2 n2 d2 P2=>?_;unfold dinD at P2;cases q:aD2 x y with
 |none=>rw[q] at P2; exact P2.elim
 |some o=>
   rw[q] at P2;obtain⟨a,r,ea,_,g,l⟩:=az7 d2 (Dn.mono e2.h d1) q;refine⟨a,r,ea,g,P2 _ B2 U2 H2 [] R2 (Gw.refl _ _ _) New.nil ?_⟩;show Dn cm _ (.bl (true.xor o.isSome)) _;rw[Dn];cases o with
   |none=>rw[show r=none from l]; rfl
   |some d=>obtain⟨w,rfl,_⟩:=l; rfl
def bt7:D→Bool | .dT _ _=>true | .dK _ _=>true | _=>false
theorem Cn.dic{G:Hp}{d:D}{v:V}(h:Cn cm G H d v)(e:bt7 d=true):∃ a,v= .ref a∧IsD H a:=by
 cases d with
 |dT ks vs=>obtain⟨a,kvs,r,h1,_⟩:=h; exact⟨a,r,.inr ⟨kvs,h1⟩⟩
 |dK ks vs=>obtain⟨a,kvs,r,h1,_⟩:=h; exact⟨a,r,.inl ⟨kvs,.inl h1⟩⟩
 |_=>cases e
def cm7(md mk mx:Env→Res D):Env→Res D:=fun ρ=>(md ρ).bind fun d=>if bt7 d=true then (mk ρ).bind fun k=>(mx ρ).bind fun x=>ap3 d k x else .bad
theorem cg5{k:Kd}{td tk tx:TE}{md mk mx:Env→Res D}(hd:PJ cm (KC cm k) E ms td md)(hk:PJ cm (KR cm .X) E ms tk mk)(hx:PJ cm (KR cm k) E ms tx mx):PJ cm (KR cm k) E ms (bO7 td tk tx) (cm7 md mk mx):=by
 intro B U As σ H ρ Q R P;refine hd.bnd R P fun x v B1 U1 H1 N1 _ R1 e1 n1 d1 P1=>?_;by_cases z:bt7 x=true
 · rw[if_pos z] at P1;obtain⟨a,ea,hI⟩:=Cn.dic d1 z;refine⟨a,ea,hI,hk.bnd R1 P1 fun y u B2 U2 H2 N2 _ R2 e2 n2 d2 P2=>hx.bnd R2 P2 fun w ww B3 U3 H3 N3 _ R3 e3 n3 d3 P3=>?_⟩;unfold ap3 at P3;have c:=Cn.mono (aq4 (e2.trans e3)) (e2.trans e3).h d1;cases q:aD2 x y with
   |none=>rw[q] at P3; exact P3.elim
   |some o=>
     rw[q] at P3;obtain⟨a',r,ea',_,g,l⟩:=az7 c (Dn.mono e3.h d2) q;rw[ea] at ea';cases ea';cases o with
     |none=>
       refine⟨r,g,?_⟩;rw[show r=none from l];exact P3 ww B3 U3 H3 [] R3 (Gw.refl _ _ _) New.nil d3
     |some d=>
       obtain⟨w',rfl,dw⟩:=l;exact⟨_,g,P3 w' B3 U3 H3 [] R3 (Gw.refl _ _ _) New.nil dw⟩
 ·rw[Aa3 z] at P1;exact P1.elim
def bu8(md mk:Env→Res D):Env→Res D:=fun ρ=>(md ρ).bind fun d=>if bt7 d=true then (mk ρ).bind fun k=>ap3 d k .non else .bad
theorem bq3{k:Kd}{td tk:TE}{md mk:Env→Res D}(hd:PJ cm (KC cm k) E ms td md)(hk:PJ cm (KR cm .X) E ms tk mk):PJ cm (KR cm k) E ms (bO8 td tk) (bu8 md mk):=by
 intro B U As σ H ρ Q R P;refine hd.bnd R P fun x v B1 U1 H1 N1 _ R1 e1 n1 d1 P1=>?_;by_cases z:bt7 x=true
 · rw[if_pos z] at P1;obtain⟨a,ea,hI⟩:=Cn.dic d1 z;refine⟨a,ea,hI,hk.bnd R1 P1 fun y u B2 U2 H2 N2 _ R2 e2 n2 d2 P3=>?_⟩;unfold ap3 at P3;have c:=Cn.mono (aq4 e2) e2.h d1;cases q:aD2 x y with
   |none=>rw[q] at P3; exact P3.elim
   |some o=>
     rw[q] at P3;obtain⟨a',r,ea',_,g,l⟩:=az7 c d2 q;rw[ea] at ea';cases ea';cases o with
     |none=>
       refine⟨r,g,?_⟩;rw[show r=none from l];exact P3 .non B2 U2 H2 [] R2 (Gw.refl _ _ _) New.nil (show Dn cm _ .non .non by rw[Dn])
     |some d=>
       obtain⟨w',rfl,dw⟩:=l;exact⟨_,g,P3 w' B2 U2 H2 [] R2 (Gw.refl _ _ _) New.nil dw⟩
 ·rw[Aa3 z] at P1;exact P1.elim
end
section
variable{cm:Cm}{E:XK}{ms:List Md}{K:PySem.W.Frag}{B U H:Hp}{As:Nat→List Addr}{σ:St}{ρ:Env}
theorem aw7{G:Hp}:∀ {fs:List (Str×V)} {ds:List D} {f:Str} {d:D},Dns cm G ds (fs.map (·.2))→ae6 (fs.map (·.1)) ds f=some d→∃ v,fs.lookup f=some v∧Dn cm G d v
 |[],ds,f,d,h,e=>by cases ds <;> cases e
 | p :: fs,ds,f,d,h,e=>by
   cases ds with
   |nil=>cases e
   |cons d0 ds=>
     rw[List.map_cons,Dns] at h;obtain⟨x,r,e0,h1,h2⟩:=h;cases e0;rw[List.map_cons] at e;unfold ae6 at e;by_cases q:p.1=f
     ·rw[Aa6 q] at e;cases e;exact⟨p.2,by rw[Ac9,← q,Ah5],h1⟩
     · rw[Aa3 q] at e;obtain⟨v,hv,dv⟩:=aw7 h2 e
       have:(f == p.1)=false:=beq_eq_false_iff_ne.mpr fun z=>q z.symm
       exact⟨v,by rw[Ac9,this]; exact hv,dv⟩
theorem Owf.get{B H:Hp}{sh:List (Str×Sh)}:∀ {fs:List (Str×V)} {ds:List D} {A:List Addr} {f:Str} {d:D},Owf cm B H ds (fs.map (·.1)) sh (fs.map (·.2)) A→ae6 (fs.map (·.1)) ds f=some d→
 ∃ v A1,fs.lookup f=some v∧Ow cm B H d ((sh.lookup f).getD .fz) v A1∧∀ a∈A1,a∈A
 |[],ds,A,f,d,h,e=>by cases ds <;> cases e
 | p :: fs,ds,A,f,d,h,e=>by
   cases ds with
   |nil=>cases e
   |cons d0 ds=>
     rw[List.map_cons,List.map_cons,Owf] at h;obtain⟨n,ns',x,r,A1,A2,hn,h0,h1,h2,h3⟩:=h;cases hn;cases h0;subst h1;rw[List.map_cons] at e;unfold ae6 at e;by_cases q:p.1=f
     ·rw[Aa6 q] at e;cases e;rw[q] at h2;exact⟨p.2,A1,by rw[Ac9,← q,Ah5],h2,fun a ha=>Ab9 _ ha⟩
     · rw[Aa3 q] at e;obtain⟨v,A3,hv,ow,hA⟩:=Owf.get h3 e
       have:(f == p.1)=false:=beq_eq_false_iff_ne.mpr fun z=>q z.symm
       exact⟨v,A3,by rw[Ac9,this]; exact hv,ow,fun a ha=>Aa8 _ (hA a ha)⟩
theorem aI7{c:Nat}{f:Str}{x d:D}(h:fldD c f x= .ok d):∃ ns vs,x= .obj c ns vs∧ae6 ns vs f=some d:=by
 cases x with
 |obj c' ns vs=>
   unfold fldD at h; dsimp only at h;by_cases e:c'=c
   · rw[Aa6 e] at h;subst e;cases q:ae6 ns vs f with
     |none=>rw[q] at h; cases h
     |some y=>rw[q] at h; cases h; exact⟨ns,vs,rfl,q⟩
   ·rw[Aa3 e] at h;cases h
 |_=>cases h
theorem aw9{c:Nat}{f:Str}{x:D}{e:Nat}(h:fldD c f x= .exc e):False:=by
 cases x with
 |obj c' ns vs=>
   have h:(if c'=c then (match ae6 ns vs f with | some x=>Res.ok x | none=> .bad) else .bad)= .exc e:=h;by_cases e:c'=c
   ·rw[Aa6 e] at h;cases q:ae6 ns vs f <;> (rw[q] at h; cases h)
   ·rw[Aa3 e] at h;cases h
 |_=>cases h
theorem am7{k:Kd}{c:Nat}{f:Str}{ta:TE}{ma:Env→Res D}(hc:Cls K (cm c))(hn:NoAttr K (cm c) f)(ha:PJ cm (KC cm k) E ms ta ma):PJ cm (KR cm k) E ms (tFld K ta f) (un (fldD c f) ma):=by
 intro B U As σ H ρ Q R P;refine ha.bnd R P fun x v B1 U1 H1 N1 _ R1 e1 n1 d1 P1=>?_;cases e:fldD c f x with
 |ok d=>
   rw[e] at P1;obtain⟨ns,vs,rfl,l⟩:=aI7 e;obtain⟨a,dx,fs,r,h1,h2,h3⟩:=d1;subst h2;obtain⟨w,hw,dw⟩:=aw7 h3 l;exact⟨a,_,dx,fs,w,r,h1,hc,hn,hw,P1 w B1 U1 H1 [] R1 (Gw.refl _ _ _) New.nil dw⟩
 |exc c'=>exact(aw9 e).elim
 |bad=>rw[e] at P1; exact P1.elim
theorem cy0{K':KT D V}{c:Nat}{f:Str}{i:Nat}{sh:List (Str×Sh)}(hc:Cls K (cm c))(hn:NoAttr K (cm c) f)(hm:ms.getD i .F= .O (.ob sh))
 (hk:∀ B U H d v A,Same B U→Same U H→Ow cm B H d ((sh.lookup f).getD .fz) v A→K' d v B U H []):PJ cm K' E ms (tFld K (tVar i) f) (un (fldD c f) (vr i)):=by
 intro B U As σ H ρ Q R P;have l:=R.lo i;rw[hm] at l;unfold un vr at P;cases e:rg ρ i with
 |none=>rw[e] at P; exact P.elim
 |some d0=>
   rw[e] at P l;obtain⟨v,hv,q⟩:=l;replace P:Po cm K' E ms B U As σ H ρ (fldD c f d0) Q:=P;refine⟨v,ah1 hv,?_⟩;cases e2:fldD c f d0 with
   |ok d=>
     rw[e2] at P;obtain⟨ns,vs,rfl,l⟩:=aI7 e2;have q:Ow cm B H (.obj c ns vs) (.ob sh) v (As i):=q;rw[Ow] at q;obtain⟨a,dx,fs,A',r,h1,h2,h3,h4⟩:=q;subst h2;obtain⟨w,A1,hw,ow,_⟩:=Owf.get h4 l;exact⟨a,_,dx,fs,w,r,h1,hc,hn,hw,P w B U H [] R (Gw.refl _ _ _) New.nil (hk B U H d w A1 R.bu R.uh ow)⟩
   |exc c'=>exact(aw9 e2).elim
   |bad=>rw[e2] at P; exact P.elim
theorem aE0{c:Nat}{f:Str}{i:Nat}{sh:List (Str×Sh)}(hc:Cls K (cm c))(hn:NoAttr K (cm c) f)(hm:ms.getD i .F= .O (.ob sh))(hf:(sh.lookup f).getD .fz= .ct .fz):PJ cm (KC cm .F) E ms (tFld K (tVar i) f) (un (fldD c f) (vr i)):=
 cy0 hc hn hm fun B U H d v A b u ow=>by
  rw[hf] at ow;exact Ow.cn (b.trans u) ow
def ItIs(J:It)(H:Hp)(vs:List V):Prop:=∀ H2,Same H H2→(∀ i,vs.length≤i→J.stop i H2)∧(∀ i,i < vs.length→J.go i H2)∧∀ i x H',i < vs.length→J.yld i H2 x H'→H'=H2∧vs[i]?=some x
def KI(cm:Cm)(k g:Kd):KT (List D) It:=fun ds J B U H _=>∃ vs,ItIs J (hp g B U H) vs∧Dns cm (hp k B U H) ds vs
theorem as3{a:Addr}{xs:List V}(h:H a=some (.lst xs)∨SqF K H a xs):ItIs (Itl K a) H xs:=fun H2 s=>by
 have q:SqL K H2 a xs:=by
  rcases h with h | h
  ·exact .inl (.inl (s _ _ h))
  ·exact(h.mono s).sq
 exact⟨fun i hi=>⟨xs,q,hi⟩,fun i hi=>⟨xs,xs[i],q,Ab6 hi⟩,fun i x H' hi y=>⟨y.1,y.2 xs q⟩⟩
theorem bc9(lo:Int)(n:Nat):ItIs (Itr lo n) H ((List.range n).map fun i:Nat=>V.int (lo + i)):=fun H2 s=>by
 have hl:((List.range n).map fun i:Nat=>V.int (lo + i)).length=n:=by rw[Aa7,Ao2]
 refine⟨fun i hi=>by rw[hl] at hi; exact hi,fun i hi=>by rw[hl] at hi; exact hi,fun i x H' hi y=>⟨y.1,?_⟩⟩;rw[hl] at hi;rw[Ac7,An0 hi,y.2];rfl
theorem aV4{G:Hp}(lo:Int):∀ n:Nat,Dns cm G ((List.range n).map fun i:Nat=>D.int (lo + i)) ((List.range n).map fun i:Nat=>V.int (lo + i))
 |0=>by rw[List.range_zero,Af6,Af6,Dns]
 | n + 1=>by
   rw[List.range_succ,Ad3,Ad3];exact(aV4 lo n).append (Dns.one (by rw[Dn]))
theorem cG9{k:Kd}{ta:TE}{ma:Env→Res D}(ha:PJ cm (KC cm k) E ms ta ma):PJ cm (KI cm k .X) E ms (bu2 cm.K ta) (srcL ma):=by
 intro B U As σ H ρ Q R P;refine ha.bnd R P fun x v B1 U1 H1 N1 _ R1 e1 n1 d1 P1=>?_;cases x with
 |lst ds=>
   obtain⟨a,xs,r,h1,h2⟩:=d1;exact⟨a,r,⟨xs,SqL.of h1⟩,P1 _ B1 U1 H1 [] R1 (Gw.refl _ _ _) New.nil ⟨xs,as3 (.inl h1),h2⟩⟩
 |scr ds=>
   obtain⟨a,xs,r,h1,h2⟩:=d1;exact⟨a,r,⟨xs,h1.sq⟩,P1 _ B1 U1 H1 [] R1 (Gw.refl _ _ _) New.nil ⟨xs,as3 (.inr h1),h2⟩⟩
 |_=>exact P1.elim
theorem cm3{k:Kd}{ta:TE}{ma:Env→Res D}(ha:PJ cm (KR cm k) E ms ta ma):PJ cm (KI cm k k) E ms (bu2 cm.K ta) (srcL ma):=by
 intro B U As σ H ρ Q R P;refine ha.bnd R P fun x v B1 U1 H1 N1 _ R1 e1 n1 d1 P1=>?_;have d1:Dn cm (hp k B1 U1 H1) x v:=d1;cases x with
 |lst ds=>
   rw[Dn] at d1;obtain⟨a,xs,r,h1,h2⟩:=d1;exact⟨a,r,⟨xs,SqL.of (R1.hp k _ _ h1)⟩,P1 _ B1 U1 H1 [] R1 (Gw.refl _ _ _) New.nil ⟨xs,as3 (.inl h1),h2⟩⟩
 |scr ds=>
   rw[Dn] at d1;obtain⟨a,xs,r,h1,h2⟩:=d1;exact⟨a,r,⟨xs,(h1.mono (R1.hp k)).sq⟩,P1 _ B1 U1 H1 [] R1 (Gw.refl _ _ _) New.nil ⟨xs,as3 (.inr h1),h2⟩⟩
 |_=>exact P1.elim
theorem i_r2{g:Kd}{ta tb:TE}{ma mb:Env→Res D}(ha:PJ cm (KR cm .X) E ms ta ma)(hb:PJ cm (KR cm .X) E ms tb mb):PJ cm (KI cm .F g) E ms (cH0 (af7 ta (af7 tb tNil))) (srcR ma mb):=by
 intro B U As σ H ρ Q R P;refine ha.bnd R P fun x v B1 U1 H1 N1 _ R1 e1 n1 d1 P1=>hb.bnd R1 P1 fun y u B2 U2 H2 N2 _ R2 e2 n2 d2 P2=>?_;have d1:Dn cm H1 x v:=d1;have d2:Dn cm H2 y u:=d2;cases x with
 |int i=>
   cases y with
   |int j=>
     rw[Dn] at d1; rw[Dn] at d2;subst d1 d2;have P2:Po cm (KI cm .F g) E ms B2 U2 As σ H2 ρ (if -(2 ^ 62)≤i∧i < 2 ^ 62∧-(2 ^ 62)≤j∧j < 2 ^ 62 then .ok (rng i j) else .bad) Q:=P2;by_cases z:-(2 ^ 62)≤i∧i < 2 ^ 62∧-(2 ^ 62)≤j∧j < 2 ^ 62
     ·rw[Aa6 z] at P2;exact⟨i,j,rfl,z,P2 _ B2 U2 H2 [] R2 (Gw.refl _ _ _) New.nil ⟨_,bc9 i _,aV4 i _⟩⟩
     ·rw[Aa3 z] at P2;exact P2.elim
   |_=>exact P2.elim
 |_=>cases y <;> exact P2.elim
theorem i_r1{g:Kd}{tb:TE}{mb:Env→Res D}(hb:PJ cm (KR cm .X) E ms tb mb):PJ cm (KI cm .F g) E ms (cH1 (af7 tb tNil)) (ax5 mb):=by
 intro B U As σ H ρ Q R P
 have P:Po cm (KI cm .F g) E ms B U As σ H ρ ((mb ρ).bind fun y=>match D.int 0,y with
  |.int i,.int j=>if -(2 ^ 62)≤i∧i < 2 ^ 62∧-(2 ^ 62)≤j∧j < 2 ^ 62 then .ok (rng i j) else .bad
  |_,_=> .bad) Q:=P
 refine hb.bnd R P fun y u B2 U2 H2 N2 _ R2 e2 n2 d2 P2=>?_;have d2:Dn cm H2 y u:=d2;cases y with
 |int j=>
   rw[Dn] at d2;subst d2;have P2:Po cm (KI cm .F g) E ms B2 U2 As σ H2 ρ (if -(2 ^ 62)≤(0:Int)∧(0:Int) < 2 ^ 62∧-(2 ^ 62)≤j∧j < 2 ^ 62 then .ok (rng 0 j) else .bad) Q:=P2;by_cases z:-(2 ^ 62)≤(0:Int)∧(0:Int) < 2 ^ 62∧-(2 ^ 62)≤j∧j < 2 ^ 62
   · rw[Aa6 z] at P2;refine⟨j,rfl,z.2.2.1,z.2.2.2,P2 _ B2 U2 H2 [] R2 (Gw.refl _ _ _) New.nil ?_⟩;have e:(j - 0).toNat=j.toNat:=by rw[Int.sub_zero]
     unfold rng;rw[e];exact⟨_,bc9 0 _,aV4 0 _⟩
   ·rw[Aa3 z] at P2;exact P2.elim
 |_=>exact P2.elim
theorem bn6{α:Type}{l:List (Option α)}{x:Option α}{i:Nat}:rg (x :: l) (i + 1)=rg l i:=by unfold rg; rw[List.getElem?_cons_succ]
theorem bn5{α:Type}{l:List (Option α)}{x:Option α}:rg (x :: l) 0=x:=by unfold rg; rw[List.getElem?_cons_zero]; rfl
theorem bP3{α:Type}{l:List (Option α)}{ix:List Nat}{j:Nat}:rg (ix.map fun i=>rg l i) j=match ix[j]? with | some i=>rg l i | none=>none:=by
 unfold rg;rw[List.getElem?_map];cases ix[j]? <;> rfl
theorem bc0:∀ {l:List Nat} {i j:Nat},l.Nodup→(h1:i < l.length)→(h2:j < l.length)→l[i]=l[j]→i=j
 |[],_,_,_,h1,_,_=>by simp at h1
 |x :: l,0,0,_,_,_,_=>rfl
 | x :: l,0,j + 1,nd,h1,h2,e=>by
   have h3:j < l.length:=by simpa using h2
   exact absurd (show x∈l from by rw[show x=l[j] from e]; exact Al1 h3) (List.nodup_cons.mp nd).1
 | x :: l,i + 1,0,nd,h1,h2,e=>by
   have h3:i < l.length:=by simpa using h1
   exact absurd (show x∈l from by rw[show x=l[i] from e.symm]; exact Al1 h3) (List.nodup_cons.mp nd).1
 | x :: l,i + 1,j + 1,nd,h1,h2,e=>by
   rw[bc0 (List.nodup_cons.mp nd).2 (by simpa using h1) (by simpa using h2) e]
def asIn(As:Nat→List Addr)(ix:List Nat):Nat→List Addr
 |0=>[]
 |j + 1=>match ix[j]? with | some i=>As i | none=>[]
def msIn(m:Md)(ms:List Md)(ix:List Nat):List Md:=m :: ix.map fun i=>ms.getD i .F
theorem Rel.inner(R:Rel cm ms B U As σ H ρ){ix:List Nat}(hix:ix.Nodup){m:Md}{d:D}{v:V}(hd:Lo cm B U H m (some d) (some v) []):
 Rel cm (msIn m ms ix) B U (asIn As ix) (some v :: capV σ ix) H (some d :: capD ρ ix) where
 bu:=R.bu
 uh:=R.uh
 nd:=fun i=>by
  cases i with
  |zero=>exact Af1
  |succ j=>
    show(match ix[j]? with | some i=>As i | none=>[]).Nodup;cases ix[j]? with
    |none=>exact Af1
    |some i=>exact R.nd i
 dj:=fun i j a hne ha hb=>by
  cases i with
  |zero=>cases ha
  |succ i=>
    cases j with
    |zero=>cases hb
    |succ j=>
      have ha:a∈(match ix[i]? with | some i=>As i | none=>[]):=ha;have hb:a∈(match ix[j]? with | some i=>As i | none=>[]):=hb;cases ei:ix[i]? with
      |none=>rw[ei] at ha; cases ha
      |some x=>
        cases ej:ix[j]? with
        |none=>rw[ej] at hb; cases hb
        |some y=>
          rw[ei] at ha;rw[ej] at hb;by_cases e:x=y
          · subst e;obtain⟨h1,e1⟩:=List.getElem?_eq_some_iff.mp ei;obtain⟨h2,e2⟩:=List.getElem?_eq_some_iff.mp ej
            have:=bc0 hix h1 h2 (e1.trans e2.symm)
            exact hne (by rw[this])
          ·exact R.dj x y a e ha hb
 tb:=R.tb
 un:=fun i a ha=>by
  cases i with
  |zero=>cases ha
  |succ i=>
    have ha:a∈(match ix[i]? with | some i=>As i | none=>[]):=ha;cases ei:ix[i]? with
    |none=>rw[ei] at ha; cases ha
    |some x=>rw[ei] at ha; exact R.un x a ha
 lo:=fun i=>by
  cases i with
  |zero=>
    rw[bn5,bn5];exact hd
  |succ j=>
    rw[bn6,bn6];unfold capV capD;have e1:rg (ix.map fun j=>rg ρ j) j=match ix[j]? with | some i=>rg ρ i | none=>none:=bP3
    have e2:rg (ix.map fun j=>(σ[j]?).join) j=match ix[j]? with | some i=>rg σ i | none=>none:=bP3
    rw[e1,e2];show Lo cm B U H ((m :: ix.map fun i=>ms.getD i .F).getD (j + 1) .F) _ _ (match ix[j]? with | some i=>As i | none=>[]);rw[Ah4,Ab0,Ac7];cases ix[j]? with
    |none=>exact rfl
    |some i=>exact R.lo i
 len:=by
  rw[Ab2,Ab2,capV,capD,Aa7,Aa7]
theorem Rel.poke(R:Rel cm ms B U As σ H ρ){p:Addr}{o:HO}(hu:U p=none)(ha:∀ i,p∉As i):Rel cm ms B U As σ (upd H p o) ρ:=
 ⟨R.bu,fun a u q=>by rw[ab0 (ac0 q hu)]; exact R.uh a u q,R.nd,R.dj,R.un,fun i=>(R.lo i).mono (Same.refl _) (Same.refl _) fun a h=>ab0 (fun z:a=p=>ha i (z ▸ h)),R.len,R.tb⟩
theorem aA2{α:Type}{l:List α}{i:Nat}{x:α}(h:l[i]?=some x):l.drop i=x :: l.drop (i + 1):=by
 obtain⟨h1,h2⟩:=List.getElem?_eq_some_iff.mp h;rw[Ak8 h1,h2]
theorem bA5{k k':Kd}{m0:Md}{K':KT D V}{ix:List Nat}{ti:TT}{te:TE}{mi:Env→Res Bool}{me:Env→Res D}(hix:ix.Nodup)(h0:∀ B U H d v,Same B U→Same U H→Dn cm (hp k B U H) d v→Lo cm B U H m0 (some d) (some v) [])
 (hti:PJ cm KB E0 (msIn m0 ms ix) ti mi) (hte:PJ cm (KR cm k') E0 (msIn m0 ms ix) te me)
 (fin:∀ B U As σ H ρ B1 U1 H1 Q zs ys p,Rel cm ms B1 U1 As σ H1 ρ→Gw B U H B1 U1 H1→H p=none→U1 p=none→(∀ i,p∉As i)→H1 p=some (.lst ys)→Dns cm (hp k' B1 U1 H1) zs ys→Po cm K' E ms B U As σ H ρ (.ok (.lst zs)) Q→Q (.ref p) H1)
 (hk':k'= .F∨k'= .U) {As:Nat→List Addr} {σ:St} {ρ:Env} {Q:VK} {ds:List D} {J:It} {B1 U1 H1:Hp} {vs:List V} (R1:Rel cm ms B1 U1 As σ H1 ρ) (hJ:ItIs J H1 vs) (hd:Dns cm (hp k B1 U1 H1) ds vs)
 (P1:Po cm K' E ms B1 U1 As σ H1 ρ (if ds.length < aa6 then (ad2 mi me (capD ρ ix) ds).bind fun r=> .ok (.lst r) else .bad) Q) (p:Addr) (hp:H1 p=none):cr3 J (fun v=>some v :: capV σ ix) ti te p H1 Q:=by
 by_cases z:ds.length < aa6
 · rw[Aa6 z] at P1;have hvl:ds.length=vs.length:=hd.len;have hpA:∀ i,p∉As i:=fun i=>R1.fresh hp i
   have grow':∀ {B2 U2 H2 B3 U3 H3:Hp},Gw B2 U2 H2 B3 U3 H3→Same (Mi.hp k' B2 U2 (fun _=>none)) (Mi.hp k' B3 U3 (fun _=>none)):=fun g=>by
    rcases hk' with e | e <;> subst e
    ·exact g.b
    ·exact g.u
   have hpe:∀ {B2 U2 H2:Hp},Mi.hp k' B2 U2 H2=Mi.hp k' B2 U2 (fun _=>none):=fun {B2 U2 H2}=>by rcases hk' with e | e <;> subst e <;> rfl
   refine⟨fun i m ys H2=>i≤ds.length∧m=ds.length - i∧H2 p=some (.lst ys)∧ys.length≤i∧∃ B2 U2 zs,Rel cm ms B2 U2 As σ H2 ρ∧Gw B1 U1 H1 B2 U2 H2∧U2 p=none∧Dns cm (Mi.hp k' B2 U2 (fun _=>none)) zs ys∧
    Po cm K' E ms B1 U1 As σ H1 ρ ((ad2 mi me (capD ρ ix) (ds.drop i)).bind fun r=> .ok (.lst (zs ++ r))) Q,⟨ds.length,Ai8 _,rfl,ab3,Ab7 _,B1,U1,[],R1.new hp,Gw.newO R1 hp,R1.uh.free hp,by rw[Dns],P1⟩,?_⟩
   rintro i m ys H2 ⟨hi,rfl,hy,hle,B2,U2,zs,R2,g2,u2,dz,P2⟩;have hpe2:=hJ H2 g2.h;refine⟨hy,Aj6 hle (am9 (Ah0 (Aj6 hi z))),?_⟩;by_cases hlt:i < ds.length
   · refine .inr ⟨hpe2.2.1 i (by omega),fun v H3 hyl=>?_⟩;obtain⟨rfl,ev⟩:=hpe2.2.2 i v H3 (by omega) hyl;obtain⟨d,ed,dd⟩:=hd.geti ev;rw[aA2 ed,ad2] at P2;have RI:=R2.inner hix (h0 B2 U2 H3 d v R2.bu R2.uh (Dn.mono (aq4 g2) dd));refine hti B2 U2 _ _ H3 _ _ RI ?_;cases eb:mi (some d :: capD ρ ix) with
     |ok c=>
       rw[eb] at P2;intro b B3 U3 H4 N3 R3' g3 n3 hb;cases hb
       have up3:U3 p=none:=by
        cases q:U3 p with
        |none=>rfl
        |some o=>
          rcases g3.fr p o q with z | z | ⟨xs,z⟩
          ·rw[u2] at z; cases z
          ·rw[hy] at z; cases z
          ·subst z; have:=R3'.uh p _ q; rw[g3.h _ _ hy] at this; cases this
       have R3:Rel cm ms B3 U3 As σ H4 ρ:=R2.grow g3.b g3.u g3.h R3'.bu R3'.uh fun j a ha=>by
        cases q:U3 a with
        |none=>rfl
        |some o=>
          rcases g3.fr a o q with z | z | z
          ·rw[R2.un j a ha] at z; cases z
          ·obtain⟨o',q'⟩:=R2.at ha;rw[z] at q'; cases q'
          ·obtain⟨o',q'⟩:=R2.at ha;have e1:=g3.h _ _ q';rw[R3'.uh a _ q] at e1; cases e1; exact(R2.nt ha q' z).elim
       cases c with
       |false=>
         rw[Aa3 Ab1];exact⟨ds.length - (i + 1),by omega,hlt,rfl,g3.h _ _ hy,by omega,B3,U3,zs,R3,g2.trans g3,up3,dz.mono (grow' g3),P2⟩
       |true=>
         rw[Aa6 rfl];refine hte B3 U3 _ _ H4 _ _ R3' ?_;cases ee:me (some d :: capD ρ ix) with
         |ok x=>
           have P3:Po cm K' E ms B1 U1 As σ H1 ρ (((me (some d :: capD ρ ix)).calm.bind fun x=>(ad2 mi me (capD ρ ix) (ds.drop (i + 1))).bind fun xs=> .ok (x :: xs)).bind fun r=> .ok (.lst (zs ++ r))) Q:=P2;rw[ee] at P3;intro y B4 U4 H5 N4 R4' g4 n4 hx;have y5:H5 p=some (.lst ys):=g4.h _ _ (g3.h _ _ hy)
           have up4:U4 p=none:=by
            cases q:U4 p with
            |none=>rfl
            |some o=>
              rcases g4.fr p o q with z | z | ⟨xs,z⟩
              ·rw[up3] at z; cases z
              ·rw[g3.h _ _ hy] at z; cases z
              ·subst z; have:=R4'.uh p _ q; rw[y5] at this; cases this
           have R4:Rel cm ms B4 U4 As σ H5 ρ:=R3.grow g4.b g4.u g4.h R4'.bu R4'.uh fun j a ha=>by
            cases q:U4 a with
            |none=>rfl
            |some o=>
              rcases g4.fr a o q with z | z | z
              ·rw[R3.un j a ha] at z; cases z
              ·obtain⟨o',q'⟩:=R3.at ha;rw[z] at q'; cases q'
              ·obtain⟨o',q'⟩:=R3.at ha;have e1:=g4.h _ _ q';rw[R4'.uh a _ q] at e1; cases e1; exact(R3.nt ha q' z).elim
           have g5:Gw B1 U1 H1 B4 U4 (upd H5 p (.lst (ys ++ [y]))):=by
            have g:=(g2.trans g3).trans g4;exact⟨g.toEx,fun a o q=>by rw[ab0 (ac0 q hp)]; exact g.h a o q,g.fr⟩
           refine⟨y5,ds.length - (i + 1),by omega,hlt,rfl,ab3,by rw[Ac4,Af0]; omega,B4,U4,zs ++ [x],R4.poke up4 hpA,g5,up4,(dz.mono (grow' (g3.trans g4))).append (Dns.one ?_),?_⟩
           ·have hx:Dn cm (Mi.hp k' B4 U4 H5) x y:=hx;rw[hpe] at hx;exact hx
           · cases eg:ad2 mi me (capD ρ ix) (ds.drop (i + 1)) with
             |ok r=>
               rw[eg] at P3;show Po cm K' E ms B1 U1 As σ H1 ρ (.ok (.lst (zs ++ [x] ++ r))) Q;rw[Ae9];exact P3
             |exc c=>rw[eg] at P3; exact P3
             |bad=>rw[eg] at P3; exact P3
         |exc c=>
           have P3:Po cm K' E ms B1 U1 As σ H1 ρ (((me (some d :: capD ρ ix)).calm.bind fun x=>(ad2 mi me (capD ρ ix) (ds.drop (i + 1))).bind fun xs=> .ok (x :: xs)).bind fun r=> .ok (.lst (zs ++ r))) Q:=P2;rw[ee] at P3;exact P3.elim
         |bad=>
           have P3:Po cm K' E ms B1 U1 As σ H1 ρ (((me (some d :: capD ρ ix)).calm.bind fun x=>(ad2 mi me (capD ρ ix) (ds.drop (i + 1))).bind fun xs=> .ok (x :: xs)).bind fun r=> .ok (.lst (zs ++ r))) Q:=P2;rw[ee] at P3;exact P3.elim
     |exc c=>rw[eb] at P2; exact P2.elim
     |bad=>rw[eb] at P2; exact P2.elim
   · have e:i=ds.length:=by omega
     subst e;rw[Ap3,ad2] at P2;refine .inl ⟨hpe2.1 _ (by omega),?_⟩;have P3:Po cm K' E ms B1 U1 As σ H1 ρ (.ok (.lst (zs ++ []))) Q:=P2;rw[Af4] at P3;exact fin B1 U1 As σ H1 ρ B2 U2 H2 Q zs ys p R2 g2 hp u2 hpA hy (by rw[hpe]; exact dz) P3
 ·rw[Aa3 z] at P1;exact P1.elim
theorem bA4{k k':Kd}{m0:Md}{K':KT D V}{wi:TI}{ix:List Nat}{ti:TT}{te:TE}{src:Env→Res (List D)}{mi:Env→Res Bool}{me:Env→Res D}
 (hs:PJ cm (KI cm k .X) E ms wi src) (hix:ix.Nodup) (h0:∀ B U H d v,Same B U→Same U H→Dn cm (hp k B U H) d v→Lo cm B U H m0 (some d) (some v) [])
 (hti:PJ cm KB E0 (msIn m0 ms ix) ti mi) (hte:PJ cm (KR cm k') E0 (msIn m0 ms ix) te me)
 (fin:∀ B U As σ H ρ B1 U1 H1 Q zs ys p,Rel cm ms B1 U1 As σ H1 ρ→Gw B U H B1 U1 H1→H p=none→U1 p=none→(∀ i,p∉As i)→H1 p=some (.lst ys)→Dns cm (hp k' B1 U1 H1) zs ys→Po cm K' E ms B U As σ H ρ (.ok (.lst zs)) Q→Q (.ref p) H1)
 (hk':k'= .F∨k'= .U):PJ cm K' E ms (aK9 wi ix ti te) (comp src ix mi me):=by
 intro B U As σ H ρ Q R P;refine hs.bnd R P fun ds J B1 U1 H1 N1 _ R1 e1 n1 ⟨vs,hJ,hd⟩ P1 p hp=>?_;exact bA5 hix h0 hti hte fin hk' R1 hJ hd P1 p hp
theorem inF{B U H:Hp}{d:D}{v:V}(_:Same B U)(_:Same U H)(h:Dn cm (hp .F B U H) d v):Lo cm B U H .F (some d) (some v) []:=⟨v,rfl,h,rfl⟩
theorem inU{B U H:Hp}{d:D}{v:V}(_:Same B U)(_:Same U H)(h:Dn cm (hp .U B U H) d v):Lo cm B U H .R (some d) (some v) []:=⟨v,rfl,h,rfl⟩
theorem finO{B U:Hp}{As:Nat→List Addr}{σ:St}{H:Hp}{ρ:Env}{B1 U1 H1:Hp}{Q:VK}{zs:List D}{ys:List V}{p:Addr}(R:Rel cm ms B1 U1 As σ H1 ρ)(g:Gw B U H B1 U1 H1)(hp:H p=none)(u:U1 p=none)(ha:∀ i,p∉As i)(h:H1 p=some (.lst ys))
 (d:Dns cm (Mi.hp .F B1 U1 H1) zs ys) (P:Po cm (KO cm (.ct .fz)) E ms B U As σ H ρ (.ok (.lst zs)) Q):Q (.ref p) H1:=
 P (.ref p) B1 U1 H1 [p] R g ⟨by simp,fun a q=>by rw[List.mem_singleton.mp q]; exact hp,fun a q=>by rw[List.mem_singleton.mp q]; exact u⟩ (by
  show Ow cm B1 H1 (.lst zs) (.ct .fz) (.ref p) [p];rw[Ow]
  exact⟨p,ys,[],rfl,h,rfl,Ows.of d⟩)
section
variable{wi:TI}{ix:List Nat}{ti:TT}{te:TE}{src:Env→Res (List D)}{mi:Env→Res Bool}{me:Env→Res D}
theorem ba9:PJ cm KB E ms tYes (fun _=> .ok true):=fun B U As σ H ρ Q R P=>P _ B U H [] R (Gw.refl _ _ _) New.nil rfl
theorem bb4(hs:PJ cm (KI cm .F .X) E ms wi src)(hix:ix.Nodup)(hti:PJ cm KB E0 (msIn .F ms ix) ti mi)(hte:PJ cm (KR cm .F) E0 (msIn .F ms ix) te me):PJ cm (KO cm (.ct .fz)) E ms (aK9 wi ix ti te) (comp src ix mi me):=
 bA4 hs hix (fun _ _ _ _ _=>inF) hti hte (fun _ _ _ _ _ _ _ _ _ _ _ _ _=>finO) (.inl rfl)
theorem bI2(hs:PJ cm (KI cm .U .X) E ms wi src)(hix:ix.Nodup)(hti:PJ cm KB E0 (msIn .R ms ix) ti mi)(hte:PJ cm (KR cm .F) E0 (msIn .R ms ix) te me):PJ cm (KO cm (.ct .fz)) E ms (aK9 wi ix ti te) (comp src ix mi me):=
 bA4 hs hix (fun _ _ _ _ _=>inU) hti hte (fun _ _ _ _ _ _ _ _ _ _ _ _ _=>finO) (.inl rfl)
end
end
structure NewM (N:List Addr) (U:Hp) (As:Nat→List Addr):Prop where
 nd:N.Nodup
 un:∀ a∈N,U a=none
 ap:∀ a∈N,∀ i,a∉As i
theorem NewM.nil{U:Hp}{As:Nat→List Addr}:NewM [] U As:=⟨Af1,fun _ h=>(nomatch h),fun _ h=>(nomatch h)⟩
def Kp(pr:Nat→Bool)(σ σ':St):Prop:=∀ j,pr j=true→rg σ' j=rg σ j
theorem Kp.refl(pr:Nat→Bool)(σ:St):Kp pr σ σ:=fun _ _=>rfl
theorem Kp.trans{pr:Nat→Bool}{σ σ1 σ2:St}(a:Kp pr σ σ1)(b:Kp pr σ1 σ2):Kp pr σ σ2:=fun j h=>(b j h).trans (a j h)
section
variable(cm:Cm)
def Mo{α β:Type}(K:KT α β)(E:XK)(ms:List Md)(B U:Hp)(σ:St)(r:Out α)(Q:β→Hp→Prop):Prop:=
 match r with
 |.ok d ρ'=>∀ v B' U' As' H' N,Rel cm ms B' U' As' σ H' ρ'→Ex B U B' U'→NewM N U' As'→K d v B' U' H' N→Q v H'
 |.exc c ρ'=>∀ B' U' As' H',Rel cm ms B' U' As' σ H' ρ'→Ex B U B' U'→∀ oa,E (.ref (cm c)) oa H'
 |.bad=>False
def MJ{α β:Type}(K:KT α β)(E:XK)(ms:List Md)(t:St→Hp→(β→Hp→Prop)→Prop)(m:Env→Out α):Prop:=
 ∀ B U As σ H ρ Q,Rel cm ms B U As σ H ρ→Mo cm K E ms B U σ (m ρ) Q→t σ H Q
def So(E:XK)(Kr:KT D V)(pr:Nat→Bool)(ms:List Md)(B U:Hp)(σ:St)(r:SO)(D:Ends):Prop:=
 match r with
 |.nx ρ'=>∀ σ' B' U' As' H',Rel cm ms B' U' As' σ' H' ρ'→Ex B U B' U'→Kp pr σ σ'→D.nx σ' H'
 |.bk ρ'=>∀ σ' B' U' As' H',Rel cm ms B' U' As' σ' H' ρ'→Ex B U B' U'→Kp pr σ σ'→D.bk σ' H'
 |.ct ρ'=>∀ σ' B' U' As' H',Rel cm ms B' U' As' σ' H' ρ'→Ex B U B' U'→Kp pr σ σ'→D.ct σ' H'
 |.rt d ρ'=>∀ v σ' B' U' As' H' N,Rel cm ms B' U' As' σ' H' ρ'→Ex B U B' U'→Kp pr σ σ'→NewM N U' As'→Kr d v B' U' H' N→D.rt v H'
 |.exc c ρ'=>∀ σ' B' U' As' H',Rel cm ms B' U' As' σ' H' ρ'→Ex B U B' U'→Kp pr σ σ'→∀ oa,E (.ref (cm c)) oa H'
 |.bad=>False
def SJ(E:XK)(Kr:KT D V)(pr:Nat→Bool)(ms:List Md)(t:TS)(m:Env→SO):Prop:=
 ∀ B U As σ H ρ D,Rel cm ms B U As σ H ρ→So cm E Kr pr ms B U σ (m ρ) D→t D σ H
end
section
variable{cm:Cm}{E:XK}{Kr:KT D V}{pr:Nat→Bool}{ms:List Md}{K:PySem.W.Frag}{B U H B1 U1 H1:Hp}{As:Nat→List Addr}{σ σ1:St}{ρ:Env}
theorem Mo.at{α β:Type}{K:KT α β}{r:Out α}{Q:β→Hp→Prop}(P:Mo cm K E ms B U σ r Q)(e:Ex B U B1 U1):Mo cm K E ms B1 U1 σ r Q:=by
 cases r with
 |ok d ρ'=>exact fun v B' U' As' H' N R' e' n' k=>P v B' U' As' H' N R' (e.trans e') n' k
 |exc c ρ'=>exact fun B' U' As' H' R' e'=>P B' U' As' H' R' (e.trans e')
 |bad=>exact P
theorem So.at{r:SO}{D:Ends}(P:So cm E Kr pr ms B U σ r D)(e:Ex B U B1 U1)(k:Kp pr σ σ1):So cm E Kr pr ms B1 U1 σ1 r D:=by
 cases r with
 |nx ρ'=>exact fun σ' B' U' As' H' R' e' k'=>P σ' B' U' As' H' R' (e.trans e') (k.trans k')
 |bk ρ'=>exact fun σ' B' U' As' H' R' e' k'=>P σ' B' U' As' H' R' (e.trans e') (k.trans k')
 |ct ρ'=>exact fun σ' B' U' As' H' R' e' k'=>P σ' B' U' As' H' R' (e.trans e') (k.trans k')
 |rt d ρ'=>exact fun v σ' B' U' As' H' N R' e' k'=>P v σ' B' U' As' H' N R' (e.trans e') (k.trans k')
 |exc c ρ'=>exact fun σ' B' U' As' H' R' e' k'=>P σ' B' U' As' H' R' (e.trans e') (k.trans k')
 |bad=>exact P
theorem upM{α β:Type}{K:KT α β}{t:St→Hp→(β→Hp→Prop)→Prop}{m:Env→Res α}(h:PJ cm K E ms t m):MJ cm K E ms t (fun ρ=>(m ρ).up ρ):=by
 intro B U As σ H ρ Q R P;replace P:Mo cm K E ms B U σ ((m ρ).up ρ) Q:=P;refine h B U As σ H ρ Q R ?_;cases e:m ρ with
 |ok d=>
   rw[e] at P;exact fun v B' U' H' N R' g n k=>P v B' U' As H' N R' g.toEx ⟨n.nd,n.un,R.apart n⟩ k
 |exc c=>
   rw[e] at P;exact fun B' U' H' R' g=>P B' U' As H' R' g.toEx
 |bad=>rw[e] at P; exact P
theorem MJ.bnd{α β γ δ:Type}{Ka:KT α β}{Kc:KT γ δ}{ta:St→Hp→(β→Hp→Prop)→Prop}{ma:Env→Out α}(ha:MJ cm Ka E ms ta ma)(R:Rel cm ms B U As σ H ρ){k:α→Env→Out γ}{Q:δ→Hp→Prop}
 (P:Mo cm Kc E ms B U σ ((ma ρ).bind k) Q) {body:β→Hp→Prop}
 (h:∀ x ρ' v B1 U1 As1 H1 N,Rel cm ms B1 U1 As1 σ H1 ρ'→Ex B U B1 U1→NewM N U1 As1→Ka x v B1 U1 H1 N→Mo cm Kc E ms B1 U1 σ (k x ρ') Q→body v H1):ta σ H body:=by
 refine ha B U As σ H ρ body R ?_;cases e:ma ρ with
 |ok x ρ'=>
   rw[e] at P;exact fun v B1 U1 As1 H1 N R1 e1 n1 k1=>h x ρ' v B1 U1 As1 H1 N R1 e1 n1 k1 (Mo.at (r:=k x ρ') P e1)
 |exc c ρ'=>rw[e] at P; exact P
 |bad=>rw[e] at P; exact P
theorem MJ.bndS{α β:Type}{Ka:KT α β}{ta:St→Hp→(β→Hp→Prop)→Prop}{ma:Env→Out α}(ha:MJ cm Ka E ms ta ma)(R:Rel cm ms B U As σ H ρ){k:α→Env→SO}{D:Ends}
 (P:So cm E Kr pr ms B U σ (at4 (ma ρ) k) D) {body:β→Hp→Prop}
 (h:∀ x ρ' v B1 U1 As1 H1 N,Rel cm ms B1 U1 As1 σ H1 ρ'→Ex B U B1 U1→NewM N U1 As1→Ka x v B1 U1 H1 N→So cm E Kr pr ms B1 U1 σ (k x ρ') D→body v H1):ta σ H body:=by
 refine ha B U As σ H ρ body R ?_;cases e:ma ρ with
 |ok x ρ'=>
   rw[e] at P;exact fun v B1 U1 As1 H1 N R1 e1 n1 k1=>h x ρ' v B1 U1 As1 H1 N R1 e1 n1 k1 (So.at (r:=k x ρ') P e1 (Kp.refl _ _))
 |exc c ρ'=>rw[e] at P; exact fun B' U' As' H' R' e'=>P σ B' U' As' H' R' e' (Kp.refl _ _)
 |bad=>rw[e] at P; exact P
theorem au9{α:Type}{l:List (Option α)}{i j:Nat}{x:Option α}:rg (l.set i x) j=if i=j∧i < l.length then x else rg l j:=by
 unfold rg;rw[List.getElem?_set];by_cases e:i=j
 · subst e;by_cases h:i < l.length
   ·rw[Aa6 rfl,Aa6 h,Aa6 ⟨rfl,h⟩];rfl
   ·rw[Aa6 rfl,Aa3 h,Aa3 fun z=>h z.2,Ac6 (by omega)]
 ·rw[Aa3 e,Aa3 fun z=>e z.1]
theorem Rel.store(R:Rel cm ms B U As σ H ρ){i:Nat}{d:D}{v:V}{N:List Addr}(n:NewM N U As)(l:Lo cm B U H (ms.getD i .F) (some d) (some v) N):
 ∃ As',Rel cm ms B U As' (σ.set i (some v)) H (ρ.set i (some d)):=by
 by_cases hi:i < ρ.length
 · refine⟨fun j=>if j=i then N else As j,R.bu,R.uh,fun j=>?_,fun j k a hne ha hb=>?_,fun j a ha=>?_,fun j=>?_,by rw[Ad8,Ad8]; exact R.len,R.tb⟩
   · show(if j=i then N else As j).Nodup;split
     ·exact n.nd
     ·exact R.nd j
   · replace ha:a∈(if j=i then N else As j):=ha;replace hb:a∈(if k=i then N else As k):=hb;split at ha
     · split at hb
       ·rename_i h1 h2;exact hne (h1.trans h2.symm)
       ·exact n.ap a ha k hb
     · split at hb
       ·exact n.ap a hb j ha
       ·exact R.dj j k a hne ha hb
   · replace ha:a∈(if j=i then N else As j):=ha;split at ha
     ·exact n.un a ha
     ·exact R.un j a ha
   · rw[au9,au9];show Lo cm B U H (ms.getD j .F) _ _ (if j=i then N else As j);by_cases e:i=j
     ·subst e;rw[Aa6 ⟨rfl,hi⟩,Aa6 ⟨rfl,by rw[← R.len]; exact hi⟩,Aa6 rfl];exact l
     ·rw[Aa3 fun z=>e z.1,Aa3 fun z=>e z.1,Aa3 fun z=>e z.symm];exact R.lo j
 ·have h2:=R.len;have e1:σ.set i (some v)=σ:=Ao4 (by omega);have e2:ρ.set i (some d)=ρ:=Ao4 (by omega);rw[e1,e2];exact⟨As,R⟩
theorem Kp.set{i:Nat}{x:Option V}(h:pr i=false):Kp pr σ (σ.set i x):=fun j hj=>by
 rw[au9,Aa3];rintro⟨e,_⟩;rw[e,hj] at h;cases h
theorem cu8{K':KT D V}{i:Nat}{te:TE}{m:Env→Out D}(h:MJ cm K' E ms te m)(hk:∀ B U H d v N,K' d v B U H N→∃ N',(N'=[]∨N'=N)∧Lo cm B U H (ms.getD i .F) (some d) (some v) N')(hp:pr i=false):SJ cm E Kr pr ms (tAsg te (aD3 i)) (setS i m):=by
 intro B U As σ H ρ D R P;refine h.bndS R P fun x ρ' v B1 U1 As1 H1 N R1 e1 n1 k1 P1=>?_;obtain⟨N',hN,l⟩:=hk B1 U1 H1 x v N k1
 have n2:NewM N' U1 As1:=by
  rcases hN with e | e
  ·subst e; exact NewM.nil
  ·subst e; exact n1
 obtain⟨As2,R2⟩:=R1.store n2 l;exact P1 _ B1 U1 As2 H1 R2 (Ex.refl _ _) (Kp.set hp)
theorem aj8{i:Nat}{te:TE}{m:Env→Out D}(h:MJ cm (KR cm .F) E ms te m)(hm:ms.getD i .F= .F)(hp:pr i=false):SJ cm E Kr pr ms (tAsg te (aD3 i)) (setS i m):=
 cu8 h (fun B U H d v N k=>⟨[],.inl rfl,by rw[hm]; exact⟨v,rfl,k,rfl⟩⟩) hp
theorem aL9{i:Nat}{s:Sh}{te:TE}{m:Env→Out D}(h:MJ cm (KO cm s) E ms te m)(hm:ms.getD i .F= .O s)(hp:pr i=false):SJ cm E Kr pr ms (tAsg te (aD3 i)) (setS i m):=
 cu8 h (fun B U H d v N k=>⟨N,.inr rfl,by rw[hm]; exact⟨v,rfl,k⟩⟩) hp
theorem am4:SJ cm E Kr pr ms cs5 ai5:=fun B U As σ H ρ D R P=>P σ B U As H R (Ex.refl _ _) (Kp.refl _ _)
theorem ab7{t u:TS}{m n:Env→SO}(h:SJ cm E Kr pr ms t m)(k:SJ cm E Kr pr ms u n):SJ cm E Kr pr ms (tSeq t u) (seqS m n):=by
 intro B U As σ H ρ D R P;refine h B U As σ H ρ _ R ?_;unfold seqS at P;cases e:m ρ with
 |nx ρ'=>rw[e] at P; exact fun σ' B' U' As' H' R' e' kp=>k B' U' As' σ' H' ρ' D R' (So.at P e' kp)
 |bk ρ'=>rw[e] at P; exact P
 |ct ρ'=>rw[e] at P; exact P
 |rt d ρ'=>rw[e] at P; exact P
 |exc c ρ'=>rw[e] at P; exact P
 |bad=>rw[e] at P; exact P
theorem ae2{K':KT D V}{te:TE}{m:Env→Out D}(h:MJ cm K' E ms te m):SJ cm E Kr pr ms (cs6 te) (ag1 m):=by
 intro B U As σ H ρ D R P;refine h.bndS R P fun x ρ' v B1 U1 As1 H1 N R1 e1 n1 k1 P1=>?_;exact P1 σ B1 U1 As1 H1 R1 (Ex.refl _ _) (Kp.refl _ _)
theorem af9{te:TE}{m:Env→Out D}(h:MJ cm Kr E ms te m):SJ cm E Kr pr ms (tRet te) (retS m):=by
 intro B U As σ H ρ D R P;refine h.bndS R P fun x ρ' v B1 U1 As1 H1 N R1 e1 n1 k1 P1=>?_;exact P1 v σ B1 U1 As1 H1 N R1 (Ex.refl _ _) (Kp.refl _ _) n1 k1
theorem cu9(h:∀ B U H,Kr .non .non B U H []):SJ cm E Kr pr ms cs2 retN:=fun B U As σ H ρ D R P=>P .non σ B U As H [] R (Ex.refl _ _) (Kp.refl _ _) NewM.nil (h _ _ _)
theorem s_if{c:TT}{t u:TS}{mc:Env→Out Bool}{m n:Env→SO}(hc:MJ cm KB E ms c mc)(h:SJ cm E Kr pr ms t m)(k:SJ cm E Kr pr ms u n):SJ cm E Kr pr ms (tIfS c t u) (ifS mc m n):=by
 intro B U As σ H ρ D R P;refine hc.bndS R P fun x ρ' v B1 U1 As1 H1 N R1 e1 n1 k1 P1=>?_;cases k1;cases x with
 |true=>exact h B1 U1 As1 σ H1 ρ' D R1 P1
 |false=>exact k B1 U1 As1 σ H1 ρ' D R1 P1
theorem ak9:SJ cm E Kr pr ms bO1 (fun _=> .bad):=fun _ _ _ _ _ _ _ _ P=>P
def TJ(cm:Cm)(k:Kd)(pr:Nat→Bool)(ms:List Md)(g:TG)(tg:D→Env→Option Env):Prop:=∀ B U As σ H ρ d v ρ1 Q,Rel cm ms B U As σ H ρ→Dn cm (hp k B U H) d v→tg d ρ=some ρ1→(∀ σ1 As1,Rel cm ms B U As1 σ1 H ρ1→Kp pr σ σ1→Q σ1 H)→g v σ H Q
theorem tgF{i:Nat}(hm:ms.getD i .F= .F)(hp:pr i=false):TJ cm .F pr ms (aD3 i) (tgN i):=by
 intro B U As σ H ρ d v ρ1 Q R hd e h;cases e;obtain⟨As2,R2⟩:=R.store (i:=i) (d:=d) (v:=v) NewM.nil (by rw[hm]; exact⟨v,rfl,hd,rfl⟩);exact h _ As2 R2 (Kp.set hp)
theorem bG8{k:Kd}{wi:TI}{g:TG}{tb:TS}{src:Env→Out (List D)}{tg:D→Env→Option Env}{body:Env→SO}(hs:MJ cm (KI cm k .U) E ms wi src)(hk:k= .F∨k= .U)(hg:TJ cm k pr ms g tg)(hb:SJ cm E Kr pr ms tb body):
 SJ cm E Kr pr ms (tFor wi g tb) (aT9 src tg body):=by
 intro B U As σ H ρ D R P;refine hs.bndS R P fun ds ρ0 J B1 U1 As1 H1 N R1 e1 n1 ⟨vs,hJ,hd⟩ P1=>?_;have hvl:ds.length=vs.length:=hd.len
 have hp1:∀ {B2 U2 H2:Hp},Ex B1 U1 B2 U2→Same (hp k B1 U1 H1) (hp k B2 U2 H2):=fun e=>by
  rcases hk with z | z <;> subst z
  ·exact e.b
  ·exact e.u
 refine⟨fun i m σ' H'=>i≤ds.length∧m=ds.length - i∧∃ B2 U2 As2 ρ2,Rel cm ms B2 U2 As2 σ' H' ρ2∧Ex B1 U1 B2 U2∧Kp pr σ σ'∧So cm E Kr pr ms B1 U1 σ (forS tg body (ds.drop i) ρ2) D,⟨_,Ai8 _,rfl,B1,U1,As1,ρ0,R1,Ex.refl _ _,Kp.refl _ _,P1⟩,?_⟩;rintro i m σ' H' ⟨hi,rfl,B2,U2,As2,ρ2,R2,e2,k2,P2⟩;have hj:=hJ H' (e2.u.trans R2.uh);by_cases hlt:i < ds.length
 · refine .inr ⟨hj.2.1 i (by omega),fun σ'' H''=>i + 1≤ds.length∧∃ B2 U2 As2 ρ2,Rel cm ms B2 U2 As2 σ'' H'' ρ2∧Ex B1 U1 B2 U2∧Kp pr σ σ''∧So cm E Kr pr ms B1 U1 σ (forS tg body (ds.drop (i + 1)) ρ2) D,fun σ'' H'' ⟨h1,h2⟩=>⟨ds.length - (i + 1),by omega,h1,rfl,h2⟩,fun x Hx hy=>?_⟩;obtain⟨rfl,ev⟩:=hj.2.2 i x Hx (by omega) hy;obtain⟨d,ed,dd⟩:=hd.geti ev;rw[aA2 ed,forS] at P2;cases et:tg d ρ2 with
   |none=>rw[et] at P2; exact P2.elim
   |some ρ3=>
     rw[et] at P2;refine hg B2 U2 As2 σ' Hx ρ2 d x ρ3 _ R2 (Dn.mono (hp1 e2) dd) et fun σ3 As3 R3 k3=>?_;refine hb B2 U2 As3 σ3 Hx ρ3 _ R3 ?_;dsimp only at P2;cases eb:body ρ3 with
     |nx ρ4=>
       rw[eb] at P2;exact fun σ4 B4 U4 As4 H4 R4 e4 k4=>⟨hlt,B4,U4,As4,ρ4,R4,e2.trans e4,(k2.trans k3).trans k4,P2⟩
     |ct ρ4=>
       rw[eb] at P2;exact fun σ4 B4 U4 As4 H4 R4 e4 k4=>⟨hlt,B4,U4,As4,ρ4,R4,e2.trans e4,(k2.trans k3).trans k4,P2⟩
     |bk ρ4=>
       rw[eb] at P2;exact fun σ4 B4 U4 As4 H4 R4 e4 k4=>P2 σ4 B4 U4 As4 H4 R4 (e2.trans e4) ((k2.trans k3).trans k4)
     |rt d ρ4=>
       rw[eb] at P2;exact fun v σ4 B4 U4 As4 H4 N R4 e4 k4=>P2 v σ4 B4 U4 As4 H4 N R4 (e2.trans e4) ((k2.trans k3).trans k4)
     |exc c ρ4=>
       rw[eb] at P2;exact fun σ4 B4 U4 As4 H4 R4 e4 k4=>P2 σ4 B4 U4 As4 H4 R4 (e2.trans e4) ((k2.trans k3).trans k4)
     |bad=>rw[eb] at P2; exact P2.elim
 · have e:i=ds.length:=by omega
   subst e;rw[Ap3,forS] at P2;exact .inl ⟨hj.1 _ (by omega),P2 σ' B2 U2 As2 H' R2 e2 k2⟩
theorem bm9{c:TT}{tb:TS}{mc:Env→Out Bool}{body:Env→SO}(n:Nat)(hc:MJ cm KB E ms c mc)(hb:SJ cm E Kr pr ms tb body):SJ cm E Kr pr ms (bO0 c tb) (whS mc body n):=by
 intro B U As σ H ρ D R P;refine⟨fun m σ' H'=>∃ B2 U2 As2 ρ2,Rel cm ms B2 U2 As2 σ' H' ρ2∧Ex B U B2 U2∧Kp pr σ σ'∧So cm E Kr pr ms B U σ (whS mc body m ρ2) D,⟨n,B,U,As,ρ,R,Ex.refl _ _,Kp.refl _ _,P⟩,?_⟩;rintro m σ' H' ⟨B2,U2,As2,ρ2,R2,e2,k2,P2⟩;cases m with
 |zero=>exact P2.elim
 |succ m=>
   rw[whS] at P2;refine hc B2 U2 As2 σ' H' ρ2 _ R2 ?_;cases e:mc ρ2 with
   |ok x ρ3=>
     rw[e] at P2;intro v B3 U3 As3 H3 N R3 e3 n3 k3;cases k3;cases x with
     |false=>
       rw[Aa3 Ab1];exact P2 σ' B3 U3 As3 H3 R3 (e2.trans e3) k2
     |true=>
       rw[Aa6 rfl]
       have P2:So cm E Kr pr ms B U σ (match body ρ3 with
        |.nx ρ'=>whS mc body m ρ'
        |.ct ρ'=>whS mc body m ρ'
        |.bk ρ'=> .nx ρ'
        |o=>o) D:=P2
       refine⟨fun σ'' H''=>∃ B4 U4 As4 ρ4,Rel cm ms B4 U4 As4 σ'' H'' ρ4∧Ex B U B4 U4∧Kp pr σ σ''∧So cm E Kr pr ms B U σ (whS mc body m ρ4) D,fun σ'' H'' h=>⟨m,Aj2 m,h⟩,?_⟩;refine hb B3 U3 As3 σ' H3 ρ3 _ R3 ?_;cases eb:body ρ3 with
       |nx ρ4=>
         rw[eb] at P2;exact fun σ4 B4 U4 As4 H4 R4 e4 k4=>⟨B4,U4,As4,ρ4,R4,(e2.trans e3).trans e4,k2.trans k4,P2⟩
       |ct ρ4=>
         rw[eb] at P2;exact fun σ4 B4 U4 As4 H4 R4 e4 k4=>⟨B4,U4,As4,ρ4,R4,(e2.trans e3).trans e4,k2.trans k4,P2⟩
       |bk ρ4=>
         rw[eb] at P2;exact fun σ4 B4 U4 As4 H4 R4 e4 k4=>P2 σ4 B4 U4 As4 H4 R4 ((e2.trans e3).trans e4) (k2.trans k4)
       |rt d ρ4=>
         rw[eb] at P2;exact fun v σ4 B4 U4 As4 H4 N R4 e4 k4=>P2 v σ4 B4 U4 As4 H4 N R4 ((e2.trans e3).trans e4) (k2.trans k4)
       |exc c ρ4=>
         rw[eb] at P2;exact fun σ4 B4 U4 As4 H4 R4 e4 k4=>P2 σ4 B4 U4 As4 H4 R4 ((e2.trans e3).trans e4) (k2.trans k4)
       |bad=>rw[eb] at P2; exact P2.elim
   |exc c ρ3=>rw[e] at P2; exact fun B3 U3 As3 H3 R3 e3=>P2 σ' B3 U3 As3 H3 R3 (e2.trans e3) k2
   |bad=>rw[e] at P2; exact P2.elim
end
inductive Ap where
 |F | U | X | O (i:Nat) | Bo (i:Nat)
deriving DecidableEq
def wbGo:List Ap→Nat→Env→Env→Env
 |[],_,_,ρ=>ρ
 |.O i :: r,j,ρc,ρ=>wbGo r (j + 1) ρc (ρ.set i (rg ρc j))
 |_ :: r,j,ρc,ρ=>wbGo r (j + 1) ρc ρ
def aj7(plan:List Ap)(fm:List D→Out D)(ds:List D)(ρ:Env):Out D:=match fm ds with
 |.ok d ρc=> .ok d (wbGo plan 0 ρc ρ)
 |.exc c ρc=> .exc c (wbGo plan 0 ρc ρ)
 |.bad=> .bad
def an5(fm:List D→Out D)(ds:List D):Res D:=match fm ds with
 |.ok d _=> .ok d
 |.exc c _=> .exc c
 |.bad=> .bad
def as2(ms:List Md)(ρ:Env):Env:=(List.range ms.length).map fun i=>match ms.getD i .F with | .O _=>rg ρ i | _=>none
section
variable(cm:Cm)
def spM(ms:List Md)(Kr:KT D V)(fm:List D→Out D):Sp:=fun vs H Q E=>∃ B U As ds,Rel cm ms B U As (vs.map some) H (ds.map some)∧vs.length=ms.length∧match fm ds with
 |.ok d ρ'=>∀ v B' U' As' H' N,Rel cm ms B' U' As' (vs.map some) H' (as2 ms ρ')→Ex B U B' U'→NewM N U' As'→Kr d v B' U' H' N→Q v H'
 |.exc c ρ'=>∀ B' U' As' H',Rel cm ms B' U' As' (vs.map some) H' (as2 ms ρ')→Ex B U B' U'→∀ oa,E (.ref (cm c)) oa H'
 |.bad=>False
def A1(p:Ap)(B U H:Hp)(σ:St)(ρ:Env)(d:D)(v:V):Prop:=match p with
 |.F=>Dn cm B d v
 |.U=>Dn cm U d v
 |.X=>Dn cm H d v
 |.O i=>rg σ i=some v∧rg ρ i=some d
 |.Bo i=>rg σ i=some v∧rg ρ i=some d
def Ag(B U H:Hp)(σ:St)(ρ:Env):List Ap→List D→List V→Prop
 |[],ds,vs=>ds=[]∧vs=[]
 |p :: ps,ds,vs=>∃ d dr v vr,ds=d :: dr∧vs=v :: vr∧A1 cm p B U H σ ρ d v∧Ag B U H σ ρ ps dr vr
end
section
variable{cm:Cm}{E:XK}{ms:List Md}{B U H:Hp}{As:Nat→List Addr}{σ:St}{ρ:Env}
theorem A1.mono{p:Ap}{B' U' H':Hp}{d:D}{v:V}(h:A1 cm p B U H σ ρ d v)(g:Gw B U H B' U' H'):A1 cm p B' U' H' σ ρ d v:=by
 cases p with
 |F=>exact Dn.mono g.b h
 |U=>exact Dn.mono g.u h
 |X=>exact Dn.mono g.h h
 |O i=>exact h
 |Bo i=>exact h
def A1J(cm:Cm)(E:XK)(ms:List Md)(p:Ap)(t:TE)(m:Env→Res D):Prop:=∀ B U As σ H ρ Q,Rel cm ms B U As σ H ρ→Po cm (fun d v B U H _=>A1 cm p B U H σ ρ d v) E ms B U As σ H ρ (m ρ) Q→t σ H Q
def AJ(cm:Cm)(E:XK)(ms:List Md)(ps:List Ap)(t:TA)(m:Env→Res (List D)):Prop:=∀ B U As σ H ρ Q,Rel cm ms B U As σ H ρ→Po cm (fun d v B U H _=>Ag cm B U H σ ρ ps d v) E ms B U As σ H ρ (m ρ) Q→t σ H Q
theorem aF{t:TE}{m:Env→Res D}(h:PJ cm (KR cm .F) E ms t m):A1J cm E ms .F t m:=fun B U As σ H ρ Q R P=>h B U As σ H ρ Q R P
theorem aU{t:TE}{m:Env→Res D}(h:PJ cm (KR cm .U) E ms t m):A1J cm E ms .U t m:=fun B U As σ H ρ Q R P=>h B U As σ H ρ Q R P
theorem aX{t:TE}{m:Env→Res D}(h:PJ cm (KR cm .X) E ms t m):A1J cm E ms .X t m:=fun B U As σ H ρ Q R P=>h B U As σ H ρ Q R P
theorem cL2{i:Nat}{p:Ap}(hp:∀ B U H σ ρ d v,rg σ i=some v→rg ρ i=some d→A1 cm p B U H σ ρ d v):A1J cm E ms p (tVar i) (vr i):=by
 intro B U As σ H ρ Q R P;unfold vr at P;have l:=R.lo i;cases e:rg ρ i with
 |none=>rw[e] at P; exact P.elim
 |some d=>
   rw[e] at P l;obtain⟨v,hv,q⟩:=l;exact⟨v,ah1 hv,P v B U H [] R (Gw.refl _ _ _) New.nil (hp _ _ _ _ _ _ _ hv e)⟩
theorem aO{i:Nat}:A1J cm E ms (.O i) (tVar i) (vr i):=cL2 fun _ _ _ _ _ _ _ h k=>⟨h,k⟩
theorem ad3:AJ cm E ms [] tNil esN:=fun B U As σ H ρ Q R P=>P [] B U H [] R (Gw.refl _ _ _) New.nil ⟨rfl,rfl⟩
theorem A1J.bnd{p:Ap}{γ δ:Type}{Kc:KT γ δ}{ta:TE}{ma:Env→Res D}(ha:A1J cm E ms p ta ma)(R:Rel cm ms B U As σ H ρ){k:D→Res γ}{Q:δ→Hp→Prop}
 (P:Po cm Kc E ms B U As σ H ρ ((ma ρ).bind k) Q) {body:V→Hp→Prop}
 (h:∀ x v B1 U1 H1,Rel cm ms B1 U1 As σ H1 ρ→Gw B U H B1 U1 H1→A1 cm p B1 U1 H1 σ ρ x v→Po cm Kc E ms B1 U1 As σ H1 ρ (k x) Q→body v H1):ta σ H body:=by
 refine ha B U As σ H ρ body R ?_;cases e:ma ρ with
 |ok x=>
   rw[e] at P;exact fun v B1 U1 H1 N R1 e1 n1 k1=>h x v B1 U1 H1 R1 e1 k1 (Po.at (r:=k x) P e1)
 |exc c=>rw[e] at P; exact P
 |bad=>rw[e] at P; exact P
theorem AJ.bnd{ps:List Ap}{γ δ:Type}{Kc:KT γ δ}{ta:TA}{ma:Env→Res (List D)}(ha:AJ cm E ms ps ta ma)(R:Rel cm ms B U As σ H ρ){k:List D→Res γ}{Q:δ→Hp→Prop}
 (P:Po cm Kc E ms B U As σ H ρ ((ma ρ).bind k) Q) {body:List V→Hp→Prop}
 (h:∀ x v B1 U1 H1,Rel cm ms B1 U1 As σ H1 ρ→Gw B U H B1 U1 H1→Ag cm B1 U1 H1 σ ρ ps x v→Po cm Kc E ms B1 U1 As σ H1 ρ (k x) Q→body v H1):ta σ H body:=by
 refine ha B U As σ H ρ body R ?_;cases e:ma ρ with
 |ok x=>
   rw[e] at P;exact fun v B1 U1 H1 N R1 e1 n1 k1=>h x v B1 U1 H1 R1 e1 k1 (Po.at (r:=k x) P e1)
 |exc c=>rw[e] at P; exact P
 |bad=>rw[e] at P; exact P
theorem aa7{p:Ap}{ps:List Ap}{ta:TE}{tr:TA}{ma:Env→Res D}{mr:Env→Res (List D)}(ha:A1J cm E ms p ta ma)(hr:AJ cm E ms ps tr mr):AJ cm E ms (p :: ps) (af7 ta tr) (esC ma mr):=by
 intro B U As σ H ρ Q R P;refine ha.bnd R P fun x v B1 U1 H1 R1 e1 d1 P1=>hr.bnd R1 P1 fun y u B2 U2 H2 R2 e2 d2 P2=>?_;exact P2 (v :: u) B2 U2 H2 [] R2 (Gw.refl _ _ _) New.nil ⟨x,y,v,u,rfl,rfl,d1.mono e2,d2⟩
def fits(ms:List Md)(pure:Bool):Ap→Md→Bool
 |.F,.F=>true
 |.F,.R=>true
 |.U,.R=>true
 |.X,.R=>pure
 |.Bo _,.R=>true
 |_,_=>false
theorem Ag.len:∀ {ps:List Ap} {ds:List D} {vs:List V},Ag cm B U H σ ρ ps ds vs→ds.length=ps.length∧vs.length=ps.length
 |[],_,_,h=>by obtain⟨rfl,rfl⟩:=h; exact⟨rfl,rfl⟩
 | p :: ps,_,_,h=>by
   obtain⟨d,dr,v,vr,rfl,rfl,_,h⟩:=h
   have:=Ag.len h
   exact⟨by rw[Ab2,Ab2,this.1],by rw[Ab2,Ab2,this.2]⟩
theorem Ag.get:∀ {ps:List Ap} {ds:List D} {vs:List V} {j:Nat} {p:Ap},Ag cm B U H σ ρ ps ds vs→ps[j]?=some p→∃ d v,ds[j]?=some d∧vs[j]?=some v∧A1 cm p B U H σ ρ d v
 |[],_,_,_,_,_,e=>by cases e
 | p :: ps,_,_,j,q,h,e=>by
   obtain⟨d,dr,v,vr,rfl,rfl,h1,h⟩:=h;cases j with
   |zero=>cases e; exact⟨d,v,rfl,rfl,h1⟩
   |succ j=>exact Ag.get (j:=j) h (by simpa using e)
theorem aj3{α:Type}{l:List α}{i:Nat}:rg (l.map some) i=l[i]?:=by
 unfold rg;rw[List.getElem?_map];cases l[i]? <;> rfl
theorem Rel.read(R:Rel cm ms B U As σ H ρ){i:Nat}{d:D}{v:V}(hv:rg σ i=some v)(hd:rg ρ i=some d):Dn cm H d v:=by
 have l:=R.lo i;rw[hd] at l;have q:=ar9 l hv;cases e:ms.getD i .F with
 |F=>rw[e] at q; exact Dn.mono R.bh q.1
 |R=>rw[e] at q; exact Dn.mono R.uh q.1
 |O s=>rw[e] at q; exact Ow.dn R.bh (fun _ _ _ q=>q) q
theorem A1.read(R:Rel cm ms B U As σ H ρ){p:Ap}{d:D}{v:V}(h:A1 cm p B U H σ ρ d v):Dn cm H d v:=by
 cases p with
 |F=>exact Dn.mono R.bh h
 |U=>exact Dn.mono R.uh h
 |X=>exact h
 |O i=>exact R.read h.1 h.2
 |Bo i=>exact R.read h.1 h.2
def ov(B U:Hp):Hp:=fun a=>match B a with | some o=>some o | none=>U a
theorem bf7{msC:List Md}{Kr:KT D V}{fm:List D→Out D}{ps:List Ap}{ds:List D}{vs:List V}{Q:VK}(R:Rel cm ms B U As σ H ρ)(A:Ag cm B U H σ ρ ps ds vs)(hl:ps.length=msC.length)
 (hf:∀ (j:Nat) p,ps[j]?=some p→fits ms true p (msC.getD j .F)=true) (hU:∀ d v B U U' H N,Kr d v B U H N→Kr d v B U' H N) (P:Po cm Kr E ms B U As σ H ρ (an5 fm ds) Q):spM cm msC Kr fm vs H Q E:=by
 have hlen:=A.len
 have Rc:Rel cm msC B H (fun _=>[]) (vs.map some) H (ds.map some):=by
  refine⟨R.bh,Same.refl _,fun _=>Af1,fun _ _ _ _ h=>(nomatch h),fun _ _ h=>(nomatch h),fun j=>?_,by rw[Aa7,Aa7,hlen.1,hlen.2],R.tb⟩;rw[aj3,aj3];cases e:ps[j]? with
  |none=>
    have:ps.length≤j:=List.getElem?_eq_none_iff.mp e
    rw[Ac6 (by omega)];rfl
  |some p=>
    obtain⟨d,v,ed,ev,h1⟩:=A.get e;rw[ed,ev];refine⟨v,rfl,?_⟩;have hr:=A1.read R h1;have q:=hf j p e;cases em:msC.getD j .F with
    |F=>
      rw[em] at q;cases p with
      |F=>exact⟨h1,rfl⟩
      |_=>cases q
    |R=>exact⟨hr,rfl⟩
    |O s=>rw[em] at q; cases p <;> cases q
 refine⟨B,H,fun _=>[],ds,Rc,by omega,?_⟩
 have main:∀ {B' U' H':Hp} {As':Nat→List Addr} {ρc:Env},Rel cm msC B' U' As' (vs.map some) H' ρc→Ex B H B' U'→Rel cm ms B' (ov B' U) As σ H' ρ∧Gw B U H B' (ov B' U) H':=fun {B' U' H' As' ρc} R' e'=>by
  have same:∀ a o,U a=some o→∀ o',B' a=some o'→o'=o:=fun a o q o' q'=>by
   have h1:=e'.u a o (R.uh a o q);have h2:=R'.bu a o' q';rw[h1] at h2;exact(Ac1 h2).symm
  have su:Same U (ov B' U):=fun a o q=>by
   unfold ov;cases z:B' a with
   |none=>exact q
   |some o'=>rw[same a o q o' z]
  have sh:Same H H':=e'.u.trans R'.uh
  have uh:Same (ov B' U) H':=fun a o q=>by
   unfold ov at q;cases z:B' a with
   |none=>rw[z] at q; exact sh a o (R.uh a o q)
   |some o'=>rw[z] at q; cases q; exact R'.bh a _ z
  have bu:Same B' (ov B' U):=fun a o q=>by unfold ov; rw[q]
  have new:∀ a o,B' a=some o→B a=some o∨H a=none∨aq3 o:=e'.nb;refine⟨R.grow e'.b su sh bu uh fun i a ha=>?_,⟨e'.b,su,fun a o q=>?_⟩,sh,fun a o q=>?_⟩
  · unfold ov;cases z:B' a with
    |none=>exact R.un i a ha
    |some o=>
      obtain⟨o',q'⟩:=R.at ha;rcases new a o z with q | q | q
      ·have:=R.bu a o q; rw[R.un i a ha] at this; cases this
      ·rw[q] at q'; cases q'
      ·have e1:=sh _ _ q';rw[R'.bh a o z] at e1; cases e1; exact(R.nt ha q' q).elim
  · rcases new a o q with q | q | q
    ·exact .inl q
    ·exact .inr (.inl (R.uh.free q))
    ·exact .inr (.inr q)
  · unfold ov at q;cases z:B' a with
    |none=>rw[z] at q; exact .inl q
    |some o'=>
      rw[z] at q;cases q;rcases new a _ z with q | q
      ·exact .inl (R.bu a _ q)
      ·exact .inr q
 cases e:fm ds with
 |ok d ρ'=>
   unfold an5 at P;rw[e] at P;intro v B' U' As' H' N R' e' n' k;obtain⟨R2,g2⟩:=main R' e';refine P v B' _ H' N R2 g2 ⟨n'.nd,fun a ha=>e'.u.free (n'.un a ha),fun a ha=>?_⟩ (hU d v B' U' (ov B' U) H' N k);unfold ov;have h1:=n'.un a ha;cases z:B' a with
   |none=>exact R.uh.free (e'.u.free h1)
   |some o=>have:=R'.bu a o z; rw[h1] at this; cases this
 |exc c ρ'=>
   unfold an5 at P;rw[e] at P;intro B' U' As' H' R' e';obtain⟨R2,g2⟩:=main R' e';exact P B' _ H' R2 g2
 |bad=>
   unfold an5 at P;rw[e] at P;exact P
theorem hF{d:D}{v:V}{B U U' H:Hp}{N:List Addr}(h:KR cm .F d v B U H N):KR cm .F d v B U' H N:=h
theorem hO{s:Sh}{d:D}{v:V}{B U U' H:Hp}{N:List Addr}(h:KO cm s d v B U H N):KO cm s d v B U' H N:=h
theorem bS3{msC:List Md}{Kr:KT D V}{fm:List D→Out D}{ps:List Ap}{t:TA}{m:Env→Res (List D)}(h:AJ cm E ms ps t m)(hl:ps.length=msC.length)
 (hf:∀ (j:Nat) p,ps[j]?=some p→fits ms true p (msC.getD j .F)=true) (hU:∀ d v B U U' H N,Kr d v B U H N→Kr d v B U' H N):PJ cm Kr E ms (bE1 (spM cm msC Kr fm) [] E t) (fun ρ=>(m ρ).bind (an5 fm)):=by
 intro B U As σ H ρ Q R P;refine h.bnd R P fun ds vs B1 U1 H1 R1 e1 A P1=>?_;rw[Af4];exact bf7 R1 A hl hf hU P1
def af1(c:Nat)(m:Str):D→Bool
 |.obj c' ns _=>decide (c'=c) && !ns.contains m
 |_=>false
theorem ay7{m:Str}:∀ {fs:List (Str×V)},(fs.map (·.1)).contains m=false→fs.lookup m=none
 |[],_=>rfl
 | p :: fs,h=>by
   rw[Aa2,List.contains_cons,Bool.or_eq_false_iff] at h;rw[Ac9,h.1];exact ay7 h.2
theorem ay5{c:Nat}{m:Str}{d:D}{v:V}(h:af1 c m d=true)(hd:Dn cm H d v):∃ a dx fs,v= .ref a∧H a=some (.ins (cm c) dx fs)∧fs.lookup m=none:=by
 cases d with
 |obj c' ns ds=>
   have h:(decide (c'=c) && !ns.contains m)=true:=h;rw[Al0] at h;have e:=Ao3 h.1;subst e;rw[Dn] at hd;obtain⟨a,dx,fs,r,h1,h2,_⟩:=hd;refine⟨a,dx,fs,r,h1,ay7 ?_⟩;rw[h2];simpa using h.2
 |_=>cases h
theorem bS2{c:Nat}{mn:Str}{msC:List Md}{Kr:KT D V}{fm:List D→Out D}{p:Ap}{ps:List Ap}{ta:TE}{ma:Env→Res D}{t:TA}{m:Env→Res (List D)}(ha:A1J cm E ms p ta ma)(h:AJ cm E ms ps t m)(hl:(p :: ps).length=msC.length)
 (hf:∀ (j:Nat) q,(p :: ps)[j]?=some q→fits ms true q (msC.getD j .F)=true) (hU:∀ d v B U U' H N,Kr d v B U H N→Kr d v B U' H N):
 PJ cm Kr E ms (aG3 (cm c) mn (spM cm msC Kr fm) [] E ta t) (fun ρ=>(ma ρ).bind fun o=>if af1 c mn o=true then (m ρ).bind fun ds=>an5 fm (o :: ds) else .bad):=by
 intro B U As σ H ρ Q R P;refine ha.bnd R P fun o v B1 U1 H1 R1 e1 a1 P1=>?_;by_cases z:af1 c mn o=true
 ·rw[Aa6 z] at P1;obtain⟨a,dx,fs,rfl,h1,h2⟩:=ay5 z (A1.read R1 a1);refine⟨a,dx,fs,rfl,h1,h2,h.bnd R1 P1 fun ds vs B2 U2 H2 R2 e2 A P2=>?_⟩;rw[Af4];exact bf7 (ps:=p :: ps) (ds:=o :: ds) R2 ⟨o,ds,_,vs,rfl,rfl,a1.mono e2,A⟩ hl hf hU P2
 ·rw[Aa3 z] at P1;exact P1.elim
end
section
variable{cm:Cm}{E:XK}{ms:List Md}{B U H:Hp}{As:Nat→List Addr}{σ:St}{ρ:Env}
def posO:List Ap→Nat→Option Nat
 |[],_=>none
 |p :: r,i=>if p= .O i then some 0 else (posO r i).map (· + 1)
theorem am6:∀ {ps:List Ap} {i j:Nat},posO ps i=some j→ps[j]?=some (.O i)
 |[],_,_,h=>by cases h
 | p :: r,i,j,h=>by
   unfold posO at h;by_cases e:p= .O i
   ·rw[Aa6 e] at h; cases h; rw[e]; rfl
   ·rw[Aa3 e] at h;obtain⟨k,hk,rfl⟩:=Option.map_eq_some_iff.mp h;rw[Aj0];exact am6 hk
def lent:List Ap→List Nat
 |[]=>[]
 |.O i :: r=>i :: lent r
 |_ :: r=>lent r
def borr:List Ap→List Nat
 |[]=>[]
 |.Bo i :: r=>i :: borr r
 |_ :: r=>borr r
theorem ar7:∀ {ps:List Ap} {i j:Nat},ps[j]?=some (.O i)→i∈lent ps
 |[],_,_,h=>by cases h
 | p :: r,i,j,h=>by
   cases j with
   |zero=>cases h; exact Aa5
   |succ j=>
     have:=ar7 (ps:=r) (j:=j) (by simpa using h)
     cases p <;> first | exact this | exact Aa4 _ this
theorem aH8:∀ {ps:List Ap} {i:Nat},i∈lent ps→∃ j,posO ps i=some j
 |[],_,h=>by cases h
 | p :: r,i,h=>by
   unfold posO;by_cases e:p= .O i
   ·exact⟨0,by rw[Aa6 e]⟩
   · rw[Aa3 e]
     have:i∈lent r:=by
      cases p with
      |O k=>
        rcases List.mem_cons.mp h with z | z
        ·exact absurd (by rw[z]) e
        ·exact z
      |_=>exact h
     obtain⟨j,hj⟩:=aH8 this;exact⟨j + 1,by rw[hj]; rfl⟩
theorem bc4:∀ {ps:List Ap} {i j:Nat},ps[j]?=some (.Bo i)→i∈borr ps
 |[],_,_,h=>by cases h
 | p :: r,i,j,h=>by
   cases j with
   |zero=>cases h; exact Aa5
   |succ j=>
     have:=bc4 (ps:=r) (j:=j) (by simpa using h)
     cases p <;> first | exact this | exact Aa4 _ this
theorem aN1:∀ {ps:List Ap} {i j k:Nat},(lent ps).Nodup→ps[j]?=some (.O i)→ps[k]?=some (.O i)→j=k
 |[],_,_,_,_,h,_=>by cases h
 | p :: r,i,j,k,nd,h1,h2=>by
   cases j with
   |zero=>
     cases k with
     |zero=>rfl
     |succ k=>
       cases h1;exact absurd (ar7 (ps:=r) (j:=k) (by simpa using h2)) (List.nodup_cons.mp nd).1
   |succ j=>
     cases k with
     |zero=>
       cases h2;exact absurd (ar7 (ps:=r) (j:=j) (by simpa using h1)) (List.nodup_cons.mp nd).1
     |succ k=>
       have nd':(lent r).Nodup:=by
        cases p with
        |O x=>exact(List.nodup_cons.mp nd).2
        |_=>exact nd
       rw[aN1 nd' (j:=j) (k:=k) (by simpa using h1) (by simpa using h2)]
theorem ax3:∀ {ps:List Ap} {j:Nat} {ρc ρ:Env},(wbGo ps j ρc ρ).length=ρ.length
 |[],_,_,_=>rfl
 | p :: r,j,ρc,ρ=>by
   cases p with
   |O i=>rw[wbGo,ax3,Ad8]
   |F=>rw[wbGo,ax3]; all_goals simp
   |U=>rw[wbGo,ax3]; all_goals simp
   |X=>rw[wbGo,ax3]; all_goals simp
   |Bo i=>rw[wbGo,ax3]; all_goals simp
theorem aZ6:∀ {ps:List Ap} {j0:Nat} {ρc ρ:Env} {i:Nat},(lent ps).Nodup→i < ρ.length→rg (wbGo ps j0 ρc ρ) i=match posO ps i with | some j=>rg ρc (j0 + j) | none=>rg ρ i
 |[],_,_,_,_,_,_=>rfl
 | p :: r,j0,ρc,ρ,i,nd,hi=>by
   have step:∀ ρ':Env,ρ'.length=ρ.length→(lent r).Nodup→(p≠ .O i)→rg ρ' i=rg ρ i→rg (wbGo r (j0 + 1) ρc ρ') i=match posO (p :: r) i with | some j=>rg ρc (j0 + j) | none=>rg ρ i:=fun ρ' hl nd' hp e=>by
    rw[aZ6 nd' (by rw[hl]; exact hi),posO,Aa3 hp];cases posO r i with
    |none=>exact e
    |some j=>
      show rg ρc (j0 + 1 + j)=rg ρc (j0 + (j + 1));rw[show j0 + 1 + j=j0 + (j + 1) by omega]
   cases p with
   |O k=>
     rw[wbGo];by_cases e:k=i
     · subst e
       have hn:posO r k=none:=by
        cases q:posO r k with
        |none=>rfl
        |some j=>exact absurd (ar7 (am6 q)) (List.nodup_cons.mp nd).1
       rw[aZ6 (List.nodup_cons.mp nd).2 (by rw[Ad8]; exact hi),hn,posO,Aa6 rfl,au9,Aa6 ⟨rfl,hi⟩];rfl
     ·exact step _ (Ad8 ..) (List.nodup_cons.mp nd).2 (fun z=>e (by cases z; rfl)) (by rw[au9,Aa3 fun z=>e z.1])
   |F=>rw[wbGo]; exact step ρ rfl nd (fun z=>by cases z) rfl; all_goals simp
   |U=>rw[wbGo]; exact step ρ rfl nd (fun z=>by cases z) rfl; all_goals simp
   |X=>rw[wbGo]; exact step ρ rfl nd (fun z=>by cases z) rfl; all_goals simp
   |Bo k=>rw[wbGo]; exact step ρ rfl nd (fun z=>by cases z) rfl; all_goals simp
def fit1(ms:List Md):Ap→Md→Prop
 |.F,.F=>True
 |.F,.R=>True
 |.U,.R=>True
 |.Bo _,.R=>True
 |.O i,.O s=>ms.getD i .F= .O s
 |_,_=>False
def fitM(ms:List Md):List Ap→List Md→Prop
 |[],[]=>True
 |p :: ps,m :: r=>fit1 ms p m∧fitM ms ps r
 |_,_=>False
theorem fitM.len:∀ {ps:List Ap} {mc:List Md},fitM ms ps mc→ps.length=mc.length
 |[],[],_=>rfl
 |[],_ :: _,h=>h.elim
 |_ :: _,[],h=>h.elim
 |p :: ps,m :: r,h=>by rw[Ab2,Ab2,fitM.len h.2]
theorem fitM.get:∀ {ps:List Ap} {mc:List Md} {j:Nat} {p:Ap},fitM ms ps mc→ps[j]?=some p→fit1 ms p (mc.getD j .F)
 |[],_,_,_,_,e=>by cases e
 |_ :: _,[],_,_,h,_=>h.elim
 | p :: ps,m :: r,j,q,h,e=>by
   cases j with
   |zero=>cases e; exact h.1
   |succ j=>rw[Ah4]; exact fitM.get (j:=j) h.2 (by simpa using e)
theorem az3{mc:List Md}{ρc:Env}{j:Nat}{s:Sh}(h:mc.getD j .F= .O s):rg (as2 mc ρc) j=rg ρc j:=by
 have hj:j < mc.length:=by
  by_cases z:j < mc.length
  ·exact z
  ·rw[Ab0,Ac6 (by omega)] at h; cases h
 unfold as2;show((((List.range mc.length).map _)[j]?).join)=_;rw[List.getElem?_map,List.getElem?_range hj];show(some (match mc.getD j .F with | .O _=>rg ρc j | _=>none)).join=_;rw[h];rfl
open Classical in
theorem bf8{msC:List Md}{Kr:KT D V}{fm:List D→Out D}{ps:List Ap}{ds:List D}{vs:List V}{Q:VK}(R:Rel cm ms B U As σ H ρ)(A:Ag cm B U H σ ρ ps ds vs)(hf:fitM ms ps msC)(hd:(lent ps).Nodup)
 (hb:∀ i∈borr ps,i∉lent ps) (hU:∀ d v B U U' H N,Kr d v B U H N→Kr d v B U' H N) (P:Mo cm Kr E ms B U σ (aj7 ps fm ds ρ) Q):spM cm msC Kr fm vs H Q E:=by
 have hlen:=A.len;have hl:=hf.len
 have lentO:∀ {i j:Nat},ps[j]?=some (.O i)→∃ d v s,ds[j]?=some d∧vs[j]?=some v∧rg σ i=some v∧rg ρ i=some d∧msC.getD j .F= .O s∧ms.getD i .F= .O s:=fun {i j} e=>by
  obtain⟨d,v,ed,ev,h1⟩:=A.get e;have q:=hf.get e;cases em:msC.getD j .F with
  |O s=>rw[em] at q; exact⟨d,v,s,ed,ev,h1.1,h1.2,rfl,q⟩
  |F=>rw[em] at q; exact q.elim
  |R=>rw[em] at q; exact q.elim
 have FPd:∃ Uc:Hp,(∀ a,(∃ j i:Nat,ps[j]?=some (.O i)∧a∈As i)→Uc a=none)∧(∀ a,(¬ ∃ j i:Nat,ps[j]?=some (.O i)∧a∈As i)→Uc a=H a):=
  ⟨fun a=>if (∃ j i:Nat,ps[j]?=some (.O i)∧a∈As i) then none else H a,fun a h=>Aa6 h,fun a h=>Aa3 h⟩
 obtain⟨Uc,uc1,uc2⟩:=FPd
 have notFP:∀ {a o},U a=some o→¬ ∃ j i:Nat,ps[j]?=some (.O i)∧a∈As i:=fun {a o} q ⟨j,i,_,ha⟩=>by
  rw[R.un i a ha] at q; cases q
 have sUc:Same U Uc:=fun a o q=>by rw[uc2 a (notFP q)]; exact R.uh a o q
 have ucH:Same Uc H:=fun a o q=>by
  by_cases z:∃ j i:Nat,ps[j]?=some (.O i)∧a∈As i
  ·rw[uc1 a z] at q; cases q
  ·rw[uc2 a z] at q; exact q
 -- what is owned and not lent
 have other:∀ {i a},i∉lent ps→a∈As i→∃ o,Uc a=some o∧H a=some o:=fun {i a} hi ha=>by
  obtain⟨o,q⟩:=R.at ha;refine⟨o,?_,q⟩;rw[uc2 a]
  ·exact q
  · rintro⟨j,k,ek,hk⟩;by_cases e:k=i
    ·subst e; exact hi (ar7 ek)
    ·exact R.dj k i a e hk ha
 have Rc:Rel cm msC B Uc (fun j=>match ps[j]? with | some (.O i)=>As i | _=>[]) (vs.map some) H (ds.map some):=by
  refine⟨R.bu.trans sUc,ucH,fun j=>?_,fun j k a hne ha hk=>?_,fun j a ha=>?_,fun j=>?_,by rw[Aa7,Aa7,hlen.1,hlen.2],R.tb⟩
  · try dsimp only
    split
    ·exact R.nd _
    ·exact Af1
  · try dsimp only at ha hk
    split at ha
    · rename_i i e1;split at hk
      · rename_i i' e2;by_cases e:i=i'
        ·subst e; exact hne (aN1 hd e1 e2)
        ·exact R.dj i i' a e ha hk
      ·cases hk
    ·cases ha
  · try dsimp only at ha
    split at ha
    ·rename_i i e1;exact uc1 a ⟨j,i,e1,ha⟩
    ·cases ha
  · rw[aj3,aj3];cases e:ps[j]? with
    |none=>
      have:ps.length≤j:=List.getElem?_eq_none_iff.mp e
      rw[Ac6 (by omega)];rfl
    |some p=>
      obtain⟨d,v,ed,ev,h1⟩:=A.get e;rw[ed,ev];refine⟨v,rfl,?_⟩;have q:=hf.get e;cases p with
      |F=>
        have h1:Dn cm B d v:=h1;cases em:msC.getD j .F with
        |F=>exact⟨h1,rfl⟩
        |R=>exact⟨Dn.mono (R.bu.trans sUc) h1,rfl⟩
        |O s=>rw[em] at q; exact q.elim
      |U=>
        have h1:Dn cm U d v:=h1;cases em:msC.getD j .F with
        |F=>rw[em] at q; exact q.elim
        |R=>exact⟨Dn.mono sUc h1,rfl⟩
        |O s=>rw[em] at q; exact q.elim
      |X=>cases em:msC.getD j .F <;> (rw[em] at q; exact q.elim)
      |Bo i=>
        cases em:msC.getD j .F with
        |F=>rw[em] at q; exact q.elim
        |O s=>rw[em] at q; exact q.elim
        |R=>
          refine⟨?_,rfl⟩;have l:=R.lo i;rw[h1.2] at l;have w:=ar9 l h1.1;cases e2:ms.getD i .F with
          |F=>rw[e2] at w; exact Dn.mono (R.bu.trans sUc) w.1
          |R=>rw[e2] at w; exact Dn.mono sUc w.1
          |O s=>
            rw[e2] at w;refine Ow.dn (R.bu.trans sUc) (fun a ha o q=>?_) w;obtain⟨o',q1,q2⟩:=other (hb i (bc4 e)) ha;rw[q2] at q; cases q; exact q1
      |O i=>
        obtain⟨d',v',s,ed',ev',h2,h3,h4,h5⟩:=lentO e;rw[h4];have l:=R.lo i;rw[h1.2,h5] at l;exact ar9 l h1.1
 refine⟨B,Uc,_,ds,Rc,by omega,?_⟩
 have main:∀ {B' U' H':Hp} {As':Nat→List Addr} {ρc:Env},Rel cm msC B' U' As' (vs.map some) H' (as2 msC ρc)→Ex B Uc B' U'→
  Rel cm ms B' (ov B' U) (fun i=>match posO ps i with | some j=>As' j | none=>As i) σ H' (wbGo ps 0 ρc ρ)∧Ex B U B' (ov B' U)∧∀ N,NewM N U' As'→NewM N (ov B' U) (fun i=>match posO ps i with | some j=>As' j | none=>As i):=fun {B' U' H' As' ρc} R' e'=>by
  have su:Same U (ov B' U):=fun a o q=>by
   unfold ov;cases z:B' a with
   |none=>exact q
   |some o'=>
     have h1:=e'.u a o (sUc a o q);have h2:=R'.bu a o' z;rw[h1] at h2; cases h2; rfl
  have uh:Same (ov B' U) H':=fun a o q=>by
   unfold ov at q;cases z:B' a with
   |none=>rw[z] at q; exact R'.uh a o (e'.u a o (sUc a o q))
   |some o'=>rw[z] at q; cases q; exact R'.bh a _ z
  have bu:Same B' (ov B' U):=fun a o q=>by unfold ov; rw[q]
  have free:∀ {a},U' a=none→ov B' U a=none:=fun {a} h=>by
   unfold ov;cases z:B' a with
   |none=>exact sUc.free (e'.u.free h)
   |some o=>have:=R'.bu a o z; rw[h] at this; cases this
  have there:∀ {i a},posO ps i=none→a∈As i→∃ o,U' a=some o∧H a=some o∧H' a=some o:=fun {i a} hi ha=>by
   obtain⟨o,q1,q2⟩:=other (fun z=>by obtain⟨j,hj⟩:=aH8 z; rw[hi] at hj; cases hj) ha;exact⟨o,e'.u a o q1,q2,R'.uh a o (e'.u a o q1)⟩
  refine⟨⟨bu,uh,fun i=>?_,fun i k a hne ha hk=>?_,fun i a ha=>?_,fun i=>?_,by rw[ax3]; exact R.len,R'.tb⟩,⟨e'.b,su,fun a o q=>?_⟩,fun N n=>⟨n.nd,fun a ha=>free (n.un a ha),fun a ha i=>?_⟩⟩
  · try dsimp only
    split
    ·exact R'.nd _
    ·exact R.nd _
  · try dsimp only at ha hk
    split at ha
    · rename_i j ej;split at hk
      ·rename_i j' ej';refine R'.dj j j' a (fun z=>hne ?_) ha hk;subst z;have h1:=am6 ej;have h2:=am6 ej';rw[h1] at h2; cases h2; rfl
      ·rename_i ek;obtain⟨o,q,_⟩:=there ek hk;rw[R'.un j a ha] at q; cases q
    · rename_i ei;obtain⟨o,q,_⟩:=there ei ha;split at hk
      ·rename_i j' ej';rw[R'.un j' a hk] at q; cases q
      ·exact R.dj i k a hne ha hk
  · try dsimp only at ha
    split at ha
    ·rename_i j ej;exact free (R'.un j a ha)
    · rename_i ei;obtain⟨o,q,_⟩:=there ei ha;unfold ov;cases z:B' a with
      |none=>exact R.un i a ha
      |some o'=>
        rcases e'.nb a o' z with w | w | w
        ·have:=R.bu a o' w; rw[R.un i a ha] at this; cases this
        ·obtain⟨o2,q1,q2⟩:=other (fun z=>by obtain⟨j,hj⟩:=aH8 z; rw[ei] at hj; cases hj) ha;rw[w] at q1; cases q1
        ·obtain⟨o2,_,q2,q3⟩:=there ei ha;rw[R'.bh a o' z] at q3; cases q3;exact(R.nt ha q2 w).elim
  · try dsimp only
    cases ep:posO ps i with
    |some j=>
      obtain⟨d,v,s,ed,ev,h2,h3,h4,h5⟩:=lentO (am6 ep)
      have hi:i < ρ.length:=by
       have:=ah1 h3
       exact(List.getElem?_eq_some_iff.mp this).1
      rw[aZ6 hd hi,ep]
      try dsimp only
      have l:=R'.lo j;rw[az3 h4,aj3,ev,h4] at l;rw[h2,h5,Nat.zero_add];exact l
    |none=>
      try dsimp only
      by_cases hi:i < ρ.length
      ·rw[aZ6 hd hi,ep];refine(R.lo i).mono e'.b su fun a ha=>?_;obtain⟨o,_,q1,q2⟩:=there ep ha;rw[q1,q2]
      · have h1:rg (wbGo ps 0 ρc ρ) i=none:=by
         unfold rg;rw[List.getElem?_eq_none (by rw[ax3]; omega)];rfl
        have h2:rg ρ i=none:=by
         unfold rg;rw[List.getElem?_eq_none (by omega)];rfl
        have l:=R.lo i;rw[h2] at l;rw[h1];exact l
  · rcases e'.nb a o q with w | w | w
    ·exact .inl w
    ·exact .inr (.inl (sUc.free w))
    ·exact .inr (.inr w)
  · try dsimp only
    cases ep:posO ps i with
    |some j=>exact n.ap a ha j
    |none=>
      intro z;obtain⟨o,q,_⟩:=there ep z;rw[n.un a ha] at q; cases q
 cases e:fm ds with
 |ok d ρ'=>
   unfold aj7 at P;rw[e] at P;intro v B' U' As' H' N R' e' n' k;obtain⟨R2,e2,n2⟩:=main R' e';exact P v B' _ _ H' N R2 e2 (n2 N n') (hU d v B' U' (ov B' U) H' N k)
 |exc c ρ'=>
   unfold aj7 at P;rw[e] at P;intro B' U' As' H' R' e';obtain⟨R2,e2,n2⟩:=main R' e';exact P B' _ _ H' R2 e2
 |bad=>
   unfold aj7 at P;rw[e] at P;exact P
end
def au0(c:Nat)(fm:List D→Out D)(ds:List D):Res D:=match fm (.obj c [] [] :: ds) with
 |.ok .non ρ'=>(match rg ρ' 0 with | some d=> .ok d | none=> .bad)
 |.ok _ _=> .bad
 |.exc c _=> .exc c
 |.bad=> .bad
section
variable{cm:Cm}{E:XK}{ms:List Md}{B U H:Hp}{As:Nat→List Addr}{σ:St}{ρ:Env}{K:PySem.W.Frag}
theorem cF3{c:Nat}{mn:Str}{msC:List Md}{Kr:KT D V}{fm:List D→Out D}{p:Ap}{ps:List Ap}{ta:TE}{ma:Env→Res D}{t:TA}{m:Env→Res (List D)}(ha:A1J cm E ms p ta ma)(h:AJ cm E ms ps t m)(hf:fitM ms (p :: ps) msC)(hd:(lent (p :: ps)).Nodup)
 (hb:∀ i∈borr (p :: ps),i∉lent (p :: ps)) (hU:∀ d v B U U' H N,Kr d v B U H N→Kr d v B U' H N):
 MJ cm Kr E ms (aG3 (cm c) mn (spM cm msC Kr fm) [] E ta t) (fun ρ=>((ma ρ).up ρ).bind fun o ρ=>if af1 c mn o=true then ((m ρ).up ρ).bind fun ds ρ=>aj7 (p :: ps) fm (o :: ds) ρ else .bad):=by
 intro B U As σ H ρ Q R P;replace P:Mo cm Kr E ms B U σ (((ma ρ).up ρ).bind fun o ρ=>if af1 c mn o=true then ((m ρ).up ρ).bind fun ds ρ=>aj7 (p :: ps) fm (o :: ds) ρ else .bad) Q:=P;refine ha B U As σ H ρ _ R ?_;cases e:ma ρ with
 |ok o=>
   rw[e] at P;intro v B1 U1 H1 N R1 g1 n1 a1;replace P:Mo cm Kr E ms B U σ (if af1 c mn o=true then ((m ρ).up ρ).bind fun ds ρ=>aj7 (p :: ps) fm (o :: ds) ρ else .bad) Q:=P;by_cases z:af1 c mn o=true
   · rw[Aa6 z] at P;obtain⟨a,dx,fs,rfl,h1,h2⟩:=ay5 z (A1.read R1 a1);refine⟨a,dx,fs,rfl,h1,h2,h B1 U1 As σ H1 ρ _ R1 ?_⟩;cases e2:m ρ with
     |ok ds=>
       rw[e2] at P;intro vs B2 U2 H2 N2 R2 g2 n2 A;rw[Af4];exact bf8 (ps:=p :: ps) (ds:=o :: ds) R2 ⟨o,ds,_,vs,rfl,rfl,a1.mono g2,A⟩ hf hd hb hU (Mo.at (r:=aj7 (p :: ps) fm (o :: ds) ρ) P (g1.toEx.trans g2.toEx))
     |exc c=>rw[e2] at P; exact fun B2 U2 H2 R2 g2=>P B2 U2 As H2 R2 (g1.toEx.trans g2.toEx)
     |bad=>rw[e2] at P; exact P
   ·rw[Aa3 z] at P;exact P.elim
 |exc c=>rw[e] at P; exact fun B1 U1 H1 R1 g1=>P B1 U1 As H1 R1 g1.toEx
 |bad=>rw[e] at P; exact P
theorem ck9{c:Nat}{sh:List (Str×Sh)}{msC:List Md}{fm:List D→Out D}{ps:List Ap}{ds:List D}{vs:List V}{Q:VK}(R:Rel cm ms B U As σ H ρ)(A:Ag cm B U H σ ρ ps ds vs)(hl:ps.length + 1=msC.length)(h0:msC.getD 0 .F= .O (.ob sh))
 (hf:∀ (j:Nat) p,ps[j]?=some p→fits ms true p (msC.getD (j + 1) .F)=true) (P:Po cm (KO cm (.ob sh)) E ms B U As σ H ρ (au0 c fm ds) Q) (x dx:Addr) (hx:H x=none) (hdx:H dx=none) (hne:dx≠x):
 spM cm msC (KR cm .F) fm (.ref x :: vs) (upd (upd H dx (.own x)) x (.ins (cm c) dx [])) (fun v H2=>v= .non∧Q (.ref x) H2) E:=by
 have hlen:=A.len;have sH:Same H (upd (upd H dx (.own x)) x (.ins (cm c) dx [])):=Gd.ba1 hx (Gd.ag3 hdx);have hUc:∃ Uc:Hp,Uc x=none∧∀ a,a≠x→Uc a=upd (upd H dx (.own x)) x (.ins (cm c) dx []) a:=⟨fun a=>if a=x then none else upd (upd H dx (.own x)) x (.ins (cm c) dx []) a,Aa6 rfl,fun a h=>Aa3 h⟩;obtain⟨Uc,u1,u2⟩:=hUc;have sUc:Same H Uc:=fun a o q=>by rw[u2 a (ac0 q hx)]; exact sH a o q
 have ucH:Same Uc (upd (upd H dx (.own x)) x (.ins (cm c) dx [])):=fun a o q=>by
  by_cases z:a=x
  ·subst z; rw[u1] at q; cases q
  ·rw[u2 a z] at q; exact q
 have freeU:∀ {a},Uc a=none→H a=none:=fun h=>sUc.free h
 have Rc:Rel cm msC B Uc (fun j=>match j with | 0=>[x] | _ + 1=>[]) ((.ref x :: vs).map some) (upd (upd H dx (.own x)) x (.ins (cm c) dx [])) ((.obj c [] [] :: ds).map some):=by
  refine⟨R.bh.trans sUc,ucH,fun j=>?_,fun j k a hne' ha hk=>?_,fun j a ha=>?_,fun j=>?_,by rw[Aa7,Aa7,Ab2,Ab2,hlen.1,hlen.2],R.tb⟩
  · cases j with
    |zero=>simp
    |succ j=>exact Af1
  · cases j with
    |zero=>
      cases k with
      |zero=>exact hne' rfl
      |succ k=>cases hk
    |succ j=>cases ha
  · cases j with
    |zero=>rw[List.mem_singleton.mp ha]; exact u1
    |succ j=>cases ha
  · rw[aj3,aj3];cases j with
    |zero=>
      rw[h0];refine⟨.ref x,rfl,?_⟩;show Ow cm B _ (.obj c [] []) (.ob sh) (.ref x) [x];rw[Ow];exact⟨x,dx,[],[],rfl,ab3,rfl,rfl,by rw[Owf]; exact⟨rfl,rfl⟩⟩
    |succ j=>
      rw[Aj0,Aj0];cases e:ps[j]? with
      |none=>
        have:ps.length≤j:=List.getElem?_eq_none_iff.mp e
        rw[Ac6 (by omega)];rfl
      |some p=>
        obtain⟨d,v,ed,ev,h1⟩:=A.get e;rw[ed,ev];refine⟨v,rfl,?_⟩;have hr:=A1.read R h1;have q:=hf j p e;cases em:msC.getD (j + 1) .F with
        |F=>
          rw[em] at q;cases p with
          |F=>exact⟨h1,rfl⟩
          |_=>cases q
        |R=>exact⟨Dn.mono sUc hr,rfl⟩
        |O s=>rw[em] at q; cases p <;> cases q
 refine⟨B,Uc,_,.obj c [] [] :: ds,Rc,by rw[Ab2]; omega,?_⟩
 have main:∀ {B' U' H':Hp} {As':Nat→List Addr} {ρc:Env},Rel cm msC B' U' As' ((.ref x :: vs).map some) H' ρc→Ex B Uc B' U'→Rel cm ms B' (ov B' U) As σ H' ρ∧Gw B U H B' (ov B' U) H'∧∀ a,U' a=none→ov B' U a=none:=fun {B' U' H' As' ρc} R' e'=>by
  have sU:Same U U':=(R.uh.trans sUc).trans e'.u
  have su:Same U (ov B' U):=fun a o q=>by
   unfold ov;cases z:B' a with
   |none=>exact q
   |some o'=>
     have h1:=sU a o q;have h2:=R'.bu a o' z;rw[h1] at h2; cases h2; rfl
  have sh:Same H H':=(sUc.trans e'.u).trans R'.uh
  have uh:Same (ov B' U) H':=fun a o q=>by
   unfold ov at q;cases z:B' a with
   |none=>rw[z] at q; exact sh a o (R.uh a o q)
   |some o'=>rw[z] at q; cases q; exact R'.bh a _ z
  have bu:Same B' (ov B' U):=fun a o q=>by unfold ov; rw[q]
  have new:∀ a o,B' a=some o→B a=some o∨H a=none∨aq3 o:=fun a o q=>(e'.nb a o q).imp id fun z=>z.imp freeU id;refine⟨R.grow e'.b su sh bu uh fun i a ha=>?_,⟨⟨e'.b,su,fun a o q=>?_⟩,sh,fun a o q=>?_⟩,fun a h=>?_⟩
  · unfold ov;cases z:B' a with
    |none=>exact R.un i a ha
    |some o=>
      obtain⟨o',q'⟩:=R.at ha;rcases new a o z with q | q | q
      ·have:=R.bu a o q; rw[R.un i a ha] at this; cases this
      ·rw[q] at q'; cases q'
      ·have e1:=sh _ _ q';rw[R'.bh a o z] at e1; cases e1; exact(R.nt ha q' q).elim
  · rcases new a o q with q | q | q
    ·exact .inl q
    ·exact .inr (.inl (R.uh.free q))
    ·exact .inr (.inr q)
  · unfold ov at q;cases z:B' a with
    |none=>rw[z] at q; exact .inl q
    |some o'=>
      rw[z] at q;cases q;rcases new a _ z with q | q
      ·exact .inl (R.bu a _ q)
      ·exact .inr q
  · unfold ov;cases z:B' a with
    |none=>exact sU.free h
    |some o=>have:=R'.bu a o z; rw[h] at this; cases this
 unfold au0 at P;cases e:fm (.obj c [] [] :: ds) with
 |ok d ρ'=>
   rw[e] at P;intro v B' U' As' H' N R' e' n' k;obtain⟨R2,g2,fr2⟩:=main R' e';cases d with
   |non=>
     have k:Dn cm B' .non v:=k;rw[Dn] at k;refine⟨k,?_⟩;replace P:Po cm (KO cm (.ob sh)) E ms B U As σ H ρ (match rg ρ' 0 with | some d=> .ok d | none=> .bad) Q:=P;have l:=R'.lo 0;rw[az3 h0,h0] at l;cases e0:rg ρ' 0 with
     |none=>rw[e0] at P; exact P.elim
     |some d=>
       rw[e0] at P l;have w:=ar9 l (v:= .ref x) rfl;exact P (.ref x) B' _ H' (As' 0) R2 g2 ⟨R'.nd 0,fun a ha=>freeU (e'.u.free (R'.un 0 a ha)),fun a ha=>fr2 a (R'.un 0 a ha)⟩ w
   |_=>exact P.elim
 |exc c' ρ'=>
   rw[e] at P;intro B' U' As' H' R' e';obtain⟨R2,g2,fr2⟩:=main R' e';exact P B' _ H' R2 g2
 |bad=>rw[e] at P; exact P
theorem cx7{c:Nat}{sh:List (Str×Sh)}{msC:List Md}{fm:List D→Out D}{ps:List Ap}{t:TA}{m:Env→Res (List D)}(h:AJ cm E ms ps t m)(hl:ps.length + 1=msC.length)(h0:msC.getD 0 .F= .O (.ob sh))
 (hf:∀ (j:Nat) p,ps[j]?=some p→fits ms true p (msC.getD (j + 1) .F)=true):PJ cm (KO cm (.ob sh)) E ms (bV1 (cm c) (spM cm msC (KR cm .F) fm) [] E t) (fun ρ=>(m ρ).bind (au0 c fm)):=by
 intro B U As σ H ρ Q R P;refine h.bnd R P fun ds vs B1 U1 H1 R1 e1 A P1=>?_;intro x dx hx hdx hne;rw[Af4];exact ck9 R1 A hl h0 hf P1 x dx hx hdx hne
structure Pth (cm:Cm) (ms:List Md) (t:TE) (get:Env→Option D) (set:Env→D→Env):Prop where
 rd:∀ {B U:Hp} {As:Nat→List Addr} {σ:St} {H:Hp} {ρ:Env} {d:D},Rel cm ms B U As σ H ρ→get ρ=some d→∃ v A,(∀ Q:VK,Q v H→t σ H Q)∧Ow cm B H d (.ct .fz) v A∧(∀ a∈A,∃ i,a∈As i)∧
  ∀ B1 U1 H1,Rel cm ms B1 U1 As σ H1 ρ→Same B B1→Same H H1→∀ a∈A,∀ o' d',Ow cm B1 (upd H1 a o') d' (.ct .fz) v A→Rel cm ms B1 U1 As σ (upd H1 a o') (set ρ d')
theorem Rel.mut(R:Rel cm ms B U As σ H ρ){i:Nat}{a:Addr}{o':HO}{d d':D}{v:V}{sh:Sh}(hm:ms.getD i .F= .O sh)(hv:rg σ i=some v)(hd:rg ρ i=some d)(ha:a∈As i)(w:Ow cm B (upd H a o') d' sh v (As i)):
 Rel cm ms B U As σ (upd H a o') (ρ.set i (some d')):=by
 have hi:i < ρ.length:=(List.getElem?_eq_some_iff.mp (ah1 hd)).1;refine⟨R.bu,fun b u q=>?_,R.nd,R.dj,R.un,fun j=>?_,by rw[Ad8]; exact R.len,R.tb⟩
 ·rw[ab0 (ac0 q (R.un i a ha))];exact R.uh b u q
 · rw[au9];by_cases e:i=j
   ·subst e;rw[Aa6 ⟨rfl,hi⟩,hm];exact⟨v,hv,w⟩
   ·rw[Aa3 fun z=>e z.1];exact(R.lo j).mono (Same.refl _) (Same.refl _) fun b hb=>ab0 (fun z:b=a=>R.dj i j a e ha (z ▸ hb))
def aC7(i:Nat):Env→Option D:=fun ρ=>rg ρ i
def aL4(i:Nat):Env→D→Env:=fun ρ d=>ρ.set i (some d)
theorem pthV{i:Nat}(hm:ms.getD i .F= .O (.ct .fz)):Pth cm ms (tVar i) (aC7 i) (aL4 i) where
 rd:=fun {B U As σ H ρ d} R e=>by
  replace e:rg ρ i=some d:=e;have l:=R.lo i;rw[e,hm] at l;obtain⟨v,hv,w⟩:=l;exact⟨v,As i,fun Q q=>⟨v,ah1 hv,q⟩,w,fun a ha=>⟨i,ha⟩,fun B1 U1 H1 R1 _ _ a ha o' d' w'=>R1.mut hm hv e ha w'⟩
theorem Owf.upd{sh:List (Str×Sh)}{f:Str}{B H:Hp}:∀ {fs:List (Str×V)} {ds:List D} {A:List Addr} {d:D},Owf cm B H ds (fs.map (·.1)) sh (fs.map (·.2)) A→A.Nodup→ae6 (fs.map (·.1)) ds f=some d→
 ∃ v A1,fs.lookup f=some v∧Ow cm B H d ((sh.lookup f).getD .fz) v A1∧(∀ a∈A1,a∈A)∧∀ B1 H1 d',Same B B1→(∀ b∈A,b∉A1→H1 b=H b)→Ow cm B1 H1 d' ((sh.lookup f).getD .fz) v A1→Owf cm B1 H1 (al0 (fs.map (·.1)) ds f d') (fs.map (·.1)) sh (fs.map (·.2)) A
 |[],ds,A,d,h,nd,e=>by cases ds <;> cases e
 | p :: fs,ds,A,d,h,nd,e=>by
   cases ds with
   |nil=>cases e
   |cons d0 ds=>
     rw[List.map_cons,List.map_cons,Owf] at h;obtain⟨n,ns',x,r,X1,X2,hn,h0,h1,h2,h3⟩:=h;cases hn;cases h0;subst h1;obtain⟨nd1,nd2,nd3⟩:=List.nodup_append.mp nd;rw[List.map_cons] at e;unfold ae6 at e;by_cases q:p.1=f
     ·rw[Aa6 q] at e;cases e;rw[q] at h2;refine⟨p.2,X1,by rw[Ac9,← q,Ah5],h2,fun a ha=>Ab9 _ ha,fun B1 H1 d' sb k w=>?_⟩;rw[Aa2,Aa2,al0,Aa6 q,Owf];exact⟨p.1,_,p.2,_,X1,X2,rfl,rfl,rfl,by rw[q]; exact w,Owf.mono sb (fun b hb=>k b (Aa8 _ hb) fun z=>nd3 b z b hb rfl) h3⟩
     ·rw[Aa3 q] at e;obtain⟨v,A1,hv,ow,hA,cl⟩:=Owf.upd h3 nd2 e;have hb:(f == p.1)=false:=beq_eq_false_iff_ne.mpr fun z=>q z.symm;refine⟨v,A1,by rw[Ac9,hb]; exact hv,ow,fun a ha=>Aa8 _ (hA a ha),fun B1 H1 d' sb k w=>?_⟩;rw[Aa2,Aa2,al0,Aa3 q,Owf];exact⟨p.1,_,p.2,_,X1,X2,rfl,rfl,rfl,Ow.mono sb (fun b hb=>k b (Ab9 _ hb) fun z=>nd3 b hb b (hA b z) rfl) h2,cl B1 H1 d' sb (fun b hb hb1=>k b (Aa8 _ hb) hb1) w⟩
def getF(c:Nat)(f:Str)(i:Nat):Env→Option D:=fun ρ=>match rg ρ i with
 |some (.obj c' ns vs)=>if c'=c then ae6 ns vs f else none
 |_=>none
def setF(f:Str)(i:Nat):Env→D→Env:=fun ρ d=>match rg ρ i with
 |some (.obj c ns vs)=>ρ.set i (some (.obj c ns (al0 ns vs f d)))
 |_=>ρ
theorem pthF{c:Nat}{f:Str}{i:Nat}{sh:List (Str×Sh)}(hc:Cls K (cm c))(hn:NoAttr K (cm c) f)(hm:ms.getD i .F= .O (.ob sh))(hf:(sh.lookup f).getD .fz= .ct .fz):Pth cm ms (tFld K (tVar i) f) (getF c f i) (setF f i) where
 rd:=fun {B U As σ H ρ d} R e=>by
  have l:=R.lo i;unfold getF at e;cases e0:rg ρ i with
  |none=>rw[e0] at e; cases e
  |some d0=>
    cases d0 with
    |obj c' ns vs=>
      rw[e0] at e;replace e:(if c'=c then ae6 ns vs f else none)=some d:=e;by_cases q:c'=c
      · subst q;rw[Aa6 rfl] at e;rw[e0,hm] at l;obtain⟨v,hv,w⟩:=l;have w0:Ow cm B H (.obj c' ns vs) (.ob sh) v (As i):=w;rw[Ow] at w0;obtain⟨a,dx,xs,A',rfl,h1,h2,h3,h4⟩:=w0;subst h2;have nd:=R.nd i;rw[h3] at nd;obtain⟨nd1,nd2⟩:=List.nodup_cons.mp nd;obtain⟨u,A1,hu,ow,hA,cl⟩:=Owf.upd h4 nd2 e;rw[hf] at ow;refine⟨u,A1,fun Q q=>⟨.ref a,ah1 hv,a,_,dx,xs,u,rfl,h1,hc,hn,hu,q⟩,ow,fun b hb=>⟨i,by rw[h3]; exact Aa4 _ (hA b hb)⟩,fun B1 U1 H1 R1 sb sh1 b hb o' d' w'=>?_⟩;have hbi:b∈As i:=by rw[h3]; exact Aa4 _ (hA b hb)
        have:setF f i ρ d'=ρ.set i (some (.obj c' (xs.map (·.1)) (al0 (xs.map (·.1)) vs f d'))):=by unfold setF; rw[e0]
        rw[this];refine R1.mut hm hv e0 hbi ?_;rw[h3,Ow];have nab:a≠b:=fun z=>nd1 (by rw[z]; exact hA b hb);refine⟨a,dx,xs,A',rfl,by rw[ab0 nab]; exact sh1 _ _ h1,rfl,rfl,cl B1 _ d' sb (fun y hy hy1=>?_) (by rw[hf]; exact w')⟩
        have:y≠b:=fun z=>hy1 (by rw[z]; exact hb)
        rw[ab0 this];obtain⟨o,ho⟩:=Owf.at h4 hy;rw[ho,sh1 _ _ ho]
      ·rw[Aa3 q] at e;cases e
    |_=>rw[e0] at e; cases e
def lstK(set:Env→D→Env)(ρ:Env):Option (D×List D)→Out D
 |some (d,es)=> .ok d (set ρ (.lst es))
 |none=> .bad
def lstR(set:Env→D→Env)(f:List D→D→Option (D×List D))(ρ:Env)(xs:List D):Res D→Out D
 |.ok x=>lstK set ρ (f xs x)
 |.exc c=> .exc c ρ
 |.bad=> .bad
def lst1(get:Env→Option D)(set:Env→D→Env)(f:List D→D→Option (D×List D))(me:Env→Res D):Env→Out D:=fun ρ=>match get ρ with
 |some (.lst xs)=>lstR set f ρ xs (me ρ)
 |_=> .bad
theorem Ow.lst{d:D}{v:V}{A:List Addr}{ds:List D}(w:Ow cm B H d (.ct .fz) v A)(e:d= .lst ds):∃ a xs,v= .ref a∧H a=some (.lst xs)∧A=[a]∧Dns cm B ds xs:=by
 subst e;rw[Ow] at w;obtain⟨a,xs,A',r,h1,h2,h3⟩:=w;obtain⟨h4,h5⟩:=Ows.fz h3;exact⟨a,xs,r,h1,by rw[h2,h5],h4⟩
theorem Ow.lst'{a:Addr}{ds:List D}{xs:List V}(h:H a=some (.lst xs))(d:Dns cm B ds xs):Ow cm B H (.lst ds) (.ct .fz) (.ref a) [a]:=by
 rw[Ow];exact⟨a,xs,[],rfl,h,rfl,Ows.of d⟩
section
variable{t:TE}{get:Env→Option D}{set:Env→D→Env}
theorem m_bm1{k:Kd}{r:V→List V→Hp→VK→Prop}{f:List D→D→Option (D×List D)}{te:TE}{me:Env→Res D}(p:Pth cm ms t get set)(he:PJ cm (KR cm k) E ms te me)
 (hr:∀ (B U H:Hp) (a:Addr) (ds:List D) (xs:List V) (x:D) (u:V) (d:D) (es:List D) (Q:VK),Same B U→Same U H→H a=some (.lst xs)→Dns cm B ds xs→Dn cm (hp k B U H) x u→f ds x=some (d,es)→(∀ v ys,Dn cm B d v→Dns cm B es ys→Q v (upd H a (.lst ys)))→r (.ref a) [u] H Q):
 MJ cm (KR cm .F) E ms (tBM K "list" r t (af7 te tNil)) (lst1 get set f me):=by
 intro B U As σ H ρ Q R P;unfold lst1 at P;cases e:get ρ with
 |none=>rw[e] at P; exact P.elim
 |some d0=>
   cases d0 with
   |lst ds=>
     rw[e] at P;replace P:Mo cm (KR cm .F) E ms B U σ (lstR set f ρ ds (me ρ)) Q:=P;obtain⟨v,A,ht,w,hA,cl⟩:=p.rd R e;obtain⟨a,xs,rfl,h1,rfl,h2⟩:=w.lst rfl;refine ht _ ⟨.inl ⟨rfl,xs,SqL.of h1⟩,he B U As σ H ρ _ R ?_⟩;cases em:me ρ with
     |ok x=>
       rw[em] at P;replace P:Mo cm (KR cm .F) E ms B U σ (lstK set ρ (f ds x)) Q:=P;intro u B1 U1 H1 N R1 g1 n1 hu;cases ef:f ds x with
       |none=>rw[ef] at P; exact P.elim
       |some de=>
         obtain⟨d,es⟩:=de;rw[ef] at P;refine hr B1 U1 H1 a ds xs x u d es Q R1.bu R1.uh (g1.h _ _ h1) (h2.mono g1.b) hu ef fun v ys hv hy=>?_;exact P v B1 U1 As _ [] (cl B1 U1 H1 R1 g1.b g1.h a Aa5 _ _ (Ow.lst' ab3 hy)) g1.toEx NewM.nil hv
     |exc c=>rw[em] at P; exact fun B1 U1 H1 R1 g1=>P B1 U1 As H1 R1 g1.toEx
     |bad=>rw[em] at P; exact P.elim
   |_=>rw[e] at P; exact P.elim
def appF(xs:List D)(x:D):Option (D×List D):=if xs.length < aa6 then some (.non,xs ++ [x]) else none
def popF(xs:List D)(x:D):Option (D×List D):=match x with
 |.int i=>if 0≤i∧i < xs.length∧xs.length≤aa6 then xs[i.toNat]?.map fun d=>(d,xs.eraseIdx i.toNat) else none
 |_=>none
theorem cl0{te:TE}{me:Env→Res D}(p:Pth cm ms t get set)(he:PJ cm (KR cm .X) E ms te me):MJ cm (KR cm .F) E ms (tBM K "list" bR5 t (af7 te tNil)) (lst1 get set popF me):=
 m_bm1 (f:=popF) p he fun B U H a ds xs x u d es Q _ _ h1 h2 hu ef k=>by
  cases x with
  |int i=>
    have hu:Dn cm H (.int i) u:=hu;rw[Dn] at hu;subst hu;replace ef:(if 0≤i∧i < ds.length∧ds.length≤aa6 then ds[i.toNat]?.map fun d=>(d,ds.eraseIdx i.toNat) else none)=some (d,es):=ef;by_cases z:0≤i∧i < ds.length∧ds.length≤aa6
    ·rw[if_pos z] at ef;obtain⟨y,ey,e2⟩:=Option.map_eq_some_iff.mp ef;cases e2;obtain⟨w,hw,dw⟩:=h2.get ey;obtain⟨z1,z2,z3⟩:=z;unfold aa6 at z3;refine⟨a,xs,i,i.toNat,w,rfl,rfl,h1,by omega,by omega,?_,hw,k w _ dw (h2.erase _)⟩;refine(aU2 ?_).1;unfold ixN;rw[if_pos z1,if_pos (by rw[← h2.len]; exact z2)]
    ·rw[Aa3 z] at ef;cases ef
  |_=>cases ef
def bD1(i:Nat)(x:D)(ρ:Env):Out D:=match rg ρ i with
 |some (.lst xs)=>lstK (aL4 i) ρ (appF xs x)
 |_=> .bad
def appM(i:Nat)(me:Env→Out D):Env→Out D:=fun ρ=>match rg ρ i with
 |some (.lst _)=>(me ρ).bind (bD1 i)
 |_=> .bad
theorem bs4{i:Nat}{te:TE}{me:Env→Out D}(hm:ms.getD i .F= .O (.ct .fz))(he:MJ cm (KR cm .F) E ms te me):MJ cm (KR cm .F) E ms (tBM K "list" bo9 (tVar i) (af7 te tNil)) (appM i me):=by
 intro B U As σ H ρ Q R P;unfold appM at P;cases e:rg ρ i with
 |none=>rw[e] at P; exact P.elim
 |some d0=>
   cases d0 with
   |lst ds=>
     rw[e] at P;replace P:Mo cm (KR cm .F) E ms B U σ ((me ρ).bind (bD1 i)) Q:=P;have l:=R.lo i;rw[e,hm] at l;obtain⟨v,hv,w⟩:=l;obtain⟨a,xs,rfl,h1,_,h2⟩:=Ow.lst w rfl;refine⟨.ref a,ah1 hv,.inl ⟨rfl,xs,SqL.of h1⟩,he.bnd R P fun x ρ' u B1 U1 As1 H1 N R1 e1 n1 hu P1=>?_⟩;have l1:=R1.lo i;unfold bD1 at P1;cases e2:rg ρ' i with
     |none=>rw[e2] at P1; exact P1.elim
     |some d2=>
       cases d2 with
       |lst ds2=>
         rw[e2] at P1;rw[e2,hm,hv] at l1;have w1:=ar9 l1 rfl;obtain⟨a',xs2,ea,h3,h4,h5⟩:=Ow.lst w1 rfl;cases ea;replace P1:Mo cm (KR cm .F) E ms B1 U1 σ (lstK (aL4 i) ρ' (appF ds2 x)) Q:=P1;unfold appF at P1;by_cases z:ds2.length < aa6
         ·rw[Aa6 z] at P1;refine⟨a,xs2,u,rfl,rfl,h3,am9 (Ah0 (by rw[← h5.len]; exact z)),?_⟩;refine P1 .non B1 U1 As1 _ [] (R1.mut hm hv e2 (by rw[h4]; exact Aa5) ?_) (Ex.refl _ _) NewM.nil (show Dn cm B1 .non .non by rw[Dn]);rw[h4];exact Ow.lst' ab3 (h5.append (Dns.one hu))
         ·rw[Aa3 z] at P1;exact P1.elim
       |_=>rw[e2] at P1; exact P1.elim
   |_=>rw[e] at P; exact P.elim
end
end
section
variable{cm:Cm}{E:XK}{Kr:KT D V}{pr:Nat→Bool}{ms:List Md}{B U H:Hp}{As:Nat→List Addr}{σ:St}{ρ:Env}{K:PySem.W.Frag}
def aP0(set:Env→D→Env)(x d:D)(ρ:Env):Res D→SO
 |.ok k=>(match bj4 d k x with | some d'=> .nx (set ρ d') | none=> .bad)
 |.exc c=> .exc c ρ
 |.bad=> .bad
def aD5(get:Env→Option D)(set:Env→D→Env)(mk:Env→Res D)(mv:Env→Out D):Env→SO:=fun ρ=>at4 (mv ρ) fun x ρ1=>match get ρ1 with
 |some d=>aP0 set x d ρ1 (mk ρ1)
 |none=> .bad
section
variable{κ:Type}[DecidableEq κ]
theorem aK4{kvs:List (κ×V)}{k:κ}:(kvs.any fun kv=>decide (kv.1=k))=hasK (kvs.map (·.1)) k:=by
 unfold hasK;rw[List.any_map];rfl
theorem ba8{kvs:List (κ×V)}{k:κ}{v:V}(h:hasK (kvs.map (·.1)) k=true):(putK kvs k v).map (·.1)=kvs.map (·.1):=by
 unfold putK;rw[aK4,if_pos h,List.map_map];refine List.map_congr_left fun p _=>?_;show(if p.1=k then (p.1,v) else p).1=p.1;split <;> rfl
theorem aj9{kvs:List (κ×V)}{k:κ}{v:V}(h:¬ hasK (kvs.map (·.1)) k=true):putK kvs k v=kvs ++ [(k,v)]:=by
 unfold putK;rw[aK4,if_neg h]
theorem aG9{G:Hp}{x:D}{v:V}{k:κ}(hx:Dn cm G x v):∀ {kvs:List (κ×V)} {ds:List D},Dns cm G ds (kvs.map (·.2))→Dns cm G (putV (kvs.map (·.1)) ds k x) ((kvs.map fun kv=>if kv.1=k then (kv.1,v) else kv).map (·.2))
 |[],ds,h=>by cases ds <;> exact(by rw[List.map_nil,List.map_nil,List.map_nil]; unfold putV; rw[Dns])
 | p :: kvs,ds,h=>by
   cases ds with
   |nil=>rw[Dns] at h; cases h
   |cons d ds=>
     rw[Aa2,Dns] at h;obtain⟨y,r,e,h1,h2⟩:=h;cases e;rw[Aa2,Aa2,Aa2,putV,Dns];refine⟨_,_,rfl,?_,aG9 hx h2⟩;by_cases q:p.1=k
     ·rw[Aa6 q,Aa6 q]; exact hx
     ·rw[Aa3 q,Aa3 q]; exact h1
end
theorem Ow.dT{d:D}{v:V}{A:List Addr}{ks:List (List Key)}{ds:List D}(w:Ow cm B H d (.ct .fz) v A)(e:d= .dT ks ds):∃ (a:Addr) (kvs:List (List Key×V)),v= .ref a∧H a=some (.dT kvs)∧kvs.map (·.1)=ks∧A=[a]∧Dns cm B ds (kvs.map (·.2)):=by
 subst e;rw[Ow] at w;obtain⟨a,xs,A',r,h1,h2,h3,h4⟩:=w;obtain⟨h5,h6⟩:=Ows.fz h4;exact⟨a,xs,r,h1,h2,by rw[h3,h6],h5⟩
theorem Ow.dK{d:D}{v:V}{A:List Addr}{ks:List Key}{ds:List D}(w:Ow cm B H d (.ct .fz) v A)(e:d= .dK ks ds):∃ (a:Addr) (kvs:List (Key×V)),v= .ref a∧H a=some (.dK kvs)∧kvs.map (·.1)=ks∧A=[a]∧Dns cm B ds (kvs.map (·.2)):=by
 subst e;rw[Ow] at w;obtain⟨a,xs,A',r,h1,h2,h3,h4⟩:=w;obtain⟨h5,h6⟩:=Ows.fz h4;exact⟨a,xs,r,h1,h2,by rw[h3,h6],h5⟩
theorem Ow.dT'{a:Addr}{kvs:List (List Key×V)}{ds:List D}(h:H a=some (.dT kvs))(d:Dns cm B ds (kvs.map (·.2))):Ow cm B H (.dT (kvs.map (·.1)) ds) (.ct .fz) (.ref a) [a]:=by
 rw[Ow];exact⟨a,kvs,[],rfl,h,rfl,rfl,Ows.of d⟩
theorem Ow.dK'{a:Addr}{kvs:List (Key×V)}{ds:List D}(h:H a=some (.dK kvs))(d:Dns cm B ds (kvs.map (·.2))):Ow cm B H (.dK (kvs.map (·.1)) ds) (.ct .fz) (.ref a) [a]:=by
 rw[Ow];exact⟨a,kvs,[],rfl,h,rfl,rfl,Ows.of d⟩
theorem cn5{d k x d':D}{v u w:V}{A:List Addr}(hw:Ow cm B H d (.ct .fz) v A)(hk:Dn cm H k u)(hx:Dn cm B x w)(e:bj4 d k x=some d'):∃ a o',v= .ref a∧a∈A∧DPut H a u w (upd H a o')∧Ow cm B (upd H a o') d' (.ct .fz) v A:=by
 cases d with
 |dT ks vs=>
   obtain⟨a,kvs,rfl,h1,h2,rfl,h3⟩:=hw.dT rfl;cases k with
   |tup kd=>
     replace e:((ai4 kd).bind fun k=>if ks.length < aa6 then some (if hasK ks k=true then D.dT ks (putV ks vs k x) else .dT (ks ++ [k]) (vs ++ [x])) else none)=some d':=e;obtain⟨kk,ek,e⟩:=Option.bind_eq_some_iff.mp e;rw[Dn] at hk;obtain⟨b,xs,rfl,h4,h5⟩:=hk;have ex:=an8 ek h5;subst ex;by_cases z:ks.length < aa6
     · rw[Aa6 z] at e;cases e;have hl:kvs.length < sizeLine:=am9 (Ah0 (by rw[← h2,Aa7] at z; exact z));refine⟨a,_,rfl,Aa5,DPut.t h1 h4 hl,?_⟩;subst h2;by_cases q:hasK (kvs.map (·.1)) kk=true
       · rw[if_pos q];have hp:putK kvs kk w=kvs.map fun kv=>if kv.1=kk then (kv.1,w) else kv:=by unfold putK; rw[aK4,if_pos q]
         have:=Ow.dT' (cm:=cm) (B:=B) (H:=upd H a (.dT (putK kvs kk w))) (ds:=putV (kvs.map (·.1)) vs kk x) ab3 (by rw[hp]; exact aG9 hx h3)
         rw[ba8 q] at this;exact this
       · rw[Aa3 q]
         have:=Ow.dT' (cm:=cm) (B:=B) (H:=upd H a (.dT (putK kvs kk w))) (ds:=vs ++ [x]) ab3 (by rw[aj9 q,Ad3]; exact h3.append (Dns.one hx))
         rw[aj9 q,Ad3] at this;rw[aj9 q];exact this
     ·rw[Aa3 z] at e;cases e
   |_=>cases e
 |dK ks vs=>
   obtain⟨a,kvs,rfl,h1,h2,rfl,h3⟩:=hw.dK rfl;replace e:((ai6 k).bind fun k=>if ks.length < aa6 then some (if hasK ks k=true then D.dK ks (putV ks vs k x) else .dK (ks ++ [k]) (vs ++ [x])) else none)=some d':=by cases k <;> exact e
   obtain⟨kk,ek,e⟩:=Option.bind_eq_some_iff.mp e;have ex:=aI1 ek hk;subst ex;by_cases z:ks.length < aa6
   · rw[Aa6 z] at e;cases e;have hl:kvs.length < sizeLine:=am9 (Ah0 (by rw[← h2,Aa7] at z; exact z));refine⟨a,_,rfl,Aa5,DPut.k h1 hl,?_⟩;subst h2;by_cases q:hasK (kvs.map (·.1)) kk=true
     · rw[if_pos q];have hp:putK kvs kk w=kvs.map fun kv=>if kv.1=kk then (kv.1,w) else kv:=by unfold putK; rw[aK4,if_pos q]
       have:=Ow.dK' (cm:=cm) (B:=B) (H:=upd H a (.dK (putK kvs kk w))) (ds:=putV (kvs.map (·.1)) vs kk x) ab3 (by rw[hp]; exact aG9 hx h3)
       rw[ba8 q] at this;exact this
     · rw[Aa3 q]
       have:=Ow.dK' (cm:=cm) (B:=B) (H:=upd H a (.dK (putK kvs kk w))) (ds:=vs ++ [x]) ab3 (by rw[aj9 q,Ad3]; exact h3.append (Dns.one hx))
       rw[aj9 q,Ad3] at this;rw[aj9 q];exact this
   ·rw[Aa3 z] at e;cases e
 |_=>cases k <;> cases e
section
variable{t:TE}{get:Env→Option D}{set:Env→D→Env}{tk tv:TE}{mk:Env→Res D}{mv:Env→Out D}
theorem ax9(p:Pth cm ms t get set)(hk:PJ cm (KR cm .X) E ms tk mk)(hv:MJ cm (KR cm .F) E ms tv mv):SJ cm E Kr pr ms (cv5 t tk tv) (aD5 get set mk mv):=by
 intro B U As σ H ρ D R P;refine hv.bndS R P fun x ρ1 w B1 U1 As1 H1 N R1 e1 n1 hx P1=>?_;cases e:get ρ1 with
 |none=>rw[e] at P1; exact P1.elim
 |some d=>
   rw[e] at P1;replace P1:So cm E Kr pr ms B1 U1 σ (aP0 set x d ρ1 (mk ρ1)) D:=P1;obtain⟨v,A,ht,ow,hA,cl⟩:=p.rd R1 e;refine ht _ (hk B1 U1 As1 σ H1 ρ1 _ R1 ?_);cases em:mk ρ1 with
   |ok k=>
     rw[em] at P1;replace P1:So cm E Kr pr ms B1 U1 σ (match bj4 d k x with | some d'=> .nx (set ρ1 d') | none=> .bad) D:=P1;intro u B2 U2 H2 N2 R2 g2 n2 hu;cases ed:bj4 d k x with
     |none=>rw[ed] at P1; exact P1.elim
     |some d'=>
       rw[ed] at P1
       have ow2:Ow cm B2 H2 d (.ct .fz) v A:=Ow.mono g2.b (fun a ha=>by
        obtain⟨o,ho⟩:=Ow.at ow ha
        rw[ho,g2.h _ _ ho]) ow
       obtain⟨a,o',ea,ha,dp,ow3⟩:=cn5 ow2 hu (Dn.mono g2.b hx) ed;exact⟨a,_,ea,dp,P1 σ B2 U2 As1 _ (cl B2 U2 H2 R2 g2.b g2.h a ha o' d' ow3) g2.toEx (Kp.refl _ _)⟩
   |exc c=>rw[em] at P1; exact fun B2 U2 H2 R2 g2=>P1 σ B2 U2 As1 H2 R2 g2.toEx (Kp.refl _ _)
   |bad=>rw[em] at P1; exact P1.elim
def bJ8(set:Env→D→Env)(x:D)(xs:List D)(ρ:Env):Res D→SO
 |.ok (.int i)=>(match ixN xs.length i with | some j=> .nx (set ρ (.lst (xs.set j x))) | none=> .bad)
 |.ok _=> .bad
 |.exc c=> .exc c ρ
 |.bad=> .bad
def aT8(get:Env→Option D)(set:Env→D→Env)(mk:Env→Res D)(mv:Env→Out D):Env→SO:=fun ρ=>at4 (mv ρ) fun x ρ1=>match get ρ1 with
 |some (.lst xs)=>bJ8 set x xs ρ1 (mk ρ1)
 |_=> .bad
theorem bP0(p:Pth cm ms t get set)(hk:PJ cm (KR cm .X) E ms tk mk)(hv:MJ cm (KR cm .F) E ms tv mv):SJ cm E Kr pr ms (tAsg tv (gSub t tk cv9)) (aT8 get set mk mv):=by
 intro B U As σ H ρ D R P;refine hv.bndS R P fun x ρ1 w B1 U1 As1 H1 N R1 e1 n1 hx P1=>?_;cases e:get ρ1 with
 |none=>rw[e] at P1; exact P1.elim
 |some d=>
   cases d with
   |lst xs=>
     rw[e] at P1;replace P1:So cm E Kr pr ms B1 U1 σ (bJ8 set x xs ρ1 (mk ρ1)) D:=P1;obtain⟨v,A,ht,ow,hA,cl⟩:=p.rd R1 e;obtain⟨a,vs,rfl,h1,rfl,h2⟩:=ow.lst rfl;refine ht _ (hk B1 U1 As1 σ H1 ρ1 _ R1 ?_);cases em:mk ρ1 with
     |ok k=>
       rw[em] at P1;intro u B2 U2 H2 N2 R2 g2 n2 hu;cases k with
       |int i=>
         replace P1:So cm E Kr pr ms B1 U1 σ (match ixN xs.length i with | some j=> .nx (set ρ1 (.lst (xs.set j x))) | none=> .bad) D:=P1;have hu:Dn cm H2 (.int i) u:=hu;rw[Dn] at hu;cases ed:ixN xs.length i with
         |none=>rw[ed] at P1; exact P1.elim
         |some j=>
           rw[ed] at P1;refine⟨a,vs,i,j,rfl,hu,g2.h _ _ h1,by rw[← h2.len]; exact ed,?_⟩;exact P1 σ B2 U2 As1 _ (cl B2 U2 H2 R2 g2.b g2.h a Aa5 _ _ (Ow.lst' ab3 (Dns.set (Dn.mono g2.b hx) j (h2.mono g2.b)))) g2.toEx (Kp.refl _ _)
       |_=>exact P1.elim
     |exc c=>rw[em] at P1; exact fun B2 U2 H2 R2 g2=>P1 σ B2 U2 As1 H2 R2 g2.toEx (Kp.refl _ _)
     |bad=>rw[em] at P1; exact P1.elim
   |_=>rw[e] at P1; exact P1.elim
end
theorem aM2{f:Str}{y:V}:∀ {fs:List (Str×V)},(putF f y fs).map (·.1)=if hasK (fs.map (·.1)) f=true then fs.map (·.1) else fs.map (·.1) ++ [f]
 |[]=>rfl
 | p :: fs=>by
   obtain⟨g,z⟩:=p;unfold putF hasK;rw[List.map_cons,List.any_cons];by_cases q:g=f
   ·rw[Aa6 q,Ag2 q,Bool.true_or,Aa6 rfl,Aa2]
   · rw[if_neg q,decide_eq_false q,Bool.false_or,List.map_cons,aM2];unfold hasK;split
     ·rfl
     ·rw[Aj3]
theorem Owf.put{sh:List (Str×Sh)}{f:Str}{x:D}{y:V}{N:List Addr}(hx:Ow cm B H x ((sh.lookup f).getD .fz) y N)(hN:N.Nodup):∀ {fs:List (Str×V)} {ds:List D} {A:List Addr},Owf cm B H ds (fs.map (·.1)) sh (fs.map (·.2)) A→A.Nodup→(∀ a∈N,a∉A)→
 ∃ A2,Owf cm B H (if hasK (fs.map (·.1)) f=true then al0 (fs.map (·.1)) ds f x else ds ++ [x]) ((putF f y fs).map (·.1)) sh ((putF f y fs).map (·.2)) A2∧A2.Nodup∧∀ a∈A2,a∈A∨a∈N
 | [],ds,A,h,nd,hd=>by
   cases ds with
   |nil=>
     refine⟨N,?_,hN,fun a ha=> .inr ha⟩;show Owf cm B H [x] [f] sh [y] N;rw[Owf];exact⟨f,[],y,[],N,[],rfl,rfl,by rw[Af4],hx,by rw[Owf]; exact⟨rfl,rfl⟩⟩
   |cons d ds=>
     rw[Owf] at h;obtain⟨_,_,_,_,_,_,e,_⟩:=h;cases e
 | p :: fs,ds,A,h,nd,hd=>by
   obtain⟨g,z⟩:=p;cases ds with
   |nil=>
     rw[Owf] at h;cases h.1
   |cons d ds=>
     rw[List.map_cons,List.map_cons,Owf] at h;obtain⟨n,ns',u,r,X1,X2,hn,h0,h1,h2,h3⟩:=h;cases hn;cases h0;subst h1;obtain⟨nd1,nd2,nd3⟩:=List.nodup_append.mp nd;unfold putF;by_cases q:g=f
     · have hk:hasK (((g,z) :: fs).map (·.1)) f=true:=by
        unfold hasK;rw[List.map_cons,List.any_cons,decide_eq_true q,Bool.true_or]
       rw[Aa6 q,hk,Aa6 rfl,Aa2,al0,Aa6 q,Aa2,Aa2];refine⟨N ++ X2,?_,List.nodup_append.mpr ⟨hN,nd2,fun a ha b hb e=>hd a ha (Aa8 _ (e ▸ hb))⟩,fun a ha=>?_⟩
       ·rw[Owf];exact⟨g,_,y,_,N,X2,rfl,rfl,rfl,by rw[q]; exact hx,h3⟩
       · rcases List.mem_append.mp ha with z | z
         ·exact .inr z
         ·exact .inl (Aa8 _ z)
     · obtain⟨A2,w,nda,hA⟩:=Owf.put hx hN h3 nd2 (fun a ha hb=>hd a ha (Aa8 _ hb))
       have hk:hasK (((g,z) :: fs).map (·.1)) f=hasK (fs.map (·.1)) f:=by
        unfold hasK;rw[List.map_cons,List.any_cons,decide_eq_false q,Bool.false_or]
       rw[Aa3 q,hk,Aa2,Aa2,Aa2,al0,Aa3 q]
       have dis:∀ a∈X1,∀ b∈A2,a≠b:=fun a ha b hb e=>by
        rcases hA b hb with z | z
        ·exact nd3 a ha b z e
        ·exact hd b z (Ab9 _ (e ▸ ha))
       refine⟨X1 ++ A2,?_,List.nodup_append.mpr ⟨nd1,nda,dis⟩,fun a ha=>?_⟩
       · have:(if hasK (fs.map (·.1)) f=true then d :: al0 (fs.map (·.1)) ds f x else (d :: ds) ++ [x])=d :: (if hasK (fs.map (·.1)) f=true then al0 (fs.map (·.1)) ds f x else ds ++ [x]):=by split <;> rfl
         rw[this,Owf];exact⟨g,_,z,_,X1,A2,rfl,rfl,rfl,h2,w⟩
       · rcases List.mem_append.mp ha with z | z
         ·exact .inl (Ab9 _ z)
         · rcases hA a z with z | z
           ·exact .inl (Aa8 _ z)
           ·exact .inr z
def fldS(c:Nat)(f:Str)(i:Nat)(me:Env→Out D):Env→SO:=fun ρ=>at4 (me ρ) fun x ρ1=>match rg ρ1 i with
 |some d=>(match aM3 c f x d with | some d'=> .nx (ρ1.set i (some d')) | none=> .bad)
 |none=> .bad
theorem cv3{K':KT D V}{c:Nat}{f:Str}{i:Nat}{sh:List (Str×Sh)}{te:TE}{me:Env→Out D}(hc:Cls K (cm c))(hn:NoAttr K (cm c) f)(hm:ms.getD i .F= .O (.ob sh))(he:MJ cm K' E ms te me)
 (hk:∀ B U H d v N,K' d v B U H N→∃ N',(N'=[]∨N'=N)∧Ow cm B H d ((sh.lookup f).getD .fz) v N'):SJ cm E Kr pr ms (sFld K (tVar i) te f) (fldS c f i me):=by
 intro B U As σ H ρ D R P;refine he.bndS R P fun x ρ1 y B1 U1 As1 H1 N R1 e1 n1 hx P1=>?_;obtain⟨N',hN,ow⟩:=hk _ _ _ _ _ _ hx
 have n2:NewM N' U1 As1:=by
  rcases hN with e | e
  ·subst e; exact NewM.nil
  ·subst e; exact n1
 have l:=R1.lo i;cases e:rg ρ1 i with
 |none=>rw[e] at P1; exact P1.elim
 |some d=>
   rw[e] at P1;replace P1:So cm E Kr pr ms B1 U1 σ (match aM3 c f x d with | some d'=> .nx (ρ1.set i (some d')) | none=> .bad) D:=P1;rw[e,hm] at l;obtain⟨v,hv,w⟩:=l;cases d with
   |obj c' ns vs=>
     have ep:aM3 c f x (.obj c' ns vs)=if c'=c∧ns.length < 900 then some (if hasK ns f=true then .obj c' ns (al0 ns vs f x) else .obj c' (ns ++ [f]) (vs ++ [x])) else none:=rfl
     rw[ep] at P1;by_cases q:c'=c∧ns.length < 900
     · rw[Aa6 q] at P1;obtain⟨q1,q2⟩:=q;subst q1;have w:Ow cm B1 H1 (.obj c' ns vs) (.ob sh) v (As1 i):=w;rw[Ow] at w;obtain⟨a,dx,fs,A',rfl,h1,h2,h3,h4⟩:=w;subst h2;have nd:=R1.nd i;rw[h3] at nd;obtain⟨nd1,nd2⟩:=List.nodup_cons.mp nd;have hai:a∈As1 i:=by rw[h3]; exact Aa5
       obtain⟨A2,w2,nda,hA⟩:=Owf.put ow n2.nd h4 nd2 (fun b hb hb2=>n2.ap b hb i (by rw[h3]; exact Aa4 _ hb2))
       have haA:a∉A2:=fun z=>by
        rcases hA a z with z | z
        ·exact nd1 z
        ·exact n2.ap a z i hai
       refine⟨.ref a,ah1 hv,a,_,dx,fs,rfl,h1,hc,hn,by rw[Aa7] at q2; omega,?_⟩
       have w3:Ow cm B1 (upd H1 a (.ins (cm c') dx (putF f y fs))) (if hasK (fs.map (·.1)) f=true then .obj c' (fs.map (·.1)) (al0 (fs.map (·.1)) vs f x) else .obj c' (fs.map (·.1) ++ [f]) (vs ++ [x])) (.ob sh) (.ref a) (a :: A2):=by
        have w4:=Owf.mono (H':=upd H1 a (.ins (cm c') dx (putF f y fs))) (Same.refl B1) (fun b hb=>ab0 (fun z:b=a=>haA (z ▸ hb))) w2;have ek:=aM2 (f:=f) (y:=y) (fs:=fs);by_cases k:hasK (fs.map (·.1)) f=true
        ·rw[Aa6 k] at ek w4 ⊢;rw[Ow];rw[ek] at w4;exact⟨a,dx,_,A2,rfl,ab3,ek,rfl,w4⟩
        ·rw[Aa3 k] at ek w4 ⊢;rw[Ow];rw[ek] at w4;exact⟨a,dx,_,A2,rfl,ab3,ek,rfl,w4⟩
       have hi:i < ρ1.length:=(List.getElem?_eq_some_iff.mp (ah1 e)).1;refine P1 σ B1 U1 (fun j=>if j=i then a :: A2 else As1 j) _ ⟨R1.bu,fun b u z=>?_,fun j=>?_,fun j k b hne hb hk=>?_,fun j b hb=>?_,fun j=>?_,by rw[Ad8]; exact R1.len,R1.tb⟩ (Ex.refl _ _) (Kp.refl _ _)
       ·rw[ab0 (ac0 z (R1.un i a hai))];exact R1.uh b u z
       · show(if j=i then a :: A2 else As1 j).Nodup;split
         ·exact List.nodup_cons.mpr ⟨haA,nda⟩
         ·exact R1.nd j
       · replace hb:b∈(if j=i then a :: A2 else As1 j):=hb;replace hk:b∈(if k=i then a :: A2 else As1 k):=hk
         have key:∀ {j},j≠i→b∈a :: A2→b∈As1 j→False:=fun {j} hj hb2 hb3=>by
          rcases List.mem_cons.mp hb2 with z | z
          ·exact R1.dj i j b (Ai1 hj) (by rw[z]; exact hai) hb3
          · rcases hA b z with z | z
            ·exact R1.dj i j b (Ai1 hj) (by rw[h3]; exact Aa4 _ z) hb3
            ·exact n2.ap b z j hb3
         split at hb
         · rename_i z1;split at hk
           ·rename_i z2; exact hne (z1.trans z2.symm)
           ·rename_i z2; exact key z2 hb hk
         · rename_i z1;split at hk
           ·exact key z1 hk hb
           ·exact R1.dj j k b hne hb hk
       · replace hb:b∈(if j=i then a :: A2 else As1 j):=hb;split at hb
         · rcases List.mem_cons.mp hb with z | z
           ·rw[z]; exact R1.un i a hai
           · rcases hA b z with z | z
             ·exact R1.un i b (by rw[h3]; exact Aa4 _ z)
             ·exact n2.un b z
         ·exact R1.un j b hb
       · rw[au9];show Lo cm B1 U1 _ (ms.getD j .F) _ _ (if j=i then a :: A2 else As1 j);by_cases z:i=j
         ·subst z;rw[Aa6 ⟨rfl,hi⟩,Aa6 rfl,hm];exact⟨.ref a,hv,w3⟩
         ·rw[Aa3 fun y=>z y.1,Aa3 fun y=>z y.symm];exact(R1.lo j).mono (Same.refl _) (Same.refl _) fun b hb=>ab0 (fun y:b=a=>R1.dj i j a z hai (y ▸ hb))
     ·rw[Aa3 q] at P1;exact P1.elim
   |_=>exact P1.elim
theorem cv2{c:Nat}{f:Str}{i:Nat}{sh:List (Str×Sh)}{te:TE}{me:Env→Out D}(hc:Cls K (cm c))(hn:NoAttr K (cm c) f)(hm:ms.getD i .F= .O (.ob sh))(hf:(sh.lookup f).getD .fz= .fz)(he:MJ cm (KR cm .F) E ms te me):SJ cm E Kr pr ms (sFld K (tVar i) te f) (fldS c f i me):=
 cv3 hc hn hm he fun B U H d v N k=>⟨[],.inl rfl,by rw[hf,Ow]; exact⟨k,rfl⟩⟩
theorem ao7{c:Nat}{f:Str}{i:Nat}{sh:List (Str×Sh)}{s:Sh}{te:TE}{me:Env→Out D}(hc:Cls K (cm c))(hn:NoAttr K (cm c) f)(hm:ms.getD i .F= .O (.ob sh))(hf:(sh.lookup f).getD .fz=s)(he:MJ cm (KO cm s) E ms te me):SJ cm E Kr pr ms (sFld K (tVar i) te f) (fldS c f i me):=
 cv3 hc hn hm he fun B U H d v N k=>⟨N,.inr rfl,by rw[hf]; exact k⟩
def spZ(cm:Cm)(ms:List Md)(Kr:KT D V)(fm:List D→Out D):Sp:=fun vs H Q _=>spM cm ms Kr fm vs H Q E0
def prO(ms:List Md)(np:Nat):Nat→Bool:=fun j=>decide (j < np) && (match ms.getD j .F with | .O _=>true | _=>false)
theorem bn7{α:Type}{l:List (Option α)}{n i:Nat}:rg (l ++ List.replicate n none) i=rg l i:=by
 unfold rg;by_cases h:i < l.length
 ·rw[Ag3 h]
 · rw[Af8 (by omega),Ac6 (show l.length≤i by omega)];by_cases h2:i - l.length < n
   ·rw[Ai9,Aa6 h2]; rfl
   ·rw[Ai9,Aa3 h2]
def runO(k:Nat)(body:Env→SO)(ds:List D):Out D:=match body (ds.map some ++ List.replicate (k - ds.length) none) with
 |.rt d ρ=> .ok d ρ
 |.exc c ρ=> .exc c ρ
 |_=> .bad
theorem Rel.enter{more:List Md}{vs:List V}{ds:List D}{n:Nat}(R:Rel cm ms B U As (vs.map some) H (ds.map some))(hl:vs.length=ms.length):Rel cm (ms ++ more) B U As (vs.map some ++ List.replicate n none) H (ds.map some ++ List.replicate n none):=by
 have hd:ds.length=vs.length:=by have:=R.len; rw[Aa7,Aa7] at this; exact this
 refine⟨R.bu,R.uh,R.nd,R.dj,R.un,fun i=>?_,by rw[Ac4,Ac4,R.len,Ah8,Ah8],R.tb⟩;rw[bn7,bn7];have l:=R.lo i;by_cases h:i < ms.length
 ·rw[Ab0,Ag3 h,← Ab0];exact l
 · have:rg (ds.map some) i=none:=by rw[aj3,Ac6 (by omega)]
   rw[this] at l ⊢;exact l
theorem Rel.leave{more:List Md}{vs:List V}{σ':St}{ρ':Env}{n:Nat}(hl:vs.length=ms.length)(R:Rel cm (ms ++ more) B U As σ' H ρ')(k:Kp (prO ms ms.length) (vs.map some ++ List.replicate n none) σ'):
 ∃ As',Rel cm ms B U As' (vs.map some) H (as2 ms ρ')∧∀ N,NewM N U As→NewM N U As':=by
 refine⟨fun i=>if prO ms ms.length i=true then As i else [],⟨R.bu,R.uh,fun i=>?_,fun i j a hne ha hb=>?_,fun i a ha=>?_,fun i=>?_,?_,R.tb⟩,fun N n=>⟨n.nd,n.un,fun a ha i=>?_⟩⟩
 · show(if prO ms ms.length i=true then As i else []).Nodup;split
   ·exact R.nd i
   ·exact Af1
 · replace ha:a∈(if prO ms ms.length i=true then As i else []):=ha;replace hb:a∈(if prO ms ms.length j=true then As j else []):=hb;split at ha
   · split at hb
     ·exact R.dj i j a hne ha hb
     ·cases hb
   ·cases ha
 · replace ha:a∈(if prO ms ms.length i=true then As i else []):=ha;split at ha
   ·exact R.un i a ha
   ·cases ha
 · show Lo cm B U H (ms.getD i .F) (rg (as2 ms ρ') i) (rg (vs.map some) i) (if prO ms ms.length i=true then As i else []);by_cases hi:i < ms.length
   · have eg:(ms ++ more).getD i .F=ms.getD i .F:=by
      rw[Ab0,Ag3 hi,← Ab0]
     cases em:ms.getD i .F with
     |O s=>
       have hp:prO ms ms.length i=true:=by unfold prO; rw[em,decide_eq_true hi]; rfl
       rw[Aa6 hp,az3 em];have l:=R.lo i;rw[eg,em,k i hp,bn7] at l;exact l
     |F=>
       have hp:prO ms ms.length i=false:=by unfold prO; rw[em]; simp
       have hk:rg (as2 ms ρ') i=none:=by
        unfold as2 rg;rw[List.getElem?_map,List.getElem?_range hi];show(some (match ms.getD i .F with | .O _=>_ | _=>none)).join=none;rw[em]; rfl
       rw[hp,hk];exact rfl
     |R=>
       have hp:prO ms ms.length i=false:=by unfold prO; rw[em]; simp
       have hk:rg (as2 ms ρ') i=none:=by
        unfold as2 rg;rw[List.getElem?_map,List.getElem?_range hi];show(some (match ms.getD i .F with | .O _=>_ | _=>none)).join=none;rw[em]; rfl
       rw[hp,hk];exact rfl
   · have hp:prO ms ms.length i=false:=by unfold prO; rw[decide_eq_false hi]; rfl
     have hk:rg (as2 ms ρ') i=none:=by
      unfold as2 rg;rw[List.getElem?_eq_none (by rw[List.length_map,List.length_range]; omega)];rfl
     rw[hp,hk];exact rfl
 ·unfold as2;rw[List.length_map,List.length_map,List.length_range,hl]
 · show a∉(if prO ms ms.length i=true then As i else []);split
   ·exact n.ap a ha i
   ·simp
theorem ac2{more:List Md}{t:TS}{body:Env→SO}{N:List Str}{vs:List V}{Q:VK}{fm:List D→Out D}(hb:SJ cm E0 Kr (prO ms ms.length) (ms ++ more) t body)(hN:N.length=ms.length + more.length)(hfm:fm=run N.length body)(hr:∀ B U H,Kr .non .non B U H [])
 (h:spM cm ms Kr fm vs H Q E0):t { nx:=fun _ H'=>Q .non H',rt:=Q } (L2.av8 N vs) H:=by
 obtain⟨B,U,As,ds,R,hl,P⟩:=h;subst hfm;have hd:ds.length=vs.length:=by have:=R.len; rw[Aa7,Aa7] at this; exact this
 unfold L2.av8;refine hb B U As _ H (ds.map some ++ List.replicate (N.length - vs.length) none) _ (R.enter hl) ?_;unfold run at P;rw[hd] at P;cases e:body (ds.map some ++ List.replicate (N.length - vs.length) none) with
 |nx ρ'=>
   rw[e] at P;intro σ' B' U' As' H' R' e' k';obtain⟨As2,R2,n2⟩:=R'.leave hl k';exact P .non B' U' As2 H' [] R2 e' NewM.nil (hr _ _ _)
 |rt d ρ'=>
   rw[e] at P;intro v σ' B' U' As' H' N' R' e' k' n' kr;obtain⟨As2,R2,n2⟩:=R'.leave hl k';exact P v B' U' As2 H' N' R2 e' (n2 _ n') kr
 |exc c ρ'=>
   rw[e] at P;intro σ' B' U' As' H' R' e' k' oa;obtain⟨As2,R2,n2⟩:=R'.leave hl k';exact P B' U' As2 H' R2 e' oa
 |bk ρ'=>rw[e] at P; exact P.elim
 |ct ρ'=>rw[e] at P; exact P.elim
 |bad=>rw[e] at P; exact P.elim
theorem ao1{more:List Md}{t:TS}{body:Env→SO}{N:List Str}{vs:List V}{Q:VK}{fm:List D→Out D}(hb:SJ cm E0 Kr (prO ms ms.length) (ms ++ more) t body)(hN:N.length=ms.length + more.length)(hfm:fm=runO N.length body)
 (h:spM cm ms Kr fm vs H Q E0):t { nx:=fun _ H'=>Q .non H',rt:=Q } (L2.av8 N vs) H:=by
 obtain⟨B,U,As,ds,R,hl,P⟩:=h;subst hfm;have hd:ds.length=vs.length:=by have:=R.len; rw[Aa7,Aa7] at this; exact this
 unfold L2.av8;refine hb B U As _ H (ds.map some ++ List.replicate (N.length - vs.length) none) _ (R.enter hl) ?_;unfold runO at P;rw[hd] at P;cases e:body (ds.map some ++ List.replicate (N.length - vs.length) none) with
 |nx ρ'=>rw[e] at P; exact P.elim
 |rt d ρ'=>
   rw[e] at P;intro v σ' B' U' As' H' N' R' e' k' n' kr;obtain⟨As2,R2,n2⟩:=R'.leave hl k';exact P v B' U' As2 H' N' R2 e' (n2 _ n') kr
 |exc c ρ'=>
   rw[e] at P;intro σ' B' U' As' H' R' e' k' oa;obtain⟨As2,R2,n2⟩:=R'.leave hl k';exact P B' U' As2 H' R2 e' oa
 |bk ρ'=>rw[e] at P; exact P.elim
 |ct ρ'=>rw[e] at P; exact P.elim
 |bad=>rw[e] at P; exact P.elim
theorem ab8{vs:List V}{Q:VK}{fm:List D→Out D}(h:spM cm ms Kr fm vs H Q E):vs.length=ms.length:=by
 obtain⟨_,_,_,_,_,hl,_⟩:=h;exact hl
end
end Mi
namespace Mi
open PySem PySem.Spec L2
mutual
def toPy:D→Option PyData
 |.non=>some .none
 |.bl b=>some (.bool b)
 |.int i=>some (.int i)
 |.str x=>some (.str x)
 |.lst xs=>(toPys xs).map .list
 |.scr xs=>(toPys xs).map .list
 |.tup xs=>(toPys xs).map .tuple
 |.ty _=>none
 |.dK _ _=>none
 |.dT _ _=>none
 |.obj _ _ _=>none
def toPys:List D→Option (List PyData)
 |[]=>some []
 | d :: r=>match toPy d,toPys r with
   |some p,some q=>some (p :: q)
   |_,_=>none
end
section
variable{cm:Cm}{E:XK}{Kr:KT D V}{pr:Nat→Bool}{ms:List Md}{B U H:Hp}{As:Nat→List Addr}{σ:St}{ρ:Env}{K:PySem.W.Frag}
mutual
theorem den_of:∀ {d:D} {p:PyData} {v:V},toPy d=some p→Dn cm H d v→L2.Den cm.K H p v
 |.non,p,v,e,h=>by rw[Dn] at h; cases e; rw[L2.Den]; exact h
 |.bl _,p,v,e,h=>by rw[Dn] at h; cases e; rw[L2.Den]; exact h
 |.int _,p,v,e,h=>by rw[Dn] at h; cases e; rw[L2.Den]; exact h
 |.str _,p,v,e,h=>by rw[Dn] at h; cases e; rw[L2.Den]; exact h
 | .lst xs,p,v,e,h=>by
   rw[Dn] at h;obtain⟨a,ys,rfl,h1,h2⟩:=h;rw[toPy] at e;obtain⟨ps,e1,rfl⟩:=Option.map_eq_some_iff.mp e;rw[L2.Den];exact⟨a,ys,rfl,SqL.of h1,dens_of e1 h2⟩
 | .scr xs,p,v,e,h=>by
   rw[Dn] at h;obtain⟨a,ys,rfl,h1,h2⟩:=h;rw[toPy] at e;obtain⟨ps,e1,rfl⟩:=Option.map_eq_some_iff.mp e;rw[L2.Den];exact⟨a,ys,rfl,h1.sq,dens_of e1 h2⟩
 | .tup xs,p,v,e,h=>by
   rw[Dn] at h;obtain⟨a,ys,rfl,h1,h2⟩:=h;rw[toPy] at e;obtain⟨ps,e1,rfl⟩:=Option.map_eq_some_iff.mp e;rw[L2.Den];exact⟨a,ys,rfl,SqT.of h1,dens_of e1 h2⟩
 |.ty _,p,v,e,h=>by cases e
 |.dK _ _,p,v,e,h=>by cases e
 |.dT _ _,p,v,e,h=>by cases e
 |.obj _ _ _,p,v,e,h=>by cases e
theorem dens_of:∀ {ds:List D} {ps:List PyData} {xs:List V},toPys ds=some ps→Dns cm H ds xs→L2.Dens cm.K H ps xs
 |[],ps,xs,e,h=>by rw[Dns] at h; rw[toPys] at e; cases e; rw[L2.Dens]; exact h
 | d :: ds,ps,xs,e,h=>by
   rw[Dns] at h;obtain⟨x,r,rfl,h1,h2⟩:=h;rw[toPys] at e;cases e1:toPy d with
   |none=>rw[e1] at e; cases e
   |some p=>
     cases e2:toPys ds with
     |none=>rw[e1,e2] at e; cases e
     |some q=>
       rw[e1,e2] at e;cases e;rw[L2.Dens];exact⟨x,r,rfl,den_of e1 h1,dens_of e2 h2⟩
end
def eqD(neg:Bool)(x y:D):Res D:=match toPy x,toPy y with
 |some p,some q=>if SeqAt.shaped p=true∧SeqAt.shaped q=true then .ok (.bl (neg.xor (PyData.eqv p q))) else .bad
 |_,_=> .bad
theorem bP2{neg:Bool}:S2 cm (rEqD cm.K neg) (eqD neg):=by
 intro H x y v u hx hy;unfold eqD;cases e1:toPy x with
 |none=>trivial
 |some p=>
   cases e2:toPy y with
   |none=>trivial
   |some q=>
     dsimp only;by_cases z:SeqAt.shaped p=true∧SeqAt.shaped q=true
     ·rw[Aa6 z];refine⟨.bl _,fun _=>by rw[Dn],fun Q h=>⟨p,q,den_of e1 hx,den_of e2 hy,z.1,z.2,?_⟩⟩;cases neg <;> simpa using h
     ·rw[Aa3 z]; trivial
def inD(x y:D):Res D:=match toPy x,toPy y with
 |some p,some (.list xs)=>if SeqAt.shaped p=true∧SeqAt.shaped (.list xs)=true∧(xs.all fun z=>SeqAt.noMix z p)=true then .ok (.bl (decide (countIn p xs≠0))) else .bad
 |_,_=> .bad
theorem s_inD:S2 cm (fun x y H Q=>∃ d xs,L2.Den cm.K H d x∧L2.Den cm.K H (.list xs) y∧SeqAt.shaped d=true∧SeqAt.shaped (.list xs)=true∧(∀ z∈xs,SeqAt.noMix z d=true)∧Q (.bl (decide (countIn d xs≠0))) H) inD:=by
 intro H x y v u hx hy;unfold inD;cases e1:toPy x with
 |none=>trivial
 |some p=>
   cases e2:toPy y with
   |none=>trivial
   |some q=>
     cases q with
     |list xs=>
       dsimp only;by_cases z:SeqAt.shaped p=true∧SeqAt.shaped (.list xs)=true∧(xs.all fun z=>SeqAt.noMix z p)=true
       ·rw[Aa6 z];exact⟨.bl _,fun _=>by rw[Dn],fun Q h=>⟨p,xs,den_of e1 hx,den_of e2 hy,z.1,z.2.1,fun y hy=>List.all_eq_true.mp z.2.2 y hy,h⟩⟩
       ·rw[Aa3 z]; trivial
     |_=>trivial
def bk6:D→Option String
 |.non=>some "NoneType" | .bl _=>some "bool" | .int _=>some "int" | .str _=>some "str" | .lst _=>some "list" | .tup _=>some "tuple" | .dK _ _=>some "dict" | .dT _ _=>none
 |.ty _=>none | .obj _ _ _=>none | .scr _=>none
def kit(t n:String):Option Bool:=PySem.W.kitOne [] (.type t) (.type n)
def isT(x y:D):Res D:=match y,bk6 x with
 |.ty n,some t=>(match kit t n with | some b=> .ok (.bl b) | none=> .bad)
 |_,_=> .bad
theorem bk5{d:D}{v:V}{t:String}(e:bk6 d=some t)(h:Dn cm H d v):TyOf K H v (.type t):=by
 cases d with
 |non=>rw[Dn] at h; cases e; subst h; exact .non
 |bl b=>rw[Dn] at h; cases e; subst h; exact .bl b
 |int i=>rw[Dn] at h; cases e; subst h; exact .int i
 |str x=>rw[Dn] at h; cases e; subst h; exact .str x
 |lst _=>rw[Dn] at h; cases e; obtain⟨a,xs,rfl,h1,_⟩:=h; exact .lst h1
 |scr _=>cases e
 |tup _=>rw[Dn] at h; cases e; obtain⟨a,xs,rfl,h1,_⟩:=h; exact .tup h1
 |dK _ _=>rw[Dn] at h; cases e; obtain⟨a,xs,rfl,h1,_⟩:=h; exact .dK h1
 |dT _ _=>cases e
 |ty _=>cases e
 |obj _ _ _=>cases e
theorem cv1:S2 cm (fun v u H Q=>∃ x c t b,[v,u]=[x,.ty c]∧TyOf K H x t∧PySem.W.kitOne K t (.type c)=some b∧Q (.bl b) H) isT:=by
 intro H x y v u hx hy;unfold isT;cases y with
 |ty n=>
   cases e:bk6 x with
   |none=>trivial
   |some t=>
     dsimp only;cases e2:kit t n with
     |none=>trivial
     |some b=>
       rw[Dn] at hy;subst hy;exact⟨.bl b,fun _=>by rw[Dn],fun Q h=>⟨v,n,_,b,rfl,bk5 e hx,e2,h⟩⟩
 |_=>trivial
def mvS(i:Nat):Env→Out D:=fun ρ=>match rg ρ i with | some d=> .ok d (ρ.set i none) | none=> .bad
theorem Rel.take(R:Rel cm ms B U As σ H ρ)(i:Nat):Rel cm ms B U (fun j=>if j=i then [] else As j) σ H (ρ.set i none)∧∀ a∈As i,U a=none∧∀ j,a∉(fun j=>if j=i then [] else As j) j:=by
 refine⟨⟨R.bu,R.uh,fun j=>?_,fun j k a hne ha hb=>?_,fun j a ha=>?_,fun j=>?_,by rw[Ad8]; exact R.len,R.tb⟩,fun a ha=>⟨R.un i a ha,fun j hj=>?_⟩⟩
 · show(if j=i then [] else As j).Nodup;split
   ·exact Af1
   ·exact R.nd j
 · replace ha:a∈(if j=i then [] else As j):=ha;replace hb:a∈(if k=i then [] else As k):=hb;split at ha
   ·cases ha
   · split at hb
     ·cases hb
     ·exact R.dj j k a hne ha hb
 · replace ha:a∈(if j=i then [] else As j):=ha;split at ha
   ·cases ha
   ·exact R.un j a ha
 · show Lo cm B U H (ms.getD j .F) (rg (ρ.set i none) j) (rg σ j) (if j=i then [] else As j);rw[au9];by_cases e:i=j
   · subst e;rw[Aa6 rfl];by_cases h:i < ρ.length
     ·rw[Aa6 ⟨rfl,h⟩]; exact rfl
     · rw[Aa3 fun z=>h z.2]
       have:rg ρ i=none:=by unfold rg; rw[List.getElem?_eq_none (by omega)]; rfl
       rw[this]; exact rfl
   ·rw[Aa3 fun z=>e z.1,Aa3 fun z=>e z.symm];exact R.lo j
 · replace hj:a∈(if j=i then [] else As j):=hj;split at hj
   ·cases hj
   ·rename_i z; exact R.dj i j a (fun q=>z q.symm) ha hj
theorem m_mv{i:Nat}{s:Sh}(hm:ms.getD i .F= .O s):MJ cm (KO cm s) E ms (tVar i) (mvS i):=by
 intro B U As σ H ρ Q R P;unfold mvS at P;have l:=R.lo i;cases e:rg ρ i with
 |none=>rw[e] at P; exact P.elim
 |some d=>
   rw[e] at P;rw[e,hm] at l;obtain⟨v,hv,w⟩:=l;obtain⟨R2,h2⟩:=R.take i;exact⟨v,ah1 hv,P v B U _ H (As i) R2 (Ex.refl _ _) ⟨R.nd i,fun a ha=>(h2 a ha).1,fun a ha=>(h2 a ha).2⟩ w⟩
def ac3:D→Bool | .int _=>true | .bl _=>true | .non=>true | .str _=>true | _=>false
def aS8:D→Bool
 |.lst xs=>xs.all ac3
 |.scr xs=>xs.all ac3
 |.tup xs=>xs.all ac3
 |.dK _ xs=>xs.all ac3
 |.dT _ xs=>xs.all ac3
 |.obj _ _ xs=>xs.all ac3
 |d=>ac3 d
def chkS(m:Env→Res D):Env→Res D:=fun ρ=>(m ρ).bind fun d=>if aS8 d=true then .ok d else .bad
theorem ak8{G G':Hp}{d:D}{v:V}(h:ac3 d=true)(q:Dn cm G d v):Dn cm G' d v:=by
 cases d with
 |int _=>rw[Dn] at q ⊢; exact q
 |bl _=>rw[Dn] at q ⊢; exact q
 |non=>rw[Dn] at q ⊢; exact q
 |str _=>rw[Dn] at q ⊢; exact q
 |_=>cases h
theorem ai8{G G':Hp}:∀ {ds:List D} {xs:List V},ds.all ac3=true→Dns cm G ds xs→Dns cm G' ds xs
 |[],_,_,q=>by rw[Dns] at q ⊢; exact q
 | d :: ds,_,h,q=>by
   rw[List.all_cons,Al0] at h;rw[Dns] at q ⊢;obtain⟨x,r,e,h1,h2⟩:=q;exact⟨x,r,e,ak8 h.1 h1,ai8 h.2 h2⟩
theorem cS{k k':Kd}{t:TE}{m:Env→Res D}(h:PJ cm (KC cm k) E ms t m):PJ cm (KC cm k') E ms t (chkS m):=by
 intro B U As σ H ρ Q R P;refine h.bnd R P fun x v B1 U1 H1 N1 _ R1 e1 n1 d1 P1=>?_;by_cases z:aS8 x=true
 · rw[Aa6 z] at P1;refine P1 v B1 U1 H1 [] R1 (Gw.refl _ _ _) New.nil ?_;cases x with
   |lst ds=>obtain⟨a,xs,r,h1,h2⟩:=d1; exact⟨a,xs,r,h1,ai8 z h2⟩
   |scr ds=>obtain⟨a,xs,r,h1,h2⟩:=d1; exact⟨a,xs,r,h1,ai8 z h2⟩
   |tup ds=>obtain⟨a,xs,r,h1,h2⟩:=d1; exact⟨a,xs,r,h1,ai8 z h2⟩
   |dK ks ds=>obtain⟨a,xs,r,h1,h2,h3⟩:=d1; exact⟨a,xs,r,h1,h2,ai8 z h3⟩
   |dT ks ds=>obtain⟨a,xs,r,h1,h2,h3⟩:=d1; exact⟨a,xs,r,h1,h2,ai8 z h3⟩
   |obj c ns ds=>obtain⟨a,dx,xs,r,h1,h2,h3⟩:=d1; exact⟨a,dx,xs,r,h1,h2,ai8 z h3⟩
   |int _=>exact ak8 (G:=hp k B1 U1 H1) z d1
   |bl _=>exact ak8 (G:=hp k B1 U1 H1) z d1
   |non=>exact ak8 (G:=hp k B1 U1 H1) z d1
   |str _=>exact ak8 (G:=hp k B1 U1 H1) z d1
   |ty _=>cases z
 ·rw[Aa3 z] at P1;exact P1.elim
theorem rS{k:Kd}{t:TE}{m:Env→Res D}(h:PJ cm (KR cm .X) E ms t m):PJ cm (KR cm .F) E ms t (fun ρ=>(m ρ).bind fun d=>if ac3 d=true then .ok d else .bad):=by
 intro B U As σ H ρ Q R P;refine h.bnd R P fun x v B1 U1 H1 N1 _ R1 e1 n1 d1 P1=>?_;by_cases z:ac3 x=true
 ·rw[Aa6 z] at P1;exact P1 v B1 U1 H1 [] R1 (Gw.refl _ _ _) New.nil (ak8 z d1)
 ·rw[Aa3 z] at P1;exact P1.elim
def kD:Key→D | .inl i=> .int i | .inr x=> .str x
theorem bw2{G:Hp}:∀ k:List Key,Dns cm G (k.map kD) (k.map kV)
 |[]=>by rw[Af6,Af6,Dns]
 | x :: k=>by
   rw[Aa2,Aa2,Dns];refine⟨_,_,rfl,?_,bw2 k⟩;cases x with
   |inl i=>show Dn cm G (.int i) (.int i); rw[Dn]
   |inr i=>show Dn cm G (.str i) (.str i); rw[Dn]
theorem Dns.of_get{G:Hp}:∀ {ds:List D} {xs:List V},ds.length=xs.length→(∀ (i:Nat) d x,ds[i]?=some d→xs[i]?=some x→Dn cm G d x)→Dns cm G ds xs
 | [],xs,h,_=>by
   rw[Dns];exact List.length_eq_zero_iff.mp h.symm
 |d :: ds,[],h,_=>by cases h
 | d :: ds,x :: xs,h,k=>by
   rw[Dns];exact⟨x,xs,rfl,k 0 d x rfl rfl,Dns.of_get (by simpa using h) fun i d x e1 e2=>k (i + 1) d x (by simpa using e1) (by simpa using e2)⟩
def af2:List D→Option (List Int)
 |[]=>some []
 |.int i :: r=>(af2 r).map (i :: ·)
 |_ :: _=>none
theorem ak1{G:Hp}:∀ {ds:List D} {ns:List Int} {xs:List V},af2 ds=some ns→Dns cm G ds xs→xs=ns.map V.int
 |[],ns,xs,e,h=>by rw[Dns] at h; cases e; rw[h]; rfl
 | d :: ds,ns,xs,e,h=>by
   rw[Dns] at h;obtain⟨x,r,rfl,h1,h2⟩:=h;cases d with
   |int i=>
     rw[af2] at e;obtain⟨ms,e1,rfl⟩:=Option.map_eq_some_iff.mp e;rw[Dn] at h1;rw[ak1 e1 h2,h1,Aa2]
   |_=>cases e
def ag7:List Int→Int→Int
 |[],m=>m
 |x :: r,m=>ag7 r (if x < m then x else m)
def am8:List Int→Int→Int
 |[],m=>m
 |x :: r,m=>am8 r (if m < x then x else m)
theorem aq1:∀ (l:List Int) (m:Int),(ag7 l m=m∨ag7 l m∈l)∧ag7 l m≤m∧∀ x∈l,ag7 l m≤x
 |[],m=>⟨.inl rfl,Int.le_refl _,fun _ h=>(nomatch h)⟩
 | x :: r,m=>by
   unfold ag7;obtain⟨h1,h2,h3⟩:=aq1 r (if x < m then x else m);refine⟨?_,?_,fun y hy=>?_⟩
   · rcases h1 with h1 | h1
     · by_cases z:x < m
       ·rw[Aa6 z] at h1 ⊢; exact .inr (by rw[h1]; exact Aa5)
       ·rw[Aa3 z] at h1 ⊢; exact .inl h1
     ·exact .inr (Aa4 _ h1)
   ·split at h2 <;> split <;> omega
   · rcases List.mem_cons.mp hy with z | z
     ·subst z; split at h2 <;> split <;> omega
     ·exact h3 y z
theorem at9:∀ (l:List Int) (m:Int),(am8 l m=m∨am8 l m∈l)∧m≤am8 l m∧∀ x∈l,x≤am8 l m
 |[],m=>⟨.inl rfl,Int.le_refl _,fun _ h=>(nomatch h)⟩
 | x :: r,m=>by
   unfold am8;obtain⟨h1,h2,h3⟩:=at9 r (if m < x then x else m);refine⟨?_,?_,fun y hy=>?_⟩
   · rcases h1 with h1 | h1
     · by_cases z:m < x
       ·rw[Aa6 z] at h1 ⊢; exact .inr (by rw[h1]; exact Aa5)
       ·rw[Aa3 z] at h1 ⊢; exact .inl h1
     ·exact .inr (Aa4 _ h1)
   ·split at h2 <;> split <;> omega
   · rcases List.mem_cons.mp hy with z | z
     ·subst z; split at h2 <;> split <;> omega
     ·exact h3 y z
def extD(f:List Int→Int→Int)(x d:D):Res D:=match x with
 |.lst ds=>(match af2 ds with | some []=>(if ac3 d=true then .ok d else .bad) | some (n :: ns)=> .ok (.int (f ns n)) | none=> .bad)
 |_=> .bad
theorem cx5{ta td:TE}{ma md:Env→Res D}(ha:PJ cm (KR cm .X) E ms ta ma)(hd:PJ cm (KR cm .X) E ms td md):
 PJ cm (KR cm .F) E ms (tCBK (fun xs zs H Q=>∃ p ns d,xs=[.ref p]∧zs=[d]∧SqL K H p (ns.map V.int)∧(ns=[]→Q d H)∧∀ m∈ns,(∀ x∈ns,m≤x)→Q (.int m) H) (af7 ta tNil) (af7 td tNil)) (bn (extD ag7) ma md):=by
 intro B U As σ H ρ Q R P;refine ha.bnd R P fun x v B1 U1 H1 N1 _ R1 e1 n1 d1 P1=>hd.bnd R1 P1 fun y u B2 U2 H2 N2 _ R2 e2 n2 d2 P2=>?_;have d1:Dn cm H1 x v:=d1;cases x with
 |lst ds=>
   rw[Dn] at d1;obtain⟨a,xs,rfl,h1,h2⟩:=d1;replace P2:Po cm (KR cm .F) E ms B2 U2 As σ H2 ρ (match af2 ds with | some []=>(if ac3 y=true then .ok y else .bad) | some (n :: ns)=> .ok (.int (ag7 ns n)) | none=> .bad) Q:=P2;cases ei:af2 ds with
   |none=>rw[ei] at P2; exact P2.elim
   |some ns=>
     have ex:=ak1 ei h2;subst ex;cases ns with
     |nil=>
       rw[ei] at P2;replace P2:Po cm (KR cm .F) E ms B2 U2 As σ H2 ρ (if ac3 y=true then .ok y else .bad) Q:=P2;by_cases z:ac3 y=true
       ·rw[Aa6 z] at P2;exact⟨a,[],u,rfl,rfl,SqL.of (e2.h _ _ h1),fun _=>P2 u B2 U2 H2 [] R2 (Gw.refl _ _ _) New.nil (ak8 z d2),fun m hm=>(nomatch hm)⟩
       ·rw[Aa3 z] at P2; exact P2.elim
     |cons n ns=>
       rw[ei] at P2;refine⟨a,n :: ns,u,rfl,rfl,SqL.of (e2.h _ _ h1),(fun z=>by cases z),fun m hm hle=>?_⟩;obtain⟨s1,s2,s3⟩:=aq1 ns n
       have em:m=ag7 ns n:=by
        have l1:ag7 ns n∈n :: ns:=by
         rcases s1 with z | z
         ·rw[z]; exact Aa5
         ·exact Aa4 _ z
        have l2:=hle _ l1;rcases List.mem_cons.mp hm with z | z
        ·rw[z] at l2 ⊢; omega
        ·have:=s3 m z; omega
       rw[em];exact P2 _ B2 U2 H2 [] R2 (Gw.refl _ _ _) New.nil (show Dn cm _ (.int (ag7 ns n)) _ by rw[Dn])
 |_=>exact P2.elim
theorem cx6{ta td:TE}{ma md:Env→Res D}(ha:PJ cm (KR cm .X) E ms ta ma)(hd:PJ cm (KR cm .X) E ms td md):
 PJ cm (KR cm .F) E ms (tCBK (fun xs zs H Q=>∃ p ns d,xs=[.ref p]∧zs=[d]∧SqL K H p (ns.map V.int)∧(ns=[]→Q d H)∧∀ m∈ns,(∀ x∈ns,x≤m)→Q (.int m) H) (af7 ta tNil) (af7 td tNil)) (bn (extD am8) ma md):=by
 intro B U As σ H ρ Q R P;refine ha.bnd R P fun x v B1 U1 H1 N1 _ R1 e1 n1 d1 P1=>hd.bnd R1 P1 fun y u B2 U2 H2 N2 _ R2 e2 n2 d2 P2=>?_;have d1:Dn cm H1 x v:=d1;cases x with
 |lst ds=>
   rw[Dn] at d1;obtain⟨a,xs,rfl,h1,h2⟩:=d1;replace P2:Po cm (KR cm .F) E ms B2 U2 As σ H2 ρ (match af2 ds with | some []=>(if ac3 y=true then .ok y else .bad) | some (n :: ns)=> .ok (.int (am8 ns n)) | none=> .bad) Q:=P2;cases ei:af2 ds with
   |none=>rw[ei] at P2; exact P2.elim
   |some ns=>
     have ex:=ak1 ei h2;subst ex;cases ns with
     |nil=>
       rw[ei] at P2;replace P2:Po cm (KR cm .F) E ms B2 U2 As σ H2 ρ (if ac3 y=true then .ok y else .bad) Q:=P2;by_cases z:ac3 y=true
       ·rw[Aa6 z] at P2;exact⟨a,[],u,rfl,rfl,SqL.of (e2.h _ _ h1),fun _=>P2 u B2 U2 H2 [] R2 (Gw.refl _ _ _) New.nil (ak8 z d2),fun m hm=>(nomatch hm)⟩
       ·rw[Aa3 z] at P2; exact P2.elim
     |cons n ns=>
       rw[ei] at P2;refine⟨a,n :: ns,u,rfl,rfl,SqL.of (e2.h _ _ h1),(fun z=>by cases z),fun m hm hle=>?_⟩;obtain⟨s1,s2,s3⟩:=at9 ns n
       have em:m=am8 ns n:=by
        have l1:am8 ns n∈n :: ns:=by
         rcases s1 with z | z
         ·rw[z]; exact Aa5
         ·exact Aa4 _ z
        have l2:=hle _ l1;rcases List.mem_cons.mp hm with z | z
        ·rw[z] at l2 ⊢; omega
        ·have:=s3 m z; omega
       rw[em];exact P2 _ B2 U2 H2 [] R2 (Gw.refl _ _ _) New.nil (show Dn cm _ (.int (am8 ns n)) _ by rw[Dn])
 |_=>exact P2.elim
def aN3:D→Res D
 |.lst ds=>(match af2 ds with | some ns=>(if ns.length < 4000 then .ok (.int (dd ns).length) else .bad) | none=> .bad)
 |_=> .bad
theorem bI1{ta:TE}{ma:Env→Res D}(ha:PJ cm (KR cm .X) E ms ta ma):PJ cm (KR cm .F) E ms
 (tCB (fun xs H Q=>∃ a S n,xs=[.ref a]∧H a=some (.set S n)∧Q (.int n) H) (af7 (tCB (fun xs H Q=>∃ p ns,xs=[.ref p]∧SqL K H p (ns.map V.int)∧ns.length < 4000∧∀ q,H q=none→Q (.ref q) (upd H q (.set (fun k=>(dd ns).any (· == k)) (dd ns).length))) (af7 ta tNil)) tNil)) (un aN3 ma):=by
 intro B U As σ H ρ Q R P;refine ha.bnd R P fun x v B1 U1 H1 N1 _ R1 e1 n1 d1 P1=>?_;have d1:Dn cm H1 x v:=d1;cases x with
 |lst ds=>
   rw[Dn] at d1;obtain⟨a,xs,rfl,h1,h2⟩:=d1;replace P1:Po cm (KR cm .F) E ms B1 U1 As σ H1 ρ (match af2 ds with | some ns=>(if ns.length < 4000 then .ok (.int (dd ns).length) else .bad) | none=> .bad) Q:=P1;cases ei:af2 ds with
   |none=>rw[ei] at P1; exact P1.elim
   |some ns=>
     have ex:=ak1 ei h2;subst ex;rw[ei] at P1;replace P1:Po cm (KR cm .F) E ms B1 U1 As σ H1 ρ (if ns.length < 4000 then .ok (.int (dd ns).length) else .bad) Q:=P1;by_cases z:ns.length < 4000
     ·rw[Aa6 z] at P1;exact⟨a,ns,rfl,SqL.of h1,z,fun q hq=>⟨q,_,_,rfl,ab3,P1 _ B1 U1 _ [] (R1.new hq) (Gw.newO R1 hq) New.nil (show Dn cm _ (.int _) _ by rw[Dn])⟩⟩
     ·rw[Aa3 z] at P1; exact P1.elim
 |_=>exact P1.elim
def keyP:D→Option (Int×Int×List Int)
 |.tup [.int a,.int b,.lst xs]=>(af2 xs).map fun ns=>(a,b,ns)
 |_=>none
theorem bt0{x:D}{a b:Int}{ns:List Int}(h:keyP x=some (a,b,ns)):∃ xs,x= .tup [.int a,.int b,.lst xs]∧af2 xs=some ns:=by
 unfold keyP at h;split at h
 ·obtain⟨ms,e,e2⟩:=Option.map_eq_some_iff.mp h;cases e2;exact⟨_,rfl,e⟩
 ·cases h
theorem ap2{x:D}{v:V}{a b:Int}{ns:List Int}(e:keyP x=some (a,b,ns))(hx:Dn cm H x v):∃ p l,v= .ref p∧SqT K H p [.int a,.int b,.ref l]∧SqL K H l (ns.map V.int):=by
 obtain⟨xs,rfl,e9⟩:=bt0 e;rw[Dn] at hx;obtain⟨p,ys,rfl,h1,h2⟩:=hx;rw[Dns] at h2;obtain⟨x1,r1,rfl,d1,h3⟩:=h2;rw[Dns] at h3;obtain⟨x2,r2,rfl,d2,h4⟩:=h3;rw[Dns] at h4;obtain⟨x3,r3,rfl,d3,h5⟩:=h4;rw[Dns] at h5;rw[Dn] at d1; rw[Dn] at d2; rw[Dn] at d3;obtain⟨l,zs,rfl,h6,h7⟩:=d3;subst d1 d2 h5;rw[ak1 e9 h7] at h6;exact⟨p,l,rfl,SqT.of h1,SqL.of h6⟩
def ninD(x y:D):Res D:=match toPy x,toPy y with
 |some p,some (.list xs)=>if SeqAt.shaped p=true∧SeqAt.shaped (.list xs)=true∧(xs.all fun z=>SeqAt.noMix z p)=true then .ok (.bl (!decide (countIn p xs≠0))) else .bad
 |_,_=> .bad
theorem hu65{A:Around}{k:Nat}(hr:Room k A):A.units + 65 < cLine:=by have:=hr.un; omega
end
end Mi
namespace Mi
open PySem L2
def aD4:List Ap→List Md→Bool
 |[],[]=>true
 |p :: ps,m :: r=>fits [] true p m && aD4 ps r
 |_,_=>false
theorem ak2:∀ {ps:List Ap} {mc:List Md},aD4 ps mc=true→ps.length=mc.length
 |[],[],_=>rfl
 |[],_ :: _,h=>by cases h
 |_ :: _,[],h=>by cases h
 | p :: ps,m :: r,h=>by
   have h:(fits [] true p m && aD4 ps r)=true:=h;rw[Al0] at h;rw[Ab2,Ab2,ak2 h.2]
theorem ak3{ms:List Md}:∀ {ps:List Ap} {mc:List Md},aD4 ps mc=true→∀ (j:Nat) p,ps[j]?=some p→fits ms true p (mc.getD j .F)=true
 |[],_,_,_,_,e=>by cases e
 |_ :: _,[],h,_,_,_=>by cases h
 | p :: ps,m :: r,h,j,q,e=>by
   have h:(fits [] true p m && aD4 ps r)=true:=h;rw[Al0] at h;cases j with
   |zero=>
     cases e
     have:=h.1
     cases p <;> cases m <;> first | exact this | cases this
   |succ j=>rw[Ah4]; exact ak3 h.2 j q (by simpa using e)
def pc(fm:List D→Out D)(a:Env→Res (List D)):Env→Res D:=fun ρ=>(a ρ).bind (an5 fm)
def pm(c:Nat)(mn:Str)(fm:List D→Out D)(o:Env→Res D)(a:Env→Res (List D)):Env→Res D:=fun ρ=>(o ρ).bind fun o=>if af1 c mn o=true then (a ρ).bind fun ds=>an5 fm (o :: ds) else .bad
def pk(c:Nat)(fm:List D→Out D)(a:Env→Res (List D)):Env→Res D:=fun ρ=>(a ρ).bind (au0 c fm)
def mc(ps:List Ap)(fm:List D→Out D)(a:Env→Res (List D)):Env→Out D:=fun ρ=>((a ρ).up ρ).bind (aj7 ps fm)
def mm(c:Nat)(mn:Str)(ps:List Ap)(fm:List D→Out D)(o:Env→Res D)(a:Env→Res (List D)):Env→Out D:=fun ρ=>((o ρ).up ρ).bind fun o ρ=>if af1 c mn o=true then ((a ρ).up ρ).bind fun ds ρ=>aj7 ps fm (o :: ds) ρ else .bad
section
variable{cm:Cm}{Kr:KT D V}{pr:Nat→Bool}{ms:List Md}{K:PySem.W.Frag}
theorem KR.u{d:D}{v:V}{B U U' H:Hp}{N:List Addr}(h:KR cm .F d v B U H N):KR cm .F d v B U' H N:=h
theorem KO.u{s:Sh}{d:D}{v:V}{B U U' H:Hp}{N:List Addr}(h:KO cm s d v B U H N):KO cm s d v B U' H N:=h
theorem aC9{msC:List Md}{fm:List D→Out D}{ps:List Ap}{t:TA}{m:Env→Res (List D)}(h:AJ cm E0 ms ps t m)(hf:aD4 ps msC=true):PJ cm (KR cm .F) E0 ms (bE1 (spZ cm msC (KR cm .F) fm) [] E0 t) (pc fm m):=
 bS3 h (ak2 hf) (ak3 hf) fun _ _ _ _ _ _ _ h=>h
theorem bS0{s:Sh}{msC:List Md}{fm:List D→Out D}{ps:List Ap}{t:TA}{m:Env→Res (List D)}(h:AJ cm E0 ms ps t m)(hf:aD4 ps msC=true):PJ cm (KO cm s) E0 ms (bE1 (spZ cm msC (KO cm s) fm) [] E0 t) (pc fm m):=
 bS3 h (ak2 hf) (ak3 hf) fun _ _ _ _ _ _ _ h=>h
theorem aq9{c:Nat}{mn:Str}{msC:List Md}{fm:List D→Out D}{p:Ap}{ps:List Ap}{ta:TE}{ma:Env→Res D}{t:TA}{m:Env→Res (List D)}(ha:A1J cm E0 ms p ta ma)(h:AJ cm E0 ms ps t m)(hf:aD4 (p :: ps) msC=true):
 PJ cm (KR cm .F) E0 ms (aG3 (cm c) mn (spZ cm msC (KR cm .F) fm) [] E0 ta t) (pm c mn fm ma m):=bS2 ha h (ak2 hf) (ak3 hf) fun _ _ _ _ _ _ _ h=>h
theorem aD9{s:Sh}{c:Nat}{mn:Str}{msC:List Md}{fm:List D→Out D}{p:Ap}{ps:List Ap}{ta:TE}{ma:Env→Res D}{t:TA}{m:Env→Res (List D)}(ha:A1J cm E0 ms p ta ma)(h:AJ cm E0 ms ps t m)(hf:aD4 (p :: ps) msC=true):
 PJ cm (KO cm s) E0 ms (aG3 (cm c) mn (spZ cm msC (KO cm s) fm) [] E0 ta t) (pm c mn fm ma m):=bS2 ha h (ak2 hf) (ak3 hf) fun _ _ _ _ _ _ _ h=>h
theorem cg0{c:Nat}{sh:List (Str×Sh)}{msC:List Md}{fm:List D→Out D}{ps:List Ap}{t:TA}{m:Env→Res (List D)}(h:AJ cm E0 ms ps t m)(hf:aD4 ps msC=true):
 PJ cm (KO cm (.ob sh)) E0 ms (bV1 (cm c) (spZ cm (.O (.ob sh) :: msC) (KR cm .F) fm) [] E0 t) (pk c fm m):=
 cx7 h (by rw[Ab2,ak2 hf]) rfl fun j p e=>by rw[Ah4]; exact ak3 hf j p e
theorem aw2{c:Nat}{mn:Str}{msC:List Md}{fm:List D→Out D}{p:Ap}{ps:List Ap}{ta:TE}{ma:Env→Res D}{t:TA}{m:Env→Res (List D)}(ha:A1J cm E0 ms p ta ma)(h:AJ cm E0 ms ps t m)(hf:fitM ms (p :: ps) msC)(hd:(lent (p :: ps)).Nodup)
 (hb:∀ i∈borr (p :: ps),i∉lent (p :: ps)):MJ cm (KR cm .F) E0 ms (aG3 (cm c) mn (spZ cm msC (KR cm .F) fm) [] E0 ta t) (mm c mn (p :: ps) fm ma m):=cF3 ha h hf hd hb fun _ _ _ _ _ _ _ h=>h
theorem rnon{B U H:Hp}{N:List Addr}:KR cm .F .non .non B U H N:=show Dn cm B .non .non by rw[Dn]
end
theorem aP2{cm:Cm}{G:Hp}:∀ ns:List Int,Dns cm G (ns.map D.int) (ns.map V.int)
 |[]=>by rw[Af6,Af6,Dns]
 | n :: r=>by
   rw[Aa2,Aa2,Dns];exact⟨_,_,rfl,by rw[Dn],aP2 r⟩
theorem cF9{cm:Cm}{fm:List D→Out D}(h:∀ ns:List Int,ns.length≤63→∃ ρ,fm [.scr (ns.map D.int)]= .ok (.bl true) ρ){vs:List V}{H:Hp}{Q:VK}{a:Addr}{ns:List Int}(hv:vs=[.ref a])(hs:SqF cm.K H a (ns.map V.int))(hl:ns.length≤63)(ht:∀ p∈cm.tb,∃ l,H p.1=some (.tbl l)∧p.2∈l)(hq:∀ H',Q (.bl true) H'):
 spM cm [.R] (KR cm .F) fm vs H Q E0:=by
 subst hv;obtain⟨ρ,e⟩:=h ns hl;refine⟨H,H,fun _=>[],[.scr (ns.map D.int)],⟨Same.refl _,Same.refl _,fun _=>Af1,fun _ _ _ _ z=>(nomatch z),fun _ _ z=>(nomatch z),fun i=>?_,rfl,ht⟩,rfl,?_⟩
 · rw[aj3,aj3];cases i with
   |zero=>exact⟨.ref a,rfl,by show Dn cm H (.scr _) _; rw[Dn]; exact⟨a,_,rfl,hs,aP2 ns⟩,rfl⟩
   |succ i=>exact rfl
 ·rw[e];intro v B' U' As' H' N R' e' n' k;have k:Dn cm B' (.bl true) v:=k;rw[Dn] at k;rw[k];exact hq H'
theorem cs9{K:PySem.W.Frag}{H:Hp}{a:Addr}{xs:List V}{T:Tbs}(o:Only T H)(h:SqL K H a xs):SqF K H a xs:=by
 rcases h with (h | h) | h
 · rcases o.2 a with z | ⟨ob,ys,z⟩ | z
   ·rw[z] at h; cases h
   ·rw[z] at h; cases h
   ·rw[z] at h; cases h
 ·exact .inl h
 ·exact .inr h
theorem tb_of{H:Hp}{T:Tbs}(o:Only T H):∀ p∈T,∃ l,H p.1=some (.tbl l)∧p.2∈l:=fun p hp=>⟨_,o.1 p hp,Tbs.mem.mpr hp⟩
def sc1(m:Env→Res D):Env→Res D:=fun ρ=>(m ρ).bind fun d=>if ac3 d=true then .ok d else .bad
def as7:List (List Key)→List D→List Key→List (List Key)×List D
 |k :: ks,d :: ds,j=>if k=j then as7 ks ds j else (k :: (as7 ks ds j).1,d :: (as7 ks ds j).2)
 |_,_,_=>([],[])
def bM3:D→D→Option (D×D)
 |.dT ks vs,.tup k=>(ai4 k).bind fun k=>(ae6 ks vs k).map fun x=>(x,.dT (as7 ks vs k).1 (as7 ks vs k).2)
 |_,_=>none
def bw0(set:Env→D→Env)(d:D)(ρ:Env):Res D→Out D
 |.ok k=>(match bM3 d k with | some (x,d')=> .ok x (set ρ d') | none=> .bad)
 |.exc c=> .exc c ρ
 |.bad=> .bad
def bv9(get:Env→Option D)(set:Env→D→Env)(mk:Env→Res D):Env→Out D:=fun ρ=>match get ρ with
 |some (.dT ks vs)=>bw0 set (.dT ks vs) ρ (mk ρ)
 |_=> .bad
section
variable{cm:Cm}{E:XK}{ms:List Md}{B U H:Hp}{As:Nat→List Addr}{σ:St}{ρ:Env}{t:TE}{get:Env→Option D}{set:Env→D→Env}
theorem be0{G:Hp}{k:List Key}:∀ {kvs:List (List Key×V)} {ds:List D},Dns cm G ds (kvs.map (·.2))→(aq5 kvs k).map (·.1)=(as7 (kvs.map (·.1)) ds k).1∧Dns cm G (as7 (kvs.map (·.1)) ds k).2 ((aq5 kvs k).map (·.2))
 | [],ds,h=>by
   cases ds <;> exact⟨rfl,by show Dns cm G [] []; rw[Dns]⟩
 | p :: kvs,ds,h=>by
   cases ds with
   |nil=>rw[Dns] at h; cases h
   |cons d ds=>
     rw[List.map_cons,Dns] at h;obtain⟨y,r,e,h1,h2⟩:=h;cases e;obtain⟨i1,i2⟩:=be0 (k:=k) h2;unfold aq5 at i1 i2 ⊢;rw[List.map_cons,List.filter_cons,as7];by_cases q:p.1=k
     ·rw[Aa3 (by simp[q]),Aa6 q];exact⟨i1,i2⟩
     ·rw[Aa6 (by simpa using q),Aa3 q];refine⟨by rw[Aa2,i1],?_⟩;rw[Aa2,Dns];exact⟨_,_,rfl,h1,i2⟩
theorem cF4{tk:TE}{mk:Env→Res D}(p:Pth cm ms t get set)(hk:PJ cm (KR cm .X) E ms tk mk):MJ cm (KR cm .F) E ms (bO3 t tk) (bv9 get set mk):=by
 intro B U As σ H ρ Q R P;unfold bv9 at P;cases e:get ρ with
 |none=>rw[e] at P; exact P.elim
 |some d=>
   obtain⟨v,A,ht,ow,hA,cl⟩:=p.rd R e;cases d with
   |dT ks vs=>
     rw[e] at P;replace P:Mo cm (KR cm .F) E ms B U σ (bw0 set (.dT ks vs) ρ (mk ρ)) Q:=P;obtain⟨a,kvs,rfl,h1,h2,rfl,h3⟩:=ow.dT rfl;refine ht _ ⟨a,rfl,.inr ⟨kvs,.inl h1⟩,hk B U As σ H ρ _ R ?_⟩;cases em:mk ρ with
     |exc c=>rw[em] at P; exact fun B1 U1 H1 R1 g1=>P B1 U1 As H1 R1 g1.toEx
     |bad=>rw[em] at P; exact P.elim
     |ok kd=>
       rw[em] at P;intro u B1 U1 H1 N R1 g1 n1 hu;have hu:Dn cm H1 kd u:=hu;replace P:Mo cm (KR cm .F) E ms B U σ (match bM3 (.dT ks vs) kd with | some (x,d')=> .ok x (set ρ d') | none=> .bad) Q:=P;cases ed:bM3 (.dT ks vs) kd with
       |none=>rw[ed] at P; exact P.elim
       |some xd=>
         obtain⟨x,d'⟩:=xd;rw[ed] at P;cases kd with
         |tup kt=>
           replace ed:((ai4 kt).bind fun k=>(ae6 ks vs k).map fun x=>(x,D.dT (as7 ks vs k).1 (as7 ks vs k).2))=some (x,d'):=ed;obtain⟨kk,ek,ed⟩:=Option.bind_eq_some_iff.mp ed;obtain⟨y,ey,ed⟩:=Option.map_eq_some_iff.mp ed;cases ed;rw[Dn] at hu;obtain⟨b,xs,rfl,h4,h5⟩:=hu;have ex:=an8 ek h5;subst ex;subst h2;have h3':Dns cm B1 vs (kvs.map (·.2)):=h3.mono g1.b;have hl:=ar8 (cm:=cm) (G:=B1) kk h3';rw[ey] at hl;obtain⟨w,ew,dw⟩:=hl;obtain⟨i1,i2⟩:=be0 (cm:=cm) (G:=B1) (k:=kk) h3';refine⟨kvs,kk,b,w,g1.h _ _ h1,rfl,h4,ew,?_⟩;refine P w B1 U1 As _ [] (cl B1 U1 H1 R1 g1.b g1.h a Aa5 _ _ ?_) g1.toEx NewM.nil dw;rw[← i1];exact Ow.dT' ab3 i2
         |_=>cases ed
   |_=>rw[e] at P; exact P.elim
end
section
variable{cm:Cm}{E:XK}{ms:List Md}
theorem bu1{ta:TE}{ma:Env→Res D}(ha:PJ cm (KR cm .F) E ms ta ma):PJ cm (KI cm .F .U) E ms (bu2 cm.K ta) (srcL ma):=by
 intro B U As σ H ρ Q R P;refine cm3 ha B U As σ H ρ Q R ?_;cases e:srcL ma ρ with
 |ok ds=>
   rw[e] at P;intro J B1 U1 H1 N R1 g n ⟨vs,hJ,hd⟩;exact P J B1 U1 H1 N R1 g n ⟨vs,fun H2 s=>hJ H2 (R1.bu.trans s),hd⟩
 |exc c=>rw[e] at P; exact P
 |bad=>rw[e] at P; exact P
end
end Mi
namespace L2
open PySem PySem.Spec PyProof.Rows
section
variable{X:Cx}(K:PySem.W.Frag)
theorem ad9(h:X.K=K):IxR X (rIxL K):=by subst h; exact cm1
theorem aq2(h:X.K=K):IxR X (rIxT K):=by subst h; exact cG5
theorem ab9(h:X.K=K):CallR X (.builtin "len") (fun xs H Q=>∃ p ys,xs=[.ref p]∧(SqL K H p ys∨SqT K H p ys)∧Q (.int ys.length) H):=by subst h; exact aQ0
theorem aK3(h:X.K=K):CallR X (.type "list") (fun xs H Q=>∃ p ys,xs=[.ref p]∧(SqL K H p ys∨SqT K H p ys)∧∀ l,H l=none→Q (.ref l) (upd H l (.lst ys))):=by subst h; exact aP9
theorem ap4(h:X.K=K):CallR X (.type "tuple") (fun xs H Q=>∃ p ys,xs=[.ref p]∧((SqL K H p ys∧∀ l,H l=none→Q (.ref l) (upd H l (.tup ys)))∨(SqT K H p ys∧Q (.ref p) H))):=by subst h; exact aK2
theorem bj7(h:X.K=K)(hc:X.calm=true):CallR X (.type "set") (fun xs H Q=>∃ p ns,xs=[.ref p]∧SqL K H p (ns.map V.int)∧ns.length < 4000∧∀ q,H q=none→Q (.ref q) (upd H q (.set (fun k=>(dd ns).any (· == k)) (dd ns).length))):=by subst h; exact bB5 hc
theorem bj9(h:X.K=K)(hc:X.calm=true):aC5 X (.builtin "min") ["default"] (fun xs zs H Q=>∃ p ns d,xs=[.ref p]∧zs=[d]∧SqL K H p (ns.map V.int)∧(ns=[]→Q d H)∧∀ m∈ns,(∀ x∈ns,m≤x)→Q (.int m) H):=by subst h; exact bC2 hc
theorem bk0(h:X.K=K)(hc:X.calm=true):aC5 X (.builtin "max") ["default"] (fun xs zs H Q=>∃ p ns d,xs=[.ref p]∧zs=[d]∧SqL K H p (ns.map V.int)∧(ns=[]→Q d H)∧∀ m∈ns,(∀ x∈ns,x≤m)→Q (.int m) H):=by subst h; exact bC3 hc
theorem bq7(h:X.K=K)(hu:X.A.units + 64 < cLine):OpR X (compareOp .Eq) (rEqD K false):=by subst h; exact cy9 hu
theorem cg8(h:X.K=K)(hu:X.A.units + 65 < cLine):OpR X (compareOp .In) (fun x y H Q=>∃ d xs,Den K H d x∧Den K H (.list xs) y∧SeqAt.shaped d=true∧SeqAt.shaped (.list xs)=true∧(∀ z∈xs,SeqAt.noMix z d=true)∧Q (.bl (decide (countIn d xs≠0))) H):=by subst h; exact cy8 hu
theorem aQ1(h:X.K=K):CallR X (.builtin "isinstance") (fun xs H Q=>∃ x c t b,xs=[x,.ty c]∧TyOf K H x t∧PySem.W.kitOne K t (.type c)=some b∧Q (.bl b) H):=by subst h; exact bN1
theorem ab1{e:Expr}{ta:TE}{f:Str}{pos:Pos}(h:X.K=K)(he:PE X e ta)(hb:attributeBase e f X.env (eval e X.env)=eval e X.env):PE X (.Attribute e f pos) (tFld K ta f):=by subst h; exact cw8 he hb
theorem aH1{tg l:Expr}{tl:TE}(h:X.K=K)(hl:PE X l tl):PI X tg l (bu2 K tl):=by subst h; exact cg1 hl
end
end L2
namespace Mi
open PySem L2
def spT(K:PySem.W.Frag)(T:Tbs):Sp:=fun vs H Q _=>∃ (a:Addr) (ns:List Int),vs=[.ref a]∧SqF K H a (ns.map V.int)∧ns.length≤63∧(∀ p∈T,∃ l,H p.1=some (.tbl l)∧p.2∈l)∧∀ H',Q (.bl true) H'
def aq8:List D→Option (List Bool)
 |[]=>some []
 |.bl b :: r=>(aq8 r).map (b :: ·)
 |_ :: _=>none
def anyD:D→Res D
 |.lst ds=>(match aq8 ds with | some bs=> .ok (.bl (bs.any id)) | none=> .bad)
 |_=> .bad
def au1:List D→Option (List (Int×Int×List Int))
 |[]=>some []
 |d :: r=>match keyP d,au1 r with | some k,some ks=>some (k :: ks) | _,_=>none
def br2(x d:D):Res D:=match x with
 |.lst []=>if ac3 d=true then .ok d else .bad
 | .lst (e :: r)=>(match au1 (e :: r) with
   |some ks=>(match (e :: r)[PySem.argBest (fun i j=>ag8 (ks.getD i (0,0,[])) (ks.getD j (0,0,[]))) r.length]? with | some y=> .ok y | none=> .bad)
   |none=> .bad)
 |_=> .bad
section
variable{cm:Cm}{E:XK}{ms:List Md}{K:PySem.W.Frag}
theorem aC0{G:Hp}:∀ {ds:List D} {bs:List Bool} {xs:List V},aq8 ds=some bs→Dns cm G ds xs→xs=bs.map V.bl
 |[],ns,xs,e,h=>by rw[Dns] at h; cases e; rw[h]; rfl
 | d :: ds,ns,xs,e,h=>by
   rw[Dns] at h;obtain⟨x,r,rfl,h1,h2⟩:=h;cases d with
   |bl i=>
     rw[aq8] at e;obtain⟨ms,e1,rfl⟩:=Option.map_eq_some_iff.mp e;rw[Dn] at h1;rw[aC0 e1 h2,h1,Aa2]
   |_=>cases e
theorem s_any:S1 cm (fun v H Q=>∃ p,∃ bs:List Bool,[v]=[.ref p]∧SqL K H p (bs.map V.bl)∧Q (.bl (bs.any id)) H) anyD:=by
 intro H x v hx;cases x with
 |lst ds=>
   rw[Dn] at hx;obtain⟨a,xs,rfl,h1,h2⟩:=hx;cases e:aq8 ds with
   |none=>
     have ea:anyD (.lst ds)= .bad:=by simp only[anyD,e]
     rw[ea]; trivial
   |some bs=>
     have ea:anyD (.lst ds)= .ok (.bl (bs.any id)):=by simp only[anyD,e]
     rw[ea];have ex:=aC0 e h2;subst ex;exact⟨.bl _,fun _=>by rw[Dn],fun Q q=>⟨a,bs,rfl,SqL.of h1,q⟩⟩
 |_=>trivial
theorem aN4:∀ {ds:List D} {ks:List (Int×Int×List Int)},au1 ds=some ks→ds.length=ks.length
 |[],ks,e=>by cases e; rfl
 | d :: r,ks,e=>by
   unfold au1 at e;cases e1:keyP d with
   |none=>rw[e1] at e; cases e
   |some k=>
     cases e2:au1 r with
     |none=>rw[e1,e2] at e; cases e
     |some l=>rw[e1,e2] at e; cases e; rw[Ab2,Ab2,aN4 e2]
theorem bc8:∀ {ds:List D} {ks:List (Int×Int×List Int)} {i:Nat} {d:D},au1 ds=some ks→ds[i]?=some d→keyP d=some (ks.getD i (0,0,[]))
 |[],ks,i,d,e,h=>by cases h
 | x :: r,ks,i,d,e,h=>by
   unfold au1 at e;cases e1:keyP x with
   |none=>rw[e1] at e; cases e
   |some k=>
     cases e2:au1 r with
     |none=>rw[e1,e2] at e; cases e
     |some l=>
       rw[e1,e2] at e;cases e;cases i with
       |zero=>cases h; exact e1
       |succ i=>rw[Ah4]; exact bc8 e2 (by simpa using h)
theorem cx4{ta td:TE}{ma md:Env→Res D}(ha:PJ cm (KC cm .F) E ms ta ma)(hd:PJ cm (KR cm .X) E ms td md):
 PJ cm (KR cm .F) E ms (tCBK (fun xs zs H Q=>∃ p vs d,∃ ks:List (Int×Int×List Int),xs=[.ref p]∧zs=[d]∧SqL K H p vs∧vs.length=ks.length∧(∀ i v,vs[i]?=some v→KeyV K H v (ks.getD i (0,0,[])))∧
  (vs=[]→Q d H)∧∀ v,vs[PySem.argBest (fun i j=>ag8 (ks.getD i (0,0,[])) (ks.getD j (0,0,[]))) (vs.length - 1)]?=some v→Q v H) (af7 ta tNil) (af7 td tNil)) (bn br2 ma md):=by
 intro B U As σ H ρ Q R P;refine ha.bnd R P fun x v B1 U1 H1 N1 _ R1 e1 n1 d1 P1=>hd.bnd R1 P1 fun y u B2 U2 H2 N2 _ R2 e2 n2 d2 P2=>?_;have d1:Cn cm B1 H1 x v:=d1;cases x with
 |lst ds=>
   have d1:∃ a xs,v= .ref a∧H1 a=some (.lst xs)∧Dns cm B1 ds xs:=d1;obtain⟨a,xs,rfl,h1,h2⟩:=d1;have h1':=e2.h _ _ h1;have h2':=h2.mono e2.b;cases ds with
   |nil=>
     rw[Dns] at h2;subst h2;replace P2:Po cm (KR cm .F) E ms B2 U2 As σ H2 ρ (if ac3 y=true then .ok y else .bad) Q:=P2;by_cases z:ac3 y=true
     ·rw[Aa6 z] at P2;exact⟨a,[],u,[],rfl,rfl,SqL.of h1',rfl,fun i v e=>(nomatch e),fun _=>P2 u B2 U2 H2 [] R2 (Gw.refl _ _ _) New.nil (ak8 z d2),fun v e=>by cases e⟩
     ·rw[Aa3 z] at P2; exact P2.elim
   |cons e r=>
     replace P2:Po cm (KR cm .F) E ms B2 U2 As σ H2 ρ (match au1 (e :: r) with
      |some ks=>(match (e :: r)[PySem.argBest (fun i j=>ag8 (ks.getD i (0,0,[])) (ks.getD j (0,0,[]))) r.length]? with | some y=> .ok y | none=> .bad)
      |none=> .bad) Q:=P2
     cases ek:au1 (e :: r) with
     |none=>rw[ek] at P2; exact P2.elim
     |some ks=>
       rw[ek] at P2;replace P2:Po cm (KR cm .F) E ms B2 U2 As σ H2 ρ (match (e :: r)[PySem.argBest (fun i j=>ag8 (ks.getD i (0,0,[])) (ks.getD j (0,0,[]))) r.length]? with | some y=> .ok y | none=> .bad) Q:=P2;have hl:=h2'.len;refine⟨a,xs,u,ks,rfl,rfl,SqL.of h1',by rw[← hl,aN4 ek],fun i v hv=>?_,fun z=>?_,fun v hv=>?_⟩
       ·obtain⟨d,hd',hdn⟩:=h2'.geti hv;obtain⟨p,l,rfl,q1,q2⟩:=ap2 (K:=K) (bc8 ek hd') (Dn.mono R2.bh hdn);exact⟨p,l,rfl,q1,q2⟩
       ·subst z; cases hl
       ·rw[← hl,Ab2,Nat.add_sub_cancel] at hv;obtain⟨d,hd',hdn⟩:=h2'.geti hv;rw[hd'] at P2;exact P2 v B2 U2 H2 [] R2 (Gw.refl _ _ _) New.nil hdn
 |_=>exact P2.elim
end
section
variable{cm:Cm}{E:XK}{ms:List Md}
theorem fF(i:Nat)(hm:ms.getD i .F= .F:=by rfl):PJ cm (KR cm .F) E ms (tVar i) (vr i):=xF hm
theorem fR(i:Nat)(hm:ms.getD i .F= .R:=by rfl):PJ cm (KR cm .U) E ms (tVar i) (vr i):=xR hm
theorem fO(i:Nat){sh:Sh}(hm:ms.getD i .F= .O sh:=by rfl):PJ cm (KR cm .X) E ms (tVar i) (vr i):=xO hm
theorem fC(i:Nat)(hm:ms.getD i .F= .O (.ct .fz):=by rfl):PJ cm (KC cm .F) E ms (tVar i) (vr i):=xC hm
end
theorem cm4{k:Nat}{A:Around}(r:Room k A):A.units + 101 < cLine:=by have:=r.un; omega
end Mi
namespace L2
open PySem PySem.Spec PyProof.Rows
section
variable{X:Cx}(K:PySem.W.Frag)
theorem bC0(h:X.K=K)(hc:X.calm=true):CallR X (.builtin "any") (fun xs H Q=>∃ p,∃ bs:List Bool,xs=[.ref p]∧SqL K H p (bs.map V.bl)∧Q (.bl (bs.any id)) H):=by subst h; exact bC1 hc
theorem aZ2(h:X.K=K)(hc:X.calm=true)(hu:X.A.units + 101 < cLine):aC5 X (.builtin "min") ["default"] (fun xs zs H Q=>∃ p vs d,∃ ks:List (Int×Int×List Int),xs=[.ref p]∧zs=[d]∧SqL K H p vs∧vs.length=ks.length∧(∀ i v,vs[i]?=some v→KeyV K H v (ks.getD i (0,0,[])))∧
 (vs=[]→Q d H)∧∀ v,vs[PySem.argBest (fun i j=>ag8 (ks.getD i (0,0,[])) (ks.getD j (0,0,[]))) (vs.length - 1)]?=some v→Q v H):=by subst h; exact bj8 hc hu
end
end L2
namespace Gd
open PySem L2
theorem cK9:bootBuiltins "any" = some (.builtin "any"):=by decide +kernel
end Gd
namespace Mi
open PySem L2
def repL:D→D→Res D
 |.lst xs,.int k=>if (0≤k∧k≤1000000)∧xs.length * k.toNat≤aa6 then .ok (.lst (List.replicate k.toNat xs).flatten) else .bad
 |_,_=> .bad
section
variable{cm:Cm}{E:XK}{ms:List Md}
theorem Dns.rep{B:Hp}{ds:List D}{xs:List V}(h:Dns cm B ds xs):∀ k:Nat,Dns cm B (List.replicate k ds).flatten (List.replicate k xs).flatten
 |0=>by rw[List.replicate_zero,List.replicate_zero,List.flatten_nil,List.flatten_nil,Dns]
 |k + 1=>by rw[Ad6,Ad6,Ae8,Ae8]; exact Dns.append h (Dns.rep h k)
theorem p_rep{ta tb:TE}{ma mb:Env→Res D}(ha:PJ cm (KC cm .F) E ms ta ma)(hb:PJ cm (KR cm .X) E ms tb mb):PJ cm (KO cm (.ct .fz)) E ms (tOp rRep ta tb) (bn repL ma mb):=by
 intro B U As σ H ρ Q R P;refine ha.bnd R P fun x v B1 U1 H1 N1 _ R1 e1 n1 d1 P1=>hb.bnd R1 P1 fun y u B2 U2 H2 N2 _ R2 e2 n2 d2 P2=>?_;have d1:Cn cm B1 H1 x v:=d1;have d2:Dn cm H2 y u:=d2;cases x with
 |lst ds=>
   have d1:∃ a xs,v= .ref a∧H1 a=some (.lst xs)∧Dns cm B1 ds xs:=d1;obtain⟨a,xs,rfl,h1,h2⟩:=d1;cases y with
   |int k=>
     rw[Dn] at d2;subst d2;replace P2:Po cm (KO cm (.ct .fz)) E ms B2 U2 As σ H2 ρ (if (0≤k∧k≤1000000)∧ds.length * k.toNat≤aa6 then .ok (.lst (List.replicate k.toNat ds).flatten) else .bad) Q:=P2;by_cases z:(0≤k∧k≤1000000)∧ds.length * k.toNat≤aa6
     ·rw[Aa6 z] at P2;refine⟨a,k,xs,rfl,rfl,e2.h _ _ h1,by omega,by omega,?_,fun p hp=>al5 R2 P2 ((h2.mono e2.b).rep _) hp⟩;rw[← h2.len];exact Ae3 z.2 (by decide)
     ·rw[Aa3 z] at P2; exact P2.elim
   |_=>exact P2.elim
 |_=>exact P2.elim
end
end Mi
namespace L2
open PySem
theorem lenV0{P:List Value→Prop}(h:P []):∀ us:List Value,us.length=0→P us:=by
 intro us hl;rw[List.length_eq_zero_iff.mp hl]; exact h
theorem aH9{P:List Value→Prop}(h:∀ a0:Value,P [a0]):∀ us:List Value,us.length=1→P us:=by
 intro us hl;cases us with
 |nil=>cases hl
 |cons a us=>exact lenV0 (P:=fun us=>P (a :: us)) (h a) us (Ar1 hl)
theorem aq0{P:List Value→Prop}(h:∀ a0 a1:Value,P [a0,a1]):∀ us:List Value,us.length=2→P us:=by
 intro us hl;cases us with
 |nil=>cases hl
 |cons a us=>exact aH9 (P:=fun us=>P (a :: us)) (h a) us (Ar1 hl)
theorem az0{P:List Value→Prop}(h:∀ a0 a1 a2:Value,P [a0,a1,a2]):∀ us:List Value,us.length=3→P us:=by
 intro us hl;cases us with
 |nil=>cases hl
 |cons a us=>exact aq0 (P:=fun us=>P (a :: us)) (h a) us (Ar1 hl)
theorem lenV4{P:List Value→Prop}(h:∀ a0 a1 a2 a3:Value,P [a0,a1,a2,a3]):∀ us:List Value,us.length=4→P us:=by
 intro us hl;cases us with
 |nil=>cases hl
 |cons a us=>exact az0 (P:=fun us=>P (a :: us)) (h a) us (Ar1 hl)
end L2
namespace L2
open PySem PySem.Spec PyProof.Rows
section
variable{P:Program}{w:World}{H H':Hp}{h h':Heap}{a:Addr}{o:HO}
theorem ObjOk.ex(x:ObjOk P w H h a o):∃ u,h.get? a=some u:=by
 cases o with
 |lst xs=>obtain⟨_,_,_,_,e⟩:=x; exact⟨_,e⟩
 |tup xs=>obtain⟨_,_,_,_,e,_⟩:=x; exact⟨_,e⟩
 |dK kvs=>obtain⟨_,_,_,_,o,_,_,e,_⟩:=x; exact⟨_,e⟩
 |dT kvs=>obtain⟨_,_,_,_,o,_,_,e,_⟩:=x; exact⟨_,e⟩
 |set S n=>obtain⟨o,_,_,_,e,_⟩:=x; exact⟨_,e⟩
 |ins C dx fs=>obtain⟨_,_,_,e,_⟩:=x; exact⟨_,e⟩
 |own y=>obtain⟨_,e⟩:=x; exact⟨_,e⟩
 |xd fs=>obtain⟨_,⟨_,_,_,e,_⟩,_⟩:=x; exact⟨_,e⟩
 |rng lo hi=>obtain⟨_,_,_,e⟩:=x; exact⟨_,e⟩
 |frz ob u=>obtain⟨e,_⟩:=x; exact⟨_,e⟩
 |tbl l=>obtain⟨_,_,e,_⟩:=x; exact⟨_,e⟩
 |met f y=>exact⟨_,show h.get? a=some _ from x⟩
 |ext φ=>obtain⟨_,⟨_,e⟩,_⟩:=x; exact⟨_,e⟩
theorem HOk.none(x:HOk P w H h)(e:h.get? a=Option.none):H a=Option.none:=by
 cases q:H a with
 |none=>rfl
 |some u=>obtain⟨v,r⟩:=(x a u q).ex; rw[e] at r; cases r
end
def CX1(P:Program)(w:World):CXT:=fun outer H s E e s'=>∃ (ea C:Addr) (a0:Value) (B:Heap) (H':Hp),e= .ref ea∧s'.os=s.os∧AllBare s'.gens∧Un (frs outer) (frs outer) H H' s.heap B∧HOk P w H' B∧
 Heap.FlyingW B outer ea (.ref C) a0 s'.heap∧(∀ b∈frs outer,∀ o,s.heap.get? b=some o→∃ sl,s'.heap.get? b=some { o with slots:=sl })∧(∀ b∈frs outer,H' b=none)∧E (.ref C) none H'
structure Own (X:Cx) (E:XK):Prop where
 xe:X.xe=fun e s'=>wpAny (model X.prog X.w) X.A (leaving X.env e) (fun _ s''=>CX1 X.prog X.w X.outer X.H₀ X.s₀ E e s'') (fun e' s''=>CX1 X.prog X.w X.outer X.H₀ X.s₀ E e' s'')  s'
 ex:X.ex=[]
 stk:X.stack=X.env :: X.outer
 fr:X.env.frame=some X.env.locals
section
variable{X:Cx}{E:XK}{pins:List (Addr×Obj)}{σ:St}{H:Hp}{s:Shared}
theorem Inv.above(I:Inv X pins σ H s):X.s₀.heap.get? X.env.locals=none:=Heap.get?_none_of_le I.ok.above
theorem Own.own(O:Own X E):PassesOwn (model X.prog X.w) X.A X.env X.xe:=by
 rw[O.xe];exact PassesOwn.leaving
end
def mroK(K:PySem.W.Frag)(C:Addr):List Value:=match K.lookup C with
 |some ⟨_,_,.cls cd,_⟩=>cd.mro
 |_=>[]
abbrev vBm:List Value:=[.type "ValueError",.type "Exception",.type "BaseException",.type "object"]
def excK(K:PySem.W.Frag)(C:Addr):Bool:=PySem.W.excIn K C vBm "ValueError.__new__"
abbrev Cx.hand(X:Cx)(ea:Addr)(oe:Obj):Cx:={ X with A:=X.A.mark (some (.ref ea)),calm:=false,pn:=(ea,oe) :: X.pn,xe:=fun _ _=>False }
section
variable{X:Cx}{pins:List (Addr×Obj)}{σ:St}{H:Hp}{s:Shared}{ea:Addr}{oe:Obj}
theorem Cx.Ok.hand(ok:X.Ok):(X.hand ea oe).Ok:=⟨ok.mod,ok.kind,ok.glob,ok.blt,ok.above,ok.inj,ok.has,ok.cab,fun z=>(nomatch z),ok.frames,ok.stk,ok.exf,ok.bs,ok.bsz,ok.noex,ok.exfs,ok.funs,ok.frf⟩
theorem Inv.hand(I:Inv X pins σ H s){vs:Array Value}(he:s.heap.get? ea=some oe)(hn:H ea=none)(hd:oe.data= .fields vs):Inv (X.hand ea oe) pins σ H s:=by
 refine⟨I.ok.hand,I.os,I.bare,I.base,I.loc,I.cell,I.free,I.freeC,fun p hp=>?_,I.hok,I.len⟩;rcases List.mem_cons.mp (show p∈(ea,oe) :: (X.pn ++ pins) from hp) with rfl | hp
 · refine⟨he,hn,fun z=>?_,fun z=>?_,fun v z=>by rw[hd] at z; cases z⟩
   ·obtain⟨m,⟨o,es,ep,ho,hd',_⟩,_⟩:=I.loc;replace z:ea=X.env.locals:=z;rw[z,ho] at he;cases he;rw[hd] at hd';cases hd'
   ·obtain⟨_,o,ho,nf⟩:=I.funs.mem z;replace ho:s.heap.get? ea=some o:=ho;rw[he] at ho;cases ho;exact nf _ hd
 ·exact I.pin p hp
theorem Inv.exc(I:Inv (X.hand ea oe) pins σ H s):s.heap.get? ea=some oe:=(I.pin (ea,oe) Aa5).1
end
end L2
namespace PySem.W
open PySem PySem.Spec PySem.Calls PyProof.Rows
open Builtin Builtin.ObjectAttr Builtin.Getset_descriptor in
open Builtin Builtin.ObjectAttr Builtin.Getset_descriptor in
def cH4(K:Frag)(D:Addr):Bool:=findIn K (.ref D) "__getattribute__" == some (some (.builtin "BaseException.__getattribute__")) && (findIn K (.ref D) "__getattr__" == some none && (findIn K (.ref D) "__class__" == some (some (.builtin "object.__class__")) &&
 (specialIn K (.builtin "object.__class__") "__get__" == some (some (.builtin "getset_descriptor.__get__")) && (takesIn K (.builtin "object.__class__") == some true && (mroIn K D (.type "object") == some true && (mroIn K D (.type "BaseException") == some true && (clsIn K D).isSome))))))
end PySem.W
namespace Mi
open PySem L2
section
variable{cm:Cm}{Kr:KT D V}{E:XK}{pr:Nat→Bool}{ms:List Md}{K:PySem.W.Frag}
theorem Rel.slot{B U H:Hp}{As:Nat→List Addr}{σ:St}{ρ:Env}{j:Nat}{x:Option V}(R:Rel cm ms B U As σ H ρ)(h:rg ρ j=none):Rel cm ms B U As (σ.set j x) H ρ:=by
 refine⟨R.bu,R.uh,R.nd,R.dj,R.un,fun i=>?_,by rw[Ad8]; exact R.len,R.tb⟩;have l:=R.lo i;by_cases z:i=j
 ·subst z;rw[h] at l ⊢;exact l
 · have:rg (σ.set j x) i=rg σ i:=by unfold rg; rw[List.getElem?_set_ne (Ne.symm z)]
   rw[this];exact l
theorem Kp.slot{σ σ':St}{j:Nat}{x:Option V}(k:Kp pr σ σ')(hp:pr j=false):Kp pr σ (σ'.set j x):=fun i hi=>by
 have:i≠j:=fun z=>by rw[z,hp] at hi; cases hi
 have e:rg (σ'.set j x) i=rg σ' i:=by unfold rg; rw[List.getElem?_set_ne (Ne.symm this)]
 rw[e];exact k i hi
end
abbrev DI(β:Type):=List (List Int×β)
section
variable{β:Type}
def encD(f:β→D)(F:DI β):D:= .dT (F.map fun p=>p.1.map Sum.inl) (F.map fun p=>f p.2)
def DI.get(F:DI β)(k:List Int):Option β:=(F.find? fun p=>decide (p.1=k)).map (·.2)
def DI.put(F:DI β)(k:List Int)(v:β):DI β:=if (F.get k).isSome=true then F.map fun p=>if p.1=k then (p.1,v) else p else F ++ [(k,v)]
def DI.del(F:DI β)(k:List Int):DI β:=F.filter fun p=>decide (p.1≠k)
theorem an0{j k:List Int}:j.map (Sum.inl:Int→Key)=k.map Sum.inl↔j=k:=by
 constructor
 · intro h
   induction j generalizing k with
   |nil=>cases k with | nil=>rfl | cons _ _=>cases h
   |cons x j ih=>
     cases k with
     |nil=>cases h
     |cons y k=>
       rw[Aa2,Aa2] at h;injection h with h1 h2
       injection h1 with h1
       rw[h1,ih h2]
 ·intro h; rw[h]
theorem al6:∀ k:List Int,ai4 (k.map D.int)=some (k.map Sum.inl)
 |[]=>rfl
 |x :: k=>by rw[Aa2,ai4,al6 k]; rfl
theorem aH6{f:β→D}{k:List Int}:∀ F:DI β,ae6 (F.map fun p=>p.1.map (Sum.inl:Int→Key)) (F.map fun p=>f p.2) (k.map Sum.inl)=(DI.get F k).map f
 |[]=>rfl
 | p :: F=>by
   rw[List.map_cons,List.map_cons,ae6,aH6 F];unfold DI.get;rw[List.find?_cons];by_cases h:p.1=k
   ·rw[Aa6 (an0.mpr h),Ag2 h]; rfl
   ·rw[Aa3 (fun z=>h (an0.mp z)),Ad2 h]
theorem an1{f:β→D}{F:DI β}{k:List Int}:aD2 (encD f F) (.tup (k.map D.int))=some ((F.get k).map f):=by
 show(ai4 (k.map D.int)).map (fun k=>ae6 (F.map fun p=>p.1.map (Sum.inl:Int→Key)) (F.map fun p=>f p.2) k)=_;rw[al6,Ak1,aH6]
theorem bu6{k:List Int}:∀ F:DI β,hasK (F.map fun p=>p.1.map (Sum.inl:Int→Key)) (k.map Sum.inl)=(DI.get F k).isSome
 |[]=>rfl
 | p :: F=>by
   have ih:=bu6 (k:=k) F;unfold hasK DI.get at *;rw[List.map_cons,List.any_cons,List.find?_cons,ih];by_cases h:p.1=k
   ·rw[Ag2 (an0.mpr h),Ag2 h]; rfl
   ·rw[Ad2 (fun z=>h (an0.mp z)),Ad2 h]; rfl
theorem ba7{f:β→D}{k:List Int}{v:β}:∀ F:DI β,putV (F.map fun p=>p.1.map (Sum.inl:Int→Key)) (F.map fun p=>f p.2) (k.map Sum.inl) (f v)=(F.map fun p=>if p.1=k then (p.1,v) else p).map fun p=>f p.2
 |[]=>rfl
 | p :: F=>by
   rw[Aa2,Aa2,putV,ba7 F,Aa2,Aa2];by_cases h:p.1=k
   ·rw[Aa6 (an0.mpr h),Aa6 h]
   ·rw[Aa3 (fun z=>h (an0.mp z)),Aa3 h]
theorem bM1{f:β→D}{F:DI β}{k:List Int}{v:β}(h:F.length < aa6):bj4 (encD f F) (.tup (k.map D.int)) (f v)=some (encD f (F.put k v)):=by
 show((ai4 (k.map D.int)).bind fun k=>if (F.map fun p=>p.1.map (Sum.inl:Int→Key)).length < aa6 then some (if hasK (F.map fun p=>p.1.map (Sum.inl:Int→Key)) k=true then D.dT (F.map fun p=>p.1.map (Sum.inl:Int→Key)) (putV (F.map fun p=>p.1.map (Sum.inl:Int→Key)) (F.map fun p=>f p.2) k (f v)) else D.dT ((F.map fun p=>p.1.map (Sum.inl:Int→Key)) ++ [k]) ((F.map fun p=>f p.2) ++ [f v])) else none)=some (D.dT ((F.put k v).map fun p=>p.1.map Sum.inl) ((F.put k v).map fun p=>f p.2));rw[al6,Option.bind_some,if_pos (by rw[List.length_map]; exact h),bu6];unfold DI.put;by_cases q:(DI.get F k).isSome=true
 ·rw[Aa6 q,Aa6 q,ba7,Af7,Af7];refine congrArg (fun z=>some (D.dT z _)) ?_;refine Aj1 fun p _=>?_;show _=((if p.1=k then (p.1,v) else p).1).map Sum.inl;split <;> rfl
 ·rw[Aa3 q,Aa3 q,Ad3,Ad3];rfl
theorem bd9{f:β→D}{k:List Int}:∀ F:DI β,as7 (F.map fun p=>p.1.map (Sum.inl:Int→Key)) (F.map fun p=>f p.2) (k.map Sum.inl)=((F.del k).map (fun p=>p.1.map Sum.inl),(F.del k).map fun p=>f p.2)
 |[]=>rfl
 | p :: F=>by
   rw[List.map_cons,List.map_cons,as7,bd9 F];unfold DI.del;rw[List.filter_cons];by_cases h:p.1=k
   ·rw[Aa6 (an0.mpr h),Aa3 (by simpa using h)]
   ·rw[Aa3 (fun z=>h (an0.mp z)),Aa6 (by simpa using h)];rfl
theorem bM2{f:β→D}{F:DI β}{k:List Int}{v:β}(h:F.get k=some v):bM3 (encD f F) (.tup (k.map D.int))=some (f v,encD f (F.del k)):=by
 show((ai4 (k.map D.int)).bind fun k=>(ae6 (F.map fun p=>p.1.map (Sum.inl:Int→Key)) (F.map fun p=>f p.2) k).map fun x=>(x,D.dT (as7 (F.map fun p=>p.1.map (Sum.inl:Int→Key)) (F.map fun p=>f p.2) k).1 (as7 (F.map fun p=>p.1.map (Sum.inl:Int→Key)) (F.map fun p=>f p.2) k).2))=some (f v,D.dT ((F.del k).map fun p=>p.1.map Sum.inl) ((F.del k).map fun p=>f p.2));rw[al6,Option.bind_some,aH6,h,Ak1,Ak1,bd9]
theorem az6{F:DI β}{k j:List Int}{v:β}:(F.put k v).get j=if j=k then some v else F.get j:=by
 unfold DI.put;by_cases q:(DI.get F k).isSome=true
 · rw[Aa6 q]
   have key:∀ G:DI β,DI.get (G.map fun p=>if p.1=k then (p.1,v) else p) j=if j=k then (DI.get G k).map fun _=>v else DI.get G j:=by
    intro G
    induction G with
    |nil=>unfold DI.get; split <;> rfl
    |cons p G ih=>
      unfold DI.get at ih ⊢;rw[List.map_cons,List.find?_cons,List.find?_cons,List.find?_cons];by_cases h1:p.1=k
      · rw[Aa6 h1];by_cases h2:j=k
        ·subst h2;simp only[h1,decide_true,Aa6,Ak1]
        ·have h3:¬ p.1=j:=fun z=>h2 (z.symm.trans h1);simp only[h3,Ar2];rw[ih,Aa3 h2,Aa3 h2]
      · rw[Aa3 h1];by_cases h3:p.1=j
        ·have h2:¬ j=k:=fun z=>h1 (h3.trans z);simp only[h3,decide_true,Aa3 h2]
        ·simp only[h3,h1,Ar2];exact ih
   rw[key];by_cases h:j=k
   ·rw[Aa6 h,Aa6 h];obtain⟨x,hx⟩:=Option.isSome_iff_exists.mp q;rw[hx]; rfl
   ·rw[Aa3 h,Aa3 h]
 · rw[Aa3 q]
   have q':DI.get F k=none:=by
    cases z:DI.get F k with
    |none=>rfl
    |some x=>rw[z] at q; exact absurd rfl q
   unfold DI.get at q' ⊢;rw[List.find?_append];by_cases h:j=k
   · subst h
     have q2:F.find? (fun p=>decide (p.1=j))=none:=by
      cases z:F.find? (fun p=>decide (p.1=j)) with
      |none=>rfl
      |some x=>rw[z] at q'; cases q'
     rw[q2,Aa6 rfl];simp
   · rw[Aa3 h]
     have:¬ k=j:=fun z=>h z.symm
     simp[this]
theorem cm6{F:DI β}{k j:List Int}:(F.del k).get j=if j=k then none else F.get j:=by
 unfold DI.del DI.get
 induction F with
 |nil=>split <;> rfl
 |cons p F ih=>
   rw[Af5];by_cases h1:p.1=k
   · rw[Aa3 (by simpa using h1),ih,Ag4];by_cases h:j=k
     ·rw[Aa6 h,Aa6 h]
     ·have h3:¬ p.1=j:=fun z=>h (z.symm.trans h1);rw[Aa3 h,Aa3 h];simp only[h3,Ar2]
   · rw[Aa6 (by simpa using h1),Ag4,Ag4];by_cases h3:p.1=j
     ·have h2:¬ j=k:=fun z=>h1 (h3.trans z);simp only[h3,decide_true,Aa3 h2]
     ·simp only[h3,Ar2];exact ih
end
open PySem.Spec (countIn same sameAll)
theorem aK7{α:Type}{f:α→D}{g:α→PyData}(h:∀ a,toPy (f a)=some (g a)):∀ l:List α,toPys (l.map f)=some (l.map g)
 |[]=>rfl
 |a :: l=>by rw[Aa2,toPys,h a,aK7 h l]; rfl
theorem ax4{α:Type}{f:α→D}{g:α→PyData}(h:∀ a,toPy (f a)=some (g a))(l:List α):toPy (.lst (l.map f))=some (.list (l.map g)):=by
 rw[toPy,aK7 h]; rfl
theorem bh3{α:Type}{g:α→PyData}(h1:∀ a,(g a).canLay0=true)(h2:∀ a,(g a).depth≤60)(l:List α):SeqAt.shaped (.list (l.map g))=true:=by
 have c:∀ l:List α,PyData.canLayAll0 (l.map g)=true:=by
  intro l
  induction l with
  |nil=>simp[PyData.canLayAll0]
  |cons a l ih=>simp[PyData.canLayAll0,h1 a,ih]
 have d:∀ l:List α,PyData.depthAll (l.map g)≤60:=by
  intro l
  induction l with
  |nil=>simp[PyData.depthAll]
  |cons a l ih=>
    rw[Aa2,PyData.depthAll]
    have:=h2 a
    omega
 have e:PyData.depth (.list (l.map g))≤64:=by rw[PyData.depth]; have:=d l; omega
 unfold SeqAt.shaped;rw[Bool.and_eq_true];exact⟨by rw[PyData.canLay0]; exact c l,decide_eq_true e⟩
theorem aB5{α:Type}[DecidableEq α]{g:α→PyData}(h:∀ a b,same (g a) (g b)=decide (a=b))(a:α):∀ l:List α,(0≤countIn (g a) (l.map g))∧(countIn (g a) (l.map g)≠0↔a∈l)
 |[]=>by simp[countIn]
 | b :: l=>by
   obtain⟨i1,i2⟩:=aB5 h a l;rw[Aa2,countIn,h b a,List.mem_cons];by_cases e:b=a
   ·rw[Aa6 (by simpa using e)];exact⟨by omega,fun _=> .inl e.symm,fun _=>by omega⟩
   · rw[Aa3 (by simpa using e)];refine⟨by omega,fun z=> .inr (i2.mp (by omega)),fun z=>?_⟩;rcases z with z | z
     ·exact absurd z.symm e
     ·have:=i2.mpr z; omega
section
variable{α:Type}[DecidableEq α]{f:α→D}{g:α→PyData}
theorem cm2(h0:∀ a,toPy (f a)=some (g a))(h1:∀ a,(g a).canLay0=true)(h2:∀ a,(g a).depth≤60)(h3:∀ a b,same (g a) (g b)=decide (a=b))(h4:∀ a b,SeqAt.noMix (g a) (g b)=true)(a:α)(l:List α):
 inD (f a) (.lst (l.map f))= .ok (.bl (decide (a∈l)))∧ninD (f a) (.lst (l.map f))= .ok (.bl (!decide (a∈l))):=by
 have s1:SeqAt.shaped (g a)=true:=by
  unfold SeqAt.shaped;rw[h1 a,Bool.true_and];exact decide_eq_true (by have:=h2 a; omega)
 have s2:=bh3 h1 h2 l
 have s3:((l.map g).all fun z=>SeqAt.noMix z (g a))=true:=by
  rw[Au5,Ap4];exact fun b _=>h4 b a
 have s4:decide (countIn (g a) (l.map g)≠0)=decide (a∈l):=by
  have:=(aB5 h3 a l).2
  by_cases z:a∈l
  ·rw[Ag2 z,Ag2 (this.mpr z)]
  ·rw[Ad2 z,Ad2 (fun w=>z (this.mp w))]
 constructor
 ·unfold inD;rw[h0 a,ax4 h0 l];show(if _ then _ else _)=_;rw[if_pos ⟨s1,s2,s3⟩,s4]
 ·unfold ninD;rw[h0 a,ax4 h0 l];show(if _ then _ else _)=_;rw[if_pos ⟨s1,s2,s3⟩,s4]
end
end Mi
namespace Cl
open PySem L2 Mi
inductive OutC (σ α:Type) where
 |ok (a:α) (s:σ) | exc (c:Nat) (s:σ) | bad
inductive FlC (σ β:Type) where
 |nx (s:σ) | rt (b:β) (s:σ) | bk (s:σ) | ct (s:σ) | exc (c:Nat) (s:σ) | bad
def SimR{α γ:Type}(e:α→γ)(r:Res γ)(q:Res α):Prop:=match q with
 |.ok a=>r= .ok (e a)
 |.exc x=>r= .exc x
 |.bad=>True
section
variable{σ α β γ δ:Type}{rep:σ→Mi.Env}
def SimO(rep:σ→Mi.Env)(e:α→γ)(r:Out γ)(q:OutC σ α):Prop:=match q with
 |.ok a s=>r= .ok (e a) (rep s)
 |.exc x s=>r= .exc x (rep s)
 |.bad=>True
def SimS(rep:σ→Mi.Env)(e:β→D)(r:SO)(q:FlC σ β):Prop:=match q with
 |.nx s=>r= .nx (rep s)
 |.rt b s=>r= .rt (e b) (rep s)
 |.bk s=>r= .bk (rep s)
 |.ct s=>r= .ct (rep s)
 |.exc x s=>r= .exc x (rep s)
 |.bad=>True
def EJ(rep:σ→Mi.Env)(e:α→γ)(m:Mi.Env→Res γ)(c:σ→Res α):Prop:=∀ s,SimR e (m (rep s)) (c s)
def NJ(rep:σ→Mi.Env)(e:α→γ)(m:Mi.Env→Out γ)(c:σ→OutC σ α):Prop:=∀ s,SimO rep e (m (rep s)) (c s)
def TJ(rep:σ→Mi.Env)(e:β→D)(m:Mi.Env→SO)(c:σ→FlC σ β):Prop:=∀ s,SimS rep e (m (rep s)) (c s)
theorem SimR.bnd{e:α→γ}{e':β→δ}{r:Res γ}{q:Res α}{k:γ→Res δ}{l:α→Res β}(h:SimR e r q)(hk:∀ a,SimR e' (k (e a)) (l a)):SimR e' (r.bind k) (q.bind l):=by
 cases q with
 |ok a=>have h:r= .ok (e a):=h; rw[h]; exact hk a
 |exc x=>have h:r= .exc x:=h; rw[h]; exact rfl
 |bad=>trivial
theorem SimR.calm{e:α→γ}{r:Res γ}{q:Res α}(h:SimR e r q):SimR e r.calm q.calm:=by
 cases q with
 |ok a=>have h:r= .ok (e a):=h; rw[h]; exact rfl
 |exc x=>trivial
 |bad=>trivial
@[simp] def vC(g:σ→Option α):σ→Res α:=fun s=>match g s with | some a=> .ok a | none=> .bad
@[simp] def pC(g:σ→α):σ→Res α:=fun s=> .ok (g s)
@[simp] def kC(a:α):σ→Res α:=fun _=> .ok a
@[simp] def unC(f:α→Res β)(c:σ→Res α):σ→Res β:=fun s=>(c s).bind f
@[simp] def bnC(f:α→β→Res γ)(a:σ→Res α)(b:σ→Res β):σ→Res γ:=fun s=>(a s).bind fun x=>(b s).bind fun y=>f x y
theorem cH5{e:α→D}{i:Nat}{g:σ→Option α}(h:∀ s,rg (rep s) i=(g s).map e):EJ rep e (vr i) (vC g):=fun s=>by
 unfold vC vr;rw[h s];cases g s with
 |none=>trivial
 |some a=>exact rfl
theorem cH7{e:α→D}{i:Nat}{g:σ→α}(h:∀ s,rg (rep s) i=some (e (g s))):EJ rep e (vr i) (pC g):=fun s=>by
 unfold vr pC;rw[h s];exact rfl
theorem bT9{e:α→D}{d:D}{a:α}(h:e a=d):EJ rep e (cst d) (kC a):=fun s=>by subst h; exact rfl
theorem ad4{e:α→D}{e':β→D}{F:D→Res D}{f:α→Res β}{m:Mi.Env→Res D}{c:σ→Res α}(h:∀ a,SimR e' (F (e a)) (f a))(h1:EJ rep e m c):EJ rep e' (un F m) (unC f c):=fun s=>(h1 s).bnd h
theorem ab5{e:α→D}{e1:β→D}{e2:γ→D}{F:D→D→Res D}{f:α→β→Res γ}{m n:Mi.Env→Res D}{c:σ→Res α}{c':σ→Res β}(h:∀ a b,SimR e2 (F (e a) (e1 b)) (f a b))(h1:EJ rep e m c)(h2:EJ rep e1 n c'):EJ rep e2 (bn F m n) (bnC f c c'):=fun s=>(h1 s).bnd fun a=>(h2 s).bnd fun b=>h a b
theorem an2{e:α→D}{e':β→D}{m:Mi.Env→Res D}{c:σ→Res α}{f:α→Res β}(h:∀ a,SimR e' (.ok (e a)) (f a))(h1:EJ rep e m c):EJ rep e' m (unC f c):=fun s=>by
 have h1:=h1 s;unfold unC;cases q:c s with
 |ok a=>rw[q] at h1; have h1:m (rep s)= .ok (e a):=h1; rw[h1]; exact h a
 |exc x=>rw[q] at h1; exact h1
 |bad=>trivial
def eN:Unit→D:=fun _=> .non
def eL(e:α→D):List α→D:=fun xs=> .lst (xs.map e)
def eS:List Int→D:=fun xs=> .scr (xs.map D.int)
def eTs(e:α→D):List α→D:=fun xs=> .tup (xs.map e)
def eT2(e:α→D)(e':β→D):α×β→D:=fun p=> .tup [e p.1,e' p.2]
def eT3(e:α→D)(e':β→D)(e'':γ→D):α×β×γ→D:=fun p=> .tup [e p.1,e' p.2.1,e'' p.2.2]
def eO(e:α→D):Option α→D:=fun o=>match o with | none=> .non | some a=>e a
abbrev eK:Int×Int×List Int→D:=eT3 D.int D.int (eL D.int)
@[simp] def optC(o:Option α):Res α:=match o with | some a=> .ok a | none=> .bad
@[simp] def bG4(a:α):Res (Option α):= .ok (some a)
@[simp] def idC(a:α):Res α:= .ok a
theorem au6{e:α→D}(o:Option α):SimR e (.ok (eO e o)) (optC o):=by cases o <;> trivial
theorem bC8{e:α→D}(a:α):SimR (eO e) (.ok (e a)) (bG4 a):=rfl
theorem cH8{e:α→D}{F:(Mi.Env→Res D)→Mi.Env→Res D}{m:Mi.Env→Res D}{c:σ→Res α}(hF:∀ ρ a,m ρ= .ok (e a)→F m ρ= .ok (e a))(hx:∀ ρ x,m ρ= .exc x→F m ρ= .exc x)(h:EJ rep e m c):EJ rep e (F m) c:=fun s=>by
 have h:=h s;cases q:c s with
 |ok a=>rw[q] at h; exact hF _ _ h
 |exc x=>rw[q] at h; exact hx _ _ h
 |bad=>trivial
theorem as5{e:α→D}{m:Mi.Env→Res D}{c:σ→Res α}(hs:∀ a,ac3 (e a)=true)(h:EJ rep e m c):EJ rep e (sc1 m) c:=
 cH8 (F:=sc1) (fun ρ a q=>by unfold sc1; rw[q]; show(if _ then _ else _)=_; rw[if_pos (hs a)]) (fun ρ x q=>by unfold sc1; rw[q]; rfl) h
theorem bd8{e:α→D}{m:Mi.Env→Res D}{c:σ→Res α}(hs:∀ a,aS8 (e a)=true)(h:EJ rep e m c):EJ rep e (chkS m) c:=
 cH8 (F:=chkS) (fun ρ a q=>by unfold chkS; rw[q]; show(if _ then _ else _)=_; rw[if_pos (hs a)]) (fun ρ x q=>by unfold chkS; rw[q]; rfl) h
theorem bg1{e:α→D}(h:∀ a,ac3 (e a)=true)(xs:List α):(xs.map e).all ac3=true:=by
 rw[Au5,Ap4];exact fun a _=>h a
theorem bm8{e:α→D}(h:∀ a,ac3 (e a)=true)(xs:List α):aS8 (eL e xs)=true:=bg1 h xs
theorem ct3(xs:List Int):aS8 (eS xs)=true:=bg1 (fun _=>rfl) xs
theorem ct4{e:α→D}(h:∀ a,aS8 (e a)=true)(o:Option α):aS8 (eO e o)=true:=by
 cases o with
 |none=>rfl
 |some a=>exact h a
theorem bK9{e:α→D}(h:∀ a,ac3 (e a)=true)(o:Option α):ac3 (eO e o)=true:=by
 cases o with
 |none=>rfl
 |some a=>exact h a
@[simp] def addC(a b:Int):Res Int:= .ok (a + b)
@[simp] def mulC(a b:Int):Res Int:=if (-(2 ^ 64) < a∧a < 2 ^ 64)∨(-(2 ^ 64) < b∧b < 2 ^ 64) then .ok (a * b) else .bad
@[simp] def cm9(a b:Int):Res Int:=if 0 < b∧b < 1073741824 then .ok (a / b) else .bad
@[simp] def modC(a b:Int):Res Int:=if 0 < b then .ok (a % b) else .bad
@[simp] def powC(a b:Int):Res Int:=if 0≤b∧b≤1000000∧a.natAbs < 2 ^ 64 then .ok (a ^ b.toNat) else .bad
@[simp] def ltC(a b:Int):Res Bool:= .ok (decide (a < b))
@[simp] def gtC(a b:Int):Res Bool:= .ok (decide (b < a))
@[simp] def geC(a b:Int):Res Bool:= .ok (decide (b≤a))
@[simp] def negC(a:Int):Res Int:= .ok (-a)
@[simp] def notC(a:Bool):Res Bool:= .ok (!a)
@[simp] def eqC[DecidableEq α](neg:Bool)(a b:α):Res Bool:= .ok (neg.xor (decide (a=b)))
theorem at8(a b:Int):SimR D.int (addI (.int a) (.int b)) (addC a b):=rfl
theorem SimR.ite{e:α→γ}{p:Prop}[Decidable p]{r r':Res γ}{q q':Res α}(h:SimR e r q)(h':SimR e r' q'):SimR e (if p then r else r') (if p then q else q'):=by
 by_cases z:p
 ·rw[Aa6 z,Aa6 z]; exact h
 ·rw[Aa3 z,Aa3 z]; exact h'
theorem bI5(a b:Int):SimR D.int (mulI (.int a) (.int b)) (mulC a b):=by rw[bJ0]; exact SimR.ite rfl trivial
theorem bS4(a b:Int):SimR D.int (bj3 (.int a) (.int b)) (cm9 a b):=by rw[bv0]; exact SimR.ite rfl trivial
theorem aH3(a b:Int):SimR D.int (modI (.int a) (.int b)) (modC a b):=by rw[bJ2]; exact SimR.ite rfl trivial
theorem o_pow(a b:Int):SimR D.int (powI (.int a) (.int b)) (powC a b):=by rw[bH5]; exact SimR.ite rfl trivial
theorem o_lt(a b:Int):SimR D.bl (ltI (.int a) (.int b)) (ltC a b):=rfl
theorem o_gt(a b:Int):SimR D.bl (gtI (.int a) (.int b)) (gtC a b):=rfl
theorem o_ge(a b:Int):SimR D.bl (geI (.int a) (.int b)) (geC a b):=rfl
theorem cA5(a:Int):SimR D.int (negI (.int a)) (negC a):=rfl
theorem cA4(a:Bool):SimR D.bl (notB (.bl a)) (notC a):=rfl
theorem aM5(neg:Bool)(a b:Int):SimR D.bl (eqS neg (.int a) (.int b)) (eqC neg a b):=rfl
@[simp] def isnC(neg:Bool)(f:α→Bool)(a:α):Res Bool:= .ok (neg.xor (f a))
theorem bd7{e:α→D}{m:Mi.Env→Res D}{c:σ→Res α}{neg:Bool}{f:α→Bool}(h:∀ a,aU3 (e a)=f a)(h1:EJ rep e m c):EJ rep D.bl (bn (isNb neg) m (cst .non)) (unC (isnC neg f) c):=fun s=>(h1 s).bnd fun a=>by
 show isNb neg (e a) .non= .ok (.bl (neg.xor (f a)));rw[← h a];rfl
@[simp] def nonO(o:Option α):Bool:=o.isNone
theorem bK8{e:α→D}(h:∀ a,aU3 (e a)=false)(o:Option α):aU3 (eO e o)=nonO o:=by
 cases o with
 |none=>rfl
 |some a=>exact h a
theorem ae0{m:Mi.Env→Res D}{c:σ→Res Bool}(h:EJ rep D.bl m c):EJ rep (id:Bool→Bool) (tst m) c:=fun s=>by
 have h:=h s;cases q:c s with
 |ok a=>rw[q] at h; have h:m (rep s)= .ok (.bl a):=h; show tst m (rep s)= .ok a; unfold tst; rw[h]; rfl
 |exc x=>rw[q] at h; have h:m (rep s)= .exc x:=h; show tst m (rep s)= .exc x; unfold tst; rw[h]; rfl
 |bad=>trivial
@[simp] def andC(a b:σ→Res Bool):σ→Res Bool:=fun s=>(a s).bind fun c=>if c=true then b s else .ok false
@[simp] def orC(a b:σ→Res Bool):σ→Res Bool:=fun s=>(a s).bind fun c=>if c=true then .ok true else b s
theorem cn3{a b:Mi.Env→Res Bool}{c d:σ→Res Bool}(h1:EJ rep (id:Bool→Bool) a c)(h2:EJ rep (id:Bool→Bool) b d):EJ rep (id:Bool→Bool) (andT a b) (andC c d):=fun s=>(h1 s).bnd fun t=>SimR.ite (h2 s) rfl
theorem bv5{a b:Mi.Env→Res Bool}{c d:σ→Res Bool}(h1:EJ rep (id:Bool→Bool) a c)(h2:EJ rep (id:Bool→Bool) b d):EJ rep (id:Bool→Bool) (orT a b) (orC c d):=fun s=>(h1 s).bnd fun t=>SimR.ite rfl (h2 s)
theorem bv7{a b:Mi.Env→Res D}{c d:σ→Res Bool}(h1:EJ rep D.bl a c)(h2:EJ rep D.bl b d):EJ rep D.bl (andD a b) (andC c d):=fun s=>by
 have:=ae0 h1 s
 exact SimR.bnd (e:=(id:Bool→Bool)) this fun t=>SimR.ite (h2 s) rfl
structure Dat (e:α→D) [DecidableEq α] where
 py:α→PyData
 dep:Nat
 h0:∀ a,toPy (e a)=some (py a)
 lay:∀ a,(py a).canLay0=true
 depth:∀ a,(py a).depth≤dep
 eqv:∀ a b,PyData.eqv (py a) (py b)=decide (a=b)
 nomix:∀ a b,SeqAt.noMix (py a) (py b)=true
theorem Dat.same{e:α→D}[DecidableEq α](A:Dat e)(a b:α):PySem.Spec.same (A.py a) (A.py b)=decide (a=b):=by rw[← A.eqv,SeqAt.same_eq_eqv _ _ (A.nomix a b)]
theorem Dat.shp{e:α→D}[DecidableEq α](A:Dat e)(hd:A.dep≤64)(a:α):SeqAt.shaped (A.py a)=true:=by
 unfold SeqAt.shaped;rw[A.lay a,Bool.true_and];exact decide_eq_true (Nat.le_trans (A.depth a) hd)
theorem cB1{e:α→D}[DecidableEq α](A:Dat e)(hd:A.dep≤64)(neg:Bool)(a b:α):SimR D.bl (eqD neg (e a) (e b)) (eqC neg a b):=by
 show eqD neg (e a) (e b)= .ok (.bl (neg.xor (decide (a=b))));unfold eqD;rw[A.h0,A.h0];show(if _ then _ else _)=_;rw[if_pos ⟨A.shp hd a,A.shp hd b⟩,A.eqv]
@[simp] def inC[DecidableEq α](neg:Bool)(a:α)(l:List α):Res Bool:= .ok (neg.xor (decide (a∈l)))
theorem o_inD{e:α→D}[DecidableEq α](A:Dat e)(hd:A.dep≤60)(a:α)(l:List α):SimR D.bl (inD (e a) (eL e l)) (inC false a l):=by
 have:=(cm2 A.h0 A.lay (fun a=>Ae3 (A.depth a) hd) A.same A.nomix a l).1
 show inD (e a) (.lst (l.map e))= .ok (.bl (false.xor (decide (a∈l))));rw[this,Bool.false_xor]
def cn9:Dat D.int:=⟨PyData.int,1,fun _=>rfl,fun a=>by simp[PyData.canLay0],fun a=>by simp[PyData.depth],fun a b=>by simp only[PyData.eqv]; exact Am3 _ _,fun a b=>by simp[SeqAt.noMix]⟩
theorem aF4{g:α→PyData}[DecidableEq α](h:∀ a b,PyData.eqv (g a) (g b)=decide (a=b)):∀ t u:List α,PyData.eqvAll (t.map g) (u.map g)=decide (t=u)
 |[],[]=>by simp[PyData.eqvAll]
 |[],_ :: _=>by simp[PyData.eqvAll]
 |_ :: _,[]=>by simp[PyData.eqvAll]
 | r :: t,q :: u=>by
   rw[Aa2,Aa2,PyData.eqvAll,h,aF4 h t u];by_cases h1:r=q <;> by_cases h2:t=u <;> simp[h1,h2]
end
section
variable{σ α β γ δ:Type}{rep:σ→Mi.Env}
theorem av0{g:α→PyData}(h:∀ a b,SeqAt.noMix (g a) (g b)=true):∀ t u:List α,SeqAt.noMixAll (t.map g) (u.map g)=true
 |[],[]=>by simp[SeqAt.noMixAll]
 |[],_ :: _=>by simp[SeqAt.noMixAll]
 |_ :: _,[]=>by simp[SeqAt.noMixAll]
 |r :: t,q :: u=>by rw[Aa2,Aa2,SeqAt.noMixAll,h,av0 h t u]; rfl
theorem aF0{g:α→PyData}(h:∀ a,(g a).canLay0=true):∀ l:List α,PyData.canLayAll0 (l.map g)=true
 |[]=>by simp[PyData.canLayAll0]
 |a :: l=>by simp[PyData.canLayAll0,h a,aF0 h l]
theorem av5{g:α→PyData}{n:Nat}(h:∀ a,(g a).depth≤n):∀ l:List α,PyData.depthAll (l.map g)≤n
 |[]=>by simp[PyData.depthAll]
 |a :: l=>by rw[Aa2,PyData.depthAll]; have:=h a; have:=av5 h l; omega
def cn8{e:α→D}[DecidableEq α](A:Dat e):Dat (eL e):=⟨fun l=> .list (l.map A.py),A.dep + 1,fun l=>ax4 A.h0 l,fun l=>by rw[PyData.canLay0]; exact aF0 A.lay l,fun l=>by rw[PyData.depth]; have:=av5 A.depth l; omega,fun a b=>by rw[PyData.eqv]; exact aF4 A.eqv a b,fun a b=>by rw[SeqAt.noMix]; exact av0 A.nomix a b⟩
theorem ax0{d:PyData}(h:d≠ .none):PyData.eqv .none d=false∧PyData.eqv d .none=false∧SeqAt.noMix .none d=true∧SeqAt.noMix d .none=true:=by
 cases d with
 |none=>exact absurd rfl h
 |_=>simp[PyData.eqv,SeqAt.noMix]
def cI3{e:α→D}[DecidableEq α](A:Dat e)(F:∀ a,A.py a≠ .none):Dat (eO e):=⟨fun o=>match o with | none=> .none | some a=>A.py a,A.dep + 1,fun o=>by
 cases o with
 |none=>rfl
 |some a=>exact A.h0 a,fun o=>by
 cases o with
 |none=>simp[PyData.canLay0]
 |some a=>exact A.lay a,fun o=>by
 cases o with
 |none=>simp[PyData.depth]
 |some a=>exact Nat.le_succ_of_le (A.depth a),fun a b=>by
 cases a with
 |none=>
   cases b with
   |none=>simp[PyData.eqv]
   |some b=>exact(ax0 (F b)).1.trans (by simp)
 |some a=>
   cases b with
   |none=>exact(ax0 (F a)).2.1.trans (by simp)
   |some b=>exact(A.eqv a b).trans (by simp),fun a b=>by
 cases a with
 |none=>
   cases b with
   |none=>simp[SeqAt.noMix]
   |some b=>exact(ax0 (F b)).2.2.1
 |some a=>
   cases b with
   |none=>exact(ax0 (F a)).2.2.2
   |some b=>exact A.nomix a b⟩
theorem be3{e:α→D}[DecidableEq α](A:Dat e)(a:List α):(cn8 A).py a≠ .none:=fun h=>PyData.noConfusion (show PyData.list (a.map A.py)= .none from h)
@[simp] def ch4(_:Unit):Res (Option α):= .ok none
theorem bC9{e:α→D}(u:Unit):SimR (eO e) (.ok (eN u)) (ch4 u):=rfl
@[simp] def cbC(b:Bool)(_:α):Res Bool:= .ok b
theorem bT8{e:α→D}{n:String}{b:Bool}{m:Mi.Env→Res D}{c:σ→Res α}(h:∀ a,isT (e a) (.ty n)= .ok (.bl b))(h1:EJ rep e m c):EJ rep D.bl (bn isT m (cst (.ty n))) (unC (cbC b) c):=fun s=>(h1 s).bnd fun a=>h a
@[simp] def nilC:σ→Res (List α):=fun _=> .ok []
@[simp] def au5(a:σ→Res α)(r:σ→Res (List α)):σ→Res (List α):=fun s=>(a s).bind fun x=>(r s).bind fun xs=> .ok (x :: xs)
theorem av3{e:α→D}:EJ rep (List.map e) esN (nilC:σ→Res (List α)):=fun s=>rfl
theorem ah6{e:α→D}{m:Mi.Env→Res D}{n:Mi.Env→Res (List D)}{c:σ→Res α}{d:σ→Res (List α)}(h1:EJ rep e m c)(h2:EJ rep (List.map e) n d):EJ rep (List.map e) (esC m n) (au5 c d):=fun s=>(h1 s).bnd fun a=>(h2 s).bnd fun b=>rfl
@[simp] def mkC(c:σ→Res (List α)):σ→Res (List α):=fun s=>(c s).bind fun xs=>if xs.length≤aa6 then .ok xs else .bad
theorem av4{e:α→D}{m:Mi.Env→Res (List D)}{c:σ→Res (List α)}(h:EJ rep (List.map e) m c):EJ rep (eL e) (mkL m) (mkC c):=fun s=>(h s).bnd fun xs=>by rw[Aa7]; exact SimR.ite rfl trivial
@[simp] def prC(a:σ→Res α)(b:σ→Res β):σ→Res (α×β):=fun s=>(a s).bind fun x=>(b s).bind fun y=> .ok (x,y)
theorem ah5{e:α→D}{e':β→D}{m n:Mi.Env→Res D}{c:σ→Res α}{d:σ→Res β}(h1:EJ rep e m c)(h2:EJ rep e' n d):EJ rep (eT2 e e') (mkT (esC m (esC n esN))) (prC c d):=fun s=>by
 have h1:=h1 s;have h2:=h2 s;unfold prC;cases q1:c s with
 |bad=>trivial
 |exc x=>rw[q1] at h1; have h1:m (rep s)= .exc x:=h1; show mkT _ (rep s)= .exc x; simp only[mkT,esC,h1,Res.bind]
 |ok a=>
   rw[q1] at h1; have h1:m (rep s)= .ok (e a):=h1;cases q2:d s with
   |bad=>trivial
   |exc x=>rw[q2] at h2; have h2:n (rep s)= .exc x:=h2; show mkT _ (rep s)= .exc x; simp only[mkT,esC,h1,h2,Res.bind]
   |ok b=>rw[q2] at h2; have h2:n (rep s)= .ok (e' b):=h2; show mkT _ (rep s)= .ok (eT2 e e' (a,b)); simp only[mkT,esC,esN,h1,h2,Res.bind,Ab2,Am8]; rw[Aa6 (by decide)]; rfl
theorem bv6{e:α→D}{e':β→D}{e'':γ→D}{m n o:Mi.Env→Res D}{c:σ→Res α}{d:σ→Res β}{f:σ→Res γ}(h1:EJ rep e m c)(h2:EJ rep e' n d)(h3:EJ rep e'' o f):EJ rep (eT3 e e' e'') (mkT (esC m (esC n (esC o esN)))) (prC c (prC d f)):=fun s=>by
 have h1:=h1 s;have h2:=h2 s;have h3:=h3 s;simp only[prC];cases q1:c s with
 |bad=>trivial
 |exc x=>rw[q1] at h1; have h1:m (rep s)= .exc x:=h1; show mkT _ (rep s)= .exc x; simp only[mkT,esC,h1,Res.bind]
 |ok a=>
   rw[q1] at h1; have h1:m (rep s)= .ok (e a):=h1;cases q2:d s with
   |bad=>trivial
   |exc x=>rw[q2] at h2; have h2:n (rep s)= .exc x:=h2; show mkT _ (rep s)= .exc x; simp only[mkT,esC,h1,h2,Res.bind]
   |ok b=>
     rw[q2] at h2; have h2:n (rep s)= .ok (e' b):=h2;cases q3:f s with
     |bad=>trivial
     |exc x=>rw[q3] at h3; have h3:o (rep s)= .exc x:=h3; show mkT _ (rep s)= .exc x; simp only[mkT,esC,h1,h2,h3,Res.bind]
     |ok z=>rw[q3] at h3; have h3:o (rep s)= .ok (e'' z):=h3; show mkT _ (rep s)= .ok (eT3 e e' e'' (a,b,z)); simp only[mkT,esC,esN,h1,h2,h3,Res.bind,Ab2,Am8]; rw[Aa6 (by decide)]; rfl
@[simp] def lenC(xs:List α):Res Int:= .ok xs.length
theorem ap1{e:α→D}(xs:List α):SimR D.int (lenD (eL e xs)) (lenC xs):=by show Res.ok (D.int _)=Res.ok (D.int _); rw[Aa7]
theorem cB0(xs:List Int):SimR D.int (lenD (eS xs)) (lenC xs):=by show Res.ok (D.int _)=Res.ok (D.int _); rw[Aa7]
theorem cr0{e:α→γ}(xs:List α)(i:Int):atI (xs.map e) i=(atI xs i).map e:=by
 unfold atI;rw[List.length_map];cases ixN xs.length i with
 |none=>rfl
 |some j=>simp only[Option.bind_some,Ac7]
@[simp] def ixC(xs:List α)(i:Int):Res α:=match atI xs i with | some a=> .ok a | none=> .bad
theorem bC5{e:α→D}(xs:List α)(i:Int):SimR e (atD (xs.map e) i) (ixC xs i):=by
 unfold atD ixC;rw[cr0];cases atI xs i <;> trivial
theorem aw1{e:α→D}(xs:List α)(i:Int):SimR e (ixL (eL e xs) (.int i)) (ixC xs i):=bC5 xs i
theorem o_ixS(xs:List Int)(i:Int):SimR D.int (ixL (eS xs) (.int i)) (ixC xs i):=bC5 xs i
theorem bb8{e:α→D}(xs:List α)(i:Int):SimR e (ixT (eTs e xs) (.int i)) (ixC xs i):=bC5 xs i
@[simp] def fstC(p:α×β):Res α:= .ok p.1
@[simp] def cF1(p:α×β×γ):Res β:= .ok p.2.1
@[simp] def thrC(p:α×β×γ):Res γ:= .ok p.2.2
theorem bL9{e:α→D}{e':β→D}{F:D→D→Res D}{f:α→Res β}{k:D}{m:Mi.Env→Res D}{c:σ→Res α}(h:∀ a,SimR e' (F (e a) k) (f a))(h1:EJ rep e m c):EJ rep e' (bn F m (cst k)) (unC f c):=fun s=>(h1 s).bnd fun a=>h a
theorem o_q0{e:α→D}{e':β→D}{e'':γ→D}(p:α×β×γ):SimR e (ixT (eT3 e e' e'' p) (.int 0)) (fstC p):=rfl
theorem o_q1{e:α→D}{e':β→D}{e'':γ→D}(p:α×β×γ):SimR e' (ixT (eT3 e e' e'' p) (.int 1)) (cF1 p):=rfl
theorem o_q2{e:α→D}{e':β→D}{e'':γ→D}(p:α×β×γ):SimR e'' (ixT (eT3 e e' e'' p) (.int 2)) (thrC p):=rfl
@[simp] def catC(xs ys:List α):Res (List α):=if xs.length + ys.length≤aa6 then .ok (xs ++ ys) else .bad
theorem o_cat{e:α→D}(xs ys:List α):SimR (eL e) (catL (eL e xs) (eL e ys)) (catC xs ys):=by
 show SimR (eL e) (if (xs.map e).length + (ys.map e).length≤aa6 then .ok (.lst (xs.map e ++ ys.map e)) else .bad) (catC xs ys);rw[Aa7,Aa7];exact SimR.ite (by show Res.ok (D.lst _)=Res.ok (D.lst _); rw[Ad3]) trivial
theorem cA8{e:α→D}(xs:List α):SimR (eL e) (bc6 (eL e xs)) (idC xs):=rfl
theorem cA3{e:α→D}(xs:List α):SimR (eTs e) (tupL (eL e xs)) (idC xs):=rfl
noncomputable def repC(xs:List α)(k:Int):Res (List α):=@ite _ ((0≤k∧k≤1000000)∧xs.length * k.toNat≤aa6) (Classical.propDecidable _) (.ok (List.replicate k.toNat xs).flatten) .bad
theorem bQ3{xs:List α}{k:Int}(h0:0≤k)(h1:k≤1000000)(h2:xs.length * k.toNat≤aa6):repC xs k= .ok (List.replicate k.toNat xs).flatten:=by unfold repC; rw[if_pos ⟨⟨h0,h1⟩,h2⟩]
theorem bs3{e:α→γ}(xs:List α):∀ k:Nat,(List.replicate k (xs.map e)).flatten=((List.replicate k xs).flatten).map e
 |0=>rfl
 |k + 1=>by rw[Ad6,Ad6,Ae8,Ae8,Ad3,bs3 xs k]
theorem o_rep{e:α→D}(xs:List α)(k:Int):SimR (eL e) (repL (eL e xs) (.int k)) (repC xs k):=by
 show SimR _ (if (0≤k∧k≤1000000)∧(xs.map e).length * k.toNat≤aa6 then Res.ok (D.lst (List.replicate k.toNat (xs.map e)).flatten) else Res.bad) _;rw[Aa7,bs3];by_cases h:(0≤k∧k≤1000000)∧xs.length * k.toNat≤aa6
 ·rw[Aa6 h,bQ3 h.1.1 h.1.2 h.2]; rfl
 ·unfold repC; rw[if_neg h,if_neg h]; trivial
@[simp] def ap8(p:α×α):Res (List α):= .ok [p.1,p.2]
theorem ah8{e:α→D}(p:α×α):SimR (eTs e) (.ok (eT2 e e p)) (ap8 p):=rfl
@[simp] def dinC(neg:Bool)(k:List Int)(F:DI β):Res Bool:= .ok (neg.xor (F.get k).isSome)
@[simp] def dgC(F:DI β)(k:List Int):Res β:=match F.get k with | some b=> .ok b | none=> .bad
@[simp] def dg2C(F:DI β)(k:List Int)(x:β):Res β:= .ok ((F.get k).getD x)
@[simp] def dg1C(F:DI β)(k:List Int):Res (Option β):= .ok (F.get k)
theorem bI7{e:β→D}(neg:Bool)(k:List Int)(F:DI β):SimR D.bl (dinD neg (eTs D.int k) (encD e F)) (dinC neg k F):=by
 show dinD neg (.tup (k.map D.int)) (encD e F)= .ok (.bl (neg.xor (F.get k).isSome));unfold dinD;rw[an1];simp
theorem cB2{e:β→D}(F:DI β)(k:List Int):SimR e (bj5 (encD e F) (eTs D.int k)) (dgC F k):=by
 show SimR e (bj5 (encD e F) (.tup (k.map D.int))) _;unfold bj5 dgC;rw[an1];cases F.get k <;> trivial
@[simp] def cH2(cd:σ→Res (DI β))(ck:σ→Res (List Int))(cx:σ→Res β):σ→Res β:=fun s=>(cd s).bind fun F=>(ck s).bind fun k=>(cx s).bind fun x=>dg2C F k x
theorem cn1{e:β→D}{md mk mx:Mi.Env→Res D}{cd:σ→Res (DI β)}{ck:σ→Res (List Int)}{cx:σ→Res β}(h1:EJ rep (encD e) md cd)(h2:EJ rep (eTs D.int) mk ck)(h3:EJ rep e mx cx):
 EJ rep e (cm7 md mk mx) (cH2 cd ck cx):=fun s=>(h1 s).bnd fun F=>by
 show SimR e (if true=true then _ else _) _;rw[if_pos rfl];refine(h2 s).bnd fun k=>(h3 s).bnd fun x=>?_;show ap3 (encD e F) (.tup (k.map D.int)) (e x)= .ok (e ((F.get k).getD x));unfold ap3;rw[an1];cases F.get k <;> rfl
theorem cn2{e:β→D}{md mk:Mi.Env→Res D}{cd:σ→Res (DI β)}{ck:σ→Res (List Int)}(h1:EJ rep (encD e) md cd)(h2:EJ rep (eTs D.int) mk ck):EJ rep (eO e) (bu8 md mk) (bnC dg1C cd ck):=fun s=>(h1 s).bnd fun F=>by
 show SimR (eO e) (if true=true then _ else _) _;rw[if_pos rfl];refine(h2 s).bnd fun k=>?_;show ap3 (encD e F) (.tup (k.map D.int)) .non= .ok (eO e (F.get k));unfold ap3;rw[an1];cases F.get k <;> rfl
@[simp] def cl8(F:DI β):Res (List (List Int)):= .ok (F.map (·.1))
@[simp] def bT3(xs:List Int)(d:Int):Res Int:= .ok (match xs with | []=>d | x :: r=>ag7 r x)
@[simp] def cE2(xs:List Int)(d:Int):Res Int:= .ok (match xs with | []=>d | x :: r=>am8 r x)
theorem ai2:∀ l:List Int,af2 (l.map D.int)=some l
 |[]=>rfl
 |x :: l=>by rw[Aa2,af2,ai2 l]; rfl
theorem ch2(xs:List Int)(d:Int):SimR D.int (extD ag7 (eL D.int xs) (.int d)) (bT3 xs d):=by
 show extD ag7 (.lst (xs.map D.int)) (.int d)=_;unfold extD;dsimp only;rw[ai2];cases xs <;> rfl
theorem cA6(xs:List Int)(d:Int):SimR D.int (extD am8 (eL D.int xs) (.int d)) (cE2 xs d):=by
 show extD am8 (.lst (xs.map D.int)) (.int d)=_;unfold extD;dsimp only;rw[ai2];cases xs <;> rfl
@[simp] def aU0(xs:List Int):Res Int:=if xs.length < 4000 then .ok (dd xs).length else .bad
theorem bI6(xs:List Int):SimR D.int (aN3 (eL D.int xs)) (aU0 xs):=by
 show SimR D.int (aN3 (.lst (xs.map D.int))) _;unfold aN3 aU0;dsimp only;rw[ai2];exact SimR.ite rfl trivial
theorem aB9:∀ l:List Bool,aq8 (l.map D.bl)=some l
 |[]=>rfl
 |x :: l=>by rw[Aa2,aq8,aB9 l]; rfl
@[simp] def anyC(xs:List Bool):Res Bool:= .ok (xs.any id)
theorem o_any(xs:List Bool):SimR D.bl (anyD (eL D.bl xs)) (anyC xs):=by
 show anyD (.lst (xs.map D.bl))=_;unfold anyD;dsimp only;rw[aB9]
theorem bK7(k:Int×Int×List Int):keyP (eK k)=some k:=by
 show(af2 (k.2.2.map D.int)).map (fun ns=>(k.1,k.2.1,ns))=some k;rw[ai2];rfl
theorem aN5:∀ l:List (Int×Int×List Int),au1 (l.map eK)=some l
 |[]=>rfl
 |k :: l=>by rw[Aa2,au1,bK7,aN5 l]
def minK:List (Int×Int×List Int)→Option (Int×Int×List Int)
 |[]=>none
 |k :: r=>some (r.foldl (fun b x=>if ag8 x b=true then x else b) k)
theorem aC1(bt:Nat→Nat→Bool)(n:Nat):PySem.argBest bt (n + 1)=if bt (n + 1) (PySem.argBest bt n)=true then n + 1 else PySem.argBest bt n:=rfl
theorem aQ7:∀ (n:Nat) (k:Int×Int×List Int) (r:List (Int×Int×List Int)),r.length=n→
 (k :: r)[PySem.argBest (fun i j=>ag8 ((k :: r).getD i (0,0,[])) ((k :: r).getD j (0,0,[]))) n]?=minK (k :: r):=by
 intro n
 induction n with
 |zero=>
   intro k r h
   have:r=[]:=List.length_eq_zero_iff.mp h
   subst this;rfl
 |succ n ih=>
   intro k r h
   obtain⟨q,x,rfl⟩:∃ q x,r=q ++ [x]:=by
    rcases List.eq_nil_or_concat r with z | ⟨q,x,z⟩
    ·subst z; cases h
    ·exact⟨q,x,by rw[z,List.concat_eq_append]⟩
   have hq:q.length=n:=by simpa using h
   have ihq:=ih k q hq
   have gl:∀ i,i≤n→(k :: (q ++ [x])).getD i (0,0,[])=(k :: q).getD i (0,0,[]):=fun i hi=>by
    rw[← Aj3,Ab0,Ab0,Ag3 (by simp; omega)]
   have ab:∀ m,m≤n→PySem.argBest (fun i j=>ag8 ((k :: (q ++ [x])).getD i (0,0,[])) ((k :: (q ++ [x])).getD j (0,0,[]))) m=PySem.argBest (fun i j=>ag8 ((k :: q).getD i (0,0,[])) ((k :: q).getD j (0,0,[]))) m:=by
    intro m
    induction m with
    |zero=>intro _; rfl
    |succ m ihm=>
      intro hm;rw[aC1,aC1,ihm (by omega)];have hl:=au7 (fun i j=>ag8 ((k :: q).getD i (0,0,[])) ((k :: q).getD j (0,0,[]))) m;rw[gl (m + 1) hm,gl _ (by omega)]
   rw[aC1,ab n (Ab7 _)];have hl:=au7 (fun i j=>ag8 ((k :: q).getD i (0,0,[])) ((k :: q).getD j (0,0,[]))) n;generalize PySem.argBest (fun i j=>ag8 ((k :: q).getD i (0,0,[])) ((k :: q).getD j (0,0,[]))) n=b at ihq hl
   have e1:(k :: (q ++ [x])).getD (n + 1) (0,0,[])=x:=by
    rw[Ah4,Ab0,Af8 (by omega),hq,Ar3]; rfl
   rw[e1,gl b hl]
   have e2:minK (k :: q)=some ((k :: q).getD b (0,0,[])):=by
    rw[← ihq,Ab0,Ab6 (by simp; omega)]; rfl
   unfold minK at e2 ⊢;dsimp only at e2 ⊢;injection e2 with e2
   rw[List.foldl_append,Ak0,List.foldl_nil,e2];by_cases z:ag8 x ((k :: q).getD b (0,0,[]))=true
   ·rw[Aa6 z,Aa6 z,Aj0,Af8 (by omega),hq,Ar3]; rfl
   ·rw[Aa3 z,Aa3 z,← Aj3,Ag3 (by simp; omega),Ab6 (by simp; omega),Ab0,Ab6 (by simp; omega)]; rfl
@[simp] def cF0(xs:List (Int×Int×List Int)):Res (Option (Int×Int×List Int)):= .ok (minK xs)
theorem cA7(xs:List (Int×Int×List Int)):SimR (eO eK) (br2 (eL eK xs) .non) (cF0 xs):=by
 cases xs with
 |nil=>rfl
 |cons k r=>
   have hk:au1 (eK k :: r.map eK)=some (k :: r):=aN5 (k :: r);show br2 (.lst (eK k :: r.map eK)) .non= .ok (eO eK (minK (k :: r)));simp only[br2,hk];rw[Aa7,show eK k :: r.map eK=(k :: r).map eK from rfl,Ac7,aQ7 _ k r rfl];rfl
end
section
variable{σ σ' α β γ δ:Type}{rep:σ→Mi.Env}{rep':σ'→Mi.Env}
def repI(rep:σ→Mi.Env)(e:α→D)(ix:List Nat):α×σ→Mi.Env:=fun p=>some (e p.1) :: capD (rep p.2) ix
def an4(ti:α→Res Bool)(te:α→Res β):List α→Res (List β)
 |[]=> .ok []
 |a :: r=>(ti a).calm.bind fun c=>if c=true then (te a).calm.bind fun x=>(an4 ti te r).bind fun xs=> .ok (x :: xs) else an4 ti te r
def aB7(src:σ→Res (List α))(ti:α×σ→Res Bool)(te:α×σ→Res β):σ→Res (List β):=fun s=>(src s).bind fun xs=>if xs.length < aa6 then an4 (fun a=>ti (a,s)) (fun a=>te (a,s)) xs else .bad
theorem aI8{e:α→D}{e':β→D}{ix:List Nat}{src:Mi.Env→Res (List D)}{ti:Mi.Env→Res Bool}{te:Mi.Env→Res D}{csrc:σ→Res (List α)}{cti:α×σ→Res Bool}{cte:α×σ→Res β}
 (hs:EJ rep (List.map e) src csrc) (ht:EJ (repI rep e ix) (id:Bool→Bool) ti cti) (he:EJ (repI rep e ix) e' te cte):EJ rep (eL e') (comp src ix ti te) (aB7 csrc cti cte):=fun s=>(hs s).bnd fun xs=>by
 rw[Aa7];refine SimR.ite ?_ trivial
 have key:∀ l:List α,SimR (List.map e') (ad2 ti te (capD (rep s) ix) (l.map e)) (an4 (fun a=>cti (a,s)) (fun a=>cte (a,s)) l):=by
  intro l
  induction l with
  |nil=>rfl
  |cons a l ih=>
    rw[List.map_cons];unfold ad2 an4;refine SimR.bnd (ht (a,s)).calm fun t=>SimR.ite (SimR.bnd (he (a,s)).calm fun x=>SimR.bnd ih fun xs=>?_) ih;rfl
 have:=key xs
 cases q:an4 (fun a=>cti (a,s)) (fun a=>cte (a,s)) xs with
 |ok ys=>rw[q] at this; have this:ad2 ti te (capD (rep s) ix) (xs.map e)= .ok (ys.map e'):=this; rw[this]; rfl
 |exc x=>rw[q] at this; have this:ad2 ti te (capD (rep s) ix) (xs.map e)= .exc x:=this; rw[this]; rfl
 |bad=>trivial
theorem bv3:EJ rep (id:Bool→Bool) (fun _=> .ok true) (fun _=> .ok true):=fun s=>rfl
theorem aV1{e:α→D}{m:Mi.Env→Res D}{c:σ→Res (List α)}(h:EJ rep (eL e) m c):EJ rep (List.map e) (srcL m) c:=fun s=>by
 have h:=h s;cases q:c s with
 |ok a=>rw[q] at h; have h:m (rep s)= .ok (eL e a):=h; show srcL m (rep s)= .ok (a.map e); unfold srcL; rw[h]; rfl
 |exc x=>rw[q] at h; have h:m (rep s)= .exc x:=h; show srcL m (rep s)= .exc x; unfold srcL; rw[h]; rfl
 |bad=>trivial
def rngI(lo hi:Int):List Int:=(List.range (hi - lo).toNat).map fun i:Nat=>lo + i
noncomputable def rngC(lo hi:Int):Res (List Int):=@ite _ (-(2 ^ 62)≤lo∧lo < 2 ^ 62∧-(2 ^ 62)≤hi∧hi < 2 ^ 62) (Classical.propDecidable _) (.ok (rngI lo hi)) .bad
theorem cf3(lo hi:Int):(rngI lo hi).map D.int=rng lo hi:=by unfold rngI rng; rw[List.map_map]; rfl
theorem ay0{lo hi:Int}(h1:-(2 ^ 62)≤lo)(h2:lo < 2 ^ 62)(h3:-(2 ^ 62)≤hi)(h4:hi < 2 ^ 62):rngC lo hi= .ok (rngI lo hi):=by unfold rngC; rw[if_pos ⟨h1,h2,h3,h4⟩]
theorem bT5{a b:Mi.Env→Res D}{ca cb:σ→Res Int}(h1:EJ rep D.int a ca)(h2:EJ rep D.int b cb):EJ rep (List.map D.int) (srcR a b) (bnC rngC ca cb):=fun s=>(h1 s).bnd fun i=>(h2 s).bnd fun j=>by
 show SimR _ (if -(2 ^ 62)≤i∧i < 2 ^ 62∧-(2 ^ 62)≤j∧j < 2 ^ 62 then _ else _) _;by_cases h:-(2 ^ 62)≤i∧i < 2 ^ 62∧-(2 ^ 62)≤j∧j < 2 ^ 62
 ·rw[Aa6 h,ay0 h.1 h.2.1 h.2.2.1 h.2.2.2]; exact congrArg Res.ok (cf3 i j).symm
 ·unfold rngC; rw[if_neg h,if_neg h]; trivial
theorem aV2{b:Mi.Env→Res D}{cb:σ→Res Int}(h2:EJ rep D.int b cb):EJ rep (List.map D.int) (ax5 b) (unC (rngC 0) cb):=fun s=>bT5 (bT9 (a:=(0:Int)) rfl) h2 s
def OutC.res:OutC σ α→Res α
 |.ok a _=> .ok a
 |.exc x _=> .exc x
 |.bad=> .bad
@[simp] theorem cv7(a:α)(s:σ):(OutC.ok a s).res= .ok a:=rfl
@[simp] theorem res_exc(x:Nat)(s:σ):(OutC.exc x s:OutC σ α).res= .exc x:=rfl
@[simp] theorem res_bad:(OutC.bad:OutC σ α).res= .bad:=rfl
@[simp] def bndO(r:Res α)(s:σ)(k:α→OutC σ β):OutC σ β:=match r with
 |.ok a=>k a
 |.exc x=> .exc x s
 |.bad=> .bad
theorem SimO.res{e:α→D}{fm:List D→Out D}{ds:List D}{q:OutC σ α}(h:SimO rep e (fm ds) q):SimR e (an5 fm ds) q.res:=by
 unfold an5;cases q with
 |ok a s=>have h:fm ds= .ok (e a) (rep s):=h; rw[h]; rfl
 |exc x s=>have h:fm ds= .exc x (rep s):=h; rw[h]; rfl
 |bad=>trivial
@[simp] def wbC(w:σ'→σ→σ)(s:σ):OutC σ' α→OutC σ α
 |.ok a s'=> .ok a (w s' s)
 |.exc x s'=> .exc x (w s' s)
 |.bad=> .bad
theorem SimO.wb{plan:List Ap}{fm:List D→Out D}{ds:List D}{e:α→D}{q:OutC σ' α}{w:σ'→σ→σ}(hw:∀ s' s,wbGo plan 0 (rep' s') (rep s)=rep (w s' s))(h:SimO rep' e (fm ds) q)(s:σ):SimO rep e (aj7 plan fm ds (rep s)) (wbC w s q):=by
 unfold aj7;cases q with
 |ok a s'=>have h:fm ds= .ok (e a) (rep' s'):=h; rw[h]; show Out.ok _ _=Out.ok _ _; rw[hw]
 |exc x s'=>have h:fm ds= .exc x (rep' s'):=h; rw[h]; show Out.exc _ _=Out.exc _ _; rw[hw]
 |bad=>trivial
@[simp] def pc1C{α0:Type}(f:α0→OutC σ' γ)(c0:σ→Res α0):σ→Res γ:=fun s=>(c0 s).bind fun x0=>(f x0).res
@[simp] def mc1C{α0:Type}(f:α0→OutC σ' γ)(w:σ'→σ→σ)(c0:σ→Res α0):σ→OutC σ γ:=fun s=>bndO (c0 s) s fun x0=>wbC w s (f x0)
@[simp] def pk1C{α0:Type}(f:α0→Res γ)(c0:σ→Res α0):σ→Res γ:=fun s=>(c0 s).bind fun x0=>f x0
theorem row1{α0:Type}{e0:α0→D}{m0:Mi.Env→Res D}{c0:σ→Res α0}{eR:γ→δ}{k:List D→Res δ}{f:α0→Res γ}(hf:∀ x0,SimR eR (k [e0 x0]) (f x0))(h0:EJ rep e0 m0 c0):EJ rep eR (fun ρ=>((esC m0 esN) ρ).bind k) (pk1C f c0):=fun s=>by
 have g0:=h0 s;unfold pk1C;cases q0:c0 s with
 |bad=>trivial
 |exc x=>rw[q0] at g0; have g0:m0 (rep s)= .exc x:=g0; show(_:Res _)= .exc x; simp only[esC,g0,Res.bind]
 |ok x0=>
   rw[q0] at g0; have g0:m0 (rep s)= .ok (e0 x0):=g0;have z:=hf x0;simp only[esC,esN,g0,Res.bind];exact z
theorem bT7{α0:Type}{e0:α0→D}{m0:Mi.Env→Res D}{c0:σ→Res α0}{eR:γ→D}{fm:List D→Out D}{f:α0→OutC σ' γ}(hf:∀ x0,SimO rep' eR (fm [e0 x0]) (f x0))(h0:EJ rep e0 m0 c0):EJ rep eR (pc fm (esC m0 esN)) (pc1C f c0):=row1 (k:=an5 fm) (f:=fun x0=>(f x0).res) (fun x0=>(hf x0).res) h0
theorem bv4{α0:Type}{e0:α0→D}{m0:Mi.Env→Res D}{c0:σ→Res α0}{eR:γ→D}{c:Nat}{fm:List D→Out D}{f:α0→Res γ}(hf:∀ x0,SimR eR (au0 c fm [e0 x0]) (f x0))(h0:EJ rep e0 m0 c0):EJ rep eR (pk c fm (esC m0 esN)) (pk1C f c0):=row1 hf h0
theorem bd6{α0:Type}{e0:α0→D}{m0:Mi.Env→Res D}{c0:σ→Res α0}{eR:γ→D}{c:Nat}{mn:Str}{fm:List D→Out D}{f:α0→OutC σ' γ}(ho:∀ a,af1 c mn (e0 a)=true)(hf:∀ x0,SimO rep' eR (fm [e0 x0]) (f x0))(h0:EJ rep e0 m0 c0):EJ rep eR (pm c mn fm m0 esN) (pc1C f c0):=fun s=>by
 have g0:=h0 s;unfold pm pc1C;cases q0:c0 s with
 |bad=>trivial
 |exc x=>rw[q0] at g0; have g0:m0 (rep s)= .exc x:=g0; show(_:Res _)= .exc x; simp only[esC,g0,Res.bind,ho,Ag6]
 |ok x0=>
   rw[q0] at g0; have g0:m0 (rep s)= .ok (e0 x0):=g0;have z:=(hf x0).res;simp only[esC,esN,g0,Res.bind,ho,Ag6];exact z
theorem cB3{α0:Type}{e0:α0→D}{m0:Mi.Env→Res D}{c0:σ→Res α0}{eR:γ→D}{c:Nat}{mn:Str}{plan:List Ap}{fm:List D→Out D}{f:α0→OutC σ' γ}{w:σ'→σ→σ}(ho:∀ a,af1 c mn (e0 a)=true)(hw:∀ s' s,wbGo plan 0 (rep' s') (rep s)=rep (w s' s))(hf:∀ x0,SimO rep' eR (fm [e0 x0]) (f x0))(h0:EJ rep e0 m0 c0):NJ rep eR (mm c mn plan fm m0 esN) (mc1C f w c0):=fun s=>by
 have g0:=h0 s;unfold mm mc1C;cases q0:c0 s with
 |bad=>trivial
 |exc x=>rw[q0] at g0; have g0:m0 (rep s)= .exc x:=g0; show(_:Out _)= .exc x (rep s); simp only[esC,g0,Res.bind,Res.up,Out.bind,ho,Ag6]
 |ok x0=>
   rw[q0] at g0; have g0:m0 (rep s)= .ok (e0 x0):=g0;simp only[esC,esN,g0,Res.bind,Res.up,Out.bind,bndO,ho,Ag6];exact SimO.wb hw (hf x0) s
@[simp] def pc2C{α0 α1:Type}(f:α0→α1→OutC σ' γ)(c0:σ→Res α0)(c1:σ→Res α1):σ→Res γ:=fun s=>(c0 s).bind fun x0=>(c1 s).bind fun x1=>(f x0 x1).res
@[simp] def mc2C{α0 α1:Type}(f:α0→α1→OutC σ' γ)(w:σ'→σ→σ)(c0:σ→Res α0)(c1:σ→Res α1):σ→OutC σ γ:=fun s=>bndO (c0 s) s fun x0=>bndO (c1 s) s fun x1=>wbC w s (f x0 x1)
@[simp] def pk2C{α0 α1:Type}(f:α0→α1→Res γ)(c0:σ→Res α0)(c1:σ→Res α1):σ→Res γ:=fun s=>(c0 s).bind fun x0=>(c1 s).bind fun x1=>f x0 x1
theorem row2{α0 α1:Type}{e0:α0→D}{e1:α1→D}{m0 m1:Mi.Env→Res D}{c0:σ→Res α0}{c1:σ→Res α1}{eR:γ→δ}{k:List D→Res δ}{f:α0→α1→Res γ}(hf:∀ x0 x1,SimR eR (k [e0 x0,e1 x1]) (f x0 x1))(h0:EJ rep e0 m0 c0)(h1:EJ rep e1 m1 c1):EJ rep eR (fun ρ=>((esC m0 (esC m1 esN)) ρ).bind k) (pk2C f c0 c1):=fun s=>by
 have g0:=h0 s;have g1:=h1 s;unfold pk2C;cases q0:c0 s with
 |bad=>trivial
 |exc x=>rw[q0] at g0; have g0:m0 (rep s)= .exc x:=g0; show(_:Res _)= .exc x; simp only[esC,g0,Res.bind]
 |ok x0=>
   rw[q0] at g0; have g0:m0 (rep s)= .ok (e0 x0):=g0;cases q1:c1 s with
   |bad=>trivial
   |exc x=>rw[q1] at g1; have g1:m1 (rep s)= .exc x:=g1; show(_:Res _)= .exc x; simp only[esC,g0,g1,Res.bind]
   |ok x1=>
     rw[q1] at g1; have g1:m1 (rep s)= .ok (e1 x1):=g1;have z:=hf x0 x1;simp only[esC,esN,g0,g1,Res.bind];exact z
theorem av2{α0 α1:Type}{e0:α0→D}{e1:α1→D}{m0 m1:Mi.Env→Res D}{c0:σ→Res α0}{c1:σ→Res α1}{eR:γ→D}{fm:List D→Out D}{f:α0→α1→OutC σ' γ}(hf:∀ x0 x1,SimO rep' eR (fm [e0 x0,e1 x1]) (f x0 x1))(h0:EJ rep e0 m0 c0)(h1:EJ rep e1 m1 c1):EJ rep eR (pc fm (esC m0 (esC m1 esN))) (pc2C f c0 c1):=row2 (k:=an5 fm) (f:=fun x0 x1=>(f x0 x1).res) (fun x0 x1=>(hf x0 x1).res) h0 h1
theorem as6{α0 α1:Type}{e0:α0→D}{e1:α1→D}{m0 m1:Mi.Env→Res D}{c0:σ→Res α0}{c1:σ→Res α1}{eR:γ→D}{c:Nat}{mn:Str}{fm:List D→Out D}{f:α0→α1→OutC σ' γ}(ho:∀ a,af1 c mn (e0 a)=true)(hf:∀ x0 x1,SimO rep' eR (fm [e0 x0,e1 x1]) (f x0 x1))(h0:EJ rep e0 m0 c0)(h1:EJ rep e1 m1 c1):EJ rep eR (pm c mn fm m0 (esC m1 esN)) (pc2C f c0 c1):=fun s=>by
 have g0:=h0 s;have g1:=h1 s;unfold pm pc2C;cases q0:c0 s with
 |bad=>trivial
 |exc x=>rw[q0] at g0; have g0:m0 (rep s)= .exc x:=g0; show(_:Res _)= .exc x; simp only[esC,g0,Res.bind,ho,Ag6]
 |ok x0=>
   rw[q0] at g0; have g0:m0 (rep s)= .ok (e0 x0):=g0;cases q1:c1 s with
   |bad=>trivial
   |exc x=>rw[q1] at g1; have g1:m1 (rep s)= .exc x:=g1; show(_:Res _)= .exc x; simp only[esC,g0,g1,Res.bind,ho,Ag6]
   |ok x1=>
     rw[q1] at g1; have g1:m1 (rep s)= .ok (e1 x1):=g1;have z:=(hf x0 x1).res;simp only[esC,esN,g0,g1,Res.bind,ho,Ag6];exact z
theorem br0{α0 α1:Type}{e0:α0→D}{e1:α1→D}{m0 m1:Mi.Env→Res D}{c0:σ→Res α0}{c1:σ→Res α1}{eR:γ→D}{c:Nat}{mn:Str}{plan:List Ap}{fm:List D→Out D}{f:α0→α1→OutC σ' γ}{w:σ'→σ→σ}(ho:∀ a,af1 c mn (e0 a)=true)(hw:∀ s' s,wbGo plan 0 (rep' s') (rep s)=rep (w s' s))(hf:∀ x0 x1,SimO rep' eR (fm [e0 x0,e1 x1]) (f x0 x1))(h0:EJ rep e0 m0 c0)(h1:EJ rep e1 m1 c1):NJ rep eR (mm c mn plan fm m0 (esC m1 esN)) (mc2C f w c0 c1):=fun s=>by
 have g0:=h0 s;have g1:=h1 s;unfold mm mc2C;cases q0:c0 s with
 |bad=>trivial
 |exc x=>rw[q0] at g0; have g0:m0 (rep s)= .exc x:=g0; show(_:Out _)= .exc x (rep s); simp only[esC,g0,Res.bind,Res.up,Out.bind,ho,Ag6]
 |ok x0=>
   rw[q0] at g0; have g0:m0 (rep s)= .ok (e0 x0):=g0;cases q1:c1 s with
   |bad=>trivial
   |exc x=>rw[q1] at g1; have g1:m1 (rep s)= .exc x:=g1; show(_:Out _)= .exc x (rep s); simp only[esC,g0,g1,Res.bind,Res.up,Out.bind,ho,Ag6]
   |ok x1=>
     rw[q1] at g1; have g1:m1 (rep s)= .ok (e1 x1):=g1;simp only[esC,esN,g0,g1,Res.bind,Res.up,Out.bind,bndO,ho,Ag6];exact SimO.wb hw (hf x0 x1) s
@[simp] def pc3C{α0 α1 α2:Type}(f:α0→α1→α2→OutC σ' γ)(c0:σ→Res α0)(c1:σ→Res α1)(c2:σ→Res α2):σ→Res γ:=fun s=>(c0 s).bind fun x0=>(c1 s).bind fun x1=>(c2 s).bind fun x2=>(f x0 x1 x2).res
@[simp] def mc3C{α0 α1 α2:Type}(f:α0→α1→α2→OutC σ' γ)(w:σ'→σ→σ)(c0:σ→Res α0)(c1:σ→Res α1)(c2:σ→Res α2):σ→OutC σ γ:=fun s=>bndO (c0 s) s fun x0=>bndO (c1 s) s fun x1=>bndO (c2 s) s fun x2=>wbC w s (f x0 x1 x2)
@[simp] def pk3C{α0 α1 α2:Type}(f:α0→α1→α2→Res γ)(c0:σ→Res α0)(c1:σ→Res α1)(c2:σ→Res α2):σ→Res γ:=fun s=>(c0 s).bind fun x0=>(c1 s).bind fun x1=>(c2 s).bind fun x2=>f x0 x1 x2
theorem row3{α0 α1 α2:Type}{e0:α0→D}{e1:α1→D}{e2:α2→D}{m0 m1 m2:Mi.Env→Res D}{c0:σ→Res α0}{c1:σ→Res α1}{c2:σ→Res α2}{eR:γ→δ}{k:List D→Res δ}{f:α0→α1→α2→Res γ}(hf:∀ x0 x1 x2,SimR eR (k [e0 x0,e1 x1,e2 x2]) (f x0 x1 x2))(h0:EJ rep e0 m0 c0)(h1:EJ rep e1 m1 c1)(h2:EJ rep e2 m2 c2):EJ rep eR (fun ρ=>((esC m0 (esC m1 (esC m2 esN))) ρ).bind k) (pk3C f c0 c1 c2):=fun s=>by
 have g0:=h0 s;have g1:=h1 s;have g2:=h2 s;unfold pk3C;cases q0:c0 s with
 |bad=>trivial
 |exc x=>rw[q0] at g0; have g0:m0 (rep s)= .exc x:=g0; show(_:Res _)= .exc x; simp only[esC,g0,Res.bind]
 |ok x0=>
   rw[q0] at g0; have g0:m0 (rep s)= .ok (e0 x0):=g0;cases q1:c1 s with
   |bad=>trivial
   |exc x=>rw[q1] at g1; have g1:m1 (rep s)= .exc x:=g1; show(_:Res _)= .exc x; simp only[esC,g0,g1,Res.bind]
   |ok x1=>
     rw[q1] at g1; have g1:m1 (rep s)= .ok (e1 x1):=g1;cases q2:c2 s with
     |bad=>trivial
     |exc x=>rw[q2] at g2; have g2:m2 (rep s)= .exc x:=g2; show(_:Res _)= .exc x; simp only[esC,g0,g1,g2,Res.bind]
     |ok x2=>
       rw[q2] at g2; have g2:m2 (rep s)= .ok (e2 x2):=g2;have z:=hf x0 x1 x2;simp only[esC,esN,g0,g1,g2,Res.bind];exact z
theorem bT6{α0 α1 α2:Type}{e0:α0→D}{e1:α1→D}{e2:α2→D}{m0 m1 m2:Mi.Env→Res D}{c0:σ→Res α0}{c1:σ→Res α1}{c2:σ→Res α2}{eR:γ→D}{fm:List D→Out D}{f:α0→α1→α2→OutC σ' γ}(hf:∀ x0 x1 x2,SimO rep' eR (fm [e0 x0,e1 x1,e2 x2]) (f x0 x1 x2))(h0:EJ rep e0 m0 c0)(h1:EJ rep e1 m1 c1)(h2:EJ rep e2 m2 c2):EJ rep eR (pc fm (esC m0 (esC m1 (esC m2 esN)))) (pc3C f c0 c1 c2):=row3 (k:=an5 fm) (f:=fun x0 x1 x2=>(f x0 x1 x2).res) (fun x0 x1 x2=>(hf x0 x1 x2).res) h0 h1 h2
theorem bd5{α0 α1 α2:Type}{e0:α0→D}{e1:α1→D}{e2:α2→D}{m0 m1 m2:Mi.Env→Res D}{c0:σ→Res α0}{c1:σ→Res α1}{c2:σ→Res α2}{eR:γ→D}{c:Nat}{mn:Str}{fm:List D→Out D}{f:α0→α1→α2→OutC σ' γ}(ho:∀ a,af1 c mn (e0 a)=true)(hf:∀ x0 x1 x2,SimO rep' eR (fm [e0 x0,e1 x1,e2 x2]) (f x0 x1 x2))(h0:EJ rep e0 m0 c0)(h1:EJ rep e1 m1 c1)(h2:EJ rep e2 m2 c2):EJ rep eR (pm c mn fm m0 (esC m1 (esC m2 esN))) (pc3C f c0 c1 c2):=fun s=>by
 have g0:=h0 s;have g1:=h1 s;have g2:=h2 s;unfold pm pc3C;cases q0:c0 s with
 |bad=>trivial
 |exc x=>rw[q0] at g0; have g0:m0 (rep s)= .exc x:=g0; show(_:Res _)= .exc x; simp only[esC,g0,Res.bind,ho,Ag6]
 |ok x0=>
   rw[q0] at g0; have g0:m0 (rep s)= .ok (e0 x0):=g0;cases q1:c1 s with
   |bad=>trivial
   |exc x=>rw[q1] at g1; have g1:m1 (rep s)= .exc x:=g1; show(_:Res _)= .exc x; simp only[esC,g0,g1,Res.bind,ho,Ag6]
   |ok x1=>
     rw[q1] at g1; have g1:m1 (rep s)= .ok (e1 x1):=g1;cases q2:c2 s with
     |bad=>trivial
     |exc x=>rw[q2] at g2; have g2:m2 (rep s)= .exc x:=g2; show(_:Res _)= .exc x; simp only[esC,g0,g1,g2,Res.bind,ho,Ag6]
     |ok x2=>
       rw[q2] at g2; have g2:m2 (rep s)= .ok (e2 x2):=g2;have z:=(hf x0 x1 x2).res;simp only[esC,esN,g0,g1,g2,Res.bind,ho,Ag6];exact z
theorem ay4{α0 α1 α2:Type}{e0:α0→D}{e1:α1→D}{e2:α2→D}{m0 m1 m2:Mi.Env→Res D}{c0:σ→Res α0}{c1:σ→Res α1}{c2:σ→Res α2}{eR:γ→D}{c:Nat}{mn:Str}{plan:List Ap}{fm:List D→Out D}{f:α0→α1→α2→OutC σ' γ}{w:σ'→σ→σ}(ho:∀ a,af1 c mn (e0 a)=true)(hw:∀ s' s,wbGo plan 0 (rep' s') (rep s)=rep (w s' s))(hf:∀ x0 x1 x2,SimO rep' eR (fm [e0 x0,e1 x1,e2 x2]) (f x0 x1 x2))(h0:EJ rep e0 m0 c0)(h1:EJ rep e1 m1 c1)(h2:EJ rep e2 m2 c2):NJ rep eR (mm c mn plan fm m0 (esC m1 (esC m2 esN))) (mc3C f w c0 c1 c2):=fun s=>by
 have g0:=h0 s;have g1:=h1 s;have g2:=h2 s;unfold mm mc3C;cases q0:c0 s with
 |bad=>trivial
 |exc x=>rw[q0] at g0; have g0:m0 (rep s)= .exc x:=g0; show(_:Out _)= .exc x (rep s); simp only[esC,g0,Res.bind,Res.up,Out.bind,ho,Ag6]
 |ok x0=>
   rw[q0] at g0; have g0:m0 (rep s)= .ok (e0 x0):=g0;cases q1:c1 s with
   |bad=>trivial
   |exc x=>rw[q1] at g1; have g1:m1 (rep s)= .exc x:=g1; show(_:Out _)= .exc x (rep s); simp only[esC,g0,g1,Res.bind,Res.up,Out.bind,ho,Ag6]
   |ok x1=>
     rw[q1] at g1; have g1:m1 (rep s)= .ok (e1 x1):=g1;cases q2:c2 s with
     |bad=>trivial
     |exc x=>rw[q2] at g2; have g2:m2 (rep s)= .exc x:=g2; show(_:Out _)= .exc x (rep s); simp only[esC,g0,g1,g2,Res.bind,Res.up,Out.bind,ho,Ag6]
     |ok x2=>
       rw[q2] at g2; have g2:m2 (rep s)= .ok (e2 x2):=g2;simp only[esC,esN,g0,g1,g2,Res.bind,Res.up,Out.bind,bndO,ho,Ag6];exact SimO.wb hw (hf x0 x1 x2) s
end
section
variable{σ σ' α β γ δ:Type}{rep:σ→Mi.Env}{eR:β→D}
@[simp] def upC(c:σ→Res α):σ→OutC σ α:=fun s=>match c s with
 |.ok a=> .ok a s
 |.exc x=> .exc x s
 |.bad=> .bad
theorem ab2{e:α→γ}{m:Mi.Env→Res γ}{c:σ→Res α}(h:EJ rep e m c):NJ rep e (liP m) (upC c):=fun s=>by
 have h:=h s;unfold upC liP;cases q:c s with
 |ok a=>rw[q] at h; have h:m (rep s)= .ok (e a):=h; rw[h]; rfl
 |exc x=>rw[q] at h; have h:m (rep s)= .exc x:=h; rw[h]; rfl
 |bad=>trivial
@[simp] def bdO(o:OutC σ α)(k:α→σ→OutC σ β):OutC σ β:=match o with
 |.ok a s=>k a s
 |.exc x s=> .exc x s
 |.bad=> .bad
theorem SimO.bd{e:α→γ}{e':β→δ}{r:Out γ}{q:OutC σ α}{k:γ→Mi.Env→Out δ}{l:α→σ→OutC σ β}(h:SimO rep e r q)(hk:∀ a s,SimO rep e' (k (e a) (rep s)) (l a s)):SimO rep e' (r.bind k) (bdO q l):=by
 cases q with
 |ok a s=>have h:r= .ok (e a) (rep s):=h; rw[h]; exact hk a s
 |exc x s=>have h:r= .exc x (rep s):=h; rw[h]; exact rfl
 |bad=>trivial
theorem bi0{e:α→D}{e':β→D}{m:Mi.Env→Out D}{c:σ→OutC σ α}{f:α→Res β}(h:∀ a,SimR e' (.ok (e a)) (f a))(h1:NJ rep e m c):NJ rep e' m (fun s=>bdO (c s) fun a s=>bndO (f a) s fun b=> .ok b s):=fun s=>by
 have h1:=h1 s;dsimp only;cases q:c s with
 |ok a s1=>
   rw[q] at h1; have h1:m (rep s)= .ok (e a) (rep s1):=h1;rw[h1]
   have:=h a
   show SimO rep e' (.ok (e a) (rep s1)) (bndO (f a) s1 fun b=> .ok b s1);cases q2:f a with
   |ok b=>rw[q2] at this; have this:Res.ok (e a)= .ok (e' b):=this; injection this with this; rw[this]; rfl
   |exc x=>rw[q2] at this; cases this
   |bad=>trivial
 |exc x s1=>rw[q] at h1; exact h1
 |bad=>trivial
@[simp] def mvC(g:σ→Option α)(cl:σ→σ):σ→OutC σ α:=fun s=>match g s with | some a=> .ok a (cl s) | none=> .bad
theorem ch5{e:α→D}{i:Nat}{g:σ→Option α}{cl:σ→σ}(h:∀ s,rg (rep s) i=(g s).map e)(hc:∀ s,(rep s).set i none=rep (cl s)):NJ rep e (mvS i) (mvC g cl):=fun s=>by
 unfold mvS mvC;rw[h s];cases g s with
 |none=>trivial
 |some a=>show Out.ok _ _=Out.ok _ _; rw[hc]
@[simp] def l1C(g:σ→Option (List α))(p:σ→List α→σ)(f:List α→δ→Option (γ×List α))(c:σ→Res δ):σ→OutC σ γ:=fun s=>match g s with
 |none=> .bad
 | some xs=>bndO (c s) s fun x=>match f xs x with
   |some (r,ys)=> .ok r (p s ys)
   |none=> .bad
def appC(xs:List α)(x:α):Option (Unit×List α):=if xs.length < aa6 then some ((),xs ++ [x]) else none
def popC(xs:List α)(i:Int):Option (α×List α):=if 0≤i∧i < xs.length∧xs.length≤aa6 then xs[i.toNat]?.map fun d=>(d,xs.eraseIdx i.toNat) else none
def SimF{δ':Type}(e:α→D)(e1:δ→D)(e2:γ→D)(F:List D→D→Option (D×List D))(f:List α→δ→Option (γ×List α)):Prop:=∀ xs x,match f xs x with
 |some (r,ys)=>F (xs.map e) (e1 x)=some (e2 r,ys.map e)
 |none=>True
theorem aO5{e:α→γ}:∀ (xs:List α) (i:Nat),(xs.map e).eraseIdx i=(xs.eraseIdx i).map e
 |[],i=>by simp
 |x :: xs,0=>by simp
 |x :: xs,i + 1=>by rw[Aa2,Ad7,Ad7,Aa2,aO5 xs i]
theorem f_app{e:α→D}:SimF (δ':=Unit) e e eN appF appC:=fun xs x=>by
 unfold appC appF;rw[List.length_map];by_cases h:xs.length < aa6
 ·rw[Aa6 h,Aa6 h];show some (D.non,xs.map e ++ [e x])=some (eN (),(xs ++ [x]).map e);rw[Ad3]; rfl
 ·rw[Aa3 h]; trivial
theorem f_pop{e:α→D}:SimF (δ':=Unit) e D.int e popF popC:=fun xs i=>by
 unfold popC popF;dsimp only;rw[List.length_map];by_cases h:0≤i∧i < xs.length∧xs.length≤aa6
 · rw[Aa6 h,Aa6 h,Ac7];cases xs[i.toNat]? with
   |none=>trivial
   |some a=>
     show some (e a,(xs.map e).eraseIdx i.toNat)=some (e a,(xs.eraseIdx i.toNat).map e);rw[aO5]
 ·rw[Aa3 h]; trivial
theorem nj_l1{e:α→D}{e1:δ→D}{e2:γ→D}{get:Mi.Env→Option D}{set:Mi.Env→D→Mi.Env}{g:σ→Option (List α)}{p:σ→List α→σ}{F:List D→D→Option (D×List D)}{f:List α→δ→Option (γ×List α)}{m:Mi.Env→Res D}{c:σ→Res δ}
 (hg:∀ s,get (rep s)=(g s).map (eL e)) (hs:∀ s xs,set (rep s) (eL e xs)=rep (p s xs)) (hF:SimF (δ':=Unit) e e1 e2 F f) (h1:EJ rep e1 m c):NJ rep e2 (lst1 get set F m) (l1C g p f c):=fun s=>by
 have h1:=h1 s;unfold lst1 l1C;rw[hg];cases g s with
 |none=>trivial
 |some xs=>
   show SimO rep e2 (lstR set F (rep s) (xs.map e) (m (rep s))) (bndO (c s) s _);cases q:c s with
   |bad=>trivial
   |exc x=>rw[q] at h1; have h1:m (rep s)= .exc x:=h1; rw[h1]; rfl
   |ok x=>
     rw[q] at h1; have h1:m (rep s)= .ok (e1 x):=h1;rw[h1]
     have:=hF xs x
     show SimO rep e2 (lstK set (rep s) (F (xs.map e) (e1 x))) (match f xs x with | some (r,ys)=>OutC.ok r (p s ys) | none=> .bad);cases q2:f xs x with
     |none=>trivial
     |some r=>
       rw[q2] at this;obtain⟨r,ys⟩:=r;have this:F (xs.map e) (e1 x)=some (e2 r,ys.map e):=this;rw[this];show Out.ok _ _=Out.ok _ _;rw[← hs]; rfl
@[simp] def apMC(g:σ→Option (List α))(p:σ→List α→σ)(c:σ→OutC σ α):σ→OutC σ Unit:=fun s=>match g s with
 |none=> .bad
 | some _=>bdO (c s) fun x s=>match g s with
   |none=> .bad
   |some xs=>(match appC xs x with | some (r,ys)=> .ok r (p s ys) | none=> .bad)
theorem cB4{e:α→D}{i:Nat}{g:σ→Option (List α)}{p:σ→List α→σ}{m:Mi.Env→Out D}{c:σ→OutC σ α}(hg:∀ s,rg (rep s) i=(g s).map (eL e))(hs:∀ s xs,(rep s).set i (some (eL e xs))=rep (p s xs))(h1:NJ rep e m c):NJ rep eN (appM i m) (apMC g p c):=fun s=>by
 have h1:=h1 s;unfold appM apMC;rw[hg];cases g s with
 |none=>trivial
 |some xs0=>
   show SimO rep eN ((m (rep s)).bind (bD1 i)) (bdO (c s) _);refine h1.bd fun x s=>?_;unfold bD1;rw[hg];cases g s with
   |none=>trivial
   |some xs=>
     have:=f_app (e:=e) xs x
     show SimO rep eN (lstK (aL4 i) (rep s) (appF (xs.map e) (e x))) (match appC xs x with | some (r,ys)=>OutC.ok r (p s ys) | none=> .bad);cases q2:appC xs x with
     |none=>trivial
     |some r=>
       rw[q2] at this;obtain⟨r,ys⟩:=r;have this:appF (xs.map e) (e x)=some (eN r,ys.map e):=this;rw[this];show Out.ok _ _=Out.ok _ _;rw[← hs]; rfl
@[simp] def cn6(g:σ→Option (DI α))(p:σ→DI α→σ)(ck:σ→Res (List Int)):σ→OutC σ α:=fun s=>match g s with
 |none=> .bad
 | some F=>bndO (ck s) s fun k=>match F.get k with
   |some x=> .ok x (p s (F.del k))
   |none=> .bad
theorem ch7{e:α→D}{get:Mi.Env→Option D}{set:Mi.Env→D→Mi.Env}{g:σ→Option (DI α)}{p:σ→DI α→σ}{mk:Mi.Env→Res D}{ck:σ→Res (List Int)}(hg:∀ s,get (rep s)=(g s).map (encD e))(hs:∀ s F,set (rep s) (encD e F)=rep (p s F))(hk:EJ rep (eTs D.int) mk ck):NJ rep e (bv9 get set mk) (cn6 g p ck):=fun s=>by
 have hk:=hk s;unfold bv9 cn6;rw[hg];cases g s with
 |none=>trivial
 |some F=>
   show SimO rep e (bw0 set (encD e F) (rep s) (mk (rep s))) (bndO (ck s) s _);cases q:ck s with
   |bad=>trivial
   |exc x=>rw[q] at hk; have hk:mk (rep s)= .exc x:=hk; rw[hk]; rfl
   |ok k=>
     rw[q] at hk; have hk:mk (rep s)= .ok (.tup (k.map D.int)):=hk;rw[hk];show SimO rep e (bw0 set (encD e F) (rep s) (.ok (.tup (k.map D.int)))) (match F.get k with | some x=>OutC.ok x (p s (F.del k)) | none=> .bad);cases q2:F.get k with
     |none=>trivial
     |some x=>
       unfold bw0;dsimp only;rw[bM2 q2];show Out.ok _ _=Out.ok _ _;rw[hs]
end
section
variable{σ σ' α β γ δ:Type}{rep:σ→Mi.Env}{eR:β→D}
@[simp] def bdS(o:OutC σ α)(k:α→σ→FlC σ β):FlC σ β:=match o with
 |.ok a s=>k a s
 |.exc x s=> .exc x s
 |.bad=> .bad
theorem SimS.bd{e:α→γ}{r:Out γ}{q:OutC σ α}{k:γ→Mi.Env→SO}{l:α→σ→FlC σ β}(h:SimO rep e r q)(hk:∀ a s,SimS rep eR (k (e a) (rep s)) (l a s)):SimS rep eR (at4 r k) (bdS q l):=by
 cases q with
 |ok a s=>have h:r= .ok (e a) (rep s):=h; rw[h]; exact hk a s
 |exc x s=>have h:r= .exc x (rep s):=h; rw[h]; exact rfl
 |bad=>trivial
theorem SimS.ite{p:Prop}[Decidable p]{r r':SO}{q q':FlC σ β}(h:SimS rep eR r q)(h':SimS rep eR r' q'):SimS rep eR (if p then r else r') (if p then q else q'):=by
 by_cases z:p
 ·rw[Aa6 z,Aa6 z]; exact h
 ·rw[Aa3 z,Aa3 z]; exact h'
@[simp] def seqC(a b:σ→FlC σ β):σ→FlC σ β:=fun s=>match a s with
 |.nx s'=>b s'
 |o=>o
theorem aa8{a b:Mi.Env→SO}{c d:σ→FlC σ β}(h1:TJ rep eR a c)(h2:TJ rep eR b d):TJ rep eR (seqS a b) (seqC c d):=fun s=>by
 have h1:=h1 s;unfold seqS seqC;cases q:c s with
 |nx s'=>rw[q] at h1; have h1:a (rep s)= .nx (rep s'):=h1; rw[h1]; exact h2 s'
 |rt b s'=>rw[q] at h1; have h1:a (rep s)= .rt (eR b) (rep s'):=h1; rw[h1]; rfl
 |bk s'=>rw[q] at h1; have h1:a (rep s)= .bk (rep s'):=h1; rw[h1]; rfl
 |ct s'=>rw[q] at h1; have h1:a (rep s)= .ct (rep s'):=h1; rw[h1]; rfl
 |exc x s'=>rw[q] at h1; have h1:a (rep s)= .exc x (rep s'):=h1; rw[h1]; rfl
 |bad=>trivial
@[simp] def am3:σ→FlC σ β:=fun s=> .nx s
@[simp] def badC:σ→FlC σ β:=fun _=> .bad
theorem ae8:TJ rep eR ai5 am3:=fun s=>rfl
theorem au8{m:Mi.Env→SO}:TJ rep eR m badC:=fun s=>trivial
@[simp] def retC(c:σ→OutC σ β):σ→FlC σ β:=fun s=>bdS (c s) fun b s=> .rt b s
theorem ad5{m:Mi.Env→Out D}{c:σ→OutC σ β}(h:NJ rep eR m c):TJ rep eR (retS m) (retC c):=fun s=>SimS.bd (h s) fun b s=>rfl
@[simp] def cv6(b:β):σ→FlC σ β:=fun s=> .rt b s
theorem bU8{b:β}(h:eR b= .non):TJ rep eR retN (cv6 b):=fun s=>by show SO.rt .non _=SO.rt (eR b) _; rw[h]
@[simp] def ag2(c:σ→OutC σ α):σ→FlC σ β:=fun s=>bdS (c s) fun _ s=> .nx s
theorem ac6{e:α→D}{m:Mi.Env→Out D}{c:σ→OutC σ α}(h:NJ rep e m c):TJ rep eR (ag1 m) (ag2 c):=fun s=>SimS.bd (h s) fun b s=>rfl
@[simp] def setC(u:α→σ→σ)(c:σ→OutC σ α):σ→FlC σ β:=fun s=>bdS (c s) fun a s=> .nx (u a s)
theorem cr8{e:α→D}{i:Nat}{m:Mi.Env→Out D}{c:σ→OutC σ α}{u:α→σ→σ}(hu:∀ a s,(rep s).set i (some (e a))=rep (u a s))(h:NJ rep e m c):TJ rep eR (setS i m) (setC u c):=fun s=>SimS.bd (h s) fun a s=>by show SO.nx _=SO.nx _; rw[hu]
@[simp] def ifC(t:σ→OutC σ Bool)(a b:σ→FlC σ β):σ→FlC σ β:=fun s=>bdS (t s) fun c s=>if c=true then a s else b s
theorem am2{t:Mi.Env→Out Bool}{a b:Mi.Env→SO}{ct:σ→OutC σ Bool}{c d:σ→FlC σ β}(ht:NJ rep (id:Bool→Bool) t ct)(h1:TJ rep eR a c)(h2:TJ rep eR b d):TJ rep eR (ifS t a b) (ifC ct c d):=fun s=>SimS.bd (ht s) fun t s=>SimS.ite (h1 s) (h2 s)
def forC(u:α→σ→σ)(body:σ→FlC σ β):List α→σ→FlC σ β
 |[],s=> .nx s
 | a :: r,s=>match body (u a s) with
   |.nx s'=>forC u body r s'
   |.ct s'=>forC u body r s'
   |.bk s'=> .nx s'
   |o=>o
theorem aS7{e:α→D}{tgt:D→Mi.Env→Option Mi.Env}{body:Mi.Env→SO}{u:α→σ→σ}{c:σ→FlC σ β}(hu:∀ a s,tgt (e a) (rep s)=some (rep (u a s)))(h:TJ rep eR body c):∀ (xs:List α) (s:σ),SimS rep eR (forS tgt body (xs.map e) (rep s)) (forC u c xs s)
 |[],s=>rfl
 | a :: r,s=>by
   have hb:=h (u a s);rw[List.map_cons];unfold forS forC;rw[hu];dsimp only;cases q:c (u a s) with
   |nx s'=>rw[q] at hb; have hb:body (rep (u a s))= .nx (rep s'):=hb; rw[hb]; exact aS7 hu h r s'
   |ct s'=>rw[q] at hb; have hb:body (rep (u a s))= .ct (rep s'):=hb; rw[hb]; exact aS7 hu h r s'
   |bk s'=>rw[q] at hb; have hb:body (rep (u a s))= .bk (rep s'):=hb; rw[hb]; rfl
   |rt b s'=>rw[q] at hb; have hb:body (rep (u a s))= .rt (eR b) (rep s'):=hb; rw[hb]; rfl
   |exc x s'=>rw[q] at hb; have hb:body (rep (u a s))= .exc x (rep s'):=hb; rw[hb]; rfl
   |bad=>trivial
@[simp] def bi4(src:σ→Res (List α))(u:α→σ→σ)(body:σ→FlC σ β):σ→FlC σ β:=fun s=>match src s with
 |.ok xs=>forC u body xs s
 |.exc x=> .exc x s
 |.bad=> .bad
theorem aG2{e:α→D}{src:Mi.Env→Res (List D)}{csrc:σ→Res (List α)}{tgt:D→Mi.Env→Option Mi.Env}{body:Mi.Env→SO}{u:α→σ→σ}{c:σ→FlC σ β}(hs:EJ rep (List.map e) src csrc)(hu:∀ a s,tgt (e a) (rep s)=some (rep (u a s)))(h:TJ rep eR body c):TJ rep eR (aT9 (liP src) tgt body) (bi4 csrc u c):=fun s=>by
 have hs:=hs s;unfold aT9 liP bi4;cases q:csrc s with
 |ok xs=>rw[q] at hs; have hs:src (rep s)= .ok (xs.map e):=hs; rw[hs]; exact aS7 hu h xs s
 |exc x=>rw[q] at hs; have hs:src (rep s)= .exc x:=hs; rw[hs]; rfl
 |bad=>trivial
def whC(t:σ→OutC σ Bool)(body:σ→FlC σ β):Nat→σ→FlC σ β
 |0,_=> .bad
 | n + 1,s=>match t s with
   | .ok true s1=>(match body s1 with
     |.nx s'=>whC t body n s'
     |.ct s'=>whC t body n s'
     |.bk s'=> .nx s'
     |o=>o)
   |.ok false s1=> .nx s1
   |.exc x s1=> .exc x s1
   |.bad=> .bad
theorem bD9{t:Mi.Env→Out Bool}{body:Mi.Env→SO}{ct:σ→OutC σ Bool}{c:σ→FlC σ β}(ht:NJ rep (id:Bool→Bool) t ct)(h:TJ rep eR body c):∀ n,TJ rep eR (whS t body n) (whC ct c n)
 |0=>fun s=>trivial
 | n + 1=>fun s=>by
   have hs:=ht s;unfold whS whC;cases q:ct s with
   |ok b s1=>
     rw[q] at hs; have hs:t (rep s)= .ok b (rep s1):=hs;rw[hs];cases b with
     |false=>rfl
     |true=>
       have hb:=h s1;show SimS rep eR (match body (rep s1) with | .nx ρ'=>whS t body n ρ' | .ct ρ'=>whS t body n ρ' | .bk ρ'=> .nx ρ' | o=>o) _;dsimp only;cases q:c s1 with
       |nx s'=>rw[q] at hb; have hb:body (rep s1)= .nx (rep s'):=hb; rw[hb]; exact bD9 ht h n s'
       |ct s'=>rw[q] at hb; have hb:body (rep s1)= .ct (rep s'):=hb; rw[hb]; exact bD9 ht h n s'
       |bk s'=>rw[q] at hb; have hb:body (rep s1)= .bk (rep s'):=hb; rw[hb]; rfl
       |rt b s'=>rw[q] at hb; have hb:body (rep s1)= .rt (eR b) (rep s'):=hb; rw[hb]; rfl
       |exc x s'=>rw[q] at hb; have hb:body (rep s1)= .exc x (rep s'):=hb; rw[hb]; rfl
       |bad=>trivial
   |exc x s1=>rw[q] at hs; have hs:t (rep s)= .exc x (rep s1):=hs; rw[hs]; rfl
   |bad=>trivial
@[simp] def aV3(g:σ→Option (DI α))(p:σ→DI α→σ)(ck:σ→Res (List Int))(cv:σ→OutC σ α):σ→FlC σ β:=fun s=>bdS (cv s) fun x s=>match g s with
 |none=> .bad
 | some F=>(match ck s with
   |.ok k=>if F.length < aa6 then .nx (p s (F.put k x)) else .bad
   |.exc y=> .exc y s
   |.bad=> .bad)
theorem at3{e:α→D}{get:Mi.Env→Option D}{set:Mi.Env→D→Mi.Env}{g:σ→Option (DI α)}{p:σ→DI α→σ}{mk:Mi.Env→Res D}{ck:σ→Res (List Int)}{mv:Mi.Env→Out D}{cv:σ→OutC σ α}(hg:∀ s,get (rep s)=(g s).map (encD e))(hs:∀ s F,set (rep s) (encD e F)=rep (p s F))
 (hk:EJ rep (eTs D.int) mk ck) (hv:NJ rep e mv cv):TJ rep eR (aD5 get set mk mv) (aV3 g p ck cv):=fun s=>SimS.bd (hv s) fun x s=>by
 have hk:=hk s;rw[hg];cases g s with
 |none=>trivial
 |some F=>
   show SimS rep eR (aP0 set (e x) (encD e F) (rep s) (mk (rep s))) _;dsimp only;cases q:ck s with
   |bad=>trivial
   |exc y=>rw[q] at hk; have hk:mk (rep s)= .exc y:=hk; rw[hk]; rfl
   |ok k=>
     rw[q] at hk; have hk:mk (rep s)= .ok (.tup (k.map D.int)):=hk;rw[hk];show SimS rep eR (aP0 set (e x) (encD e F) (rep s) (.ok (.tup (k.map D.int)))) (if F.length < aa6 then FlC.nx (p s (F.put k x)) else .bad);by_cases h:F.length < aa6
     ·rw[if_pos h];unfold aP0;dsimp only;rw[bM1 h];show SO.nx _=SO.nx _;rw[hs]
     ·rw[Aa3 h]; trivial
@[simp] def cF8(g:σ→Option (List α))(p:σ→List α→σ)(ck:σ→Res Int)(cv:σ→OutC σ α):σ→FlC σ β:=fun s=>bdS (cv s) fun x s=>match g s with
 |none=> .bad
 | some xs=>(match ck s with
   |.ok i=>(match ixN xs.length i with | some j=> .nx (p s (xs.set j x)) | none=> .bad)
   |.exc y=> .exc y s
   |.bad=> .bad)
theorem bU9{e:α→D}{get:Mi.Env→Option D}{set:Mi.Env→D→Mi.Env}{g:σ→Option (List α)}{p:σ→List α→σ}{mk:Mi.Env→Res D}{ck:σ→Res Int}{mv:Mi.Env→Out D}{cv:σ→OutC σ α}(hg:∀ s,get (rep s)=(g s).map (eL e))(hs:∀ s F,set (rep s) (eL e F)=rep (p s F))
 (hk:EJ rep D.int mk ck) (hv:NJ rep e mv cv):TJ rep eR (aT8 get set mk mv) (cF8 g p ck cv):=fun s=>SimS.bd (hv s) fun x s=>by
 have hk:=hk s;rw[hg];cases g s with
 |none=>trivial
 |some xs=>
   show SimS rep eR (bJ8 set (e x) (xs.map e) (rep s) (mk (rep s))) _;dsimp only;cases q:ck s with
   |bad=>trivial
   |exc y=>rw[q] at hk; have hk:mk (rep s)= .exc y:=hk; rw[hk]; rfl
   |ok i=>
     rw[q] at hk; have hk:mk (rep s)= .ok (.int i):=hk;rw[hk];show SimS rep eR (match ixN (xs.map e).length i with | some j=> .nx (set (rep s) (.lst ((xs.map e).set j (e x)))) | none=> .bad) _;rw[List.length_map];dsimp only;cases ixN xs.length i with
     |none=>trivial
     |some j=>
       show SO.nx _=SO.nx _;rw[← Au6];exact congrArg _ (hs s _)
@[simp] def runC(d:Option β):FlC σ β→OutC σ β
 |.nx s=>(match d with | some b=> .ok b s | none=> .bad)
 |.rt b s=> .ok b s
 |.exc x s=> .exc x s
 |_=> .bad
theorem aA1{k:Nat}{ds:List D}{body:Mi.Env→SO}{c:σ→FlC σ β}{s:σ}{d:β}(hd:eR d= .non)(h:TJ rep eR body c)(hr:ds.map some ++ List.replicate (k - ds.length) none=rep s):SimO rep eR (Mi.run k body ds) (runC (some d) (c s)):=by
 have h:=h s;unfold Mi.run;rw[hr];cases q:c s with
 |nx s'=>rw[q] at h; have h:body (rep s)= .nx (rep s'):=h; rw[h]; show Out.ok .non _=Out.ok (eR d) _; rw[hd]
 |rt b s'=>rw[q] at h; have h:body (rep s)= .rt (eR b) (rep s'):=h; rw[h]; rfl
 |exc x s'=>rw[q] at h; have h:body (rep s)= .exc x (rep s'):=h; rw[h]; rfl
 |_=>trivial
theorem aj2{k:Nat}{ds:List D}{body:Mi.Env→SO}{c:σ→FlC σ β}{s:σ}(h:TJ rep eR body c)(hr:ds.map some ++ List.replicate (k - ds.length) none=rep s):SimO rep eR (Mi.run k body ds) (runC none (c s)):=by
 have h:=h s;unfold Mi.run;rw[hr];cases q:c s with
 |rt b s'=>rw[q] at h; have h:body (rep s)= .rt (eR b) (rep s'):=h; rw[h]; rfl
 |exc x s'=>rw[q] at h; have h:body (rep s)= .exc x (rep s'):=h; rw[h]; rfl
 |_=>trivial
theorem aF3{k:Nat}{ds:List D}{body:Mi.Env→SO}{c:σ→FlC σ β}{s:σ}(h:TJ rep eR body c)(hr:ds.map some ++ List.replicate (k - ds.length) none=rep s):SimO rep eR (runO k body ds) (runC none (c s)):=by
 have h:=h s;unfold runO;rw[hr];cases q:c s with
 |rt b s'=>rw[q] at h; have h:body (rep s)= .rt (eR b) (rep s'):=h; rw[h]; rfl
 |exc x s'=>rw[q] at h; have h:body (rep s)= .exc x (rep s'):=h; rw[h]; rfl
 |_=>trivial
end
section
variable{σ α β:Type}{rep:σ→Mi.Env}{eR:β→D}
theorem xp{e:α→D}{i:Nat}{g:σ→α}(h:∀ s,rg (rep s) i=some (e (g s)):=by exact fun _=>rfl):EJ rep e (vr i) (pC g):=cH7 h
theorem xv{e:α→D}{i:Nat}{g:σ→Option α}(h:∀ s,rg (rep s) i=(g s).map e:=by exact fun _=>rfl):EJ rep e (vr i) (vC g):=cH5 h
theorem xk{e:α→D}{d:D}{a:α}(h:e a=d:=by rfl):EJ rep e (cst d) (kC a):=bT9 h
theorem xs{e:α→D}{i:Nat}{m:Mi.Env→Out D}{c:σ→OutC σ α}{u:α→σ→σ}(h:NJ rep e m c)(hu:∀ a s,(rep s).set i (some (e a))=rep (u a s):=by exact fun _ _=>rfl):TJ rep eR (setS i m) (setC u c):=cr8 hu h
end
section
variable{σ σ' α β γ δ τ:Type}
theorem az9{u:α→σ→σ}{c:σ→FlC σ β}(R:τ→σ→Prop)(step:τ→α→τ):∀ (l:List α) (b:τ) (s:σ),R b s→
 (∀ b a s,a∈l→R b s→∃ s',(c (u a s)= .nx s'∨c (u a s)= .ct s')∧R (step b a) s')→∃ s',forC u c l s= .nx s'∧R (l.foldl step b) s'
 |[],b,s,h,_=>⟨s,rfl,h⟩
 | a :: l,b,s,h,st=>by
   obtain⟨s2,e2,h2⟩:=st b a s List.mem_cons_self h;obtain⟨s',e,h'⟩:=az9 R step l (step b a) s2 h2 fun b c s hb=>st b c s (List.mem_cons_of_mem _ hb);refine⟨s',?_,h'⟩;unfold forC;rcases e2 with e2 | e2 <;> (rw[e2]; exact e)
theorem bL5{u:α→σ→σ}{c:σ→FlC σ β}(R:σ→Prop)(l:List α)(s:σ)(h:R s)(st:∀ a s,a∈l→R s→∃ s',(c (u a s)= .nx s'∨c (u a s)= .ct s')∧R s'):∃ s',forC u c l s= .nx s'∧R s':=by
 obtain⟨s',e,h'⟩:=az9 (τ:=Unit) (fun _ s=>R s) (fun _ _=>()) l () s h fun _ a s ha hs=>st a s ha hs;exact⟨s',e,h'⟩
theorem bd4{u:α→σ→σ}{c:σ→FlC σ β}(R:List α→σ→Prop)(l:List α)(s:σ)(h:R [] s)(st:∀ p a r s,l=p ++ a :: r→R p s→∃ s',(c (u a s)= .nx s'∨c (u a s)= .ct s')∧R (p ++ [a]) s'):∃ s',forC u c l s= .nx s'∧R l s':=by
 have key:∀ (r p:List α) (s:σ),l=p ++ r→R p s→∃ s',forC u c r s= .nx s'∧R l s':=by
  intro r
  induction r with
  |nil=>intro p s e h; rw[Af4] at e; exact⟨s,rfl,by rw[e]; exact h⟩
  |cons a r ih=>
    intro p s e h;obtain⟨s2,e2,h2⟩:=st p a r s e h;obtain⟨s',e',h'⟩:=ih (p ++ [a]) s2 (by rw[e]; simp) h2;refine⟨s',?_,h'⟩;unfold forC;rcases e2 with e2 | e2 <;> (rw[e2]; exact e')
 exact key l [] s rfl h
theorem bk4{t:σ→OutC σ Bool}{c:σ→FlC σ β}(R:Nat→σ→Prop)(S:σ→Prop)(st:∀ n s,R n s→(t s= .ok false s∧S s)∨(t s= .ok true s∧∃ m s2,m < n∧(c s= .nx s2∨c s= .ct s2)∧R m s2)):
 ∀ (fuel n:Nat) (s:σ),R n s→n < fuel→∃ s',whC t c fuel s= .nx s'∧S s'
 |0,n,s,h,hl=>absurd hl (Ar4 _)
 | fuel + 1,n,s,h,hl=>by
   unfold whC;rcases st n s h with ⟨e,hs⟩ | ⟨e,m,s2,hm,eb,h2⟩
   ·rw[e];exact⟨s,rfl,hs⟩
   ·rw[e];obtain⟨s',e',hs⟩:=bk4 R S st fuel m s2 h2 (by omega);refine⟨s',?_,hs⟩;dsimp only;rcases eb with eb | eb <;> (rw[eb]; exact e')
theorem aP7{ti:α→Res Bool}{te:α→Res β}(p:α→Bool)(g:α→β):∀ l:List α,(∀ a∈l,ti a= .ok (p a))→(∀ a∈l,p a=true→te a= .ok (g a))→an4 ti te l= .ok ((l.filter p).map g)
 |[],_,_=>rfl
 | a :: l,h1,h2=>by
   have ih:=aP7 p g l (fun b hb=>h1 b (List.mem_cons_of_mem _ hb)) fun b hb=>h2 b (List.mem_cons_of_mem _ hb);unfold an4;rw[h1 a List.mem_cons_self];show(if p a=true then _ else _)=_;cases hp:p a with
   |true=>
     rw[Aa6 rfl,h2 a Aa5 hp,ih,Af5,Aa6 hp];rfl
   |false=>rw[Aa3 Ab1,ih,Af5,Aa3 (by rw[hp]; exact Ab1)]
theorem bA3{src:σ→Res (List α)}{ti:α×σ→Res Bool}{te:α×σ→Res β}{s:σ}{l:List α}(p:α→Bool)(g:α→β)(hs:src s= .ok l)(hl:l.length < aa6)(h1:∀ a∈l,ti (a,s)= .ok (p a))(h2:∀ a∈l,p a=true→te (a,s)= .ok (g a)):
 aB7 src ti te s= .ok ((l.filter p).map g):=by
 unfold aB7;rw[hs];show(if l.length < aa6 then _ else _)=_;rw[if_pos hl];exact aP7 p g l h1 h2
theorem aJ9{src:σ→Res (List α)}{te:α×σ→Res β}{s:σ}{l:List α}(g:α→β)(hs:src s= .ok l)(hl:l.length < aa6)(h2:∀ a∈l,te (a,s)= .ok (g a)):
 aB7 src (fun _=> .ok true) te s= .ok (l.map g):=by
 rw[bA3 (fun _=>true) g hs hl (fun _ _=>rfl) fun a ha _=>h2 a ha,List.filter_eq_self.mpr fun _ _=>rfl]
theorem aC2(xs:List α){i:Int}(h:0≤i):atI xs i=xs[i.toNat]?:=by
 unfold atI ixN;rw[if_pos h];by_cases z:i < xs.length
 ·rw[Aa6 z]; rfl
 ·rw[Aa3 z,Ac6 (by omega)]; rfl
theorem bg0(xs:List α):atI xs (-1)=xs.getLast?:=by
 unfold atI ixN;rw[if_neg (by omega),List.getLast?_eq_getElem?];cases xs with
 |nil=>rfl
 |cons x r=>
   rw[Aa6 (by simp only[Ab2]; omega)];show(x :: r)[(-1 + ((x :: r).length:Int)).toNat]?=_;rw[show(-1 + ((x :: r).length:Int)).toNat=(x :: r).length - 1 by omega]
theorem cG6{n:Nat}{i:Int}(h:0≤i)(h1:i < n):ixN n i=some i.toNat:=by unfold ixN; rw[if_pos h,if_pos h1]
theorem an7(lo hi:Int):(rngI lo hi).length=(hi - lo).toNat:=by unfold rngI; simp
theorem aj1{lo hi x:Int}:x∈rngI lo hi↔lo≤x∧x < hi:=by
 unfold rngI;rw[List.mem_map];constructor
 · rintro⟨i,hi',rfl⟩
   have:=List.mem_range.mp hi'
   omega
 ·rintro⟨h1,h2⟩;exact⟨(x - lo).toNat,List.mem_range.mpr (by omega),by omega⟩
theorem bn2{lo hi x:Int}{p r:List Int}(h:rngI lo hi=p ++ x :: r):x=lo + p.length∧lo≤x∧x < hi:=by
 have hm:x∈rngI lo hi:=by rw[h]; simp
 have hx:=aj1.mp hm;have e:(rngI lo hi)[p.length]?=some x:=by rw[h,Af8 (Ab7 _),Ar3]; rfl
 unfold rngI at e;rw[List.getElem?_map] at e
 have hl:p.length < (hi - lo).toNat:=by
  have:=an7 lo hi
  rw[h,Ac4,Ab2] at this;omega
 rw[An0 hl] at e;injection e with e
 exact⟨e.symm,hx⟩
theorem aE1(lo hi:Int):(rngI lo hi).Nodup:=by
 unfold rngI;unfold List.Nodup;rw[List.pairwise_map];refine List.Pairwise.imp ?_ (List.nodup_range (n:=(hi - lo).toNat));intro a b h z;exact h (by omega)
theorem aI4{F:DI β}{k:List Int}{v:β}(h:F.get k=some v):(k,v)∈F:=by
 unfold DI.get at h;obtain⟨p,hp,rfl⟩:=Option.map_eq_some_iff.mp h
 have:=List.find?_some hp
 have e:p.1=k:=by simpa using this
 subst e;exact List.mem_of_find?_eq_some hp
theorem at6{P:List Int→Prop}{F:DI β}{k:List Int}{v:β}(h:∀ p∈F,P p.1)(hk:P k):∀ p∈F.put k v,P p.1:=by
 intro p hp;unfold DI.put at hp;split at hp
 ·obtain⟨q,hq,rfl⟩:=List.mem_map.mp hp;split <;> exact h q hq
 · rcases List.mem_append.mp hp with z | z
   ·exact h p z
   ·rw[List.mem_singleton.mp z]; exact hk
theorem cf5{F:DI β}{k:List Int}{v:β}:(F.put k v).length≤F.length + 1:=by
 unfold DI.put;split
 ·rw[Aa7]; omega
 ·rw[Ac4]; simp
def DI.nd(F:DI β):Prop:=(F.map (·.1)).Nodup
theorem aE5{F:DI β}{k:List Int}{v:β}(h:DI.nd F):DI.nd (F.put k v):=by
 unfold DI.nd DI.put at *;by_cases q:(F.get k).isSome=true
 · rw[Aa6 q,Af7]
   have:(F.map ((·.1) ∘ fun p=>if p.1=k then (p.1,v) else p))=F.map (·.1):=Aj1 fun p _=>by
    show(if p.1=k then (p.1,v) else p).1=p.1;split <;> rfl
   rw[this]; exact h
 · rw[Aa3 q,Ad3];refine List.nodup_append.mpr ⟨h,by simp,fun a ha b hb=>?_⟩;have e:b=k:=by simpa using hb
   subst e;rintro rfl;obtain⟨p,hp,e⟩:=List.mem_map.mp ha;apply q;unfold DI.get;rw[Option.isSome_map,List.find?_isSome];exact⟨p,hp,by simpa using e⟩
theorem an9{F:DI β}(h:DI.nd F){k:List Int}{v:β}(hm:(k,v)∈F):F.get k=some v:=by
 unfold DI.nd at h
 induction F with
 |nil=>cases hm
 |cons p F ih=>
   rw[List.map_cons,List.nodup_cons] at h;unfold DI.get;rw[List.find?_cons];by_cases e:p.1=k
   · rw[Ag2 e];rcases List.mem_cons.mp hm with z | z
     ·rw[← z]; rfl
     ·exact absurd (List.mem_map.mpr ⟨(k,v),z,e.symm⟩) h.1
   · rw[Ad2 e];rcases List.mem_cons.mp hm with z | z
     ·exact absurd (by rw[← z]) e
     ·exact ih h.2 z
end
end Cl
namespace L2
open PySem PySem.Spec PyProof.Rows
theorem bG5{X:Cx}(K:PySem.W.Frag)(h:X.K=K):SlR X (rSlL K):=by subst h; exact ce3
end L2
namespace Mi
open PySem L2
def cn4:D→D→Res D
 |.lst xs,.int k=>if 0≤k then .ok (.lst (xs.drop k.toNat)) else .bad
 |.scr xs,.int k=>if 0≤k then .ok (.lst (xs.drop k.toNat)) else .bad
 |_,_=> .bad
theorem be4{k:Int}(h:0≤k)(xs:List V):cutV xs (some k) none=xs.drop k.toNat:=by
 unfold cutV;have e:HT.sIx xs.length 0 (some k)=min k.toNat xs.length:=by show(if k < 0 then _ else _)=_; rw[if_neg (by omega)]
 rw[e,HT.bG9];by_cases z:k.toNat≤xs.length
 ·rw[Nat.min_eq_left z,List.take_of_length_le (by rw[List.length_drop]; omega)]
 ·rw[Nat.min_eq_right (by omega),Ar3,List.take_zero,Aq0 (by omega)]
section
variable{cm:Cm}{E:XK}{ms:List Md}{Kr:KT D V}{pr:Nat→Bool}
theorem cy1{ta tb:TE}{ma mb:Env→Res D}(ha:PJ cm (KC cm .F) E ms ta ma)(hb:PJ cm (KR cm .X) E ms tb mb):PJ cm (KO cm (.ct .fz)) E ms (tSl (rSlL cm.K) ta (cs3 tb) bk9) (bn cn4 ma mb):=by
 intro B U As σ H ρ Q R P;refine ha.bnd R P fun x v B1 U1 H1 N1 _ R1 e1 n1 d1 P1=>hb.bnd R1 P1 fun y u B2 U2 H2 N2 _ R2 e2 n2 d2 P2=>?_;have d1:Cn cm B1 H1 x v:=d1;have d2:Dn cm H2 y u:=d2;cases y with
 |int k=>
   rw[Dn] at d2;subst d2;refine⟨k,rfl,?_⟩;cases x with
   |lst ds=>
     obtain⟨a,xs,rfl,h1,h2⟩:=d1;replace P2:Po cm (KO cm (.ct .fz)) E ms B2 U2 As σ H2 ρ (if 0≤k then .ok (.lst (ds.drop k.toNat)) else .bad) Q:=P2;by_cases z:0≤k
     ·rw[Aa6 z] at P2;refine⟨a,xs,rfl,SqL.of (e2.h _ _ h1),fun p hp=>?_⟩;rw[be4 z];exact al5 R2 P2 ((h2.mono e2.b).drop _) hp
     ·rw[Aa3 z] at P2; exact P2.elim
   |scr ds=>
     obtain⟨a,xs,rfl,h1,h2⟩:=d1;replace P2:Po cm (KO cm (.ct .fz)) E ms B2 U2 As σ H2 ρ (if 0≤k then .ok (.lst (ds.drop k.toNat)) else .bad) Q:=P2;by_cases z:0≤k
     ·rw[Aa6 z] at P2;refine⟨a,xs,rfl,(h1.mono e2.h).sq,fun p hp=>?_⟩;rw[be4 z];exact al5 R2 P2 ((h2.mono e2.b).drop _) hp
     ·rw[Aa3 z] at P2; exact P2.elim
   |_=>exact P2.elim
 |_=>cases x <;> exact P2.elim
open Classical in
end
end Mi
namespace Cl
open PySem L2 Mi
section
variable{σ α β γ δ:Type}{rep:σ→Mi.Env}{eR:β→D}
@[simp] def cI0(xs:List α)(k:Int):Res (List α):=if 0≤k then .ok (xs.drop k.toNat) else .bad
theorem ch3(xs:List Int)(k:Int):SimR (eL D.int) (cn4 (eS xs) (.int k)) (cI0 xs k):=by
 show SimR (eL D.int) (if 0≤k then .ok (.lst ((xs.map D.int).drop k.toNat)) else .bad) (if 0≤k then .ok (xs.drop k.toNat) else .bad);rw[← List.map_drop];exact SimR.ite rfl trivial
open Classical in
end
end Cl
namespace Mi
open PySem L2
section
variable{cm:Cm}{E:XK}{ms:List Md}{K:PySem.W.Frag}
structure Prt (cm:Cm) (ms:List Md) (t:TE) (get:Env→Option D) (set:Env→D→Env) (i:Nat) (s:Sh):Prop where
 rd:∀ {B U:Hp} {As:Nat→List Addr} {σ:St} {H:Hp} {ρ:Env} {d:D},Rel cm ms B U As σ H ρ→get ρ=some d→∃ sh v0 d0 v L A R,ms.getD i .F= .O sh∧rg σ i=some v0∧rg ρ i=some d0∧As i=L ++ (A ++ R)∧(∀ Q:VK,Q v H→t σ H Q)∧Ow cm B H d s v A∧
  ∀ B1 H1 d' A1,Same B B1→(∀ a,a∈L∨a∈R→H1 a=H a)→Ow cm B1 H1 d' s v A1→∃ D',Ow cm B1 H1 D' sh v0 (L ++ (A1 ++ R))∧set ρ d'=ρ.set i (some D')
theorem prtV{i:Nat}{sh:Sh}(hm:ms.getD i .F= .O sh):Prt cm ms (tVar i) (aC7 i) (aL4 i) i sh where
 rd:=fun {B U As σ H ρ d} R e=>by
  replace e:rg ρ i=some d:=e;have l:=R.lo i;rw[e,hm] at l;obtain⟨v,hv,w⟩:=l;exact⟨sh,v,d,v,[],As i,[],hm,hv,e,by simp,fun Q q=>⟨v,ah1 hv,q⟩,w,fun B1 H1 d' A1 _ _ w'=>⟨d',by simpa using w',rfl⟩⟩
theorem Owf.lens{sh:List (Str×Sh)}{f:Str}{B H:Hp}:∀ {fs:List (Str×V)} {ds:List D} {A:List Addr} {d:D},Owf cm B H ds (fs.map (·.1)) sh (fs.map (·.2)) A→ae6 (fs.map (·.1)) ds f=some d→
 ∃ v L A1 R,fs.lookup f=some v∧A=L ++ (A1 ++ R)∧Ow cm B H d ((sh.lookup f).getD .fz) v A1∧∀ B1 H1 d' A2,Same B B1→(∀ a,a∈L∨a∈R→H1 a=H a)→Ow cm B1 H1 d' ((sh.lookup f).getD .fz) v A2→Owf cm B1 H1 (al0 (fs.map (·.1)) ds f d') (fs.map (·.1)) sh (fs.map (·.2)) (L ++ (A2 ++ R))
 |[],ds,A,d,h,e=>by cases ds <;> cases e
 | p :: fs,ds,A,d,h,e=>by
   cases ds with
   |nil=>cases e
   |cons d0 ds=>
     rw[List.map_cons,List.map_cons,Owf] at h;obtain⟨n,ns',x,r,X1,X2,hn,h0,h1,h2,h3⟩:=h;cases hn;cases h0;subst h1;rw[List.map_cons] at e;unfold ae6 at e;by_cases q:p.1=f
     ·rw[Aa6 q] at e;cases e;rw[q] at h2;refine⟨p.2,[],X1,X2,by rw[Ac9,← q,Ah5],rfl,h2,fun B1 H1 d' A2 sb k w=>?_⟩;rw[Aa2,Aa2,al0,Aa6 q,Owf];exact⟨p.1,_,p.2,_,A2,X2,rfl,rfl,rfl,by rw[q]; exact w,Owf.mono sb (fun b hb=>k b (.inr hb)) h3⟩
     ·rw[Aa3 q] at e;obtain⟨v,L,A1,R,hv,hA,ow,cl⟩:=Owf.lens h3 e;have hb:(f == p.1)=false:=beq_eq_false_iff_ne.mpr fun z=>q z.symm;refine⟨v,X1 ++ L,A1,R,by rw[Ac9,hb]; exact hv,by rw[hA,Ae9],ow,fun B1 H1 d' A2 sb k w=>?_⟩;rw[Aa2,Aa2,al0,Aa3 q,Owf];exact⟨p.1,_,p.2,_,X1,L ++ (A2 ++ R),rfl,rfl,by rw[Ae9],Ow.mono sb (fun b hb=>k b (.inl (Ab9 _ hb))) h2,cl B1 H1 d' A2 sb (fun b hb=>k b (hb.imp (fun z=>Aa8 _ z) id)) w⟩
theorem Ows.lens{s:Sh}{B H:Hp}:∀ {ds:List D} {xs:List V} {A:List Addr} {n:Nat} {d:D},Ows cm B H ds s xs A→ds[n]?=some d→
 ∃ v L A1 R,xs[n]?=some v∧A=L ++ (A1 ++ R)∧Ow cm B H d s v A1∧∀ B1 H1 d' A2,Same B B1→(∀ a,a∈L∨a∈R→H1 a=H a)→Ow cm B1 H1 d' s v A2→Ows cm B1 H1 (ds.set n d') s xs (L ++ (A2 ++ R))
 |[],xs,A,n,d,h,e=>by cases e
 | d0 :: ds,xs,A,n,d,h,e=>by
   rw[Ows] at h;obtain⟨x,r,X1,X2,rfl,h1,h2,h3⟩:=h;subst h1;cases n with
   |zero=>
     cases e;refine⟨x,[],X1,X2,rfl,rfl,h2,fun B1 H1 d' A2 sb k w=>?_⟩;rw[An7,Ows];exact⟨x,r,A2,X2,rfl,rfl,w,Ows.mono sb (fun b hb=>k b (.inr hb)) h3⟩
   |succ n=>
     obtain⟨v,L,A1,R,hv,hA,ow,cl⟩:=Ows.lens (n:=n) h3 (by simpa using e);refine⟨v,X1 ++ L,A1,R,by simpa using hv,by rw[hA,Ae9],ow,fun B1 H1 d' A2 sb k w=>?_⟩;rw[An8,Ows];exact⟨x,r,X1,L ++ (A2 ++ R),rfl,by rw[Ae9],Ow.mono sb (fun b hb=>k b (.inl (Ab9 _ hb))) h2,cl B1 H1 d' A2 sb (fun b hb=>k b (hb.imp (fun z=>Aa8 _ z) id)) w⟩
def aU7(get:Env→Option D)(c:Nat)(f:Str):Env→Option D:=fun ρ=>match get ρ with
 |some (.obj c' ns vs)=>if c'=c then ae6 ns vs f else none
 |_=>none
def bG6(get:Env→Option D)(set:Env→D→Env)(f:Str):Env→D→Env:=fun ρ d=>match get ρ with
 |some (.obj c ns vs)=>set ρ (.obj c ns (al0 ns vs f d))
 |_=>ρ
theorem Ow.ob{B H:Hp}{c:Nat}{ns:List Str}{ds:List D}{fs:List (Str×Sh)}{v:V}{A:List Addr}(w:Ow cm B H (.obj c ns ds) (.ob fs) v A):∃ (a dx:Addr) (xs:List (Str×V)) (A':List Addr),v= .ref a∧H a=some (.ins (cm c) dx xs)∧xs.map (·.1)=ns∧A=a :: A'∧Owf cm B H ds ns fs (xs.map (·.2)) A':=by rw[Ow] at w; exact w
theorem Ow.ob'{B H:Hp}{c:Nat}{ds:List D}{fs:List (Str×Sh)}{a dx:Addr}{xs:List (Str×V)}{A':List Addr}(h:H a=some (.ins (cm c) dx xs))(k:Owf cm B H ds (xs.map (·.1)) fs (xs.map (·.2)) A'):Ow cm B H (.obj c (xs.map (·.1)) ds) (.ob fs) (.ref a) (a :: A'):=by rw[Ow]; exact⟨a,dx,xs,A',rfl,h,rfl,rfl,k⟩
theorem Ow.ls{B H:Hp}{ds:List D}{s:Sh}{v:V}{A:List Addr}(w:Ow cm B H (.lst ds) (.ct s) v A):∃ (a:Addr) (xs:List V) (A':List Addr),v= .ref a∧H a=some (.lst xs)∧A=a :: A'∧Ows cm B H ds s xs A':=by rw[Ow] at w; exact w
theorem Ow.ls'{B H:Hp}{ds:List D}{s:Sh}{a:Addr}{xs:List V}{A':List Addr}(h:H a=some (.lst xs))(k:Ows cm B H ds s xs A'):Ow cm B H (.lst ds) (.ct s) (.ref a) (a :: A'):=by rw[Ow]; exact⟨a,xs,A',rfl,h,rfl,k⟩
theorem prtF{t:TE}{get:Env→Option D}{set:Env→D→Env}{i c:Nat}{f:Str}{fs:List (Str×Sh)}{s:Sh}(p:Prt cm ms t get set i (.ob fs))(hc:Cls K (cm c))(hn:NoAttr K (cm c) f)(hf:(fs.lookup f).getD .fz=s):
 Prt cm ms (tFld K t f) (aU7 get c f) (bG6 get set f) i s where
 rd:=fun {B U As σ H ρ d} R e=>by
  unfold aU7 at e;cases e0:get ρ with
  |none=>rw[e0] at e; cases e
  |some d1=>
    cases d1 with
    |obj c' ns vs=>
      rw[e0] at e;replace e:(if c'=c then ae6 ns vs f else none)=some d:=e;by_cases q:c'=c
      ·subst q;rw[if_pos rfl] at e;obtain⟨sh,v0,d0,v,L,A,R',hm,hv,hd,hA,ht,ow,cl⟩:=p.rd R e0;obtain⟨a,dx,xs,A',rfl,h1,rfl,rfl,h4⟩:=ow.ob;obtain⟨u,L2,A1,R2,hu,rfl,ow2,cl2⟩:=Owf.lens h4 e;rw[hf] at ow2 cl2;refine⟨sh,v0,d0,u,L ++ (a :: L2),A1,R2 ++ R',hm,hv,hd,by rw[hA]; simp[List.append_assoc],fun Q q=>ht _ ⟨a,_,dx,xs,u,rfl,h1,hc,hn,hu,q⟩,ow2,fun B1 H1 d' A2 sb k w=>?_⟩;have k1:∀ b,b∈L∨b∈R'→H1 b=H b:=fun b hb=>k b (hb.imp (fun z=>List.mem_append_left _ z) fun z=>List.mem_append_right _ z);have k2:H1 a=H a:=k a (.inl (List.mem_append_right _ List.mem_cons_self));have w2:=cl2 B1 H1 d' A2 sb (fun b hb=>k b (hb.imp (fun z=>List.mem_append_right _ (List.mem_cons_of_mem _ z)) fun z=>List.mem_append_left _ z)) w;obtain⟨D',w3,e3⟩:=cl B1 H1 _ _ sb k1 (Ow.ob' (by rw[k2]; exact h1) w2);refine⟨D',by simpa [List.append_assoc] using w3,?_⟩;unfold bG6;rw[e0];exact e3
      ·rw[Aa3 q] at e;cases e
    |_=>rw[e0] at e; cases e
def IxJ(cm:Cm)(ms:List Md)(tk:TE)(mk:Env→Option Int):Prop:=∀ {B U:Hp} {As:Nat→List Addr} {σ:St} {H:Hp} {ρ:Env} {k:Int},Rel cm ms B U As σ H ρ→mk ρ=some k→∀ Q:VK,Q (.int k) H→tk σ H Q
def ixV(j:Nat):Env→Option Int:=fun ρ=>match rg ρ j with
 |some (.int k)=>some k
 |_=>none
theorem bt4{j:Nat}:IxJ cm ms (tVar j) (ixV j):=fun {B U As σ H ρ k} R e Q q=>by
 unfold ixV at e;have l:=R.lo j;cases e0:rg ρ j with
 |none=>rw[e0] at e; cases e
 |some d=>
   cases d with
   |int n=>
     rw[e0] at e l;cases e;obtain⟨v,hv,w⟩:=l
     have:v= .int k:=by
      cases em:ms.getD j .F with
      |F=>rw[em] at w; have w:=w.1; rw[Dn] at w; exact w
      |R=>rw[em] at w; have w:=w.1; rw[Dn] at w; exact w
      |O s=>
        rw[em] at w;cases s with
        |fz=>have w:Ow cm B H (.int k) .fz v (As j):=w; rw[Ow] at w; have w:=w.1; rw[Dn] at w; exact w
        |ct s=>have w:Ow cm B H (.int k) (.ct s) v (As j):=w; simp[Ow] at w
        |ob s=>have w:Ow cm B H (.int k) (.ob s) v (As j):=w; simp[Ow] at w
     subst this;exact⟨_,ah1 hv,q⟩
   |_=>rw[e0] at e; cases e
def aU6(get:Env→Option D)(mk:Env→Option Int):Env→Option D:=fun ρ=>match get ρ,mk ρ with
 |some (.lst xs),some k=>if 0≤k then xs[k.toNat]? else none
 |_,_=>none
def bh5(get:Env→Option D)(set:Env→D→Env)(mk:Env→Option Int):Env→D→Env:=fun ρ d=>match get ρ,mk ρ with
 |some (.lst xs),some k=>set ρ (.lst (xs.set k.toNat d))
 |_,_=>ρ
theorem prtI{t tk:TE}{get:Env→Option D}{set:Env→D→Env}{mk:Env→Option Int}{i:Nat}{s:Sh}(p:Prt cm ms t get set i (.ct s))(hk:IxJ cm ms tk mk):Prt cm ms (tOp (rIxL K) t tk) (aU6 get mk) (bh5 get set mk) i s where
 rd:=fun {B U As σ H ρ d} R e=>by
  unfold aU6 at e;cases e0:get ρ with
  |none=>rw[e0] at e; cases e
  |some d1=>
    cases d1 with
    |lst ds=>
      cases e1:mk ρ with
      |none=>rw[e0,e1] at e; cases e
      |some k=>
        rw[e0,e1] at e;replace e:(if 0≤k then ds[k.toNat]? else none)=some d:=e;by_cases q:0≤k
        ·rw[if_pos q] at e;obtain⟨sh,v0,d0,v,L,A,R',hm,hv,hd,hA,ht,ow,cl⟩:=p.rd R e0;obtain⟨a,xs,A',rfl,h1,rfl,h4⟩:=ow.ls;obtain⟨u,L2,A1,R2,hu,rfl,ow2,cl2⟩:=Ows.lens h4 e;refine⟨sh,v0,d0,u,L ++ (a :: L2),A1,R2 ++ R',hm,hv,hd,by rw[hA]; simp[List.append_assoc],fun Q q'=>ht _ (hk R e1 _ ⟨a,xs,k,u,rfl,rfl,SqL.of h1,by rw[Cl.aC2 xs q]; exact hu,q'⟩),ow2,fun B1 H1 d' A2 sb kk w=>?_⟩;have k1:∀ b,b∈L∨b∈R'→H1 b=H b:=fun b hb=>kk b (hb.imp (fun z=>List.mem_append_left _ z) fun z=>List.mem_append_right _ z);have k2:H1 a=H a:=kk a (.inl (List.mem_append_right _ List.mem_cons_self));have w2:=cl2 B1 H1 d' A2 sb (fun b hb=>kk b (hb.imp (fun z=>List.mem_append_right _ (List.mem_cons_of_mem _ z)) fun z=>List.mem_append_left _ z)) w;obtain⟨D',w3,e3⟩:=cl B1 H1 _ _ sb k1 (Ow.ls' (by rw[k2]; exact h1) w2);refine⟨D',by simpa [List.append_assoc] using w3,?_⟩;unfold bh5;rw[e0,e1];exact e3
        ·rw[Aa3 q] at e;cases e
    |_=>rw[e0] at e; cases e
theorem pthP{t:TE}{get:Env→Option D}{set:Env→D→Env}{i:Nat}(p:Prt cm ms t get set i (.ct .fz)):Pth cm ms t get set where
 rd:=fun {B U As σ H ρ d} R e=>by
  obtain⟨sh,v0,d0,v,L,A,R',hm,hv,hd,hA,ht,ow,cl⟩:=p.rd R e;have nd:=R.nd i;rw[hA] at nd;obtain⟨_,nd2,nd3⟩:=List.nodup_append.mp nd;obtain⟨_,_,nd4⟩:=List.nodup_append.mp nd2;refine⟨v,A,ht,ow,fun a ha=>⟨i,by rw[hA]; exact Aa8 _ (Ab9 _ ha)⟩,fun B1 U1 H1 R1 sb sH a ha o' d' w'=>?_⟩;have hai:a∈As i:=by rw[hA]; exact Aa8 _ (Ab9 _ ha)
  have key:∀ b,b∈L∨b∈R'→upd H1 a o' b=H b:=fun b hb=>by
   have hbi:b∈As i:=by
    rw[hA];rcases hb with hb | hb
    ·exact Ab9 _ hb
    ·exact Aa8 _ (Aa8 _ hb)
   have hne:b≠a:=fun z=>by
    subst z;rcases hb with hb | hb
    ·exact nd3 b hb b (Ab9 _ ha) rfl
    ·exact nd4 b ha b hb rfl
   rw[ab0 hne];obtain⟨o,ho⟩:=R.at hbi;rw[ho,sH _ _ ho]
  obtain⟨D',w3,e3⟩:=cl B1 (upd H1 a o') d' A sb key w';rw[e3];exact R1.mut hm hv hd hai (by rw[hA]; exact w3)
end
end Mi
namespace L2
open PySem PySem.Spec PyProof.Rows PySem.W
section
variable{n:Nat}(hn:0 < n)
include hn
end
end L2
namespace Mi
open PySem L2
def az5:List D→Option (List (List Int))
 |[]=>some []
 |.tup ds :: r=>(match af2 ds,az5 r with | some k,some ks=>some (k :: ks) | _,_=>none)
 |_ :: _=>none
section
variable{cm:Cm}{E:XK}{ms:List Md}{K:PySem.W.Frag}
theorem bK6{ks:List (List Key)}{kss:List (List Int)}(e:az5 (ks.map fun k=> .tup (k.map kD))=some kss):ks=kss.map fun k=>k.map Sum.inl:=by
 have key:∀ {k:List Key} {ns:List Int},af2 (k.map kD)=some ns→k=ns.map Sum.inl:=by
  intro k
  induction k with
  |nil=>intro ns e; cases e; rfl
  |cons x k ih=>
    intro ns e;cases x with
    |inl i=>
      rw[Aa2] at e;have e:(af2 (k.map kD)).map (i :: ·)=some ns:=e;obtain⟨ms,e1,rfl⟩:=Option.map_eq_some_iff.mp e;rw[ih e1]; rfl
    |inr i=>cases e
 induction ks generalizing kss with
 |nil=>cases e; rfl
 |cons k ks ih=>
   rw[Aa2,az5] at e;cases e1:af2 (k.map kD) with
   |none=>rw[e1] at e; cases e
   |some n=>
     cases e2:az5 (ks.map fun k=> .tup (k.map kD)) with
     |none=>rw[e1,e2] at e; cases e
     |some ns=>
       rw[e1,e2] at e;cases e;rw[key e1,ih e2]; rfl
end
end Mi
namespace Cl
open PySem L2 Mi
section
variable{σ σ' α β γ δ:Type}{rep:σ→Mi.Env}{rep':σ'→Mi.Env}
theorem aN9:∀ l:List (List Int),az5 (l.map (eTs D.int))=some l
 |[]=>rfl
 | k :: l=>by
   rw[Aa2];show(match af2 (k.map D.int),az5 (l.map (eTs D.int)) with | some k,some ks=>some (k :: ks) | _,_=>none)=_;rw[ai2,aN9 l]
@[simp] def gI(g:σ→Option (List α))(k:σ→Option Int):σ→Option α:=fun s=>match g s,k s with
 |some l,some k=>if 0≤k then l[k.toNat]? else none
 |_,_=>none
@[simp] def pI(g:σ→Option (List α))(p:σ→List α→σ)(k:σ→Option Int):σ→α→σ:=fun s y=>match g s,k s with
 |some l,some k=>p s (l.set k.toNat y)
 |_,_=>s
theorem bt5{j:Nat}{k:σ→Option Int}(h:∀ s,rg (rep s) j=(k s).map D.int):∀ s,ixV j (rep s)=k s:=fun s=>by
 unfold ixV;rw[h];cases k s <;> rfl
theorem hgI{e:α→D}{get:Mi.Env→Option D}{mk:Mi.Env→Option Int}{g:σ→Option (List α)}{k:σ→Option Int}(hg:∀ s,get (rep s)=(g s).map (eL e))(hk:∀ s,mk (rep s)=k s)(s:σ):aU6 get mk (rep s)=(gI g k s).map e:=by
 unfold aU6 gI;rw[hg,hk];cases g s with
 |none=>rfl
 |some l=>
   cases k s with
   |none=>rfl
   |some k=>
     show(if 0≤k then (l.map e)[k.toNat]? else none)=(if 0≤k then l[k.toNat]? else none).map e;by_cases z:0≤k
     ·rw[Aa6 z,Aa6 z,Ac7]
     ·rw[Aa3 z,Aa3 z]; rfl
theorem hsI{e:α→D}{get:Mi.Env→Option D}{set:Mi.Env→D→Mi.Env}{mk:Mi.Env→Option Int}{g:σ→Option (List α)}{p:σ→List α→σ}{k:σ→Option Int}(hg:∀ s,get (rep s)=(g s).map (eL e))(hs:∀ s l,set (rep s) (eL e l)=rep (p s l))(hk:∀ s,mk (rep s)=k s)(s:σ)(y:α):
 bh5 get set mk (rep s) (e y)=rep (pI g p k s y):=by
 unfold bh5 pI;rw[hg,hk];cases g s with
 |none=>rfl
 |some l=>
   cases k s with
   |none=>rfl
   |some k=>
     show set (rep s) (.lst ((l.map e).set k.toNat (e y)))=rep (p s (l.set k.toNat y));rw[← hs,← Au6];rfl
end
end Cl
namespace L2
open PySem PySem.Spec PyProof.Rows
section
variable{X:Cx}{pins:List (Addr×Obj)}{σ:St}{H:Hp}{s:Shared}{a:Addr}{kvs:List (List Key×V)}
theorem bU0{h:Heap}{u:HO}(hu:∀ b xs,H b=some (.tup xs)→b≠a)(x:ObjOk X.prog X.w H h a (.dT kvs)):ObjOk X.prog X.w (upd H a u) h a (.dT kvs):=by
 obtain⟨z,y,xs,r,rest⟩:=x;refine⟨z,y,xs,?_,rest⟩
 have key:∀ {l1:List (List Key×V)} {l2:List (List Key×Addr×Value)},Paired (fun (p:List Key×V) (q:List Key×Addr×Value)=>p.1=q.1∧H q.2.1=some (.tup (p.1.map kV))∧RelV p.2 q.2.2) l1 l2→
  Paired (fun (p:List Key×V) (q:List Key×Addr×Value)=>p.1=q.1∧upd H a u q.2.1=some (.tup (p.1.map kV))∧RelV p.2 q.2.2) l1 l2:=by
  intro l1 l2 h
  induction h with
  |nil=>exact .nil
  |cons h _ ih=>exact .cons ⟨h.1,by rw[ab0 (hu _ _ h.2.1)]; exact h.2.1,h.2.2⟩ ih
 exact key r
theorem Inv.freeze(I:Inv X pins σ H s)(ha:H a=some (.dT kvs)):∃ o,s.heap.get? a=some o∧Inv X pins σ (upd H a (.frz o (.dT kvs))) s:=by
 have x:=I.hok a _ ha;obtain⟨_,_,_,_,o,es,ep,ho,_⟩:=(show ObjOk X.prog X.w H s.heap a (.dT kvs) from x);refine⟨o,ho,?_⟩
 have:=I.write (x:=a) (e:=a) (o:= .frz o (.dT kvs)) (h':=s.heap) (t':=s.toks) (by rw[ha]; trivial) (.inl rfl) (fun b u _ e=>e) ⟨o,ho⟩ ⟨ho,bU0 (X:=X) (fun b xs e z=>by rw[z,ha] at e; cases e) x⟩
 exact this
theorem Inv.thaw{o:Obj}(I:Inv X pins σ H s)(ha:H a=some (.frz o (.dT kvs)))(h0:∀ o u,X.H₀ a≠some (.frz o u)):Inv X pins σ (upd H a (.dT kvs)) s:=by
 have x:ObjOk X.prog X.w H s.heap a (.frz o (.dT kvs)):=I.hok a _ ha;have ne:∀ {b:Addr} {u:HO},H b=some u→(∀ o v,u≠ .frz o v)→b≠a:=fun {b u} e h z=>by rw[z,ha] at e; cases e; exact h _ _ rfl
 have none_ne:∀ {b:Addr},H b=none→b≠a:=fun {b} e z=>by rw[z,ha] at e; cases e
 refine⟨I.ok,I.os,I.bare,⟨I.base.keep,I.base.slot,fun b ob q n hx=>?_,I.base.there,fun b xs e=>?_,fun b ob u e=>?_,fun b l e=>?_⟩,I.loc,I.cell,?_,fun y c e=>?_,fun p hp=>?_,fun b u e=>?_,I.len⟩
 · have:=I.base.free b ob q n hx
   rw[ab0 (none_ne this)]; exact this
 · have:=I.base.tups b xs e
   rw[ab0 (ne this fun _ _ z=>by cases z)]; exact this
 ·have hb:b≠a:=fun z=>h0 ob u (z ▸ e);rw[ab0 hb]; exact I.base.frzs b ob u e
 ·obtain⟨h1,h2⟩:=I.base.tbls b l e;refine⟨by rw[ab0 (ne h1 fun _ _ z=>by cases z)]; exact h1,fun c ob e1 e2=>?_⟩;obtain⟨h3,h4⟩:=h2 c ob e1 e2;exact⟨by rw[ab0 (ne h3 fun _ _ z=>by cases z)]; exact h3,h4⟩
 ·rw[ab0 (none_ne I.free)]; exact I.free
 ·rw[ab0 (none_ne (I.freeC y c e))]; exact I.freeC y c e
 ·obtain⟨h1,h2,h3,h4⟩:=I.pin p hp;exact⟨h1,by rw[ab0 (none_ne h2)]; exact h2,h3,h4⟩
 · have tn:∀ b xs,H b=some (.tup xs)→b≠a:=fun b xs e=>ne e fun _ _ z=>by cases z
   by_cases z:b=a
   ·subst z;rw[ab3] at e;cases e;exact bU0 (X:=X) tn x.2
   · rw[ab0 z] at e;have y:=I.hok b u e
     have key:∀ (u:HO) (b:Addr),ObjOk X.prog X.w H s.heap b u→ObjOk X.prog X.w (upd H a (.dT kvs)) s.heap b u:=by
      intro u
      induction u with
      |dT kk=>
        intro b y;obtain⟨z,w,xs,r,rest⟩:=(show ObjOk X.prog X.w H s.heap b (.dT kk) from y);refine⟨z,w,xs,?_,rest⟩
        have key:∀ {l1:List (List Key×V)} {l2:List (List Key×Addr×Value)},Paired (fun (p:List Key×V) (q:List Key×Addr×Value)=>p.1=q.1∧H q.2.1=some (.tup (p.1.map kV))∧RelV p.2 q.2.2) l1 l2→
         Paired (fun (p:List Key×V) (q:List Key×Addr×Value)=>p.1=q.1∧upd H a (.dT kvs) q.2.1=some (.tup (p.1.map kV))∧RelV p.2 q.2.2) l1 l2:=by
         intro l1 l2 h
         induction h with
         |nil=>exact .nil
         |cons h _ ih=>exact .cons ⟨h.1,by rw[ab0 (tn _ _ h.2.1)]; exact h.2.1,h.2.2⟩ ih
        exact key r
      |ins C dx fs=>
        intro b y;obtain⟨h1,h2⟩:=(show ObjOk X.prog X.w H s.heap b (.ins C dx fs) from y);exact⟨by rw[ab0 (ne h1 fun _ _ z=>by cases z)]; exact h1,h2⟩
      |frz o u ih=>intro b y; exact⟨y.1,ih b y.2⟩
      |tbl l=>
        intro b y;obtain⟨h1,ps,h2,h3,h4⟩:=(show ObjOk X.prog X.w H s.heap b (.tbl l) from y);exact⟨h1,ps,h2,h3,fun x hx=>(h4 x hx).imp id fun ⟨c,e1,e2,e3⟩=>⟨c,e1,by rw[ab0 (ne e2 fun _ _ z=>by cases z)]; exact e2,e3⟩⟩
      |_=>intro b y; exact y
     exact key u b y
def Itd(a:Addr)(o:Obj)(bs:List Addr):It:=
 ⟨fun i H=>(∃ kvs:List (List Key×V),H a=some (.frz o (.dT kvs)))∧i < bs.length,fun i H x H'=>H'=H∧∃ b,bs[i]?=some b∧x= .ref b,fun i H=>(∃ kvs:List (List Key×V),H a=some (.frz o (.dT kvs)))∧bs.length≤i⟩
theorem bk8{P:Program}{w:World}{K:PySem.W.Frag}{tg:Expr}{o:Obj}{es:Array DictEntry}{ep:Nat}{bs:List Addr}(a it:Addr)(hx:o.ExactDict)(hd:o.data= .dict es ep)(hl:bs.length=es.size)(hk:∀ (i:Nat) (h:i < es.size) b,bs[i]?=some b→es[i].key= .ref b):
 Turn P w K tg (Itd a o bs) [it] it (fun i h=>i≤es.size∧h.IsKeyIter it a i es.size ep) where
 mem:=by simp
 obj:=fun i h st b hb=>by
  have e:b=it:=by simpa using hb
  subst e;obtain⟨_,o,e,c,d⟩:=st;exact⟨o,e,fun v z=>by rw[d] at z; cases z⟩
 keep:=fun i h h' st k=>⟨st.1,st.2.at fun o e=>k it (by simp) o e⟩
 item:=by
  intro X hP hw hK hc i pins s σ H E I hf st hg;subst hP hw hK;obtain⟨⟨kvs,ha⟩,hi⟩:=hg;have y:ObjOk X.prog X.w H s.heap a (.frz o (.dT kvs)):=I.hok a _ ha;obtain⟨f0,f1,f2,f3,f4,f5⟩:=hf it (by simp);have hi':i < es.size:=by omega
  refine ba5 st.2 ⟨o,y.1,hx,hd⟩ hi' fun h' st' sb=>?_;have I1:Inv X pins σ H { s with heap:=h' }:=I.turned (t':=s.toks) (fun b o hb e=>(sb.2 b hb).trans e) f0 f1 f3 f4 f5;obtain⟨oi,e,c,d⟩:=id st';have eb:bs[i]?=some (bs[i]):=Ab6 hi;refine⟨_,rfl,bL3 (s:={ s with heap:=h' }) e c d (by decide) ⟨.ref bs[i],H,I1,hk i hi' _ eb,⟨rfl,_,eb,rfl⟩,⟨hi',st'⟩,fun b hb=>(hf b hb).1⟩⟩
 done:=by
  intro X hP hw hK hc i pins s σ H E I hf st hg;subst hP hw hK;obtain⟨⟨kvs,ha⟩,hi⟩:=hg;have y:ObjOk X.prog X.w H s.heap a (.frz o (.dT kvs)):=I.hok a _ ha;obtain⟨f0,f1,f2,f3,f4,f5⟩:=hf it (by simp);have ei:i=es.size:=Nat.le_antisymm st.1 (by omega);subst ei;exact bo7 (I.ok.hd hc) st.2 ⟨o,y.1,hx,hd⟩ fun h' eb=>⟨rfl,I.turned (t':=s.toks) (fun b o hb e=>eb b o hb e) f0 f1 f3 f4 f5⟩
 self:=fun _ _ _ _ _ st h=>wpAny_pyIter_keyiter st.2 h
def iDct(tl:TE):TI:=fun σ H R=>tl σ H fun x H1=>∃ a o kvs,x= .ref a∧H1 a=some (.frz o (.dT kvs))∧
 ∀ bs:List Addr,bs.length=kvs.length→(∀ (i:Nat) k v b,kvs[i]?=some (k,v)→bs[i]?=some b→H1 b=some (.tup (k.map kV)))→R (Itd a o bs) H1
theorem cw5{tg l:Expr}{tl:TE}(hl:PE X l tl):PI X tg l (iDct tl):=by
 intro pins s σ H R I h;refine thn (hl pins s σ H _ I h) fun v s1 ⟨x,H1,I1,r1,q1⟩=>?_;obtain⟨a,o,kvs,rfl,ha,q⟩:=q1;cases r1;have y:ObjOk X.prog X.w H1 s1.heap a (.frz o (.dT kvs)):=I1.hok a _ ha;obtain⟨z,hd,ys,rel,o',es,ep,ho,hx,hdat,hes,hnd⟩:=(show ObjOk X.prog X.w H1 s1.heap a (.dT kvs) from y.2);have eo:o'=o:=by have:=y.1; rw[ho] at this; exact Ac1 this
 subst eo;have len1:kvs.length=ys.length:=Ai7 rel
 have len2:es.size=ys.length:=by
  have e:=congrArg List.length hes
  rwa [Aa7,Ae0] at e
 have hk:∀ (i:Nat) (h:i < es.size) b,(ys.map fun y=>y.2.1)[i]?=some b→es[i].key= .ref b:=fun i h b e=>by
  rw[Ac7] at e;cases ey:ys[i]? with
  |none=>rw[ey] at e; cases e
  |some y=>
    rw[ey] at e;have eb:y.2.1=b:=Ac1 e;have he':es.toList[i]?=some es[i]:=by rw[Am1]; exact Ak7 h
    rw[hes,Ac7,ey] at he';have ee:entryOfKey (tupleKind (ab6 X.prog X.w)) y=es[i]:=Ac1 he';rw[← ee,aN6,eb]
 refine ba4 hd ⟨o',ho,hx,hdat⟩ ?_;have I2:Inv X pins σ H1 { s1 with heap:=s1.heap.push { cls:= .type "dict_keyiterator",data:= .fields #[.ref a,.int 0 0,.int es.size 0,.int ep 0] } }:=I1.kept (t':=s1.toks) fun b o e=>Aa1 _ e;refine⟨s1.heap.objs.size,[s1.heap.objs.size],_,_,H1,rfl,I2,bk8 (bs:=ys.map fun y=>y.2.1) a _ hx hdat (by rw[Aa7,len2]) hk,⟨Ai8 _,⟨_,Ab8 _ rfl,rfl,rfl⟩⟩,fun b hb=>?_,q _ (by rw[Aa7,len1]) fun i k v b e1 e2=>?_⟩
 · have e:b=s1.heap.objs.size:=by simpa using hb
   subst e;exact I1.fpOk (Ab7 _) (I1.hok.fresh (Ab7 _))
 · rw[Ac7] at e2;cases ey:ys[i]? with
   |none=>rw[ey] at e2; cases e2
   |some y=>
     rw[ey] at e2;have eb:y.2.1=b:=Ac1 e2
     have pr:∀ {l1:List (List Key×V)} {l2:List (List Key×Addr×Value)},Paired (fun (p:List Key×V) (q:List Key×Addr×Value)=>p.1=q.1∧H1 q.2.1=some (.tup (p.1.map kV))∧RelV p.2 q.2.2) l1 l2→
      ∀ {i:Nat} {p q},l1[i]?=some p→l2[i]?=some q→H1 q.2.1=some (.tup (p.1.map kV)):=by
      intro l1 l2 hp
      induction hp with
      |nil=>intro i p q e; cases e
      |cons h1 _ ih=>
        intro i p q e1 e2;cases i with
        |zero=>cases e1; cases e2; exact h1.2.1
        |succ i=>exact ih e1 e2
     rw[← eb];exact pr rel e1 ey
def cs0(t:TE):TE:=fun σ H Q=>t σ H Q∨∃ a kvs,H a=some (.dT kvs)∧∀ o,t σ (upd H a (.frz o (.dT kvs))) fun v H1=>H1 a=some (.frz o (.dT kvs))∧Q v (upd H1 a (.dT kvs))
theorem cg2{e:Expr}{t:TE}(h:PE X e t):PE X e (cs0 t):=by
 intro pins s σ H Q I q;rcases q with q | ⟨a,kvs,ha,q⟩
 ·exact h pins s σ H Q I q
 · obtain⟨o,ho,I1⟩:=I.freeze ha;refine thn (h pins s σ _ _ I1 (q o)) fun u s1 ⟨v,H1,I2,r,e1,e2⟩=>⟨v,_,I2.thaw e1 fun o' u' z=>?_,r,e2⟩
   have:=I.base.frzs a o' u' z
   rw[ha] at this; cases this
end
end L2
namespace Mi
open PySem L2
structure Fz (a:Addr) (kvs:List (List Key×V)) (G G':Hp):Prop where
 ne:∀ b,b≠a→G' b=G b
 fr:∀ x,G a=some x→x= .dT kvs∨∃ o,x= .frz o (.dT kvs)
 to:∀ x,G a=some x→Rd G' a (.dT kvs)
 no:G a=none→G' a=none
section
variable{cm:Cm}{a:Addr}{kvs:List (List Key×V)}{E:XK}{ms:List Md}{K:PySem.W.Frag}
theorem Fz.at{G G':Hp}(F:Fz a kvs G G'){b:Addr}{x:HO}(e:G b=some x)(h1:∀ k,x≠ .dT k)(h2:∀ o k,x≠ .frz o (.dT k)):b≠a∧G' b=some x:=by
 have hb:b≠a:=fun z=>by
  subst z;rcases F.fr x e with q | ⟨o,q⟩
  ·exact h1 _ q
  ·exact h2 _ _ q
 exact⟨hb,by rw[F.ne b hb]; exact e⟩
mutual
theorem dn_fz{G G':Hp}(F:Fz a kvs G G'):∀ {d:D} {v:V},Dn cm G d v→Dn cm G' d v
 |.non,_,h=>by rw[Dn] at h ⊢; exact h
 |.bl _,_,h=>by rw[Dn] at h ⊢; exact h
 |.int _,_,h=>by rw[Dn] at h ⊢; exact h
 |.str _,_,h=>by rw[Dn] at h ⊢; exact h
 |.ty _,_,h=>by rw[Dn] at h ⊢; exact h
 | .lst ds,_,h=>by
   rw[Dn] at h ⊢;obtain⟨b,xs,r,h1,h2⟩:=h;exact⟨b,xs,r,(F.at h1 (fun _ z=>by cases z) (fun _ _ z=>by cases z)).2,dns_fz F h2⟩
 | .scr ds,_,h=>by
   rw[Dn] at h ⊢;obtain⟨b,xs,r,h1,h2⟩:=h;refine⟨b,xs,r,?_,dns_fz F h2⟩;rcases h1 with ⟨o,h1⟩ | h1
   ·exact .inl ⟨o,(F.at h1 (fun _ z=>by cases z) (fun _ _ z=>by cases z)).2⟩
   ·exact .inr h1
 | .tup ds,_,h=>by
   rw[Dn] at h ⊢;obtain⟨b,xs,r,h1,h2⟩:=h;exact⟨b,xs,r,(F.at h1 (fun _ z=>by cases z) (fun _ _ z=>by cases z)).2,dns_fz F h2⟩
 | .dK ks ds,_,h=>by
   rw[Dn] at h ⊢;obtain⟨b,xs,r,h1,h2,h3⟩:=h;exact⟨b,xs,r,(F.at h1 (fun _ z=>by cases z) (fun _ _ z=>by cases z)).2,h2,dns_fz F h3⟩
 | .dT ks ds,_,h=>by
   rw[Dn] at h ⊢;obtain⟨b,xs,r,h1,h2,h3⟩:=h;refine⟨b,xs,r,?_,h2,dns_fz F h3⟩;by_cases z:b=a
   · subst z;rcases h1 with h1 | ⟨o,h1⟩
     · rcases F.fr _ h1 with q | ⟨o,q⟩
       ·cases q; exact F.to _ h1
       ·cases q
     · rcases F.fr _ h1 with q | ⟨o',q⟩
       ·cases q
       ·cases q; exact F.to _ h1
   · rcases h1 with h1 | ⟨o,h1⟩
     ·exact .inl (by rw[F.ne b z]; exact h1)
     ·exact .inr ⟨o,by rw[F.ne b z]; exact h1⟩
 | .obj c ns ds,_,h=>by
   rw[Dn] at h ⊢;obtain⟨b,dx,xs,r,h1,h2,h3⟩:=h;exact⟨b,dx,xs,r,(F.at h1 (fun _ z=>by cases z) (fun _ _ z=>by cases z)).2,h2,dns_fz F h3⟩
theorem dns_fz{G G':Hp}(F:Fz a kvs G G'):∀ {ds:List D} {xs:List V},Dns cm G ds xs→Dns cm G' ds xs
 |[],_,h=>by rw[Dns] at h ⊢; exact h
 | d :: ds,_,h=>by
   rw[Dns] at h ⊢;obtain⟨x,r,h0,h1,h2⟩:=h;exact⟨x,r,h0,dn_fz F h1,dns_fz F h2⟩
end
mutual
theorem ow_fz{B B' H H':Hp}(F:Fz a kvs B B'):∀ {d:D} {s:Sh} {v:V} {A:List Addr},(∀ b∈A,H' b=H b)→Ow cm B H d s v A→Ow cm B' H' d s v A
 | d,.fz,v,A,k,h=>by
   rw[Ow] at h ⊢;exact⟨dn_fz F h.1,h.2⟩
 | .lst ds,.ct s,v,A,k,h=>by
   rw[Ow] at h ⊢;obtain⟨b,xs,A',r,h1,h2,h3⟩:=h;subst h2;exact⟨b,xs,A',r,by rw[k b Aa5]; exact h1,rfl,ows_fz F (fun c hc=>k c (Aa4 _ hc)) h3⟩
 | .dK ks ds,.ct s,v,A,k,h=>by
   rw[Ow] at h ⊢;obtain⟨b,xs,A',r,h1,h2,h3,h4⟩:=h;subst h3;exact⟨b,xs,A',r,by rw[k b Aa5]; exact h1,h2,rfl,ows_fz F (fun c hc=>k c (Aa4 _ hc)) h4⟩
 | .dT ks ds,.ct s,v,A,k,h=>by
   rw[Ow] at h ⊢;obtain⟨b,xs,A',r,h1,h2,h3,h4⟩:=h;subst h3;exact⟨b,xs,A',r,by rw[k b Aa5]; exact h1,h2,rfl,ows_fz F (fun c hc=>k c (Aa4 _ hc)) h4⟩
 | .obj c ns ds,.ob fs,v,A,k,h=>by
   rw[Ow] at h ⊢;obtain⟨b,dx,xs,A',r,h1,h2,h3,h4⟩:=h;subst h3;exact⟨b,dx,xs,A',r,by rw[k b Aa5]; exact h1,h2,rfl,owf_fz F (fun c hc=>k c (Aa4 _ hc)) h4⟩
 |.non,.ct _,_,_,_,h=>by simp[Ow] at h
 |.bl _,.ct _,_,_,_,h=>by simp[Ow] at h
 |.int _,.ct _,_,_,_,h=>by simp[Ow] at h
 |.str _,.ct _,_,_,_,h=>by simp[Ow] at h
 |.ty _,.ct _,_,_,_,h=>by simp[Ow] at h
 |.tup _,.ct _,_,_,_,h=>by simp[Ow] at h
 |.scr _,.ct _,_,_,_,h=>by simp[Ow] at h
 |.obj _ _ _,.ct _,_,_,_,h=>by simp[Ow] at h
 |.non,.ob _,_,_,_,h=>by simp[Ow] at h
 |.bl _,.ob _,_,_,_,h=>by simp[Ow] at h
 |.int _,.ob _,_,_,_,h=>by simp[Ow] at h
 |.str _,.ob _,_,_,_,h=>by simp[Ow] at h
 |.ty _,.ob _,_,_,_,h=>by simp[Ow] at h
 |.tup _,.ob _,_,_,_,h=>by simp[Ow] at h
 |.scr _,.ob _,_,_,_,h=>by simp[Ow] at h
 |.lst _,.ob _,_,_,_,h=>by simp[Ow] at h
 |.dK _ _,.ob _,_,_,_,h=>by simp[Ow] at h
 |.dT _ _,.ob _,_,_,_,h=>by simp[Ow] at h
theorem ows_fz{B B' H H':Hp}(F:Fz a kvs B B'):∀ {ds:List D} {s:Sh} {xs:List V} {A:List Addr},(∀ b∈A,H' b=H b)→Ows cm B H ds s xs A→Ows cm B' H' ds s xs A
 |[],_,_,_,_,h=>by rw[Ows] at h ⊢; exact h
 | d :: ds,s,xs,A,k,h=>by
   rw[Ows] at h ⊢;obtain⟨x,r,A1,A2,h0,h1,h2,h3⟩:=h;subst h1;exact⟨x,r,A1,A2,h0,rfl,ow_fz F (fun b hb=>k b (Ab9 _ hb)) h2,ows_fz F (fun b hb=>k b (Aa8 _ hb)) h3⟩
theorem owf_fz{B B' H H':Hp}(F:Fz a kvs B B'):∀ {ds:List D} {ns:List Str} {fs:List (Str×Sh)} {xs:List V} {A:List Addr},(∀ b∈A,H' b=H b)→Owf cm B H ds ns fs xs A→Owf cm B' H' ds ns fs xs A
 |[],_,_,_,_,_,h=>by rw[Owf] at h ⊢; exact h
 | d :: ds,ns,fs,xs,A,k,h=>by
   rw[Owf] at h ⊢;obtain⟨n,ns',x,r,A1,A2,hn,h0,h1,h2,h3⟩:=h;subst h1;exact⟨n,ns',x,r,A1,A2,hn,h0,rfl,ow_fz F (fun b hb=>k b (Ab9 _ hb)) h2,owf_fz F (fun b hb=>k b (Aa8 _ hb)) h3⟩
end
theorem Rel.fz{B U H B' U' H':Hp}{As:Nat→List Addr}{σ:St}{ρ:Env}(R:Rel cm ms B U As σ H ρ)(FB:Fz a kvs B B')(FU:Fz a kvs U U')(FH:Fz a kvs H H')(hA:∀ i,a∉As i)(bu:Same B' U')(uh:Same U' H'):Rel cm ms B' U' As σ H' ρ:=by
 have neA:∀ {i b},b∈As i→b≠a:=fun {i b} h z=>hA i (z ▸ h);refine⟨bu,uh,R.nd,R.dj,fun i b hb=>by rw[FU.ne b (neA hb)]; exact R.un i b hb,fun i=>?_,R.len,fun p hp=>?_⟩
 · have l:=R.lo i;unfold Lo at l ⊢;cases q:rg ρ i with
   |none=>rw[q] at l; exact l
   |some d=>
     rw[q] at l;obtain⟨v,hv,w⟩:=l;refine⟨v,hv,?_⟩;cases em:ms.getD i .F with
     |F=>rw[em] at w; exact⟨dn_fz FB w.1,w.2⟩
     |R=>rw[em] at w; exact⟨dn_fz FU w.1,w.2⟩
     |O s=>rw[em] at w; exact ow_fz FB (fun b hb=>FH.ne b (neA hb)) w
 ·obtain⟨l,h1,h2⟩:=R.tb p hp;exact⟨l,(FB.at h1 (fun _ z=>by cases z) (fun _ _ z=>by cases z)).2,h2⟩
def fzG(G:Hp)(a:Addr)(u:HO):Hp:=fun b=>if b=a then (G a).map fun _=>u else G b
theorem ag5{G:Hp}{u:HO}{b:Addr}(h:b≠a):fzG G a u b=G b:=Aa3 h
theorem ah9{G:Hp}{u x:HO}(h:G a=some x):fzG G a u a=some u:=by unfold fzG; rw[if_pos rfl,h]; rfl
theorem aO2{G:Hp}{u:HO}(h:G a=none):fzG G a u a=none:=by unfold fzG; rw[if_pos rfl,h]; rfl
theorem az8{G:Hp}{u:HO}(fr:∀ x,G a=some x→x= .dT kvs∨∃ o,x= .frz o (.dT kvs))(hu:u= .dT kvs∨∃ o,u= .frz o (.dT kvs)):Fz a kvs G (fzG G a u):=
 ⟨fun b h=>ag5 h,fr,fun x e=>by
  rcases hu with q | ⟨o,q⟩
  ·exact .inl (by rw[ah9 e,q])
  ·exact .inr ⟨o,by rw[ah9 e,q]⟩,fun e=>aO2 e⟩
theorem aw8{G G':Hp}{u:HO}(s:Same G G'):Same (fzG G a u) (fzG G' a u):=fun b x e=>by
 by_cases z:b=a
 · subst z;cases q:G b with
   |none=>rw[aO2 q] at e; cases e
   |some y=>rw[ah9 q] at e; rw[ah9 (s _ _ q)]; exact e
 ·rw[ag5 z] at e ⊢; exact s _ _ e
theorem aB6{mi:Env→Res Bool}{me:Env→Res D}{κ:Env}:∀ (ds:List D) (c:Nat),ad2 mi me κ ds≠ .exc c
 |[],c,h=>by cases h
 | d :: ds,c,h=>by
   rw[ad2] at h;have ih:=aB6 (mi:=mi) (me:=me) (κ:=κ) ds;cases e1:mi (some d :: κ) with
   |bad=>rw[e1] at h; cases h
   |exc x=>rw[e1] at h; cases h
   |ok b=>
     rw[e1] at h;cases b with
     |false=>exact ih c h
     |true=>
       cases e2:me (some d :: κ) with
       |bad=>rw[e2] at h; cases h
       |exc x=>rw[e2] at h; cases h
       |ok x=>
         rw[e2] at h;cases e3:ad2 mi me κ ds with
         |ok y=>rw[e3] at h; cases h
         |exc y=>exact ih y e3
         |bad=>rw[e3] at h; cases h
def srcK(m:Env→Res D):Env→Res (List D):=fun ρ=>(m ρ).bind fun d=>match d with
 |.dT ks _=> .ok (ks.map fun k=> .tup (k.map kD))
 |_=> .bad
theorem cg6{i c:Nat}{f:Str}{ix:List Nat}{ti:TT}{te:TE}{mi:Env→Res Bool}{me:Env→Res D}(hc:Cls K (cm c))(hn:NoAttr K (cm c) f)(hm:ms.getD i .F= .R)(hix:ix.Nodup)
 (hti:PJ cm KB E0 (msIn .F ms ix) ti mi) (hte:PJ cm (KR cm .F) E0 (msIn .F ms ix) te me):PJ cm (KO cm (.ct .fz)) E ms (cs0 (aK9 (iDct (tFld K (tVar i) f)) ix ti te)) (comp (srcK (un (fldD c f) (vr i))) ix mi me):=by
 intro B U As σ H ρ Q R P;have l:=R.lo i;rw[hm] at l;unfold comp srcK un vr at P;cases e:rg ρ i with
 |none=>rw[e] at P; exact P.elim
 |some d0=>
   rw[e] at P l;obtain⟨v0,hv0,w0⟩:=l;have w0:Dn cm U d0 v0:=w0.1;replace P:Po cm (KO cm (.ct .fz)) E ms B U As σ H ρ (((fldD c f d0).bind fun d=>match d with | .dT ks _=>Res.ok (ks.map fun k=>D.tup (k.map kD)) | _=> .bad).bind fun xs=>if xs.length < aa6 then (ad2 mi me (capD ρ ix) xs).bind fun ys=> .ok (.lst ys) else .bad) Q:=P;cases ef:fldD c f d0 with
   |bad=>rw[ef] at P; exact P.elim
   |exc x=>exact(aw9 ef).elim
   |ok d=>
     rw[ef] at P;obtain⟨ns,vs,rfl,lk⟩:=aI7 ef;rw[Dn] at w0;obtain⟨b,dx,fs,rfl,hb,hns,hvs⟩:=w0;subst hns;obtain⟨x,hx,dx'⟩:=aw7 hvs lk;cases d with
     |dT ks ds=>
       replace P:Po cm (KO cm (.ct .fz)) E ms B U As σ H ρ (if (ks.map fun k=>D.tup (k.map kD)).length < aa6 then (ad2 mi me (capD ρ ix) (ks.map fun k=>D.tup (k.map kD))).bind fun ys=> .ok (.lst ys) else .bad) Q:=P;rw[Dn] at dx';obtain⟨a,kvs,rfl,hrd,hks,_⟩:=dx'
       -- the walk over a frozen dict
       have core:∀ {B1 U1 H1:Hp} {o:Obj} {Q1:VK},Rel cm ms B1 U1 As σ H1 ρ→H1 a=some (.frz o (.dT kvs))→H1 b=some (.ins (cm c) dx fs)→
        (∀ bs:List Addr,(∀ y∈bs,∃ q,H1 y=some q∧aq3 q)→Po cm (KO cm (.ct .fz)) E ms (Mi.frz B1 H1 bs) (Mi.frz U1 H1 bs) As σ H1 ρ (if (ks.map fun k=>D.tup (k.map kD)).length < aa6 then (ad2 mi me (capD ρ ix) (ks.map fun k=>D.tup (k.map kD))).bind fun ys=> .ok (.lst ys) else .bad) Q1)→
        aK9 (iDct (tFld K (tVar i) f)) ix ti te σ H1 Q1:=fun {B1 U1 H1 o Q1} R1 ha1 hb1 P1=>by
        refine⟨.ref b,ah1 hv0,b,_,dx,fs,.ref a,rfl,hb1,hc,hn,hx,a,o,kvs,rfl,ha1,fun bs hl hk p hp=>?_⟩
        have tupAt:∀ y∈bs,∃ q,H1 y=some q∧aq3 q:=fun y hy=>by
         obtain⟨j,hj,ej⟩:=Am9 hy;have h4:bs[j]?=some y:=by rw[← ej]; exact Ab6 hj
         have h5:kvs[j]?=some (kvs[j]'(by omega)):=Ab6 (by omega);exact⟨_,hk j _ _ y (by rw[h5]) h4,_,rfl⟩
        have R2:Rel cm ms (Mi.frz B1 H1 bs) (Mi.frz U1 H1 bs) As σ H1 ρ:=R1.grow (af0 R1.bh) (af0 R1.uh) (Same.refl _) (aI6 R1.bu) (aU8 R1.uh) fun i a ha=>by
         unfold Mi.frz;split
         ·rename_i z;obtain⟨o,e,t⟩:=tupAt a z;exact(R1.nt ha e t).elim
         ·exact R1.un i a ha
        refine bA5 (k:= .F) hix (fun _ _ _ _ _=>inF) hti hte (fun _ _ _ _ _ _ _ _ _ _ _ _ _=>finO) (.inl rfl) R2 (vs:=bs.map V.ref) (fun H2 s2=>?_) ?_ (P1 bs tupAt) p hp
        ·have h1:=s2 _ _ ha1;refine⟨fun j hj=>⟨⟨kvs,h1⟩,by simpa using hj⟩,fun j hj=>⟨⟨kvs,h1⟩,by simpa using hj⟩,fun j y H' hj hy=>⟨hy.1,?_⟩⟩;obtain⟨q,e1,e2⟩:=hy.2;rw[Ac7,e1,e2]; rfl
        · refine Dns.of_get (by rw[Aa7,Aa7,hl,← hks,Aa7]) fun j d y ed ey=>?_;rw[Ac7] at ed ey;obtain⟨kk,ek,rfl⟩:=Option.map_eq_some_iff.mp ed;obtain⟨q,eq,rfl⟩:=Option.map_eq_some_iff.mp ey;rw[← hks,Ac7] at ek;obtain⟨kv,ekv,rfl⟩:=Option.map_eq_some_iff.mp ek
          have:=hk j kv.1 kv.2 q (by rw[ekv]) eq
          show Dn cm (Mi.frz B1 H1 bs) (.tup (kv.1.map kD)) (.ref q);rw[Dn];refine⟨q,_,rfl,?_,bw2 kv.1⟩;unfold Mi.frz;rw[if_pos (List.mem_of_getElem? eq)];exact this
       have gfrz:∀ {B1 U1 H1:Hp} {bs:List Addr},Rel cm ms B1 U1 As σ H1 ρ→(∀ y∈bs,∃ q,H1 y=some q∧aq3 q)→Gw B1 U1 H1 (Mi.frz B1 H1 bs) (Mi.frz U1 H1 bs) H1:=fun {B1 U1 H1 bs} R1 tupAt=>by
        refine⟨⟨af0 R1.bh,af0 R1.uh,fun a o q=>?_⟩,Same.refl _,fun a o q=>?_⟩
        · unfold Mi.frz at q;split at q
          ·rename_i z;obtain⟨o',e,t⟩:=tupAt a z;rw[e] at q; cases q;exact .inr (.inr t)
          ·exact .inl q
        · unfold Mi.frz at q;split at q
          ·rename_i z;obtain⟨o',e,t⟩:=tupAt a z;rw[e] at q; cases q;exact .inr (.inr t)
          ·exact .inl q
       rcases hrd with ha | ⟨o,ha⟩
       · refine .inr ⟨a,kvs,R.uh _ _ ha,fun o=>?_⟩;have hU:∀ x,U a=some x→x= .dT kvs:=fun x q=>by rw[ha] at q; cases q; rfl
         have hB:∀ x,B a=some x→x= .dT kvs:=fun x q=>hU x (R.bu _ _ q);have hH:H a=some (.dT kvs):=R.uh _ _ ha;have hA:∀ i,a∉As i:=fun i z=>by rw[R.un i a z] at ha; cases ha
         have eH:upd H a (.frz o (.dT kvs))=fzG H a (.frz o (.dT kvs)):=by
          funext y;by_cases z:y=a
          ·subst z; rw[ab3,ah9 hH]
          ·rw[ab0 z,ag5 z]
         rw[eH];have u0:(HO.frz o (.dT kvs))= .dT kvs∨∃ o',(HO.frz o (.dT kvs))= .frz o' (.dT kvs):= .inr ⟨o,rfl⟩
         have R1:Rel cm ms (fzG B a (.frz o (.dT kvs))) (fzG U a (.frz o (.dT kvs))) As σ (fzG H a (.frz o (.dT kvs))) ρ:=
          R.fz (az8 (fun x q=> .inl (hB x q)) u0) (az8 (fun x q=> .inl (hU x q)) u0) (az8 (fun x q=>by rw[hH] at q; cases q; exact .inl rfl) u0) hA (aw8 R.bu) (aw8 R.uh)
         have hb1:fzG H a (.frz o (.dT kvs)) b=some (.ins (cm c) dx fs):=by
          have hba:b≠a:=fun z=>by rw[z,ha] at hb; cases hb
          rw[ag5 hba]; exact R.uh _ _ hb
         refine core R1 (ah9 hH) hb1 fun bs tupAt=>?_;have g1:=gfrz R1 tupAt
         have abs:a∉bs:=fun z=>by
          obtain⟨q,e1,t⟩:=tupAt a z;rw[ah9 hH] at e1; cases e1; obtain⟨_,t⟩:=t; cases t
         by_cases zl:(ks.map fun k=>D.tup (k.map kD)).length < aa6
         · rw[Aa6 zl] at P ⊢;cases ec:ad2 mi me (capD ρ ix) (ks.map fun k=>D.tup (k.map kD)) with
           |bad=>rw[ec] at P; exact P.elim
           |exc q=>exact(aB6 _ _ ec).elim
           |ok zs=>
             rw[ec] at P;intro v B3 U3 H3 N R3 g3 n3 w3;have w3:Ow cm B3 H3 (.lst zs) (.ct .fz) v N:=w3;have h3a:H3 a=some (.frz o (.dT kvs)):=g3.h _ _ (ah9 hH);refine⟨h3a,?_⟩
             have eH3:upd H3 a (.dT kvs)=fzG H3 a (.dT kvs):=by
              funext y;by_cases z:y=a
              ·subst z; rw[ab3,ah9 h3a]
              ·rw[ab0 z,ag5 z]
             rw[eH3];have t0:(HO.dT kvs)= .dT kvs∨∃ o',(HO.dT kvs)= .frz o' (.dT kvs):= .inl rfl
             have f3:∀ {G:Hp},Same G H3→∀ x,G a=some x→x= .dT kvs∨∃ o',x= .frz o' (.dT kvs):=fun s x q=>by
              have:=s _ _ q
              rw[h3a] at this; cases this; exact .inr ⟨o,rfl⟩
             have hA3:a∉N:=fun z=>by have:=n3.fr a z; rw[ah9 hH] at this; cases this
             have U2a:Mi.frz (fzG U a (.frz o (.dT kvs))) (fzG H a (.frz o (.dT kvs))) bs a=some (.frz o (.dT kvs)):=by unfold Mi.frz; rw[if_neg abs]; exact ah9 ha
             have same1:∀ {G G3:Hp},Same G H→Same (Mi.frz (fzG G a (.frz o (.dT kvs))) (fzG H a (.frz o (.dT kvs))) bs) G3→Same G (fzG G3 a (.dT kvs)):=fun {G G3} sg s3 y x q=>by
              by_cases z:y=a
              · subst z;have hx:x= .dT kvs:=by have:=sg _ _ q; rw[hH] at this; cases this; rfl
                have:Mi.frz (fzG G y (.frz o (.dT kvs))) (fzG H y (.frz o (.dT kvs))) bs y=some (.frz o (.dT kvs)):=by unfold Mi.frz; rw[if_neg abs]; exact ah9 q
                rw[ah9 (s3 _ _ this),hx]
              · rw[ag5 z];refine s3 _ _ ?_;unfold Mi.frz;split
                ·rw[ag5 z]; exact sg _ _ q
                ·rw[ag5 z]; exact q
             refine P v (fzG B3 a (.dT kvs)) (fzG U3 a (.dT kvs)) (fzG H3 a (.dT kvs)) N (R3.fz (az8 (f3 R3.bh) t0) (az8 (f3 R3.uh) t0) (az8 (f3 (Same.refl _)) t0) hA (aw8 R3.bu) (aw8 R3.uh)) ⟨⟨same1 R.bh g3.b,same1 R.uh g3.u,fun y x q=>?_⟩,fun y x q=>?_,fun y x q=>?_⟩ ⟨n3.nd,fun y hy=>?_,fun y hy=>?_⟩ (ow_fz (az8 (f3 R3.bh) t0) (fun y hy=>ag5 fun z=>hA3 (z ▸ hy)) w3)
             · by_cases z:y=a
               · subst z;cases qb:B3 y with
                 |none=>rw[aO2 qb] at q; cases q
                 |some x'=>
                   rw[ah9 qb] at q;cases q;rcases g3.nb y x' qb with h | h | h
                   · unfold Mi.frz at h;rw[if_neg abs] at h;cases q0:B y with
                     |none=>rw[aO2 q0] at h; cases h
                     |some x0=>rw[hB x0 q0]; exact .inl rfl
                   ·rw[U2a] at h; cases h
                   ·have:=R3.bh _ _ qb; rw[h3a] at this; cases this; obtain⟨_,h⟩:=h; cases h
               · rw[ag5 z] at q;rcases g3.nb y x q with h | h | h
                 · unfold Mi.frz at h;split at h
                   ·rename_i hy;obtain⟨q1,e1,t⟩:=tupAt y hy;rw[e1] at h; cases h; exact .inr (.inr t)
                   ·rw[ag5 z] at h; exact .inl h
                 · unfold Mi.frz at h;split at h
                   ·rename_i hy;obtain⟨q1,e1,t⟩:=tupAt y hy;rw[e1] at h; cases h
                   ·rw[ag5 z] at h; exact .inr (.inl h)
                 ·exact .inr (.inr h)
             · by_cases z:y=a
               ·subst z; rw[hH] at q; cases q; exact ah9 h3a
               ·rw[ag5 z]; exact g3.h _ _ (by rw[ag5 z]; exact q)
             · by_cases z:y=a
               · subst z;cases qb:U3 y with
                 |none=>rw[aO2 qb] at q; cases q
                 |some x'=>rw[ah9 qb] at q; cases q; exact .inl ha
               · rw[ag5 z] at q;rcases g3.fr y x q with h | h | h
                 · unfold Mi.frz at h;split at h
                   ·rename_i hy;obtain⟨q1,e1,t⟩:=tupAt y hy;rw[e1] at h; cases h; exact .inr (.inr t)
                   ·rw[ag5 z] at h; exact .inl h
                 ·rw[ag5 z] at h; exact .inr (.inl h)
                 ·exact .inr (.inr h)
             · have:=n3.fr y hy
               have z:y≠a:=fun z=>hA3 (z ▸ hy);rw[ag5 z] at this; exact this
             · have:=n3.un y hy
               have z:y≠a:=fun z=>hA3 (z ▸ hy);rw[ag5 z]; exact this
         ·rw[Aa3 zl] at P; exact P.elim
       ·exact .inl (core R (R.uh _ _ ha) (R.uh _ _ hb) fun bs tupAt=>Po.at P (gfrz R tupAt))
     |_=>exact P.elim
end
end Mi
namespace L2
open PySem PySem.Spec PyProof.Rows
section
variable{prog:Program}{w:World}{A:Around}{E:Value→Shared→Prop}{s:Shared}
def aZ5(h:Heap)(es:Array DictEntry):Prop:=∀ e∈es,∃ b o,e.key= .ref b∧h.get? b=some o∧o.cls= .type "tuple"
theorem bp0{b:Addr}{o:Obj}{Q:Bool→Shared→Prop}(ho:s.heap.get? b=some o)(hc:o.cls= .type "tuple")(h:Q false s):wpAny (model prog w) A (Builtin.Dict.quietEq (.ref b)) Q E s:=by
 unfold Builtin.Dict.quietEq;dsimp only;refine wpAny_bind (wpAny_specialOf (T := "tuple") ⟨o,ho,hc⟩ PySem.F.slot_tuple_eq.lookup ?_);exact wpAny_pure h
theorem bL7{id:String}{d:Addr}{o:Obj}{es:Array DictEntry}{ep:Nat}{Q:Array DictEntry→Shared→Prop}(ho:s.heap.get? d=some o)(hd:o.data= .dict es ep)(hk:aZ5 s.heap es)(hh:∀ e∈es,¬ (es.filter (·.hash == e.hash)).size > 1)(h:Q es s):
 wpAny (model prog w) A (Builtin.Dict.entriesForEmpty id d) Q E s:=by
 unfold Builtin.Dict.entriesForEmpty;refine wpAny_bind (wpAny_dictEntries ho hd ?_);refine wpAny_bind ?_;rw[← Array.forIn_toList]
 have key:∀ l:List DictEntry,(∀ e∈l,e∈es)→wpAny (model prog w) A (forIn l PUnit.unit fun e (_:PUnit)=>(do
  let q ← Builtin.Dict.quietEq e.key
  if (!q)=true then
   if (es.filter (·.hash == e.hash)).size > 1 then (do let _ ← (unsupported s!"{id}:keys-of-equal-hash" : Sem PUnit); pure (ForInStep.yield PUnit.unit)) else pure (ForInStep.yield PUnit.unit)
  else pure (ForInStep.yield PUnit.unit):Sem (ForInStep PUnit))) (fun _ s'=>s'=s) E s:=by
  intro l
  induction l with
  |nil=>intro _; exact Aa9 rfl
  |cons e l ih=>
    intro hl;rw[List.forIn_cons];obtain⟨b,ob,ek,hb,hc⟩:=hk e (hl e Aa5);refine Aa0 (Aa0 ?_);rw[ek];refine bp0 hb hc ?_;simp only[Bool.not_false,Ag6];rw[Aa3 (hh e (hl e Aa5))];exact Aa9 (ih fun x hx=>hl x (Aa4 _ hx))
 refine Al3 (key es.toList fun e he=>Array.mem_toList_iff.mp he) (fun _ s' e=>?_) fun _ _ e=>e;subst e;exact Aa9 h
theorem bJ3{nm:String}{d o:Addr}{od:Obj}{epd:Nat}{es:Array DictEntry}{ep:Nat}{Q:Unit→Shared→Prop}(hdo:d≠o)(hoS:(o == sysModules)=false)(hd:s.heap.get? d=some od)(hdd:od.data= .dict #[] epd)(ho:RawD s.heap o es ep)
 (hk:aZ5 s.heap es) (hh:∀ e∈es,¬ (es.filter (·.hash == e.hash)).size > 1) (hz:es.size≤sizeLine) (h0:es=#[]→Q () s) (h1:Q () { s with heap:=s.heap.update d (Obj.mapDictKeys fun _=>es) }):
 wpAny (model prog w) A (Builtin.Dict.mergeDict nm d o) Q E s:=by
 obtain⟨oo,hoo,hx,hod⟩:=id ho;unfold Builtin.Dict.mergeDict;rw[if_neg (by simpa using hdo)];unfold Builtin.Dict.showsAll;rw[if_neg (by rw[hoS]; exact Bool.false_ne_true)];refine wpAny_bind (wpAny_pure ?_);refine wpAny_bind (wpAny_dictEntries hoo hod ?_);dsimp only;by_cases ez:es=#[]
 · subst ez;have few:(!(decide ((#[]:Array DictEntry).size≤8) && (#[]:Array DictEntry).all fun e=>(keyPart e.key).isSome))=false:=by simp
   rw[few,Aa3 Ab1];refine Aa0 (Aq8 hoo hod ?_);refine Aa0 (Ak6 hoo hod ?_);refine Aa0 ?_;rw[Std.Legacy.Range.forIn_eq_forIn_range'];simp only[Std.Legacy.Range.size,Nat.sub_zero,Nat.add_sub_cancel,Nat.div_one,Array.size_empty,List.range'_zero,List.forIn_nil];exact Aa9 (Aa9 (h0 rfl))
 · have hsz:0 < es.size:=by
    by_cases z:0 < es.size
    ·exact z
    ·exact absurd (Array.eq_empty_of_size_eq_zero (by omega)) ez
   have few:(!(decide (es.size≤8) && es.all fun e=>(keyPart e.key).isSome))=true:=by
    obtain⟨b,ob,ek,_⟩:=hk es[0] (Array.getElem_mem hsz)
    have:(es.all fun e=>(keyPart e.key).isSome)=false:=by
     cases q:es.all fun e=>(keyPart e.key).isSome with
     |false=>rfl
     |true=>
       have:=Array.all_eq_true.mp q 0 hsz
       rw[ek] at this;cases this
    rw[this,Bool.and_false]; rfl
   rw[few,Aa6 rfl];refine Aa0 (Ak6 hd hdd ?_);rw[Aa6 (by rfl)];refine Aa0 (bL7 hoo hod hk hh ?_);have hne:(!es.isEmpty)=true:=by simp[ez]
   rw[Aa6 hne];exact Aa0 (wpAny_updateDictKeysTo hd hdd (Aa9 h1) (by omega))
end
def aj5(k:List Int):Int:=reduceHash (Builtin.Tuple.tupleHashOf (k.map hashInt))
theorem bu5{P:Program}{w:World}(k:List Int):(tupleKind (ab6 P w)).hash (k.map Sum.inl)=aj5 k:=by
 show reduceHash (Builtin.Tuple.tupleHashOf ((k.map Sum.inl).map (keyH w)))=_;rw[Af7];rfl
theorem bj2{es:Array DictEntry}(h:(es.toList.map (·.hash)).Nodup):∀ e∈es,¬ (es.filter (·.hash == e.hash)).size > 1:=fun e he=>by
 rw[← Ae0,Array.toList_filter]
 have key:∀ {l:List DictEntry},(l.map (·.hash)).Nodup→(l.filter (·.hash == e.hash)).length≤1:=by
  intro l
  induction l with
  |nil=>intro _; simp
  |cons x l ih=>
    intro nd;rw[Aa2,An3] at nd;rw[Af5];by_cases z:(x.hash == e.hash)=true
    · rw[Aa6 z]
      have:l.filter (·.hash == e.hash)=[]:=List.filter_eq_nil_iff.mpr fun y hy q=>by
       have e1:x.hash=e.hash:=by simpa using z
       have e2:y.hash=e.hash:=by simpa using q
       exact nd.1 (List.mem_map.mpr ⟨y,hy,by rw[e1,e2]⟩)
      rw[this]; simp
    ·rw[Aa3 z]; exact ih nd.2
 have:=key h
 omega
section
variable{X:Cx}
def rUpd:V→List V→Hp→VK→Prop:=fun x vs H Q=>∃ (d b:Addr) (kvs:List (List Key×V)) (kss:List (List Int)),x= .ref d∧vs=[.ref b]∧H d=some (.dT [])∧Rd H b (.dT kvs)∧d≠b∧kvs.map (·.1)=kss.map (fun k=>k.map Sum.inl)∧(kss.map aj5).Nodup∧Q .non (upd H d (.dT kvs))
theorem ar6:MtR X "dict.update" rUpd:=by
 intro pins s σ H x vs v us Q I rx rv h;obtain⟨d,b,kvs,kss,rfl,rfl,hd,hb,hne,hk,hh,q⟩:=h;cases rx;obtain⟨u,rfl,ru⟩:=rv.one;cases ru;obtain⟨_,hsd,xs0,rel0,od,es0,epd,hod,hxd,hdd,hes0,_⟩:=(show ObjOk X.prog X.w H s.heap d (.dT []) from I.hok d _ hd);obtain⟨z,hsb,ys,rel,ob,es,ep,hob,hxb,hdb,hes,hnd⟩:=(show ObjOk X.prog X.w H s.heap b (.dT kvs) from hb.ok I.hok);have l0:xs0=[]:=by cases rel0; rfl
 subst l0
 have e0:es0=#[]:=by
  have:es0.toList=[]:=hes0
  exact Array.toList_inj.mp this
 subst e0;have len1:kvs.length=ys.length:=Ai7 rel
 have len2:es.size=ys.length:=by
  have e:=congrArg List.length hes
  rwa [Aa7,Ae0] at e
 have tk:aZ5 s.heap es:=fun e he=>by
  have he':e∈es.toList:=Array.mem_toList_iff.mpr he;rw[hes] at he';obtain⟨y,hy,rfl⟩:=List.mem_map.mp he'
  have key:∀ {l1:List (List Key×V)} {l2:List (List Key×Addr×Value)},Paired (fun (p:List Key×V) (q:List Key×Addr×Value)=>p.1=q.1∧H q.2.1=some (.tup (p.1.map kV))∧RelV p.2 q.2.2) l1 l2→∀ y∈l2,∃ k:List Key,H y.2.1=some (.tup (k.map kV)):=by
   intro l1 l2 h
   induction h with
   |nil=>intro y hy; cases hy
   |cons h _ ih=>
     intro y hy;rcases List.mem_cons.mp hy with e | e
     ·subst e; exact⟨_,h.2.1⟩
     ·exact ih y e
  obtain⟨k,hk⟩:=key rel y hy;obtain⟨its,_,⟨o,ho,hc,_⟩,_⟩:=I.tuple (a:=y.2.1) (xs:=k.map kV) (.inl (.inl hk));exact⟨y.2.1,o,rfl,ho,hc⟩
 have hk2:∀ {l1:List (List Key×V)} {l2:List (List Key×Addr×Value)},Paired (fun (p:List Key×V) (q:List Key×Addr×Value)=>p.1=q.1∧H q.2.1=some (.tup (p.1.map kV))∧RelV p.2 q.2.2) l1 l2→l1.map (·.1)=l2.map (·.1):=by
  intro l1 l2 h
  induction h with
  |nil=>rfl
  |cons h _ ih=>rw[Aa2,Aa2,h.1,ih]
 have hhash:(es.toList.map (·.hash)).Nodup:=by
  rw[hes,Af7]
  have e1:(ys.map ((·.hash) ∘ entryOfKey (tupleKind (ab6 X.prog X.w))))=kss.map aj5:=by
   have e2:ys.map (·.1)=kss.map fun k=>k.map Sum.inl:=by rw[← hk2 rel]; exact hk
   have e3:ys.map ((·.hash) ∘ entryOfKey (tupleKind (ab6 X.prog X.w)))=(ys.map (·.1)).map (tupleKind (ab6 X.prog X.w)).hash:=by rw[Af7]; rfl
   rw[e3,e2,Af7];exact Aj1 fun k _=>bu5 k
  rw[e1]; exact hh
 refine wpAny_call_entry PySem.F.slot_dict_update ⟨od,hod,hxd.1⟩ PySem.F.entry_dict_update ?_ (PySem.F.args_dict_update_2 _ _);have hTd:s.TypeIs (.ref d) "dict" := ⟨od,hod,hxd.1⟩;have hTb:s.TypeIs (.ref b) "dict" := ⟨ob,hob,hxb.1⟩;unfold Builtin.«dict.update»;refine wpAny_bind ?_;unfold Builtin.Dict.selfAndRest;refine wpAny_bind (wpAny_notOrdered_dict hTd ?_);show wpAny _ _ (pure (d,[Value.ref b])) _ _ s;refine wpAny_pure ?_;show wpAny _ _ (Builtin.Dict.updateFrom "dict.update" d (.ref b) [] .none) _ _ s;unfold Builtin.Dict.updateFrom;refine wpAny_bind (wpAny_typeOf hTb ?_);rw[if_neg (by decide)];refine wpAny_bind ?_;unfold Builtin.Dict.merge;refine wpAny_bind ?_;unfold Builtin.Dict.readDirectly;refine wpAny_bind (wpAny_isInstance hTb isSubtype_dict_dict ?_);simp only[Bool.not_true,Bool.false_eq_true,if_false];refine wpAny_bind (wpAny_specialOf hTb PySem.F.slot_dict_iter.lookup (wpAny_pure ?_));simp only[beq_self_eq_true,if_true];refine wpAny_bind (wpAny_pure ?_)
 have relU:Paired (fun (p:List Key×V) (q:List Key×Addr×Value)=>p.1=q.1∧upd H d (.dT kvs) q.2.1=some (.tup (p.1.map kV))∧RelV p.2 q.2.2) kvs ys:=by
  have key:∀ {l1:List (List Key×V)} {l2:List (List Key×Addr×Value)},Paired (fun (p:List Key×V) (q:List Key×Addr×Value)=>p.1=q.1∧H q.2.1=some (.tup (p.1.map kV))∧RelV p.2 q.2.2) l1 l2→
   Paired (fun (p:List Key×V) (q:List Key×Addr×Value)=>p.1=q.1∧upd H d (.dT kvs) q.2.1=some (.tup (p.1.map kV))∧RelV p.2 q.2.2) l1 l2:=by
   intro l1 l2 h
   induction h with
   |nil=>exact .nil
   |cons h _ ih=>exact .cons ⟨h.1,by rw[ab0 (fun z=>by have:=h.2.1; rw[z,hd] at this; cases this)]; exact h.2.1,h.2.2⟩ ih
  exact key rel
 refine bJ3 hne hsb hod hdd ⟨ob,hob,hxb,hdb⟩ tk (bj2 hhash) (by rw[len2,← len1]; exact z) (fun ez=>?_) ?_
 · show wpAny _ _ (Builtin.Dict.addKeywords d [] >>= _) _ _ _;have ey:kvs=[]:=List.length_eq_zero_iff.mp (by rw[len1,← len2,ez]; rfl);refine Aa0 (Aa9 (Aa9 ⟨.none,rfl,.non,H,I,rfl,?_⟩))
   have:upd H d (.dT kvs)=H:=by
    funext y;by_cases zy:y=d
    ·subst zy; rw[ab3,ey,hd]
    ·exact ab0 zy
   rw[this] at q; exact q
 · show wpAny _ _ (Builtin.Dict.addKeywords d [] >>= _) _ _ _;refine Aa0 (Aa9 (Aa9 ⟨.none,rfl,.non,_,I.write (x:=d) (e:=d) (o:= .dT kvs) (t':=s.toks) (by rw[hd]; trivial) (.inl rfl) (fun y u hy e=>?_) ⟨_,Ac3 _ hod (Al2 (Ag9 hdd _))⟩ ?_,rfl,q⟩))
   ·exact(Ab4 _ _ (Ai1 hy)).trans e
   ·exact⟨z,hsd,ys,relU,_,es,epd + 1,Ac3 _ hod (Al2 (Ag9 hdd _)),hxd.mapDictKeys _,Ag9 hdd _,hes,hnd⟩
end
section
variable{X:Cx}
def cr9(td:TE):TE:=fun σ H Q=>td σ H fun x H1=>∃ a kvs,x= .ref a∧Rd H1 a (.dK kvs)∧∀ l,H1 l=none→Q (.ref l) (upd H1 l (.lst (kvs.map (·.2))))
theorem cl7{kvs:List (Key×V)}{vs:List (Key×Value)}(r:KV kvs vs):Vals (kvs.map (·.2)) (vs.map (·.2)):=by
 induction r with
 |nil=>exact .nil
 |cons h _ ih=>exact .cons h.2 ih
theorem aT2{x:Str}{o:Expr}{td:TE}{p ap cp pos:Pos}(hc:X.calm=true)(hg:Gl X x)(hm:X.mg x=none)(hv:bootBuiltins x=some (.type "list"))(ho:PE X o td)
 (hn:x ≠ "__name__" := by decide) (hdb:(x == ("__debug__" : Str))=false:=by decide)
 (hbase:attributeBase o "values" X.env (eval o X.env)=eval o X.env:=by rfl) (hline:(ap.endLine == cp.line)=true:=by rfl)
 (hs':starEach [.Call (.Attribute o "values" ap) [] [] cp] X.env=(false,eval (.Call (.Attribute o "values" ap) [] [] cp) X.env) :: starEach [] X.env:=by rfl):
 PE X (.Call (.Name x p) [.Call (.Attribute o "values" ap) [] [] cp] [] pos) (cr9 td):=by
 intro pins s σ H Q I h;refine Ah6 (az1 I hg hm hv ?_ hn hdb);refine Ah2 (e:= .Call (.Attribute o "values" ap) [] [] cp) ?_ hs' rfl;rw[hs'];show wpAny _ _ (spliced ((false,eval (.Call (.Attribute o "values" ap) [] [] cp) X.env) :: backTo pos (starEach [] X.env))) _ _ s;refine Af3 ?_;refine wpAny_Call_method0_late hbase hline (thn (ho pins s σ H _ I h) fun u s1 ⟨x1,H1,I1,r1,q1⟩=>?_);obtain⟨a,kvs,rfl,hq,q⟩:=q1;have ru':u=Value.ref a:=r1;subst ru';obtain⟨t1,t2,_⟩:=aN8 I1 (.inl ⟨kvs,hq⟩);refine⟨"dict", "dict.values",Ad0,Ao5,PySem.F.type_dict_values,t1,t2,Af9 rfl (PySem.evalArgs_none ?_)⟩;obtain⟨z,hd,vs,rel,dd⟩:=aI9 I1.hok hq;refine Al4 Ao5 t1 PySem.F.entry_dict_values (PySem.F.args_dict_values_1 _) (meets_dict_values (ab6 X.prog X.w) a hd) ⟨⟨vs,dd⟩,?_⟩;refine Ai2 ?_;obtain⟨ob,es,ep,hob,hx,hdat,hk,hp,hnd⟩:=id dd;have hla:a < s1.heap.objs.size:=Ab3 hob
 refine PySem.W.kdl_call (s:={ s1 with heap:=s1.heap.push { cls:= .type "dict_values",data:= .fields #[.ref a] } }) (PySem.W.kdl_values (knd:=ab6 X.prog X.w) (d:=a) (r:=s1.heap.objs.size) (kvs:=vs) (ep:=ep)) (I1.ok.hd hc)
  ⟨⟨_,Ab8 _ rfl,rfl,rfl⟩,ob,es,Aa1 _ hob,hx,hdat,hk,hp,hnd⟩ (by rw[← rel.length]; exact z) fun h' tk acc' c' kp hD hacc=>?_
 have kp':∀ b o,s1.heap.get? b=some o→h'.get? b=some o:=fun b o eb=>kp b o (Heap.get?_push_of_some _ eb);have hacc':acc'.toList=vs.map (·.2):=PySem.W.kdl_vals_eq _ (by rw[Array.length_toList,hacc.1]) fun j v e=>hacc.2 j v (by rw[← Array.getElem?_toList]; exact e);have sz:(s1.heap.push { cls:= .type "dict_values",data:= .fields #[.ref a] }).objs.size=s1.heap.objs.size + 1:=Heap.size_push ..;dsimp only at hD;rw[sz] at hD;show EP X pins σ Q (.ref (s1.heap.push { cls:= .type "dict_values",data:= .fields #[.ref a] }).objs.size) _;rw[sz];refine⟨.ref (s1.heap.objs.size + 1),_,I1.laid (t':=tk) kp' (Nat.le_succ _) ?_,rfl,q _ (I1.hok.fresh (Nat.le_succ _))⟩;refine⟨by rw[List.length_map]; exact z,acc'.toList,c',by rw[hacc']; exact cl7 rel,?_⟩;rw[Array.toArray_toList];exact hD
theorem bB8:CallR X (.builtin "len") (fun xs H Q=>∃ a kvs,xs=[V.ref a]∧Rd H a (.dT kvs)∧Q (.int kvs.length) H):=by
 intro pins s σ H xs us Q I r h;obtain⟨a,kvs,rfl,ha,q⟩:=h;obtain⟨u,rfl,ru⟩:=bD7 r;cases ru;obtain⟨z,hd,ys,rel,o,es,ep,ho,hx,hdat,hes,_⟩:=(show ObjOk X.prog X.w H s.heap a (.dT kvs) from ha.ok I.hok);have len1:kvs.length=ys.length:=Ai7 rel
 have len2:es.size=ys.length:=by
  have e:=congrArg List.length hes
  rwa [Aa7,Ae0] at e
 have ht:s.TypeIs (.ref a) "dict" := ⟨o,ho,hx.1⟩;refine Calls.call_function_entry kind_len plain_len entry_len (args_len1 _) ?_;unfold Builtin.«len»;refine wpAny_bind (m:=oneArg "len" _) (wpAny_pure ?_)
 refine Aa0 (m:=callSpecial? (.ref a) (Str.ofString "__len__")) (wpAny_callSpecial?_slot (name:=Str.ofString "__len__") ht Ar5
  (wpAny_call_entry Ar5 ht PySem.F.entry_dict_len ?_ (PySem.F.args_dict_len_1 _)))
 show wpAny _ _ (dictSize a >>= _) _ _ s;unfold dictSize;refine wpAny_bind (wpAny_bind (wpAny_dictEntries ho hdat (wpAny_pure ?_)));show wpAny _ _ (Builtin.Dict.pendingCount a >>= _) _ _ s;refine wpAny_bind (wpAny_pendingCount_other hd ?_);refine wpAny_ret_mkInt ?_;have en:((es.size:Int) + ((0:Nat):Int))=(kvs.length:Int):=by rw[len2,← len1]; simp
 first | rw[en] | (rw[Nat.add_zero,len2,← len1])
 refine Aa0 (Af2 (Aa9 ?_));refine Aa0 (Ag1 ?_);have z2:=z;rw[As6] at z2;show wpAny _ _ (if ((kvs.length:Nat):Int) < 0 then _ else _) _ _ _;rw[Aa3 (by omega)];show wpAny _ _ (if ((kvs.length:Nat):Int) ≥ 2 ^ 63 then _ else _) _ _ _;rw[Aa3 (by omega)];exact Aa0 (wpAny_mkInt (Aa9 ⟨_,rfl,.int kvs.length,H,(I.tok _),⟨_,rfl⟩,q⟩))
def bO2(td:TE)(g:TG)(tb:TS):TS:=fun D σ H=>td σ H fun x H1=>∃ a kvs,x= .ref a∧Rd H1 a (.dT kvs)∧(kvs=[]→D.nx σ H1)∧
 ∀ k v r b,kvs=(k,v) :: r→H1 b=some (.tup (k.map kV))→g (.ref b) σ H1 fun σ2 H2=>tb { D with nx:=fun _ _=>False,ct:=fun _ _=>False,bk:=D.nx } σ2 H2
theorem bH4{tg iter:Expr}{body:List Stmt}{td:TE}{g:TG}{tb:TS}{pos:Pos}(hp:PassesOwn (model X.prog X.w) X.A X.env X.xe)(hc:X.calm=true)(hl:PE X iter td)(hg:PG X tg g)(hb:PSs X body tb)
 (hs:∀ x,foldedSetIterable iter X.env x=pure x:=by intro _; rfl):PS X (.For tg iter body [] pos) (bO2 td g tb):=by
 intro pins s σ H D I h;refine wpAny_For (thn (hl pins s σ H _ I h) fun v s1 ⟨x,H1,I1,r1,q1⟩=>?_) hs;obtain⟨a,kvs,rfl,ha,q0,q⟩:=q1;cases r1;obtain⟨z,hd,ys,rel,o,es,ep,ho,hx,hdat,hes,hnd⟩:=(show ObjOk X.prog X.w H1 s1.heap a (.dT kvs) from ha.ok I1.hok);have len1:kvs.length=ys.length:=Ai7 rel
 have len2:es.size=ys.length:=by
  have e:=congrArg List.length hes
  rwa [Aa7,Ae0] at e
 refine ba4 hd ⟨o,ho,hx,hdat⟩ ?_;have I2:Inv X pins σ H1 { s1 with heap:=s1.heap.push { cls:= .type "dict_keyiterator",data:= .fields #[.ref a,.int 0 0,.int es.size 0,.int ep 0] } }:=I1.kept (t':=s1.toks) fun b o e=>Aa1 _ e;have hf:=I1.fpOk (Ab7 _) (I1.hok.fresh (Ab7 _));have hit:(s1.heap.push { cls:= .type "dict_keyiterator",data:= .fields #[.ref a,.int 0 0,.int es.size 0,.int ep 0] }).IsKeyIter s1.heap.objs.size a 0 es.size ep:=⟨_,Ab8 _ rfl,rfl,rfl⟩;have hra:RawD (s1.heap.push { cls:= .type "dict_keyiterator",data:= .fields #[.ref a,.int 0 0,.int es.size 0,.int ep 0] }) a es ep:=⟨o,Aa1 _ ho,hx,hdat⟩;obtain⟨f0,f1,f2,f3,f4,f5⟩:=hf;refine codeAny_forLoop_any (fun _ s'=>s'={ s1 with heap:=s1.heap.push { cls:= .type "dict_keyiterator",data:= .fields #[.ref a,.int 0 0,.int es.size 0,.int ep 0] } }) ?_ 0 rfl;rintro n s3 rfl;cases kvs with
 |nil=>
   have e0:es.size=0:=by rw[len2,← len1]; rfl
   rw[e0] at hit;refine Ae1 hp (bo7 (s:={ s1 with heap:=_ }) (I2.ok.hd hc) (by rw[e0]; exact hit) hra fun h' eb=>?_);exact Al5 ⟨σ,H1,I2.turned (t':=s1.toks) (fun b o hb e=>eb b o hb e) f0 f1 f3 f4 f5,q0 rfl⟩
 |cons kv kvs=>
   cases ys with
   |nil=>cases len1
   |cons y ys=>
     cases rel with
     |cons hy rel=>
       have hlt:0 < es.size:=by rw[len2]; exact Nat.succ_pos _
       refine Ae1 hp (ba5 (s:={ s1 with heap:=_ }) hit hra hlt fun h' st' sb=>?_)
       have ek:es[0].key= .ref y.2.1:=by
        have he':es.toList[0]?=some es[0]:=by rw[Am1]; exact Ak7 hlt
        rw[hes] at he';have ee:entryOfKey (tupleKind (ab6 X.prog X.w)) y=es[0]:=Ac1 he';rw[← ee,aN6]
       rw[ek];have I3:Inv X pins σ H1 { s1 with heap:=h' }:=I2.turned (t':=s1.toks) (fun b o hb e=>(sb.2 b hb).trans e) f0 f1 f3 f4 f5;obtain⟨oi,e,c,d⟩:=id st';refine Ae1 hp (bL3 (s:={ s1 with heap:=h' }) e c d (by decide) ?_);refine Ae1 hp (thn (hg pins _ σ H1 (.ref y.2.1) (.ref y.2.1) _ I3 rfl (q kv.1 kv.2 kvs y.2.1 rfl hy.2.1)) fun _ s6 ⟨σ6,H6,I6,q6⟩=>?_);refine Ae1 hp (thn (hb _ s6 σ6 H6 _ I6 q6) fun f s7 q7=>?_);cases f with
       |next=>obtain⟨σ7,H7,I7,n7⟩:=q7; exact n7.elim
       |cont=>obtain⟨σ7,H7,I7,n7⟩:=q7; exact n7.elim
       |brk=>obtain⟨σ7,H7,I7,q7⟩:=q7; exact⟨σ7,H7,I7,q7⟩
       |ret v=>obtain⟨x7,σ7,H7,I7,r7,q7⟩:=q7; exact⟨x7,σ7,H7,I7,r7,q7⟩
end
end L2
namespace Mi
open PySem L2
section
variable{cm:Cm}{E:XK}{ms:List Md}{K:PySem.W.Frag}{B U H:Hp}{As:Nat→List Addr}{σ:St}{ρ:Env}{t:TE}{get:Env→Option D}{set:Env→D→Env}
def rdP(get:Env→Option D):Env→Res D:=fun ρ=>match get ρ with | some d=> .ok d | none=> .bad
theorem p_prt{i:Nat}(p:Prt cm ms t get set i (.ct .fz)):PJ cm (KC cm .F) E ms t (rdP get):=by
 intro B U As σ H ρ Q R P;unfold rdP at P;cases e:get ρ with
 |none=>rw[e] at P; exact P.elim
 |some d=>
   rw[e] at P;obtain⟨sh,v0,d0,v,L,A,R',hm,hv,hd,hA,ht,ow,cl⟩:=p.rd R e;exact ht _ (P v B U H [] R (Gw.refl _ _ _) New.nil (Ow.cn R.bh ow))
def bU7:D→Res D | .dK _ vs=> .ok (.lst vs) | _=> .bad
theorem cx1{ta:TE}{ma:Env→Res D}(ha:PJ cm (KC cm .F) E ms ta ma):PJ cm (KO cm (.ct .fz)) E ms (cr9 ta) (un bU7 ma):=by
 intro B U As σ H ρ Q R P;refine ha.bnd R P fun x v B1 U1 H1 N1 _ R1 e1 n1 d1 P1=>?_;cases x with
 |dK ks ds=>
   obtain⟨a,kvs,rfl,h1,h2,h3⟩:=d1;exact⟨a,kvs,rfl,.inl h1,fun l hl=>al5 R1 P1 h3 hl⟩
 |_=>exact P1.elim
def lenT:D→Res D | .dT ks _=> .ok (.int ks.length) | _=> .bad
theorem cx9{ta:TE}{ma:Env→Res D}(ha:PJ cm (KR cm .X) E ms ta ma):PJ cm (KR cm .F) E ms (tCB (fun xs H Q=>∃ a kvs,xs=[V.ref a]∧Rd H a (.dT kvs)∧Q (.int kvs.length) H) (af7 ta tNil)) (un lenT ma):=by
 intro B U As σ H ρ Q R P;refine ha.bnd R P fun x v B1 U1 H1 N1 _ R1 e1 n1 d1 P1=>?_;cases x with
 |dT ks ds=>
   have d1:Dn cm H1 (.dT ks ds) v:=d1;rw[Dn] at d1;obtain⟨a,kvs,rfl,h1,h2,h3⟩:=d1;refine⟨a,kvs,rfl,h1,?_⟩
   have:kvs.length=ks.length:=by rw[← h2,Aa7]
   rw[this];exact P1 _ B1 U1 H1 [] R1 (Gw.refl _ _ _) New.nil (by show Dn cm B1 (.int _) _; rw[Dn])
 |_=>exact P1.elim
def aw3:List Key→List D→Key→List Key×List D
 |k :: ks,d :: ds,j=>if k=j then aw3 ks ds j else (k :: (aw3 ks ds j).1,d :: (aw3 ks ds j).2)
 |_,_,_=>([],[])
theorem aO9{G:Hp}{k:Key}:∀ {kvs:List (Key×V)} {ds:List D},Dns cm G ds (kvs.map (·.2))→(aq5 kvs k).map (·.1)=(aw3 (kvs.map (·.1)) ds k).1∧Dns cm G (aw3 (kvs.map (·.1)) ds k).2 ((aq5 kvs k).map (·.2))
 | [],ds,h=>by
   cases ds <;> exact⟨rfl,by show Dns cm G [] []; rw[Dns]⟩
 | p :: kvs,ds,h=>by
   cases ds with
   |nil=>rw[Dns] at h; cases h
   |cons d ds=>
     rw[List.map_cons,Dns] at h;obtain⟨y,r,e,h1,h2⟩:=h;cases e;obtain⟨i1,i2⟩:=aO9 (k:=k) h2;unfold aq5 at i1 i2 ⊢;rw[List.map_cons,List.filter_cons,aw3];by_cases q:p.1=k
     ·rw[Aa3 (by simp[q]),Aa6 q];exact⟨i1,i2⟩
     ·rw[Aa6 (by simpa using q),Aa3 q];refine⟨by rw[Aa2,i1],?_⟩;rw[Aa2,Dns];exact⟨_,_,rfl,h1,i2⟩
def aP1(set:Env→D→Env)(ρ:Env)(ks:List Key)(vs:List D)(k:Key):Out D:=match ae6 ks vs k with
 |some y=> .ok y (set ρ (.dK (aw3 ks vs k).1 (aw3 ks vs k).2))
 |none=> .ok .non ρ
def bw1(get:Env→Option D)(set:Env→D→Env)(mk:Env→Res D):Env→Out D:=fun ρ=>match get ρ with
 |some (.dK ks vs)=>((mk ρ).up ρ).bind fun k ρ=>(match ai6 k with | some k=>aP1 set ρ ks vs k | none=> .bad)
 |_=> .bad
theorem cl3{tk:TE}{mk:Env→Res D}(p:Pth cm ms t get set)(hk:PJ cm (KR cm .X) E ms tk mk):MJ cm (KR cm .F) E ms (bO4 t tk (tC .non)) (bw1 get set mk):=by
 intro B U As σ H ρ Q R P;unfold bw1 at P;cases e:get ρ with
 |none=>rw[e] at P; exact P.elim
 |some d=>
   obtain⟨v,A,ht,ow,hA,cl⟩:=p.rd R e;cases d with
   |dK ks vs=>
     rw[e] at P;replace P:Mo cm (KR cm .F) E ms B U σ (((mk ρ).up ρ).bind fun k ρ=>(match ai6 k with | some k=>aP1 set ρ ks vs k | none=> .bad)) Q:=P;obtain⟨a,kvs,rfl,h1,h2,rfl,h3⟩:=ow.dK rfl;refine ht _ ⟨a,rfl,.inl ⟨kvs,.inl h1⟩,hk B U As σ H ρ _ R ?_⟩;cases em:mk ρ with
     |exc c=>rw[em] at P; exact fun B1 U1 H1 R1 g1=>P B1 U1 As H1 R1 g1.toEx
     |bad=>rw[em] at P; exact P.elim
     |ok kd=>
       rw[em] at P;intro u B1 U1 H1 N R1 g1 n1 hu;have hu:Dn cm H1 kd u:=hu;replace P:Mo cm (KR cm .F) E ms B U σ (match ai6 kd with | some k=>aP1 set ρ ks vs k | none=> .bad) Q:=P;cases ek:ai6 kd with
       |none=>rw[ek] at P; exact P.elim
       |some k=>
         rw[ek] at P;replace P:Mo cm (KR cm .F) E ms B U σ (aP1 set ρ ks vs k) Q:=P;have h3':Dns cm B1 vs (kvs.map (·.2)):=h3.mono g1.b;have hl:=ar8 (cm:=cm) (G:=B1) k h3';subst h2;unfold aP1 at P;refine⟨kvs,k,g1.h _ _ h1,aI1 ek hu,fun v hv=>?_,fun hv=>?_⟩
         · cases ey:ae6 (kvs.map (·.1)) vs k with
           |none=>rw[ey] at hl; rw[show valV kvs k=none from hl] at hv; cases hv
           |some y=>
             rw[ey] at hl P;obtain⟨w,ew,dw⟩:=hl;rw[ew] at hv; cases hv;obtain⟨i1,i2⟩:=aO9 (cm:=cm) (G:=B1) (k:=k) h3';refine P _ B1 U1 As _ [] (cl B1 U1 H1 R1 g1.b g1.h a Aa5 _ _ ?_) g1.toEx NewM.nil dw;rw[← i1];exact Ow.dK' ab3 i2
         · cases ey:ae6 (kvs.map (·.1)) vs k with
           |some y=>rw[ey] at hl; obtain⟨w,ew,dw⟩:=hl; rw[ew] at hv; cases hv
           |none=>
             rw[ey] at P;exact P .non B1 U1 As H1 [] R1 g1.toEx NewM.nil (by show Dn cm B1 .non .non; rw[Dn])
   |_=>rw[e] at P; exact P.elim
def updR(set:Env→D→Env)(ρ:Env):D→Out D
 |.dT ks vs=>(match az5 (ks.map fun k=> .tup (k.map kD)) with | some kss=>(if (kss.map aj5).Nodup∧vs.all ac3=true then .ok .non (set ρ (.dT ks vs)) else .bad) | none=> .bad)
 |_=> .bad
def updM(get:Env→Option D)(set:Env→D→Env)(me:Env→Res D):Env→Out D:=fun ρ=>match get ρ with
 |some (.dT [] _)=>((me ρ).up ρ).bind fun d ρ=>updR set ρ d
 |_=> .bad
theorem aw6{te:TE}{me:Env→Res D}(p:Pth cm ms t get set)(he:PJ cm (KR cm .U) E ms te me):MJ cm (KR cm .F) E ms (tBM K "dict" rUpd t (af7 te tNil)) (updM get set me):=by
 intro B U As σ H ρ Q R P;unfold updM at P;cases e:get ρ with
 |none=>rw[e] at P; exact P.elim
 |some d=>
   obtain⟨v,A,ht,ow,hA,cl⟩:=p.rd R e;cases d with
   |dT ks vs=>
     cases ks with
     |cons _ _=>rw[e] at P; exact P.elim
     |nil=>
       rw[e] at P;replace P:Mo cm (KR cm .F) E ms B U σ (((me ρ).up ρ).bind fun d ρ=>updR set ρ d) Q:=P;obtain⟨a,kvs,rfl,h1,h2,rfl,h3⟩:=ow.dT rfl;have hk0:kvs=[]:=List.map_eq_nil_iff.mp h2;subst hk0;refine ht _ ⟨.inr (.inr (.inl ⟨rfl,.inr ⟨_,h1⟩⟩)),he B U As σ H ρ _ R ?_⟩;cases em:me ρ with
       |exc c=>rw[em] at P; exact fun B1 U1 H1 R1 g1=>P B1 U1 As H1 R1 g1.toEx
       |bad=>rw[em] at P; exact P.elim
       |ok x=>
         rw[em] at P;intro u B1 U1 H1 N R1 g1 n1 hu;have hu:Dn cm U1 x u:=hu;replace P:Mo cm (KR cm .F) E ms B U σ (updR set ρ x) Q:=P;cases x with
         |dT ks ds=>
           replace P:Mo cm (KR cm .F) E ms B U σ (match az5 (ks.map fun k=> .tup (k.map kD)) with | some kss=>(if (kss.map aj5).Nodup∧ds.all ac3=true then .ok .non (set ρ (.dT ks ds)) else .bad) | none=> .bad) Q:=P;cases ei:az5 (ks.map fun k=> .tup (k.map kD)) with
           |none=>rw[ei] at P; exact P.elim
           |some kss=>
             rw[ei] at P;dsimp only at P;by_cases z:(kss.map aj5).Nodup∧ds.all ac3=true
             · rw[Aa6 z] at P;rw[Dn] at hu;obtain⟨b,kv2,rfl,hb,hks,hds⟩:=hu;have ek:=bK6 ei;obtain⟨i,hai⟩:=hA a Aa5;have ua:=R1.un i a hai
               have hne:a≠b:=fun q=>by
                subst q;rcases hb with hb | ⟨o,hb⟩ <;> (rw[ua] at hb; cases hb)
               refine⟨a,b,kv2,kss,rfl,rfl,g1.h _ _ h1,ay1 R1.uh hb,hne,by rw[hks,ek],z.1,?_⟩;refine P .non B1 U1 As _ [] (cl B1 U1 H1 R1 g1.b g1.h a Aa5 _ _ ?_) g1.toEx NewM.nil (by show Dn cm B1 .non .non; rw[Dn]);rw[← hks];exact Ow.dT' ab3 (ai8 z.2 hds)
             ·rw[Aa3 z] at P; exact P.elim
         |_=>exact P.elim
   |_=>rw[e] at P; exact P.elim
def mmL(c:Nat)(mn:Str)(i:Nat)(fm:List D→Out D)(a b:Env→Res D)(x:Env→Out D):Env→Out D:=fun ρ=>match rg ρ i with
 |none=> .bad
 |some o=>if af1 c mn o=true then ((a ρ).up ρ).bind fun y ρ=>((b ρ).up ρ).bind fun z ρ=>(x ρ).bind fun w ρ1=>(match rg ρ1 i with | some o1=>aj7 [.O i,.F,.F,.F] fm [o1,y,z,w] ρ1 | none=> .bad) else .bad
theorem cl1{c:Nat}{mn:Str}{msC:List Md}{Kr:KT D V}{fm:List D→Out D}{i:Nat}{ta tb tx:TE}{ma mb:Env→Res D}{mx:Env→Out D}(ha:PJ cm (KR cm .F) E ms ta ma)(hb:PJ cm (KR cm .F) E ms tb mb)(hx:MJ cm (KR cm .F) E ms tx mx)
 (hf:fitM ms [.O i,.F,.F,.F] msC) (hU:∀ d v B U U' H N,Kr d v B U H N→Kr d v B U' H N):MJ cm Kr E ms (aG3 (cm c) mn (spM cm msC Kr fm) [] E (tVar i) (af7 ta (af7 tb (af7 tx tNil)))) (mmL c mn i fm ma mb mx):=by
 intro B U As σ H ρ Q R P;unfold mmL at P;cases e:rg ρ i with
 |none=>rw[e] at P; exact P.elim
 |some o=>
   rw[e] at P;dsimp only at P;by_cases z:af1 c mn o=true
   · rw[Aa6 z] at P;have l:=R.lo i;rw[e] at l;obtain⟨v0,hv0,_⟩:=l;refine⟨v0,ah1 hv0,?_⟩;obtain⟨a,dx,fs,rfl,h1,h2⟩:=ay5 z (R.read hv0 e);refine⟨a,dx,fs,rfl,h1,h2,ha B U As σ H ρ _ R ?_⟩;cases e1:ma ρ with
     |bad=>rw[e1] at P; exact P
     |exc c=>rw[e1] at P; exact fun B1 U1 H1 R1 g1=>P B1 U1 As H1 R1 g1.toEx
     |ok y=>
       rw[e1] at P;intro v1 B1 U1 H1 N1 R1 g1 n1 d1;refine hb B1 U1 As σ H1 ρ _ R1 ?_;replace P:Mo cm Kr E ms B U σ (((mb ρ).up ρ).bind fun z ρ=>(mx ρ).bind fun w ρ1=>(match rg ρ1 i with | some o1=>aj7 [.O i,.F,.F,.F] fm [o1,y,z,w] ρ1 | none=> .bad)) Q:=P;cases e2:mb ρ with
       |bad=>rw[e2] at P; exact P
       |exc c=>rw[e2] at P; exact fun B2 U2 H2 R2 g2=>P B2 U2 As H2 R2 (g1.toEx.trans g2.toEx)
       |ok z=>
         rw[e2] at P;intro v2 B2 U2 H2 N2 R2 g2 n2 d2;refine hx B2 U2 As σ H2 ρ _ R2 ?_;replace P:Mo cm Kr E ms B U σ ((mx ρ).bind fun w ρ1=>(match rg ρ1 i with | some o1=>aj7 [.O i,.F,.F,.F] fm [o1,y,z,w] ρ1 | none=> .bad)) Q:=P;cases e3:mx ρ with
         |bad=>rw[e3] at P; exact P
         |exc c ρ1=>rw[e3] at P; exact fun B3 U3 As3 H3 R3 g3=>P B3 U3 As3 H3 R3 ((g1.toEx.trans g2.toEx).trans g3)
         |ok w ρ1=>
           rw[e3] at P;replace P:Mo cm Kr E ms B U σ (match rg ρ1 i with | some o1=>aj7 [.O i,.F,.F,.F] fm [o1,y,z,w] ρ1 | none=> .bad) Q:=P;intro v3 B3 U3 As3 H3 N3 R3 g3 n3 d3;cases eo:rg ρ1 i with
           |none=>rw[eo] at P; exact P.elim
           |some o1=>
             rw[eo] at P;dsimp only at P;have d1:Dn cm B1 y v1:=d1;have d2:Dn cm B2 z v2:=d2;have d3:Dn cm B3 w v3:=d3;refine bf8 (ps:=[.O i,.F,.F,.F]) (ds:=[o1,y,z,w]) (vs:=[.ref a,v1,v2,v3]) R3 ?_ hf (by simp[lent]) (fun k hk=>by simp[borr] at hk) hU (Mo.at (r:=aj7 [.O i,.F,.F,.F] fm [o1,y,z,w] ρ1) P ((g1.toEx.trans g2.toEx).trans g3));exact⟨o1,_,_,_,rfl,rfl,⟨hv0,eo⟩,y,_,_,_,rfl,rfl,Dn.mono (g2.b.trans g3.b) d1,z,_,_,_,rfl,rfl,Dn.mono g3.b d2,w,_,_,_,rfl,rfl,d3,rfl,rfl⟩
   ·rw[Aa3 z] at P; exact P.elim
theorem ci0{c:Nat}{mn:Str}{msC:List Md}{fm:List D→Out D}{i:Nat}{ta tb tx:TE}{ma mb:Env→Res D}{mx:Env→Out D}(ha:PJ cm (KR cm .F) E0 ms ta ma)(hb:PJ cm (KR cm .F) E0 ms tb mb)(hx:MJ cm (KR cm .F) E0 ms tx mx)
 (hf:fitM ms [.O i,.F,.F,.F] msC):MJ cm (KR cm .F) E0 ms (aG3 (cm c) mn (spZ cm msC (KR cm .F) fm) [] E0 (tVar i) (af7 ta (af7 tb (af7 tx tNil)))) (mmL c mn i fm ma mb mx):=cl1 ha hb hx hf fun _ _ _ _ _ _ _ h=>h
end
section
variable{cm:Cm}{E:XK}{Kr:KT D V}{pr:Nat→Bool}{ms:List Md}{K:PySem.W.Frag}{B U H:Hp}{As:Nat→List Addr}{σ:St}{ρ:Env}
def aO4(c:Nat)(f:Str)(i j:Nat):Env→SO:=fun ρ=>match rg ρ i with
 |none=> .bad
 | some d=>(match fldD c f d with
   |.ok (.dT [] _)=> .nx ρ
   |.ok (.dT (k :: _) _)=>if j < ρ.length then .rt (.tup (k.map kD)) (ρ.set j (some (.tup (k.map kD)))) else .bad
   |_=> .bad)
theorem ce6{i j c:Nat}{f:Str}(hc:Cls K (cm c))(hn:NoAttr K (cm c) f)(hm:ms.getD i .F= .R)(hj:ms.getD j .F= .F)(hp:pr j=false):
 SJ cm E (KR cm .F) pr ms (bO2 (tFld K (tVar i) f) (aD3 j) (tRet (tVar j))) (aO4 c f i j):=by
 intro B U As σ H ρ D R P;have l:=R.lo i;rw[hm] at l;unfold aO4 at P;cases e:rg ρ i with
 |none=>rw[e] at P; exact P.elim
 |some d0=>
   rw[e] at P l;dsimp only at P;obtain⟨v0,hv0,w0⟩:=l;have w0:Dn cm U d0 v0:=w0.1;cases ef:fldD c f d0 with
   |bad=>rw[ef] at P; exact P.elim
   |exc x=>exact(aw9 ef).elim
   |ok d=>
     rw[ef] at P;obtain⟨ns,vs,rfl,lk⟩:=aI7 ef;rw[Dn] at w0;obtain⟨b,dx,fs,rfl,hb,hns,hvs⟩:=w0;subst hns;obtain⟨x,hx,dx'⟩:=aw7 hvs lk;cases d with
     |dT ks ds=>
       rw[Dn] at dx';obtain⟨a,kvs,rfl,hrd,hks,_⟩:=dx';refine⟨.ref b,ah1 hv0,b,_,dx,fs,.ref a,rfl,R.uh _ _ hb,hc,hn,hx,a,kvs,rfl,ay1 R.uh hrd,fun ek=>?_,fun k v r y ek hy=>?_⟩
       · subst ek;cases ks with
         |cons _ _=>cases hks
         |nil=>exact P σ B U As H R (Ex.refl _ _) (Kp.refl _ _)
       · subst ek;cases ks with
         |nil=>cases hks
         |cons k' ks=>
           have ekk:k=k':=by injection hks
           subst ekk;replace P:So cm E (KR cm .F) pr ms B U σ (if j < ρ.length then .rt (.tup (k.map kD)) (ρ.set j (some (.tup (k.map kD)))) else .bad) D:=P;by_cases hjl:j < ρ.length
           case neg=>rw[Aa3 hjl] at P; exact P.elim
           rw[Aa6 hjl] at P;have tupAt:∀ z∈[y],∃ q,H z=some q∧aq3 q:=fun z hz=>by rw[List.mem_singleton.mp hz]; exact⟨_,hy,_,rfl⟩
           have R2:Rel cm ms (Mi.frz B H [y]) (Mi.frz U H [y]) As σ H ρ:=R.grow (af0 R.bh) (af0 R.uh) (Same.refl _) (aI6 R.bu) (aU8 R.uh) fun i a ha=>by
            unfold Mi.frz;split
            ·rename_i z;obtain⟨o,e,t⟩:=tupAt a z;exact(R.nt ha e t).elim
            ·exact R.un i a ha
           have hB:Dn cm (Mi.frz B H [y]) (.tup (k.map kD)) (.ref y):=by
            rw[Dn];refine⟨y,_,rfl,?_,bw2 k⟩;unfold Mi.frz;rw[if_pos (List.mem_singleton.mpr rfl)];exact hy
           have ex:Ex B U (Mi.frz B H [y]) (Mi.frz U H [y]):=⟨af0 R.bh,af0 R.uh,fun a o q=>by
            unfold Mi.frz at q;split at q
            ·rename_i z;obtain⟨o',e,t⟩:=tupAt a z;rw[e] at q; cases q;exact .inr (.inr t)
            ·exact .inl q⟩
           obtain⟨As2,R3⟩:=R2.store (i:=j) (d:= .tup (k.map kD)) (v:= .ref y) (N:=[]) NewM.nil (by rw[hj]; exact⟨_,rfl,hB,rfl⟩);have hjs:j < σ.length:=by rw[← R.len]; exact hjl
           refine⟨.ref y,?_,P (.ref y) _ _ _ As2 H [] R3 ex (Kp.set hp) NewM.nil hB⟩;rw[Al6 hjs]
     |_=>exact P.elim
theorem s_aug{i:Nat}{te:TE}{me:Env→Res D}(he:PJ cm (KR cm .X) E ms te me)(hm:ms.getD i .F= .F)(hp:pr i=false):SJ cm E Kr pr ms (tAug i te (ipI fun i j=>i + j)) (setS i (liP (bn addI (vr i) me))):=by
 intro B U As σ H ρ D R P;unfold setS liP bn vr at P;have l:=R.lo i;cases e:rg ρ i with
 |none=>rw[e] at P; exact P.elim
 |some d=>
   rw[e] at P l;rw[hm] at l;obtain⟨v,hv,w⟩:=l;have w:Dn cm B d v:=w.1;refine⟨v,ah1 hv,he B U As σ H ρ _ R ?_⟩;cases em:me ρ with
   |bad=>simp[em] at P; exact P.elim
   |exc c=>simp[em] at P; exact fun B1 U1 H1 R1 g1=>P σ B1 U1 As H1 R1 g1.toEx (Kp.refl _ _)
   |ok y=>
     intro u B1 U1 H1 N R1 g1 n1 hu;have hu:Dn cm H1 y u:=hu;simp only[Res.bind,em] at P;cases d with
     |int a=>
       cases y with
       |int b=>
         rw[Dn] at w hu;refine⟨a,b,w,hu,?_⟩;obtain⟨As2,R3⟩:=R1.store (i:=i) (d:= .int (a + b)) (v:= .int (a + b)) (N:=[]) NewM.nil (by rw[hm]; exact⟨_,rfl,by rw[Dn],rfl⟩);exact P _ B1 U1 As2 H1 R3 g1.toEx (Kp.set hp)
       |_=>exact P.elim
     |_=>exact P.elim
theorem bI3{s:Sh}{wi:TI}{ix:List Nat}{ti:TT}{te:TE}{src:Env→Res (List D)}{mi:Env→Res Bool}{me:Env→Res D}(hs:PJ cm (KI cm .F .X) E ms wi src)(hix:ix.Nodup)(hti:PJ cm KB E0 (msIn .F ms ix) ti mi)(hte:PJ cm (KO cm s) E0 (msIn .F ms ix) te me):
 PJ cm (KO cm (.ct s)) E ms (aK9 wi ix ti te) (comp src ix mi me):=by
 intro B U As σ H ρ Q R P;refine hs.bnd R P fun ds J B1 U1 H1 N1 _ R1 e1 n1 ⟨vs,hJ,hd⟩ P1 p hp=>?_;have hd:Dns cm B1 ds vs:=hd;by_cases z:ds.length < aa6
 · rw[Aa6 z] at P1;have hvl:ds.length=vs.length:=hd.len;have hpA:∀ i,p∉As i:=fun i=>R1.fresh hp i
   refine⟨fun i m ys H2=>i≤ds.length∧m=ds.length - i∧H2 p=some (.lst ys)∧ys.length≤i∧∃ B2 U2 zs N,Rel cm ms B2 U2 As σ H2 ρ∧Gw B1 U1 H1 B2 U2 H2∧U2 p=none∧p∉N∧New N H1 U2 As∧Ows cm B2 H2 zs s ys N∧
    Po cm (KO cm (.ct s)) E ms B1 U1 As σ H1 ρ ((ad2 mi me (capD ρ ix) (ds.drop i)).bind fun r=> .ok (.lst (zs ++ r))) Q,⟨ds.length,Ai8 _,rfl,ab3,Ab7 _,B1,U1,[],[],R1.new hp,Gw.newO R1 hp,R1.uh.free hp,by simp,New.nil,by rw[Ows]; exact⟨rfl,rfl⟩,P1⟩,?_⟩
   rintro i m ys H2 ⟨hi,rfl,hy,hle,B2,U2,zs,N,R2,g2,u2,pN,nN,dz,P2⟩;have hpe2:=hJ H2 g2.h;refine⟨hy,Aj6 hle (am9 (Ah0 (Aj6 hi z))),?_⟩;by_cases hlt:i < ds.length
   · refine .inr ⟨hpe2.2.1 i (by omega),fun v H3 hyl=>?_⟩;obtain⟨rfl,ev⟩:=hpe2.2.2 i v H3 (by omega) hyl;obtain⟨d,ed,dd⟩:=hd.geti ev;rw[aA2 ed,ad2] at P2;have RI:=R2.inner (m:= .F) hix (inF R2.bu R2.uh (Dn.mono g2.b dd));refine hti B2 U2 _ _ H3 _ _ RI ?_
     -- what an inner step leaves
     have keepU:∀ {B3 U3 H4:Hp} {a:Addr} {o1:HO},Same U3 H4→Gw B2 U2 H3 B3 U3 H4→U2 a=none→H3 a=some o1→¬ aq3 o1→U3 a=none:=fun {B3 U3 H4 a o1} uh g h1 h2 h3=>by
      cases q:U3 a with
      |none=>rfl
      |some o=>
        rcases g.fr a o q with z | z | z
        ·rw[h1] at z; cases z
        ·rw[h2] at z; cases z
        ·have:=uh a o q; rw[g.h _ _ h2] at this; cases this; exact(h3 z).elim
     have relU:∀ {B3 U3 H4:Hp},Same B3 U3→Same U3 H4→Gw B2 U2 H3 B3 U3 H4→Rel cm ms B3 U3 As σ H4 ρ:=fun {B3 U3 H4} bu uh g=>R2.grow g.b g.u g.h bu uh fun j a ha=>by
      obtain⟨o',q',nt⟩:=(R2.lo j).at2 ha;exact keepU uh g (R2.un j a ha) q' nt
     have nU:∀ {B3 U3 H4:Hp},Same U3 H4→Gw B2 U2 H3 B3 U3 H4→New N H1 U3 As:=fun {B3 U3 H4} uh g=>⟨nN.nd,nN.fr,fun a ha=>by
      obtain⟨o',q',nt⟩:=Ows.at2 dz ha
      exact keepU uh g (nN.un a ha) q' nt⟩
     have dzU:∀ {B3 U3 H4:Hp},Gw B2 U2 H3 B3 U3 H4→Ows cm B3 H4 zs s ys N:=fun {B3 U3 H4} g=>Ows.mono g.b (fun a ha=>by
      obtain⟨o',q',nt⟩:=Ows.at2 dz ha
      rw[q',g.h _ _ q']) dz
     have pt:¬ aq3 (.lst ys):=fun ⟨_,z⟩=>by cases z
     cases eb:mi (some d :: capD ρ ix) with
     |bad=>rw[eb] at P2; exact P2.elim
     |exc c=>rw[eb] at P2; exact P2.elim
     |ok c=>
       rw[eb] at P2;intro b B3 U3 H4 N3 R3' g3 n3 hb;cases hb;cases c with
       |false=>
         rw[Aa3 Ab1];exact⟨ds.length - (i + 1),by omega,hlt,rfl,g3.h _ _ hy,by omega,B3,U3,zs,N,relU R3'.bu R3'.uh g3,g2.trans g3,keepU R3'.uh g3 u2 hy pt,pN,nU R3'.uh g3,dzU g3,P2⟩
       |true=>
         rw[Aa6 rfl];refine hte B3 U3 _ _ H4 _ _ R3' ?_;replace P2:Po cm (KO cm (.ct s)) E ms B1 U1 As σ H1 ρ (((me (some d :: capD ρ ix)).calm.bind fun x=>(ad2 mi me (capD ρ ix) (ds.drop (i + 1))).bind fun xs=> .ok (x :: xs)).bind fun r=> .ok (.lst (zs ++ r))) Q:=P2;cases ee:me (some d :: capD ρ ix) with
         |bad=>rw[ee] at P2; exact P2.elim
         |exc c=>rw[ee] at P2; exact P2.elim
         |ok x=>
           rw[ee] at P2;intro y B4 U4 H5 N4 R4' g4 n4 hx;have hx:Ow cm B4 H5 x s y N4:=hx;have g34:=g3.trans g4;have y5:H5 p=some (.lst ys):=g34.h _ _ hy;have pN4:p∉N4:=fun hm=>by have:=n4.fr p hm; rw[g3.h _ _ hy] at this; cases this
           have up4:=keepU R4'.uh g34 u2 hy pt;have nN4:=nU R4'.uh g34;have R4:=relU R4'.bu R4'.uh g34
           have g5:Gw B1 U1 H1 B4 U4 (upd H5 p (.lst (ys ++ [y]))):=by
            have g:=g2.trans g34;exact⟨g.toEx,fun a o q=>by rw[ab0 (ac0 q hp)]; exact g.h a o q,g.fr⟩
           refine⟨y5,ds.length - (i + 1),by omega,hlt,rfl,ab3,by rw[Ac4,Af0]; omega,B4,U4,zs ++ [x],N ++ N4,R4.poke up4 hpA,g5,up4,?_,?_,?_,?_⟩
           · intro hm;rcases List.mem_append.mp hm with h | h
             ·exact pN h
             ·exact pN4 h
           · refine⟨List.nodup_append.mpr ⟨nN.nd,n4.nd,fun a ha c hc e=>?_⟩,fun a ha=>?_,fun a ha=>?_⟩
             · obtain⟨o',q',nt⟩:=Ows.at2 dz ha
               have:=n4.fr c hc
               rw[← e,g3.h _ _ q'] at this; cases this
             · rcases List.mem_append.mp ha with h | h
               ·exact nN.fr a h
               ·exact(g2.h.trans g3.h).free (n4.fr a h)
             · rcases List.mem_append.mp ha with h | h
               ·exact nN4.un a h
               ·exact n4.un a h
           · have app:∀ {zs:List D} {ys:List V} {N:List Addr},Ows cm B4 H5 zs s ys N→p∉N→Ows cm B4 (upd H5 p (.lst (ys ++ [y]))) zs s ys N→True:=fun _ _ _=>trivial
             have key:∀ {H6:Hp} {zs:List D} {ys:List V} {N:List Addr},Ows cm B4 H6 zs s ys N→Ow cm B4 H6 x s y N4→Ows cm B4 H6 (zs ++ [x]) s (ys ++ [y]) (N ++ N4):=by
              intro H6 zs
              induction zs with
              |nil=>
                intro ys N h w;rw[Ows] at h;obtain⟨rfl,rfl⟩:=h;show Ows cm B4 H6 [x] s [y] N4;rw[Ows];exact⟨y,[],N4,[],rfl,by simp,w,by rw[Ows]; exact⟨rfl,rfl⟩⟩
              |cons z zs ih=>
                intro ys N h w;rw[Ows] at h;obtain⟨u,r,A1,A2,rfl,rfl,h1,h2⟩:=h;show Ows cm B4 H6 (z :: (zs ++ [x])) s (u :: (r ++ [y])) _;rw[Ows];exact⟨u,r ++ [y],A1,A2 ++ N4,rfl,by rw[Ae9],h1,ih h2 w⟩
             exact key (Ows.mono (Same.refl _) (fun a ha=>ab0 (fun e:a=p=>pN (e ▸ ha))) (dzU g34)) (Ow.mono (Same.refl _) (fun a ha=>ab0 (fun e:a=p=>pN4 (e ▸ ha))) hx)
           · cases eg:ad2 mi me (capD ρ ix) (ds.drop (i + 1)) with
             |ok r=>
               rw[eg] at P2;show Po cm (KO cm (.ct s)) E ms B1 U1 As σ H1 ρ (.ok (.lst (zs ++ [x] ++ r))) Q;rw[Ae9];exact P2
             |exc c=>rw[eg] at P2; exact P2
             |bad=>rw[eg] at P2; exact P2
   · have e:i=ds.length:=by omega
     subst e;rw[Ap3,ad2] at P2;refine .inl ⟨hpe2.1 _ (by omega),?_⟩;have P3:Po cm (KO cm (.ct s)) E ms B1 U1 As σ H1 ρ (.ok (.lst (zs ++ []))) Q:=P2;rw[Af4] at P3;refine P3 (.ref p) B2 U2 H2 (p :: N) R2 g2 ⟨List.nodup_cons.mpr ⟨pN,nN.nd⟩,fun a q=>?_,fun a q=>?_⟩ ?_
     · rcases List.mem_cons.mp q with e | e
       ·rw[e]; exact hp
       ·exact nN.fr a e
     · rcases List.mem_cons.mp q with e | e
       ·rw[e]; exact u2
       ·exact nN.un a e
     ·show Ow cm B2 H2 (.lst zs) (.ct s) (.ref p) (p :: N);rw[Ow];exact⟨p,ys,N,rfl,hy,rfl,dz⟩
 ·rw[Aa3 z] at P1;exact P1.elim
end
end Mi
namespace Cl
open PySem L2 Mi
abbrev DJ(β:Type):=List (Int×β)
section
variable{β:Type}
def encJ(f:β→D)(F:DJ β):D:= .dK (F.map fun p=>Sum.inl p.1) (F.map fun p=>f p.2)
def DJ.get(F:DJ β)(k:Int):Option β:=(F.find? fun p=>decide (p.1=k)).map (·.2)
def DJ.put(F:DJ β)(k:Int)(v:β):DJ β:=if (DJ.get F k).isSome=true then F.map fun p=>if p.1=k then (p.1,v) else p else F ++ [(k,v)]
def DJ.del(F:DJ β)(k:Int):DJ β:=F.filter fun p=>decide (p.1≠k)
theorem aM9{f:β→D}{k:Int}:∀ F:DJ β,ae6 (F.map fun p=>(Sum.inl p.1:Key)) (F.map fun p=>f p.2) (Sum.inl k)=(DJ.get F k).map f
 |[]=>rfl
 | p :: F=>by
   have ih:=aM9 (f:=f) (k:=k) F;unfold DJ.get at *;rw[List.map_cons,List.map_cons,ae6,List.find?_cons];by_cases q:p.1=k
   ·simp[q]
   · have:¬ (Sum.inl p.1:Key)=Sum.inl k:=fun z=>q (Ao7 z)
     rw[Aa3 this,ih];simp[q]
theorem bd1{k:Int}:∀ F:DJ β,hasK (F.map fun p=>(Sum.inl p.1:Key)) (Sum.inl k)=(DJ.get F k).isSome
 |[]=>rfl
 | p :: F=>by
   have ih:=bd1 (k:=k) F;unfold hasK DJ.get at *;rw[List.map_cons,List.any_cons,List.find?_cons,ih];by_cases q:p.1=k
   ·simp[q]
   · have:¬ (Sum.inl p.1:Key)=Sum.inl k:=fun z=>q (Ao7 z)
     simp[q,this]
theorem aM1{f:β→D}{k:Int}{v:β}:∀ F:DJ β,putV (F.map fun p=>(Sum.inl p.1:Key)) (F.map fun p=>f p.2) (Sum.inl k) (f v)=(F.map fun p=>if p.1=k then (p.1,v) else p).map fun p=>f p.2
 |[]=>rfl
 | p :: F=>by
   rw[Aa2,Aa2,putV,aM1 F];by_cases q:p.1=k
   ·simp[q]
   · have:¬ (Sum.inl p.1:Key)=Sum.inl k:=fun z=>q (Ao7 z)
     simp[q,this]
theorem bv8{f:β→D}{F:DJ β}{k:Int}{v:β}(h:F.length < aa6):bj4 (encJ f F) (.int k) (f v)=some (encJ f (DJ.put F k v)):=by
 show((ai6 (.int k)).bind fun k=>if (F.map fun p=>(Sum.inl p.1:Key)).length < aa6 then some (if hasK (F.map fun p=>(Sum.inl p.1:Key)) k=true then D.dK _ (putV _ _ k (f v)) else .dK _ _) else none)=_;show(if (F.map fun p=>(Sum.inl p.1:Key)).length < aa6 then some (if hasK (F.map fun p=>(Sum.inl p.1:Key)) (Sum.inl k)=true then D.dK _ (putV _ _ (Sum.inl k) (f v)) else .dK _ _) else none)=_;rw[if_pos (by rw[List.length_map]; exact h),bd1];unfold DJ.put;by_cases q:(DJ.get F k).isSome=true
 ·rw[if_pos q,if_pos q,aM1];unfold encJ;congr 2;rw[List.map_map];refine List.map_congr_left fun p _=>?_;show Sum.inl p.1=Sum.inl (if p.1=k then (p.1,v) else p).1;split <;> rfl
 ·rw[if_neg q,if_neg q];unfold encJ;rw[List.map_append,List.map_append];rfl
theorem aO8{f:β→D}{k:Int}:∀ F:DJ β,aw3 (F.map fun p=>(Sum.inl p.1:Key)) (F.map fun p=>f p.2) (Sum.inl k)=((DJ.del F k).map (fun p=>Sum.inl p.1),(DJ.del F k).map fun p=>f p.2)
 |[]=>rfl
 | p :: F=>by
   have ih:=aO8 (f:=f) (k:=k) F;unfold DJ.del at *;rw[List.map_cons,List.map_cons,aw3,List.filter_cons,ih];by_cases q:p.1=k
   ·simp[q]
   · have:¬ (Sum.inl p.1:Key)=Sum.inl k:=fun z=>q (Ao7 z)
     simp[q,this]
theorem af3{p:Int×β}{F:DJ β}{k:Int}:DJ.get (p :: F) k=if p.1=k then some p.2 else DJ.get F k:=by
 unfold DJ.get;rw[List.find?_cons];by_cases q:p.1=k
 ·simp[q]
 ·simp[q]
theorem bd2{F:DJ β}{k j:Int}{v:β}:DJ.get (DJ.put F k v) j=if j=k then some v else DJ.get F j:=by
 unfold DJ.put;by_cases q:(DJ.get F k).isSome=true
 · rw[Aa6 q]
   have key:∀ G:DJ β,DJ.get (G.map fun p=>if p.1=k then (p.1,v) else p) j=if j=k then (DJ.get G k).map fun _=>v else DJ.get G j:=by
    intro G
    induction G with
    |nil=>unfold DJ.get; split <;> rfl
    |cons p G ih=>
      rw[Aa2,af3,ih,af3,af3];by_cases e1:p.1=k
      · simp only[e1,Ag6];by_cases e2:k=j
        ·simp[e2]
        · have:¬ j=k:=fun z=>e2 z.symm
          simp[e2,this]
      · simp only[e1,Am4];by_cases e2:j=k
        ·subst e2; simp[e1]
        ·simp[e2]
   rw[key];by_cases e2:j=k
   · rw[Aa6 e2,Aa6 e2];cases z:DJ.get F k with
     |none=>rw[z] at q; cases q
     |some x=>rfl
   ·rw[Aa3 e2,Aa3 e2]
 · rw[Aa3 q]
   have q':DJ.get F k=none:=by
    cases z:DJ.get F k with
    |none=>rfl
    |some x=>rw[z] at q; exact(q rfl).elim
   have key:∀ G:DJ β,DJ.get (G ++ [(k,v)]) j=(DJ.get G j).or (if j=k then some v else none):=by
    intro G
    induction G with
    |nil=>
      rw[List.nil_append,af3];by_cases e:k=j
      ·simp[e,DJ.get]
      · have:¬ j=k:=fun z=>e z.symm
        simp[e,this,DJ.get]
    |cons p G ih=>
      rw[Aj3,af3,af3,ih];split <;> rfl
   rw[key];by_cases e:j=k
   ·subst e; rw[q']; simp
   ·simp[e]
theorem bd3{F:DJ β}{k j:Int}:DJ.get (DJ.del F k) j=if j=k then none else DJ.get F j:=by
 induction F with
 |nil=>unfold DJ.del DJ.get; split <;> rfl
 |cons p F ih=>
   unfold DJ.del at *;rw[List.filter_cons];by_cases q:p.1=k
   · rw[Aa3 (by simp[q]),ih,af3];by_cases e:j=k
     ·rw[Aa6 e,Aa6 e]
     ·rw[Aa3 e,Aa3 e,Aa3 (fun z=>e (z.symm.trans q))]
   · rw[Aa6 (by simp[q]),af3,ih,af3];by_cases e:j=k
     ·subst e; rw[Aa3 q,Aa6 rfl,Aa6 rfl]
     ·rw[Aa3 e,Aa3 e]
def DJ.nd(F:DJ β):Prop:=(F.map (·.1)).Nodup
theorem bJ5{F:DJ β}{k:Int}{v:β}(h:DJ.get F k=some v):(k,v)∈F:=by
 unfold DJ.get at h;obtain⟨p,hp,rfl⟩:=Option.map_eq_some_iff.mp h;have h1:=List.find?_some hp;have h2:=List.mem_of_find?_eq_some hp;have h1:p.1=k:=by simpa using h1
 subst h1; exact h2
theorem aI5{F:DJ β}(n:DJ.nd F){k:Int}{v:β}(h:(k,v)∈F):DJ.get F k=some v:=by
 induction F with
 |nil=>cases h
 |cons p F ih=>
   unfold DJ.nd at n;rw[List.map_cons,List.nodup_cons] at n;rw[af3];rcases List.mem_cons.mp h with e | e
   ·subst e; rw[Aa6 rfl]
   · by_cases q:p.1=k
     ·exact(n.1 (List.mem_map.mpr ⟨_,e,q.symm⟩)).elim
     ·rw[Aa3 q]; exact ih n.2 e
theorem ch9{F:DJ β}{k:Int}(n:DJ.nd F):DJ.nd (DJ.del F k):=by
 unfold DJ.nd DJ.del at *;exact n.sublist (List.Sublist.map _ List.filter_sublist)
theorem bs9{F:DJ β}{k:Int}{v:β}:(DJ.put F k v).map (·.1)=if (DJ.get F k).isSome=true then F.map (·.1) else F.map (·.1) ++ [k]:=by
 unfold DJ.put;split
 ·rw[Af7];refine Aj1 fun p _=>?_;show(if p.1=k then (p.1,v) else p).1=p.1;split <;> rfl
 ·rw[Ad3]; rfl
theorem ch8{F:DJ β}{k:Int}{v:β}(n:DJ.nd F):DJ.nd (DJ.put F k v):=by
 unfold DJ.nd at *;rw[bs9];split
 ·exact n
 ·rename_i q;refine List.nodup_append.mpr ⟨n,by simp,fun a ha b hb e=>?_⟩;rw[List.mem_singleton.mp hb] at e;subst e;obtain⟨p,hp,rfl⟩:=List.mem_map.mp ha;exact q (by rw[aI5 n (show(p.1,p.2)∈F from hp)]; rfl)
end
section
variable{σ σ' α β γ δ:Type}{rep:σ→Mi.Env}{rep':σ'→Mi.Env}
theorem cH6{e:α→D}{get:Mi.Env→Option D}{g:σ→Option α}(hg:∀ s,get (rep s)=(g s).map e):EJ rep e (rdP get) (vC g):=fun s=>by
 unfold rdP vC;rw[hg];cases g s with
 |none=>trivial
 |some a=>exact rfl
@[simp] def cr5(F:DJ β):Res (List β):= .ok (F.map (·.2))
theorem cA2{e:β→D}(F:DJ β):SimR (eL e) (bU7 (encJ e F)) (cr5 F):=by
 show Res.ok (D.lst (F.map fun p=>e p.2))=Res.ok (D.lst ((F.map (·.2)).map e));rw[Af7]; rfl
@[simp] def bJ9(F:DI β):Res Int:= .ok F.length
theorem cA9{e:β→D}(F:DI β):SimR D.int (lenT (encD e F)) (bJ9 F):=by
 show Res.ok (D.int ((F.map fun p=>p.1.map (Sum.inl:Int→Key)).length))=Res.ok (D.int F.length);rw[Aa7]
@[simp] def cI1(F:DI (Option β))(k:List Int):Res (Option β):= .ok ((F.get k).bind id)
theorem bL8{e:β→D}{md mk:Mi.Env→Res D}{cd:σ→Res (DI (Option β))}{ck:σ→Res (List Int)}(h1:EJ rep (encD (eO e)) md cd)(h2:EJ rep (eTs D.int) mk ck):EJ rep (eO e) (bu8 md mk) (bnC cI1 cd ck):=fun s=>(h1 s).bnd fun F=>by
 show SimR (eO e) (if true=true then _ else _) _;rw[if_pos rfl];refine(h2 s).bnd fun k=>?_;show ap3 (encD (eO e) F) (.tup (k.map D.int)) .non= .ok (eO e ((F.get k).bind id));unfold ap3;rw[an1];cases F.get k <;> rfl
theorem cn0{e:β→D}{m:Mi.Env→Res D}{c:σ→Res (DI β)}(h:EJ rep (encD e) m c):EJ rep (List.map (eTs D.int)) (srcK m) (unC cl8 c):=fun s=>by
 unfold srcK unC;refine(h s).bnd fun F=>?_;show Res.ok _=Res.ok _;rw[List.map_map,List.map_map];congr 1;refine List.map_congr_left fun p _=>?_;show D.tup ((p.1.map (Sum.inl:Int→Key)).map kD)=D.tup (p.1.map D.int);rw[List.map_map]; rfl
@[simp] def cG4(g:σ→Option (DJ α))(p:σ→DJ α→σ)(ck:σ→Res Int)(cv:σ→OutC σ α):σ→FlC σ β:=fun s=>bdS (cv s) fun x s=>match g s with
 |none=> .bad
 | some F=>(match ck s with
   |.ok k=>if F.length < aa6 then .nx (p s (DJ.put F k x)) else .bad
   |.exc y=> .exc y s
   |.bad=> .bad)
theorem bV0{e:α→D}{eR:β→D}{get:Mi.Env→Option D}{set:Mi.Env→D→Mi.Env}{g:σ→Option (DJ α)}{p:σ→DJ α→σ}{mk:Mi.Env→Res D}{ck:σ→Res Int}{mv:Mi.Env→Out D}{cv:σ→OutC σ α}(hg:∀ s,get (rep s)=(g s).map (encJ e))(hs:∀ s F,set (rep s) (encJ e F)=rep (p s F))
 (hk:EJ rep D.int mk ck) (hv:NJ rep e mv cv):TJ rep eR (aD5 get set mk mv) (cG4 g p ck cv):=fun s=>SimS.bd (hv s) fun x s=>by
 have hk:=hk s;rw[hg];cases g s with
 |none=>trivial
 |some F=>
   show SimS rep eR (aP0 set (e x) (encJ e F) (rep s) (mk (rep s))) _;dsimp only;cases q:ck s with
   |bad=>trivial
   |exc y=>rw[q] at hk; have hk:mk (rep s)= .exc y:=hk; rw[hk]; rfl
   |ok k=>
     rw[q] at hk; have hk:mk (rep s)= .ok (.int k):=hk;rw[hk];show SimS rep eR (aP0 set (e x) (encJ e F) (rep s) (.ok (.int k))) (if F.length < aa6 then FlC.nx (p s (DJ.put F k x)) else .bad);by_cases h:F.length < aa6
     ·rw[if_pos h];unfold aP0;dsimp only;rw[bv8 h];show SO.nx _=SO.nx _;rw[hs]
     ·rw[Aa3 h]; trivial
@[simp] def bt3(g:σ→Option (DJ α))(p:σ→DJ α→σ)(ck:σ→Res Int):σ→OutC σ (Option α):=fun s=>match g s with
 |none=> .bad
 | some F=>bndO (ck s) s fun k=>match DJ.get F k with
   |some x=> .ok (some x) (p s (DJ.del F k))
   |none=> .ok none s
theorem ch6{e:α→D}{get:Mi.Env→Option D}{set:Mi.Env→D→Mi.Env}{g:σ→Option (DJ α)}{p:σ→DJ α→σ}{mk:Mi.Env→Res D}{ck:σ→Res Int}(hg:∀ s,get (rep s)=(g s).map (encJ e))(hs:∀ s F,set (rep s) (encJ e F)=rep (p s F))(hk:EJ rep D.int mk ck):NJ rep (eO e) (bw1 get set mk) (bt3 g p ck):=fun s=>by
 have hk:=hk s;unfold bw1 bt3;rw[hg];cases g s with
 |none=>trivial
 |some F=>
   show SimO rep (eO e) (((mk (rep s)).up (rep s)).bind fun k ρ=>(match ai6 k with | some k=>aP1 set ρ (F.map fun p=>(Sum.inl p.1:Key)) (F.map fun p=>e p.2) k | none=> .bad)) (bndO (ck s) s _);cases q:ck s with
   |bad=>trivial
   |exc x=>rw[q] at hk; have hk:mk (rep s)= .exc x:=hk; rw[hk]; rfl
   |ok k=>
     rw[q] at hk; have hk:mk (rep s)= .ok (.int k):=hk;rw[hk];show SimO rep (eO e) (aP1 set (rep s) (F.map fun p=>(Sum.inl p.1:Key)) (F.map fun p=>e p.2) (Sum.inl k)) (match DJ.get F k with | some x=>OutC.ok (some x) (p s (DJ.del F k)) | none=> .ok none s);unfold aP1;rw[aM9];cases q2:DJ.get F k with
     |none=>exact rfl
     |some x=>
       show Out.ok (e x) (set (rep s) (.dK (aw3 _ _ (Sum.inl k)).1 (aw3 _ _ (Sum.inl k)).2))=Out.ok (e x) (rep (p s (DJ.del F k)));rw[aO8,← hs];rfl
open Classical in
noncomputable def updC(g:σ→Option (DI α))(p:σ→DI α→σ)(c:σ→Res (DI α)):σ→OutC σ Unit:=fun s=>match g s with
 |some []=>bndO (c s) s fun F=>if ((F.map (·.1)).map aj5).Nodup then .ok () (p s F) else .bad
 |_=> .bad
theorem bi6(F:DI α):az5 ((F.map fun p=>p.1.map (Sum.inl:Int→Key)).map fun k=> .tup (k.map kD))=some (F.map (·.1)):=by
 have:((F.map fun p=>p.1.map (Sum.inl:Int→Key)).map fun k=>D.tup (k.map kD))=(F.map (·.1)).map (eTs D.int):=by
  rw[Af7,Af7];refine Aj1 fun p _=>?_;show D.tup ((p.1.map (Sum.inl:Int→Key)).map kD)=D.tup (p.1.map D.int);rw[Af7]; rfl
 rw[this];exact aN9 _
theorem bc2{e:α→D}{get:Mi.Env→Option D}{set:Mi.Env→D→Mi.Env}{g:σ→Option (DI α)}{p:σ→DI α→σ}{me:Mi.Env→Res D}{c:σ→Res (DI α)}(hg:∀ s,get (rep s)=(g s).map (encD e))(hs:∀ s F,set (rep s) (encD e F)=rep (p s F))(hsc:∀ a,ac3 (e a)=true)(hc:EJ rep (encD e) me c):NJ rep eN (updM get set me) (updC g p c):=fun s=>by
 have hk:=hc s;unfold updM updC;rw[hg];cases g s with
 |none=>trivial
 |some F0=>
   cases F0 with
   |cons _ _=>trivial
   |nil=>
     show SimO rep eN (((me (rep s)).up (rep s)).bind fun d ρ=>updR set ρ d) (bndO (c s) s _);cases q:c s with
     |bad=>trivial
     |exc x=>rw[q] at hk; have hk:me (rep s)= .exc x:=hk; rw[hk]; rfl
     |ok F=>
       rw[q] at hk; have hk:me (rep s)= .ok (encD e F):=hk;rw[hk];show SimO rep eN (match az5 ((F.map fun p=>p.1.map (Sum.inl:Int→Key)).map fun k=> .tup (k.map kD)) with | some kss=>(if (kss.map aj5).Nodup∧(F.map fun p=>e p.2).all ac3=true then Out.ok .non (set (rep s) (encD e F)) else .bad) | none=> .bad) (if ((F.map (·.1)).map aj5).Nodup then OutC.ok () (p s F) else .bad);rw[bi6];dsimp only;by_cases z:((F.map (·.1)).map aj5).Nodup
       ·rw[Aa6 z,Aa6 ⟨z,by rw[Au5,Ap4]; exact fun a _=>hsc _⟩,hs];rfl
       ·rw[Aa3 z]; trivial
@[simp] def mlC{α0 α1 α2 α3:Type}(f:α0→α1→α2→α3→OutC σ' γ)(w:σ'→σ→σ)(sel:σ→Option α0)(c1:σ→Res α1)(c2:σ→Res α2)(c3:σ→OutC σ α3):σ→OutC σ γ:=fun s=>match sel s with
 |none=> .bad
 | some _=>bndO (c1 s) s fun x1=>bndO (c2 s) s fun x2=>bdO (c3 s) fun x3 s1=>match sel s1 with
   |none=> .bad
   |some o1=>(match f o1 x1 x2 x3 with | .ok r s'=> .ok r (w s' s1) | .exc x s'=> .exc x (w s' s1) | .bad=> .bad)
theorem nj_ml{α0 α1 α2 α3:Type}{e0:α0→D}{e1:α1→D}{e2:α2→D}{e3:α3→D}{m1 m2:Mi.Env→Res D}{m3:Mi.Env→Out D}{sel:σ→Option α0}{c1:σ→Res α1}{c2:σ→Res α2}{c3:σ→OutC σ α3}{eR:γ→D}{c:Nat}{mn:Str}{i:Nat}{fm:List D→Out D}{f:α0→α1→α2→α3→OutC σ' γ}{w:σ'→σ→σ}
 (ho:∀ a,af1 c mn (e0 a)=true) (hw:∀ s' s,wbGo [.O i,.F,.F,.F] 0 (rep' s') (rep s)=rep (w s' s)) (hsel:∀ s,rg (rep s) i=(sel s).map e0) (hf:∀ x0 x1 x2 x3,SimO rep' eR (fm [e0 x0,e1 x1,e2 x2,e3 x3]) (f x0 x1 x2 x3)) (h1:EJ rep e1 m1 c1) (h2:EJ rep e2 m2 c2) (h3:NJ rep e3 m3 c3):
 NJ rep eR (mmL c mn i fm m1 m2 m3) (mlC f w sel c1 c2 c3):=fun s=>by
 have g1:=h1 s;have g2:=h2 s;have g3:=h3 s;unfold mmL mlC;rw[hsel];cases sel s with
 |none=>trivial
 |some o=>
   dsimp only[Option.map];rw[if_pos (ho o)];cases q1:c1 s with
   |bad=>trivial
   |exc x=>rw[q1] at g1; have g1:m1 (rep s)= .exc x:=g1; rw[g1]; rfl
   |ok x1=>
     rw[q1] at g1; have g1:m1 (rep s)= .ok (e1 x1):=g1;rw[g1];show SimO rep eR (((m2 (rep s)).up (rep s)).bind fun z ρ=>(m3 ρ).bind fun w ρ1=>(match rg ρ1 i with | some o1=>aj7 [.O i,.F,.F,.F] fm [o1,e1 x1,z,w] ρ1 | none=> .bad)) (bndO (c2 s) s _);cases q2:c2 s with
     |bad=>trivial
     |exc x=>rw[q2] at g2; have g2:m2 (rep s)= .exc x:=g2; rw[g2]; rfl
     |ok x2=>
       rw[q2] at g2; have g2:m2 (rep s)= .ok (e2 x2):=g2;rw[g2];show SimO rep eR ((m3 (rep s)).bind fun w ρ1=>(match rg ρ1 i with | some o1=>aj7 [.O i,.F,.F,.F] fm [o1,e1 x1,e2 x2,w] ρ1 | none=> .bad)) (bdO (c3 s) _);refine SimO.bd g3 fun x3 s1=>?_;rw[hsel];cases sel s1 with
       |none=>trivial
       |some o1=>
         dsimp only[Option.map];have k:=hf o1 x1 x2 x3;unfold aj7;cases qf:f o1 x1 x2 x3 with
         |bad=>trivial
         |ok r s'=>rw[qf] at k; have k:fm [e0 o1,e1 x1,e2 x2,e3 x3]= .ok (eR r) (rep' s'):=k; rw[k]; show Out.ok _ _=Out.ok _ _; rw[hw]
         |exc x s'=>rw[qf] at k; have k:fm [e0 o1,e1 x1,e2 x2,e3 x3]= .exc x (rep' s'):=k; rw[k]; show Out.exc _ _=Out.exc _ _; rw[hw]
@[simp] def bu9(g:σ→DI α)(p:List Int→σ→σ):σ→FlC σ (List Int):=fun s=>match g s with
 |[]=> .nx s
 |q :: _=> .rt q.1 (p q.1 s)
theorem bE0{e:α→D}{c i j:Nat}{f:Str}{g:σ→DI α}{p:List Int→σ→σ}(hg:∀ s,∃ d,rg (rep s) i=some d∧fldD c f d= .ok (encD e (g s)))(hj:∀ s,j < (rep s).length)(hp:∀ s k,(rep s).set j (some (eTs D.int k))=rep (p k s)):
 TJ rep (eTs D.int) (aO4 c f i j) (bu9 g p):=fun s=>by
 obtain⟨d,h1,h2⟩:=hg s;unfold aO4 bu9;rw[h1];dsimp only;rw[h2];cases q:g s with
 |nil=>exact rfl
 |cons x r=>
   show SimS rep (eTs D.int) (if j < (rep s).length then .rt (.tup ((x.1.map (Sum.inl:Int→Key)).map kD)) ((rep s).set j (some (.tup ((x.1.map (Sum.inl:Int→Key)).map kD)))) else .bad) (.rt x.1 (p x.1 s))
   have ek:D.tup ((x.1.map (Sum.inl:Int→Key)).map kD)=eTs D.int x.1:=by
    show D.tup ((x.1.map (Sum.inl:Int→Key)).map kD)=D.tup (x.1.map D.int);rw[Af7]; rfl
   rw[Aa6 (hj s),ek,hp];exact rfl
end
end Cl
set_option genInjectivity false
set_option genSizeOf false
open PySem L2 in
theorem L2.Room.mm{j k:Nat}{A:Around}(r:Room k A)(h:j≤k:=by decide):Room j A:=r.mono h
namespace K20
open PySem L2
def top(i:Nat):Stmt:=PySem.Challenge.pw_heraldways_k20_whole_a_quarrel_never_end.main.body.getD i (.Pass ⟨0,0,0,0⟩)
abbrev s_a9:Stmt:=ad0 (top 11) 0
abbrev s_b9:Stmt:=ad0 (top 11) 13
abbrev s_j9:Stmt:=ad0 (top 11) 15
abbrev s_k9:Stmt:=ad0 (top 11) 1
abbrev s_r9:Stmt:=ad0 (top 18) 11
abbrev s_v9:Stmt:=ad0 (top 18) 12
abbrev cf2:Stmt:=top 20
abbrev bn0:Stmt:=top 22
abbrev cf0:Stmt:=top 21
abbrev s_x9:Stmt:=top 15
abbrev s_y9:Stmt:=top 17
abbrev ce8:Stmt:=top 10
abbrev s_g9:Stmt:=ad0 (top 11) 16
abbrev s_u9:Stmt:=ad0 (top 18) 4
abbrev ce9:Stmt:=top 14
abbrev s_d9:Stmt:=ad0 (top 11) 7
abbrev s_e9:Stmt:=ad0 (top 11) 2
abbrev s_h9:Stmt:=ad0 (top 11) 18
abbrev s_i9:Stmt:=ad0 (top 11) 17
abbrev s_l9:Stmt:=ad0 (top 11) 14
abbrev s_c9:Stmt:=ad0 (top 11) 4
abbrev s_f9:Stmt:=ad0 (top 11) 12
abbrev s_m9:Stmt:=ad0 (top 11) 10
abbrev s_w9:Stmt:=ad0 (top 18) 13
abbrev s_n9:Stmt:=ad0 (top 18) 0
abbrev s_q9:Stmt:=ad0 (top 18) 16
abbrev cf1:Stmt:=top 23
abbrev ce7:Stmt:=top 13
abbrev s_s9:Stmt:=ad0 (top 18) 14
abbrev s_o9:Stmt:=ad0 (top 18) 6
abbrev s_p9:Stmt:=ad0 (top 18) 7
abbrev s_t9:Stmt:=ad0 (top 18) 8
abbrev s_z9:Stmt:=top 24
theorem sc_a9:FnScope ["self", "size"] ["self", "size"] (aa4 s_a9):=by constructor <;> first | rfl | decide +kernel
theorem sc_b9:FnScope ["self", "pairs", "a"] ["self", "pairs", "a"] (aa4 s_b9):=by constructor <;> first | rfl | decide +kernel
theorem sc_j9:FnScope ["self", "a", "houses"] ["self", "a", "houses"] (aa4 s_j9):=by constructor <;> first | rfl | decide +kernel
theorem sc_k9:FnScope ["self"] ["self"] (aa4 s_k9):=by constructor <;> first | rfl | decide +kernel
theorem ct8:FnScope ["self", "pair"] ["self"] (aa4 s_r9):=by constructor <;> first | rfl | decide +kernel
theorem ct7:FnScope ["self", "writer", "receiver", "road"] ["self", "writer", "receiver"] (aa4 s_v9):=by constructor <;> first | rfl | decide +kernel
theorem cu7:FnScope ["script", "k"] ["script", "k"] (aa4 cf2):=by constructor <;> first | rfl | decide +kernel
theorem ba0:FnScope ["cell", "many", "rest", "out"] ["cell", "many"] (aa4 bn0):=by constructor <;> first | rfl | decide +kernel
theorem cu6:FnScope ["found"] ["found"] (aa4 cf0):=by constructor <;> first | rfl | decide +kernel
theorem ct5:FnScope ["house", "standings", "best"] ["house", "standings"] (aa4 s_x9):=by constructor <;> first | rfl | decide +kernel
theorem sc_y9:FnScope ["road"] ["road"] (aa4 s_y9):=by constructor <;> first | rfl | decide +kernel
theorem cu4:FnScope ["houses", "count"] ["houses", "count"] (aa4 ce8):=by constructor <;> first | rfl | decide +kernel
theorem sc_g9:FnScope ["self", "houses"] ["self", "houses"] (aa4 s_g9):=by constructor <;> first | rfl | decide +kernel
theorem sc_u9:FnScope ["self"] ["self"] (aa4 s_u9):=by constructor <;> first | rfl | decide +kernel
theorem cu5:FnScope ["guild", "house", "road"] ["guild", "house", "road"] (aa4 ce9):=by constructor <;> first | rfl | decide +kernel
theorem sc_d9:FnScope ["self", "a", "b"] ["self", "a", "b"] (aa4 s_d9):=by constructor <;> first | rfl | decide +kernel
theorem sc_e9:FnScope ["self", "a"] ["self", "a"] (aa4 s_e9):=by constructor <;> first | rfl | decide +kernel
theorem sc_h9:FnScope ["self", "road"] ["self", "road"] (aa4 s_h9):=by constructor <;> first | rfl | decide +kernel
theorem sc_i9:FnScope ["self", "a", "b"] ["self", "a", "b"] (aa4 s_i9):=by constructor <;> first | rfl | decide +kernel
theorem cu1:FnScope ["self", "other"] ["self"] (aa4 s_l9):=by constructor <;> first | rfl | decide +kernel
theorem sc_c9:FnScope ["self", "a", "b"] ["self", "a", "b"] (aa4 s_c9):=by constructor <;> first | rfl | decide +kernel
theorem cu2:FnScope ["self", "road", "wish_rank"] ["self", "road"] (aa4 s_f9):=by constructor <;> first | rfl | decide +kernel
theorem sc_m9:FnScope ["self", "road", "rank"] ["self", "road", "rank"] (aa4 s_m9):=by constructor <;> first | rfl | decide +kernel
theorem ct6:FnScope ["self", "writer", "receiver"] ["self", "writer"] (aa4 s_w9):=by constructor <;> first | rfl | decide +kernel
theorem sc_n9:FnScope ["self", "guild"] ["self", "guild"] (aa4 s_n9):=by constructor <;> first | rfl | decide +kernel
theorem ct9:FnScope ["self", "house", "road"] ["self", "house"] (aa4 s_q9):=by constructor <;> first | rfl | decide +kernel
theorem aL7:FnScope ["ring", "leaves", "cell", "many", "guild", "k"] ["ring", "leaves", "cell"] (aa4 cf1):=by constructor <;> first | rfl | decide +kernel
theorem cu3:FnScope ["guild", "road"] ["guild", "road"] (aa4 ce7):=by constructor <;> first | rfl | decide +kernel
theorem sc_s9:FnScope ["self", "writer", "receiver", "road"] ["self", "writer", "receiver", "road"] (aa4 s_s9):=by constructor <;> first | rfl | decide +kernel
theorem sc_o9:FnScope ["self", "a", "b"] ["self", "a", "b"] (aa4 s_o9):=by constructor <;> first | rfl | decide +kernel
theorem cu0:FnScope ["self", "pair"] ["self"] (aa4 s_p9):=by constructor <;> first | rfl | decide +kernel
theorem ce5:FnScope ["self", "most", "carried"] ["self", "most"] (aa4 s_t9):=by constructor <;> first | rfl | decide +kernel
theorem aL6:FnScope ["script", "many", "ring", "post", "cell", "line", "note", "found"] ["script"] (aa4 s_z9):=by constructor <;> first | rfl | decide +kernel
structure Adr where
 C_Guild:Addr
 C_Post:Addr
 f_a9:Addr
 d_a9:FuncData
 f_b9:Addr
 d_b9:FuncData
 f_j9:Addr
 d_j9:FuncData
 f_k9:Addr
 d_k9:FuncData
 f_r9:Addr
 d_r9:FuncData
 f_v9:Addr
 d_v9:FuncData
 f_ba9:Addr
 d_ba9:FuncData
 f_bc9:Addr
 d_bc9:FuncData
 f_bd9:Addr
 d_bd9:FuncData
 f_x9:Addr
 d_x9:FuncData
 f_y9:Addr
 d_y9:FuncData
 f_bf9:Addr
 d_bf9:FuncData
 f_g9:Addr
 d_g9:FuncData
 f_u9:Addr
 d_u9:FuncData
 f_be9:Addr
 d_be9:FuncData
 f_d9:Addr
 d_d9:FuncData
 f_e9:Addr
 d_e9:FuncData
 f_h9:Addr
 d_h9:FuncData
 f_i9:Addr
 d_i9:FuncData
 f_l9:Addr
 d_l9:FuncData
 f_c9:Addr
 d_c9:FuncData
 f_f9:Addr
 d_f9:FuncData
 f_m9:Addr
 d_m9:FuncData
 f_w9:Addr
 d_w9:FuncData
 f_n9:Addr
 d_n9:FuncData
 f_q9:Addr
 d_q9:FuncData
 f_bb9:Addr
 d_bb9:FuncData
 f_bg9:Addr
 d_bg9:FuncData
 f_s9:Addr
 d_s9:FuncData
 f_o9:Addr
 d_o9:FuncData
 f_p9:Addr
 d_p9:FuncData
 f_t9:Addr
 d_t9:FuncData
 f_z9:Addr
 d_z9:FuncData
structure Txt (K:PySem.W.Frag) (mg:Str→Option Value) (a:Adr) (base:Heap):Prop where
 cl_Guild:Cls K a.C_Guild
 mgC_Guild:mg "Guild" = some (.ref a.C_Guild)
 mk_Guild:Mk K a.C_Guild a.f_a9
 cl_Post:Cls K a.C_Post
 mgC_Post:mg "Post" = some (.ref a.C_Post)
 mk_Post:Mk K a.C_Post a.f_n9
 n_house_count:NoAttr K a.C_Guild "house_count"
 n_ways:NoAttr K a.C_Guild "ways"
 n_likings:NoAttr K a.C_Guild "likings"
 n_shuns:NoAttr K a.C_Guild "shuns"
 n_wish_ranks:NoAttr K a.C_Guild "wish_ranks"
 n_guild:NoAttr K a.C_Post "guild"
 n_roads:NoAttr K a.C_Post "roads"
 n_told_last:NoAttr K a.C_Post "told_last"
 n_written_last:NoAttr K a.C_Post "written_last"
 n_letters:NoAttr K a.C_Post "letters"
 n_standings:NoAttr K a.C_Post "standings"
 F_a9:Fun K "__init__" "Guild.__init__" s_a9 a.f_a9 a.d_a9
 b_a9:Binds K a.d_a9 ["self", "size"] []
 F_b9:Fun K "houses_paired" "Guild.houses_paired" s_b9 a.f_b9 a.d_b9
 b_b9:Binds K a.d_b9 ["self", "pairs", "a"] []
 me_b9:Meth K a.C_Guild "houses_paired" a.f_b9
 F_j9:Fun K "shuns_one_of" "Guild.shuns_one_of" s_j9 a.f_j9 a.d_j9
 b_j9:Binds K a.d_j9 ["self", "a", "houses"] []
 me_j9:Meth K a.C_Guild "shuns_one_of" a.f_j9
 F_k9:Fun K "size" "Guild.size" s_k9 a.f_k9 a.d_k9
 b_k9:Binds K a.d_k9 ["self"] []
 me_k9:Meth K a.C_Guild "size" a.f_k9
 F_r9:Fun K "first_of_line" "Post.first_of_line" s_r9 a.f_r9 a.d_r9
 b_r9:Binds K a.d_r9 ["self"] []
 me_r9:Meth K a.C_Post "first_of_line" a.f_r9
 F_v9:Fun K "write_road" "Post.write_road" s_v9 a.f_v9 a.d_v9
 b_v9:Binds K a.d_v9 ["self", "writer", "receiver"] []
 me_v9:Meth K a.C_Post "write_road" a.f_v9
 F_ba9:Fun K "_law_cell_at" "_law_cell_at" cf2 a.f_ba9 a.d_ba9
 b_ba9:Binds K a.d_ba9 ["script", "k"] []
 m_ba9:mg "_law_cell_at" = some (.ref a.f_ba9)
 kp_ba9:PySem.W.keepIn K (.ref a.f_ba9)=true
 F_bc9:Fun K "_law_order" "_law_order" bn0 a.f_bc9 a.d_bc9
 b_bc9:Binds K a.d_bc9 ["cell", "many"] []
 m_bc9:mg "_law_order" = some (.ref a.f_bc9)
 kp_bc9:PySem.W.keepIn K (.ref a.f_bc9)=true
 F_bd9:Fun K "_law_whole" "_law_whole" cf0 a.f_bd9 a.d_bd9
 b_bd9:Binds K a.d_bd9 ["found"] []
 m_bd9:mg "_law_whole" = some (.ref a.f_bd9)
 kp_bd9:PySem.W.keepIn K (.ref a.f_bd9)=true
 F_x9:Fun K "best_road" "best_road" s_x9 a.f_x9 a.d_x9
 b_x9:Binds K a.d_x9 ["house", "standings"] []
 m_x9:mg "best_road" = some (.ref a.f_x9)
 kp_x9:PySem.W.keepIn K (.ref a.f_x9)=true
 F_y9:Fun K "copied" "copied" s_y9 a.f_y9 a.d_y9
 b_y9:Binds K a.d_y9 ["road"] []
 m_y9:mg "copied" = some (.ref a.f_y9)
 kp_y9:PySem.W.keepIn K (.ref a.f_y9)=true
 F_bf9:Fun K "require_within" "require_within" ce8 a.f_bf9 a.d_bf9
 b_bf9:Binds K a.d_bf9 ["houses", "count"] []
 m_bf9:mg "require_within" = some (.ref a.f_bf9)
 kp_bf9:PySem.W.keepIn K (.ref a.f_bf9)=true
 F_g9:Fun K "require_houses" "Guild.require_houses" s_g9 a.f_g9 a.d_g9
 b_g9:Binds K a.d_g9 ["self", "houses"] []
 me_g9:Meth K a.C_Guild "require_houses" a.f_g9
 F_u9:Fun K "waiting" "Post.waiting" s_u9 a.f_u9 a.d_u9
 b_u9:Binds K a.d_u9 ["self"] []
 me_u9:Meth K a.C_Post "waiting" a.f_u9
 F_be9:Fun K "may_take" "may_take" ce9 a.f_be9 a.d_be9
 b_be9:Binds K a.d_be9 ["guild", "house", "road"] []
 m_be9:mg "may_take" = some (.ref a.f_be9)
 kp_be9:PySem.W.keepIn K (.ref a.f_be9)=true
 F_d9:Fun K "liking" "Guild.liking" s_d9 a.f_d9 a.d_d9
 b_d9:Binds K a.d_d9 ["self", "a", "b"] []
 me_d9:Meth K a.C_Guild "liking" a.f_d9
 F_e9:Fun K "neighbours" "Guild.neighbours" s_e9 a.f_e9 a.d_e9
 b_e9:Binds K a.d_e9 ["self", "a"] []
 me_e9:Meth K a.C_Guild "neighbours" a.f_e9
 F_h9:Fun K "require_long_road" "Guild.require_long_road" s_h9 a.f_h9 a.d_h9
 b_h9:Binds K a.d_h9 ["self", "road"] []
 me_h9:Meth K a.C_Guild "require_long_road" a.f_h9
 F_i9:Fun K "require_two_houses" "Guild.require_two_houses" s_i9 a.f_i9 a.d_i9
 b_i9:Binds K a.d_i9 ["self", "a", "b"] []
 me_i9:Meth K a.C_Guild "require_two_houses" a.f_i9
 F_l9:Fun K "twin" "Guild.twin" s_l9 a.f_l9 a.d_l9
 b_l9:Binds K a.d_l9 ["self"] []
 me_l9:Meth K a.C_Guild "twin" a.f_l9
 F_c9:Fun K "lay_way" "Guild.lay_way" s_c9 a.f_c9 a.d_c9
 b_c9:Binds K a.d_c9 ["self", "a", "b"] []
 me_c9:Meth K a.C_Guild "lay_way" a.f_c9
 F_f9:Fun K "rank_of" "Guild.rank_of" s_f9 a.f_f9 a.d_f9
 b_f9:Binds K a.d_f9 ["self", "road"] []
 me_f9:Meth K a.C_Guild "rank_of" a.f_f9
 F_m9:Fun K "wish" "Guild.wish" s_m9 a.f_m9 a.d_m9
 b_m9:Binds K a.d_m9 ["self", "road", "rank"] []
 me_m9:Meth K a.C_Guild "wish" a.f_m9
 F_w9:Fun K "write_to_all" "Post.write_to_all" s_w9 a.f_w9 a.d_w9
 b_w9:Binds K a.d_w9 ["self", "writer"] []
 me_w9:Meth K a.C_Post "write_to_all" a.f_w9
 F_n9:Fun K "__init__" "Post.__init__" s_n9 a.f_n9 a.d_n9
 b_n9:Binds K a.d_n9 ["self", "guild"] []
 F_q9:Fun K "choose_anew" "Post.choose_anew" s_q9 a.f_q9 a.d_q9
 b_q9:Binds K a.d_q9 ["self", "house"] []
 me_q9:Meth K a.C_Post "choose_anew" a.f_q9
 F_bb9:Fun K "_law_guild_of" "_law_guild_of" cf1 a.f_bb9 a.d_bb9
 b_bb9:Binds K a.d_bb9 ["ring", "leaves", "cell"] []
 m_bb9:mg "_law_guild_of" = some (.ref a.f_bb9)
 kp_bb9:PySem.W.keepIn K (.ref a.f_bb9)=true
 F_bg9:Fun K "standing" "standing" ce7 a.f_bg9 a.d_bg9
 b_bg9:Binds K a.d_bg9 ["guild", "road"] []
 m_bg9:mg "standing" = some (.ref a.f_bg9)
 kp_bg9:PySem.W.keepIn K (.ref a.f_bg9)=true
 F_s9:Fun K "hear" "Post.hear" s_s9 a.f_s9 a.d_s9
 b_s9:Binds K a.d_s9 ["self", "writer", "receiver", "road"] []
 me_s9:Meth K a.C_Post "hear" a.f_s9
 F_o9:Fun K "carry" "Post.carry" s_o9 a.f_o9 a.d_o9
 b_o9:Binds K a.d_o9 ["self", "a", "b"] []
 me_o9:Meth K a.C_Post "carry" a.f_o9
 F_p9:Fun K "carry_next" "Post.carry_next" s_p9 a.f_p9 a.d_p9
 b_p9:Binds K a.d_p9 ["self"] []
 me_p9:Meth K a.C_Post "carry_next" a.f_p9
 F_t9:Fun K "settle" "Post.settle" s_t9 a.f_t9 a.d_t9
 b_t9:Binds K a.d_t9 ["self", "most"] []
 me_t9:Meth K a.C_Post "settle" a.f_t9
 F_z9:Fun K "law" "law" s_z9 a.f_z9 a.d_z9
 b_z9:Binds K a.d_z9 ["script"] []
 m_z9:mg "law" = some (.ref a.f_z9)
 kp_z9:PySem.W.keepIn K (.ref a.f_z9)=true
 g_SEAT:∃ t,mg "SEAT" = some (.int 0 t)
 g_MOST_HOUSES:∃ t,mg "MOST_HOUSES" = some (.int 60 t)
 z_len:mg "len" = none
 z_range:mg "range" = none
 z_min:mg "min" = none
 z_max:mg "max" = none
 z_set:mg "set" = none
 z_list:mg "list" = none
 z_tuple:mg "tuple" = none
 z_isinstance:mg "isinstance" = none
 z_bool:mg "bool" = none
 z_int:mg "int" = none
 z_any:mg "any" = none
def cmOf(a:Adr)(K:PySem.W.Frag):Mi.Cm:=⟨fun c=>match c with | 0=>a.C_Guild | 1=>a.C_Post | _=>0,K,[]⟩
end K20
namespace K20
open PySem L2 Mi
def ai7:List (Str×Sh):=[("ways",.ct .fz),("likings",.ct .fz),("shuns",.ct .fz),("wish_ranks",.ct .fz)]
def ak7:List (Str×Sh):=[("guild",.ob ai7),("roads",.ct .fz),("told_last",.ct .fz),("written_last",.ct .fz),("letters",.ct .fz),("standings",.ct (.ct .fz))]
def cE1:List Md:=[.O (.ob ai7),.F]
def mo_a9:List Md:=[]
abbrev aS5:Mi.Env→SO:=(fun _=> .bad)
abbrev cd5:Mi.Env→SO:=(ifS (liP (orT (tst (bn ltI (vr 1) (cst (.int 1)))) (tst (bn gtI (vr 1) (cst (.int 60))))))
 aS5
 ai5)
abbrev cd4:Mi.Env→SO:=(fldS 0 "house_count" 0 (liP (vr 1)))
abbrev cd3:Mi.Env→SO:=(fldS 0 "ways" 0 (liP (cst (.dT [] []))))
abbrev cd2:Mi.Env→SO:=(fldS 0 "likings" 0 (liP (cst (.dT [] []))))
abbrev cd1:Mi.Env→SO:=(fldS 0 "shuns" 0 (liP (cst (.dT [] []))))
abbrev cd0:Mi.Env→SO:=(fldS 0 "wish_ranks" 0 (liP (cst (.dT [] []))))
def ck8:Mi.Env→SO:=(seqS cd5
 (seqS cd4
 (seqS cd3
 (seqS cd2
 (seqS cd1
 cd0)))))
def m_a9:List D→Out D:=run 2 ck8
theorem bJ6:ck8=(seqS (ifS (liP (orT (tst (bn ltI (vr 1) (cst (.int 1)))) (tst (bn gtI (vr 1) (cst (.int 60))))))
 (fun _=> .bad)
 ai5)
 (seqS (fldS 0 "house_count" 0 (liP (vr 1)))
 (seqS (fldS 0 "ways" 0 (liP (cst (.dT [] []))))
 (seqS (fldS 0 "likings" 0 (liP (cst (.dT [] []))))
 (seqS (fldS 0 "shuns" 0 (liP (cst (.dT [] []))))
 (fldS 0 "wish_ranks" 0 (liP (cst (.dT [] []))))))))):=rfl
def cE0:List Md:=[.R,.R,.F]
def mo_b9:List Md:=[]
abbrev cc9:Mi.Env→SO:=(retS (liP (comp (ax5 (un (fldD 0 "house_count") (vr 0))) [1,2] (tst (bn (dinD false) (mkT (esC (vr 2) (esC (vr 0) esN))) (vr 1))) (vr 0))))
def ck7:Mi.Env→SO:=cc9
def m_b9:List D→Out D:=runO 3 ck7
def cD2:List Md:=[.R,.F,.R]
def mo_j9:List Md:=[]
abbrev ca9:Mi.Env→SO:=(retS (liP (un anyD (comp (srcL (vr 2)) [1,0] (fun _=> .ok true) (bn (dinD false) (mkT (esC (vr 1) (esC (sc1 (vr 0)) esN))) (un (fldD 0 "shuns") (vr 2)))))))
def cj9:Mi.Env→SO:=ca9
def m_j9:List D→Out D:=run 3 cj9
def cD1:List Md:=[.R]
def mo_k9:List Md:=[]
abbrev ca8:Mi.Env→SO:=(retS (liP (sc1 (un (fldD 0 "house_count") (vr 0)))))
def cj8:Mi.Env→SO:=ca8
def m_k9:List D→Out D:=run 1 cj8
def cC4:List Md:=[.R]
def mo_r9:List Md:=[.F]
abbrev bY0:Mi.Env→SO:=(aO4 1 "letters" 0 1)
abbrev bX9:Mi.Env→SO:=(fun _=> .bad)
def cj1:Mi.Env→SO:=(seqS bY0
 bX9)
def m_r9:List D→Out D:=run 2 cj1
def cC0:List Md:=[.O (.ob ak7),.F,.F]
def mo_v9:List Md:=[.F]
abbrev bX1:Mi.Env→SO:=(setS 3 (liP (bn ixL (un (fldD 1 "roads") (vr 0)) (vr 1))))
abbrev bX0:Mi.Env→SO:=(ifS (liP (tst (bn (eqD false) (bu8 (un (fldD 1 "written_last") (vr 0)) (mkT (esC (vr 1) (esC (vr 2) esN)))) (vr 3))))
 retN
 ai5)
abbrev bW9:Mi.Env→SO:=(aD5 (getF 1 "written_last" 0) (setF "written_last" 0) (mkT (esC (vr 1) (esC (vr 2) esN))) (liP (vr 3)))
abbrev bW8:Mi.Env→SO:=(aD5 (getF 1 "letters" 0) (setF "letters" 0) (mkT (esC (vr 1) (esC (vr 2) esN))) (liP (vr 3)))
def ci7:Mi.Env→SO:=(seqS bX1
 (seqS bX0
 (seqS bW9
 bW8)))
def m_v9:List D→Out D:=run 4 ci7
def bT2:List Md:=[.R,.F]
def cE9:List Md:=[]
abbrev aL2:Mi.Env→SO:=(retS (liP (sc1 (bn ixL (vr 0) (vr 1)))))
abbrev bF7:Mi.Env→SO:=(ifS (liP (tst (bn ltI (vr 1) (un lenD (vr 0)))))
 aL2
 ai5)
abbrev bF6:Mi.Env→SO:=(retS (liP (cst (.int 0))))
def bs2:Mi.Env→SO:=(seqS bF7
 bF6)
def m_ba9:List D→Out D:=run 2 bs2
def bT0:List Md:=[.F,.F]
def cE7:List Md:=[.O (.ct .fz),.O (.ct .fz)]
abbrev bF0:Mi.Env→SO:=(setS 2 (liP (comp (srcR (cst (.int 1)) (bn addI (vr 1) (cst (.int 1)))) [] (fun _=> .ok true) (vr 0))))
abbrev bE9:Mi.Env→SO:=(setS 3 (liP (mkL esN)))
abbrev bg7:Mi.Env→SO:=(setS 0 (liP (bn modI (bn addI (bn mulI (vr 0) (cst (.int 48271))) (cst (.int 29))) (cst (.int 2147483647)))))
abbrev bg6:Mi.Env→SO:=(ag1 (appM 3 (lst1 (aC7 2) (aL4 2) popF (bn modI (bn bj3 (vr 0) (cst (.int 3))) (un lenD (vr 2))))))
abbrev bK2:Mi.Env→SO:=(seqS bg7
 bg6)
abbrev bE8:Mi.Env→SO:=(whS (liP (tst (bn gtI (un lenD (vr 2)) (cst (.int 0)))))
 bK2 100000)
abbrev bE7:Mi.Env→SO:=(retS (mvS 3))
def bs0:Mi.Env→SO:=(seqS bF0
 (seqS bE9
 (seqS bE8
 bE7)))
def m_bc9:List D→Out D:=runO 4 bs0
def bS9:List Md:=[.F]
def cE6:List Md:=[]
abbrev bE6:Mi.Env→SO:=(retS (liP (andD (bn isT (vr 0) (cst (.ty "int"))) (un notB (bn isT (vr 0) (cst (.ty "bool")))))))
def br9:Mi.Env→SO:=bE6
def m_bd9:List D→Out D:=run 1 br9
def cB8:List Md:=[.F,.F]
def mo_x9:List Md:=[.F]
abbrev aR4:Mi.Env→SO:=(retS (liP (mkL (esC (cst (.int 0)) esN))))
abbrev bW6:Mi.Env→SO:=(ifS (liP (tst (bn (eqS false) (vr 0) (cst (.int 0)))))
 aR4
 ai5)
abbrev bW5:Mi.Env→SO:=(setS 2 (liP (bn br2 (vr 1) (cst .non))))
abbrev aR3:Mi.Env→SO:=(retS (liP (cst .non)))
abbrev bW4:Mi.Env→SO:=(ifS (liP (tst (bn (isNb false) (vr 2) (cst .non))))
 aR3
 ai5)
abbrev bW3:Mi.Env→SO:=(retS (liP (bn ixT (vr 2) (cst (.int 2)))))
def ci5:Mi.Env→SO:=(seqS bW6
 (seqS bW5
 (seqS bW4
 bW3)))
def m_x9:List D→Out D:=run 3 ci5
def cB7:List Md:=[.R]
def mo_y9:List Md:=[]
abbrev aR2:Mi.Env→SO:=(retS (liP (cst .non)))
abbrev bW2:Mi.Env→SO:=(ifS (liP (tst (bn (isNb false) (vr 0) (cst .non))))
 aR2
 ai5)
abbrev bW1:Mi.Env→SO:=(retS (liP (un bc6 (chkS (vr 0)))))
def ci4:Mi.Env→SO:=(seqS bW2
 bW1)
def m_y9:List D→Out D:=run 1 ci4
def bS7:List Md:=[.R,.F]
def cE4:List Md:=[]
abbrev aL0:Mi.Env→SO:=(fun _=> .bad)
abbrev bE3:Mi.Env→SO:=(ifS (liP (orT (tst (bn ltI (bn (extD ag7) (vr 0) (cst (.int 0))) (cst (.int 0)))) (tst (bn geI (bn (extD am8) (vr 0) (cst (.int 0))) (vr 1)))))
 aL0
 ai5)
def br7:Mi.Env→SO:=bE3
def m_bf9:List D→Out D:=run 2 br7
def cD5:List Md:=[.R,.R]
def mo_g9:List Md:=[]
abbrev cb6:Mi.Env→SO:=(ag1 (liP (pc m_bf9 (esC (vr 1) (esC (sc1 (un (fldD 0 "house_count") (vr 0))) esN)))))
def ck2:Mi.Env→SO:=cb6
def m_g9:List D→Out D:=run 2 ck2
def cC1:List Md:=[.R]
def mo_u9:List Md:=[]
abbrev bX2:Mi.Env→SO:=(retS (liP (comp (srcK (un (fldD 1 "letters") (vr 0))) [0] (fun _=> .ok true) (mkT (esC (bn ixT (vr 0) (cst (.int 0))) (esC (bn ixT (vr 0) (cst (.int 1))) (esC (pc m_y9 (esC (bn bj5 (un (fldD 1 "letters") (vr 1)) (vr 0)) esN)) esN)))))))
def ci8:Mi.Env→SO:=bX2
def m_u9:List D→Out D:=runO 1 ci8
def bS8:List Md:=[.R,.F,.R]
def cE5:List Md:=[]
abbrev aL1:Mi.Env→SO:=(retS (liP (cst (.bl false))))
abbrev bE5:Mi.Env→SO:=(ifS (liP (orT (tst (bn (isNb false) (vr 2) (cst .non))) (orT (tst (bn (eqS false) (vr 1) (cst (.int 0)))) (tst (bn inD (vr 1) (vr 2))))))
 aL1
 ai5)
abbrev bE4:Mi.Env→SO:=(retS (liP (un notB (pm 0 "shuns_one_of" m_j9 (vr 0) (esC (vr 1) (esC (vr 2) esN))))))
def br8:Mi.Env→SO:=(seqS bE5
 bE4)
def m_be9:List D→Out D:=run 3 br8
def cD8:List Md:=[.R,.F,.F]
def mo_d9:List Md:=[]
abbrev cc4:Mi.Env→SO:=(ag1 (liP (pm 0 "require_houses" m_g9 (vr 0) (esC (mkL (esC (vr 1) (esC (vr 2) esN))) esN))))
abbrev cc3:Mi.Env→SO:=(retS (liP (sc1 (cm7 (un (fldD 0 "likings") (vr 0)) (mkT (esC (vr 1) (esC (vr 2) esN))) (cst (.int 0))))))
def ck5:Mi.Env→SO:=(seqS cc4
 cc3)
def m_d9:List D→Out D:=run 3 ck5
def cD7:List Md:=[.R,.F]
def mo_e9:List Md:=[]
abbrev cc2:Mi.Env→SO:=(ag1 (liP (pm 0 "require_houses" m_g9 (vr 0) (esC (mkL (esC (vr 1) esN)) esN))))
abbrev cc1:Mi.Env→SO:=(retS (liP (pm 0 "houses_paired" m_b9 (vr 0) (esC (un (fldD 0 "ways") (vr 0)) (esC (vr 1) esN)))))
def ck4:Mi.Env→SO:=(seqS cc2
 cc1)
def m_e9:List D→Out D:=runO 2 ck4
def cD4:List Md:=[.R,.R]
def mo_h9:List Md:=[]
abbrev cb5:Mi.Env→SO:=(ag1 (liP (pm 0 "require_houses" m_g9 (vr 0) (esC (vr 1) esN))))
abbrev aS2:Mi.Env→SO:=(fun _=> .bad)
abbrev cb4:Mi.Env→SO:=(ifS (liP (tst (bn ltI (un lenD (vr 1)) (cst (.int 2)))))
 aS2
 ai5)
abbrev aS1:Mi.Env→SO:=(fun _=> .bad)
abbrev cb3:Mi.Env→SO:=(ifS (liP (tst (bn (eqS true) (bn ixL (vr 1) (un negI (cst (.int 1)))) (cst (.int 0)))))
 aS1
 ai5)
abbrev aS0:Mi.Env→SO:=(fun _=> .bad)
abbrev cb2:Mi.Env→SO:=(ifS (liP (tst (bn (eqS true) (un aN3 (vr 1)) (un lenD (vr 1)))))
 aS0
 ai5)
def ck1:Mi.Env→SO:=(seqS cb5
 (seqS cb4
 (seqS cb3
 cb2)))
def m_h9:List D→Out D:=run 2 ck1
def cD3:List Md:=[.R,.F,.F]
def mo_i9:List Md:=[]
abbrev cb1:Mi.Env→SO:=(ag1 (liP (pm 0 "require_houses" m_g9 (vr 0) (esC (mkL (esC (vr 1) (esC (vr 2) esN))) esN))))
abbrev aR9:Mi.Env→SO:=(fun _=> .bad)
abbrev cb0:Mi.Env→SO:=(ifS (liP (tst (bn (eqS false) (vr 1) (vr 2))))
 aR9
 ai5)
def ck0:Mi.Env→SO:=(seqS cb1
 cb0)
def m_i9:List D→Out D:=run 3 ck0
def cD0:List Md:=[.R]
def mo_l9:List Md:=[.O (.ob ai7)]
abbrev ca7:Mi.Env→SO:=(setS 1 (liP (pk 0 m_a9 (esC (sc1 (un (fldD 0 "house_count") (vr 0))) esN))))
abbrev ca6:Mi.Env→SO:=(ag1 (updM (getF 0 "ways" 1) (setF "ways" 1) (un (fldD 0 "ways") (vr 0))))
abbrev ca5:Mi.Env→SO:=(ag1 (updM (getF 0 "likings" 1) (setF "likings" 1) (un (fldD 0 "likings") (vr 0))))
abbrev ca4:Mi.Env→SO:=(ag1 (updM (getF 0 "shuns" 1) (setF "shuns" 1) (un (fldD 0 "shuns") (vr 0))))
abbrev ca3:Mi.Env→SO:=(ag1 (updM (getF 0 "wish_ranks" 1) (setF "wish_ranks" 1) (un (fldD 0 "wish_ranks") (vr 0))))
abbrev ca2:Mi.Env→SO:=(retS (mvS 1))
def cj7:Mi.Env→SO:=(seqS ca7
 (seqS ca6
 (seqS ca5
 (seqS ca4
 (seqS ca3
 ca2)))))
def m_l9:List D→Out D:=runO 2 cj7
def cD9:List Md:=[.O (.ob ai7),.F,.F]
def mo_c9:List Md:=[]
abbrev cc8:Mi.Env→SO:=(ag1 (liP (pm 0 "require_two_houses" m_i9 (vr 0) (esC (vr 1) (esC (vr 2) esN)))))
abbrev aS4:Mi.Env→SO:=(fun _=> .bad)
abbrev cc7:Mi.Env→SO:=(ifS (liP (tst (bn (dinD false) (mkT (esC (vr 1) (esC (vr 2) esN))) (un (fldD 0 "ways") (vr 0)))))
 aS4
 ai5)
abbrev cc6:Mi.Env→SO:=(aD5 (getF 0 "ways" 0) (setF "ways" 0) (mkT (esC (vr 1) (esC (vr 2) esN))) (liP (cst (.bl true))))
abbrev cc5:Mi.Env→SO:=(aD5 (getF 0 "ways" 0) (setF "ways" 0) (mkT (esC (vr 2) (esC (vr 1) esN))) (liP (cst (.bl true))))
def ck6:Mi.Env→SO:=(seqS cc8
 (seqS cc7
 (seqS cc6
 cc5)))
def m_c9:List D→Out D:=run 3 ck6
def cD6:List Md:=[.R,.R]
def mo_f9:List Md:=[.F]
abbrev cc0:Mi.Env→SO:=(ag1 (liP (pm 0 "require_long_road" m_h9 (vr 0) (esC (vr 1) esN))))
abbrev cb9:Mi.Env→SO:=(setS 2 (liP (sc1 (bu8 (un (fldD 0 "wish_ranks") (vr 0)) (un tupL (chkS (vr 1)))))))
abbrev aS3:Mi.Env→SO:=(retS (liP (pm 0 "liking" m_d9 (vr 0) (esC (sc1 (bn ixL (vr 1) (cst (.int 0)))) (esC (sc1 (bn ixL (vr 1) (cst (.int 1)))) esN)))))
abbrev cb8:Mi.Env→SO:=(ifS (liP (tst (bn (isNb false) (vr 2) (cst .non))))
 aS3
 ai5)
abbrev cb7:Mi.Env→SO:=(retS (liP (vr 2)))
def ck3:Mi.Env→SO:=(seqS cc0
 (seqS cb9
 (seqS cb8
 cb7)))
def m_f9:List D→Out D:=run 3 ck3
def cC9:List Md:=[.O (.ob ai7),.R,.F]
def mo_m9:List Md:=[]
abbrev ca1:Mi.Env→SO:=(ag1 (liP (pm 0 "require_long_road" m_h9 (vr 0) (esC (vr 1) esN))))
abbrev ca0:Mi.Env→SO:=(aD5 (getF 0 "wish_ranks" 0) (setF "wish_ranks" 0) (un tupL (chkS (vr 1))) (liP (vr 2)))
def cj6:Mi.Env→SO:=(seqS ca1
 ca0)
def m_m9:List D→Out D:=run 3 cj6
def cB9:List Md:=[.O (.ob ak7),.F]
def mo_w9:List Md:=[.F]
abbrev bl6:Mi.Env→SO:=(ag1 (mm 1 "write_road" [(.O 0),.F,.F] m_v9 (vr 0) (esC (vr 1) (esC (vr 2) esN))))
abbrev bW7:Mi.Env→SO:=(aT9 (liP (srcL (pm 0 "neighbours" m_e9 (un (fldD 1 "guild") (vr 0)) (esC (vr 1) esN)))) (tgN 2)
 bl6)
def ci6:Mi.Env→SO:=bW7
def m_w9:List D→Out D:=run 3 ci6
def cC8:List Md:=[.O (.ob ak7),.R]
def mo_n9:List Md:=[]
abbrev bZ9:Mi.Env→SO:=(fldS 1 "guild" 0 (liP (pm 0 "twin" m_l9 (vr 1) esN)))
abbrev bZ8:Mi.Env→SO:=(fldS 1 "roads" 0 (liP (bn repL (mkL (esC (cst .non) esN)) (pm 0 "size" m_k9 (vr 1) esN))))
abbrev bZ7:Mi.Env→SO:=(aT8 (getF 1 "roads" 0) (setF "roads" 0) (cst (.int 0)) (liP (mkL (esC (cst (.int 0)) esN))))
abbrev bZ6:Mi.Env→SO:=(fldS 1 "told_last" 0 (liP (cst (.dT [] []))))
abbrev bZ5:Mi.Env→SO:=(fldS 1 "written_last" 0 (liP (cst (.dT [] []))))
abbrev bZ4:Mi.Env→SO:=(fldS 1 "letters" 0 (liP (cst (.dT [] []))))
abbrev bZ3:Mi.Env→SO:=(fldS 1 "standings" 0 (liP (comp (ax5 (pm 0 "size" m_k9 (vr 1) esN)) [] (fun _=> .ok true) (cst (.dK [] [])))))
abbrev bZ2:Mi.Env→SO:=(ag1 (mm 1 "write_to_all" [(.O 0),.F] m_w9 (vr 0) (esC (cst (.int 0)) esN)))
def cj5:Mi.Env→SO:=(seqS bZ9
 (seqS bZ8
 (seqS bZ7
 (seqS bZ6
 (seqS bZ5
 (seqS bZ4
 (seqS bZ3
 bZ2)))))))
def m_n9:List D→Out D:=run 2 cj5
theorem bc5:cj5=(seqS (fldS 1 "guild" 0 (liP (pm 0 "twin" m_l9 (vr 1) esN)))
 (seqS (fldS 1 "roads" 0 (liP (bn repL (mkL (esC (cst .non) esN)) (pm 0 "size" m_k9 (vr 1) esN))))
 (seqS (aT8 (getF 1 "roads" 0) (setF "roads" 0) (cst (.int 0)) (liP (mkL (esC (cst (.int 0)) esN))))
 (seqS (fldS 1 "told_last" 0 (liP (cst (.dT [] []))))
 (seqS (fldS 1 "written_last" 0 (liP (cst (.dT [] []))))
 (seqS (fldS 1 "letters" 0 (liP (cst (.dT [] []))))
 (seqS (fldS 1 "standings" 0 (liP (comp (ax5 (pm 0 "size" m_k9 (vr 1) esN)) [] (fun _=> .ok true) (cst (.dK [] [])))))
 (ag1 (mm 1 "write_to_all" [(.O 0),.F] m_w9 (vr 0) (esC (cst (.int 0)) esN)))))))))):=rfl
def cC5:List Md:=[.O (.ob ak7),.F]
def mo_q9:List Md:=[.F]
abbrev bY5:Mi.Env→SO:=(setS 2 (liP (pc m_x9 (esC (vr 1) (esC (un bU7 (rdP (aU6 (aU7 (aC7 0) 1 "standings") (ixV 1)))) esN)))))
abbrev aR7:Mi.Env→SO:=(retS (liP (cst (.bl false))))
abbrev bY4:Mi.Env→SO:=(ifS (liP (tst (bn (eqD false) (vr 2) (bn ixL (un (fldD 1 "roads") (vr 0)) (vr 1)))))
 aR7
 ai5)
abbrev bY3:Mi.Env→SO:=(aT8 (getF 1 "roads" 0) (setF "roads" 0) (vr 1) (liP (vr 2)))
abbrev bY2:Mi.Env→SO:=(ag1 (mm 1 "write_to_all" [(.O 0),.F] m_w9 (vr 0) (esC (vr 1) esN)))
abbrev bY1:Mi.Env→SO:=(retS (liP (cst (.bl true))))
def cj2:Mi.Env→SO:=(seqS bY5
 (seqS bY4
 (seqS bY3
 (seqS bY2
 bY1))))
def m_q9:List D→Out D:=run 3 cj2
def bT1:List Md:=[.F,.F,.F]
def cE8:List Md:=[.F,.O (.ob ai7),.F]
abbrev bF5:Mi.Env→SO:=(setS 3 (liP (un lenD (vr 0))))
abbrev bF4:Mi.Env→SO:=(setS 4 (liP (pk 0 m_a9 (esC (bn addI (bn addI (cst (.int 1)) (vr 3)) (vr 1)) esN))))
abbrev bh1:Mi.Env→SO:=(ag1 (mm 0 "lay_way" [(.O 4),.F,.F] m_c9 (vr 4) (esC (bn ixL (vr 0) (vr 5)) (esC (cst (.int 0)) esN))))
abbrev bh0:Mi.Env→SO:=(ag1 (mm 0 "lay_way" [(.O 4),.F,.F] m_c9 (vr 4) (esC (bn ixL (vr 0) (vr 5)) (esC (bn ixL (vr 0) (bn modI (bn addI (vr 5) (cst (.int 1))) (vr 3))) esN))))
abbrev bg9:Mi.Env→SO:=(ag1 (mm 0 "wish" [(.O 4),.F,.F] m_m9 (vr 4) (esC (mkL (esC (bn ixL (vr 0) (vr 5)) (esC (bn ixL (vr 0) (bn modI (bn addI (vr 5) (cst (.int 1))) (vr 3))) (esC (cst (.int 0)) esN)))) (esC (bn addI (cst (.int 1)) (bn modI (bn addI (vr 2) (bn mulI (vr 5) (vr 5))) (bn powI (cst (.int 10)) (cst (.int 30))))) esN))))
abbrev bK3:Mi.Env→SO:=(seqS bh1
 (seqS bh0
 bg9))
abbrev bF3:Mi.Env→SO:=(aT9 (liP (ax5 (vr 3))) (tgN 5)
 bK3)
abbrev bg8:Mi.Env→SO:=(ag1 (mm 0 "lay_way" [(.O 4),.F,.F] m_c9 (vr 4) (esC (bn addI (bn addI (vr 3) (cst (.int 1))) (vr 5)) (esC (bn ixL (vr 0) (bn modI (bn addI (bn bj3 (vr 2) (cst (.int 7))) (bn mulI (vr 5) (cst (.int 3)))) (vr 3))) esN))))
abbrev bF2:Mi.Env→SO:=(aT9 (liP (ax5 (vr 1))) (tgN 5)
 bg8)
abbrev bF1:Mi.Env→SO:=(retS (mvS 4))
def bs1:Mi.Env→SO:=(seqS bF5
 (seqS bF4
 (seqS bF3
 (seqS bF2
 bF1))))
def m_bb9:List D→Out D:=runO 6 bs1
def bS6:List Md:=[.R,.F]
def cE3:List Md:=[]
abbrev bE2:Mi.Env→SO:=(retS (liP (mkT (esC (un negI (pm 0 "rank_of" m_f9 (vr 0) (esC (vr 1) esN))) (esC (un lenD (vr 1)) (esC (vr 1) esN))))))
def br6:Mi.Env→SO:=bE2
def m_bg9:List D→Out D:=run 2 br6
def cC3:List Md:=[.O (.ob ak7),.F,.F,.F]
def mo_s9:List Md:=[]
abbrev bX8:Mi.Env→SO:=(aD5 (getF 1 "told_last" 0) (setF "told_last" 0) (mkT (esC (vr 1) (esC (vr 2) esN))) (liP (vr 3)))
abbrev aR5:Mi.Env→SO:=(aD5 (aU6 (aU7 (aC7 0) 1 "standings") (ixV 2)) (bh5 (aU7 (aC7 0) 1 "standings") (bG6 (aC7 0) (aL4 0) "standings") (ixV 2)) (vr 1) (liP (pc m_bg9 (esC (un (fldD 1 "guild") (vr 0)) (esC (bn catL (mkL (esC (vr 2) esN)) (vr 3)) esN)))))
abbrev aR6:Mi.Env→SO:=(ag1 (bw1 (aU6 (aU7 (aC7 0) 1 "standings") (ixV 2)) (bh5 (aU7 (aC7 0) 1 "standings") (bG6 (aC7 0) (aL4 0) "standings") (ixV 2)) (vr 1)))
abbrev bX7:Mi.Env→SO:=(ifS (liP (tst (pc m_be9 (esC (un (fldD 1 "guild") (vr 0)) (esC (vr 2) (esC (vr 3) esN))))))
 aR5
 aR6)
def cj0:Mi.Env→SO:=(seqS bX8
 bX7)
def m_s9:List D→Out D:=run 4 cj0
def cC7:List Md:=[.O (.ob ak7),.F,.F]
def mo_o9:List Md:=[]
abbrev bZ1:Mi.Env→SO:=(ag1 (liP (pm 0 "require_houses" m_g9 (un (fldD 1 "guild") (vr 0)) (esC (mkL (esC (vr 1) (esC (vr 2) esN))) esN))))
abbrev aR8:Mi.Env→SO:=(fun _=> .bad)
abbrev bZ0:Mi.Env→SO:=(ifS (liP (tst (bn (dinD true) (mkT (esC (vr 1) (esC (vr 2) esN))) (un (fldD 1 "letters") (vr 0)))))
 aR8
 ai5)
abbrev bY9:Mi.Env→SO:=(ag1 (mmL 1 "hear" 0 m_s9 (vr 1) (vr 2) (bv9 (getF 1 "letters" 0) (setF "letters" 0) (mkT (esC (vr 1) (esC (vr 2) esN))))))
abbrev bY8:Mi.Env→SO:=(retS (mm 1 "choose_anew" [(.O 0),.F] m_q9 (vr 0) (esC (vr 2) esN)))
def cj4:Mi.Env→SO:=(seqS bZ1
 (seqS bZ0
 (seqS bY9
 bY8)))
def m_o9:List D→Out D:=run 3 cj4
def cC6:List Md:=[.O (.ob ak7)]
def mo_p9:List Md:=[.F]
abbrev bY7:Mi.Env→SO:=(setS 1 (liP (pm 1 "first_of_line" m_r9 (vr 0) esN)))
abbrev bY6:Mi.Env→SO:=(retS (mm 1 "carry" [(.O 0),.F,.F] m_o9 (vr 0) (esC (bn ixT (vr 1) (cst (.int 0))) (esC (bn ixT (vr 1) (cst (.int 1))) esN))))
def cj3:Mi.Env→SO:=(seqS bY7
 bY6)
def m_p9:List D→Out D:=run 2 cj3
def cC2:List Md:=[.O (.ob ak7),.F]
def mo_t9:List Md:=[.F]
abbrev bX5:Mi.Env→SO:=(setS 2 (liP (cst (.int 0))))
abbrev bl8:Mi.Env→SO:=(ag1 (mm 1 "carry_next" [(.O 0)] m_p9 (vr 0) esN))
abbrev bl7:Mi.Env→SO:=(setS 2 (liP (bn addI (vr 2) (cst (.int 1)))))
abbrev cl6:Mi.Env→SO:=(seqS bl8
 bl7)
abbrev bX4:Mi.Env→SO:=(whS (liP (andT (tst (bn ltI (vr 2) (vr 1))) (tst (bn gtI (un lenT (un (fldD 1 "letters") (vr 0))) (cst (.int 0))))))
 cl6 100000)
abbrev bX3:Mi.Env→SO:=(retS (liP (vr 2)))
def ci9:Mi.Env→SO:=(seqS bX5
 (seqS bX4
 bX3))
def m_t9:List D→Out D:=run 3 ci9
def cB6:List Md:=[.R]
def mo_z9:List Md:=[.F,.F,.O (.ob ak7),.F,.F,.F,.F]
abbrev bW0:Mi.Env→SO:=(setS 1 (liP (bn addI (cst (.int 3)) (bn mulI (cst (.int 2)) (bn modI (pc m_ba9 (esC (vr 0) (esC (cst (.int 0)) esN))) (cst (.int 4)))))))
abbrev bV9:Mi.Env→SO:=(setS 2 (liP (pc m_bc9 (esC (pc m_ba9 (esC (vr 0) (esC (cst (.int 1)) esN))) (esC (vr 1) esN)))))
abbrev bV8:Mi.Env→SO:=(setS 3 (liP (pk 1 m_n9 (esC (pc m_bb9 (esC (vr 2) (esC (bn modI (pc m_ba9 (esC (vr 0) (esC (cst (.int 2)) esN))) (cst (.int 4))) (esC (pc m_ba9 (esC (vr 0) (esC (cst (.int 3)) esN))) esN)))) esN))))
abbrev bl5:Mi.Env→SO:=(setS 5 (liP (pm 1 "waiting" m_u9 (vr 3) esN)))
abbrev aG5:Mi.Env→SO:=(retS (liP (cst (.bl false))))
abbrev bl4:Mi.Env→SO:=(ifS (liP (tst (bn (eqS false) (un lenD (vr 5)) (cst (.int 0)))))
 aG5
 ai5)
abbrev bl3:Mi.Env→SO:=(setS 6 (liP (bn ixL (vr 5) (bn modI (vr 4) (un lenD (vr 5))))))
abbrev bl2:Mi.Env→SO:=(ag1 (mm 1 "carry" [(.O 3),.F,.F] m_o9 (vr 3) (esC (bn ixT (vr 6) (cst (.int 0))) (esC (bn ixT (vr 6) (cst (.int 1))) esN))))
abbrev cl5:Mi.Env→SO:=(seqS bl5
 (seqS bl4
 (seqS bl3
 bl2)))
abbrev bV7:Mi.Env→SO:=(aT9 (liP (srcL (bn cn4 (chkS (vr 0)) (cst (.int 4))))) (tgN 4)
 cl5)
abbrev aR1:Mi.Env→SO:=(retS (liP (cst (.bl false))))
abbrev bV6:Mi.Env→SO:=(ifS (liP (tst (bn (eqS false) (un lenD (pm 1 "waiting" m_u9 (vr 3) esN)) (cst (.int 0)))))
 aR1
 ai5)
abbrev bV5:Mi.Env→SO:=(setS 7 (mm 1 "settle" [(.O 3),.F] m_t9 (vr 3) (esC (cst (.int 60)) esN)))
abbrev bV4:Mi.Env→SO:=(retS (liP (andD (pc m_bd9 (esC (vr 7) esN)) (andD (bn (eqS false) (vr 7) (cst (.int 60))) (bn gtI (un lenD (pm 1 "waiting" m_u9 (vr 3) esN)) (cst (.int 0)))))))
def ci3:Mi.Env→SO:=(seqS bW0
 (seqS bV9
 (seqS bV8
 (seqS bV7
 (seqS bV6
 (seqS bV5
 bV4))))))
def m_z9:List D→Out D:=run 8 ci3
variable{P:Program}{w:World}{K:PySem.W.Frag}{mg:Str→Option Value}{base:Heap}{a:Adr}
theorem cA1(T:Txt K mg a base):FnOk P w K mg base CX0 1 a.f_a9 a.d_a9 ["self", "size"] (spZ (cmOf a K) cE1 (KR (cmOf a K) .F) m_a9):=by
 obtain⟨t_MOST_HOUSES,g_MOST_HOUSES⟩:=T.g_MOST_HOUSES;refine T.F_a9.ok sc_a9 (fun _ _ _ _=>ab8) (fun _ _ _ _ _ _ _ _ hr h=>?_)
 refine⟨_,(aa1 (al1 (PW.pt (bH2 (ac8 bq5 (pv 1) ab4 (ae4 _)) (bp1 (ac8 bI4 (pv 1) (aj4 rfl g_MOST_HOUSES (v:= .int 60) ⟨_,rfl⟩) (ae4 _))))) (aa3 ai0) ae3)
  (aa1 (am5 (pv 0) (pv 1) rfl)
  (aa1 (am5 (pv 0) al2 rfl)
  (aa1 (am5 (pv 0) al2 rfl)
  (aa1 (am5 (pv 0) al2 rfl)
  (aa3 (am5 (pv 0) al2 rfl))))))),?_⟩
 refine ac2 (cm:=cmOf a K) (ms:=cE1) (more:=mo_a9) (body:=ck8) ?_ rfl rfl (fun _ _ _=>rnon) h
 exact(ab7 (s_if (upM (bH3 (pt_T (fx (p_op s_lt (fx (fF 1)) (fx pI)))) (pt_T (fx (p_op s_gt (fx (fF 1)) (fx pI)))))) ak9 am4)
  (ab7 (cv2 (c:=0) (i:=0) T.cl_Guild T.n_house_count rfl rfl (upM (fF 1)))
  (ab7 (ao7 (c:=0) (i:=0) T.cl_Guild T.n_ways rfl rfl (upM aT5))
  (ab7 (ao7 (c:=0) (i:=0) T.cl_Guild T.n_likings rfl rfl (upM aT5))
  (ab7 (ao7 (c:=0) (i:=0) T.cl_Guild T.n_shuns rfl rfl (upM aT5))
  (ao7 (c:=0) (i:=0) T.cl_Guild T.n_wish_ranks rfl rfl (upM aT5)))))))
theorem bM9:CompSc (aa4 s_b9) (Gd.aI0 (Gd.bF9 (Gd.nth (aj6 s_b9) 0))) "b" ["pairs", "a"]:=by constructor <;> first | rfl | decide +kernel
theorem ok_b9(T:Txt K mg a base):FnOk P w K mg base CX0 1 a.f_b9 a.d_b9 ["self", "pairs", "a"] (spZ (cmOf a K) cE0 (KO (cmOf a K) (.ct .fz)) m_b9):=by
 refine T.F_b9.ok sc_b9 (fun _ _ _ _=>ab8) (fun _ _ _ _ _ _ _ _ hr h=>?_);have hu:=aD1 hr;refine⟨_,(aa3 (ac9 (aH2 rfl (ar0 rfl T.z_range (aa0 (ab1 K rfl (pv 0) rfl) aa2)) bM9 (ix:=[1,2]) rfl (fun _ _ _ _=>cf6 (bp2 (bq0 hu (ai9 (aa0 (pv 2) (aa0 (pv 0) aa2))) (pv 1)))) (fun _ _ _ _=>(pv 0))))),?_⟩;refine ao1 (cm:=cmOf a K) (ms:=cE0) (more:=mo_b9) (body:=ck7) ?_ rfl rfl h;exact(af9 (upM (bb4 (ix:=[1,2]) (i_r1 (ux (am7 (c:=0) T.cl_Guild T.n_house_count (rc (fR 0))))) (by decide) (pt_B (fx (cg4 (fx (ar3 (aa9 (fF 2) (aa9 (fF 0) ae5)))) (rc (fR 1))))) (fF 0))))
theorem bM8:CompSc (aa4 s_j9) { kind:=PySem.ScopeKind.function,names:=[ (PySem.Str.ofString ".0",PySem.NameKind.local),(PySem.Str.ofString "b",PySem.NameKind.local),(PySem.Str.ofString "a",PySem.NameKind.free),(PySem.Str.ofString "self",PySem.NameKind.free)],isGenerator:=false,isCoroutine:=false,more:=[]:PySem.Scope } "b" ["a", "self"]:=by constructor <;> first | rfl | decide +kernel
theorem ok_j9(T:Txt K mg a base):FnOk P w K mg base CX0 1 a.f_j9 a.d_j9 ["self", "a", "houses"] (spZ (cmOf a K) cD2 (KR (cmOf a K) .F) m_j9):=by
 refine T.F_j9.ok sc_j9 (fun _ _ _ _=>ab8) (fun _ _ _ _ _ _ _ _ hr h=>?_);have hu:=aD1 hr;refine⟨_,(aa3 (ac9 (ad7 (bC0 K rfl rfl) rfl T.z_any Gd.cK9 (aa0 (aH2 rfl (aH1 K rfl (pv 2)) bM8 (ix:=[1,0]) rfl (fun _ _ _ _=>aH0) (fun _ _ _ _=>(cw9 (bq0 hu (ai9 (aa0 (pv 1) (aa0 (pv 0) aa2))) (ab1 K rfl (pv 2) rfl))))) aa2)))),?_⟩;refine ac2 (cm:=cmOf a K) (ms:=cD2) (more:=mo_j9) (body:=cj9) ?_ rfl rfl (fun _ _ _=>rnon) h;exact(af9 (upM (aw0 s_any (fx (oF (bI2 (ix:=[1,0]) (cG9 (rc (fR 2))) (by decide) ba9 (cg4 (fx (ar3 (aa9 (fF 1) (aa9 (rS (k:= .X) (ux (fR 0))) ae5)))) (rc (am7 (c:=0) T.cl_Guild T.n_shuns (rc (fR 2)))))))))))
theorem cz3(T:Txt K mg a base):FnOk P w K mg base CX0 1 a.f_k9 a.d_k9 ["self"] (spZ (cmOf a K) cD1 (KR (cmOf a K) .F) m_k9):=by
 refine T.F_k9.ok sc_k9 (fun _ _ _ _=>ab8) (fun _ _ _ _ _ _ _ _ hr h=>?_);refine⟨_,(aa3 (ac9 (ab1 K rfl (pv 0) rfl))),?_⟩;refine ac2 (cm:=cmOf a K) (ms:=cD1) (more:=mo_k9) (body:=cj8) ?_ rfl rfl (fun _ _ _=>rnon) h;exact(af9 (upM (rS (k:= .X) (ux (am7 (c:=0) T.cl_Guild T.n_house_count (rc (fR 0)))))))
theorem ok_r9(T:Txt K mg a base):FnOk P w K mg base CX0 1 a.f_r9 a.d_r9 ["self"] (spZ (cmOf a K) cC4 (KR (cmOf a K) .F) m_r9):=by
 refine T.F_r9.ok ct8 (fun _ _ _ _=>ab8) (fun _ _ _ _ _ _ _ _ hr h=>?_)
 refine⟨_,(aa1 (bH4 Ai4 rfl (ab1 K rfl (pv 0) rfl) (ap7 (i:=1) ct8.nd rfl (Or.inl rfl)) (aa3 (ac9 (pv 1))))
  (aa3 ai0)),?_⟩
 refine ac2 (cm:=cmOf a K) (ms:=cC4) (more:=mo_r9) (body:=cj1) ?_ rfl rfl (fun _ _ _=>rnon) h
 exact(ab7 (ce6 (i:=0) (j:=1) (c:=1) (f := "letters") T.cl_Post T.n_letters rfl rfl rfl)
  ak9)
theorem ok_v9(T:Txt K mg a base):FnOk P w K mg base CX0 1 a.f_v9 a.d_v9 ["self", "writer", "receiver"] (spZ (cmOf a K) cC0 (KR (cmOf a K) .F) m_v9):=by
 refine T.F_v9.ok ct7 (fun _ _ _ _=>ab8) (fun _ _ _ _ _ _ _ _ hr h=>?_);have hu:=aD1 hr;have hu64:=hr.units
 refine⟨_,(aa1 (ah2 (i:=3) ct7.nd rfl (Or.inl rfl) (ai3 (ad9 K rfl) (ab1 K rfl (pv 0) rfl) (pv 1) (fun _ _=>rfl)))
  (aa1 (al1 (ac8 (bq7 K rfl hu64) (bb2 hu (ab1 K rfl (pv 0) rfl) (ai9 (aa0 (pv 1) (aa0 (pv 2) aa2))) ⟨rfl,rfl,rfl,rfl⟩) (pv 3) (ae4 _)) (aa3 cf7) ae3)
  (aa1 (ap6 hu (ab1 K rfl (pv 0) rfl) (ai9 (aa0 (pv 1) (aa0 (pv 2) aa2))) (pv 3) rfl)
  (aa3 (ap6 hu (ab1 K rfl (pv 0) rfl) (ai9 (aa0 (pv 1) (aa0 (pv 2) aa2))) (pv 3) rfl))))),?_⟩
 refine ac2 (cm:=cmOf a K) (ms:=cC0) (more:=mo_v9) (body:=ci7) ?_ rfl rfl (fun _ _ _=>rnon) h
 exact(ab7 (aj8 (i:=3) (upM (at7 (aE0 (c:=1) (i:=0) T.cl_Post T.n_roads rfl rfl) (fx (fF 1)))) rfl rfl)
  (ab7 (s_if (upM (pt_T (fx (p_op bP2 (fx (bq3 (aE0 (c:=1) (i:=0) T.cl_Post T.n_written_last rfl rfl) (fx (ar3 (aa9 (fF 1) (aa9 (fF 2) ae5)))))) (fx (fF 3)))))) (cu9 fun _ _ _=>rnon) am4)
  (ab7 (ax9 (pthF (c:=1) (i:=0) T.cl_Post T.n_written_last rfl rfl) (fx (ar3 (aa9 (fF 1) (aa9 (fF 2) ae5)))) (upM (fF 3)))
  (ax9 (pthF (c:=1) (i:=0) T.cl_Post T.n_letters rfl rfl) (fx (ar3 (aa9 (fF 1) (aa9 (fF 2) ae5)))) (upM (fF 3))))))
theorem bb7(T:Txt K mg a base):FnOk P w K mg base CX0 1 a.f_ba9 a.d_ba9 ["script", "k"] (spZ (cmOf a K) bT2 (KR (cmOf a K) .F) m_ba9):=by
 refine T.F_ba9.ok cu7 (fun _ _ _ _=>ab8) (fun _ _ _ _ _ _ _ _ hr h=>?_)
 refine⟨_,(aa1 (al1 (ac8 bq5 (pv 1) (ad7 (ab9 K rfl) rfl T.z_len Gd.ak6 (aa0 (pv 0) aa2)) (ae4 _)) (aa3 (ac9 (ai3 (ad9 K rfl) (pv 0) (pv 1) (fun _ _=>rfl)))) ae3)
  (aa3 (ac9 ab4))),?_⟩
 refine ac2 (cm:=cmOf a K) (ms:=bT2) (more:=cE9) (body:=bs2) ?_ rfl rfl (fun _ _ _=>rnon) h
 exact(ab7 (s_if (upM (pt_T (fx (p_op s_lt (fx (fF 1)) (fx (aw0 ax8 (ux (fR 0)))))))) (af9 (upM (rS (k:= .X) (ux (at7 (rc (fR 0)) (fx (fF 1))))))) am4)
  (af9 (upM pI)))
theorem bw9:CompSc (aa4 bn0) (Gd.aI0 (Gd.bF9 (Gd.nth (aj6 bn0) 0))) "house" []:=by constructor <;> first | rfl | decide +kernel
theorem cz9(T:Txt K mg a base):FnOk P w K mg base CX0 1 a.f_bc9 a.d_bc9 ["cell", "many"] (spZ (cmOf a K) bT0 (KO (cmOf a K) (.ct .fz)) m_bc9):=by
 refine T.F_bc9.ok ba0 (fun _ _ _ _=>ab8) (fun _ _ _ _ _ _ _ _ hr h=>?_)
 refine⟨_,(aa1 (bh7 (i:=2) rfl ba0.nd rfl (.inl rfl) (bp5 rfl T.z_range (aa0 ab4 (aa0 (ag0 al9 (pv 1) ab4) aa2))) bw9 (ix:=[]) rfl (fun _ _ _ _=>aH0) (fun _ _ _ _=>(pv 0)))
  (aa1 (ah2 (i:=3) ba0.nd rfl (Or.inl rfl) (ao9 aa2))
  (aa1 (bb0 Ai4 (ac8 bI4 (ad7 (ab9 K rfl) rfl T.z_len Gd.ak6 (aa0 (pv 2) aa2)) ab4 (ae4 _)) (aa1 (ah2 (i:=0) ba0.nd rfl (Or.inl rfl) (ag0 ar4 (ag0 al9 (ag0 bb5 (pv 0) ab4) ab4) ab4))
  (aa3 (ac4 (bh8 Ap2 PySem.F.slot_list_append PySem.F.type_list_append aM6 (pv 3) (aa0 (bh8 Ap2 PySem.F.slot_list_pop PySem.F.type_list_pop bJ1 (pv 2) (aa0 (ag0 ar4 (ag0 bq6 (pv 0) ab4) (ad7 (ab9 K rfl) rfl T.z_len Gd.ak6 (aa0 (pv 2) aa2))) aa2)) aa2))))))
  (aa3 (ac9 (pv 3)))))),?_⟩
 refine ao1 (cm:=cmOf a K) (ms:=bT0) (more:=cE7) (body:=bs0) ?_ rfl rfl h
 exact(ab7 (aL9 (i:=2) (upM (bb4 (ix:=[]) (i_r2 (fx pI) (fx (p_op av9 (fx (fF 1)) (fx pI)))) (by decide) ba9 (fF 0))) rfl rfl)
  (ab7 (aL9 (i:=3) (upM (aD0 ae5)) rfl rfl)
  (ab7 (bm9 100000 (upM (pt_T (fx (p_op s_gt (fx (aw0 ax8 (cx (fC 2)))) (fx pI))))) (ab7 (aj8 (i:=0) (upM (p_op aG8 (fx (p_op av9 (fx (p_op bG7 (fx (fF 0)) (fx pI))) (fx pI))) (fx pI))) rfl rfl)
  (ae2 (bs4 (i:=3) rfl (cl0 (pthV (i:=2) rfl) (fx (p_op aG8 (fx (p_op bP1 (fx (fF 0)) (fx pI))) (fx (aw0 ax8 (cx (fC 2)))))))))))
  (af9 (m_mv (i:=3) rfl)))))
theorem cz8(T:Txt K mg a base):FnOk P w K mg base CX0 1 a.f_bd9 a.d_bd9 ["found"] (spZ (cmOf a K) bS9 (KR (cmOf a K) .F) m_bd9):=by
 refine T.F_bd9.ok cu6 (fun _ _ _ _=>ab8) (fun _ _ _ _ _ _ _ _ hr h=>?_);refine⟨_,(aa3 (ac9 (bp8 (ad7 (aQ1 K rfl) rfl T.z_isinstance Gd.as9 (aa0 (pv 0) (aa0 (bp7 rfl T.z_int Gd.cK8 (v:= .ty "int") rfl) aa2))) (bR8 (bR9 (ad7 (aQ1 K rfl) rfl T.z_isinstance Gd.as9 (aa0 (pv 0) (aa0 (bp7 rfl T.z_bool Gd.cq8 (v:= .ty "bool") rfl) aa2)))))))),?_⟩;refine ac2 (cm:=cmOf a K) (ms:=bS9) (more:=cE6) (body:=br9) ?_ rfl rfl (fun _ _ _=>rnon) h;exact(af9 (upM (cg7 (fx (cy4 cv1 (fx (fF 0)) (fx pT))) (cx3 (fx (cy4 cv1 (fx (fF 0)) (fx pT)))))))
theorem ok_x9(T:Txt K mg a base):FnOk P w K mg base CX0 1 a.f_x9 a.d_x9 ["house", "standings"] (spZ (cmOf a K) cB8 (KR (cmOf a K) .F) m_x9):=by
 obtain⟨t_SEAT,g_SEAT⟩:=T.g_SEAT;refine T.F_x9.ok ct5 (fun _ _ _ _=>ab8) (fun _ _ _ _ _ _ _ _ hr h=>?_);have cm4:=Mi.cm4 hr
 refine⟨_,(aa1 (al1 (ac8 bh9 (pv 0) (aj4 rfl g_SEAT (v:= .int 0) ⟨_,rfl⟩) (ae4 _)) (aa3 (ac9 (ao9 (aa0 (aj4 rfl g_SEAT (v:= .int 0) ⟨_,rfl⟩) aa2)))) ae3)
  (aa1 (ah2 (i:=2) ct5.nd rfl (Or.inl rfl) (ay2 (aZ2 K rfl rfl cm4) rfl T.z_min Gd.bU3 (aa0 (pv 1) aa2) (aT0 ar1 bp4)))
  (aa1 (al1 (ac8 bb6 (pv 2) ar1 (ae4 _)) (aa3 (ac9 ar1)) ae3)
  (aa3 (ac9 (ai3 (aq2 K rfl) (pv 2) ab4 (fun _ _=>rfl))))))),?_⟩
 refine ac2 (cm:=cmOf a K) (ms:=cB8) (more:=mo_x9) (body:=ci5) ?_ rfl rfl (fun _ _ _=>rnon) h
 exact(ab7 (s_if (upM (pt_T (fx (p_op s_eq (fx (fF 0)) (fx pI))))) (af9 (upM (oF (aD0 (aa9 pI ae5))))) am4)
  (ab7 (aj8 (i:=2) (upM (cx4 (rc (fF 1)) (fx pN))) rfl rfl)
  (ab7 (s_if (upM (pt_T (fx (p_op s_is (fx (fF 2)) (fx pN))))) (af9 (upM pN)) am4)
  (af9 (upM (aT4 (rc (fF 2)) (fx pI)))))))
theorem ok_y9(T:Txt K mg a base):FnOk P w K mg base CX0 1 a.f_y9 a.d_y9 ["road"] (spZ (cmOf a K) cB7 (KR (cmOf a K) .F) m_y9):=by
 refine T.F_y9.ok sc_y9 (fun _ _ _ _=>ab8) (fun _ _ _ _ _ _ _ _ hr h=>?_)
 refine⟨_,(aa1 (al1 (ac8 bb6 (pv 0) ar1 (ae4 _)) (aa3 (ac9 ar1)) ae3)
  (aa3 (ac9 (ar2 (aK3 K rfl) rfl T.z_list Gd.bC4 (aa0 (pv 0) aa2))))),?_⟩
 refine ac2 (cm:=cmOf a K) (ms:=cB7) (more:=mo_y9) (body:=ci4) ?_ rfl rfl (fun _ _ _=>rnon) h
 exact(ab7 (s_if (upM (pt_T (fx (p_op s_is (ux (fR 0)) (fx pN))))) (af9 (upM pN)) am4)
  (af9 (upM (oF (cx8 (cS (k':= .F) (rc (fR 0))))))))
theorem cz6(T:Txt K mg a base):FnOk P w K mg base CX0 1 a.f_bf9 a.d_bf9 ["houses", "count"] (spZ (cmOf a K) bS7 (KR (cmOf a K) .F) m_bf9):=by
 obtain⟨t_SEAT,g_SEAT⟩:=T.g_SEAT;refine T.F_bf9.ok cu4 (fun _ _ _ _=>ab8) (fun _ _ _ _ _ _ _ _ hr h=>?_);refine⟨_,(aa3 (al1 (PW.pt (bH2 (ac8 bq5 (ay2 (bj9 K rfl rfl) rfl T.z_min Gd.bU3 (aa0 (pv 0) aa2) (aT0 (aj4 rfl g_SEAT (v:= .int 0) ⟨_,rfl⟩) bp4)) ab4 (ae4 _)) (bp1 (ac8 op_ge (ay2 (bk0 K rfl rfl) rfl T.z_max Gd.cK7 (aa0 (pv 0) aa2) (aT0 (aj4 rfl g_SEAT (v:= .int 0) ⟨_,rfl⟩) bp4)) (pv 1) (ae4 _))))) (aa3 ai0) ae3)),?_⟩;refine ac2 (cm:=cmOf a K) (ms:=bS7) (more:=cE4) (body:=br7) ?_ rfl rfl (fun _ _ _=>rnon) h;exact(s_if (upM (bH3 (pt_T (fx (p_op s_lt (fx (cx5 (ux (fR 0)) (fx pI))) (fx pI)))) (pt_T (fx (p_op s_ge (fx (cx6 (ux (fR 0)) (fx pI))) (fx (fF 1))))))) ak9 am4)
theorem bq8(T:Txt K mg a base):FnOk P w K mg base CX0 2 a.f_g9 a.d_g9 ["self", "houses"] (spZ (cmOf a K) cD5 (KR (cmOf a K) .F) m_g9):=by
 refine T.F_g9.ok sc_g9 (fun _ _ _ _=>ab8) (fun _ _ _ _ _ _ _ _ hr h=>?_);refine⟨_,(aa3 (ac4 (ah4 (cz6 T) hr.mm rfl T.m_bf9 T.kp_bf9 T.b_bf9 .nil ac7 (aa0 (pv 1) (aa0 (ab1 K rfl (pv 0) rfl) aa2))))),?_⟩;refine ac2 (cm:=cmOf a K) (ms:=cD5) (more:=mo_g9) (body:=ck2) ?_ rfl rfl (fun _ _ _=>rnon) h;exact(ae2 (upM (aC9 (aa7 (aU (fR 1)) (aa7 (aF (rS (k:= .X) (ux (am7 (c:=0) T.cl_Guild T.n_house_count (rc (fR 0)))))) ad3)) rfl)))
theorem bM6:CompSc (aa4 s_u9) (Gd.aI0 (Gd.bF9 (Gd.nth (aj6 s_u9) 0))) "pair" ["self"]:=by constructor <;> first | rfl | decide +kernel
theorem cg9(T:Txt K mg a base):FnOk P w K mg base CX0 2 a.f_u9 a.d_u9 ["self"] (spZ (cmOf a K) cC1 (KO (cmOf a K) (.ct .fz)) m_u9):=by
 refine T.F_u9.ok sc_u9 (fun _ _ _ _=>ab8) (fun _ _ _ _ _ _ _ _ hr h=>?_);have hu:=aD1 hr;refine⟨_,(aa3 (ac9 (cg2 (aH2 rfl (cw5 (ab1 K rfl (pv 0) rfl)) bM6 (ix:=[0]) rfl (fun _ _ _ _=>aH0) (fun _ _ _ _=>(ai9 (aa0 (ai3 (aq2 K rfl) (pv 0) ab4 (fun _ _=>rfl)) (aa0 (ai3 (aq2 K rfl) (pv 0) ab4 (fun _ _=>rfl)) (aa0 (ah4 (ok_y9 T) hr.mm rfl T.m_y9 T.kp_y9 T.b_y9 .nil ac7 (aa0 (cg3 hu (ab1 K rfl (pv 1) rfl) (pv 0) (fun _ _=>rfl)) aa2)) aa2))))))))),?_⟩;refine ao1 (cm:=cmOf a K) (ms:=cC1) (more:=mo_u9) (body:=ci8) ?_ rfl rfl h;exact(af9 (upM (cg6 (i:=0) (c:=1) (f := "letters") (ix:=[0]) T.cl_Post T.n_letters rfl (by decide) ba9 (ar3 (aa9 (aT4 (rc (fF 0)) (fx pI)) (aa9 (aT4 (rc (fF 0)) (fx pI)) (aa9 (aC9 (aa7 (aU (cy3 (rc (am7 (c:=1) T.cl_Post T.n_letters (rc (fR 1)))) (fx (fF 0)))) ad3) rfl) ae5)))))))
theorem cz7(T:Txt K mg a base):FnOk P w K mg base CX0 2 a.f_be9 a.d_be9 ["guild", "house", "road"] (spZ (cmOf a K) bS8 (KR (cmOf a K) .F) m_be9):=by
 obtain⟨t_SEAT,g_SEAT⟩:=T.g_SEAT;refine T.F_be9.ok cu5 (fun _ _ _ _=>ab8) (fun _ _ _ _ _ _ _ _ hr h=>?_);have hu65:=Mi.hu65 hr
 refine⟨_,(aa1 (al1 (PW.pt (bH2 (ac8 bb6 (pv 2) ar1 (ae4 _)) (bH2 (ac8 bh9 (pv 1) (aj4 rfl g_SEAT (v:= .int 0) ⟨_,rfl⟩) (ae4 _)) (bp1 (ac8 (cg8 K rfl hu65) (pv 1) (pv 2) (by with_unfolding_all rfl)))))) (aa3 (ac9 aT3)) ae3)
  (aa3 (ac9 (bR9 (ac5 (pv 0) T.cl_Guild T.me_j9 (ok_j9 T) hr.mm T.b_j9 .nil ac7 (aa0 (pv 1) (aa0 (pv 2) aa2))))))),?_⟩
 refine ac2 (cm:=cmOf a K) (ms:=bS8) (more:=cE5) (body:=br8) ?_ rfl rfl (fun _ _ _=>rnon) h
 exact(ab7 (s_if (upM (bH3 (pt_T (fx (p_op s_is (ux (fR 2)) (fx pN)))) (bH3 (pt_T (fx (p_op s_eq (fx (fF 1)) (fx pI)))) (pt_T (fx (p_op s_inD (fx (fF 1)) (ux (fR 2)))))))) (af9 (upM pB)) am4)
  (af9 (upM (cx3 (fx (aq9 (c:=0) (aU (fR 0)) (aa7 (aF (fF 1)) (aa7 (aU (fR 2)) ad3)) rfl))))))
theorem ok_d9(T:Txt K mg a base):FnOk P w K mg base CX0 3 a.f_d9 a.d_d9 ["self", "a", "b"] (spZ (cmOf a K) cD8 (KR (cmOf a K) .F) m_d9):=by
 refine T.F_d9.ok sc_d9 (fun _ _ _ _=>ab8) (fun _ _ _ _ _ _ _ _ hr h=>?_);have hu:=aD1 hr
 refine⟨_,(aa1 (ac4 (ac5 (pv 0) T.cl_Guild T.me_g9 (bq8 T) hr.mm T.b_g9 .nil ac7 (aa0 (ao9 (aa0 (pv 1) (aa0 (pv 2) aa2))) aa2)))
  (aa3 (ac9 (bI0 hu (ab1 K rfl (pv 0) rfl) (ai9 (aa0 (pv 1) (aa0 (pv 2) aa2))) ab4 ⟨rfl,rfl,rfl,rfl⟩)))),?_⟩
 refine ac2 (cm:=cmOf a K) (ms:=cD8) (more:=mo_d9) (body:=ck5) ?_ rfl rfl (fun _ _ _=>rnon) h
 exact(ab7 (ae2 (upM (aq9 (c:=0) (aU (fR 0)) (aa7 (aF (oF (aD0 (aa9 (fF 1) (aa9 (fF 2) ae5))))) ad3) rfl)))
  (af9 (upM (rS (k:= .X) (ux (cg5 (rc (am7 (c:=0) T.cl_Guild T.n_likings (rc (fR 0)))) (fx (ar3 (aa9 (fF 1) (aa9 (fF 2) ae5)))) (fu pI)))))))
theorem ok_e9(T:Txt K mg a base):FnOk P w K mg base CX0 3 a.f_e9 a.d_e9 ["self", "a"] (spZ (cmOf a K) cD7 (KO (cmOf a K) (.ct .fz)) m_e9):=by
 refine T.F_e9.ok sc_e9 (fun _ _ _ _=>ab8) (fun _ _ _ _ _ _ _ _ hr h=>?_)
 refine⟨_,(aa1 (ac4 (ac5 (pv 0) T.cl_Guild T.me_g9 (bq8 T) hr.mm T.b_g9 .nil ac7 (aa0 (ao9 (aa0 (pv 1) aa2)) aa2)))
  (aa3 (ac9 (ac5 (pv 0) T.cl_Guild T.me_b9 (ok_b9 T) hr.mm T.b_b9 .nil ac7 (aa0 (ab1 K rfl (pv 0) rfl) (aa0 (pv 1) aa2)))))),?_⟩
 refine ao1 (cm:=cmOf a K) (ms:=cD7) (more:=mo_e9) (body:=ck4) ?_ rfl rfl h
 exact(ab7 (ae2 (upM (aq9 (c:=0) (aU (fR 0)) (aa7 (aF (oF (aD0 (aa9 (fF 1) ae5)))) ad3) rfl)))
  (af9 (upM (aD9 (c:=0) (aU (fR 0)) (aa7 (aU (am7 (c:=0) T.cl_Guild T.n_ways (rc (fR 0)))) (aa7 (aF (fF 1)) ad3)) rfl))))
theorem cz4(T:Txt K mg a base):FnOk P w K mg base CX0 3 a.f_h9 a.d_h9 ["self", "road"] (spZ (cmOf a K) cD4 (KR (cmOf a K) .F) m_h9):=by
 obtain⟨t_SEAT,g_SEAT⟩:=T.g_SEAT;refine T.F_h9.ok sc_h9 (fun _ _ _ _=>ab8) (fun _ _ _ _ _ _ _ _ hr h=>?_)
 refine⟨_,(aa1 (ac4 (ac5 (pv 0) T.cl_Guild T.me_g9 (bq8 T) hr.mm T.b_g9 .nil ac7 (aa0 (pv 1) aa2)))
  (aa1 (al1 (ac8 bq5 (ad7 (ab9 K rfl) rfl T.z_len Gd.ak6 (aa0 (pv 1) aa2)) ab4 (ae4 _)) (aa3 ai0) ae3)
  (aa1 (al1 (ac8 cy7 (ai3 (ad9 K rfl) (pv 1) (cw7 bN9 ab4) (fun _ _=>rfl)) (aj4 rfl g_SEAT (v:= .int 0) ⟨_,rfl⟩) (ae4 _)) (aa3 ai0) ae3)
  (aa3 (al1 (ac8 cy7 (ad7 bB9 rfl T.z_len Gd.ak6 (aa0 (ar2 (bj7 K rfl rfl) rfl T.z_set Gd.cK6 (aa0 (pv 1) aa2)) aa2)) (ad7 (ab9 K rfl) rfl T.z_len Gd.ak6 (aa0 (pv 1) aa2)) (ae4 _)) (aa3 ai0) ae3))))),?_⟩
 refine ac2 (cm:=cmOf a K) (ms:=cD4) (more:=mo_h9) (body:=ck1) ?_ rfl rfl (fun _ _ _=>rnon) h
 exact(ab7 (ae2 (upM (aq9 (c:=0) (aU (fR 0)) (aa7 (aU (fR 1)) ad3) rfl)))
  (ab7 (s_if (upM (pt_T (fx (p_op s_lt (fx (aw0 ax8 (ux (fR 1)))) (fx pI))))) ak9 am4)
  (ab7 (s_if (upM (pt_T (fx (p_op s_ne (ux (at7 (rc (fR 1)) (fx (p_un cv0 (fx pI))))) (fx pI))))) ak9 am4)
  (s_if (upM (pt_T (fx (p_op s_ne (fx (bI1 (ux (fR 1)))) (fx (aw0 ax8 (ux (fR 1)))))))) ak9 am4))))
theorem ok_i9(T:Txt K mg a base):FnOk P w K mg base CX0 3 a.f_i9 a.d_i9 ["self", "a", "b"] (spZ (cmOf a K) cD3 (KR (cmOf a K) .F) m_i9):=by
 refine T.F_i9.ok sc_i9 (fun _ _ _ _=>ab8) (fun _ _ _ _ _ _ _ _ hr h=>?_)
 refine⟨_,(aa1 (ac4 (ac5 (pv 0) T.cl_Guild T.me_g9 (bq8 T) hr.mm T.b_g9 .nil ac7 (aa0 (ao9 (aa0 (pv 1) (aa0 (pv 2) aa2))) aa2)))
  (aa3 (al1 (ac8 bh9 (pv 1) (pv 2) (ae4 _)) (aa3 ai0) ae3))),?_⟩
 refine ac2 (cm:=cmOf a K) (ms:=cD3) (more:=mo_i9) (body:=ck0) ?_ rfl rfl (fun _ _ _=>rnon) h
 exact(ab7 (ae2 (upM (aq9 (c:=0) (aU (fR 0)) (aa7 (aF (oF (aD0 (aa9 (fF 1) (aa9 (fF 2) ae5))))) ad3) rfl)))
  (s_if (upM (pt_T (fx (p_op s_eq (fx (fF 1)) (fx (fF 2)))))) ak9 am4))
theorem ok_l9(T:Txt K mg a base):FnOk P w K mg base CX0 3 a.f_l9 a.d_l9 ["self"] (spZ (cmOf a K) cD0 (KO (cmOf a K) (.ob ai7)) m_l9):=by
 refine T.F_l9.ok cu1 (fun _ _ _ _=>ab8) (fun _ _ _ _ _ _ _ _ hr h=>?_)
 refine⟨_,(aa1 (ah2 (i:=1) cu1.nd rfl (Or.inl rfl) (aT1 T.mk_Guild (cA1 T) hr.mm rfl T.mgC_Guild T.b_a9 .nil ac7 (aa0 (ab1 K rfl (pv 0) rfl) aa2)))
  (aa1 (ac4 (bh8 Ad0 Ai5 Ai6 ar6 (ab1 K rfl (pv 1) rfl) (aa0 (ab1 K rfl (pv 0) rfl) aa2)))
  (aa1 (ac4 (bh8 Ad0 Ai5 Ai6 ar6 (ab1 K rfl (pv 1) rfl) (aa0 (ab1 K rfl (pv 0) rfl) aa2)))
  (aa1 (ac4 (bh8 Ad0 Ai5 Ai6 ar6 (ab1 K rfl (pv 1) rfl) (aa0 (ab1 K rfl (pv 0) rfl) aa2)))
  (aa1 (ac4 (bh8 Ad0 Ai5 Ai6 ar6 (ab1 K rfl (pv 1) rfl) (aa0 (ab1 K rfl (pv 0) rfl) aa2)))
  (aa3 (ac9 (pv 1)))))))),?_⟩
 refine ao1 (cm:=cmOf a K) (ms:=cD0) (more:=mo_l9) (body:=cj7) ?_ rfl rfl h
 exact(ab7 (aL9 (i:=1) (upM (cg0 (c:=0) (aa7 (aF (rS (k:= .X) (ux (am7 (c:=0) T.cl_Guild T.n_house_count (rc (fR 0)))))) ad3) rfl)) rfl rfl)
  (ab7 (ae2 (aw6 (pthF (c:=0) (i:=1) T.cl_Guild T.n_ways rfl rfl) (am7 (c:=0) T.cl_Guild T.n_ways (rc (fR 0)))))
  (ab7 (ae2 (aw6 (pthF (c:=0) (i:=1) T.cl_Guild T.n_likings rfl rfl) (am7 (c:=0) T.cl_Guild T.n_likings (rc (fR 0)))))
  (ab7 (ae2 (aw6 (pthF (c:=0) (i:=1) T.cl_Guild T.n_shuns rfl rfl) (am7 (c:=0) T.cl_Guild T.n_shuns (rc (fR 0)))))
  (ab7 (ae2 (aw6 (pthF (c:=0) (i:=1) T.cl_Guild T.n_wish_ranks rfl rfl) (am7 (c:=0) T.cl_Guild T.n_wish_ranks (rc (fR 0)))))
  (af9 (m_mv (i:=1) rfl)))))))
theorem ch0(T:Txt K mg a base):FnOk P w K mg base CX0 4 a.f_c9 a.d_c9 ["self", "a", "b"] (spZ (cmOf a K) cD9 (KR (cmOf a K) .F) m_c9):=by
 refine T.F_c9.ok sc_c9 (fun _ _ _ _=>ab8) (fun _ _ _ _ _ _ _ _ hr h=>?_);have hu:=aD1 hr
 refine⟨_,(aa1 (ac4 (ac5 (pv 0) T.cl_Guild T.me_i9 (ok_i9 T) hr.mm T.b_i9 .nil ac7 (aa0 (pv 1) (aa0 (pv 2) aa2))))
  (aa1 (al1 (bp2 (bq0 hu (ai9 (aa0 (pv 1) (aa0 (pv 2) aa2))) (ab1 K rfl (pv 0) rfl))) (aa3 ai0) ae3)
  (aa1 (ap6 hu (ab1 K rfl (pv 0) rfl) (ai9 (aa0 (pv 1) (aa0 (pv 2) aa2))) aT3 rfl)
  (aa3 (ap6 hu (ab1 K rfl (pv 0) rfl) (ai9 (aa0 (pv 2) (aa0 (pv 1) aa2))) aT3 rfl))))),?_⟩
 refine ac2 (cm:=cmOf a K) (ms:=cD9) (more:=mo_c9) (body:=ck6) ?_ rfl rfl (fun _ _ _=>rnon) h
 exact(ab7 (ae2 (upM (aq9 (c:=0) (aX (fO 0)) (aa7 (aF (fF 1)) (aa7 (aF (fF 2)) ad3)) rfl)))
  (ab7 (s_if (upM (pt_B (fx (cg4 (fx (ar3 (aa9 (fF 1) (aa9 (fF 2) ae5)))) (aE0 (c:=0) (i:=0) T.cl_Guild T.n_ways rfl rfl))))) ak9 am4)
  (ab7 (ax9 (pthF (c:=0) (i:=0) T.cl_Guild T.n_ways rfl rfl) (fx (ar3 (aa9 (fF 1) (aa9 (fF 2) ae5)))) (upM pB))
  (ax9 (pthF (c:=0) (i:=0) T.cl_Guild T.n_ways rfl rfl) (fx (ar3 (aa9 (fF 2) (aa9 (fF 1) ae5)))) (upM pB)))))
theorem ok_f9(T:Txt K mg a base):FnOk P w K mg base CX0 4 a.f_f9 a.d_f9 ["self", "road"] (spZ (cmOf a K) cD6 (KR (cmOf a K) .F) m_f9):=by
 refine T.F_f9.ok cu2 (fun _ _ _ _=>ab8) (fun _ _ _ _ _ _ _ _ hr h=>?_);have hu:=aD1 hr
 refine⟨_,(aa1 (ac4 (ac5 (pv 0) T.cl_Guild T.me_h9 (cz4 T) hr.mm T.b_h9 .nil ac7 (aa0 (pv 1) aa2)))
  (aa1 (ah2 (i:=2) cu2.nd rfl (Or.inl rfl) (bb2 hu (ab1 K rfl (pv 0) rfl) (ar2 (ap4 K rfl) rfl T.z_tuple Gd.bf9 (aa0 (pv 1) aa2)) ⟨rfl,rfl,rfl,rfl⟩))
  (aa1 (al1 (ac8 bb6 (pv 2) ar1 (ae4 _)) (aa3 (ac9 (ac5 (pv 0) T.cl_Guild T.me_d9 (ok_d9 T) hr.mm T.b_d9 .nil ac7 (aa0 (ai3 (ad9 K rfl) (pv 1) ab4 (fun _ _=>rfl)) (aa0 (ai3 (ad9 K rfl) (pv 1) ab4 (fun _ _=>rfl)) aa2))))) ae3)
  (aa3 (ac9 (pv 2)))))),?_⟩
 refine ac2 (cm:=cmOf a K) (ms:=cD6) (more:=mo_f9) (body:=ck3) ?_ rfl rfl (fun _ _ _=>rnon) h
 exact(ab7 (ae2 (upM (aq9 (c:=0) (aU (fR 0)) (aa7 (aU (fR 1)) ad3) rfl)))
  (ab7 (aj8 (i:=2) (upM (rS (k:= .X) (ux (bq3 (rc (am7 (c:=0) T.cl_Guild T.n_wish_ranks (rc (fR 0)))) (fx (bq2 (cS (k':= .F) (rc (fR 1))))))))) rfl rfl)
  (ab7 (s_if (upM (pt_T (fx (p_op s_is (fx (fF 2)) (fx pN))))) (af9 (upM (aq9 (c:=0) (aU (fR 0)) (aa7 (aF (rS (k:= .X) (ux (at7 (rc (fR 1)) (fx pI))))) (aa7 (aF (rS (k:= .X) (ux (at7 (rc (fR 1)) (fx pI))))) ad3)) rfl))) am4)
  (af9 (upM (fF 2))))))
theorem ok_m9(T:Txt K mg a base):FnOk P w K mg base CX0 4 a.f_m9 a.d_m9 ["self", "road", "rank"] (spZ (cmOf a K) cC9 (KR (cmOf a K) .F) m_m9):=by
 refine T.F_m9.ok sc_m9 (fun _ _ _ _=>ab8) (fun _ _ _ _ _ _ _ _ hr h=>?_);have hu:=aD1 hr
 refine⟨_,(aa1 (ac4 (ac5 (pv 0) T.cl_Guild T.me_h9 (cz4 T) hr.mm T.b_h9 .nil ac7 (aa0 (pv 1) aa2)))
  (aa3 (ap6 hu (ab1 K rfl (pv 0) rfl) (ar2 (ap4 K rfl) rfl T.z_tuple Gd.bf9 (aa0 (pv 1) aa2)) (pv 2) rfl))),?_⟩
 refine ac2 (cm:=cmOf a K) (ms:=cC9) (more:=mo_m9) (body:=cj6) ?_ rfl rfl (fun _ _ _=>rnon) h
 exact(ab7 (ae2 (upM (aq9 (c:=0) (aX (fO 0)) (aa7 (aU (fR 1)) ad3) rfl)))
  (ax9 (pthF (c:=0) (i:=0) T.cl_Guild T.n_wish_ranks rfl rfl) (fx (bq2 (cS (k':= .F) (rc (fR 1))))) (upM (fF 2))))
theorem cz1(T:Txt K mg a base):FnOk P w K mg base CX0 4 a.f_w9 a.d_w9 ["self", "writer"] (spZ (cmOf a K) cB9 (KR (cmOf a K) .F) m_w9):=by
 refine T.F_w9.ok ct6 (fun _ _ _ _=>ab8) (fun _ _ _ _ _ _ _ _ hr h=>?_);refine⟨_,(aa3 (bb1 Ai4 rfl (aH1 K rfl (ac5 (ab1 K rfl (pv 0) rfl) T.cl_Guild T.me_e9 (ok_e9 T) hr.mm T.b_e9 .nil ac7 (aa0 (pv 1) aa2))) (ap7 (i:=2) ct6.nd rfl (Or.inl rfl)) (aa3 (ac4 (ac5 (pv 0) T.cl_Post T.me_v9 (ok_v9 T) hr.mm T.b_v9 .nil ac7 (aa0 (pv 1) (aa0 (pv 2) aa2))))))),?_⟩;refine ac2 (cm:=cmOf a K) (ms:=cB9) (more:=mo_w9) (body:=ci6) ?_ rfl rfl (fun _ _ _=>rnon) h;exact(bG8 (upM (bu1 (oF (aD9 (c:=0) (aX (am7 (c:=1) T.cl_Post T.n_guild (rc (fO 0)))) (aa7 (aF (fF 1)) ad3) rfl)))) (.inl rfl) (tgF (i:=2) rfl rfl) (ae2 (aw2 (c:=1) (aO (i:=0)) (aa7 (aF (fF 1)) (aa7 (aF (fF 2)) ad3)) ⟨rfl,trivial,trivial,trivial⟩ (by decide) (by decide))))
theorem bM7:CompSc (aa4 s_n9) (Gd.aI0 (Gd.bF9 (Gd.nth (aj6 s_n9) 6))) "house" []:=by constructor <;> first | rfl | decide +kernel
theorem ok_n9(T:Txt K mg a base):FnOk P w K mg base CX0 5 a.f_n9 a.d_n9 ["self", "guild"] (spZ (cmOf a K) cC8 (KR (cmOf a K) .F) m_n9):=by
 obtain⟨t_SEAT,g_SEAT⟩:=T.g_SEAT;refine T.F_n9.ok sc_n9 (fun _ _ _ _=>ab8) (fun _ _ _ _ _ _ _ _ hr h=>?_)
 refine⟨_,(aa1 (am5 (pv 0) (aj0 (pv 1) T.cl_Guild T.me_l9 (ok_l9 T) hr.mm T.b_l9 .nil ac7) rfl)
  (aa1 (am5 (pv 0) (ag0 cy5 (ao9 (aa0 ar1 aa2)) (aj0 (pv 1) T.cl_Guild T.me_k9 (cz3 T) hr.mm T.b_k9 .nil ac7)) rfl)
  (aa1 (bR6 (ao9 (aa0 (aj4 rfl g_SEAT (v:= .int 0) ⟨_,rfl⟩) aa2)) (bR7 (ab1 K rfl (pv 0) rfl) (aj4 rfl g_SEAT (v:= .int 0) ⟨_,rfl⟩) aZ9))
  (aa1 (am5 (pv 0) al2 rfl)
  (aa1 (am5 (pv 0) al2 rfl)
  (aa1 (am5 (pv 0) al2 rfl)
  (aa1 (am5 (pv 0) (aH2 rfl (ar0 rfl T.z_range (aa0 (aj0 (pv 1) T.cl_Guild T.me_k9 (cz3 T) hr.mm T.b_k9 .nil ac7) aa2)) bM7 (ix:=[]) rfl (fun _ _ _ _=>aH0) (fun _ _ _ _=>bH9)) rfl)
  (aa3 (ac4 (ac5 (pv 0) T.cl_Post T.me_w9 (cz1 T) hr.mm T.b_w9 .nil ac7 (aa0 (aj4 rfl g_SEAT (v:= .int 0) ⟨_,rfl⟩) aa2))))))))))),?_⟩
 refine ac2 (cm:=cmOf a K) (ms:=cC8) (more:=mo_n9) (body:=cj5) ?_ rfl rfl (fun _ _ _=>rnon) h
 exact(ab7 (ao7 (c:=1) (i:=0) T.cl_Post T.n_guild rfl rfl (upM (aD9 (c:=0) (aU (fR 1)) ad3 rfl)))
  (ab7 (ao7 (c:=1) (i:=0) T.cl_Post T.n_roads rfl rfl (upM (p_rep (oc (aD0 (aa9 pN ae5))) (fx (aq9 (c:=0) (aU (fR 1)) ad3 rfl)))))
  (ab7 (bP0 (pthF (c:=1) (i:=0) T.cl_Post T.n_roads rfl rfl) (fx pI) (upM (oF (aD0 (aa9 pI ae5)))))
  (ab7 (ao7 (c:=1) (i:=0) T.cl_Post T.n_told_last rfl rfl (upM aT5))
  (ab7 (ao7 (c:=1) (i:=0) T.cl_Post T.n_written_last rfl rfl (upM aT5))
  (ab7 (ao7 (c:=1) (i:=0) T.cl_Post T.n_letters rfl rfl (upM aT5))
  (ab7 (ao7 (c:=1) (i:=0) T.cl_Post T.n_standings rfl rfl (upM (bI3 (ix:=[]) (i_r1 (fx (aq9 (c:=0) (aU (fR 1)) ad3 rfl))) (by decide) ba9 p_dnK)))
  (ae2 (aw2 (c:=1) (aO (i:=0)) (aa7 (aF pI) ad3) ⟨rfl,trivial,trivial⟩ (by decide) (by decide))))))))))
theorem ok_q9(T:Txt K mg a base):FnOk P w K mg base CX0 5 a.f_q9 a.d_q9 ["self", "house"] (spZ (cmOf a K) cC5 (KR (cmOf a K) .F) m_q9):=by
 refine T.F_q9.ok ct9 (fun _ _ _ _=>ab8) (fun _ _ _ _ _ _ _ _ hr h=>?_);have hu64:=hr.units
 refine⟨_,(aa1 (ah2 (i:=2) ct9.nd rfl (Or.inl rfl) (ah4 (ok_x9 T) hr.mm rfl T.m_x9 T.kp_x9 T.b_x9 .nil ac7 (aa0 (pv 1) (aa0 (aT2 rfl rfl T.z_list Gd.bC4 (ai3 (ad9 K rfl) (ab1 K rfl (pv 0) rfl) (pv 1) (fun _ _=>rfl))) aa2))))
  (aa1 (al1 (ac8 (bq7 K rfl hu64) (pv 2) (ai3 (ad9 K rfl) (ab1 K rfl (pv 0) rfl) (pv 1) (fun _ _=>rfl)) (ae4 _)) (aa3 (ac9 aT3)) ae3)
  (aa1 (bR6 (pv 2) (bR7 (ab1 K rfl (pv 0) rfl) (pv 1) aZ9))
  (aa1 (ac4 (ac5 (pv 0) T.cl_Post T.me_w9 (cz1 T) hr.mm T.b_w9 .nil ac7 (aa0 (pv 1) aa2)))
  (aa3 (ac9 aT3)))))),?_⟩
 refine ac2 (cm:=cmOf a K) (ms:=cC5) (more:=mo_q9) (body:=cj2) ?_ rfl rfl (fun _ _ _=>rnon) h
 exact(ab7 (aj8 (i:=2) (upM (aC9 (aa7 (aF (fF 1)) (aa7 (aF (oF (cx1 (p_prt (prtI (prtF (c:=1) (prtV (i:=0) rfl) T.cl_Post T.n_standings rfl) (bt4 (j:=1))))))) ad3)) rfl)) rfl rfl)
  (ab7 (s_if (upM (pt_T (fx (p_op bP2 (fx (fF 2)) (fx (at7 (aE0 (c:=1) (i:=0) T.cl_Post T.n_roads rfl rfl) (fx (fF 1)))))))) (af9 (upM pB)) am4)
  (ab7 (bP0 (pthF (c:=1) (i:=0) T.cl_Post T.n_roads rfl rfl) (fx (fF 1)) (upM (fF 2)))
  (ab7 (ae2 (aw2 (c:=1) (aO (i:=0)) (aa7 (aF (fF 1)) ad3) ⟨rfl,trivial,trivial⟩ (by decide) (by decide)))
  (af9 (upM pB))))))
theorem cA0(T:Txt K mg a base):FnOk P w K mg base CX0 5 a.f_bb9 a.d_bb9 ["ring", "leaves", "cell"] (spZ (cmOf a K) bT1 (KO (cmOf a K) (.ob ai7)) m_bb9):=by
 refine T.F_bb9.ok aL7 (fun _ _ _ _=>ab8) (fun _ _ _ _ _ _ _ _ hr h=>?_)
 refine⟨_,(aa1 (ah2 (i:=3) aL7.nd rfl (Or.inl rfl) (ad7 (ab9 K rfl) rfl T.z_len Gd.ak6 (aa0 (pv 0) aa2)))
  (aa1 (ah2 (i:=4) aL7.nd rfl (Or.inl rfl) (aT1 T.mk_Guild (cA1 T) hr.mm rfl T.mgC_Guild T.b_a9 .nil ac7 (aa0 (ag0 al9 (ag0 al9 ab4 (pv 3)) (pv 1)) aa2)))
  (aa1 (bb1 Ai4 rfl (ar0 rfl T.z_range (aa0 (pv 3) aa2)) (ap7 (i:=5) aL7.nd rfl (Or.inl rfl)) (aa1 (ac4 (ac5 (pv 4) T.cl_Guild T.me_c9 (ch0 T) hr.mm T.b_c9 .nil ac7 (aa0 (ai3 (ad9 K rfl) (pv 0) (pv 5) (fun _ _=>rfl)) (aa0 ab4 aa2))))
  (aa1 (ac4 (ac5 (pv 4) T.cl_Guild T.me_c9 (ch0 T) hr.mm T.b_c9 .nil ac7 (aa0 (ai3 (ad9 K rfl) (pv 0) (pv 5) (fun _ _=>rfl)) (aa0 (ai3 (ad9 K rfl) (pv 0) (ag0 ar4 (ag0 al9 (pv 5) ab4) (pv 3)) (fun _ _=>rfl)) aa2))))
  (aa3 (ac4 (ac5 (pv 4) T.cl_Guild T.me_m9 (ok_m9 T) hr.mm T.b_m9 .nil ac7 (aa0 (ao9 (aa0 (ai3 (ad9 K rfl) (pv 0) (pv 5) (fun _ _=>rfl)) (aa0 (ai3 (ad9 K rfl) (pv 0) (ag0 ar4 (ag0 al9 (pv 5) ab4) (pv 3)) (fun _ _=>rfl)) (aa0 ab4 aa2)))) (aa0 (ag0 al9 ab4 (ag0 ar4 (ag0 al9 (pv 2) (ag0 bb5 (pv 5) (pv 5))) (ag0 cy6 ab4 ab4))) aa2))))))))
  (aa1 (bb1 Ai4 rfl (ar0 rfl T.z_range (aa0 (pv 1) aa2)) (ap7 (i:=5) aL7.nd rfl (Or.inl rfl)) (aa3 (ac4 (ac5 (pv 4) T.cl_Guild T.me_c9 (ch0 T) hr.mm T.b_c9 .nil ac7 (aa0 (ag0 al9 (ag0 al9 (pv 3) ab4) (pv 5)) (aa0 (ai3 (ad9 K rfl) (pv 0) (ag0 ar4 (ag0 al9 (ag0 bq6 (pv 2) ab4) (ag0 bb5 (pv 5) ab4)) (pv 3)) (fun _ _=>rfl)) aa2))))))
  (aa3 (ac9 (pv 4))))))),?_⟩
 refine ao1 (cm:=cmOf a K) (ms:=bT1) (more:=cE8) (body:=bs1) ?_ rfl rfl h
 exact(ab7 (aj8 (i:=3) (upM (aw0 ax8 (fx (fF 0)))) rfl rfl)
  (ab7 (aL9 (i:=4) (upM (cg0 (c:=0) (aa7 (aF (p_op av9 (fx (p_op av9 (fx pI) (fx (fF 3)))) (fx (fF 1)))) ad3) rfl)) rfl rfl)
  (ab7 (bG8 (upM (i_r1 (fx (fF 3)))) (.inl rfl) (tgF (i:=5) rfl rfl) (ab7 (ae2 (aw2 (c:=0) (aO (i:=4)) (aa7 (aF (at7 (rc (fF 0)) (fx (fF 5)))) (aa7 (aF pI) ad3)) ⟨rfl,trivial,trivial,trivial⟩ (by decide) (by decide)))
  (ab7 (ae2 (aw2 (c:=0) (aO (i:=4)) (aa7 (aF (at7 (rc (fF 0)) (fx (fF 5)))) (aa7 (aF (at7 (rc (fF 0)) (fx (p_op aG8 (fx (p_op av9 (fx (fF 5)) (fx pI))) (fx (fF 3)))))) ad3)) ⟨rfl,trivial,trivial,trivial⟩ (by decide) (by decide)))
  (ae2 (aw2 (c:=0) (aO (i:=4)) (aa7 (aF (oF (aD0 (aa9 (at7 (rc (fF 0)) (fx (fF 5))) (aa9 (at7 (rc (fF 0)) (fx (p_op aG8 (fx (p_op av9 (fx (fF 5)) (fx pI))) (fx (fF 3))))) (aa9 pI ae5)))))) (aa7 (aF (p_op av9 (fx pI) (fx (p_op aG8 (fx (p_op av9 (fx (fF 2)) (fx (p_op bG7 (fx (fF 5)) (fx (fF 5)))))) (fx (p_op s_pow (fx pI) (fx pI))))))) ad3)) ⟨rfl,trivial,trivial,trivial⟩ (by decide) (by decide))))))
  (ab7 (bG8 (upM (i_r1 (fx (fF 1)))) (.inl rfl) (tgF (i:=5) rfl rfl) (ae2 (aw2 (c:=0) (aO (i:=4)) (aa7 (aF (p_op av9 (fx (p_op av9 (fx (fF 3)) (fx pI))) (fx (fF 5)))) (aa7 (aF (at7 (rc (fF 0)) (fx (p_op aG8 (fx (p_op av9 (fx (p_op bP1 (fx (fF 2)) (fx pI))) (fx (p_op bG7 (fx (fF 5)) (fx pI))))) (fx (fF 3)))))) ad3)) ⟨rfl,trivial,trivial,trivial⟩ (by decide) (by decide))))
  (af9 (m_mv (i:=4) rfl))))))
theorem cz5(T:Txt K mg a base):FnOk P w K mg base CX0 5 a.f_bg9 a.d_bg9 ["guild", "road"] (spZ (cmOf a K) bS6 (KR (cmOf a K) .F) m_bg9):=by
 refine T.F_bg9.ok cu3 (fun _ _ _ _=>ab8) (fun _ _ _ _ _ _ _ _ hr h=>?_);refine⟨_,(aa3 (ac9 (ai9 (aa0 (cw7 bN9 (ac5 (pv 0) T.cl_Guild T.me_f9 (ok_f9 T) hr.mm T.b_f9 .nil ac7 (aa0 (pv 1) aa2))) (aa0 (ad7 (ab9 K rfl) rfl T.z_len Gd.ak6 (aa0 (pv 1) aa2)) (aa0 (pv 1) aa2)))))),?_⟩;refine ac2 (cm:=cmOf a K) (ms:=bS6) (more:=cE3) (body:=br6) ?_ rfl rfl (fun _ _ _=>rnon) h;exact(af9 (upM (ar3 (aa9 (p_un cv0 (fx (aq9 (c:=0) (aU (fR 0)) (aa7 (aF (fF 1)) ad3) rfl))) (aa9 (aw0 ax8 (fx (fF 1))) (aa9 (fF 1) ae5))))))
theorem ok_s9(T:Txt K mg a base):FnOk P w K mg base CX0 6 a.f_s9 a.d_s9 ["self", "writer", "receiver", "road"] (spZ (cmOf a K) cC3 (KR (cmOf a K) .F) m_s9):=by
 refine T.F_s9.ok sc_s9 (fun _ _ _ _=>ab8) (fun _ _ _ _ _ _ _ _ hr h=>?_);have hu:=aD1 hr
 refine⟨_,(aa1 (ap6 hu (ab1 K rfl (pv 0) rfl) (ai9 (aa0 (pv 1) (aa0 (pv 2) aa2))) (pv 3) rfl)
  (aa3 (al1 (cw1 (ah4 (cz7 T) hr.mm rfl T.m_be9 T.kp_be9 T.b_be9 .nil ac7 (aa0 (ab1 K rfl (pv 0) rfl) (aa0 (pv 2) (aa0 (pv 3) aa2))))) (aa3 (ap6 hu (ai3 (ad9 K rfl) (ab1 K rfl (pv 0) rfl) (pv 2) (fun _ _=>rfl)) (pv 1) (ah4 (cz5 T) hr.mm rfl T.m_bg9 T.kp_bg9 T.b_bg9 .nil ac7 (aa0 (ab1 K rfl (pv 0) rfl) (aa0 (ag0 cz0 (ao9 (aa0 (pv 2) aa2)) (pv 3)) aa2))) rfl)) (aa3 (ac4 (bH8 (ai3 (ad9 K rfl) (ab1 K rfl (pv 0) rfl) (pv 2) (fun _ _=>rfl)) (pv 1) ar1 ⟨rfl,rfl,rfl,rfl⟩)))))),?_⟩
 refine ac2 (cm:=cmOf a K) (ms:=cC3) (more:=mo_s9) (body:=cj0) ?_ rfl rfl (fun _ _ _=>rnon) h
 exact(ab7 (ax9 (pthF (c:=1) (i:=0) T.cl_Post T.n_told_last rfl rfl) (fx (ar3 (aa9 (fF 1) (aa9 (fF 2) ae5)))) (upM (fF 3)))
  (s_if (upM (pt_B (fx (aC9 (aa7 (aX (am7 (c:=1) T.cl_Post T.n_guild (rc (fO 0)))) (aa7 (aF (fF 2)) (aa7 (aF (fF 3)) ad3))) rfl)))) (ax9 (pthP (prtI (prtF (c:=1) (prtV (i:=0) rfl) T.cl_Post T.n_standings rfl) (bt4 (j:=2)))) (fx (fF 1)) (upM (aC9 (aa7 (aX (am7 (c:=1) T.cl_Post T.n_guild (rc (fO 0)))) (aa7 (aF (oF (p_cat (oc (aD0 (aa9 (fF 2) ae5))) (rc (fF 3))))) ad3)) rfl))) (ae2 (cl3 (pthP (prtI (prtF (c:=1) (prtV (i:=0) rfl) T.cl_Post T.n_standings rfl) (bt4 (j:=2)))) (fx (fF 1))))))
theorem cz2(T:Txt K mg a base):FnOk P w K mg base CX0 7 a.f_o9 a.d_o9 ["self", "a", "b"] (spZ (cmOf a K) cC7 (KR (cmOf a K) .F) m_o9):=by
 refine T.F_o9.ok sc_o9 (fun _ _ _ _=>ab8) (fun _ _ _ _ _ _ _ _ hr h=>?_);have hu:=aD1 hr
 refine⟨_,(aa1 (ac4 (ac5 (ab1 K rfl (pv 0) rfl) T.cl_Guild T.me_g9 (bq8 T) hr.mm T.b_g9 .nil ac7 (aa0 (ao9 (aa0 (pv 1) (aa0 (pv 2) aa2))) aa2)))
  (aa1 (al1 (bp2 (bp9 hu (ai9 (aa0 (pv 1) (aa0 (pv 2) aa2))) (ab1 K rfl (pv 0) rfl))) (aa3 ai0) ae3)
  (aa1 (ac4 (ac5 (pv 0) T.cl_Post T.me_s9 (ok_s9 T) hr.mm T.b_s9 .nil ac7 (aa0 (pv 1) (aa0 (pv 2) (aa0 (bH7 hu (ab1 K rfl (pv 0) rfl) (ai9 (aa0 (pv 1) (aa0 (pv 2) aa2))) ⟨rfl,rfl,rfl,rfl⟩) aa2)))))
  (aa3 (ac9 (ac5 (pv 0) T.cl_Post T.me_q9 (ok_q9 T) hr.mm T.b_q9 .nil ac7 (aa0 (pv 2) aa2))))))),?_⟩
 refine ac2 (cm:=cmOf a K) (ms:=cC7) (more:=mo_o9) (body:=cj4) ?_ rfl rfl (fun _ _ _=>rnon) h
 exact(ab7 (ae2 (upM (aq9 (c:=0) (aX (am7 (c:=1) T.cl_Post T.n_guild (rc (fO 0)))) (aa7 (aF (oF (aD0 (aa9 (fF 1) (aa9 (fF 2) ae5))))) ad3) rfl)))
  (ab7 (s_if (upM (pt_B (fx (cy2 (fx (ar3 (aa9 (fF 1) (aa9 (fF 2) ae5)))) (aE0 (c:=1) (i:=0) T.cl_Post T.n_letters rfl rfl))))) ak9 am4)
  (ab7 (ae2 (ci0 (c:=1) (i:=0) (fF 1) (fF 2) (cF4 (pthF (c:=1) (i:=0) T.cl_Post T.n_letters rfl rfl) (fx (ar3 (aa9 (fF 1) (aa9 (fF 2) ae5))))) ⟨rfl,trivial,trivial,trivial,trivial⟩))
  (af9 (aw2 (c:=1) (aO (i:=0)) (aa7 (aF (fF 2)) ad3) ⟨rfl,trivial,trivial⟩ (by decide) (by decide))))))
theorem ok_p9(T:Txt K mg a base):FnOk P w K mg base CX0 8 a.f_p9 a.d_p9 ["self"] (spZ (cmOf a K) cC6 (KR (cmOf a K) .F) m_p9):=by
 refine T.F_p9.ok cu0 (fun _ _ _ _=>ab8) (fun _ _ _ _ _ _ _ _ hr h=>?_)
 refine⟨_,(aa1 (ah2 (i:=1) cu0.nd rfl (Or.inl rfl) (aj0 (pv 0) T.cl_Post T.me_r9 (ok_r9 T) hr.mm T.b_r9 .nil ac7))
  (aa3 (ac9 (ac5 (pv 0) T.cl_Post T.me_o9 (cz2 T) hr.mm T.b_o9 .nil ac7 (aa0 (ai3 (aq2 K rfl) (pv 1) ab4 (fun _ _=>rfl)) (aa0 (ai3 (aq2 K rfl) (pv 1) ab4 (fun _ _=>rfl)) aa2)))))),?_⟩
 refine ac2 (cm:=cmOf a K) (ms:=cC6) (more:=mo_p9) (body:=cj3) ?_ rfl rfl (fun _ _ _=>rnon) h
 exact(ab7 (aj8 (i:=1) (upM (aq9 (c:=1) (aX (fO 0)) ad3 rfl)) rfl rfl)
  (af9 (aw2 (c:=1) (aO (i:=0)) (aa7 (aF (aT4 (rc (fF 1)) (fx pI))) (aa7 (aF (aT4 (rc (fF 1)) (fx pI))) ad3)) ⟨rfl,trivial,trivial,trivial⟩ (by decide) (by decide))))
theorem ok_t9(T:Txt K mg a base):FnOk P w K mg base CX0 9 a.f_t9 a.d_t9 ["self", "most"] (spZ (cmOf a K) cC2 (KR (cmOf a K) .F) m_t9):=by
 refine T.F_t9.ok ce5 (fun _ _ _ _=>ab8) (fun _ _ _ _ _ _ _ _ hr h=>?_)
 refine⟨_,(aa1 (ah2 (i:=2) ce5.nd rfl (Or.inl rfl) ab4)
  (aa1 (bb0 Ai4 (PW.pt (cw0 (ac8 bq5 (pv 2) (pv 1) (ae4 _)) (cf4 (ac8 bI4 (ad7 bB8 rfl T.z_len Gd.ak6 (aa0 (ab1 K rfl (pv 0) rfl) aa2)) ab4 (ae4 _))))) (aa1 (ac4 (aj0 (pv 0) T.cl_Post T.me_p9 (ok_p9 T) hr.mm T.b_p9 .nil ac7))
  (aa3 (cw3 (i:=2) ce5.nd rfl (Or.inl rfl) ab4 cG7))))
  (aa3 (ac9 (pv 2))))),?_⟩
 refine ac2 (cm:=cmOf a K) (ms:=cC2) (more:=mo_t9) (body:=ci9) ?_ rfl rfl (fun _ _ _=>rnon) h
 exact(ab7 (aj8 (i:=2) (upM pI) rfl rfl)
  (ab7 (bm9 100000 (upM (cw2 (pt_T (fx (p_op s_lt (fx (fF 2)) (fx (fF 1))))) (pt_T (fx (p_op s_gt (fx (cx9 (cx (aE0 (c:=1) (i:=0) T.cl_Post T.n_letters rfl rfl)))) (fx pI)))))) (ab7 (ae2 (aw2 (c:=1) (aO (i:=0)) ad3 ⟨rfl,trivial⟩ (by decide) (by decide)))
  (s_aug (i:=2) (fx pI) rfl rfl)))
  (af9 (upM (fF 2)))))
theorem ok_z9(T:Txt K mg a base):FnOk P w K mg base CX0 10 a.f_z9 a.d_z9 ["script"] (spZ (cmOf a K) cB6 (KR (cmOf a K) .F) m_z9):=by
 refine T.F_z9.ok aL6 (fun _ _ _ _=>ab8) (fun _ _ _ _ _ _ _ _ hr h=>?_)
 refine⟨_,(aa1 (ah2 (i:=1) aL6.nd rfl (Or.inl rfl) (ag0 al9 ab4 (ag0 bb5 ab4 (ag0 ar4 (ah4 (bb7 T) hr.mm rfl T.m_ba9 T.kp_ba9 T.b_ba9 .nil ac7 (aa0 (pv 0) (aa0 ab4 aa2))) ab4))))
  (aa1 (ah2 (i:=2) aL6.nd rfl (Or.inl rfl) (ah4 (cz9 T) hr.mm rfl T.m_bc9 T.kp_bc9 T.b_bc9 .nil ac7 (aa0 (ah4 (bb7 T) hr.mm rfl T.m_ba9 T.kp_ba9 T.b_ba9 .nil ac7 (aa0 (pv 0) (aa0 ab4 aa2))) (aa0 (pv 1) aa2))))
  (aa1 (ah2 (i:=3) aL6.nd rfl (Or.inl rfl) (aT1 T.mk_Post (ok_n9 T) hr.mm rfl T.mgC_Post T.b_n9 .nil ac7 (aa0 (ah4 (cA0 T) hr.mm rfl T.m_bb9 T.kp_bb9 T.b_bb9 .nil ac7 (aa0 (pv 2) (aa0 (ag0 ar4 (ah4 (bb7 T) hr.mm rfl T.m_ba9 T.kp_ba9 T.b_ba9 .nil ac7 (aa0 (pv 0) (aa0 ab4 aa2))) ab4) (aa0 (ah4 (bb7 T) hr.mm rfl T.m_ba9 T.kp_ba9 T.b_ba9 .nil ac7 (aa0 (pv 0) (aa0 ab4 aa2))) aa2)))) aa2)))
  (aa1 (bb1 Ai4 rfl (aH1 K rfl (bH6 (bG5 K rfl) (pv 0) (cf8 ab4) cf9)) (ap7 (i:=4) aL6.nd rfl (Or.inl rfl)) (aa1 (ah2 (i:=5) aL6.nd rfl (Or.inl rfl) (aj0 (pv 3) T.cl_Post T.me_u9 (cg9 T) hr.mm T.b_u9 .nil ac7))
  (aa1 (al1 (ac8 bh9 (ad7 (ab9 K rfl) rfl T.z_len Gd.ak6 (aa0 (pv 5) aa2)) ab4 (ae4 _)) (aa3 (ac9 aT3)) ae3)
  (aa1 (ah2 (i:=6) aL6.nd rfl (Or.inl rfl) (ai3 (ad9 K rfl) (pv 5) (ag0 ar4 (pv 4) (ad7 (ab9 K rfl) rfl T.z_len Gd.ak6 (aa0 (pv 5) aa2))) (fun _ _=>rfl)))
  (aa3 (ac4 (ac5 (pv 3) T.cl_Post T.me_o9 (cz2 T) hr.mm T.b_o9 .nil ac7 (aa0 (ai3 (aq2 K rfl) (pv 6) ab4 (fun _ _=>rfl)) (aa0 (ai3 (aq2 K rfl) (pv 6) ab4 (fun _ _=>rfl)) aa2)))))))))
  (aa1 (al1 (ac8 bh9 (ad7 (ab9 K rfl) rfl T.z_len Gd.ak6 (aa0 (aj0 (pv 3) T.cl_Post T.me_u9 (cg9 T) hr.mm T.b_u9 .nil ac7) aa2)) ab4 (ae4 _)) (aa3 (ac9 aT3)) ae3)
  (aa1 (ah2 (i:=7) aL6.nd rfl (Or.inl rfl) (ac5 (pv 3) T.cl_Post T.me_t9 (ok_t9 T) hr.mm T.b_t9 .nil ac7 (aa0 ab4 aa2)))
  (aa3 (ac9 (bp8 (ah4 (cz8 T) hr.mm rfl T.m_bd9 T.kp_bd9 T.b_bd9 .nil ac7 (aa0 (pv 7) aa2)) (bp8 (bp6 bh9 (pv 7) ab4 (ae4 _)) (bR8 (bp6 bI4 (ad7 (ab9 K rfl) rfl T.z_len Gd.ak6 (aa0 (aj0 (pv 3) T.cl_Post T.me_u9 (cg9 T) hr.mm T.b_u9 .nil ac7) aa2)) ab4 (ae4 _))))))))))))),?_⟩
 refine ac2 (cm:=cmOf a K) (ms:=cB6) (more:=mo_z9) (body:=ci3) ?_ rfl rfl (fun _ _ _=>rnon) h
 exact(ab7 (aj8 (i:=1) (upM (p_op av9 (fx pI) (fx (p_op bG7 (fx pI) (fx (p_op aG8 (fx (aC9 (aa7 (aU (fR 0)) (aa7 (aF pI) ad3)) rfl)) (fx pI))))))) rfl rfl)
  (ab7 (aj8 (i:=2) (upM (oF (bS0 (aa7 (aF (aC9 (aa7 (aU (fR 0)) (aa7 (aF pI) ad3)) rfl)) (aa7 (aF (fF 1)) ad3)) rfl))) rfl rfl)
  (ab7 (aL9 (i:=3) (upM (cg0 (c:=1) (aa7 (aF (oF (bS0 (aa7 (aF (fF 2)) (aa7 (aF (p_op aG8 (fx (aC9 (aa7 (aU (fR 0)) (aa7 (aF pI) ad3)) rfl)) (fx pI))) (aa7 (aF (aC9 (aa7 (aU (fR 0)) (aa7 (aF pI) ad3)) rfl)) ad3))) rfl))) ad3) rfl)) rfl rfl)
  (ab7 (bG8 (upM (bu1 (oF (cy1 (cS (k':= .F) (rc (fR 0))) (fx pI))))) (.inl rfl) (tgF (i:=4) rfl rfl) (ab7 (aj8 (i:=5) (upM (oF (aD9 (c:=1) (aX (fO 3)) ad3 rfl))) rfl rfl)
  (ab7 (s_if (upM (pt_T (fx (p_op s_eq (fx (aw0 ax8 (fx (fF 5)))) (fx pI))))) (af9 (upM pB)) am4)
  (ab7 (aj8 (i:=6) (upM (at7 (rc (fF 5)) (fx (p_op aG8 (fx (fF 4)) (fx (aw0 ax8 (fx (fF 5)))))))) rfl rfl)
  (ae2 (aw2 (c:=1) (aO (i:=3)) (aa7 (aF (aT4 (rc (fF 6)) (fx pI))) (aa7 (aF (aT4 (rc (fF 6)) (fx pI))) ad3)) ⟨rfl,trivial,trivial,trivial⟩ (by decide) (by decide)))))))
  (ab7 (s_if (upM (pt_T (fx (p_op s_eq (fx (aw0 ax8 (fx (oF (aD9 (c:=1) (aX (fO 3)) ad3 rfl))))) (fx pI))))) (af9 (upM pB)) am4)
  (ab7 (aj8 (i:=7) (aw2 (c:=1) (aO (i:=3)) (aa7 (aF pI) ad3) ⟨rfl,trivial,trivial⟩ (by decide) (by decide)) rfl rfl)
  (af9 (upM (cg7 (fx (aC9 (aa7 (aF (fF 7)) ad3) rfl)) (cg7 (fx (p_op s_eq (fx (fF 7)) (fx pI))) (p_op s_gt (fx (aw0 ax8 (fx (oF (aD9 (c:=1) (aX (fO 3)) ad3 rfl))))) (fx pI))))))))))))
end K20
namespace K20
open PySem L2 Mi Cl
noncomputable section
structure GuildT where
 house_count:Int
 ways:(DI Bool)
 likings:(DI Int)
 shuns:(DI Bool)
 wish_ranks:(DI Int)
def aa5:GuildT→D:=fun g=> .obj 0 ["house_count", "ways", "likings", "shuns", "wish_ranks"] [D.int g.house_count,(encD D.bl) g.ways,(encD D.int) g.likings,(encD D.bl) g.shuns,(encD D.int) g.wish_ranks]
structure PostT where
 guild:GuildT
 roads:(List (Option (List Int)))
 told_last:(DI (Option (List Int)))
 written_last:(DI (Option (List Int)))
 letters:(DI (Option (List Int)))
 standings:(List (DJ (Int×Int×(List Int))))
def af4:PostT→D:=fun g=> .obj 1 ["guild", "roads", "told_last", "written_last", "letters", "standings"] [aa5 g.guild,(eL (eO (eL D.int))) g.roads,(encD (eO (eL D.int))) g.told_last,(encD (eO (eL D.int))) g.written_last,(encD (eO (eL D.int))) g.letters,(eL (encJ (eT3 D.int D.int (eL D.int)))) g.standings]
theorem ad8(g:GuildT):SimR D.int (fldD 0 "house_count" (aa5 g)) (.ok g.house_count):=rfl
theorem al3(g:GuildT):SimR (encD D.bl) (fldD 0 "ways" (aa5 g)) (.ok g.ways):=rfl
theorem am0(g:GuildT):SimR (encD D.int) (fldD 0 "likings" (aa5 g)) (.ok g.likings):=rfl
theorem ap0(g:GuildT):SimR (encD D.bl) (fldD 0 "shuns" (aa5 g)) (.ok g.shuns):=rfl
theorem ay3(g:GuildT):SimR (encD D.int) (fldD 0 "wish_ranks" (aa5 g)) (.ok g.wish_ranks):=rfl
theorem ai1(g:PostT):SimR aa5 (fldD 1 "guild" (af4 g)) (.ok g.guild):=rfl
theorem ar5(g:PostT):SimR (eL (eO (eL D.int))) (fldD 1 "roads" (af4 g)) (.ok g.roads):=rfl
theorem ao6(g:PostT):SimR (encD (eO (eL D.int))) (fldD 1 "written_last" (af4 g)) (.ok g.written_last):=rfl
theorem ag4(g:PostT):SimR (encD (eO (eL D.int))) (fldD 1 "letters" (af4 g)) (.ok g.letters):=rfl
def mk_Guild(size:Int):Res GuildT:=if 1≤size∧size≤60 then .ok ⟨size,[],[],[],[]⟩ else .bad
theorem as4(size:Int):SimR aa5 (au0 0 m_a9 [.int size]) (mk_Guild size):=by
 unfold mk_Guild;by_cases h:1≤size∧size≤60
 · rw[Aa6 h];have h1:¬ size < 1:=by omega
   have h2:¬ 60 < size:=by omega
   show au0 0 m_a9 [.int size]=_;unfold au0 m_a9 Mi.run;rw[bJ6];simp[seqS,ifS,liP,orT,tst,bn,cst,rg,truB,h1,h2,ai5,fldS,aM3,hasK,sc1,ac3];rfl
 ·rw[Aa3 h]; trivial
structure S_b9 where
 v27q:GuildT
 v19q:(DI Bool)
 v0q:Int
def bR4:S_b9→Mi.Env:=fun s=>[some (aa5 s.v27q),some ((encD D.bl) s.v19q),some (D.int s.v0q)]
abbrev Y_b9:=S_b9→FlC S_b9 (List Int)
def bA2:Y_b9:=(retC (upC (aB7 (unC (rngC 0) (unC (fun g=> .ok g.house_count) (pC fun p=>p.v27q))) (bnC (dinC false) (unC ap8 (prC (pC fun p=>p.2.v0q) (pC fun p=>p.1))) (pC fun p=>p.2.v19q)) (pC fun p=>p.1))))
def cq7:Y_b9:=bA2
def C_b9(a_self:GuildT)(a_pairs:(DI Bool))(a_a:Int):OutC S_b9 (List Int):=runC none (cq7 ⟨a_self,a_pairs,a_a⟩)
theorem ct_b9:Cl.TJ bR4 (eL D.int) ck7 cq7:=(ad5 (ab2 (aI8 (aV2 (ad4 ad8 xp)) (ae0 (ab5 (bI7 false) (an2 ah8 (ah5 xp xp)) xp)) xp)))
theorem cf_b9(a_self:GuildT)(a_pairs:(DI Bool))(a_a:Int):SimO bR4 (eL D.int) (m_b9 [aa5 a_self,(encD D.bl) a_pairs,D.int a_a]) (C_b9 a_self a_pairs a_a):=aF3 ct_b9 rfl
structure S_j9 where
 v27q:GuildT
 v0q:Int
 v9q:(List Int)
def bQ6:S_j9→Mi.Env:=fun s=>[some (aa5 s.v27q),some (D.int s.v0q),some ((eL D.int) s.v9q)]
abbrev Y_j9:=S_j9→FlC S_j9 Bool
def by6:Y_j9:=(retC (upC (unC anyC (aB7 (pC fun p=>p.v9q) (fun _=> .ok true) (bnC (dinC false) (unC ap8 (prC (pC fun p=>p.2.v0q) (pC fun p=>p.1))) (unC (fun g=> .ok g.shuns) (pC fun p=>p.2.v27q)))))))
def cp9:Y_j9:=by6
def C_j9(a_self:GuildT)(a_a:Int)(a_houses:(List Int)):OutC S_j9 Bool:=runC none (cp9 ⟨a_self,a_a,a_houses⟩)
theorem ct_j9:Cl.TJ bQ6 D.bl cj9 cp9:=(ad5 (ab2 (ad4 o_any (aI8 (aV1 xp) bv3 (ab5 (bI7 false) (an2 ah8 (ah5 xp (as5 (fun _=>rfl) xp))) (ad4 ap0 xp))))))
theorem cf_j9(a_self:GuildT)(a_a:Int)(a_houses:(List Int)):SimO bQ6 D.bl (m_j9 [aa5 a_self,D.int a_a,(eL D.int) a_houses]) (C_j9 a_self a_a a_houses):=aj2 ct_j9 rfl
structure S_k9 where
 v27q:GuildT
def bo0:S_k9→Mi.Env:=fun s=>[some (aa5 s.v27q)]
abbrev Y_k9:=S_k9→FlC S_k9 Int
def co2:Y_k9:=(retC (upC (unC (fun g=> .ok g.house_count) (pC fun p=>p.v27q))))
def cK4:Y_k9:=co2
def C_k9(a_self:GuildT):OutC S_k9 Int:=runC none (cK4 ⟨a_self⟩)
theorem ct_k9:Cl.TJ bo0 D.int cj8 cK4:=(ad5 (ab2 (as5 (fun _=>rfl) (ad4 ad8 xp))))
theorem cf_k9(a_self:GuildT):SimO bo0 D.int (m_k9 [aa5 a_self]) (C_k9 a_self):=aj2 ct_k9 rfl
structure S_r9 where
 v27q:PostT
 v18q:Option (List Int)
def bQ0:S_r9→Mi.Env:=fun s=>[some (af4 s.v27q),s.v18q.map (eTs D.int)]
abbrev Y_r9:=S_r9→FlC S_r9 (List Int)
def bx8:Y_r9:=(bu9 (fun s=>s.v27q.letters) (fun k s=>{ s with v18q:=some k }))
def cp3:Y_r9:=(seqC bx8
 badC)
def C_r9(a_self:PostT):OutC S_r9 (List Int):=runC none (cp3 ⟨a_self,none⟩)
theorem ct_r9:Cl.TJ bQ0 (eTs D.int) cj1 cp3:=(aa8 (bE0 (fun s=>⟨_,rfl,rfl⟩) (fun _=>(by decide:1 < 2)) (fun _ _=>rfl))
 au8)
theorem cf_r9(a_self:PostT):SimO bQ0 (eTs D.int) (m_r9 [af4 a_self]) (C_r9 a_self):=aj2 ct_r9 rfl
structure S_v9 where
 v27q:PostT
 v30q:Int
 v22q:Int
 v25q:Option (Option (List Int))
def bP7:S_v9→Mi.Env:=fun s=>[some (af4 s.v27q),some (D.int s.v30q),some (D.int s.v22q),s.v25q.map (eO (eL D.int))]
abbrev Y_v9:=S_v9→FlC S_v9 Unit
def aX0:Y_v9:=(setC (fun a s=>{ s with v25q:=some a }) (upC (bnC ixC (unC (fun g=> .ok g.roads) (pC fun p=>p.v27q)) (pC fun p=>p.v30q))))
def aB1:Y_v9:=(cv6 ())
def aW9:Y_v9:=(ifC (upC (bnC (eqC false) (bnC cI1 (unC (fun g=> .ok g.written_last) (pC fun p=>p.v27q)) (unC ap8 (prC (pC fun p=>p.v30q) (pC fun p=>p.v22q)))) (vC fun p=>p.v25q)))
 aB1
 am3)
def bx5:Y_v9:=(aV3 (fun s=>some s.v27q.written_last) (fun s y=>{ s with v27q:={ s.v27q with written_last:=y } }) (unC ap8 (prC (pC fun p=>p.v30q) (pC fun p=>p.v22q))) (upC (vC fun p=>p.v25q)))
def bx4:Y_v9:=(aV3 (fun s=>some s.v27q.letters) (fun s y=>{ s with v27q:={ s.v27q with letters:=y } }) (unC ap8 (prC (pC fun p=>p.v30q) (pC fun p=>p.v22q))) (upC (vC fun p=>p.v25q)))
def co9:Y_v9:=(seqC aX0
 (seqC aW9
 (seqC bx5
 bx4)))
def C_v9(a_self:PostT)(a_writer:Int)(a_receiver:Int):OutC S_v9 Unit:=runC (some ()) (co9 ⟨a_self,a_writer,a_receiver,none⟩)
theorem ct_v9:Cl.TJ bP7 eN ci7 co9:=(aa8 (xs (ab2 (ab5 aw1 (ad4 ar5 xp) xp)))
 (aa8 (am2 (ab2 (ae0 (ab5 (cB1 (cI3 (cn8 cn9) (be3 _)) (by decide) false) (bL8 (ad4 ao6 xp) (an2 ah8 (ah5 xp xp))) xv)))
 (bU8 rfl)
 ae8)
 (aa8 (at3 (fun _=>rfl) (fun _ _=>rfl) (an2 ah8 (ah5 xp xp)) (ab2 xv))
 (at3 (fun _=>rfl) (fun _ _=>rfl) (an2 ah8 (ah5 xp xp)) (ab2 xv)))))
theorem cf_v9(a_self:PostT)(a_writer:Int)(a_receiver:Int):SimO bP7 eN (m_v9 [af4 a_self,D.int a_writer,D.int a_receiver]) (C_v9 a_self a_writer a_receiver):=aA1 (d:=()) rfl ct_v9 rfl
structure S_ba9 where
 v26q:(List Int)
 v10q:Int
def bo6:S_ba9→Mi.Env:=fun s=>[some (eS s.v26q),some (D.int s.v10q)]
abbrev bN3:=S_ba9→FlC S_ba9 Int
def av7:bN3:=(retC (upC (bnC ixC (pC fun p=>p.v26q) (pC fun p=>p.v10q))))
def bf3:bN3:=(ifC (upC (bnC ltC (pC fun p=>p.v10q) (unC lenC (pC fun p=>p.v26q))))
 av7
 am3)
def bf2:bN3:=(retC (upC (kC (0:Int))))
def bB3:bN3:=(seqC bf3
 bf2)
def aQ9(a_script:(List Int))(a_k:Int):OutC S_ba9 Int:=runC none (bB3 ⟨a_script,a_k⟩)
theorem cJ4:Cl.TJ bo6 D.int bs2 bB3:=(aa8 (am2 (ab2 (ae0 (ab5 o_lt xp (ad4 cB0 xp))))
 (ad5 (ab2 (as5 (fun _=>rfl) (ab5 o_ixS xp xp))))
 ae8)
 (ad5 (ab2 xk)))
theorem bf5(a_script:(List Int))(a_k:Int):SimO bo6 D.int (m_ba9 [eS a_script,D.int a_k]) (aQ9 a_script a_k):=aj2 cJ4 rfl
structure S_bc9 where
 v4q:Int
 v13q:Int
 v23q:Option (List Int)
 v17q:Option (List Int)
def aS9:S_bc9→Mi.Env:=fun s=>[some (D.int s.v4q),some (D.int s.v13q),s.v23q.map (eL D.int),s.v17q.map (eL D.int)]
abbrev aQ8:=S_bc9→FlC S_bc9 (List Int)
def aJ4:aQ8:=(setC (fun a s=>{ s with v23q:=some a }) (upC (aB7 (bnC rngC (kC (1:Int)) (bnC addC (pC fun p=>p.v13q) (kC (1:Int)))) (fun _=> .ok true) (pC fun p=>p.1))))
def aJ3:aQ8:=(setC (fun a s=>{ s with v17q:=some a }) (upC (mkC (nilC:_→Res (List Int)))))
def au2:aQ8:=(setC (fun a s=>{ s with v4q:=a }) (upC (bnC modC (bnC addC (bnC mulC (pC fun p=>p.v4q) (kC (48271:Int))) (kC (29:Int))) (kC (2147483647:Int)))))
def aF5:aQ8:=(ag2 (apMC (fun s=>s.v17q) (fun s y=>{ s with v17q:=some y }) (l1C (fun s=>s.v23q) (fun s y=>{ s with v23q:=some y }) popC (bnC modC (bnC cm9 (pC fun p=>p.v4q) (kC (3:Int))) (unC lenC (vC fun p=>p.v23q))))))
def aK1:aQ8:=(seqC au2
 aF5)
def bf0:aQ8:=(whC (upC (bnC gtC (unC lenC (vC fun p=>p.v23q)) (kC (0:Int))))
 aK1 100000)
def be9:aQ8:=(retC (mvC (fun s=>s.v17q) (fun s=>{ s with v17q:=none })))
def bB1:aQ8:=(seqC aJ4
 (seqC aJ3
 (seqC bf0
 be9)))
def bN7(a_cell:Int)(a_many:Int):OutC S_bc9 (List Int):=runC none (bB1 ⟨a_cell,a_many,none,none⟩)
theorem cJ2:Cl.TJ aS9 (eL D.int) bs0 bB1:=(aa8 (xs (ab2 (aI8 (bT5 xk (ab5 at8 xp xk)) bv3 xp)))
 (aa8 (xs (ab2 (av4 av3)))
 (aa8 (bD9 (rep:=aS9) (ab2 (ae0 (ab5 o_gt (ad4 ap1 xv) xk)))
 (aa8 (xs (ab2 (ab5 aH3 (ab5 at8 (ab5 bI5 xp xk) xk) xk)))
 (ac6 (cB4 (fun _=>rfl) (fun _ _=>rfl) (nj_l1 (fun _=>rfl) (fun _ _=>rfl) f_pop (ab5 aH3 (ab5 bS4 xp xk) (ad4 ap1 xv)))))) 100000)
 (ad5 (ch5 (fun _=>rfl) (fun _=>rfl))))))
theorem cK2(a_cell:Int)(a_many:Int):SimO aS9 (eL D.int) (m_bc9 [D.int a_cell,D.int a_many]) (bN7 a_cell a_many):=aF3 cJ2 rfl
structure S_bd9 where
 v6q:Int
def bo4:S_bd9→Mi.Env:=fun s=>[some (D.int s.v6q)]
abbrev cL5:=S_bd9→FlC S_bd9 Bool
def be8:cL5:=(retC (upC (andC (unC (cbC true) (pC fun p=>p.v6q)) (unC notC (unC (cbC false) (pC fun p=>p.v6q))))))
def bB0:cL5:=be8
def bN6(a_found:Int):OutC S_bd9 Bool:=runC none (bB0 ⟨a_found⟩)
theorem cJ1:Cl.TJ bo4 D.bl br9 bB0:=(ad5 (ab2 (bv7 (bT8 (e:=D.int) (n := "int") (b:=true) (fun _=>rfl) xp) (ad4 cA4 (bT8 (e:=D.int) (n := "bool") (b:=false) (fun _=>rfl) xp)))))
theorem cK1(a_found:Int):SimO bo4 D.bl (m_bd9 [D.int a_found]) (bN6 a_found):=aj2 cJ1 rfl
structure S_x9 where
 v8q:Int
 v28q:(List (Int×Int×(List Int)))
 v2q:Option (Option (Int×Int×(List Int)))
def bP6:S_x9→Mi.Env:=fun s=>[some (D.int s.v8q),some ((eL (eT3 D.int D.int (eL D.int))) s.v28q),s.v2q.map (eO (eT3 D.int D.int (eL D.int)))]
abbrev Y_x9:=S_x9→FlC S_x9 (Option (List Int))
def aA9:Y_x9:=(retC (fun s=>bdO ((upC (mkC (au5 (kC (0:Int)) (nilC:_→Res (List Int))))) s) fun a s=>bndO (bG4 a) s fun b=> .ok b s))
def aJ2:Y_x9:=(ifC (upC (bnC (eqC false) (pC fun p=>p.v8q) (kC (0:Int))))
 aA9
 am3)
def aW8:Y_x9:=(setC (fun a s=>{ s with v2q:=some a }) (upC (unC cF0 (pC fun p=>p.v28q))))
def aq6:Y_x9:=(retC (fun s=>bdO ((upC (kC ())) s) fun a s=>bndO ((ch4:Unit→Res (Option (List Int))) a) s fun b=> .ok b s))
def aW7:Y_x9:=(ifC (upC (unC (isnC false nonO) (vC fun p=>p.v2q)))
 aq6
 am3)
def bx2:Y_x9:=(retC (fun s=>bdO ((upC (unC thrC (unC optC (vC fun p=>p.v2q)))) s) fun a s=>bndO (bG4 a) s fun b=> .ok b s))
def co7:Y_x9:=(seqC aJ2
 (seqC aW8
 (seqC aW7
 bx2)))
def C_x9(a_house:Int)(a_standings:(List (Int×Int×(List Int)))):OutC S_x9 (Option (List Int)):=runC (some none) (co7 ⟨a_house,a_standings,none⟩)
theorem ct_x9:Cl.TJ bP6 (eO (eL D.int)) ci5 co7:=(aa8 (am2 (ab2 (ae0 (ab5 (aM5 false) xp xk)))
 (ad5 (bi0 bC8 (ab2 (av4 (ah6 xk av3)))))
 ae8)
 (aa8 (xs (ab2 (bL9 cA7 xp)))
 (aa8 (am2 (ab2 (ae0 (bd7 (bK8 (fun _=>rfl)) xv)))
 (ad5 (bi0 bC9 (ab2 xk)))
 ae8)
 (ad5 (bi0 bC8 (ab2 (bL9 o_q2 (an2 au6 xv))))))))
theorem cf_x9(a_house:Int)(a_standings:(List (Int×Int×(List Int)))):SimO bP6 (eO (eL D.int)) (m_x9 [D.int a_house,(eL (eT3 D.int D.int (eL D.int))) a_standings]) (C_x9 a_house a_standings):=aA1 (d:=none) rfl ct_x9 rfl
structure S_y9 where
 v25q:(Option (List Int))
def bP5:S_y9→Mi.Env:=fun s=>[some ((eO (eL D.int)) s.v25q)]
abbrev Y_y9:=S_y9→FlC S_y9 (Option (List Int))
def aA8:Y_y9:=(retC (fun s=>bdO ((upC (kC ())) s) fun a s=>bndO ((ch4:Unit→Res (Option (List Int))) a) s fun b=> .ok b s))
def aW6:Y_y9:=(ifC (upC (unC (isnC false nonO) (pC fun p=>p.v25q)))
 aA8
 am3)
def bx1:Y_y9:=(retC (fun s=>bdO ((upC (unC idC (unC optC (pC fun p=>p.v25q)))) s) fun a s=>bndO (bG4 a) s fun b=> .ok b s))
def co6:Y_y9:=(seqC aW6
 bx1)
def C_y9(a_road:(Option (List Int))):OutC S_y9 (Option (List Int)):=runC (some none) (co6 ⟨a_road⟩)
theorem ct_y9:Cl.TJ bP5 (eO (eL D.int)) ci4 co6:=(aa8 (am2 (ab2 (ae0 (bd7 (bK8 (fun _=>rfl)) xp)))
 (ad5 (bi0 bC9 (ab2 xk)))
 ae8)
 (ad5 (bi0 bC8 (ab2 (ad4 cA8 (an2 au6 (bd8 (ct4 (bm8 (fun _=>rfl))) xp)))))))
theorem cf_y9(a_road:(Option (List Int))):SimO bP5 (eO (eL D.int)) (m_y9 [(eO (eL D.int)) a_road]) (C_y9 a_road):=aA1 (d:=none) rfl ct_y9 rfl
structure S_bf9 where
 v9q:(List Int)
 v5q:Int
def bo2:S_bf9→Mi.Env:=fun s=>[some ((eL D.int) s.v9q),some (D.int s.v5q)]
abbrev cL4:=S_bf9→FlC S_bf9 Unit
def be6:cL4:=(ifC (upC (orC (bnC ltC (bnC bT3 (pC fun p=>p.v9q) (kC (0:Int))) (kC (0:Int))) (bnC geC (bnC cE2 (pC fun p=>p.v9q) (kC (0:Int))) (pC fun p=>p.v5q))))
 badC
 am3)
def bA8:cL4:=be6
def bN5(a_houses:(List Int))(a_count:Int):OutC S_bf9 Unit:=runC (some ()) (bA8 ⟨a_houses,a_count⟩)
theorem cI9:Cl.TJ bo2 eN br7 bA8:=(am2 (ab2 (bv5 (ae0 (ab5 o_lt (ab5 ch2 xp xk) xk)) (ae0 (ab5 o_ge (ab5 cA6 xp xk) xp))))
 au8
 ae8)
theorem cJ9(a_houses:(List Int))(a_count:Int):SimO bo2 eN (m_bf9 [(eL D.int) a_houses,D.int a_count]) (bN5 a_houses a_count):=aA1 (d:=()) rfl cI9 rfl
structure S_g9 where
 v27q:GuildT
 v9q:(List Int)
def bQ9:S_g9→Mi.Env:=fun s=>[some (aa5 s.v27q),some ((eL D.int) s.v9q)]
abbrev Y_g9:=S_g9→FlC S_g9 Unit
def bz3:Y_g9:=(ag2 (upC (pc2C bN5 (pC fun p=>p.v9q) (unC (fun g=> .ok g.house_count) (pC fun p=>p.v27q)))))
def cq2:Y_g9:=bz3
def C_g9(a_self:GuildT)(a_houses:(List Int)):OutC S_g9 Unit:=runC (some ()) (cq2 ⟨a_self,a_houses⟩)
theorem ct_g9:Cl.TJ bQ9 eN ck2 cq2:=(ac6 (ab2 (av2 (fun a0 a1=>cJ9 a0 a1) xp (as5 (fun _=>rfl) (ad4 ad8 xp)))))
theorem bA6(a_self:GuildT)(a_houses:(List Int)):SimO bQ9 eN (m_g9 [aa5 a_self,(eL D.int) a_houses]) (C_g9 a_self a_houses):=aA1 (d:=()) rfl ct_g9 rfl
structure S_u9 where
 v27q:PostT
def bP8:S_u9→Mi.Env:=fun s=>[some (af4 s.v27q)]
abbrev Y_u9:=S_u9→FlC S_u9 (List (Int×Int×(Option (List Int))))
def bx6:Y_u9:=(retC (upC (aB7 (unC cl8 (unC (fun g=> .ok g.letters) (pC fun p=>p.v27q))) (fun _=> .ok true) (prC (bnC ixC (pC fun p=>p.1) (kC (0:Int))) (prC (bnC ixC (pC fun p=>p.1) (kC (1:Int))) (pc1C C_y9 (bnC dgC (unC (fun g=> .ok g.letters) (pC fun p=>p.2.v27q)) (pC fun p=>p.1))))))))
def cp0:Y_u9:=bx6
def C_u9(a_self:PostT):OutC S_u9 (List (Int×Int×(Option (List Int)))):=runC none (cp0 ⟨a_self⟩)
theorem ct_u9:Cl.TJ bP8 (eL (eT3 D.int D.int (eO (eL D.int)))) ci8 cp0:=(ad5 (ab2 (aI8 (cn0 (ad4 ag4 xp)) bv3 (bv6 (ab5 bb8 xp xk) (ab5 bb8 xp xk) (bT7 (fun a0=>cf_y9 a0) (ab5 cB2 (ad4 ag4 xp) xp))))))
theorem co3(a_self:PostT):SimO bP8 (eL (eT3 D.int D.int (eO (eL D.int)))) (m_u9 [af4 a_self]) (C_u9 a_self):=aF3 ct_u9 rfl
structure S_be9 where
 v7q:GuildT
 v8q:Int
 v25q:(Option (List Int))
def bo3:S_be9→Mi.Env:=fun s=>[some (aa5 s.v7q),some (D.int s.v8q),some ((eO (eL D.int)) s.v25q)]
abbrev bN2:=S_be9→FlC S_be9 Bool
def ah3:bN2:=(retC (upC (kC false)))
def as8:bN2:=(ifC (upC (orC (unC (isnC false nonO) (pC fun p=>p.v25q)) (orC (bnC (eqC false) (pC fun p=>p.v8q) (kC (0:Int))) (bnC (inC false) (pC fun p=>p.v8q) (unC optC (pC fun p=>p.v25q))))))
 ah3
 am3)
def be7:bN2:=(retC (upC (unC notC (pc3C C_j9 (pC fun p=>p.v7q) (pC fun p=>p.v8q) (unC optC (pC fun p=>p.v25q))))))
def bA9:bN2:=(seqC as8
 be7)
def bD3(a_guild:GuildT)(a_house:Int)(a_road:(Option (List Int))):OutC S_be9 Bool:=runC none (bA9 ⟨a_guild,a_house,a_road⟩)
theorem cJ0:Cl.TJ bo3 D.bl br8 bA9:=(aa8 (am2 (ab2 (bv5 (ae0 (bd7 (bK8 (fun _=>rfl)) xp)) (bv5 (ae0 (ab5 (aM5 false) xp xk)) (ae0 (ab5 (o_inD cn9 (by decide)) xp (an2 au6 xp))))))
 (ad5 (ab2 xk))
 ae8)
 (ad5 (ab2 (ad4 cA4 (bd5 (fun _=>rfl) (fun a0 a1 a2=>cf_j9 a0 a1 a2) xp xp (an2 au6 xp))))))
theorem cK0(a_guild:GuildT)(a_house:Int)(a_road:(Option (List Int))):SimO bo3 D.bl (m_be9 [aa5 a_guild,D.int a_house,(eO (eL D.int)) a_road]) (bD3 a_guild a_house a_road):=aj2 cJ0 rfl
structure S_d9 where
 v27q:GuildT
 v0q:Int
 v1q:Int
def bR2:S_d9→Mi.Env:=fun s=>[some (aa5 s.v27q),some (D.int s.v0q),some (D.int s.v1q)]
abbrev Y_d9:=S_d9→FlC S_d9 Int
def bz7:Y_d9:=(ag2 (upC (pc2C C_g9 (pC fun p=>p.v27q) (mkC (au5 (pC fun p=>p.v0q) (au5 (pC fun p=>p.v1q) (nilC:_→Res (List Int))))))))
def bz6:Y_d9:=(retC (upC (cH2 (unC (fun g=> .ok g.likings) (pC fun p=>p.v27q)) (unC ap8 (prC (pC fun p=>p.v0q) (pC fun p=>p.v1q))) (kC (0:Int)))))
def cq5:Y_d9:=(seqC bz7
 bz6)
def C_d9(a_self:GuildT)(a_a:Int)(a_b:Int):OutC S_d9 Int:=runC none (cq5 ⟨a_self,a_a,a_b⟩)
theorem ct_d9:Cl.TJ bR2 D.int ck5 cq5:=(aa8 (ac6 (ab2 (as6 (fun _=>rfl) (fun a0 a1=>bA6 a0 a1) xp (av4 (ah6 xp (ah6 xp av3))))))
 (ad5 (ab2 (as5 (fun _=>rfl) (cn1 (ad4 am0 xp) (an2 ah8 (ah5 xp xp)) xk)))))
theorem cf_d9(a_self:GuildT)(a_a:Int)(a_b:Int):SimO bR2 D.int (m_d9 [aa5 a_self,D.int a_a,D.int a_b]) (C_d9 a_self a_a a_b):=aj2 ct_d9 rfl
structure S_e9 where
 v27q:GuildT
 v0q:Int
def bR1:S_e9→Mi.Env:=fun s=>[some (aa5 s.v27q),some (D.int s.v0q)]
abbrev Y_e9:=S_e9→FlC S_e9 (List Int)
def bz5:Y_e9:=(ag2 (upC (pc2C C_g9 (pC fun p=>p.v27q) (mkC (au5 (pC fun p=>p.v0q) (nilC:_→Res (List Int)))))))
def bz4:Y_e9:=(retC (upC (pc3C C_b9 (pC fun p=>p.v27q) (unC (fun g=> .ok g.ways) (pC fun p=>p.v27q)) (pC fun p=>p.v0q))))
def cq4:Y_e9:=(seqC bz5
 bz4)
def C_e9(a_self:GuildT)(a_a:Int):OutC S_e9 (List Int):=runC none (cq4 ⟨a_self,a_a⟩)
theorem ct_e9:Cl.TJ bR1 (eL D.int) ck4 cq4:=(aa8 (ac6 (ab2 (as6 (fun _=>rfl) (fun a0 a1=>bA6 a0 a1) xp (av4 (ah6 xp av3)))))
 (ad5 (ab2 (bd5 (fun _=>rfl) (fun a0 a1 a2=>cf_b9 a0 a1 a2) xp (ad4 al3 xp) xp))))
theorem cf_e9(a_self:GuildT)(a_a:Int):SimO bR1 (eL D.int) (m_e9 [aa5 a_self,D.int a_a]) (C_e9 a_self a_a):=aF3 ct_e9 rfl
structure S_h9 where
 v27q:GuildT
 v25q:(List Int)
def bQ8:S_h9→Mi.Env:=fun s=>[some (aa5 s.v27q),some ((eL D.int) s.v25q)]
abbrev Y_h9:=S_h9→FlC S_h9 Unit
def bz2:Y_h9:=(ag2 (upC (pc2C C_g9 (pC fun p=>p.v27q) (pC fun p=>p.v25q))))
def bz1:Y_h9:=(ifC (upC (bnC ltC (unC lenC (pC fun p=>p.v25q)) (kC (2:Int))))
 badC
 am3)
def bz0:Y_h9:=(ifC (upC (bnC (eqC true) (bnC ixC (pC fun p=>p.v25q) (unC negC (kC (1:Int)))) (kC (0:Int))))
 badC
 am3)
def by9:Y_h9:=(ifC (upC (bnC (eqC true) (unC aU0 (pC fun p=>p.v25q)) (unC lenC (pC fun p=>p.v25q))))
 badC
 am3)
def cq1:Y_h9:=(seqC bz2
 (seqC bz1
 (seqC bz0
 by9)))
def C_h9(a_self:GuildT)(a_road:(List Int)):OutC S_h9 Unit:=runC (some ()) (cq1 ⟨a_self,a_road⟩)
theorem ct_h9:Cl.TJ bQ8 eN ck1 cq1:=(aa8 (ac6 (ab2 (as6 (fun _=>rfl) (fun a0 a1=>bA6 a0 a1) xp xp)))
 (aa8 (am2 (ab2 (ae0 (ab5 o_lt (ad4 ap1 xp) xk)))
 au8
 ae8)
 (aa8 (am2 (ab2 (ae0 (ab5 (aM5 true) (ab5 aw1 xp (ad4 cA5 xk)) xk)))
 au8
 ae8)
 (am2 (ab2 (ae0 (ab5 (aM5 true) (ad4 bI6 xp) (ad4 ap1 xp))))
 au8
 ae8))))
theorem cJ7(a_self:GuildT)(a_road:(List Int)):SimO bQ8 eN (m_h9 [aa5 a_self,(eL D.int) a_road]) (C_h9 a_self a_road):=aA1 (d:=()) rfl ct_h9 rfl
structure S_i9 where
 v27q:GuildT
 v0q:Int
 v1q:Int
def bQ7:S_i9→Mi.Env:=fun s=>[some (aa5 s.v27q),some (D.int s.v0q),some (D.int s.v1q)]
abbrev Y_i9:=S_i9→FlC S_i9 Unit
def by8:Y_i9:=(ag2 (upC (pc2C C_g9 (pC fun p=>p.v27q) (mkC (au5 (pC fun p=>p.v0q) (au5 (pC fun p=>p.v1q) (nilC:_→Res (List Int))))))))
def by7:Y_i9:=(ifC (upC (bnC (eqC false) (pC fun p=>p.v0q) (pC fun p=>p.v1q)))
 badC
 am3)
def cq0:Y_i9:=(seqC by8
 by7)
def C_i9(a_self:GuildT)(a_a:Int)(a_b:Int):OutC S_i9 Unit:=runC (some ()) (cq0 ⟨a_self,a_a,a_b⟩)
theorem ct_i9:Cl.TJ bQ7 eN ck0 cq0:=(aa8 (ac6 (ab2 (as6 (fun _=>rfl) (fun a0 a1=>bA6 a0 a1) xp (av4 (ah6 xp (ah6 xp av3))))))
 (am2 (ab2 (ae0 (ab5 (aM5 false) xp xp)))
 au8
 ae8))
theorem cf_i9(a_self:GuildT)(a_a:Int)(a_b:Int):SimO bQ7 eN (m_i9 [aa5 a_self,D.int a_a,D.int a_b]) (C_i9 a_self a_a a_b):=aA1 (d:=()) rfl ct_i9 rfl
structure S_l9 where
 v27q:GuildT
 v16q:Option GuildT
def ba3:S_l9→Mi.Env:=fun s=>[some (aa5 s.v27q),s.v16q.map aa5]
abbrev Y_l9:=S_l9→FlC S_l9 GuildT
def aY5:Y_l9:=(setC (fun a s=>{ s with v16q:=some a }) (upC (pk1C mk_Guild (unC (fun g=> .ok g.house_count) (pC fun p=>p.v27q)))))
def aY4:Y_l9:=(ag2 (updC (fun s=>s.v16q.map (·.ways)) (fun s y=>{ s with v16q:=s.v16q.map fun o=>{ o with ways:=y } }) (unC (fun g=> .ok g.ways) (pC fun p=>p.v27q))))
def aY3:Y_l9:=(ag2 (updC (fun s=>s.v16q.map (·.likings)) (fun s y=>{ s with v16q:=s.v16q.map fun o=>{ o with likings:=y } }) (unC (fun g=> .ok g.likings) (pC fun p=>p.v27q))))
def aY2:Y_l9:=(ag2 (updC (fun s=>s.v16q.map (·.shuns)) (fun s y=>{ s with v16q:=s.v16q.map fun o=>{ o with shuns:=y } }) (unC (fun g=> .ok g.shuns) (pC fun p=>p.v27q))))
def aY1:Y_l9:=(ag2 (updC (fun s=>s.v16q.map (·.wish_ranks)) (fun s y=>{ s with v16q:=s.v16q.map fun o=>{ o with wish_ranks:=y } }) (unC (fun g=> .ok g.wish_ranks) (pC fun p=>p.v27q))))
def co1:Y_l9:=(retC (mvC (fun s=>s.v16q) (fun s=>{ s with v16q:=none })))
def cp8:Y_l9:=(seqC aY5
 (seqC aY4
 (seqC aY3
 (seqC aY2
 (seqC aY1
 co1)))))
def C_l9(a_self:GuildT):OutC S_l9 GuildT:=runC none (cp8 ⟨a_self,none⟩)
theorem ct_l9:Cl.TJ ba3 aa5 cj7 cp8:=(aa8 (xs (ab2 (bv4 as4 (as5 (fun _=>rfl) (ad4 ad8 xp)))))
 (aa8 (ac6 (bc2 (fun s=>by cases s with | mk f0 f1=>cases f1 <;> rfl) (fun s y=>by cases s with | mk f0 f1=>cases f1 <;> rfl) (fun _=>rfl) (ad4 al3 xp)))
 (aa8 (ac6 (bc2 (fun s=>by cases s with | mk f0 f1=>cases f1 <;> rfl) (fun s y=>by cases s with | mk f0 f1=>cases f1 <;> rfl) (fun _=>rfl) (ad4 am0 xp)))
 (aa8 (ac6 (bc2 (fun s=>by cases s with | mk f0 f1=>cases f1 <;> rfl) (fun s y=>by cases s with | mk f0 f1=>cases f1 <;> rfl) (fun _=>rfl) (ad4 ap0 xp)))
 (aa8 (ac6 (bc2 (fun s=>by cases s with | mk f0 f1=>cases f1 <;> rfl) (fun s y=>by cases s with | mk f0 f1=>cases f1 <;> rfl) (fun _=>rfl) (ad4 ay3 xp)))
 (ad5 (ch5 (fun _=>rfl) (fun _=>rfl))))))))
theorem cf_l9(a_self:GuildT):SimO ba3 aa5 (m_l9 [aa5 a_self]) (C_l9 a_self):=aF3 ct_l9 rfl
structure S_c9 where
 v27q:GuildT
 v0q:Int
 v1q:Int
def bR3:S_c9→Mi.Env:=fun s=>[some (aa5 s.v27q),some (D.int s.v0q),some (D.int s.v1q)]
abbrev Y_c9:=S_c9→FlC S_c9 Unit
def bA1:Y_c9:=(ag2 (upC (pc3C C_i9 (pC fun p=>p.v27q) (pC fun p=>p.v0q) (pC fun p=>p.v1q))))
def bA0:Y_c9:=(ifC (upC (bnC (dinC false) (unC ap8 (prC (pC fun p=>p.v0q) (pC fun p=>p.v1q))) (unC (fun g=> .ok g.ways) (pC fun p=>p.v27q))))
 badC
 am3)
def bz9:Y_c9:=(aV3 (fun s=>some s.v27q.ways) (fun s y=>{ s with v27q:={ s.v27q with ways:=y } }) (unC ap8 (prC (pC fun p=>p.v0q) (pC fun p=>p.v1q))) (upC (kC true)))
def bz8:Y_c9:=(aV3 (fun s=>some s.v27q.ways) (fun s y=>{ s with v27q:={ s.v27q with ways:=y } }) (unC ap8 (prC (pC fun p=>p.v1q) (pC fun p=>p.v0q))) (upC (kC true)))
def cq6:Y_c9:=(seqC bA1
 (seqC bA0
 (seqC bz9
 bz8)))
def C_c9(a_self:GuildT)(a_a:Int)(a_b:Int):OutC S_c9 Unit:=runC (some ()) (cq6 ⟨a_self,a_a,a_b⟩)
theorem ct_c9:Cl.TJ bR3 eN ck6 cq6:=(aa8 (ac6 (ab2 (bd5 (fun _=>rfl) (fun a0 a1 a2=>cf_i9 a0 a1 a2) xp xp xp)))
 (aa8 (am2 (ab2 (ae0 (ab5 (bI7 false) (an2 ah8 (ah5 xp xp)) (ad4 al3 xp))))
 au8
 ae8)
 (aa8 (at3 (fun _=>rfl) (fun _ _=>rfl) (an2 ah8 (ah5 xp xp)) (ab2 xk))
 (at3 (fun _=>rfl) (fun _ _=>rfl) (an2 ah8 (ah5 xp xp)) (ab2 xk)))))
theorem co4(a_self:GuildT)(a_a:Int)(a_b:Int):SimO bR3 eN (m_c9 [aa5 a_self,D.int a_a,D.int a_b]) (C_c9 a_self a_a a_b):=aA1 (d:=()) rfl ct_c9 rfl
structure S_f9 where
 v27q:GuildT
 v25q:(List Int)
 v29q:Option (Option Int)
def bR0:S_f9→Mi.Env:=fun s=>[some (aa5 s.v27q),some ((eL D.int) s.v25q),s.v29q.map (eO D.int)]
abbrev Y_f9:=S_f9→FlC S_f9 Int
def aY9:Y_f9:=(ag2 (upC (pc2C C_h9 (pC fun p=>p.v27q) (pC fun p=>p.v25q))))
def aY8:Y_f9:=(setC (fun a s=>{ s with v29q:=some a }) (upC (bnC dg1C (unC (fun g=> .ok g.wish_ranks) (pC fun p=>p.v27q)) (unC idC (pC fun p=>p.v25q)))))
def aq7:Y_f9:=(retC (upC (pc3C C_d9 (pC fun p=>p.v27q) (bnC ixC (pC fun p=>p.v25q) (kC (0:Int))) (bnC ixC (pC fun p=>p.v25q) (kC (1:Int))))))
def aY7:Y_f9:=(ifC (upC (unC (isnC false nonO) (vC fun p=>p.v29q)))
 aq7
 am3)
def aY6:Y_f9:=(retC (fun s=>bdO ((upC (vC fun p=>p.v29q)) s) fun a s=>bndO (optC a) s fun b=> .ok b s))
def cq3:Y_f9:=(seqC aY9
 (seqC aY8
 (seqC aY7
 aY6)))
def C_f9(a_self:GuildT)(a_road:(List Int)):OutC S_f9 Int:=runC none (cq3 ⟨a_self,a_road,none⟩)
theorem ct_f9:Cl.TJ bR0 D.int ck3 cq3:=(aa8 (ac6 (ab2 (as6 (fun _=>rfl) (fun a0 a1=>cJ7 a0 a1) xp xp)))
 (aa8 (xs (ab2 (as5 (bK9 (fun _=>rfl)) (cn2 (ad4 ay3 xp) (ad4 cA3 (bd8 (bm8 (fun _=>rfl)) xp))))))
 (aa8 (am2 (ab2 (ae0 (bd7 (bK8 (fun _=>rfl)) xv)))
 (ad5 (ab2 (bd5 (fun _=>rfl) (fun a0 a1 a2=>cf_d9 a0 a1 a2) xp (as5 (fun _=>rfl) (ab5 aw1 xp xk)) (as5 (fun _=>rfl) (ab5 aw1 xp xk)))))
 ae8)
 (ad5 (bi0 au6 (ab2 xv))))))
theorem cf_f9(a_self:GuildT)(a_road:(List Int)):SimO bR0 D.int (m_f9 [aa5 a_self,(eL D.int) a_road]) (C_f9 a_self a_road):=aj2 ct_f9 rfl
structure S_m9 where
 v27q:GuildT
 v25q:(List Int)
 v21q:Int
def bQ5:S_m9→Mi.Env:=fun s=>[some (aa5 s.v27q),some ((eL D.int) s.v25q),some (D.int s.v21q)]
abbrev Y_m9:=S_m9→FlC S_m9 Unit
def by5:Y_m9:=(ag2 (upC (pc2C C_h9 (pC fun p=>p.v27q) (pC fun p=>p.v25q))))
def by4:Y_m9:=(aV3 (fun s=>some s.v27q.wish_ranks) (fun s y=>{ s with v27q:={ s.v27q with wish_ranks:=y } }) (unC idC (pC fun p=>p.v25q)) (upC (pC fun p=>p.v21q)))
def cp7:Y_m9:=(seqC by5
 by4)
def C_m9(a_self:GuildT)(a_road:(List Int))(a_rank:Int):OutC S_m9 Unit:=runC (some ()) (cp7 ⟨a_self,a_road,a_rank⟩)
theorem ct_m9:Cl.TJ bQ5 eN cj6 cp7:=(aa8 (ac6 (ab2 (as6 (fun _=>rfl) (fun a0 a1=>cJ7 a0 a1) xp xp)))
 (at3 (fun _=>rfl) (fun _ _=>rfl) (ad4 cA3 (bd8 (bm8 (fun _=>rfl)) xp)) (ab2 xp)))
theorem cf_m9(a_self:GuildT)(a_road:(List Int))(a_rank:Int):SimO bQ5 eN (m_m9 [aa5 a_self,(eL D.int) a_road,D.int a_rank]) (C_m9 a_self a_road a_rank):=aA1 (d:=()) rfl ct_m9 rfl
structure S_w9 where
 v27q:PostT
 v30q:Int
 v22q:Option Int
def ba2:S_w9→Mi.Env:=fun s=>[some (af4 s.v27q),some (D.int s.v30q),s.v22q.map D.int]
abbrev Y_w9:=S_w9→FlC S_w9 Unit
def aB0:Y_w9:=(ag2 (mc3C C_v9 (fun s' s=>{ s with v27q:=s'.v27q }) (pC fun p=>p.v27q) (pC fun p=>p.v30q) (vC fun p=>p.v22q)))
def bx3:Y_w9:=(bi4 (pc2C C_e9 (unC (fun g=> .ok g.guild) (pC fun p=>p.v27q)) (pC fun p=>p.v30q)) (fun a s=>{ s with v22q:=some a })
 aB0)
def co8:Y_w9:=bx3
def C_w9(a_self:PostT)(a_writer:Int):OutC S_w9 Unit:=runC (some ()) (co8 ⟨a_self,a_writer,none⟩)
theorem ct_w9:Cl.TJ ba2 eN ci6 co8:=(aG2 (aV1 (as6 (fun _=>rfl) (fun a0 a1=>cf_e9 a0 a1) (ad4 ai1 xp) xp)) (fun _ _=>rfl)
 (ac6 (ay4 (fun _=>rfl) (fun _ _=>rfl) (fun a0 a1 a2=>cf_v9 a0 a1 a2) xp xp xv)))
theorem cJ5(a_self:PostT)(a_writer:Int):SimO ba2 eN (m_w9 [af4 a_self,D.int a_writer]) (C_w9 a_self a_writer):=aA1 (d:=()) rfl ct_w9 rfl
def ak0(t:GuildT)(n:Nat):PostT:=⟨t,(List.replicate n none).set 0 (some [0]),[],[],[],List.replicate n []⟩
noncomputable def mk_Post(g:GuildT):Res PostT:=match C_l9 g with
 | .ok t _=>if 1≤g.house_count∧g.house_count≤60 then (match C_w9 (ak0 t g.house_count.toNat) 0 with
   |.ok _ s=> .ok s.v27q
   |.exc c _=> .exc c
   |.bad=> .bad) else .bad
 |.exc c _=> .exc c
 |.bad=> .bad
theorem bn8{n:Nat}:∀ k,ad2 (fun _=> .ok true) (cst (.dK [] [])) [] ((List.range k).map fun i:Nat=>D.int (n + i))= .ok (List.replicate k (.dK [] [])):=by
 intro k
 have key:∀ l:List D,ad2 (fun _=> .ok true) (cst (.dK [] [])) [] l= .ok (List.replicate l.length (.dK [] [])):=by
  intro l
  induction l with
  |nil=>rfl
  |cons d l ih=>rw[ad2,ih]; rfl
 rw[key,Aa7,Ao2]
theorem aO0(g:GuildT):SimR af4 (au0 1 m_n9 [aa5 g]) (mk_Post g):=by
 have ht:=cf_l9 g;have hsz:m_k9 [aa5 g]= .ok (.int g.house_count) (bo0 ⟨g⟩):=cf_k9 g;have mo1:af1 0 "twin" (aa5 g)=true:=rfl;have mo2:af1 0 "size" (aa5 g)=true:=rfl;unfold mk_Post;cases q:C_l9 g with
 |bad=>trivial
 |exc c s=>
   rw[q] at ht;have ht:m_l9 [aa5 g]= .exc c (ba3 s):=ht;show au0 1 m_n9 [aa5 g]= .exc c;unfold au0 m_n9 Mi.run;rw[bc5];simp[seqS,fldS,liP,pm,vr,rg,esN,an5,ht,mo1]
 |ok t s=>
   rw[q] at ht;have ht:m_l9 [aa5 g]= .ok (aa5 t) (ba3 s):=ht;dsimp only;by_cases hn:1≤g.house_count∧g.house_count≤60
   · rw[Aa6 hn];obtain⟨n,hcn⟩:∃ n:Nat,g.house_count=n:=⟨g.house_count.toNat,by omega⟩;have hn1:1≤n:=by omega
     have hn2:n≤60:=by omega
     have z1:1≤aa6:=by decide +kernel
     have z60:60 < aa6:=by decide +kernel
     have e1:fldS 1 "guild" 0 (liP (pm 0 "twin" m_l9 (vr 1) esN)) [some (.obj 1 [] []),some (aa5 g)]= .nx [some (.obj 1 ["guild"] [aa5 t]),some (aa5 g)]:=by
      simp[fldS,liP,pm,vr,rg,esN,an5,ht,mo1,aM3,hasK]
     have e2:fldS 1 "roads" 0 (liP (bn repL (mkL (esC (cst .non) esN)) (pm 0 "size" m_k9 (vr 1) esN))) [some (.obj 1 ["guild"] [aa5 t]),some (aa5 g)]= .nx [some (.obj 1 ["guild", "roads"] [aa5 t,.lst (List.replicate n .non)]),some (aa5 g)]:=by
      have hr:repL (.lst [.non]) (.int g.house_count)= .ok (.lst (List.replicate n .non)):=by
       have this:=o_rep (e:=eN) [()] g.house_count;rw[bQ3 (by omega) (by omega) (by rw[Af0]; omega)] at this;have this:repL (.lst [.non]) (.int g.house_count)= .ok (eL eN _):=this;rw[this,hcn];show Res.ok (D.lst _)=Res.ok (D.lst _);rw[show(Int.toNat (n:Int))=n from rfl]
       have key:∀ k:Nat,((List.replicate k [()]).flatten.map eN)=List.replicate k D.non:=fun k=>by
        induction k with
        |zero=>rfl
        |succ k ih=>rw[Ad6,Ae8,Ad3,ih]; rfl
       rw[key]
      simp[fldS,liP,pm,vr,rg,esN,esC,mkL,bn,cst,an5,hsz,mo2,hr,aM3,hasK,z1];decide
     have e3:aT8 (getF 1 "roads" 0) (setF "roads" 0) (cst (.int 0)) (liP (mkL (esC (cst (.int 0)) esN))) [some (.obj 1 ["guild", "roads"] [aa5 t,.lst (List.replicate n .non)]),some (aa5 g)]= .nx [some (.obj 1 ["guild", "roads"] [aa5 t,.lst ((List.replicate n .non).set 0 (.lst [.int 0]))]),some (aa5 g)]:=by
      have hi:ixN n 0=some 0:=by unfold ixN; simp; omega
      have hne:¬ (Str.ofString "guild" = Str.ofString "roads"):=by decide
      simp[aT8,getF,setF,bJ8,liP,rg,esN,esC,mkL,cst,z1,ae6,al0,hne,hi]
     have e4:∀ (ns:List Str) (vs:List D) (f:Str),ns.length < 900→hasK ns f=false→fldS 1 f 0 (liP (cst (.dT [] []))) [some (.obj 1 ns vs),some (aa5 g)]= .nx [some (.obj 1 (ns ++ [f]) (vs ++ [.dT [] []])),some (aa5 g)]:=by
      intro ns vs f h1 h2;simp only[fldS,liP,cst,Res.up,at4,rg,aM3];simp[h1,h2]
     have e5:∀ (ns:List Str) (vs:List D) (f:Str),ns.length < 900→hasK ns f=false→fldS 1 f 0 (liP (comp (ax5 (pm 0 "size" m_k9 (vr 1) esN)) [] (fun _=> .ok true) (cst (.dK [] [])))) [some (.obj 1 ns vs),some (aa5 g)]= .nx [some (.obj 1 (ns ++ [f]) (vs ++ [.lst (List.replicate n (.dK [] []))])),some (aa5 g)]:=by
      intro ns vs f h1 h2
      have hc:comp (ax5 (pm 0 "size" m_k9 (vr 1) esN)) [] (fun _=> .ok true) (cst (.dK [] [])) [some (.obj 1 ns vs),some (aa5 g)]= .ok (.lst (List.replicate n (.dK [] []))):=by
       have hs:ax5 (pm 0 "size" m_k9 (vr 1) esN) [some (.obj 1 ns vs),some (aa5 g)]= .ok (rng 0 n):=by
        simp[ax5,srcR,pm,vr,rg,esN,an5,hsz,mo2,cst,hcn];omega
       unfold comp;rw[hs];have hl:(rng 0 (n:Int)).length=n:=by unfold rng; simp
       show(if (rng 0 (n:Int)).length < aa6 then (ad2 _ _ [] (rng 0 (n:Int))).bind fun ys=>Res.ok (D.lst ys) else .bad)=_;rw[hl,Aa6 (by omega)]
       have:=bn8 (n:=0) n
       unfold rng;rw[show((n:Int) - 0).toNat=n by omega];have e0:((List.range n).map fun i:Nat=>D.int ((0:Int) + i))=(List.range n).map fun i:Nat=>D.int (((0:Nat):Int) + i):=rfl;rw[e0,this];rfl
      simp only[fldS,liP,hc,Res.up,at4,rg,aM3];simp[h1,h2]
     have hP:af4 (ak0 t n)= .obj 1 ["guild", "roads", "told_last", "written_last", "letters", "standings"] [aa5 t,.lst ((List.replicate n .non).set 0 (.lst [.int 0])),.dT [] [],.dT [] [],.dT [] [],.lst (List.replicate n (.dK [] []))]:=by
      show D.obj 1 _ [aa5 t,.lst (((List.replicate n none).set 0 (some [0])).map (eO (eL D.int))),.dT [] [],.dT [] [],.dT [] [],.lst ((List.replicate n []).map (encJ eK))]=_;rw[Au6,List.map_replicate,List.map_replicate];rfl
     have hw:=cJ5 (ak0 t n) 0;have mo3:af1 1 "write_to_all" (af4 (ak0 t n))=true:=rfl
     have e9:∀ o x:D,af1 1 "write_to_all" o=true→ag1 (mm 1 "write_to_all" [(.O 0),.F] m_w9 (vr 0) (esC (cst (.int 0)) esN)) [some o,some x]=(match m_w9 [o,.int 0] with | .ok d ρ=> .nx (wbGo [(.O 0),.F] 0 ρ [some o,some x]) | .exc c ρ=> .exc c (wbGo [(.O 0),.F] 0 ρ [some o,some x]) | .bad=> .bad):=by
      intro o x h;simp[ag1,mm,vr,rg,esC,esN,cst,h,aj7];cases m_w9 [o,.int 0] <;> rfl
     have e6:au0 1 m_n9 [aa5 g]=(match m_w9 [af4 (ak0 t n),.int 0] with | .ok d ρ=>(match rg (wbGo [(.O 0),.F] 0 ρ [some (af4 (ak0 t n)),some (aa5 g)]) 0 with | some d=> .ok d | none=> .bad) | .exc c _=> .exc c | .bad=> .bad):=by
      unfold au0 m_n9 Mi.run;rw[bc5];have e7:([D.obj 1 [] [],aa5 g].map some ++ List.replicate (2 - [D.obj 1 [] [],aa5 g].length) none)=[some (.obj 1 [] []),some (aa5 g)]:=rfl;rw[e7];simp only[seqS,e1,e2,e3];rw[e4 _ _ _ (by decide) (by decide)];dsimp only;rw[e4 _ _ _ (by decide) (by decide)];dsimp only;rw[e4 _ _ _ (by decide) (by decide)];dsimp only;rw[e5 _ _ _ (by decide) (by decide)];have e8:(D.obj 1 (((((["guild", "roads"]:List Str) ++ [("told_last" : Str)]) ++ [("written_last" : Str)]) ++ [("letters" : Str)]) ++ [("standings" : Str)]) (((([aa5 t,D.lst ((List.replicate n .non).set 0 (.lst [.int 0]))] ++ [.dT [] []]) ++ [.dT [] []]) ++ [.dT [] []]) ++ [.lst (List.replicate n (.dK [] []))]))=af4 (ak0 t n):=hP.symm;dsimp only;rw[e8];rw[e9 _ _ mo3];cases m_w9 [af4 (ak0 t n),.int 0] with
      |ok d ρ=>rfl
      |exc c ρ=>rfl
      |bad=>rfl
     rw[e6,show g.house_count.toNat=n by omega];cases qw:C_w9 (ak0 t n) 0 with
     |bad=>trivial
     |exc c s=>
       rw[qw] at hw;have hw:m_w9 [af4 (ak0 t n),.int 0]= .exc c (ba2 s):=hw;rw[hw];exact rfl
     |ok u s=>
       rw[qw] at hw;have hw:m_w9 [af4 (ak0 t n),.int 0]= .ok .non (ba2 s):=hw;rw[hw];exact rfl
   ·rw[Aa3 hn]; trivial
structure S_q9 where
 v27q:PostT
 v8q:Int
 v25q:Option (Option (List Int))
def bQ1:S_q9→Mi.Env:=fun s=>[some (af4 s.v27q),some (D.int s.v8q),s.v25q.map (eO (eL D.int))]
abbrev Y_q9:=S_q9→FlC S_q9 Bool
def aX6:Y_q9:=(setC (fun a s=>{ s with v25q:=some a }) (upC (pc2C C_x9 (pC fun p=>p.v8q) (unC cr5 (vC (gI (fun s=>some s.v27q.standings) (fun s=>some s.v8q)))))))
def aB4:Y_q9:=(retC (upC (kC false)))
def aX5:Y_q9:=(ifC (upC (bnC (eqC false) (vC fun p=>p.v25q) (bnC ixC (unC (fun g=> .ok g.roads) (pC fun p=>p.v27q)) (pC fun p=>p.v8q))))
 aB4
 am3)
def by1:Y_q9:=(cF8 (fun s=>some s.v27q.roads) (fun s y=>{ s with v27q:={ s.v27q with roads:=y } }) (pC fun p=>p.v8q) (upC (vC fun p=>p.v25q)))
def by0:Y_q9:=(ag2 (mc2C C_w9 (fun s' s=>{ s with v27q:=s'.v27q }) (pC fun p=>p.v27q) (pC fun p=>p.v8q)))
def bx9:Y_q9:=(retC (upC (kC true)))
def cp4:Y_q9:=(seqC aX6
 (seqC aX5
 (seqC by1
 (seqC by0
 bx9))))
def C_q9(a_self:PostT)(a_house:Int):OutC S_q9 Bool:=runC none (cp4 ⟨a_self,a_house,none⟩)
theorem ct_q9:Cl.TJ bQ1 D.bl cj2 cp4:=(aa8 (xs (ab2 (av2 (fun a0 a1=>cf_x9 a0 a1) xp (ad4 cA2 (cH6 (hgI (fun _=>rfl) (bt5 (fun _=>rfl))))))))
 (aa8 (am2 (ab2 (ae0 (ab5 (cB1 (cI3 (cn8 cn9) (be3 _)) (by decide) false) xv (ab5 aw1 (ad4 ar5 xp) xp))))
 (ad5 (ab2 xk))
 ae8)
 (aa8 (bU9 (fun _=>rfl) (fun _ _=>rfl) xp (ab2 xv))
 (aa8 (ac6 (br0 (fun _=>rfl) (fun _ _=>rfl) (fun a0 a1=>cJ5 a0 a1) xp xp))
 (ad5 (ab2 xk))))))
theorem cf_q9(a_self:PostT)(a_house:Int):SimO bQ1 D.bl (m_q9 [af4 a_self,D.int a_house]) (C_q9 a_self a_house):=aj2 ct_q9 rfl
structure S_bb9 where
 v24q:(List Int)
 v11q:Int
 v4q:Int
 v13q:Option Int
 v7q:Option GuildT
 v10q:Option Int
def bo5:S_bb9→Mi.Env:=fun s=>[some ((eL D.int) s.v24q),some (D.int s.v11q),some (D.int s.v4q),s.v13q.map D.int,s.v7q.map aa5,s.v10q.map D.int]
abbrev aC3:=S_bb9→FlC S_bb9 GuildT
def aJ8:aC3:=(setC (fun a s=>{ s with v13q:=some a }) (upC (unC lenC (pC fun p=>p.v24q))))
def aJ7:aC3:=(setC (fun a s=>{ s with v7q:=some a }) (upC (pk1C mk_Guild (bnC addC (bnC addC (kC (1:Int)) (vC fun p=>p.v13q)) (pC fun p=>p.v11q)))))
def au4:aC3:=(ag2 (mc3C C_c9 (fun s' s=>{ s with v7q:=some s'.v27q }) (vC fun p=>p.v7q) (bnC ixC (pC fun p=>p.v24q) (vC fun p=>p.v10q)) (kC (0:Int))))
def au3:aC3:=(ag2 (mc3C C_c9 (fun s' s=>{ s with v7q:=some s'.v27q }) (vC fun p=>p.v7q) (bnC ixC (pC fun p=>p.v24q) (vC fun p=>p.v10q)) (bnC ixC (pC fun p=>p.v24q) (bnC modC (bnC addC (vC fun p=>p.v10q) (kC (1:Int))) (vC fun p=>p.v13q)))))
def ao3:aC3:=(ag2 (mc3C C_m9 (fun s' s=>{ s with v7q:=some s'.v27q }) (vC fun p=>p.v7q) (mkC (au5 (bnC ixC (pC fun p=>p.v24q) (vC fun p=>p.v10q)) (au5 (bnC ixC (pC fun p=>p.v24q) (bnC modC (bnC addC (vC fun p=>p.v10q) (kC (1:Int))) (vC fun p=>p.v13q))) (au5 (kC (0:Int)) (nilC:_→Res (List Int)))))) (bnC addC (kC (1:Int)) (bnC modC (bnC addC (pC fun p=>p.v4q) (bnC mulC (vC fun p=>p.v10q) (vC fun p=>p.v10q))) (bnC powC (kC (10:Int)) (kC (30:Int)))))))
def ax1:aC3:=(seqC au4
 (seqC au3
 ao3))
def aJ6:aC3:=(bi4 (unC (rngC 0) (vC fun p=>p.v13q)) (fun a s=>{ s with v10q:=some a })
 ax1)
def ak4:aC3:=(ag2 (mc3C C_c9 (fun s' s=>{ s with v7q:=some s'.v27q }) (vC fun p=>p.v7q) (bnC addC (bnC addC (vC fun p=>p.v13q) (kC (1:Int))) (vC fun p=>p.v10q)) (bnC ixC (pC fun p=>p.v24q) (bnC modC (bnC addC (bnC cm9 (pC fun p=>p.v4q) (kC (7:Int))) (bnC mulC (vC fun p=>p.v10q) (kC (3:Int)))) (vC fun p=>p.v13q)))))
def aJ5:aC3:=(bi4 (unC (rngC 0) (pC fun p=>p.v11q)) (fun a s=>{ s with v10q:=some a })
 ak4)
def bf1:aC3:=(retC (mvC (fun s=>s.v7q) (fun s=>{ s with v7q:=none })))
def bB2:aC3:=(seqC aJ8
 (seqC aJ7
 (seqC aJ6
 (seqC aJ5
 bf1))))
def bN8(a_ring:(List Int))(a_leaves:Int)(a_cell:Int):OutC S_bb9 GuildT:=runC none (bB2 ⟨a_ring,a_leaves,a_cell,none,none,none⟩)
theorem cJ3:Cl.TJ bo5 aa5 bs1 bB2:=(aa8 (xs (ab2 (ad4 ap1 xp)))
 (aa8 (xs (ab2 (bv4 as4 (ab5 at8 (ab5 at8 xk xv) xp))))
 (aa8 (aG2 (aV2 xv) (fun _ _=>rfl)
 (aa8 (ac6 (ay4 (fun _=>rfl) (fun _ _=>rfl) (fun a0 a1 a2=>co4 a0 a1 a2) xv (ab5 aw1 xp xv) xk))
 (aa8 (ac6 (ay4 (fun _=>rfl) (fun _ _=>rfl) (fun a0 a1 a2=>co4 a0 a1 a2) xv (ab5 aw1 xp xv) (ab5 aw1 xp (ab5 aH3 (ab5 at8 xv xk) xv))))
 (ac6 (ay4 (fun _=>rfl) (fun _ _=>rfl) (fun a0 a1 a2=>cf_m9 a0 a1 a2) xv (av4 (ah6 (ab5 aw1 xp xv) (ah6 (ab5 aw1 xp (ab5 aH3 (ab5 at8 xv xk) xv)) (ah6 xk av3)))) (ab5 at8 xk (ab5 aH3 (ab5 at8 xp (ab5 bI5 xv xv)) (ab5 o_pow xk xk))))))))
 (aa8 (aG2 (aV2 xp) (fun _ _=>rfl)
 (ac6 (ay4 (fun _=>rfl) (fun _ _=>rfl) (fun a0 a1 a2=>co4 a0 a1 a2) xv (ab5 at8 (ab5 at8 xv xk) xv) (ab5 aw1 xp (ab5 aH3 (ab5 at8 (ab5 bS4 xp xk) (ab5 bI5 xv xk)) xv)))))
 (ad5 (ch5 (fun _=>rfl) (fun _=>rfl)))))))
theorem cK3(a_ring:(List Int))(a_leaves:Int)(a_cell:Int):SimO bo5 aa5 (m_bb9 [(eL D.int) a_ring,D.int a_leaves,D.int a_cell]) (bN8 a_ring a_leaves a_cell):=aF3 cJ3 rfl
structure S_bg9 where
 v7q:GuildT
 v25q:(List Int)
def bo1:S_bg9→Mi.Env:=fun s=>[some (aa5 s.v7q),some ((eL D.int) s.v25q)]
abbrev cL3:=S_bg9→FlC S_bg9 (Int×Int×(List Int))
def be5:cL3:=(retC (upC (prC (unC negC (pc2C C_f9 (pC fun p=>p.v7q) (pC fun p=>p.v25q))) (prC (unC lenC (pC fun p=>p.v25q)) (pC fun p=>p.v25q)))))
def bA7:cL3:=be5
def bN4(a_guild:GuildT)(a_road:(List Int)):OutC S_bg9 (Int×Int×(List Int)):=runC none (bA7 ⟨a_guild,a_road⟩)
theorem cI8:Cl.TJ bo1 (eT3 D.int D.int (eL D.int)) br6 bA7:=(ad5 (ab2 (bv6 (ad4 cA5 (as6 (fun _=>rfl) (fun a0 a1=>cf_f9 a0 a1) xp xp)) (ad4 ap1 xp) xp)))
theorem cJ8(a_guild:GuildT)(a_road:(List Int)):SimO bo1 (eT3 D.int D.int (eL D.int)) (m_bg9 [aa5 a_guild,(eL D.int) a_road]) (bN4 a_guild a_road):=aj2 cI8 rfl
structure S_s9 where
 v27q:PostT
 v30q:Int
 v22q:Int
 v25q:(Option (List Int))
def bP9:S_s9→Mi.Env:=fun s=>[some (af4 s.v27q),some (D.int s.v30q),some (D.int s.v22q),some ((eO (eL D.int)) s.v25q)]
abbrev Y_s9:=S_s9→FlC S_s9 Unit
def aX4:Y_s9:=(aV3 (fun s=>some s.v27q.told_last) (fun s y=>{ s with v27q:={ s.v27q with told_last:=y } }) (unC ap8 (prC (pC fun p=>p.v30q) (pC fun p=>p.v22q))) (upC (pC fun p=>p.v25q)))
def aB2:Y_s9:=(cG4 (gI (fun s=>some s.v27q.standings) (fun s=>some s.v22q)) (pI (fun s=>some s.v27q.standings) (fun s y=>{ s with v27q:={ s.v27q with standings:=y } }) (fun s=>some s.v22q)) (pC fun p=>p.v30q) (upC (pc2C bN4 (unC (fun g=> .ok g.guild) (pC fun p=>p.v27q)) (bnC catC (mkC (au5 (pC fun p=>p.v22q) (nilC:_→Res (List Int)))) (unC optC (pC fun p=>p.v25q))))))
def aB3:Y_s9:=(ag2 (bt3 (gI (fun s=>some s.v27q.standings) (fun s=>some s.v22q)) (pI (fun s=>some s.v27q.standings) (fun s y=>{ s with v27q:={ s.v27q with standings:=y } }) (fun s=>some s.v22q)) (pC fun p=>p.v30q)))
def aX3:Y_s9:=(ifC (upC (pc3C bD3 (unC (fun g=> .ok g.guild) (pC fun p=>p.v27q)) (pC fun p=>p.v22q) (pC fun p=>p.v25q)))
 aB2
 aB3)
def cp2:Y_s9:=(seqC aX4
 aX3)
def C_s9(a_self:PostT)(a_writer:Int)(a_receiver:Int)(a_road:(Option (List Int))):OutC S_s9 Unit:=runC (some ()) (cp2 ⟨a_self,a_writer,a_receiver,a_road⟩)
theorem ct_s9:Cl.TJ bP9 eN cj0 cp2:=(aa8 (at3 (fun _=>rfl) (fun _ _=>rfl) (an2 ah8 (ah5 xp xp)) (ab2 xp))
 (am2 (ab2 (ae0 (bT6 (fun a0 a1 a2=>cK0 a0 a1 a2) (ad4 ai1 xp) xp xp)))
 (bV0 (hgI (fun _=>rfl) (bt5 (fun _=>rfl))) (hsI (fun _=>rfl) (fun _ _=>rfl) (bt5 (fun _=>rfl))) xp (ab2 (av2 (fun a0 a1=>cJ8 a0 a1) (ad4 ai1 xp) (ab5 o_cat (av4 (ah6 xp av3)) (an2 au6 xp)))))
 (ac6 (ch6 (hgI (fun _=>rfl) (bt5 (fun _=>rfl))) (hsI (fun _=>rfl) (fun _ _=>rfl) (bt5 (fun _=>rfl))) xp))))
theorem cf_s9(a_self:PostT)(a_writer:Int)(a_receiver:Int)(a_road:(Option (List Int))):SimO bP9 eN (m_s9 [af4 a_self,D.int a_writer,D.int a_receiver,(eO (eL D.int)) a_road]) (C_s9 a_self a_writer a_receiver a_road):=aA1 (d:=()) rfl ct_s9 rfl
structure S_o9 where
 v27q:PostT
 v0q:Int
 v1q:Int
def bQ4:S_o9→Mi.Env:=fun s=>[some (af4 s.v27q),some (D.int s.v0q),some (D.int s.v1q)]
abbrev Y_o9:=S_o9→FlC S_o9 Bool
def aY0:Y_o9:=(ag2 (upC (pc2C C_g9 (unC (fun g=> .ok g.guild) (pC fun p=>p.v27q)) (mkC (au5 (pC fun p=>p.v0q) (au5 (pC fun p=>p.v1q) (nilC:_→Res (List Int))))))))
def aX9:Y_o9:=(ifC (upC (bnC (dinC true) (unC ap8 (prC (pC fun p=>p.v0q) (pC fun p=>p.v1q))) (unC (fun g=> .ok g.letters) (pC fun p=>p.v27q))))
 badC
 am3)
def aX8:Y_o9:=(ag2 (mlC C_s9 (fun s' s=>{ s with v27q:=s'.v27q }) (fun s=>some s.v27q) (pC fun p=>p.v0q) (pC fun p=>p.v1q) (cn6 (fun s=>some s.v27q.letters) (fun s y=>{ s with v27q:={ s.v27q with letters:=y } }) (unC ap8 (prC (pC fun p=>p.v0q) (pC fun p=>p.v1q))))))
def by3:Y_o9:=(retC (mc2C C_q9 (fun s' s=>{ s with v27q:=s'.v27q }) (pC fun p=>p.v27q) (pC fun p=>p.v1q)))
def cp6:Y_o9:=(seqC aY0
 (seqC aX9
 (seqC aX8
 by3)))
def C_o9(a_self:PostT)(a_a:Int)(a_b:Int):OutC S_o9 Bool:=runC none (cp6 ⟨a_self,a_a,a_b⟩)
theorem ct_o9:Cl.TJ bQ4 D.bl cj4 cp6:=(aa8 (ac6 (ab2 (as6 (fun _=>rfl) (fun a0 a1=>bA6 a0 a1) (ad4 ai1 xp) (av4 (ah6 xp (ah6 xp av3))))))
 (aa8 (am2 (ab2 (ae0 (ab5 (bI7 true) (an2 ah8 (ah5 xp xp)) (ad4 ag4 xp))))
 au8
 ae8)
 (aa8 (ac6 (nj_ml (fun _=>rfl) (fun _ _=>rfl) (fun _=>rfl) (fun a0 a1 a2 a3=>cf_s9 a0 a1 a2 a3) xp xp (ch7 (fun _=>rfl) (fun _ _=>rfl) (an2 ah8 (ah5 xp xp)))))
 (ad5 (br0 (fun _=>rfl) (fun _ _=>rfl) (fun a0 a1=>cf_q9 a0 a1) xp xp)))))
theorem cJ6(a_self:PostT)(a_a:Int)(a_b:Int):SimO bQ4 D.bl (m_o9 [af4 a_self,D.int a_a,D.int a_b]) (C_o9 a_self a_a a_b):=aj2 ct_o9 rfl
structure S_p9 where
 v27q:PostT
 v18q:Option (List Int)
def bQ2:S_p9→Mi.Env:=fun s=>[some (af4 s.v27q),s.v18q.map (eTs D.int)]
abbrev Y_p9:=S_p9→FlC S_p9 Bool
def aX7:Y_p9:=(setC (fun a s=>{ s with v18q:=some a }) (upC (pc1C C_r9 (pC fun p=>p.v27q))))
def by2:Y_p9:=(retC (mc3C C_o9 (fun s' s=>{ s with v27q:=s'.v27q }) (pC fun p=>p.v27q) (bnC ixC (vC fun p=>p.v18q) (kC (0:Int))) (bnC ixC (vC fun p=>p.v18q) (kC (1:Int)))))
def cp5:Y_p9:=(seqC aX7
 by2)
def C_p9(a_self:PostT):OutC S_p9 Bool:=runC none (cp5 ⟨a_self,none⟩)
theorem ct_p9:Cl.TJ bQ2 D.bl cj3 cp5:=(aa8 (xs (ab2 (bd6 (fun _=>rfl) (fun a0=>cf_r9 a0) xp)))
 (ad5 (ay4 (fun _=>rfl) (fun _ _=>rfl) (fun a0 a1 a2=>cJ6 a0 a1 a2) xp (ab5 bb8 xv xk) (ab5 bb8 xv xk))))
theorem cf_p9(a_self:PostT):SimO bQ2 D.bl (m_p9 [af4 a_self]) (C_p9 a_self):=aj2 ct_p9 rfl
structure S_t9 where
 v27q:PostT
 v14q:Int
 v3q:Option Int
def bn9:S_t9→Mi.Env:=fun s=>[some (af4 s.v27q),some (D.int s.v14q),s.v3q.map D.int]
abbrev Y_t9:=S_t9→FlC S_t9 Int
def aX2:Y_t9:=(setC (fun a s=>{ s with v3q:=some a }) (upC (kC (0:Int))))
def aP6:Y_t9:=(ag2 (mc1C C_p9 (fun s' s=>{ s with v27q:=s'.v27q }) (pC fun p=>p.v27q)))
def aP5:Y_t9:=(setC (fun a s=>{ s with v3q:=some a }) (upC (bnC addC (vC fun p=>p.v3q) (kC (1:Int)))))
def aK0:Y_t9:=(seqC aP6
 aP5)
def aX1:Y_t9:=(whC (upC (andC (bnC ltC (vC fun p=>p.v3q) (pC fun p=>p.v14q)) (bnC gtC (unC bJ9 (unC (fun g=> .ok g.letters) (pC fun p=>p.v27q))) (kC (0:Int)))))
 aK0 100000)
def bx7:Y_t9:=(retC (upC (vC fun p=>p.v3q)))
def cp1:Y_t9:=(seqC aX2
 (seqC aX1
 bx7))
def C_t9(a_self:PostT)(a_most:Int):OutC S_t9 Int:=runC none (cp1 ⟨a_self,a_most,none⟩)
theorem ct_t9:Cl.TJ bn9 D.int ci9 cp1:=(aa8 (xs (ab2 xk))
 (aa8 (bD9 (rep:=bn9) (ab2 (cn3 (ae0 (ab5 o_lt xv xp)) (ae0 (ab5 o_gt (ad4 cA9 (ad4 ag4 xp)) xk))))
 (aa8 (ac6 (cB3 (fun _=>rfl) (fun _ _=>rfl) (fun a0=>cf_p9 a0) xp))
 (xs (ab2 (ab5 at8 xv xk)))) 100000)
 (ad5 (ab2 xv))))
theorem cf_t9(a_self:PostT)(a_most:Int):SimO bn9 D.int (m_t9 [af4 a_self,D.int a_most]) (C_t9 a_self a_most):=aj2 ct_t9 rfl
structure S_z9 where
 v26q:(List Int)
 v13q:Option Int
 v24q:Option (List Int)
 v20q:Option PostT
 v4q:Option Int
 v12q:Option (List (Int×Int×(Option (List Int))))
 v15q:Option (Int×Int×(Option (List Int)))
 v6q:Option Int
def bP4:S_z9→Mi.Env:=fun s=>[some (eS s.v26q),s.v13q.map D.int,s.v24q.map (eL D.int),s.v20q.map af4,s.v4q.map D.int,s.v12q.map (eL (eT3 D.int D.int (eO (eL D.int)))),s.v15q.map (eT3 D.int D.int (eO (eL D.int))),s.v6q.map D.int]
abbrev Y_z9:=S_z9→FlC S_z9 Bool
def aW5:Y_z9:=(setC (fun a s=>{ s with v13q:=some a }) (upC (bnC addC (kC (3:Int)) (bnC mulC (kC (2:Int)) (bnC modC (pc2C aQ9 (pC fun p=>p.v26q) (kC (0:Int))) (kC (4:Int)))))))
def aW4:Y_z9:=(setC (fun a s=>{ s with v24q:=some a }) (upC (pc2C bN7 (pc2C aQ9 (pC fun p=>p.v26q) (kC (1:Int))) (vC fun p=>p.v13q))))
def aW3:Y_z9:=(setC (fun a s=>{ s with v20q:=some a }) (upC (pk1C mk_Post (pc3C bN8 (vC fun p=>p.v24q) (bnC modC (pc2C aQ9 (pC fun p=>p.v26q) (kC (2:Int))) (kC (4:Int))) (pc2C aQ9 (pC fun p=>p.v26q) (kC (3:Int)))))))
def aA7:Y_z9:=(setC (fun a s=>{ s with v12q:=some a }) (upC (pc1C C_u9 (vC fun p=>p.v20q))))
def aJ1:Y_z9:=(retC (upC (kC false)))
def aA6:Y_z9:=(ifC (upC (bnC (eqC false) (unC lenC (vC fun p=>p.v12q)) (kC (0:Int))))
 aJ1
 am3)
def aA5:Y_z9:=(setC (fun a s=>{ s with v15q:=some a }) (upC (bnC ixC (vC fun p=>p.v12q) (bnC modC (vC fun p=>p.v4q) (unC lenC (vC fun p=>p.v12q))))))
def aA4:Y_z9:=(ag2 (mc3C C_o9 (fun s' s=>{ s with v20q:=some s'.v27q }) (vC fun p=>p.v20q) (unC fstC (vC fun p=>p.v15q)) (unC cF1 (vC fun p=>p.v15q))))
def aZ1:Y_z9:=(seqC aA7
 (seqC aA6
 (seqC aA5
 aA4)))
def aW2:Y_z9:=(bi4 (bnC cI0 (pC fun p=>p.v26q) (kC (4:Int))) (fun a s=>{ s with v4q:=some a })
 aZ1)
def aW0:Y_z9:=(retC (upC (kC false)))
def aW1:Y_z9:=(ifC (upC (bnC (eqC false) (unC lenC (pc1C C_u9 (vC fun p=>p.v20q))) (kC (0:Int))))
 aW0
 am3)
def aV9:Y_z9:=(setC (fun a s=>{ s with v6q:=some a }) (mc2C C_t9 (fun s' s=>{ s with v20q:=some s'.v27q }) (vC fun p=>p.v20q) (kC (60:Int))))
def bx0:Y_z9:=(retC (upC (andC (pc1C bN6 (vC fun p=>p.v6q)) (andC (bnC (eqC false) (vC fun p=>p.v6q) (kC (60:Int))) (bnC gtC (unC lenC (pc1C C_u9 (vC fun p=>p.v20q))) (kC (0:Int)))))))
def co5:Y_z9:=(seqC aW5
 (seqC aW4
 (seqC aW3
 (seqC aW2
 (seqC aW1
 (seqC aV9
 bx0))))))
def C_z9(a_script:(List Int)):OutC S_z9 Bool:=runC none (co5 ⟨a_script,none,none,none,none,none,none,none⟩)
theorem ct_z9:Cl.TJ bP4 D.bl ci3 co5:=(aa8 (xs (ab2 (ab5 at8 xk (ab5 bI5 xk (ab5 aH3 (av2 (fun a0 a1=>bf5 a0 a1) xp xk) xk)))))
 (aa8 (xs (ab2 (av2 (fun a0 a1=>cK2 a0 a1) (av2 (fun a0 a1=>bf5 a0 a1) xp xk) xv)))
 (aa8 (xs (ab2 (bv4 aO0 (bT6 (fun a0 a1 a2=>cK3 a0 a1 a2) xv (ab5 aH3 (av2 (fun a0 a1=>bf5 a0 a1) xp xk) xk) (av2 (fun a0 a1=>bf5 a0 a1) xp xk)))))
 (aa8 (aG2 (aV1 (ab5 ch3 (bd8 ct3 xp) xk)) (fun _ _=>rfl)
 (aa8 (xs (ab2 (bd6 (fun _=>rfl) (fun a0=>co3 a0) xv)))
 (aa8 (am2 (ab2 (ae0 (ab5 (aM5 false) (ad4 ap1 xv) xk)))
 (ad5 (ab2 xk))
 ae8)
 (aa8 (xs (ab2 (ab5 aw1 xv (ab5 aH3 xv (ad4 ap1 xv)))))
 (ac6 (ay4 (fun _=>rfl) (fun _ _=>rfl) (fun a0 a1 a2=>cJ6 a0 a1 a2) xv (bL9 o_q0 xv) (bL9 o_q1 xv)))))))
 (aa8 (am2 (ab2 (ae0 (ab5 (aM5 false) (ad4 ap1 (bd6 (fun _=>rfl) (fun a0=>co3 a0) xv)) xk)))
 (ad5 (ab2 xk))
 ae8)
 (aa8 (xs (br0 (fun _=>rfl) (fun _ _=>rfl) (fun a0 a1=>cf_t9 a0 a1) xv xk))
 (ad5 (ab2 (bv7 (bT7 (fun a0=>cK1 a0) xv) (bv7 (ab5 (aM5 false) xv xk) (ab5 o_gt (ad4 ap1 (bd6 (fun _=>rfl) (fun a0=>co3 a0) xv)) xk)))))))))))
theorem cf_z9(a_script:(List Int)):SimO bP4 D.bl (m_z9 [eS a_script]) (C_z9 a_script):=aj2 ct_z9 rfl
end
def ak5(ns:List Int)(k:Int):Int:=(ns[k.toNat]?).getD 0
theorem ce2(ns:List Int)(k:Int)(hk:0≤k):(aQ9 ns k).res= .ok (ak5 ns k):=by
 unfold aQ9 bB3 bf3 bf2 av7 ak5;by_cases h:k < ns.length
 ·obtain⟨v,e⟩:∃ v,ns[k.toNat]?=some v:=⟨_,Ab6 (by omega)⟩;simp[h,aC2 ns hk,e]
 ·have e:ns[k.toNat]?=none:=Ac6 (by omega);simp[h,e]
def PairOk(sz:Int)(k:List Int):Prop:=∃ a b,k=[a,b]∧0≤a∧a < sz∧0≤b∧b < sz
theorem an3{α:Type}:∀ {l:List α} {j:Nat} (h:j < l.length),(l[j] :: l.eraseIdx j).Perm l
 |x :: l,0,h=>List.Perm.refl _
 | x :: l,j + 1,h=>by
   have ih:=an3 (l:=l) (j:=j) (by simpa using h);rw[Ad7,List.getElem_cons_succ];exact(List.Perm.swap x _ _).trans (ih.cons x)
structure RoadOk (sz:Int) (r:List Int):Prop where
 two:2≤r.length
 last:r.getLast?=some 0
 nd:r.Nodup
 all:∀ x∈r,0≤x∧x < sz
theorem cw4{α:Type}{l:List α}{i:Int}(h0:0≤i)(h1:i < l.length)(h2:l.length≤20000):∃ (h:i.toNat < l.length),popC l i=some (l[i.toNat],l.eraseIdx i.toNat):=by
 have h:i.toNat < l.length:=by omega
 refine⟨h,?_⟩;unfold popC;rw[if_pos ⟨h0,h1,by unfold aa6; omega⟩,List.getElem?_eq_getElem h];rfl
theorem cL0{α:Type}{l:List α}{x:α}(h:l.length < aa6):appC l x=some ((),l ++ [x]):=by unfold appC; rw[if_pos h]
theorem al4:∀ (n:Nat) (l:List Int),l.Nodup→(∀ x∈l,0≤x∧x < n)→l.length≤n:=by
 intro n
 induction n with
 |zero=>
   intro l nd al;cases l with
   |nil=>exact Ab7 _
   |cons x l=>have:=al x Aa5; omega
 |succ n ih=>
   intro l nd al
   have h2:=ih (l.erase n) (nd.erase _) fun x hx=>by
    have hm:=(nd.mem_erase_iff).mp hx
    have:=al x hm.2
    have hne:=hm.1;omega
   rw[List.length_erase] at h2;split at h2 <;> omega
theorem RoadOk.len{sz:Int}{r:List Int}(h:RoadOk sz r):(r.length:Int)≤sz:=by
 have:=al4 sz.toNat r h.nd fun x hx=>by have:=h.all x hx; omega
 obtain⟨x,hx⟩:=An9 r (fun z=>by have:=h.two; rw[z] at this; simp at this)
 have:=h.all x hx
 omega
theorem bK0(l:List Int)(m:Int):0≤ag7 l m↔0≤m∧∀ x∈l,0≤x:=by
 obtain⟨h1,h2,h3⟩:=aq1 l m;constructor
 ·intro h;exact⟨by omega,fun x hx=>by have:=h3 x hx; omega⟩
 · rintro⟨a,b⟩;rcases h1 with z | z
   ·omega
   ·exact b _ z
theorem bl9(hs:List Int)(n:Int)(h:∀ x∈hs,0≤x∧x < n)(h0:0 < n):(bN5 hs n).res= .ok ():=by
 unfold bN5 bA8
 first | unfold be6 | skip
 cases hs with
 |nil=>
   have q:¬ n≤0:=by omega
   simp[q]
 |cons a l=>
   have q1:0≤ag7 l a:=(bK0 l a).mpr ⟨(h a Aa5).1,fun x hx=>(h x (Aa4 _ hx)).1⟩
   have q2:am8 l a < n:=by
    obtain⟨z | z,_⟩:=at9 l a
    ·rw[z]; exact(h a Aa5).2
    ·exact(h _ (Aa4 _ z)).2
   have q3:¬ ag7 l a < 0:=by omega
   have q4:¬ n≤am8 l a:=by omega
   simp[q3,q4]
theorem aL3(g:GuildT)(hs:List Int)(h:∀ x∈hs,0≤x∧x < g.house_count)(h0:0 < g.house_count):(C_g9 g hs).res= .ok ():=by
 have e:=bl9 hs g.house_count h h0;unfold C_g9 cq2
 first | unfold bz3 | skip
 simp[e]
theorem in1{a n:Int}(ha:0≤a∧a < n):∀ x∈[a],0≤x∧x < n:=fun x hx=>by rw[List.mem_singleton.mp hx]; exact ha
theorem in2{a b n:Int}(ha:0≤a∧a < n)(hb:0≤b∧b < n):∀ x∈[a,b],0≤x∧x < n:=fun x hx=>by
 rcases List.mem_cons.mp hx with z | z
 ·rw[z]; exact ha
 ·rw[List.mem_singleton.mp z]; exact hb
theorem ct0(g:GuildT)(a b:Int)(ha:0≤a∧a < g.house_count)(hb:0≤b∧b < g.house_count)(hne:a≠b):(C_i9 g a b).res= .ok ():=by
 have e:=aL3 g [a,b] (in2 ha hb) (by omega);unfold C_i9 cq0;simp[by8,by7,e,hne,aa6]
theorem bm3(g:GuildT)(a b:Int)(ha:0≤a∧a < g.house_count)(hb:0≤b∧b < g.house_count):(C_d9 g a b).res= .ok ((g.likings.get [a,b]).getD 0):=by
 have e:=aL3 g [a,b] (in2 ha hb) (by omega);unfold C_d9 cq5;simp[bz7,bz6,e,aa6]
theorem bm2(g:GuildT)(r:List Int)(hr:RoadOk g.house_count r)(h1:g.house_count≤1000):(C_h9 g r).res= .ok ():=by
 have ln:=hr.len;have two:=hr.two;have e:=aL3 g r hr.all (by omega);have e2:¬ (r.length:Int) < 2:=by omega
 have e4:r.length < 4000:=by omega
 have e3:=hr.last;unfold C_h9 cq1;simp[bz2,bz1,bz0,by9,e,e2,e4,Cl.bg0,e3,bM5 hr.nd]
def ao8(L Q:DI Int)(r:List Int):Int:=(Q.get r).getD (match r with | a :: b :: _=>(L.get [a,b]).getD 0 | _=>0)
def ai6(L Q:DI Int)(r:List Int):Int×Int×List Int:=(0 - ao8 L Q r,(r.length:Int),r)
theorem at0{α:Type}(a b:α)(t:List α):atI (a :: b :: t) 0=some a:=by rw[aC2 _ (by omega)]; rfl
theorem at1{α:Type}(a b:α)(t:List α):atI (a :: b :: t) 1=some b:=by rw[aC2 _ (by omega)]; rfl
theorem cd8(g:GuildT)(r:List Int)(hr:RoadOk g.house_count r)(h1:g.house_count≤1000):(C_f9 g r).res= .ok (ao8 g.likings g.wish_ranks r):=by
 have e:=bm2 g r hr h1
 obtain⟨a,b,t,rfl⟩:∃ a b t,r=a :: b :: t:=by
  match r,hr.two with
  |a :: b :: t,_=>exact⟨a,b,t,rfl⟩
 have ha:=hr.all a (by simp);have hb:=hr.all b (by simp);have hk:=bm3 g a b ha hb;unfold C_f9 cq3 ao8;cases q:g.wish_ranks.get (a :: b :: t) with
 |none=>simp[aY9,aY8,aY7,aq7,aY6,e,q,at0,at1,hk]
 |some v=>simp[aY9,aY8,aY7,aq7,aY6,e,q]
theorem ct2(g:GuildT)(r:List Int)(hr:RoadOk g.house_count r)(h1:g.house_count≤1000):(bN4 g r).res= .ok (ai6 g.likings g.wish_ranks r):=by
 have e:=cd8 g r hr h1;unfold bN4 bA7 ai6
 first | unfold be5 | skip
 simp[e,Int.zero_sub]
theorem cd6(g:GuildT)(r:List Int)(v:Int)(hr:RoadOk g.house_count r)(h1:g.house_count≤1000)(hl:g.wish_ranks.length < aa6):C_m9 g r v= .ok () ⟨{ g with wish_ranks:=g.wish_ranks.put r v },r,v⟩:=by
 have e:=bm2 g r hr h1;unfold C_m9 cp7;simp[by5,by4,e,hl]
theorem bm4(g:GuildT)(a b:Int)(ha:0≤a∧a < g.house_count)(hb:0≤b∧b < g.house_count)(hne:a≠b)(hw:g.ways.get [a,b]=none)(hl:g.ways.length + 1 < aa6):C_c9 g a b= .ok () ⟨{ g with ways:=(g.ways.put [a,b] true).put [b,a] true },a,b⟩:=by
 have e:=ct0 g a b ha hb hne;have l1:g.ways.length < aa6:=by omega
 have l2:(g.ways.put [a,b] true).length < aa6:=Nat.lt_of_le_of_lt cf5 hl;unfold C_c9 cq6;simp[bA1,bA0,bz9,bz8,e,hw,l1,l2]
theorem cl9{β:Type}{F:DI β}(hn:DI.nd F){k:List Int}(hk:k∈F.map (·.1)):∃ v,F.get k=some v∧(k,v)∈F:=by
 obtain⟨p,hp,rfl⟩:=List.mem_map.mp hk;exact⟨p.2,an9 hn hp,hp⟩
theorem aU5{β:Type}{F:DI β}{k:List Int}(hk:k∉F.map (·.1)):F.get k=none:=by
 cases q:F.get k with
 |none=>rfl
 |some v=>exact absurd (List.mem_map.mpr ⟨(k,v),aI4 q,rfl⟩) hk
structure Wf (sz:Int) (g:GuildT):Prop where
 count:g.house_count=sz
 ways:DI.nd g.ways∧∀ p∈g.ways,PairOk sz p.1
 lik:DI.nd g.likings∧∀ p∈g.likings,PairOk sz p.1
 shn:DI.nd g.shuns∧∀ p∈g.shuns,PairOk sz p.1
 wsh:DI.nd g.wish_ranks∧∀ p∈g.wish_ranks,RoadOk sz p.1
theorem cB5{β:Type}{F:DI β}{k:List Int}(h:DI.nd F):DI.nd (F.del k):=by
 unfold DI.nd DI.del at *;exact h.sublist (List.Sublist.map _ List.filter_sublist)
theorem br5{β:Type}{F:DI β}{k:List Int}{p:List Int×β}(h:p∈F.del k):p∈F:=(List.mem_filter.mp h).1
theorem Wf.lay{sz:Int}{g:GuildT}(h:Wf sz g){a b:Int}(ha:0≤a∧a < sz)(hb:0≤b∧b < sz):Wf sz { g with ways:=(g.ways.put [a,b] true).put [b,a] true }:=
 ⟨h.count,⟨aE5 (aE5 h.ways.1),at6 (P:=PairOk sz) (at6 (P:=PairOk sz) h.ways.2 ⟨a,b,rfl,ha.1,ha.2,hb.1,hb.2⟩) ⟨b,a,rfl,hb.1,hb.2,ha.1,ha.2⟩⟩,h.lik,h.shn,h.wsh⟩
theorem Wf.wish{sz:Int}{g:GuildT}(h:Wf sz g){k:List Int}(v:Int)(hk:RoadOk sz k):Wf sz { g with wish_ranks:=g.wish_ranks.put k v }:=
 ⟨h.count,h.ways,h.lik,h.shn,⟨aE5 h.wsh.1,at6 (P:=RoadOk sz) h.wsh.2 hk⟩⟩
theorem Wf.new{sz:Int}:Wf sz ⟨sz,[],[],[],[]⟩:=⟨rfl,⟨by unfold DI.nd; simp,by simp⟩,⟨by unfold DI.nd; simp,by simp⟩,⟨by unfold DI.nd; simp,by simp⟩,⟨by unfold DI.nd; simp,by simp⟩⟩
structure PathOk (sz:Int) (r:List Int):Prop where
 ne:r≠[]
 last:r.getLast?=some 0
 nd:r.Nodup
 all:∀ x∈r,0≤x∧x < sz
theorem PathOk.len{sz:Int}{r:List Int}(p:PathOk sz r):(r.length:Int)≤sz:=by
 have:=al4 sz.toNat r p.nd fun x hx=>by have:=p.all x hx; omega
 obtain⟨x,hx⟩:=An9 r p.ne
 have:=p.all x hx
 omega
theorem PathOk.road{sz h:Int}{r:List Int}(p:PathOk sz r)(hh:0≤h∧h < sz)(hn:h∉r):RoadOk sz (h :: r):=by
 obtain⟨q,t,rfl⟩:∃ q t,r=q :: t:=by
  cases r with
  |nil=>exact absurd rfl p.ne
  |cons q t=>exact⟨q,t,rfl⟩
 refine⟨by simp,?_,List.nodup_cons.mpr ⟨hn,p.nd⟩,fun x hx=>?_⟩
 ·rw[List.getLast?_cons_cons]; exact p.last
 · rcases List.mem_cons.mp hx with z | z
   ·rw[z]; exact hh
   ·exact p.all x z
theorem RoadOk.path{sz:Int}{r:List Int}(h:RoadOk sz r):PathOk sz r:=⟨fun z=>by have:=h.two; rw[z] at this; simp at this,h.last,h.nd,h.all⟩
def mayB(sh:Int→Bool)(h:Int)(r:List Int):Bool:=!decide (h∈r) && !r.any sh
def shG(g:GuildT)(h b:Int):Bool:=(g.shuns.get [h,b]).isSome
theorem aF8{α:Type}(f:α→Bool):∀ l:List α,(l.map f).any id=l.any f
 |[]=>rfl
 |a :: l=>by rw[Aa2,Ak4,Ak4,aF8 f l]; rfl
theorem bG2(g:GuildT)(a:Int)(hs:List Int)(h:hs.length < aa6):(C_j9 g a hs).res= .ok (hs.any (shG g a)):=by
 have e:∀ s:S_j9,s=⟨g,a,hs⟩→aB7 (pC fun p=>p.v9q) (fun _=> .ok true) (bnC (dinC false) (unC ap8 (prC (pC fun p=>p.2.v0q) (pC fun p=>p.1))) (unC (fun g=> .ok g.shuns) (pC fun p=>p.2.v27q))) s= .ok (hs.map (shG g a)):=by
  rintro s rfl;exact aJ9 (l:=hs) (shG g a) rfl h fun b _=>by simp[shG]
 unfold C_j9 cp9 by6;simp only[retC,upC,unC];rw[e _ rfl];simp[aF8]
def mayO(sh:Int→Bool)(h:Int)(o:Option (List Int)):Bool:=match o with
 |none=>false
 |some r=>decide (h≠0) && mayB sh h r
theorem ct1(g:GuildT)(h:Int)(o:Option (List Int))(hl:∀ r,o=some r→r.length < aa6):(bD3 g h o).res= .ok (mayO (shG g h) h o):=by
 unfold bD3 bA9 mayO;cases o with
 |none=>simp[as8,ah3]
 |some r=>
   by_cases h0:h=0
   ·simp[as8,ah3,h0]
   · by_cases hm:h∈r
     ·simp[as8,ah3,h0,hm,mayB]
     ·simp[as8,ah3,be7,h0,hm,mayB,bG2 g h r (hl r rfl)]
theorem aS6(h:Int)(ks:List (Int×Int×List Int)):(C_x9 h ks).res= .ok (if h=0 then some [0] else (minK ks).map (·.2.2)):=by
 unfold C_x9 co7;by_cases h0:h=0
 ·simp[aJ2,aA9,h0,aa6]
 · cases q:minK ks with
   |none=>simp[aJ2,aW8,aW7,aq6,h0,q]
   |some k=>simp[aJ2,aW8,aW7,aq6,bx2,h0,q]
theorem aH5:∀ {ks:List (Int×Int×List Int)} {k:Int×Int×List Int},minK ks=some k→k∈ks:=by
 intro ks;cases ks with
 |nil=>intro k h; cases h
 |cons a r=>
   intro k h
   have key:∀ (r:List (Int×Int×List Int)) (a:Int×Int×List Int),r.foldl (fun b x=>if ag8 x b=true then x else b) a∈a :: r:=by
    intro r
    induction r with
    |nil=>intro a; simp
    |cons x r ih=>
      intro a;rw[Ak0]
      have:=ih (if ag8 x a=true then x else a)
      rcases List.mem_cons.mp this with z | z
      · rw[z]; split
        ·simp
        ·simp
      ·exact Aa4 _ (Aa4 _ z)
   injection h with h
   rw[← h]; exact key r a
def ag9(sz:Int)(P:DI Bool)(a:Int):List Int:=(rngI 0 sz).filter fun b=>(P.get [a,b]).isSome
theorem bm1(g:GuildT)(P:DI Bool)(a:Int)(h0:0≤g.house_count)(h1:g.house_count≤1000):(C_b9 g P a).res= .ok (ag9 g.house_count P a):=by
 have e:∀ s:S_b9,s=⟨g,P,a⟩→aB7 (unC (rngC 0) (unC (fun g=> .ok g.house_count) (pC fun p=>p.v27q))) (bnC (dinC false) (unC ap8 (prC (pC fun p=>p.2.v0q) (pC fun p=>p.1))) (pC fun p=>p.2.v19q)) (pC fun p=>p.1) s= .ok (ag9 g.house_count P a):=by
  rintro s rfl;rw[bA3 (l:=rngI 0 g.house_count) (fun b=>(P.get [a,b]).isSome) (fun x=>x) (by simp[ay0 (lo:=0) (hi:=g.house_count) (by omega) (by omega) (by omega) (by omega)]) (by rw[an7]; unfold aa6; omega) (fun b _=>by simp) (fun b _ _=>by simp)];simp[ag9]
 unfold C_b9 cq7 bA2;simp only[retC,upC];rw[e _ rfl];rfl
theorem aG6(g:GuildT)(a:Int)(ha:0≤a∧a < g.house_count)(h1:g.house_count≤1000):(C_e9 g a).res= .ok (ag9 g.house_count g.ways a):=by
 have e:=aL3 g [a] (in1 ha) (by omega);have e2:=bm1 g g.ways a (by omega) h1;unfold C_e9 cq4;simp[bz5,bz4,e,e2,aa6]
def ac1(T:List (Option (List Int)))(h:Int):Option (List Int):=T.getD h.toNat none
theorem at_T{T:List (Option (List Int))}{b:Int}(h0:0≤b)(h1:b < T.length):atI T b=some (ac1 T b):=by
 rw[aC2 T h0,List.getElem?_eq_getElem (by omega)];unfold ac1;rw[List.getD_eq_getElem?_getD,List.getElem?_eq_getElem (by omega)];rfl
theorem aO6{T:List (Option (List Int))}{b:Int}{r:List Int}(h:ac1 T b=some r):some r∈T:=by
 unfold ac1 at h;rw[List.getD_eq_getElem?_getD] at h;cases q:T[b.toNat]? with
 |none=>rw[q] at h; cases h
 |some o=>rw[q] at h; have h:o=some r:=h; subst h; exact Ah9 q
structure TableOk (sz:Int) (T:List (Option (List Int))):Prop where
 len:(T.length:Int)=sz
 all:∀ r,some r∈T→PathOk sz r
theorem aE6{sz:Int}{P:DI Bool}{a b:Int}(h:b∈ag9 sz P a):0≤b∧b < sz:=aj1.mp (List.mem_filter.mp h).1
theorem cx0{sz:Int}(h:0 < sz):PathOk sz [0]:=⟨by simp,rfl,by simp,fun x hx=>by rw[List.mem_singleton.mp hx]; omega⟩
theorem TableOk.set{sz:Int}{T:List (Option (List Int))}(h:TableOk sz T)(j:Nat)(o:Option (List Int))(ho:∀ r,o=some r→PathOk sz r):TableOk sz (T.set j o):=⟨by rw[Ad8]; exact h.len,fun r hr=>by
 rcases Ak9 hr with z | z
 ·exact h.all r z
 ·exact ho r z.symm⟩
theorem bG1(x:Int):(bN6 x).res= .ok true:=by
 unfold bN6 bB0 be8;simp
theorem bu0{α β:Type}{f:α→β}:∀ {l:List α},(l.map f).Nodup→∀ a∈l,∀ b∈l,f a=f b→a=b
 |[],_,a,ha,_,_,_=>by cases ha
 | x :: l,h,a,ha,b,hb,e=>by
   rw[Aa2,An3] at h;rcases List.mem_cons.mp ha with z | z <;> rcases List.mem_cons.mp hb with w | w
   ·rw[z,w]
   ·subst z; exact(h.1 (List.mem_map.mpr ⟨b,w,e.symm⟩)).elim
   ·subst w; exact(h.1 (List.mem_map.mpr ⟨a,z,e⟩)).elim
   ·exact bu0 h.2 a z b w e
theorem aE2{S:List (List Int)}(hS:(S.map aj5).Nodup){ks:List (List Int)}(hk:ks.Nodup)(h:∀ k∈ks,k∈S):(ks.map aj5).Nodup:=by
 unfold List.Nodup;rw[List.pairwise_map];refine List.Pairwise.imp_of_mem ?_ hk;intro a b ha hb hne e;exact hne (bu0 hS a (h a ha) b (h b hb) e)
def bS1(n:Int):List (List Int):=(rngI 0 n).flatMap fun x=>(rngI 0 n).map fun y=>[x,y]
theorem br4{n:Int}{k:List Int}(h:PairOk n k):k∈bS1 n:=by
 obtain⟨a,b,rfl,h1,h2,h3,h4⟩:=h;exact List.mem_flatMap.mpr ⟨a,aj1.mpr ⟨h1,h2⟩,List.mem_map.mpr ⟨b,aj1.mpr ⟨h3,h4⟩,rfl⟩⟩
theorem PairOk.mono{m n:Int}(hmn:m≤n){k:List Int}(h:PairOk m k):PairOk n k:=by
 obtain⟨a,b,rfl,h1,h2,h3,h4⟩:=h;exact⟨a,b,rfl,h1,by omega,h3,by omega⟩
theorem bq1{sz:Int}(h60:sz≤60){ks:List (List Int)}(nd:ks.Nodup)(h:∀ k∈ks,PairOk sz k):ks.length≤3600:=by
 have:=al4 3600 (ks.map fun k=>k.getD 0 0 * 60 + k.getD 1 0) (by
  unfold List.Nodup;rw[List.pairwise_map];refine List.Pairwise.imp_of_mem ?_ nd;intro p q hp hq hne e;obtain⟨a,b,rfl,h1,h2,h3,h4⟩:=h p hp;obtain⟨c,d,rfl,h5,h6,h7,h8⟩:=h q hq;simp at e;have e1:a=c:=by omega
  have e2:b=d:=by omega
  rw[e1,e2] at hne;exact hne rfl) (fun x hx=>by
  obtain⟨k,hk,rfl⟩:=List.mem_map.mp hx;obtain⟨a,b,rfl,h1,h2,h3,h4⟩:=h k hk;simp
  omega)
 rwa [Aa7] at this
theorem al8{β:Type}{sz:Int}(h60:sz≤60){F:DI β}(h:DI.nd F∧∀ q∈F,PairOk sz q.1):F.length≤3600:=by
 have nd:(List.map Prod.fst F).Nodup:=h.1
 have:=bq1 h60 nd fun k hk=>by obtain⟨q,hq,rfl⟩:=List.mem_map.mp hk; exact h.2 q hq
 rwa [Aa7] at this
theorem ci2{β:Type}{F:DI β}{k:List Int}{v:β}{q:List Int×β}(h:q∈F.put k v):q∈F∨q=(k,v):=by
 unfold DI.put at h;split at h
 · obtain⟨p,hp,e⟩:=List.mem_map.mp h;by_cases z:p.1=k
   ·rw[Aa6 z] at e; rw[← e,z]; exact .inr rfl
   ·rw[Aa3 z] at e; rw[← e]; exact .inl hp
 · rcases List.mem_append.mp h with z | z
   ·exact .inl z
   ·exact .inr (List.mem_singleton.mp z)
structure Hs (g:GuildT):Prop where
 ways:((g.ways.map (·.1)).map aj5).Nodup
 lik:((g.likings.map (·.1)).map aj5).Nodup
 shn:((g.shuns.map (·.1)).map aj5).Nodup
 wsh:((g.wish_ranks.map (·.1)).map aj5).Nodup
theorem cr6{σ α:Type}{gt:σ→Option (DI α)}{p:σ→DI α→σ}{c:σ→Res (DI α)}{s:σ}{F:DI α}(h1:gt s=some [])(h2:c s= .ok F)(h3:((F.map (·.1)).map aj5).Nodup):updC gt p c s= .ok () (p s F):=by
 unfold updC;rw[h1];dsimp only;rw[h2];show(if ((F.map (·.1)).map aj5).Nodup then OutC.ok () (p s F) else .bad)=_;rw[if_pos h3]
theorem aG1{σ α β:Type}{gt:σ→Option (DI α)}{p:σ→DI α→σ}{c:σ→Res (DI α)}{s:σ}(F:DI α)(h1:gt s=some [])(h2:c s= .ok F)(h3:((F.map (·.1)).map aj5).Nodup):(ag2 (updC gt p c):σ→FlC σ β) s= .nx (p s F):=by
 unfold ag2;rw[cr6 h1 h2 h3];rfl
theorem cd7{g:GuildT}(h1:1≤g.house_count)(h2:g.house_count≤60)(hs:Hs g):∃ s,C_l9 g= .ok g s:=by
 have e1:aY5 ⟨g,none⟩= .nx ⟨g,some ⟨g.house_count,[],[],[],[]⟩⟩:=by simp[aY5,mk_Guild,h1,h2]
 have e2:aY4 ⟨g,some ⟨g.house_count,[],[],[],[]⟩⟩= .nx ⟨g,some ⟨g.house_count,g.ways,[],[],[]⟩⟩:=by
  unfold aY4; exact aG1 g.ways rfl rfl hs.ways
 have e3:aY3 ⟨g,some ⟨g.house_count,g.ways,[],[],[]⟩⟩= .nx ⟨g,some ⟨g.house_count,g.ways,g.likings,[],[]⟩⟩:=by
  unfold aY3; exact aG1 g.likings rfl rfl hs.lik
 have e4:aY2 ⟨g,some ⟨g.house_count,g.ways,g.likings,[],[]⟩⟩= .nx ⟨g,some ⟨g.house_count,g.ways,g.likings,g.shuns,[]⟩⟩:=by
  unfold aY2; exact aG1 g.shuns rfl rfl hs.shn
 have e5:aY1 ⟨g,some ⟨g.house_count,g.ways,g.likings,g.shuns,[]⟩⟩= .nx ⟨g,some g⟩:=by
  unfold aY1; exact aG1 g.wish_ranks rfl rfl hs.wsh
 unfold C_l9 cp8;simp only[seqC,e1,e2,e3,e4,e5];exact⟨_,rfl⟩
abbrev KeyT:=Int×Int×List Int
def stAt(p:PostT)(h:Int):DJ KeyT:=p.standings.getD h.toNat []
structure PW (sz:Int) (p:PostT):Prop where
 g:Wf sz p.guild
 roads:TableOk sz p.roads
 told:DI.nd p.told_last∧∀ q∈p.told_last,PairOk sz q.1
 wrt:DI.nd p.written_last∧∀ q∈p.written_last,PairOk sz q.1
 lts:DI.nd p.letters∧∀ q∈p.letters,PairOk sz q.1
 ltv:∀ q∈p.letters,∀ r,q.2=some r→PathOk sz r
 sln:(p.standings.length:Int)=sz
 stn:∀ F∈p.standings,DJ.nd F∧∀ q∈F,(0≤q.1∧q.1 < sz)∧PathOk sz q.2.2.2
def ae7(p:PostT)(w r:Int):PostT:=if (p.written_last.get [w,r]).bind id=ac1 p.roads w then p else { p with written_last:=p.written_last.put [w,r] (ac1 p.roads w),letters:=p.letters.put [w,r] (ac1 p.roads w) }
theorem bG0{sz:Int}{p:PostT}(P:PW sz p)(h60:sz≤60)(w r:Int)(hw:0≤w∧w < sz):∃ o,C_v9 p w r= .ok () ⟨ae7 p w r,w,r,o⟩:=by
 have at0:atI p.roads w=some (ac1 p.roads w):=at_T hw.1 (by have:=P.roads.len; omega);have e1:aX0 ⟨p,w,r,none⟩= .nx ⟨p,w,r,some (ac1 p.roads w)⟩:=by simp[aX0,at0]
 have l1:=al8 h60 P.wrt;have l2:=al8 h60 P.lts;refine⟨some (ac1 p.roads w),?_⟩;unfold C_v9 co9 ae7;simp only[seqC,e1];by_cases q:(p.written_last.get [w,r]).bind id=ac1 p.roads w
 ·rw[Aa6 q];simp[aW9,aB1,q]
 · rw[if_neg q];have z1:p.written_last.length < aa6:=by unfold aa6; omega
   have z2:p.letters.length < aa6:=by unfold aa6; omega
   simp[aW9,bx5,bx4,q,z1,z2]
theorem PW.write{sz:Int}{p:PostT}(P:PW sz p){w r:Int}(hw:0≤w∧w < sz)(hr:0≤r∧r < sz):PW sz (ae7 p w r):=by
 unfold ae7;split
 ·exact P
 · have k:PairOk sz [w,r]:=⟨w,r,rfl,hw.1,hw.2,hr.1,hr.2⟩;refine⟨P.g,P.roads,P.told,⟨aE5 P.wrt.1,at6 (P:=PairOk sz) P.wrt.2 k⟩,⟨aE5 P.lts.1,at6 (P:=PairOk sz) P.lts.2 k⟩,fun q hq r e=>?_,P.sln,P.stn⟩;rcases ci2 hq with z | z
   ·exact P.ltv q z r e
   ·subst z; exact P.roads.all r (aO6 e)
theorem aR0(p:PostT)(w r:Int):(ae7 p w r).guild=p.guild:=by unfold ae7; split <;> rfl
theorem ax2(p:PostT)(w r:Int):(ae7 p w r).roads=p.roads:=by unfold ae7; split <;> rfl
theorem bk2(p:PostT)(w r:Int):(ae7 p w r).standings=p.standings:=by unfold ae7; split <;> rfl
theorem bg2(p:PostT)(w r:Int):(ae7 p w r).told_last=p.told_last:=by unfold ae7; split <;> rfl
def writeAll(p:PostT)(w:Int):PostT:=(ag9 p.guild.house_count p.guild.ways w).foldl (fun p r=>ae7 p w r) p
theorem ao0{α β:Type}{f:β→α→β}(R:β→Prop):∀ (l:List α) (b:β),R b→(∀ b a,a∈l→R b→R (f b a))→R (l.foldl f b)
 |[],_,h,_=>h
 |a :: l,b,h,st=>ao0 R l (f b a) (st b a Aa5 h) fun b c hc=>st b c (Aa4 _ hc)
theorem PW.writeAll{sz:Int}{p:PostT}(P:PW sz p){w:Int}(hw:0≤w∧w < sz):PW sz (writeAll p w):=by
 unfold K20.writeAll;exact ao0 (PW sz) _ p P fun b a ha Q=>Q.write hw (by rw[P.g.count] at ha; exact aE6 ha)
theorem aF9(p:PostT)(w:Int):(writeAll p w).guild=p.guild:=ao0 (fun q=>q.guild=p.guild) _ p rfl fun b a _ h=>(aR0 b w a).trans h
theorem bD6(p:PostT)(w:Int):(writeAll p w).roads=p.roads:=ao0 (fun q=>q.roads=p.roads) _ p rfl fun b a _ h=>(ax2 b w a).trans h
theorem cr4(p:PostT)(w:Int):(writeAll p w).standings=p.standings:=ao0 (fun q=>q.standings=p.standings) _ p rfl fun b a _ h=>(bk2 b w a).trans h
theorem bU6(p:PostT)(w:Int):(writeAll p w).told_last=p.told_last:=ao0 (fun q=>q.told_last=p.told_last) _ p rfl fun b a _ h=>(bg2 b w a).trans h
theorem ax6{sz:Int}{p:PostT}(P:PW sz p)(h60:sz≤60)(w:Int)(hw:0≤w∧w < sz):∃ o,C_w9 p w= .ok () ⟨writeAll p w,w,o⟩:=by
 have nb:=aG6 p.guild w (by rw[P.g.count]; exact hw) (by rw[P.g.count]; omega)
 obtain⟨s',e,o,rfl,_⟩:=az9 (u:=fun a s=>{ s with v22q:=some a }) (c:=aB0) (fun (q:PostT) (s:S_w9)=>∃ o,s=⟨q,w,o⟩∧PW sz q) (fun q r=>ae7 q w r) (ag9 p.guild.house_count p.guild.ways w) p ⟨p,w,none⟩ ⟨none,rfl,P⟩ (by
  rintro q r s hr ⟨o,rfl,Q⟩;obtain⟨o2,e2⟩:=bG0 Q h60 w r hw
  exact⟨⟨ae7 q w r,w,some r⟩,.inl (by simp[aB0,e2]),some r,rfl,Q.write hw (by rw[P.g.count] at hr; exact aE6 hr)⟩)
 refine⟨o,?_⟩;unfold C_w9 co8 bx3 writeAll;simp[nb,e]
def ag6(h:Int)(F:DJ KeyT):Option (List Int):=if h=0 then some [0] else (minK (F.map (·.2))).map (·.2.2)
def ah7(p:PostT)(h:Int):Bool×PostT:=if ag6 h (stAt p h)=ac1 p.roads h then (false,p) else (true,writeAll { p with roads:=p.roads.set h.toNat (ag6 h (stAt p h)) } h)
theorem bF8{p:PostT}{h:Int}(h0:0≤h)(h1:h < p.standings.length):p.standings[h.toNat]?=some (stAt p h):=by
 unfold stAt;rw[List.getD_eq_getElem?_getD,List.getElem?_eq_getElem (by omega)];rfl
theorem aF7{sz h:Int}{F:DJ KeyT}(h0:0 < sz)(hF:∀ q∈F,PathOk sz q.2.2.2){r:List Int}(e:ag6 h F=some r):PathOk sz r:=by
 unfold ag6 at e;split at e
 ·cases e; exact cx0 h0
 ·obtain⟨k,hk,rfl⟩:=Option.map_eq_some_iff.mp e;obtain⟨q,hq,rfl⟩:=List.mem_map.mp (aH5 hk);exact hF q hq
theorem PW.st{sz:Int}{p:PostT}(P:PW sz p){h:Int}(hh:0≤h∧h < sz):DJ.nd (stAt p h)∧∀ q∈stAt p h,(0≤q.1∧q.1 < sz)∧PathOk sz q.2.2.2:=
 P.stn _ (Ah9 (bF8 hh.1 (by have:=P.sln; omega)))
theorem PW.set{sz:Int}{p:PostT}(P:PW sz p)(j:Nat)(o:Option (List Int))(ho:∀ r,o=some r→PathOk sz r):PW sz { p with roads:=p.roads.set j o }:=⟨P.g,P.roads.set j o ho,P.told,P.wrt,P.lts,P.ltv,P.sln,P.stn⟩
theorem PW.choose{sz:Int}{p:PostT}(P:PW sz p)(h0:0 < sz){h:Int}(hh:0≤h∧h < sz):PW sz (ah7 p h).2:=by
 unfold ah7;split
 ·exact P
 ·exact(P.set _ _ fun r e=>aF7 h0 (fun q hq=>((P.st hh).2 q hq).2) e).writeAll hh
theorem bm5{sz:Int}{p:PostT}(P:PW sz p)(h60:sz≤60)(h:Int)(hh:0≤h∧h < sz):∃ o,C_q9 p h= .ok (ah7 p h).1 ⟨(ah7 p h).2,h,o⟩:=by
 have at0:atI p.roads h=some (ac1 p.roads h):=at_T hh.1 (by have:=P.roads.len; omega);have st0:p.standings[h.toNat]?=some (stAt p h):=bF8 hh.1 (by have:=P.sln; omega);have b:=aS6 h ((stAt p h).map (·.2))
 have e1:aX6 ⟨p,h,none⟩= .nx ⟨p,h,some (ag6 h (stAt p h))⟩:=by
  simp[aX6,hh.1,st0,b,ag6]
 unfold C_q9 cp4 ah7;simp only[seqC,e1];by_cases q:ag6 h (stAt p h)=ac1 p.roads h
 ·rw[Aa6 q];exact⟨some (ag6 h (stAt p h)),by simp[aX5,aB4,at0,q]⟩
 ·rw[Aa3 q];have ix:ixN p.roads.length h=some h.toNat:=cG6 hh.1 (by have:=P.roads.len; omega);have P2:=P.set h.toNat (ag6 h (stAt p h)) fun r e=>aF7 (sz:=sz) (by omega) (fun q hq=>((P.st hh).2 q hq).2) e;obtain⟨o,e4⟩:=ax6 P2 h60 h hh;exact⟨some (ag6 h (stAt p h)),by simp[aX5,by1,by0,bx9,at0,q,ix,e4]⟩
def aU4(g:GuildT)(F:DJ KeyT)(w r:Int)(o:Option (List Int)):DJ KeyT:=if mayO (shG g r) r o=true then DJ.put F w (ai6 g.likings g.wish_ranks (r :: o.getD [])) else DJ.del F w
def bu4(p:PostT)(w r:Int)(o:Option (List Int)):PostT:={ p with told_last:=p.told_last.put [w,r] o,standings:=p.standings.set r.toNat (aU4 p.guild (stAt p r) w r o) }
theorem bw3{β:Type}{F:DJ β}{k:Int}(h:DJ.get F k=none):DJ.del F k=F:=by
 unfold DJ.get at h;unfold DJ.del;rw[Option.map_eq_none_iff,List.find?_eq_none] at h;rw[List.filter_eq_self];exact fun p hp=>by simpa using h p hp
theorem bJ4{β:Type}{F:DJ β}{k:Int}{v:β}{q:Int×β}(h:q∈DJ.put F k v):q∈F∨q=(k,v):=by
 unfold DJ.put at h;split at h
 · obtain⟨p,hp,e⟩:=List.mem_map.mp h;by_cases z:p.1=k
   ·rw[Aa6 z] at e; rw[← e,z]; exact .inr rfl
   ·rw[Aa3 z] at e; rw[← e]; exact .inl hp
 · rcases List.mem_append.mp h with z | z
   ·exact .inl z
   ·exact .inr (List.mem_singleton.mp z)
theorem bX6{p:PostT}{h:Int}(h0:0≤h)(h1:h < p.standings.length):p.standings.set h.toNat (stAt p h)=p.standings:=by
 refine List.ext_getElem? fun i=>?_;rw[List.getElem?_set];split
 ·rename_i e;subst e;rw[Aa6 (by omega),bF8 h0 h1]
 ·rfl
theorem cm0{σ α β:Type}{g:σ→Option (DJ α)}{p:σ→DJ α→σ}{ck:σ→Res Int}{s:σ}(F:DJ α)(k:Int)(h1:g s=some F)(h2:ck s= .ok k)(h3:p s F=s):(ag2 (bt3 g p ck):σ→FlC σ β) s= .nx (p s (DJ.del F k)):=by
 unfold ag2 bt3;rw[h1];dsimp only;rw[h2];dsimp only[bndO];cases q:DJ.get F k with
 |none=>rw[bw3 q,h3]; rfl
 |some x=>rfl
theorem gI_st{p:PostT}{h:Int}(h0:0≤h)(h1:h < p.standings.length):(if 0≤h then p.standings[h.toNat]? else none)=some (stAt p h):=by rw[Aa6 h0,bF8 h0 h1]
theorem bV3{sz:Int}{F:DJ KeyT}(h60:sz≤60)(h:DJ.nd F∧∀ q∈F,(0≤q.1∧q.1 < sz)∧PathOk sz q.2.2.2):F.length≤60:=by
 have nd:(List.map Prod.fst F).Nodup:=h.1
 have:=al4 60 _ nd fun x hx=>by
  obtain⟨q,hq,rfl⟩:=List.mem_map.mp hx
  have:=(h.2 q hq).1
  omega
 rwa [Aa7] at this
theorem ce1{sz:Int}{p:PostT}(P:PW sz p)(h60:sz≤60)(w r:Int)(hr:0≤r∧r < sz)(o:Option (List Int))(ho:∀ t,o=some t→PathOk sz t):C_s9 p w r o= .ok () ⟨bu4 p w r o,w,r,o⟩:=by
 have l1:=al8 h60 P.told;have z1:p.told_last.length < aa6:=by unfold aa6; omega
 have e1:aX4 ⟨p,w,r,o⟩= .nx ⟨{ p with told_last:=p.told_last.put [w,r] o },w,r,o⟩:=by simp[aX4,z1]
 have hl:r < p.standings.length:=by have:=P.sln; omega
 have gs:=gI_st hr.1 hl;have may:=ct1 p.guild r o fun t e=>by have:=(ho t e).len; unfold aa6; omega
 have lst:=bV3 h60 (P.st hr);have z2:(stAt p r).length < aa6:=by unfold aa6; omega
 unfold C_s9 cp2 bu4 aU4;simp only[seqC,e1];by_cases q:mayO (shG p.guild r) r o=true
 · rw[Aa6 q];cases o with
   |none=>cases q
   |some t=>
     have hp:=ho t rfl
     have hn:r∉t:=by
      have q':mayB (shG p.guild r) r t=true:=by
       unfold mayO at q;revert q;simp
      unfold mayB at q';simp at q';exact q'.1
     have sd:=ct2 p.guild (r :: t) (by rw[P.g.count]; exact hp.road hr hn) (by rw[P.g.count]; omega);have tl:=hp.len;have ct:([r]:List Int).length + t.length≤aa6:=by unfold aa6; simp; omega
     have z3:1≤aa6:=by unfold aa6; omega
     have z4:1 + t.length≤aa6:=by simpa using ct
     simp[aX3,aB2,may,q,z3,z4,sd,gs,z2]
 · rw[Aa3 q];have q':mayO (shG p.guild r) r o=false:=by simpa using q
   have pop:=cm0 (β:=Unit) (g:=gI (fun s:S_s9=>some s.v27q.standings) (fun s=>some s.v22q)) (p:=pI (fun s:S_s9=>some s.v27q.standings) (fun s y=>{ s with v27q:={ s.v27q with standings:=y } }) (fun s=>some s.v22q)) (ck:=pC fun p=>p.v30q) (s:=⟨{ p with told_last:=p.told_last.put [w,r] o },w,r,o⟩) (stAt p r) w gs rfl (by
    show S_s9.mk _ w r o=_
    rw[bX6 hr.1 hl])
   unfold aX3 aB3
   have c1:(upC (pc3C bD3 (unC (fun g=> .ok g.guild) (pC fun p=>p.v27q)) (pC fun p=>p.v22q) (pC fun p=>p.v25q)):S_s9→OutC S_s9 Bool) ⟨{ p with told_last:=p.told_last.put [w,r] o },w,r,o⟩= .ok false ⟨{ p with told_last:=p.told_last.put [w,r] o },w,r,o⟩:=by
    simp[may,q']
   unfold ifC;rw[c1];show runC (some ()) ((ag2 _:S_s9→FlC S_s9 Unit) _)=_;rw[pop];rfl
theorem PW.hear{sz:Int}{p:PostT}(P:PW sz p){w r:Int}(hw:0≤w∧w < sz)(hr:0≤r∧r < sz)(o:Option (List Int))(ho:∀ t,o=some t→PathOk sz t):PW sz (bu4 p w r o):=by
 have k:PairOk sz [w,r]:=⟨w,r,rfl,hw.1,hw.2,hr.1,hr.2⟩;refine⟨P.g,P.roads,⟨aE5 P.told.1,at6 (P:=PairOk sz) P.told.2 k⟩,P.wrt,P.lts,P.ltv,by show((p.standings.set _ _).length:Int)=sz; rw[Ad8]; exact P.sln,fun F hF=>?_⟩;rcases Ak9 hF with z | z
 ·exact P.stn F z
 · subst z;unfold aU4;split
   · rename_i q;cases o with
     |none=>cases q
     |some t=>
       have hp:=ho t rfl
       have hn:r∉t:=by
        have q':mayB (shG p.guild r) r t=true:=by
         unfold mayO at q;revert q;simp
        unfold mayB at q';simp at q';exact q'.1
       refine⟨ch8 (P.st hr).1,fun q hq=>?_⟩;rcases bJ4 hq with z | z
       ·exact(P.st hr).2 q z
       ·subst z;exact⟨hw,(hp.road hr hn).path⟩
   ·exact⟨ch9 (P.st hr).1,fun q hq=>(P.st hr).2 q (List.mem_filter.mp hq).1⟩
def am1(p:PostT)(a b:Int):Bool×PostT:=ah7 (bu4 { p with letters:=p.letters.del [a,b] } a b ((p.letters.get [a,b]).bind id)) b
theorem PW.del{sz:Int}{p:PostT}(P:PW sz p)(k:List Int):PW sz { p with letters:=p.letters.del k }:=⟨P.g,P.roads,P.told,P.wrt,⟨cB5 P.lts.1,fun q hq=>P.lts.2 q (br5 hq)⟩,fun q hq=>P.ltv q (br5 hq),P.sln,P.stn⟩
theorem PW.pair{sz:Int}{p:PostT}(P:PW sz p){a b:Int}{o:Option (List Int)}(h:p.letters.get [a,b]=some o):(0≤a∧a < sz)∧(0≤b∧b < sz)∧∀ t,o=some t→PathOk sz t:=by
 have hm:=aI4 h;obtain⟨x,y,e,h1,h2,h3,h4⟩:=P.lts.2 _ hm;injection e with e1 e2
 injection e2 with e2
 subst e1 e2;exact⟨⟨h1,h2⟩,⟨h3,h4⟩,fun t e=>P.ltv _ hm t e⟩
theorem PW.carry{sz:Int}{p:PostT}(P:PW sz p)(h0:0 < sz){a b:Int}{o:Option (List Int)}(h:p.letters.get [a,b]=some o):PW sz (am1 p a b).2:=by
 obtain⟨ha,hb,ho⟩:=P.pair h;unfold am1;rw[h];exact((P.del [a,b]).hear ha hb o ho).choose h0 hb
theorem aZ8{sz:Int}{p:PostT}(P:PW sz p)(h60:sz≤60){a b:Int}{o:Option (List Int)}(h:p.letters.get [a,b]=some o):C_o9 p a b= .ok (am1 p a b).1 ⟨(am1 p a b).2,a,b⟩:=by
 obtain⟨ha,hb,ho⟩:=P.pair h;have rq:=aL3 p.guild [a,b] (by rw[P.g.count]; exact in2 ha hb) (by rw[P.g.count]; omega);have z2:2≤aa6:=by unfold aa6; omega
 have e1:aY0 ⟨p,a,b⟩= .nx ⟨p,a,b⟩:=by simp[aY0,rq,z2]
 have e2:aX9 ⟨p,a,b⟩= .nx ⟨p,a,b⟩:=by simp[aX9,h]
 have hr:=ce1 (P.del [a,b]) h60 a b hb o ho;have e3:aX8 ⟨p,a,b⟩= .nx ⟨bu4 { p with letters:=p.letters.del [a,b] } a b o,a,b⟩:=by simp[aX8,h,hr]
 obtain⟨o2,ch⟩:=bm5 ((P.del [a,b]).hear ha hb o ho) h60 b hb;unfold C_o9 cp6 am1;rw[h];simp only[seqC,e1,e2,e3];simp[by3,ch]
def ap9(p:PostT):PostT:=match p.letters with
 |[]=>p
 |q :: _=>(am1 p (q.1.getD 0 0) (q.1.getD 1 0)).2
theorem PW.first{sz:Int}{p:PostT}(P:PW sz p){q:List Int×Option (List Int)}{t:DI (Option (List Int))}(e:p.letters=q :: t):∃ a b,q.1=[a,b]∧p.letters.get [a,b]=some q.2:=by
 have hm:q∈p.letters:=by rw[e]; exact Aa5
 obtain⟨a,b,ek,_⟩:=P.lts.2 q hm;exact⟨a,b,ek,an9 P.lts.1 (by rw[← ek]; exact hm)⟩
theorem PW.next{sz:Int}{p:PostT}(P:PW sz p)(h0:0 < sz):PW sz (ap9 p):=by
 unfold ap9;cases e:p.letters with
 |nil=>exact P
 |cons q t=>
   obtain⟨a,b,ek,hg⟩:=P.first e;dsimp only;rw[ek];exact P.carry h0 hg
theorem ce0{sz:Int}{p:PostT}(P:PW sz p)(h60:sz≤60)(hne:p.letters≠[]):∃ b o,C_p9 p= .ok b ⟨ap9 p,o⟩:=by
 cases e:p.letters with
 |nil=>exact absurd e hne
 |cons q t=>
   obtain⟨a,b,ek,hg⟩:=P.first e
   have f1:(C_r9 p).res= .ok [a,b]:=by
    unfold C_r9 cp3;simp[bx8,e,ek]
   have e1:aX7 ⟨p,none⟩= .nx ⟨p,some [a,b]⟩:=by simp[aX7,f1]
   have cr:=aZ8 P h60 hg;refine⟨(am1 p a b).1,some [a,b],?_⟩;unfold C_p9 cp5 ap9;rw[e];dsimp only;rw[ek];simp only[seqC,e1];simp[by2,at0,at1,cr]
def ad6:Nat→PostT→Nat×PostT
 |0,p=>(0,p)
 |n + 1,p=>if p.letters=[] then (0,p) else ((ad6 n (ap9 p)).1 + 1,(ad6 n (ap9 p)).2)
theorem ax7{sz:Int}(h0:0 < sz)(h60:sz≤60)(most:Int):∀ (n fuel:Nat) (c:Int) (p:PostT),PW sz p→n < fuel→c + n=most→
 whC (upC (andC (bnC ltC (vC fun p:S_t9=>p.v3q) (pC fun p=>p.v14q)) (bnC gtC (unC bJ9 (unC (fun g=> .ok g.letters) (pC fun p=>p.v27q))) (kC (0:Int))))) aK0 fuel ⟨p,most,some c⟩= .nx ⟨(ad6 n p).2,most,some (c + (ad6 n p).1)⟩
 |n,0,c,p,P,hf,hc=>absurd hf (Ar4 _)
 | 0,f + 1,c,p,P,hf,hc=>by
   have:¬ c < most:=by omega
   unfold whC;simp[this,ad6]
 | n + 1,f + 1,c,p,P,hf,hc=>by
   have lt:c < most:=by omega
   unfold whC ad6;by_cases q:p.letters=[]
   ·rw[Aa6 q];simp[lt,q]
   · rw[Aa3 q]
     have hl:0 < p.letters.length:=by
      cases e:p.letters with
      |nil=>exact absurd e q
      |cons _ _=>simp
     obtain⟨b,o,nx⟩:=ce0 P h60 q;have ih:=ax7 h0 h60 most n f (c + 1) (ap9 p) (P.next h0) (by omega) (by omega)
     have bd:aK0 ⟨p,most,some c⟩= .nx ⟨ap9 p,most,some (c + 1)⟩:=by
      unfold aK0;simp[aP6,aP5,nx]
     have ts:(upC (andC (bnC ltC (vC fun p:S_t9=>p.v3q) (pC fun p=>p.v14q)) (bnC gtC (unC bJ9 (unC (fun g=> .ok g.letters) (pC fun p=>p.v27q))) (kC (0:Int))))) ⟨p,most,some c⟩= .ok true (⟨p,most,some c⟩:S_t9):=by
      have:(0:Int) < p.letters.length:=by omega
      simp[lt,hl]
     rw[ts];dsimp only;rw[bd];dsimp only;rw[ih]
     have:c + 1 + ((ad6 n (ap9 p)).1:Int)=c + (((ad6 n (ap9 p)).1 + 1:Nat):Int):=by omega
     rw[this]
theorem bm0{sz:Int}{p:PostT}(P:PW sz p)(h0:0 < sz)(h60:sz≤60)(n:Nat)(hn:n < 1000):C_t9 p n= .ok ((ad6 n p).1:Int) ⟨(ad6 n p).2,n,some ((ad6 n p).1:Int)⟩:=by
 have lp:=ax7 h0 h60 n n 100000 0 p P (by omega) (by omega);rw[Int.zero_add] at lp;unfold C_t9 cp1;have e1:aX2 ⟨p,n,none⟩= .nx ⟨p,n,some 0⟩:=by simp[aX2]
 have e2:aX1 ⟨p,n,some 0⟩= .nx ⟨(ad6 n p).2,n,some ((ad6 n p).1:Int)⟩:=by unfold aX1; exact lp
 simp only[seqC,e1,e2];simp[bx7]
theorem PW.settle{sz:Int}(h0:0 < sz):∀ (n:Nat) {p:PostT},PW sz p→PW sz (ad6 n p).2
 |0,p,P=>P
 | n + 1,p,P=>by
   unfold ad6;split
   ·exact P
   ·exact PW.settle h0 n (P.next h0)
theorem sp_y9(o:Option (List Int)):(C_y9 o).res= .ok o:=by
 unfold C_y9 co6;cases o with
 |none=>simp[aW6,aA8]
 |some r=>simp[aW6,bx1]
def ah0(p:PostT):List (Int×Int×Option (List Int)):=p.letters.map fun q=>(q.1.getD 0 0,q.1.getD 1 0,q.2)
theorem at5{sz:Int}{p:PostT}(P:PW sz p)(h60:sz≤60):(C_u9 p).res= .ok (ah0 p):=by
 have l2:=al8 h60 P.lts
 have c:=aJ9 (σ:=S_u9) (src:=unC cl8 (unC (fun g=> .ok g.letters) (pC fun p=>p.v27q))) (te:=prC (bnC ixC (pC fun p=>p.1) (kC (0:Int))) (prC (bnC ixC (pC fun p=>p.1) (kC (1:Int))) (pc1C C_y9 (bnC dgC (unC (fun g=> .ok g.letters) (pC fun p=>p.2.v27q)) (pC fun p=>p.1))))) (s:=⟨p⟩) (l:=p.letters.map (·.1)) (fun k=>(k.getD 0 0,k.getD 1 0,(p.letters.get k).bind id)) rfl (by rw[List.length_map]; unfold aa6; omega) (fun k hk=>by
  obtain⟨v,hv,hm⟩:=cl9 P.lts.1 hk;obtain⟨a,b,e,_⟩:=P.lts.2 _ hm;have e:k=[a,b]:=e;subst e
  simp[at0,at1,hv,sp_y9])
 unfold C_u9 cp0 bx6;simp only[retC,upC,c];simp only[bdS,runC,cv7];congr 1;unfold ah0;rw[List.map_map];refine List.map_congr_left fun q hq=>?_
 have:=an9 P.lts.1 (show(q.1,q.2)∈p.letters from hq)
 show(q.1.getD 0 0,q.1.getD 1 0,(p.letters.get q.1).bind id)=_;rw[this];rfl
theorem bD5{p:PostT}:ah0 p=[]↔p.letters=[]:=by unfold ah0; exact List.map_eq_nil_iff
theorem aP8(p:PostT)(h:Int):(ah7 p h).2.guild=p.guild:=by
 unfold ah7;split
 ·rfl
 ·exact aF9 _ _
theorem aB8(p:PostT)(a b:Int):(am1 p a b).2.guild=p.guild:=by unfold am1; rw[aP8]; rfl
theorem PW.guild{sz:Int}{p:PostT}(P:PW sz p){g:GuildT}(hg:Wf sz g):PW sz { p with guild:=g }:=⟨hg,P.roads,P.told,P.wrt,P.lts,P.ltv,P.sln,P.stn⟩
theorem aO1{α:Type}(n k:Nat)(d:α):(List.replicate n d).getD k d=d:=by
 rw[Ab0,Ai9];split <;> rfl
theorem PW.new{g:GuildT}{sz:Int}(h:Wf sz g)(h1:1≤sz):PW sz (ak0 g sz.toNat):=by
 refine⟨h,⟨?_,fun r hr=>?_⟩,⟨by unfold DI.nd; exact List.Pairwise.nil,fun q hq=>(nomatch hq)⟩,⟨by unfold DI.nd; exact List.Pairwise.nil,fun q hq=>(nomatch hq)⟩,⟨by unfold DI.nd; exact List.Pairwise.nil,fun q hq=>(nomatch hq)⟩,fun q hq=>(nomatch hq),?_,fun F hF=>?_⟩
 ·show(((List.replicate sz.toNat none).set 0 (some [0])).length:Int)=sz;rw[Ad8,Ah8]; omega
 · rcases Ak9 hr with z | z
   ·have:=(List.mem_replicate.mp z).2; cases this
   ·cases z; exact cx0 (by omega)
 ·show((List.replicate sz.toNat ([]:DJ KeyT)).length:Int)=sz;rw[Ah8]; omega
 · have:=(List.mem_replicate.mp hF).2
   subst this;exact⟨by unfold DJ.nd; exact List.Pairwise.nil,fun q hq=>(nomatch hq)⟩
def newP(g:GuildT):PostT:=writeAll (ak0 g g.house_count.toNat) 0
theorem cd9{g:GuildT}{sz:Int}(h:Wf sz g)(hs:Hs g)(h1:1≤sz)(h60:sz≤60):mk_Post g= .ok (newP g):=by
 have hc:=h.count;obtain⟨s,tw⟩:=cd7 (by omega) (by omega) hs;have P:=PW.new h h1;obtain⟨o,wa⟩:=ax6 P h60 0 (by omega);unfold mk_Post newP;rw[tw];dsimp only;rw[if_pos (by omega),hc,wa]
theorem br1(g:GuildT):(newP g).guild=g:=by unfold newP; exact aF9 _ _
def aK6(p:PostT)(w r:Int):Option (List Int):=(p.told_last.get [w,r]).bind id
def wrtO(p:PostT)(w r:Int):Option (List Int):=(p.written_last.get [w,r]).bind id
abbrev nb(p:PostT)(w r:Int):Prop:=(p.guild.ways.get [w,r]).isSome=true
def keyT(g:GuildT)(r:Int)(o:Option (List Int)):Option KeyT:=if mayO (shG g r) r o=true then some (ai6 g.likings g.wish_ranks (r :: o.getD [])) else none
structure Mid (sz b:Int) (p:PostT):Prop where
 pw:PW sz p
 wrt:∀ w r,nb p w r→wrtO p w r=ac1 p.roads w
 lts:∀ w r o,p.letters.get [w,r]=some o→nb p w r∧o=ac1 p.roads w
 told:∀ w r,nb p w r→p.letters.get [w,r]=none→aK6 p w r=ac1 p.roads w
 tnb:∀ w r t,aK6 p w r=some t→nb p w r
 stn:∀ r w,0≤r∧r < sz→DJ.get (stAt p r) w=keyT p.guild r (aK6 p w r)
 best:∀ h,0≤h∧h < sz→h≠b→ac1 p.roads h=ag6 h (stAt p h)
structure Live (sz:Int) (p:PostT):Prop where
 mid:Mid sz (-1) p
 all:∀ h,0≤h∧h < sz→ac1 p.roads h=ag6 h (stAt p h)
theorem PW.nb_in{sz:Int}{p:PostT}(P:PW sz p){w r:Int}(h:nb p w r):(0≤w∧w < sz)∧(0≤r∧r < sz):=by
 unfold nb at h;cases q:p.guild.ways.get [w,r] with
 |none=>rw[q] at h; cases h
 |some v=>
   obtain⟨x,y,e,h1,h2,h3,h4⟩:=P.g.ways.2 _ (aI4 q);injection e with e1 e2
   injection e2 with e2
   subst e1 e2;exact⟨⟨h1,h2⟩,h3,h4⟩
theorem aM7{p:PostT}{w y:Int}:y∈ag9 p.guild.house_count p.guild.ways w↔(0≤y∧y < p.guild.house_count)∧nb p w y:=by
 unfold ag9 nb;rw[List.mem_filter,aj1]
theorem aD6(p:PostT)(w r:Int)(k:List Int):(ae7 p w r).written_last.get k=if k=[w,r]∧wrtO p w r≠ac1 p.roads w then some (ac1 p.roads w) else p.written_last.get k:=by
 unfold ae7 wrtO;by_cases q:(p.written_last.get [w,r]).bind id=ac1 p.roads w
 ·rw[Aa6 q,Aa3 fun z=>z.2 q]
 · rw[Aa3 q];show(p.written_last.put [w,r] _).get k=_;rw[az6];by_cases z:k=[w,r]
   ·rw[Aa6 z,Aa6 ⟨z,q⟩]
   ·rw[Aa3 z,Aa3 fun y=>z y.1]
theorem bg3(p:PostT)(w r:Int)(k:List Int):(ae7 p w r).letters.get k=if k=[w,r]∧wrtO p w r≠ac1 p.roads w then some (ac1 p.roads w) else p.letters.get k:=by
 unfold ae7 wrtO;by_cases q:(p.written_last.get [w,r]).bind id=ac1 p.roads w
 ·rw[Aa6 q,Aa3 fun z=>z.2 q]
 · rw[Aa3 q];show(p.letters.put [w,r] _).get k=_;rw[az6];by_cases z:k=[w,r]
   ·rw[Aa6 z,Aa6 ⟨z,q⟩]
   ·rw[Aa3 z,Aa3 fun y=>z y.1]
theorem aF2(w:Int):∀ (l:List Int) (p:PostT),l.Nodup→(∀ y∈l,wrtO p w y≠ac1 p.roads w)→∀ x y,
 (l.foldl (fun p r=>ae7 p w r) p).written_last.get [x,y]=(if x=w∧y∈l then some (ac1 p.roads w) else p.written_last.get [x,y])∧(l.foldl (fun p r=>ae7 p w r) p).letters.get [x,y]=(if x=w∧y∈l then some (ac1 p.roads w) else p.letters.get [x,y])
 |[],p,_,_,x,y=>by simp
 | r :: l,p,nd,h,x,y=>by
   have nd':=List.nodup_cons.mp nd;have hr:ac1 (ae7 p w r).roads w=ac1 p.roads w:=by rw[ax2]
   have ih:=aF2 w l (ae7 p w r) nd'.2 (fun z hz=>by
    rw[hr];unfold wrtO
    rw[aD6,Aa3 fun q=>by
     have:=q.1
     injection this with _ e
     injection e with e
     exact nd'.1 (e ▸ hz)]
    exact h z (Aa4 _ hz)) x y
   rw[hr] at ih;rw[Ak0,ih.1,ih.2,aD6,bg3];have h0:=h r Aa5;by_cases z:x=w∧y∈l
   ·have m:x=w∧y∈r :: l:=⟨z.1,Aa4 _ z.2⟩;simp only[Aa6 z,Aa6 m,and_self]
   · by_cases q:[x,y]=[w,r]
     · have q1:x=w∧y=r:=by
        injection q with q1 q2
        injection q2 with q2
        exact⟨q1,q2⟩
       have m:x=w∧y∈r :: l:=⟨q1.1,by rw[q1.2]; exact Aa5⟩;simp only[Aa3 z,Aa6 (And.intro q h0),Aa6 m,and_self]
     · have m:¬ (x=w∧y∈r :: l):=fun t=>by
        rcases List.mem_cons.mp t.2 with u | u
        ·exact q (by rw[t.1,u])
        ·exact z ⟨t.1,u⟩
       have q':¬ ([x,y]=[w,r]∧wrtO p w r≠ac1 p.roads w):=fun t=>q t.1;simp only[Aa3 z,Aa3 q',Aa3 m,and_self]
theorem bv2{T:List (Option (List Int))}{h b:Int}(hh:0≤h)(hb:0≤b∧b < T.length)(o:Option (List Int)):ac1 (T.set b.toNat o) h=if h=b then o else ac1 T h:=by
 unfold ac1;rw[List.getD_eq_getElem?_getD,List.getD_eq_getElem?_getD,List.getElem?_set];by_cases z:h=b
 ·subst z;rw[Aa6 rfl,Aa6 (by omega),Aa6 rfl];rfl
 ·rw[Aa3 (by omega),Aa3 z]
theorem Mid.choose{sz b:Int}{p:PostT}(M:Mid sz b p)(hb:0≤b∧b < sz):Live sz (ah7 p b).2:=by
 have P:=M.pw;have hc:=P.g.count;have hl:=P.roads.len;have PC:=P.choose (by omega) hb;unfold ah7 at PC ⊢;by_cases q:ag6 b (stAt p b)=ac1 p.roads b
 · rw[Aa6 q]
   have al:∀ h,0≤h∧h < sz→ac1 p.roads h=ag6 h (stAt p h):=fun h hh=>by
    by_cases z:h=b
    ·subst z; exact q.symm
    ·exact M.best h hh z
   exact⟨⟨P,M.wrt,M.lts,M.told,M.tnb,M.stn,fun h hh _=>al h hh⟩,al⟩
 · rw[Aa3 q] at PC ⊢;have es:∀ h,0≤h→ac1 (p.roads.set b.toNat (ag6 b (stAt p b))) h=if h=b then ag6 b (stAt p b) else ac1 p.roads h:=fun h hh=>bv2 hh (by omega) _
   have eb:ac1 (p.roads.set b.toNat (ag6 b (stAt p b))) b=ag6 b (stAt p b):=by rw[es b hb.1,Aa6 rfl]
   generalize hp':({ p with roads:=p.roads.set b.toNat (ag6 b (stAt p b)) }:PostT)=p' at PC ⊢
   have fw:=aF2 b (ag9 p'.guild.house_count p'.guild.ways b) p' (List.Pairwise.filter _ (aE1 0 _)) (fun y hy=>by
    subst hp';have hn:=(aM7 (p:=p)).mp hy;show wrtO p b y≠ac1 (p.roads.set b.toNat (ag6 b (stAt p b))) b;rw[eb,M.wrt b y hn.2]
    exact fun z=>q z.symm)
   have gd:(writeAll p' b).guild=p.guild:=by rw[aF9]; subst hp'; rfl
   have rs:(writeAll p' b).roads=p.roads.set b.toNat (ag6 b (stAt p b)):=by rw[bD6]; subst hp'; rfl
   have tl:(writeAll p' b).told_last=p.told_last:=by rw[bU6]; subst hp'; rfl
   have ss:(writeAll p' b).standings=p.standings:=by rw[cr4]; subst hp'; rfl
   have wg:∀ x y,(writeAll p' b).written_last.get [x,y]=if x=b∧nb p b y then some (ag6 b (stAt p b)) else p.written_last.get [x,y]:=fun x y=>by
    have:=(fw x y).1
    subst hp';rw[show ac1 _ b=_ from eb] at this;refine Eq.trans this ?_;by_cases z:x=b∧nb p b y
    ·rw[Aa6 z,Aa6 ⟨z.1,(aM7 (p:=p)).mpr ⟨by rw[hc]; exact(P.nb_in z.2).2,z.2⟩⟩]
    ·rw[Aa3 z,Aa3 fun t=>z ⟨t.1,((aM7 (p:=p)).mp t.2).2⟩]
   have lg:∀ x y,(writeAll p' b).letters.get [x,y]=if x=b∧nb p b y then some (ag6 b (stAt p b)) else p.letters.get [x,y]:=fun x y=>by
    have:=(fw x y).2
    subst hp';rw[show ac1 _ b=_ from eb] at this;refine Eq.trans this ?_;by_cases z:x=b∧nb p b y
    ·rw[Aa6 z,Aa6 ⟨z.1,(aM7 (p:=p)).mpr ⟨by rw[hc]; exact(P.nb_in z.2).2,z.2⟩⟩]
    ·rw[Aa3 z,Aa3 fun t=>z ⟨t.1,((aM7 (p:=p)).mp t.2).2⟩]
   generalize writeAll p' b=q' at PC gd rs tl ss wg lg ⊢;have nbq:∀ w r,nb q' w r↔nb p w r:=fun w r=>by unfold nb; rw[gd]
   have to:∀ w r,aK6 q' w r=aK6 p w r:=fun w r=>by unfold aK6; rw[tl]
   have sa:∀ h,stAt q' h=stAt p h:=fun h=>by unfold stAt; rw[ss]
   have al:∀ h,0≤h∧h < sz→ac1 q'.roads h=ag6 h (stAt q' h):=fun h hh=>by
    rw[rs,es h hh.1,sa];by_cases z:h=b
    ·subst z; rw[Aa6 rfl]
    ·rw[Aa3 z]; exact M.best h hh z
   refine⟨⟨PC,fun w r h=>?_,fun w r o h=>?_,fun w r h e=>?_,fun w r t h=>?_,fun r w hr=>?_,fun h hh _=>al h hh⟩,al⟩
   · have h:=(nbq w r).mp h;unfold wrtO;rw[wg,rs,es w (P.nb_in h).1.1];by_cases z:w=b
     ·subst z; rw[Aa6 ⟨rfl,h⟩,Aa6 rfl]; rfl
     ·rw[Aa3 fun t=>z t.1,Aa3 z]; exact M.wrt w r h
   · rw[lg] at h;by_cases z:w=b∧nb p b r
     ·rw[Aa6 z] at h;cases h;obtain⟨rfl,hn⟩:=z;exact⟨(nbq _ _).mpr hn,by rw[rs,es _ hb.1,Aa6 rfl]⟩
     ·rw[Aa3 z] at h;obtain⟨h1,h2⟩:=M.lts w r o h;refine⟨(nbq _ _).mpr h1,?_⟩;rw[rs,es w (P.nb_in h1).1.1,Aa3 fun t=>z ⟨t,t ▸ h1⟩];exact h2
   · have h:=(nbq w r).mp h;rw[lg] at e;by_cases z:w=b
     ·subst z; rw[Aa6 ⟨rfl,h⟩] at e; cases e
     ·rw[Aa3 fun t=>z t.1] at e;rw[to,rs,es w (P.nb_in h).1.1,Aa3 z];exact M.told w r h e
   ·rw[to] at h; exact(nbq _ _).mpr (M.tnb w r t h)
   ·rw[sa,to,gd]; exact M.stn r w hr
theorem bO9{p:PostT}{r b:Int}(hr:0≤r)(hb:0≤b∧b < p.standings.length)(F:DJ KeyT):(p.standings.set b.toNat F).getD r.toNat []=if r=b then F else stAt p r:=by
 unfold stAt;rw[List.getD_eq_getElem?_getD,List.getD_eq_getElem?_getD,List.getElem?_set];by_cases z:r=b
 ·subst z;rw[Aa6 rfl,Aa6 (by omega),Aa6 rfl];rfl
 ·rw[Aa3 (by omega),Aa3 z]
theorem Live.carry{sz:Int}{p:PostT}(L:Live sz p){a b:Int}{o:Option (List Int)}(h:p.letters.get [a,b]=some o):Live sz (am1 p a b).2:=by
 have P:=L.mid.pw;obtain⟨ha,hb,ho⟩:=P.pair h;obtain⟨hn,eo⟩:=L.mid.lts a b o h;have hl:=P.sln;unfold am1;rw[h];refine Mid.choose ?_ hb;have PH:=(P.del [a,b]).hear ha hb o ho;have lg:∀ x y,(p.letters.del [a,b]).get [x,y]=if [x,y]=[a,b] then none else p.letters.get [x,y]:=fun x y=>cm6
 have tg:∀ x y,(p.told_last.put [a,b] o).get [x,y]=if [x,y]=[a,b] then some o else p.told_last.get [x,y]:=fun x y=>az6
 refine⟨PH,fun w r h=>L.mid.wrt w r h,fun w r o2 h2=>?_,fun w r h2 e=>?_,fun w r t h2=>?_,fun r w hr=>?_,fun x hx hne=>?_⟩
 · have h2:(p.letters.del [a,b]).get [w,r]=some o2:=h2;rw[lg] at h2;by_cases z:[w,r]=[a,b]
   ·rw[Aa6 z] at h2; cases h2
   ·rw[Aa3 z] at h2; exact L.mid.lts w r o2 h2
 · have e:(p.letters.del [a,b]).get [w,r]=none:=e;rw[lg] at e;show((p.told_last.put [a,b] o).get [w,r]).bind id=_;rw[tg];by_cases z:[w,r]=[a,b]
   · rw[Aa6 z];injection z with z1 z2
     subst z1;exact eo
   ·rw[Aa3 z] at e ⊢;exact L.mid.told w r h2 e
 · have h2:((p.told_last.put [a,b] o).get [w,r]).bind id=some t:=h2;rw[tg] at h2;by_cases z:[w,r]=[a,b]
   · injection z with z1 z2
     injection z2 with z2
     subst z1 z2;exact hn
   ·rw[Aa3 z] at h2; exact L.mid.tnb w r t h2
 · show DJ.get ((p.standings.set b.toNat (aU4 p.guild (stAt p b) a b o)).getD r.toNat []) w=keyT p.guild r (((p.told_last.put [a,b] o).get [w,r]).bind id);rw[bO9 hr.1 (by omega),tg];by_cases z:r=b
   · subst z;rw[Aa6 rfl];by_cases y:w=a
     · subst y;rw[if_pos rfl];show _=keyT p.guild r o;unfold aU4 keyT;split
       ·rw[bd2,Aa6 rfl]
       ·rw[bd3,Aa6 rfl]
     · rw[if_neg fun t=>y (by injection t)];have old:=L.mid.stn r w hr;unfold aK6 at old;rw[← old];unfold aU4;split
       ·rw[bd2,Aa3 y]
       ·rw[bd3,Aa3 y]
   ·rw[Aa3 z,Aa3 fun t=>z (by injection t with _ t; injection t)];exact L.mid.stn r w hr
 ·show ac1 p.roads x=ag6 x ((p.standings.set b.toNat (aU4 p.guild (stAt p b) a b o)).getD x.toNat []);rw[bO9 hx.1 (by omega),Aa3 hne];exact L.all x hx
theorem ao2(n:Nat)(h:Int):ac1 (List.replicate n none) h=none:=aO1 n h.toNat none
theorem Live.new{g:GuildT}{sz:Int}(h:Wf sz g)(h1:1≤sz):Live sz (newP g):=by
 have hc:=h.count;have hN:(0:Int) < g.house_count:=by omega
 let p0:PostT:=⟨g,List.replicate g.house_count.toNat none,[],[],[],List.replicate g.house_count.toNat []⟩
 have s0:∀ r,stAt p0 r=[]:=fun r=>aO1 _ _ _
 have P0:PW sz p0:=by
  have P:=PW.new h h1;rw[← hc] at P;have nn:DI.nd ([]:DI (Option (List Int)))∧∀ q∈([]:DI (Option (List Int))),PairOk sz q.1:=⟨List.Pairwise.nil,fun q hq=>(nomatch hq)⟩;refine⟨h,⟨?_,fun r hr=>?_⟩,nn,nn,nn,fun q hq=>(nomatch hq),P.sln.trans hc,fun F hF=>?_⟩
  ·show((List.replicate g.house_count.toNat (none:Option (List Int))).length:Int)=sz;rw[Ah8]; omega
  ·have:=(List.mem_replicate.mp hr).2; cases this
  · have:=(List.mem_replicate.mp hF).2
    subst this;exact⟨List.Pairwise.nil,fun q hq=>(nomatch hq)⟩
 have M:Mid sz 0 p0:=by
  refine⟨P0,fun w r _=>(ao2 _ w).symm,fun w r o h=>(nomatch h),fun w r _ _=>(ao2 _ w).symm,fun w r t h=>(nomatch h),fun r w _=>?_,fun x hx hne=>?_⟩
  ·rw[s0]; rfl
  ·rw[s0];unfold ag6;rw[if_neg hne];exact ao2 _ x
 have L:=M.choose (by omega)
 have e:(ah7 p0 0).2=newP g:=by
  unfold ah7
  rw[Aa3 (by
   rw[s0];show(some [0]:Option (List Int))≠_;rw[ao2]
   exact fun z=>(nomatch z)),s0]
  rfl
 rw[e] at L;exact L
def ae9(ring:List Int)(k:Nat):Int:=ring.getD ((k + 1) % ring.length) 0
def aC6(ring:List Int)(x:Nat→Int)(m:Nat):DI Int:=(List.range m).map fun k=>([ring.getD k 0,ae9 ring k,0],x k)
theorem bG3(c m:Int)(h0:2≤m)(h1:m≤9):∃ ring,(bN7 c m).res= .ok ring∧ring.Nodup∧(∀ x∈ring,1≤x∧x≤m)∧(ring.length:Int)=m:=by
 have hc:aB7 (bnC rngC (kC (1:Int)) (bnC addC (pC fun p=>p.v13q) (kC (1:Int)))) (fun _=> .ok true) (pC fun p=>p.1) (⟨c,m,none,none⟩:S_bc9)= .ok (rngI 1 (m + 1)):=by
  rw[aJ9 (l:=rngI 1 (m + 1)) (fun x=>x) (by simp[ay0 (lo:=1) (hi:=m + 1) (by omega) (by omega) (by omega) (by omega)]) (by rw[an7]; unfold aa6; omega) (fun a _=>by simp)];simp
 have lenR:(rngI 1 (m + 1)).length=m.toNat:=by rw[an7]; omega
 have wh:=bk4 (t:=upC (bnC gtC (unC lenC (vC fun p=>p.v23q)) (kC (0:Int)))) (c:=aK1)
  (fun n (s:S_bc9)=>∃ c' rest out,s=⟨c',m,some rest,some out⟩∧rest.length=n∧(out ++ rest).Perm (rngI 1 (m + 1)))
  (fun s=>∃ c' out,s=⟨c',m,some [],some out⟩∧out.Perm (rngI 1 (m + 1))) (by
    rintro n s ⟨c',rest,out,rfl,rfl,pm⟩;have ln:out.length + rest.length=m.toNat:=by rw[← Ac4,pm.length_eq,lenR]
    by_cases hm:0 < rest.length
    · generalize hcv:(c' * 48271 + 29) % 2147483647=cv;have j0:0≤cv / 3 % (rest.length:Int):=Ak2 _ (by omega);have j1:cv / 3 % (rest.length:Int) < rest.length:=Aj8 _ (by omega);obtain⟨jl,hp⟩:=cw4 j0 j1 (by omega);have hz:(0:Int) < rest.length:=by omega
      generalize (cv / 3 % (rest.length:Int)).toNat=j at jl hp;have ha:=cL0 (l:=out) (x:=rest[j]) (by unfold aa6; omega);have e1:au2 ⟨c',m,some rest,some out⟩= .nx ⟨cv,m,some rest,some out⟩:=by simp[au2,hcv]
      refine .inr ⟨by simp[hm],(rest.eraseIdx j).length,⟨cv,m,some (rest.eraseIdx j),some (out ++ [rest[j]])⟩,by rw[List.length_eraseIdx,Aa6 jl]; omega,.inl ?_,cv,rest.eraseIdx j,out ++ [rest[j]],rfl,rfl,?_⟩
      ·unfold aK1 seqC;rw[e1];simp[aF5,hm,hp,ha]
      · refine List.Perm.trans ?_ pm
        have:(rest[j] :: rest.eraseIdx j).Perm rest:=an3 jl
        simpa using(List.Perm.append_left out this)
    · have e0:rest=[]:=List.length_eq_zero_iff.mp (by omega);subst e0
      exact .inl ⟨by simp,c',out,rfl,by simpa using pm⟩)
 obtain⟨s',e,c',out,rfl,pm⟩:=wh 100000 (rngI 1 (m + 1)).length ⟨c,m,some (rngI 1 (m + 1)),some []⟩ ⟨c,rngI 1 (m + 1),[],rfl,rfl,by simp⟩ (by rw[lenR]; omega);have le:(out.length:Int)=m:=by rw[pm.length_eq,lenR]; omega
 refine⟨out,?_,pm.nodup_iff.mpr (aE1 1 (m + 1)),fun x hx=>?_,le⟩
 · have e1:aJ4 ⟨c,m,none,none⟩= .nx ⟨c,m,some (rngI 1 (m + 1)),none⟩:=by
    unfold aJ4 setC upC;rw[hc]; rfl
   have e2:aJ3 ⟨c,m,some (rngI 1 (m + 1)),none⟩= .nx ⟨c,m,some (rngI 1 (m + 1)),some []⟩:=by simp[aJ3,aa6]
   have e3:bf0 ⟨c,m,some (rngI 1 (m + 1)),some []⟩=_:=e;unfold bN7 bB1;simp only[seqC,e1,e2,e3];simp[be9]
 · have:=aj1.mp (pm.mem_iff.mp hx)
   omega
theorem aZ4{ring:List Int}{i:Int}(h0:0≤i)(h1:i < ring.length):atI ring i=some (ring.getD i.toNat 0):=by
 rw[aC2 ring h0,Ab0,Ab6 (by omega)];rfl
theorem af5{ring:List Int}{k:Nat}(h:k < ring.length):ring.getD k 0∈ring:=by
 rw[Ab0,Ab6 h];exact Al1 h
theorem al7{ring:List Int}(nd:ring.Nodup){i j:Nat}(hi:i < ring.length)(hj:j < ring.length)(h:ring.getD i 0=ring.getD j 0):i=j:=by
 rw[Ab0,Ab0,Ab6 hi,Ab6 hj] at h;exact(List.getElem_inj nd).mp h
theorem bk3(ring:List Int)(nd:ring.Nodup)(x:Nat→Int){k:Nat}(hk:k < ring.length):(aC6 ring x k).put [ring.getD k 0,ae9 ring k,0] (x k)=aC6 ring x (k + 1):=by
 have hn:(aC6 ring x k).get [ring.getD k 0,ae9 ring k,0]=none:=by
  refine aU5 fun hm=>?_;obtain⟨p,hp,e⟩:=List.mem_map.mp hm;obtain⟨j,hj,rfl⟩:=List.mem_map.mp hp;have hj:=List.mem_range.mp hj;have e:[ring.getD j 0,ae9 ring j,0]=[ring.getD k 0,ae9 ring k,0]:=e;injection e with e1 _
  have:=al7 nd (by omega) hk e1
  omega
 unfold DI.put;rw[hn,if_neg (by simp)];unfold aC6;rw[List.range_succ,List.map_append];rfl
def idxF(ring:List Int)(m:Nat)(r:List Int):Option Nat:=(List.range m).find? fun k=>decide ([ring.getD k 0,ae9 ring k,0]=r)
theorem bD4(ring:List Int)(x:Nat→Int)(m:Nat)(r:List Int):(aC6 ring x m).get r=(idxF ring m r).map x:=by
 unfold aC6 DI.get idxF;rw[List.find?_map,Option.map_map];rfl
theorem bd0{ring:List Int}{m k:Nat}{r:List Int}(h:idxF ring m r=some k):[ring.getD k 0,ae9 ring k,0]=r∧k < m:=by
 unfold idxF at h;exact⟨by simpa using List.find?_some h,List.mem_range.mp (List.mem_of_find?_eq_some h)⟩
theorem cF5{a b:KeyT}(h:ag8 a b=true):a.1 < b.1∨a.1=b.1∧a.2.1≤b.2.1:=by
 unfold ag8 HT.bi7 at h;revert h;by_cases z1:a.1=b.1
 · by_cases z2:a.2.1=b.2.1
   ·intro _; omega
   ·simp[z1,z2]; try omega
 ·simp[z1]; try omega
theorem cF6{a b:KeyT}(h:¬ ag8 a b=true):b.1 < a.1∨a.1=b.1∧b.2.1≤a.2.1:=by
 unfold ag8 HT.bi7 at h;revert h;by_cases z1:a.1=b.1
 · by_cases z2:a.2.1=b.2.1
   ·intro _; omega
   ·simp[z1,z2]; try omega
 ·simp[z1]; try omega
def leK(a b:KeyT):Prop:=a.1 < b.1∨a.1=b.1∧a.2.1≤b.2.1
theorem aU9:∀ (l:List KeyT) (k:KeyT),leK (l.foldl (fun b x=>if ag8 x b=true then x else b) k) k∧∀ x∈l,leK (l.foldl (fun b x=>if ag8 x b=true then x else b) k) x
 |[],k=>⟨by unfold leK; show k.1 < k.1∨k.1=k.1∧k.2.1≤k.2.1; omega,fun x hx=>(nomatch hx)⟩
 | y :: l,k=>by
   obtain⟨h1,h2⟩:=aU9 l (if ag8 y k=true then y else k);rw[Ak0];generalize l.foldl (fun b x=>if ag8 x b=true then x else b) (if ag8 y k=true then y else k)=m at h1 h2
   have h3:leK m k∧leK m y:=by
    by_cases z:ag8 y k=true
    · rw[Aa6 z] at h1
      have:=cF5 z
      unfold leK at h1 ⊢;omega
    · rw[Aa3 z] at h1
      have:=cF6 z
      unfold leK at h1 ⊢;omega
   refine⟨h3.1,fun x hx=>?_⟩;rcases List.mem_cons.mp hx with z | z
   ·rw[z]; exact h3.2
   ·exact h2 x z
theorem ci1{ks:List KeyT}{k:KeyT}(h:minK ks=some k):∀ x∈ks,leK k x:=by
 cases ks with
 |nil=>cases h
 |cons y l=>
   cases h;intro x hx;rcases List.mem_cons.mp hx with z | z
   ·rw[z]; exact(aU9 l y).1
   ·exact(aU9 l y).2 x z
theorem br3{ks:List KeyT}{x:KeyT}(h:x∈ks):∃ k,minK ks=some k:=by
 cases ks with
 |nil=>cases h
 |cons y l=>exact⟨_,rfl⟩
structure Ring (sz:Int) (g:GuildT) (ring:List Int):Prop where
 nd:ring.Nodup
 rng:∀ h∈ring,1≤h∧h < sz
 three:3≤ring.length
 seat:∀ k,k < ring.length→(g.ways.get [0,ring.getD k 0]).isSome=true
 next:∀ k,k < ring.length→(g.ways.get [ae9 ring k,ring.getD k 0]).isSome=true
 lik:∀ k,g.likings.get k=none
 shn:∀ k,g.shuns.get k=none
 wsh:∃ x:Nat→Int,(∀ k,0 < x k)∧∀ r,g.wish_ranks.get r=(idxF ring ring.length r).map x
theorem cG8{ring:List Int}{k:Nat}(hk:k < ring.length):∃ j,idxF ring ring.length [ring.getD k 0,ae9 ring k,0]=some j:=by
 unfold idxF;cases q:(List.range ring.length).find? fun j=>decide ([ring.getD j 0,ae9 ring j,0]=[ring.getD k 0,ae9 ring k,0]) with
 |some j=>exact⟨j,rfl⟩
 |none=>exact absurd (List.find?_eq_none.mp q k (List.mem_range.mpr hk)) (by simp)
theorem bv1{ring:List Int}(h:3≤ring.length)(k:Nat):(k + 1) % ring.length < ring.length:=Ao6 _ (by omega)
theorem bT4{ring:List Int}(nd:ring.Nodup)(h:3≤ring.length){k:Nat}(hk:k < ring.length):ring.getD k 0≠ae9 ring k:=fun z=>by
 have:=al7 nd hk (bv1 h k) z
 rcases Ar0 (k + 1) ring.length with q | q
 ·rw[Ap5 q] at this; omega
 · have e0:(k + 1) % ring.length=0:=by rw[show k + 1=ring.length by omega,Au7]
   omega
section
variable{sz:Int}{p:PostT}{ring:List Int}
theorem bo8{g:GuildT}(R:Ring sz g ring):∃ x:Nat→Int,(∀ k,0 < x k)∧∀ a b t,ao8 g.likings g.wish_ranks (a :: b :: t)=((idxF ring ring.length (a :: b :: t)).map x).getD 0:=by
 obtain⟨x,hx,hw⟩:=R.wsh;refine⟨x,hx,fun a b t=>?_⟩;unfold ao8;rw[hw];cases idxF ring ring.length (a :: b :: t) with
 |some k=>rfl
 |none=>show(g.likings.get [a,b]).getD 0=0; rw[R.lik]; rfl
theorem bN0(L:Live sz p)(hl:p.letters=[]){h:Int}(hh:0≤h∧h < sz){q:Int×KeyT}(hq:q∈stAt p h):∃ t,nb p q.1 h∧ac1 p.roads q.1=some t∧q.2=ai6 p.guild.likings p.guild.wish_ranks (h :: t)∧h≠0∧h∉t:=by
 have hg:=aI5 (L.mid.pw.st hh).1 (show(q.1,q.2)∈stAt p h from hq);rw[L.mid.stn h q.1 hh] at hg;unfold keyT at hg;split at hg
 · rename_i m;cases e:aK6 p q.1 h with
   |none=>rw[e] at m; cases m
   |some t=>
     rw[e] at hg m;have hn:=L.mid.tnb _ _ _ e;have er:=L.mid.told q.1 h hn (by rw[hl]; rfl);rw[e] at er;have m:(decide (h≠0) && mayB (shG p.guild h) h t)=true:=m;unfold mayB at m;simp at m;refine⟨t,hn,er.symm,?_,m.1,m.2.1⟩;injection hg with hg
     exact hg.symm
 ·cases hg
theorem bB4(L:Live sz p)(R:Ring sz p.guild ring)(hl:p.letters=[]){h w:Int}(h0:h≠0)(hn:nb p w h){t:List Int}(et:ac1 p.roads w=some t)(ht:h∉t):ai6 p.guild.likings p.guild.wish_ranks (h :: t)∈(stAt p h).map (·.2):=by
 have hi:=L.mid.pw.nb_in hn;have st:=L.mid.stn h w hi.2;rw[L.mid.told w h hn (by rw[hl]; rfl),et] at st
 have m:mayO (shG p.guild h) h (some t)=true:=by
  show(decide (h≠0) && mayB (shG p.guild h) h t)=true;unfold mayB
  have:t.any (shG p.guild h)=false:=by
   rw[List.any_eq_false];intro x _;unfold shG;rw[R.shn];simp
  simp[h0,ht,this]
 unfold keyT at st;rw[if_pos m] at st;exact List.mem_map.mpr ⟨_,bJ5 st,rfl⟩
theorem bq4(L:Live sz p){h:Int}(hh:0≤h∧h < sz)(h0:h≠0){t:List Int}(e:ac1 p.roads h=some t):∃ u,t=h :: u:=by
 rw[L.all h hh] at e;unfold ag6 at e;rw[if_neg h0] at e;obtain⟨k,hk,rfl⟩:=Option.map_eq_some_iff.mp e;obtain⟨q,hq,rfl⟩:=List.mem_map.mp (aH5 hk);have hg:=aI5 (L.mid.pw.st hh).1 (show(q.1,q.2)∈stAt p h from hq);rw[L.mid.stn h q.1 hh] at hg;unfold keyT at hg;split at hg
 · injection hg with hg
   exact⟨_,by rw[← hg]; rfl⟩
 ·cases hg
theorem bm6(L:Live sz p)(h0:0 < sz):ac1 p.roads 0=some [0]:=by
 rw[L.all 0 (by omega)];rfl
theorem aM0(L:Live sz p)(R:Ring sz p.guild ring)(hl:p.letters=[]){k:Nat}(hk:k < ring.length):
 (ac1 p.roads (ae9 ring k)=some [ae9 ring k,0]→ac1 p.roads (ring.getD k 0)=some [ring.getD k 0,ae9 ring k,0])∧(ac1 p.roads (ae9 ring k)≠some [ae9 ring k,0]→ac1 p.roads (ring.getD k 0)=some [ring.getD k 0,0]):=by
 have P:=L.mid.pw;have hr:=R.rng _ (af5 hk);have hf:=R.rng (ae9 ring k) (af5 (bv1 R.three k));have hne:=bT4 R.nd R.three hk;have nx:=R.next k hk;have se:=R.seat k hk;obtain⟨ix,hix⟩:=cG8 hk;obtain⟨x,hx,rk⟩:=bo8 R;generalize hh:ring.getD k 0=h at *;generalize hff:ae9 ring k=f at *;have h0:h≠0:=by omega
 have hin:0≤h∧h < sz:=by omega
 have sr:=bm6 L (by omega:0 < sz);have k0:=bB4 L R hl h0 se sr (by simp; exact h0);obtain⟨ks,hks⟩:=br3 k0;have le:=ci1 hks;obtain⟨q,hq,eq⟩:=List.mem_map.mp (aH5 hks);obtain⟨t,hn,et,ek,_,hnt⟩:=bN0 L hl hin hq
 have er:ac1 p.roads h=some (h :: t):=by
  rw[L.all h hin];unfold ag6;rw[if_neg h0,hks,← eq,ek];rfl
 have pt:=P.roads.all t (aO6 et)
 obtain⟨b,u,rfl⟩:∃ b u,t=b :: u:=by
  cases t with
  |nil=>exact absurd rfl pt.ne
  |cons b u=>exact⟨b,u,rfl⟩
 have kk:ks=(0 - ao8 p.guild.likings p.guild.wish_ranks (h :: b :: u),((h :: b :: u).length:Int),h :: b :: u):=by rw[← eq,ek]; rfl
 -- a road of rank above nought is the wish
 have wish:∀ j,idxF ring ring.length (h :: b :: u)=some j→h :: b :: u=[h,f,0]:=fun j e=>by
  obtain⟨e1,e2⟩:=bd0 e
  have:ring.getD j 0=h:=by injection e1
  rw[← hh] at this
  have:=al7 R.nd e2 hk this
  subst this;rw[← e1,hh,hff]
 constructor
 · intro ef;have k1:=bB4 L R hl h0 nx ef (by simp; exact⟨hne,h0⟩);have l1:=le _ k1;have r1:ao8 p.guild.likings p.guild.wish_ranks [h,f,0]=x ix:=by rw[rk,hix]; rfl
   cases e:idxF ring ring.length (h :: b :: u) with
   |some j=>rw[er,wish j e]
   |none=>
     have r2:ao8 p.guild.likings p.guild.wish_ranks (h :: b :: u)=0:=by rw[rk,e]; rfl
     have hxi:=hx ix;rw[kk] at l1;unfold leK ai6 at l1;rw[r1,r2] at l1;simp only at l1;omega
 · intro ef;have l0:=le _ k0
   have r0:ao8 p.guild.likings p.guild.wish_ranks [h,0]=0:=by
    rw[rk];cases e:idxF ring ring.length [h,0] with
    |none=>rfl
    |some j=>have:=(bd0 e).1; injection this with _ t; injection t with _ t; cases t
   cases e:idxF ring ring.length (h :: b :: u) with
   |some j=>
     have w:=wish j e;injection w with _ w
     have q0:q.1≠0:=fun z=>by
      rw[z,sr] at et;injection et with et
      rw[w] at et;injection et with _ et
      cases et
     obtain⟨v,ev⟩:=bq4 L (P.nb_in hn).1 q0 et;rw[w] at ev;injection ev with ev _
     rw[w,← ev] at et;exact absurd et ef
   |none=>
     have r2:ao8 p.guild.likings p.guild.wish_ranks (h :: b :: u)=0:=by rw[rk,e]; rfl
     rw[kk] at l0;unfold leK ai6 at l0;rw[r0,r2] at l0;simp only[List.length_cons,List.length_nil] at l0;have hu:u=[]:=List.length_eq_zero_iff.mp (by omega);subst hu;have hb:=pt.last;simp at hb;rw[er,hb]
theorem bD2{f:Nat→Bool}(h:∀ k,f (k + 1)=!f k):∀ n,f n=if n % 2=1 then !f 0 else f 0
 |0=>rfl
 | n + 1=>by
   rw[h n,bD2 h n];rcases Nat.mod_two_eq_zero_or_one n with q | q
   ·rw[Aa3 (by omega),Aa6 (by omega)]
   ·rw[Aa6 q,Aa3 (by omega)]; simp
theorem aE4(L:Live sz p)(R:Ring sz p.guild ring)(odd:ring.length % 2=1):p.letters≠[]:=fun hl=>by
 have st:∀ k,(decide (ac1 p.roads (ring.getD ((k + 1) % ring.length) 0)=some [ring.getD ((k + 1) % ring.length) 0,0]))=!(decide (ac1 p.roads (ring.getD (k % ring.length) 0)=some [ring.getD (k % ring.length) 0,0])):=fun k=>by
  have hk:k % ring.length < ring.length:=Nat.mod_lt _ (by have:=R.three; omega);obtain⟨h1,h2⟩:=aM0 L R hl hk;have ef:ae9 ring (k % ring.length)=ring.getD ((k + 1) % ring.length) 0:=by unfold ae9; rw[Nat.mod_add_mod]
  have hf:=R.rng (ae9 ring (k % ring.length)) (af5 (bv1 R.three _));rw[ef] at h1 h2 hf;by_cases z:ac1 p.roads (ring.getD ((k + 1) % ring.length) 0)=some [ring.getD ((k + 1) % ring.length) 0,0]
  · rw[Ag2 z,h1 z]
    have:¬ (some [ring.getD (k % ring.length) 0,ring.getD ((k + 1) % ring.length) 0,0]=some [ring.getD (k % ring.length) 0,0]):=fun e=>by
     injection e with e
     injection e with _ e
     injection e with e _
     omega
    rw[Ad2 this]; rfl
  ·rw[Ad2 z,h2 z]; simp
 have:=bD2 (f:=fun k=>decide (ac1 p.roads (ring.getD (k % ring.length) 0)=some [ring.getD (k % ring.length) 0,0])) st ring.length
 rw[Aa6 odd] at this;simp only[Au7,Nat.zero_mod] at this;exact(show ∀ b:Bool,b=!b→False by decide) _ this
end
theorem nxs{σ β:Type}{a b:σ→FlC σ β}{s s':σ}(h:a s= .nx s'):seqC a b s=b s':=by unfold seqC; rw[h]
theorem bU5{sz:Int}{p:PostT}(P:PW sz p){i:Nat}(hi:i < (ah0 p).length):∃ a b o,(ah0 p)[i]?=some (a,b,o)∧p.letters.get [a,b]=some o:=by
 have hi2:i < p.letters.length:=by unfold ah0 at hi; rwa [List.length_map] at hi
 have hm:p.letters[i]∈p.letters:=List.getElem_mem hi2;obtain⟨a,b,ek,_⟩:=P.lts.2 _ hm;refine⟨a,b,p.letters[i].2,?_,an9 P.lts.1 (by rw[← ek]; exact hm)⟩;unfold ah0;rw[List.getElem?_map,List.getElem?_eq_getElem hi2];simp[ek]
def wset(ring:List Int)(n:Nat)(a b:Int):Prop:=∃ j,j < n∧((a=ring.getD j 0∧b=0)∨(a=0∧b=ring.getD j 0)∨(a=ring.getD j 0∧b=ae9 ring j)∨(a=ae9 ring j∧b=ring.getD j 0))
theorem as0{W:DI Bool}{a b x y:Int}:(((W.put [a,b] true).put [b,a] true).get [x,y]).isSome=true↔(x=a∧y=b)∨(x=b∧y=a)∨(W.get [x,y]).isSome=true:=by
 rw[az6,az6];by_cases z1:[x,y]=[b,a]
 · rw[Aa6 z1];injection z1 with z1 z2
   injection z2 with z2
   subst z1 z2;simp
 · rw[Aa3 z1];have n1:¬ (x=b∧y=a):=fun t=>z1 (by rw[t.1,t.2]);by_cases z2:[x,y]=[a,b]
   · rw[Aa6 z2];injection z2 with z2 z3
     injection z3 with z3
     subst z2 z3;simp
   ·have n2:¬ (x=a∧y=b):=fun t=>z2 (by rw[t.1,t.2]);rw[Aa3 z2];simp[n1,n2]
theorem none_of{W:DI Bool}{k:List Int}(h:¬ (W.get k).isSome=true):W.get k=none:=by
 cases z:W.get k with
 |none=>rfl
 |some v=>rw[z] at h; exact absurd rfl h
structure Part (sz:Int) (ring:List Int) (x:Nat→Int) (n:Nat) (g:GuildT):Prop where
 wf:Wf sz g
 lik:g.likings=[]
 shn:g.shuns=[]
 wsh:g.wish_ranks=aC6 ring x n
theorem bn3{ring:List Int}{lv c M k A Fr m:Int}{g g':GuildT}(hM:powC 10 30= .ok M)(hM0:0 < M)(ea:atI ring k=some A)(ef:atI ring ((k + 1) % m)=some Fr)(hm0:0 < m)(nm:-18446744073709551616 < k∧k < 18446744073709551616)
 (y:C_m9 g [A,Fr,0] (1 + (c + k * k) % M)= .ok () ⟨g',[A,Fr,0],1 + (c + k * k) % M⟩):ao3 ⟨ring,lv,c,some m,some g,some k⟩= .nx ⟨ring,lv,c,some m,some g',some k⟩:=by
 simp[ao3,ea,ef,hm0,aa6,nm,y,hM,hM0,-powC]
theorem bn4{sz:Int}{ring:List Int}(nd:ring.Nodup)(rng:∀ h∈ring,1≤h∧h≤(ring.length:Int))(h3:3≤ring.length)(h9:ring.length≤9)(hsz:(ring.length:Int) < sz)(h13:sz≤13)(lv c M:Int)(hM:powC 10 30= .ok M)(hM0:0 < M)(x:Nat→Int)(hx:(fun k:Nat=>1 + (c + (k:Int) * k) % M)=x){n:Nat}(kl:n < ring.length){g:GuildT}(G:Part sz ring x n g)(hw:∀ a b,(g.ways.get [a,b]).isSome=true↔wset ring n a b):
 ∃ g',ax1 ⟨ring,lv,c,some (ring.length:Int),some g,some (n:Int)⟩= .nx ⟨ring,lv,c,some (ring.length:Int),some g',some (n:Int)⟩∧Part sz ring x (n + 1) g'∧∀ a b,(g'.ways.get [a,b]).isSome=true↔wset ring (n + 1) a b:=by
 have nf:(n + 1) % ring.length < ring.length:=Ao6 _ (by omega);have em:((n:Int) + 1) % (ring.length:Int)=(((n + 1) % ring.length:Nat):Int):=by simp
 have ef:atI ring (((n:Int) + 1) % (ring.length:Int))=some (ae9 ring n):=by rw[em,aZ4 (by omega) (by omega)]; rfl
 have ea:atI ring (n:Int)=some (ring.getD n 0):=by rw[aZ4 (by omega) (by omega)]; rfl
 have ra:=rng _ (af5 kl);have rf:=rng (ae9 ring n) (af5 nf);have hne:=bT4 nd h3 kl;have hc:=G.wf.count;have hA:0≤ring.getD n 0∧ring.getD n 0 < sz:=by omega
 have hF:0≤ae9 ring n∧ae9 ring n < sz:=by omega
 have hall:∀ j,j < ring.length→1≤ring.getD j 0:=fun j hj=>(rng _ (af5 hj)).1;have hfar:∀ j,1≤ae9 ring j:=fun j=>(rng _ (af5 (Ao6 _ (by omega)))).1
 have g0:g.ways.get [ring.getD n 0,0]=none:=none_of fun z=>by
  obtain⟨j,hj,q⟩:=(hw _ _).mp z;have h1:=hall j (by omega);have h2:=hfar j;rcases q with ⟨e,_⟩ | ⟨e,_⟩ | ⟨_,e⟩ | ⟨_,e⟩
  ·have:=al7 nd kl (by omega) e; omega
  ·omega
  ·omega
  ·omega
 have wl:=al8 (by omega:sz≤60) G.wf.ways;have y1:=bm4 g (ring.getD n 0) 0 (by rw[hc]; exact hA) (by rw[hc]; omega) (by omega) g0 (by unfold aa6; omega);have W1:=G.wf.lay (a:=ring.getD n 0) (b:=0) hA (by omega)
 have g1:((g.ways.put [ring.getD n 0,0] true).put [0,ring.getD n 0] true).get [ring.getD n 0,ae9 ring n]=none:=none_of fun z=>by
  rcases as0.mp z with ⟨_,e⟩ | ⟨e,_⟩ | z
  ·omega
  ·omega
  · obtain⟨j,hj,q⟩:=(hw _ _).mp z;have h1:=hall j (by omega);rcases q with ⟨_,e⟩ | ⟨e,_⟩ | ⟨e,_⟩ | ⟨e1,e2⟩
    ·omega
    ·omega
    ·have:=al7 nd kl (by omega) e; omega
    · have t1:=al7 nd kl (Ao6 _ (by omega)) e1;have t2:=al7 nd nf (by omega) e2;rw[Ap5 (show j + 1 < ring.length by omega)] at t1;rcases Ar0 (n + 1) ring.length with q | q
      ·rw[Ap5 q] at t2; omega
      ·rw[show n + 1=ring.length by omega,Au7] at t2; omega
 have wl2:=al8 (by omega:sz≤60) W1.ways;have y2:=bm4 { g with ways:=(g.ways.put [ring.getD n 0,0] true).put [0,ring.getD n 0] true } (ring.getD n 0) (ae9 ring n) (by show _∧_ < g.house_count; rw[hc]; exact hA) (by show _∧_ < g.house_count; rw[hc]; exact hF) hne g1 (by show((g.ways.put _ _).put _ _).length + 1 < _; unfold aa6; have:((g.ways.put [ring.getD n 0,0] true).put [0,ring.getD n 0] true).length≤3600:=wl2; omega);have W2:=W1.lay (a:=ring.getD n 0) (b:=ae9 ring n) hA hF;generalize hA':ring.getD n 0=A at *;generalize hF':ae9 ring n=Fr at *
 have ro:RoadOk sz [A,Fr,0]:=⟨by simp,rfl,by simp; omega,fun z hz=>by
  simp at hz
  omega⟩
 have wlen:g.wish_ranks.length=n:=by rw[G.wsh]; unfold aC6; simp
 have y3:=cd6 { g with ways:=(((g.ways.put [A,0] true).put [0,A] true).put [A,Fr] true).put [Fr,A] true } [A,Fr,0] (x n) (by show RoadOk g.house_count _; rw[hc]; exact ro) (by show g.house_count≤1000; omega) (by show g.wish_ranks.length < _; rw[wlen]; unfold aa6; omega);have xn:1 + (c + (n:Int) * n) % M=x n:=by rw[← hx]
 have nm:-18446744073709551616 < (n:Int)∧(n:Int) < 18446744073709551616:=by omega
 have hm0:0 < ring.length:=by omega
 have s1:au4 ⟨ring,lv,c,some (ring.length:Int),some g,some (n:Int)⟩= .nx ⟨ring,lv,c,some (ring.length:Int),some { g with ways:=(g.ways.put [A,0] true).put [0,A] true },some (n:Int)⟩:=by simp[au4,ea,y1]
 have s2:au3 ⟨ring,lv,c,some (ring.length:Int),some { g with ways:=(g.ways.put [A,0] true).put [0,A] true },some (n:Int)⟩= .nx ⟨ring,lv,c,some (ring.length:Int),some { g with ways:=(((g.ways.put [A,0] true).put [0,A] true).put [A,Fr] true).put [Fr,A] true },some (n:Int)⟩:=by simp[au3,ea,ef,hm0,y2]
 have s3:ao3 ⟨ring,lv,c,some (ring.length:Int),some { g with ways:=(((g.ways.put [A,0] true).put [0,A] true).put [A,Fr] true).put [Fr,A] true },some (n:Int)⟩= .nx ⟨ring,lv,c,some (ring.length:Int),some { g with ways:=(((g.ways.put [A,0] true).put [0,A] true).put [A,Fr] true).put [Fr,A] true,wish_ranks:=g.wish_ranks.put [A,Fr,0] (x n) },some (n:Int)⟩:=by
  rw[← xn] at y3 ⊢;exact bn3 hM hM0 ea ef (by omega) nm y3
 refine⟨_,by unfold ax1; rw[nxs s1,nxs s2]; exact s3,⟨W2.wish (x n) ro,G.lik,G.shn,?_⟩,fun a b=>?_⟩
 ·show g.wish_ranks.put [A,Fr,0] (x n)=_;rw[G.wsh,← hA',← hF'];exact bk3 ring nd x kl
 · show(((((g.ways.put [A,0] true).put [0,A] true).put [A,Fr] true).put [Fr,A] true).get [a,b]).isSome=true↔_;rw[as0,as0,hw];unfold wset;constructor
   · rintro(⟨e1,e2⟩ | ⟨e1,e2⟩ | ⟨e1,e2⟩ | ⟨e1,e2⟩ | ⟨j,hj,q⟩)
     ·exact⟨n,by omega,.inr (.inr (.inl ⟨by rw[hA']; exact e1,by rw[hF']; exact e2⟩))⟩
     ·exact⟨n,by omega,.inr (.inr (.inr ⟨by rw[hF']; exact e1,by rw[hA']; exact e2⟩))⟩
     ·exact⟨n,by omega,.inl ⟨by rw[hA']; exact e1,e2⟩⟩
     ·exact⟨n,by omega,.inr (.inl ⟨e1,by rw[hA']; exact e2⟩)⟩
     ·exact⟨j,by omega,q⟩
   · rintro⟨j,hj,q⟩;by_cases z:j=n
     · subst z;rw[hA',hF'] at q;rcases q with q | q | q | q
       ·exact .inr (.inr (.inl q))
       ·exact .inr (.inr (.inr (.inl q)))
       ·exact .inl q
       ·exact .inr (.inl q)
     ·exact .inr (.inr (.inr (.inr ⟨j,by omega,q⟩)))
theorem bK1{ring:List Int}{lv c m k T:Int}{g g':GuildT}(et:atI ring ((c / 7 + k * 3) % m)=some T)(hm0:0 < m)(nm:-18446744073709551616 < k∧k < 18446744073709551616)(y:C_c9 g (m + 1 + k) T= .ok () ⟨g',m + 1 + k,T⟩):ak4 ⟨ring,lv,c,some m,some g,some k⟩= .nx ⟨ring,lv,c,some m,some g',some k⟩:=by
 simp[ak4,nm,hm0,et,y]
theorem bs8{sz:Int}{ring:List Int}(rng:∀ h∈ring,1≤h∧h≤(ring.length:Int))(h3:3≤ring.length)(h13:sz≤13)(lv c:Int)(x:Nat→Int){n:Nat}(hn:(ring.length:Int) + 1 + n < sz){g:GuildT}(G:Part sz ring x ring.length g)(hw:∀ a b,wset ring ring.length a b→(g.ways.get [a,b]).isSome=true)(hb:∀ a b,(g.ways.get [a,b]).isSome=true→a < (ring.length:Int) + 1 + n∧b < (ring.length:Int) + 1 + n):
 ∃ g',ak4 ⟨ring,lv,c,some (ring.length:Int),some g,some (n:Int)⟩= .nx ⟨ring,lv,c,some (ring.length:Int),some g',some (n:Int)⟩∧Part sz ring x ring.length g'∧(∀ a b,wset ring ring.length a b→(g'.ways.get [a,b]).isSome=true)∧∀ a b,(g'.ways.get [a,b]).isSome=true→a < (ring.length:Int) + 1 + (n + 1:Nat)∧b < (ring.length:Int) + 1 + (n + 1:Nat):=by
 have i1:0≤(c / 7 + (n:Int) * 3) % (ring.length:Int):=Ak2 _ (by omega);have i2:(c / 7 + (n:Int) * 3) % (ring.length:Int) < ring.length:=Aj8 _ (by omega);have et:=aZ4 i1 i2;have rt:=rng _ (af5 (show((c / 7 + (n:Int) * 3) % (ring.length:Int)).toNat < ring.length by omega));generalize ring.getD ((c / 7 + (n:Int) * 3) % (ring.length:Int)).toNat 0=T at et rt;have hc:=G.wf.count;have gn:g.ways.get [(ring.length:Int) + 1 + n,T]=none:=none_of fun z=>by have:=hb _ _ z; omega
 have wl:=al8 (by omega:sz≤60) G.wf.ways;have y:=bm4 g ((ring.length:Int) + 1 + n) T (by rw[hc]; omega) (by rw[hc]; omega) (by omega) gn (by unfold aa6; omega);have nm:-18446744073709551616 < (n:Int)∧(n:Int) < 18446744073709551616:=by omega
 have hm0:0 < ring.length:=by omega
 refine⟨{ g with ways:=(g.ways.put [(ring.length:Int) + 1 + n,T] true).put [T,(ring.length:Int) + 1 + n] true },bK1 et (by omega) nm y,⟨G.wf.lay (a:=(ring.length:Int) + 1 + n) (b:=T) (by omega) (by omega),G.lik,G.shn,G.wsh⟩,fun a b h=>as0.mpr (.inr (.inr (hw a b h))),fun a b h=>?_⟩;rcases as0.mp h with ⟨e1,e2⟩ | ⟨e1,e2⟩ | h
 ·omega
 ·omega
 ·have:=hb a b h; omega
theorem bh2{ring:List Int}(nd:ring.Nodup)(rng:∀ h∈ring,1≤h∧h≤(ring.length:Int))(h3:3≤ring.length)(h9:ring.length≤9)(lv c:Int)(l0:0≤lv)(l3:lv≤3):∃ g,(bN8 ring lv c).res= .ok g∧Wf (1 + ring.length + lv) g∧Ring (1 + ring.length + lv) g ring∧∃ x,g.wish_ranks=aC6 ring x ring.length∧g.likings=[]∧g.shuns=[]:=by
 obtain⟨M,hM0,hM⟩:∃ M:Int,0 < M∧powC 10 30= .ok M:=⟨10 ^ 30,Int.pow_pos (by decide),by unfold powC; rw[if_pos (by decide)]; rfl⟩;obtain⟨x,hx⟩:∃ x,(fun k:Nat=>1 + (c + (k:Int) * k) % M)=x:=⟨_,rfl⟩
 have hx0:∀ k,0 < x k:=fun k=>by
  rw[← hx]
  have:=Ak2 (c + (k:Int) * k) (show M≠0 by omega)
  show(0:Int) < 1 + _;omega
 obtain⟨sz,hsz⟩:∃ sz,sz=1 + (ring.length:Int) + lv:=⟨_,rfl⟩;rw[← hsz];have hm:mk_Guild sz= .ok ⟨sz,[],[],[],[]⟩:=by unfold mk_Guild; rw[if_pos (by omega)]
 have hlR:(rngI 0 (ring.length:Int)).length=ring.length:=by rw[an7]; omega
 have hlL:(rngI 0 lv).length=lv.toNat:=by rw[an7]; omega
 obtain⟨s3,e3,kk,g3,rfl,G3,w3⟩:=bd4 (u:=fun a s=>{ s with v10q:=some a }) (c:=ax1) (fun p (s:S_bb9)=>∃ kk g,s=⟨ring,lv,c,some (ring.length:Int),some g,kk⟩∧Part sz ring x p.length g∧∀ a b,(g.ways.get [a,b]).isSome=true↔wset ring p.length a b)
  (rngI 0 ring.length) ⟨ring,lv,c,some (ring.length:Int),some ⟨sz,[],[],[],[]⟩,none⟩ ⟨none,_,rfl,⟨Wf.new,rfl,rfl,rfl⟩,fun a b=>⟨fun z=>(nomatch z),fun ⟨j,hj,_⟩=>absurd hj (Ar4 _)⟩⟩ (by
    rintro p k r s he ⟨kk,g,rfl,G,hw⟩;obtain⟨ke,k0,k1⟩:=bn2 he;have ke:k=(p.length:Int):=by omega
    subst ke;obtain⟨g',e,G',hw'⟩:=bn4 nd rng h3 h9 (by omega) (by omega) lv c M hM hM0 x hx (by omega) G hw
    exact⟨_,.inl e,_,g',rfl,by rw[Ac4,Af0]; exact G',by rw[Ac4,Af0]; exact hw'⟩)
 rw[hlR] at G3 w3
 obtain⟨s4,e4,k4,g4,rfl,G4,w4,b4⟩:=bd4 (u:=fun a s=>{ s with v10q:=some a }) (c:=ak4) (fun p (s:S_bb9)=>∃ kk g,s=⟨ring,lv,c,some (ring.length:Int),some g,kk⟩∧Part sz ring x ring.length g∧(∀ a b,wset ring ring.length a b→(g.ways.get [a,b]).isSome=true)∧∀ a b,(g.ways.get [a,b]).isSome=true→a < (ring.length:Int) + 1 + p.length∧b < (ring.length:Int) + 1 + p.length)
  (rngI 0 lv) ⟨ring,lv,c,some (ring.length:Int),some g3,kk⟩ ⟨kk,g3,rfl,G3,fun a b h=>(w3 a b).mpr h,fun a b h=>by
    obtain⟨j,hj,q⟩:=(w3 a b).mp h;have h1:=rng _ (af5 hj);have h2:=rng (ae9 ring j) (af5 (Ao6 _ (by omega)));rw[Am8]
    omega⟩ (by
    rintro p k r s he ⟨kk,g,rfl,G,hw,hb⟩;obtain⟨ke,k0,k1⟩:=bn2 he;have ke:k=(p.length:Int):=by omega
    subst ke;obtain⟨g',e,G',hw',hb'⟩:=bs8 rng h3 (by omega) lv c x (n:=p.length) (by omega) G hw hb
    exact⟨_,.inl e,_,g',rfl,G',hw',by rw[Ac4,Af0]; exact hb'⟩)
 have E1:aJ8 ⟨ring,lv,c,none,none,none⟩= .nx ⟨ring,lv,c,some (ring.length:Int),none,none⟩:=by simp[aJ8]
 have E2:aJ7 ⟨ring,lv,c,some (ring.length:Int),none,none⟩= .nx ⟨ring,lv,c,some (ring.length:Int),some ⟨sz,[],[],[],[]⟩,none⟩:=by rw[hsz] at hm; simp[aJ7,hm,hsz]
 have E3:aJ6 ⟨ring,lv,c,some (ring.length:Int),some ⟨sz,[],[],[],[]⟩,none⟩= .nx ⟨ring,lv,c,some (ring.length:Int),some g3,kk⟩:=by
  unfold aJ6;rw[← e3];simp[ay0 (lo:=0) (hi:=(ring.length:Int)) (by omega) (by omega) (by omega) (by omega)]
 have E4:aJ5 ⟨ring,lv,c,some (ring.length:Int),some g3,kk⟩= .nx ⟨ring,lv,c,some (ring.length:Int),some g4,k4⟩:=by
  unfold aJ5;rw[← e4];simp[ay0 (lo:=0) (hi:=lv) (by omega) (by omega) (by omega) (by omega)]
 refine⟨g4,?_,G4.wf,⟨nd,fun h hh=>by have:=rng h hh; omega,h3,fun k hk=>w4 _ _ ⟨k,hk,.inr (.inl ⟨rfl,rfl⟩)⟩,fun k hk=>w4 _ _ ⟨k,hk,.inr (.inr (.inr ⟨rfl,rfl⟩))⟩,fun k=>by rw[G4.lik]; rfl,fun k=>by rw[G4.shn]; rfl,x,hx0,fun r=>by rw[G4.wsh]; exact bD4 ring x _ r⟩,x,G4.wsh,G4.lik,G4.shn⟩;unfold bN8 bB2;rw[nxs E1,nxs E2,nxs E3,nxs E4];simp[bf1]
def trips:List (List Int):=(rngI 1 10).flatMap fun x=>(rngI 1 10).map fun y=>[x,y,0]
theorem bL2:((bS1 13).map aj5).Nodup:=by decide +kernel
theorem bj0:(trips.map aj5).Nodup:=by decide +kernel
theorem Hs.ring{sz:Int}{g:GuildT}{ring:List Int}{x:Nat→Int}(h:Wf sz g)(h13:sz≤13)(rng:∀ h∈ring,1≤h∧h≤(ring.length:Int))(h3:3≤ring.length)(h9:ring.length≤9)(ew:g.wish_ranks=aC6 ring x ring.length)(el:g.likings=[])(es:g.shuns=[]):Hs g:=by
 refine⟨aE2 bL2 h.ways.1 fun k hk=>?_,by rw[el]; exact List.Pairwise.nil,by rw[es]; exact List.Pairwise.nil,aE2 bj0 h.wsh.1 fun k hk=>?_⟩
 ·obtain⟨p,hp,rfl⟩:=List.mem_map.mp hk;exact br4 ((h.ways.2 p hp).mono h13)
 ·rw[ew] at hk;obtain⟨p,hp,rfl⟩:=List.mem_map.mp hk;obtain⟨j,hj,rfl⟩:=List.mem_map.mp hp;have hj:=List.mem_range.mp hj;have h1:=rng _ (af5 hj);have h2:=rng (ae9 ring j) (af5 (Ao6 _ (by omega)));exact List.mem_flatMap.mpr ⟨_,aj1.mpr (by omega),List.mem_map.mpr ⟨_,aj1.mpr (by omega),rfl⟩⟩
theorem aE3(p:PostT):(ap9 p).guild=p.guild:=by
 unfold ap9;split
 ·rfl
 ·exact aB8 _ _ _
theorem Live.next{sz:Int}{p:PostT}(L:Live sz p):Live sz (ap9 p):=by
 unfold ap9;cases e:p.letters with
 |nil=>exact L
 |cons q t=>
   obtain⟨a,b,ek,hg⟩:=L.mid.pw.first e;dsimp only;rw[ek];exact L.carry hg
theorem aD8{sz:Int}{ring:List Int}(odd:ring.length % 2=1):∀ (n:Nat) {p:PostT},Live sz p→Ring sz p.guild ring→(ad6 n p).1=n∧Live sz (ad6 n p).2∧(ad6 n p).2.guild=p.guild
 |0,p,L,R=>⟨rfl,L,rfl⟩
 | n + 1,p,L,R=>by
   unfold ad6;rw[if_neg (aE4 L R odd)];obtain⟨h1,h2,h3⟩:=aD8 odd n L.next (by rw[aE3]; exact R);exact⟨by show(ad6 n (ap9 p)).1 + 1=n + 1; rw[h1],h2,h3.trans (aE3 p)⟩
theorem bj6(ns:List Int):∃ s,C_z9 ns= .ok true s:=by
 have cell:∀ k:Int,0≤k→(aQ9 ns k).res= .ok (ak5 ns k):=ce2 ns;have m4:0≤ak5 ns 0 % 4∧ak5 ns 0 % 4 < 4:=⟨Ak2 _ (by omega),Aj8 _ (by omega)⟩;have l4:0≤ak5 ns 2 % 4∧ak5 ns 2 % 4 < 4:=⟨Ak2 _ (by omega),Aj8 _ (by omega)⟩;have e1:aW5 ⟨ns,none,none,none,none,none,none,none⟩= .nx ⟨ns,some (3 + 2 * (ak5 ns 0 % 4)),none,none,none,none,none,none⟩:=by simp[aW5,cell]
 obtain⟨m,hm⟩:∃ m,m=3 + 2 * (ak5 ns 0 % 4):=⟨_,rfl⟩;rw[← hm] at e1;obtain⟨ring,er,nd,rng,len⟩:=bG3 (ak5 ns 1) m (by omega) (by omega);have e2:aW4 ⟨ns,some m,none,none,none,none,none,none⟩= .nx ⟨ns,some m,some ring,none,none,none,none,none⟩:=by simp[aW4,cell,er]
 rw[← len] at rng;obtain⟨g,eg,wf,R,x,ew,el,es⟩:=bh2 nd rng (by omega) (by omega) (ak5 ns 2 % 4) (ak5 ns 3) (by omega) (by omega);obtain⟨sz,hsz⟩:∃ sz,sz=1 + (ring.length:Int) + ak5 ns 2 % 4:=⟨_,rfl⟩;rw[← hsz] at wf R;have odd:ring.length % 2=1:=by omega
 have mk:=cd9 wf (Hs.ring wf (by omega) rng (by omega) (by omega) ew el es) (by omega) (by omega);have L0:=Live.new wf (by omega);have g0:=br1 g;generalize newP g=p0 at *;have e3:aW3 ⟨ns,some m,some ring,none,none,none,none,none⟩= .nx ⟨ns,some m,some ring,some p0,none,none,none,none⟩:=by simp[aW3,cell,eg,mk]
 have wne:∀ p,Live sz p→p.guild=g→0 < (ah0 p).length:=fun p L hg=>by
  have:=aE4 L (by rw[hg]; exact R) odd
  cases e:ah0 p with
  |nil=>exact absurd (bD5.mp e) this
  |cons _ _=>simp
 obtain⟨s4,e4,p,c4,l4',n4,rfl,L,hg⟩:=bL5 (u:=fun a s=>{ s with v4q:=some a }) (c:=aZ1) (fun s:S_z9=>∃ p c l n,s=⟨ns,some m,some ring,some p,c,l,n,none⟩∧Live sz p∧p.guild=g) (ns.drop 4) ⟨ns,some m,some ring,some p0,none,none,none,none⟩ ⟨p0,none,none,none,rfl,L0,g0⟩ (by
  rintro c s _ ⟨p,c0,l0,n0,rfl,L,hg⟩;have P:=L.mid.pw;have wt:=at5 P (by omega);have w0:=wne p L hg;have i1:0≤c % ((ah0 p).length:Int):=Ak2 _ (by omega);have i2:c % ((ah0 p).length:Int) < (ah0 p).length:=Aj8 _ (by omega);obtain⟨a,b,o,ha,hl⟩:=bU5 P (i:=(c % ((ah0 p).length:Int)).toNat) (by omega);have at_:atI (ah0 p) (c % ((ah0 p).length:Int))=some (a,b,o):=by rw[aC2 _ i1]; exact ha
  have cr:=aZ8 P (by omega) hl;have wn:¬ ((ah0 p).length:Int)=0:=by omega
  have wn':ah0 p≠[]:=fun z=>by rw[z] at w0; simp at w0
  have f1:aA7 ⟨ns,some m,some ring,some p,some c,l0,n0,none⟩= .nx ⟨ns,some m,some ring,some p,some c,some (ah0 p),n0,none⟩:=by simp[aA7,wt]
  have f2:aA6 ⟨ns,some m,some ring,some p,some c,some (ah0 p),n0,none⟩= .nx ⟨ns,some m,some ring,some p,some c,some (ah0 p),n0,none⟩:=by simp[aA6,wn']
  have f3:aA5 ⟨ns,some m,some ring,some p,some c,some (ah0 p),n0,none⟩= .nx ⟨ns,some m,some ring,some p,some c,some (ah0 p),some (a,b,o),none⟩:=by simp[aA5,at_,w0]
  have f4:aA4 ⟨ns,some m,some ring,some p,some c,some (ah0 p),some (a,b,o),none⟩= .nx ⟨ns,some m,some ring,some (am1 p a b).2,some c,some (ah0 p),some (a,b,o),none⟩:=by simp[aA4,cr]
  exact⟨_,.inl (by unfold aZ1; rw[nxs f1,nxs f2,nxs f3]; exact f4),_,_,_,_,rfl,L.carry hl,(aB8 p a b).trans hg⟩)
 have e4':aW2 ⟨ns,some m,some ring,some p0,none,none,none,none⟩= .nx ⟨ns,some m,some ring,some p,c4,l4',n4,none⟩:=by
  unfold aW2;simp[e4]
 have P:=L.mid.pw;have w1:ah0 p≠[]:=fun z=>by have:=wne p L hg; rw[z] at this; simp at this
 have e5:aW1 ⟨ns,some m,some ring,some p,c4,l4',n4,none⟩= .nx ⟨ns,some m,some ring,some p,c4,l4',n4,none⟩:=by simp[aW1,at5 P (by omega:sz≤60),w1]
 obtain⟨a1,L2,g2⟩:=aD8 odd 60 L (by rw[hg]; exact R);have st:=bm0 P (by omega) (by omega:sz≤60) 60 (by omega);rw[a1] at st;generalize (ad6 60 p).2=q at *;have st':C_t9 p 60= .ok 60 ⟨q,60,some 60⟩:=st;have e6:aV9 ⟨ns,some m,some ring,some p,c4,l4',n4,none⟩= .nx ⟨ns,some m,some ring,some q,c4,l4',n4,some 60⟩:=by simp[aV9,st']
 have w2:=wne q L2 (g2.trans hg);unfold C_z9 co5;rw[nxs e1,nxs e2,nxs e3,nxs e4',nxs e5,nxs e6];have w3:=at5 L2.mid.pw (by omega:sz≤60);simp[bx0,bG1,w3,w2]
theorem bK4(ns:List Int)(hl:ns.length≤63):∃ ρ,m_z9 [.scr (ns.map D.int)]= .ok (.bl true) ρ:=by
 obtain⟨s,e⟩:=bj6 ns
 have:=cf_z9 ns
 rw[e] at this;exact⟨_,this⟩
end K20
namespace K20
open PySem L2
theorem funO{K:PySem.W.Frag}{x q:Str}{st s2:Stmt}{f:Addr}(h:HD.fnO K f q=HD.fnE x q st)(e:st=s2):∃ d,Fun K x q s2 f d:=by
 subst e;have hk:=HD.fn_keep h;obtain⟨oc,od,kV,doc,pm,an,cdv,ct,osl,l,c⟩:=HD.fn_of h;have e1:HD.dA st=aA3 st:=by cases st <;> rfl
 have e2:HD.dB st=aj6 st:=by cases st <;> rfl
 have e3:HD.dS st=aa4 st:=by cases st <;> rfl
 rw[e1,e2,e3] at l;exact⟨_,cH3 l c hk⟩
def tns:Tns:=[]
theorem cL1{w:World}{K:PySem.W.Frag}{h:Heap}{mg:Str→Option Value}{T:Tbs}{fa:Addr}(X:K.In h)(G:h.Ns mainGlobals mg)(hfa:mg "law" = some (.ref fa))(TO:TabsOf mg h tns T)(y:HD.obK nsL msL fsL csL dsL esL ksL K=xpL PySem.Challenge.pw_heraldways_k20_whole_a_quarrel_never_end):∃ fd:FuncData,(∀ (s:Shared) (v:Value),BindsTo s fd ⟨[v],[]⟩ [("script",v)])∧∀ base:Heap,K.In base→base.Ns mainGlobals mg→(∀ c P,PySem.W.CodeHd h c P→PySem.W.CodeHd base c P)→FnOk PySem.Challenge.rw_heraldways_k20_whole_a_quarrel_never_end.prog w K mg base CX0 10 fa fd ["script"] (Mi.spT K T):=by
 have y1:=congrArg (·.1) y;have y2:=congrArg (·.2.1) y;have y3:=congrArg (·.2.2.1) y;have y4:=congrArg (·.2.2.2.1) y;have y5:=congrArg (·.2.2.2.2.1) y;have y6:=congrArg (·.2.2.2.2.2) y;clear y;have e:=hfa.symm.trans (Ad9 X G (HD.nth y1 11 rfl rfl));cases e;obtain⟨d_a9,F_a9⟩:=funO (s2:=s_a9) (HD.nth y4 0 rfl rfl) rfl;obtain⟨d_b9,F_b9⟩:=funO (s2:=s_b9) (HD.nth y4 1 rfl rfl) rfl;obtain⟨d_j9,F_j9⟩:=funO (s2:=s_j9) (HD.nth y4 2 rfl rfl) rfl;obtain⟨d_k9,F_k9⟩:=funO (s2:=s_k9) (HD.nth y4 3 rfl rfl) rfl;obtain⟨d_r9,F_r9⟩:=funO (s2:=s_r9) (HD.nth y4 4 rfl rfl) rfl;obtain⟨d_v9,F_v9⟩:=funO (s2:=s_v9) (HD.nth y4 5 rfl rfl) rfl;obtain⟨d_ba9,F_ba9⟩:=funO (s2:=cf2) (HD.nth y4 6 rfl rfl) rfl;obtain⟨d_bc9,F_bc9⟩:=funO (s2:=bn0) (HD.nth y4 7 rfl rfl) rfl;obtain⟨d_bd9,F_bd9⟩:=funO (s2:=cf0) (HD.nth y4 8 rfl rfl) rfl;obtain⟨d_x9,F_x9⟩:=funO (s2:=s_x9) (HD.nth y4 9 rfl rfl) rfl;obtain⟨d_y9,F_y9⟩:=funO (s2:=s_y9) (HD.nth y4 10 rfl rfl) rfl;obtain⟨d_bf9,F_bf9⟩:=funO (s2:=ce8) (HD.nth y4 11 rfl rfl) rfl;obtain⟨d_g9,F_g9⟩:=funO (s2:=s_g9) (HD.nth y4 12 rfl rfl) rfl;obtain⟨d_u9,F_u9⟩:=funO (s2:=s_u9) (HD.nth y4 13 rfl rfl) rfl;obtain⟨d_be9,F_be9⟩:=funO (s2:=ce9) (HD.nth y4 14 rfl rfl) rfl;obtain⟨d_d9,F_d9⟩:=funO (s2:=s_d9) (HD.nth y4 15 rfl rfl) rfl;obtain⟨d_e9,F_e9⟩:=funO (s2:=s_e9) (HD.nth y4 16 rfl rfl) rfl;obtain⟨d_h9,F_h9⟩:=funO (s2:=s_h9) (HD.nth y4 17 rfl rfl) rfl;obtain⟨d_i9,F_i9⟩:=funO (s2:=s_i9) (HD.nth y4 18 rfl rfl) rfl;obtain⟨d_l9,F_l9⟩:=funO (s2:=s_l9) (HD.nth y4 19 rfl rfl) rfl;obtain⟨d_c9,F_c9⟩:=funO (s2:=s_c9) (HD.nth y4 20 rfl rfl) rfl;obtain⟨d_f9,F_f9⟩:=funO (s2:=s_f9) (HD.nth y4 21 rfl rfl) rfl;obtain⟨d_m9,F_m9⟩:=funO (s2:=s_m9) (HD.nth y4 22 rfl rfl) rfl;obtain⟨d_w9,F_w9⟩:=funO (s2:=s_w9) (HD.nth y4 23 rfl rfl) rfl;obtain⟨d_n9,F_n9⟩:=funO (s2:=s_n9) (HD.nth y4 24 rfl rfl) rfl;obtain⟨d_q9,F_q9⟩:=funO (s2:=s_q9) (HD.nth y4 25 rfl rfl) rfl;obtain⟨d_bb9,F_bb9⟩:=funO (s2:=cf1) (HD.nth y4 26 rfl rfl) rfl;obtain⟨d_bg9,F_bg9⟩:=funO (s2:=ce7) (HD.nth y4 27 rfl rfl) rfl;obtain⟨d_s9,F_s9⟩:=funO (s2:=s_s9) (HD.nth y4 28 rfl rfl) rfl;obtain⟨d_o9,F_o9⟩:=funO (s2:=s_o9) (HD.nth y4 29 rfl rfl) rfl;obtain⟨d_p9,F_p9⟩:=funO (s2:=s_p9) (HD.nth y4 30 rfl rfl) rfl;obtain⟨d_t9,F_t9⟩:=funO (s2:=s_t9) (HD.nth y4 31 rfl rfl) rfl;obtain⟨d_z9,F_z9⟩:=funO (s2:=s_z9) (HD.nth y4 32 rfl rfl) rfl;have b_a9:=F_a9.binds (ps:=["self", "size"]) fun _ _ _ _ _ _=>L2.aq0 fun _ _=>rfl;have b_b9:=F_b9.binds (ps:=["self", "pairs", "a"]) fun _ _ _ _ _ _=>L2.az0 fun _ _ _=>rfl;have b_j9:=F_j9.binds (ps:=["self", "a", "houses"]) fun _ _ _ _ _ _=>L2.az0 fun _ _ _=>rfl;have b_k9:=F_k9.binds (ps:=["self"]) fun _ _ _ _ _ _=>L2.aH9 fun _=>rfl;have b_r9:=F_r9.binds (ps:=["self"]) fun _ _ _ _ _ _=>L2.aH9 fun _=>rfl;have b_v9:=F_v9.binds (ps:=["self", "writer", "receiver"]) fun _ _ _ _ _ _=>L2.az0 fun _ _ _=>rfl;have b_ba9:=F_ba9.binds (ps:=["script", "k"]) fun _ _ _ _ _ _=>L2.aq0 fun _ _=>rfl;have b_bc9:=F_bc9.binds (ps:=["cell", "many"]) fun _ _ _ _ _ _=>L2.aq0 fun _ _=>rfl;have b_bd9:=F_bd9.binds (ps:=["found"]) fun _ _ _ _ _ _=>L2.aH9 fun _=>rfl;have b_x9:=F_x9.binds (ps:=["house", "standings"]) fun _ _ _ _ _ _=>L2.aq0 fun _ _=>rfl;have b_y9:=F_y9.binds (ps:=["road"]) fun _ _ _ _ _ _=>L2.aH9 fun _=>rfl;have b_bf9:=F_bf9.binds (ps:=["houses", "count"]) fun _ _ _ _ _ _=>L2.aq0 fun _ _=>rfl;have b_g9:=F_g9.binds (ps:=["self", "houses"]) fun _ _ _ _ _ _=>L2.aq0 fun _ _=>rfl;have b_u9:=F_u9.binds (ps:=["self"]) fun _ _ _ _ _ _=>L2.aH9 fun _=>rfl;have b_be9:=F_be9.binds (ps:=["guild", "house", "road"]) fun _ _ _ _ _ _=>L2.az0 fun _ _ _=>rfl;have b_d9:=F_d9.binds (ps:=["self", "a", "b"]) fun _ _ _ _ _ _=>L2.az0 fun _ _ _=>rfl;have b_e9:=F_e9.binds (ps:=["self", "a"]) fun _ _ _ _ _ _=>L2.aq0 fun _ _=>rfl;have b_h9:=F_h9.binds (ps:=["self", "road"]) fun _ _ _ _ _ _=>L2.aq0 fun _ _=>rfl;have b_i9:=F_i9.binds (ps:=["self", "a", "b"]) fun _ _ _ _ _ _=>L2.az0 fun _ _ _=>rfl;have b_l9:=F_l9.binds (ps:=["self"]) fun _ _ _ _ _ _=>L2.aH9 fun _=>rfl;have b_c9:=F_c9.binds (ps:=["self", "a", "b"]) fun _ _ _ _ _ _=>L2.az0 fun _ _ _=>rfl;have b_f9:=F_f9.binds (ps:=["self", "road"]) fun _ _ _ _ _ _=>L2.aq0 fun _ _=>rfl;have b_m9:=F_m9.binds (ps:=["self", "road", "rank"]) fun _ _ _ _ _ _=>L2.az0 fun _ _ _=>rfl;have b_w9:=F_w9.binds (ps:=["self", "writer"]) fun _ _ _ _ _ _=>L2.aq0 fun _ _=>rfl;have b_n9:=F_n9.binds (ps:=["self", "guild"]) fun _ _ _ _ _ _=>L2.aq0 fun _ _=>rfl;have b_q9:=F_q9.binds (ps:=["self", "house"]) fun _ _ _ _ _ _=>L2.aq0 fun _ _=>rfl;have b_bb9:=F_bb9.binds (ps:=["ring", "leaves", "cell"]) fun _ _ _ _ _ _=>L2.az0 fun _ _ _=>rfl;have b_bg9:=F_bg9.binds (ps:=["guild", "road"]) fun _ _ _ _ _ _=>L2.aq0 fun _ _=>rfl;have b_s9:=F_s9.binds (ps:=["self", "writer", "receiver", "road"]) fun _ _ _ _ _ _=>L2.lenV4 fun _ _ _ _=>rfl;have b_o9:=F_o9.binds (ps:=["self", "a", "b"]) fun _ _ _ _ _ _=>L2.az0 fun _ _ _=>rfl;have b_p9:=F_p9.binds (ps:=["self"]) fun _ _ _ _ _ _=>L2.aH9 fun _=>rfl;have b_t9:=F_t9.binds (ps:=["self", "most"]) fun _ _ _ _ _ _=>L2.aq0 fun _ _=>rfl;have b_z9:=F_z9.binds (ps:=["script"]) fun _ _ _ _ _ _=>L2.aH9 fun _=>rfl;obtain⟨pg_Guild,hd_Guild,po_Guild,mk_Guild,kc_Guild⟩:=HD.cls_of (HD.nth y3 23 rfl rfl);obtain⟨pg_Post,hd_Post,po_Post,mk_Post,kc_Post⟩:=HD.cls_of (HD.nth y3 24 rfl rfl)
 have hb:∀ (s:Shared) (v:Value),BindsTo s d_z9 ⟨[v],[]⟩ [("script",v)]:=by
  obtain⟨oc,od,kV,doc,pm,an,cdv,ct,osl,rfl,lk,hcd⟩:=F_z9.ex;exact fun s v=> .of_eq rfl
 refine⟨d_z9,hb,fun base _ _ tr=>?_⟩
 have T0:Txt K mg ⟨228,385,103,d_a9,192,d_b9,204,d_j9,110,d_k9,347,d_r9,354,d_v9,396,d_ba9,408,d_bc9,403,d_bd9,253,d_x9,260,d_y9,89,d_bf9,211,d_g9,298,d_u9,246,d_be9,152,d_d9,117,d_e9,225,d_h9,218,d_i9,199,d_l9,131,d_c9,187,d_f9,173,d_m9,361,d_w9,272,d_n9,382,d_q9,415,d_bb9,239,d_bg9,368,d_s9,312,d_o9,319,d_p9,326,d_t9,422,d_z9⟩ base:={
  cl_Guild:=⟨pg_Guild,hd_Guild,po_Guild,HD.nth y2 23 rfl rfl⟩
  mgC_Guild:=Ad9 X G (HD.nth y1 0 rfl rfl)
  mk_Guild:=⟨mk_Guild,HD.nth y2 0 rfl rfl,HD.nth y3 0 rfl rfl,kc_Guild⟩
  cl_Post:=⟨pg_Post,hd_Post,po_Post,HD.nth y2 24 rfl rfl⟩
  mgC_Post:=Ad9 X G (HD.nth y1 1 rfl rfl)
  mk_Post:=⟨mk_Post,HD.nth y2 17 rfl rfl,HD.nth y3 17 rfl rfl,kc_Post⟩
  n_house_count:=HD.nth y2 25 rfl rfl
  n_ways:=HD.nth y2 26 rfl rfl
  n_likings:=HD.nth y2 27 rfl rfl
  n_shuns:=HD.nth y2 28 rfl rfl
  n_wish_ranks:=HD.nth y2 29 rfl rfl
  n_guild:=HD.nth y2 30 rfl rfl
  n_roads:=HD.nth y2 31 rfl rfl
  n_told_last:=HD.nth y2 32 rfl rfl
  n_written_last:=HD.nth y2 33 rfl rfl
  n_letters:=HD.nth y2 34 rfl rfl
  n_standings:=HD.nth y2 35 rfl rfl
  F_a9:=F_a9
  b_a9:=b_a9
  F_b9:=F_b9
  b_b9:=b_b9
  me_b9:=⟨HD.nth y2 1 rfl rfl,HD.nth y3 1 rfl rfl,F_b9.kp⟩
  F_j9:=F_j9
  b_j9:=b_j9
  me_j9:=⟨HD.nth y2 2 rfl rfl,HD.nth y3 2 rfl rfl,F_j9.kp⟩
  F_k9:=F_k9
  b_k9:=b_k9
  me_k9:=⟨HD.nth y2 3 rfl rfl,HD.nth y3 3 rfl rfl,F_k9.kp⟩
  F_r9:=F_r9
  b_r9:=b_r9
  me_r9:=⟨HD.nth y2 4 rfl rfl,HD.nth y3 4 rfl rfl,F_r9.kp⟩
  F_v9:=F_v9
  b_v9:=b_v9
  me_v9:=⟨HD.nth y2 5 rfl rfl,HD.nth y3 5 rfl rfl,F_v9.kp⟩
  F_ba9:=F_ba9
  b_ba9:=b_ba9
  m_ba9:=Ad9 X G (HD.nth y1 2 rfl rfl)
  kp_ba9:=F_ba9.kp
  F_bc9:=F_bc9
  b_bc9:=b_bc9
  m_bc9:=Ad9 X G (HD.nth y1 3 rfl rfl)
  kp_bc9:=F_bc9.kp
  F_bd9:=F_bd9
  b_bd9:=b_bd9
  m_bd9:=Ad9 X G (HD.nth y1 4 rfl rfl)
  kp_bd9:=F_bd9.kp
  F_x9:=F_x9
  b_x9:=b_x9
  m_x9:=Ad9 X G (HD.nth y1 5 rfl rfl)
  kp_x9:=F_x9.kp
  F_y9:=F_y9
  b_y9:=b_y9
  m_y9:=Ad9 X G (HD.nth y1 6 rfl rfl)
  kp_y9:=F_y9.kp
  F_bf9:=F_bf9
  b_bf9:=b_bf9
  m_bf9:=Ad9 X G (HD.nth y1 7 rfl rfl)
  kp_bf9:=F_bf9.kp
  F_g9:=F_g9
  b_g9:=b_g9
  me_g9:=⟨HD.nth y2 6 rfl rfl,HD.nth y3 6 rfl rfl,F_g9.kp⟩
  F_u9:=F_u9
  b_u9:=b_u9
  me_u9:=⟨HD.nth y2 7 rfl rfl,HD.nth y3 7 rfl rfl,F_u9.kp⟩
  F_be9:=F_be9
  b_be9:=b_be9
  m_be9:=Ad9 X G (HD.nth y1 8 rfl rfl)
  kp_be9:=F_be9.kp
  F_d9:=F_d9
  b_d9:=b_d9
  me_d9:=⟨HD.nth y2 8 rfl rfl,HD.nth y3 8 rfl rfl,F_d9.kp⟩
  F_e9:=F_e9
  b_e9:=b_e9
  me_e9:=⟨HD.nth y2 9 rfl rfl,HD.nth y3 9 rfl rfl,F_e9.kp⟩
  F_h9:=F_h9
  b_h9:=b_h9
  me_h9:=⟨HD.nth y2 10 rfl rfl,HD.nth y3 10 rfl rfl,F_h9.kp⟩
  F_i9:=F_i9
  b_i9:=b_i9
  me_i9:=⟨HD.nth y2 11 rfl rfl,HD.nth y3 11 rfl rfl,F_i9.kp⟩
  F_l9:=F_l9
  b_l9:=b_l9
  me_l9:=⟨HD.nth y2 12 rfl rfl,HD.nth y3 12 rfl rfl,F_l9.kp⟩
  F_c9:=F_c9
  b_c9:=b_c9
  me_c9:=⟨HD.nth y2 13 rfl rfl,HD.nth y3 13 rfl rfl,F_c9.kp⟩
  F_f9:=F_f9
  b_f9:=b_f9
  me_f9:=⟨HD.nth y2 14 rfl rfl,HD.nth y3 14 rfl rfl,F_f9.kp⟩
  F_m9:=F_m9
  b_m9:=b_m9
  me_m9:=⟨HD.nth y2 15 rfl rfl,HD.nth y3 15 rfl rfl,F_m9.kp⟩
  F_w9:=F_w9
  b_w9:=b_w9
  me_w9:=⟨HD.nth y2 16 rfl rfl,HD.nth y3 16 rfl rfl,F_w9.kp⟩
  F_n9:=F_n9
  b_n9:=b_n9
  F_q9:=F_q9
  b_q9:=b_q9
  me_q9:=⟨HD.nth y2 18 rfl rfl,HD.nth y3 18 rfl rfl,F_q9.kp⟩
  F_bb9:=F_bb9
  b_bb9:=b_bb9
  m_bb9:=Ad9 X G (HD.nth y1 9 rfl rfl)
  kp_bb9:=F_bb9.kp
  F_bg9:=F_bg9
  b_bg9:=b_bg9
  m_bg9:=Ad9 X G (HD.nth y1 10 rfl rfl)
  kp_bg9:=F_bg9.kp
  F_s9:=F_s9
  b_s9:=b_s9
  me_s9:=⟨HD.nth y2 19 rfl rfl,HD.nth y3 19 rfl rfl,F_s9.kp⟩
  F_o9:=F_o9
  b_o9:=b_o9
  me_o9:=⟨HD.nth y2 20 rfl rfl,HD.nth y3 20 rfl rfl,F_o9.kp⟩
  F_p9:=F_p9
  b_p9:=b_p9
  me_p9:=⟨HD.nth y2 21 rfl rfl,HD.nth y3 21 rfl rfl,F_p9.kp⟩
  F_t9:=F_t9
  b_t9:=b_t9
  me_t9:=⟨HD.nth y2 22 rfl rfl,HD.nth y3 22 rfl rfl,F_t9.kp⟩
  F_z9:=F_z9
  b_z9:=b_z9
  m_z9:=Ad9 X G (HD.nth y1 11 rfl rfl)
  kp_z9:=F_z9.kp
  g_SEAT:=⟨_,Ad9 X G (HD.nth y1 12 rfl rfl)⟩
  g_MOST_HOUSES:=⟨_,Ad9 X G (HD.nth y1 13 rfl rfl)⟩
  z_len:=Ad5 X G (HD.nth y1 14 rfl rfl)
  z_range:=Ad5 X G (HD.nth y1 15 rfl rfl)
  z_min:=Ad5 X G (HD.nth y1 16 rfl rfl)
  z_max:=Ad5 X G (HD.nth y1 17 rfl rfl)
  z_set:=Ad5 X G (HD.nth y1 18 rfl rfl)
  z_list:=Ad5 X G (HD.nth y1 19 rfl rfl)
  z_tuple:=Ad5 X G (HD.nth y1 20 rfl rfl)
  z_isinstance:=Ad5 X G (HD.nth y1 21 rfl rfl)
  z_bool:=Ad5 X G (HD.nth y1 22 rfl rfl)
  z_int:=Ad5 X G (HD.nth y1 23 rfl rfl)
  z_any:=Ad5 X G (HD.nth y1 24 rfl rfl)
 }
 refine(ok_z9 T0).imp fun vs H Q E hs=>?_;obtain⟨a,xs,hv,hq,hl,ht,hk⟩:=hs;refine Mi.cF9 bK4 hv hq hl (fun p hp=>?_) hk;cases hp
theorem walk{K:PySem.W.Frag}{q:Program}{loose:List Str}{XP:(Str→Option Value)→Heap→Prop}{d:DefRec}(hdf:d.params.defaults=[])(hnm:d.name = "law")(y:HD.obK nsL msL fsL csL dsL esL ksL K=xpL PySem.Challenge.pw_heraldways_k20_whole_a_quarrel_never_end):PySem.W.WalkO q loose XP (fun _ h=>K.In h) PySem.Challenge.rw_heraldways_k20_whole_a_quarrel_never_end.row.toRowW d [] (fun f vs=>PySem.call f vs):=
 L2.bU4 (l:=PySem.Challenge.rw_heraldways_k20_whole_a_quarrel_never_end) (K:=fun _=>K) (n:=63) (k:=10) (x := "script") (CX:=fun _=>CX0) (sp:=fun _ T=>Mi.spT K T) tns rfl (by decide) hdf ⟨rfl,by decide,by decide⟩ (fun _ _ Y=>Y) (fun _ h=>absurd rfl h) (fun _ h=>(nomatch h)) (by unfold Tns.ok tns; decide) (fun w mg fa h T X G hfa TO=>cL1 X G (hnm ▸ hfa) TO y) (fun w T H a ns hl hO hS=>⟨a,ns,rfl,Mi.cs9 hO hS,hl,Mi.tb_of hO,fun _=>rfl⟩) fun _ _ _ _ _ z=>z
end K20
open PySem PySem.W PyProof.Rows
set_option maxRecDepth 100000 in
set_option maxHeartbeats 0 in
theorem PySem.Challenge.cw_heraldways_k20_whole_a_quarrel_never_end_holds : PySem.Challenge.rw_heraldways_k20_whole_a_quarrel_never_end.Holds := by
 refine K20.hd0 fun said=>?_;refine holds_openX (q:=K20.qP PySem.Challenge.pw_heraldways_k20_whole_a_quarrel_never_end) (loose:=[]) (Xt:=fun s=>xlAt (K20.qP PySem.Challenge.pw_heraldways_k20_whole_a_quarrel_never_end) [] s && recOk (RowW.records PySem.Challenge.rw_heraldways_k20_whole_a_quarrel_never_end.row.toRowW) s) (XP:=XL (K20.qP PySem.Challenge.pw_heraldways_k20_whole_a_quarrel_never_end) []) (Yf:=HD.ob K20.asL K20.nsL K20.msL K20.fsL K20.csL K20.dsL K20.esL K20.ksL) (Ya:=fun _=>K20.xpL PySem.Challenge.pw_heraldways_k20_whole_a_quarrel_never_end) (N:=6086) (fun w=>HD.two (K20.left1 w) (K20.left2 w)) (fun s e=>xl_of s (Bool.and_eq_true_iff.mp e).1) XL.keeps (by rfl) (by rfl) (by rfl) (fun s e=>recFacts_of (Bool.and_eq_true_iff.mp e).2) (by rfl) said (by decide +kernel) ⟨rfl,rfl,rfl,rfl,rfl,by decide +kernel⟩ ?hw (HD.walkX fun K y=>K20.walk rfl rfl y)
 case hw=>w_witness2
