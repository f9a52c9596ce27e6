import PyProof.Rows.All
import Wide.All
import OpenK.AllK
import Wide.FinOn
import Lean
import PyProof.EqAt
import PyProof.EqKinds
import PyProof.TupleCall
import KE.KLam
import KE.KMinKey
import KE.KDictList
import PySem.Challenge.RW_heraldways_k21_rings_of_wishes
set_option Elab.async false
set_option linter.all false
set_option maxRecDepth 100000
namespace HD
open PySem PySem.W PyProof.Rows
noncomputable def top (p:Program) (i:Nat):Stmt:=p.main.body.getD i (.Pass ⟨0,0,0,0⟩)
noncomputable def iC (s:Stmt) (j:Nat):Stmt:=match s with
 | .ClassDef _ _ _ body _ _ _ _ _ _ _=>body.getD j (.Pass ⟨0,0,0,0⟩)
 | _=> .Pass ⟨0,0,0,0⟩
noncomputable def dA (s:Stmt):Arguments:=match s with
 | .FunctionDef _ a _ _ _ _ _ _ _ _=>a
 | _=>{ posonlyargs:=[],args:=[],vararg:=none,kwonlyargs:=[],kw_defaults:=[],kwarg:=none,defaults:=[] }
noncomputable def dB (s:Stmt):List Stmt:=match s with
 | .FunctionDef _ _ b _ _ _ _ _ _ _=>b
 | _=>[]
noncomputable def dS (s:Stmt):Scope:=match s with
 | .FunctionDef _ _ _ _ _ _ sc _ _ _=>sc
 | _=>{ kind:= .function,names:=[],isGenerator:=false,isCoroutine:=false }
noncomputable def frag (as:List Addr) (h:Heap):Frag:=as.filterMap fun a=>(h.get? a).map fun o=>(a,o)
theorem cg0 (as:List Addr) (h:Heap):(frag as h).In h:=by
 intro a o e
 induction as with
 | nil=>cases e
 | cons b as ih =>
   unfold frag at e
   rw [List.filterMap_cons] at e
   cases q:h.get? b with
   | none =>
     rw [q] at e
     exact ih e
   | some x =>
     rw [q] at e
     replace e:List.lookup a ((b,x) :: frag as h)=some o:=e
     rw [List.lookup_cons] at e
     by_cases z:a=b
     · subst z
       rw [beq_self_eq_true a] at e
       cases e
       exact q
     · rw [beq_eq_false_iff_ne.mpr z] at e
       exact ih e
noncomputable abbrev FnO:=Str×Str×Arguments×FuncBody×Scope×Addr×List (Str×Addr)×Value×Addr×Bool
noncomputable def fnO (K:Frag) (f:Addr) (q:Str):Option FnO:=match K.lookup f with
 | some ⟨_,_,.func fd,_⟩=>some (fd.name,fd.qualname,fd.params,fd.body,fd.scope,fd.globals,fd.closure,fd.defaults,fd.builtins,codeIn K fd.code q)
 | _=>none
noncomputable def fnE (x q:Str) (st:Stmt):Option FnO:=some (x,q,dA st,.stmts (dB st),dS st,mainGlobals,[],.none,builtinsNs,true)
theorem fn_of {K:Frag} {f:Addr} {x q:Str} {st:Stmt} (h:fnO K f q=fnE x q st):∃ (oc:Value) (od:Option Addr) (kV doc pm:Value) (an:Option Addr) (cdv ct:Value) (osl:Array (Option Value)),
 K.lookup f=some ⟨oc,od,.func (fnOf x q (dA st) (dB st) (dS st) .none kV doc pm an cdv ct),osl⟩∧codeIn K cdv q=true:=by
 unfold fnO at h
 split at h
 · next oc od fd osl e =>
   obtain ⟨n,qn,pr,bd,sc,gl,cl,df,kd,dc,pm,an,cd,ct,bi⟩:=fd
   unfold fnE at h
   simp only [Option.some.injEq,Prod.mk.injEq] at h
   obtain ⟨rfl,rfl,rfl,rfl,rfl,rfl,rfl,rfl,rfl,hc⟩:=h
   exact ⟨oc,od,kd,dc,pm,an,cd,ct,osl,e,hc⟩
 · exact nomatch h
theorem fn_keep {K:Frag} {f:Addr} {x q:Str} {st:Stmt} (h:fnO K f q=fnE x q st):keepIn K (.ref f)=true:=by
 obtain ⟨oc,od,kV,doc,pm,an,cdv,ct,osl,e,_⟩:=fn_of h
 show (match K.lookup f with | some ⟨_,_,.func _,_⟩=>true | some ⟨_,_,.cls _,_⟩=>specialIn K (.ref f) "__call__" == some (some (.builtin "type.__call__")) | _=>false)=true
 rw [e]
noncomputable def mroK (K:Frag) (C:Addr):List Value:=match K.lookup C with
 | some ⟨_,_,.cls cd,_⟩=>cd.mro
 | _=>[]
noncomputable def excK (K:Frag) (C:Addr):Bool:=excIn K C [.type "ValueError",.type "Exception",.type "BaseException",.type "object"] "ValueError.__new__"
noncomputable def cw4 (K:Frag) (D:Addr):Bool:=findIn K (.ref D) "__getattribute__" == some (some (.builtin "BaseException.__getattribute__")) && (findIn K (.ref D) "__getattr__" == some none && (findIn K (.ref D) "__class__" == some (some (.builtin "object.__class__")) &&
 (specialIn K (.builtin "object.__class__") "__get__" == some (some (.builtin "getset_descriptor.__get__")) && (takesIn K (.builtin "object.__class__") == some true && (mroIn K D (.type "object") == some true && (mroIn K D (.type "BaseException") == some true && (clsIn K D).isSome))))))
noncomputable abbrev Ob:=List (Option (Option Value))×List (Option (Option Value))×List Bool×List (Option FnO)×List (Bool×List Value)×List (Option Bool)
noncomputable def cls (K:Frag) (C:Addr):Bool:=plainGet K C Str.empty && (hasDictIn K C && (plainOver K C && (makesIn K C && keepIn K (.ref C))))
noncomputable def obK (ns:List Str) (ms:List (Addr×Str)) (fs cs:List Addr) (ds:List (Addr×Str)) (es:List Addr) (ks:List (Addr×Value)) (K:Frag):Ob :=
 (ns.map (nsIn K mainGlobals),ms.map (fun p=>findIn K (.ref p.1) p.2),(fs.map fun f=>isFn K (.ref f)) ++ cs.map (cls K),ds.map (fun p=>fnO K p.1 p.2),es.map (fun C=>(excK K C && cw4 K C,mroK K C)),ks.map fun p=>kitOne K (.ref p.1) p.2)
noncomputable def ob (n:Nat) (ns:List Str) (ms:List (Addr×Str)) (fs cs:List Addr) (ds:List (Addr×Str)) (es:List Addr) (ks:List (Addr×Value)) (s:Shared):Ob:=obK ns ms fs cs ds es ks (frag (List.range n) s.heap)
theorem two {α β γ:Type} {o:Option α} {f:α→β} {g:α→γ} {a:β} {b:γ} (h1:o.map f=some a) (h2:o.map g=some b):o.map (fun s=>(f s,g s))=some (a,b):=by
 cases o with
 | none=>cases h1
 | some s=>cases h1; cases h2; rfl
theorem nth {α:Type} {l m:List α} (h:l=m) (i:Nat) {a b:α} (ha:l[i]?=some a) (hb:m[i]?=some b):a=b:=by
 subst h
 rw [ha] at hb
 exact Option.some.inj hb
theorem cls_of {K:Frag} {C:Addr} (h:cls K C=true):plainGet K C Str.empty=true∧hasDictIn K C=true∧plainOver K C=true∧makesIn K C=true∧keepIn K (.ref C)=true:=by
 unfold cls at h
 simpa only [Bool.and_eq_true] using h
theorem walkX {q:Program} {loose:List Str} {XP:(Str→Option Value)→Heap→Prop} {n:Nat} {ns:List Str} {ms:List (Addr×Str)} {fs cs:List Addr} {ds:List (Addr×Str)} {es:List Addr} {ks:List (Addr×Value)} {E:Ob} {r:RowW} {d:DefRec} {kwd:List (Str×Expr)} {run:Value→List Value→Sem Value}
 (W:∀ K:Frag,obK ns ms fs cs ds es ks K=E→WalkO q loose XP (fun _ h=>K.In h) r d kwd run):WalkX q loose XP (ob n ns ms fs cs ds es ks) (fun _=>E) r d kwd run :=
 fun w s0 s1 mg mb G y a o pm cd doc dV kV h1 h2 h3 h4 h5 h6 args vals as1 L b1 b2 b3 b4 b5=>W _ y w s0 s1 mg mb G ((cg0 _ _).keeps L.keeps) a o pm cd doc dV kV h1 h2 h3 h4 h5 h6 args vals as1 b1 b2 b3 b4 b5
end HD
set_option maxHeartbeats 4000000
namespace K21
open PySem PySem.W PyProof.Rows
theorem hd0 (h:PySem.Challenge.rw_heraldways_k21_rings_of_wishes.row.wellSaid=true→PySem.Challenge.rw_heraldways_k21_rings_of_wishes.row.Holds):PySem.Challenge.rw_heraldways_k21_rings_of_wishes.Holds:=by
 w_on; o_law; exact h (by assumption)
noncomputable abbrev qP (p:Program):Program:=view p [0,2,3,4,5,6,8,9,10,11,13,14,15,16,17,18,20,21,22,23,24,25,26,28,29,30,31,32,33,34,35]
noncomputable def nsL:List Str := "Guild" :: "_law_cell_at" :: "_law_order" :: "_law_table_of" :: "_law_whole" :: "best_road" :: "next_houses_of" :: "require_within" :: "road_by" :: "rows_with_ends" :: "_law_same_road" :: "may_take" :: "require_told_houses" :: "table_by" :: "_law_same_table" :: "rows_of_next_houses" :: "_law_guild_of" :: "standing" :: "choice_among" :: "first_unsettled" :: "settled_tables" :: "law" :: "SEAT" :: "MOST_HOUSES" :: "MOST_FOR_TABLES" :: "len" :: "range" :: "min" :: "max" :: "set" :: "list" :: "tuple" :: "isinstance" :: "bool" :: "int" :: "any" :: []
noncomputable def msL:List (Addr×Str):=(228, "__init__") :: (228, "houses_paired") :: (228, "shuns_one_of") :: (228, "size") :: (228, "require_houses") :: (228, "has_way") :: (228, "liking") :: (228, "neighbours") :: (228, "require_long_road") :: (228, "require_two_houses") :: (228, "lay_way") :: (228, "rank_of") :: (228, "wish") :: (228, "__setattr__") :: (228, "house_count") :: (228, "ways") :: (228, "likings") :: (228, "shuns") :: (228, "wish_ranks") :: []
noncomputable def fsL:List Addr:=[103,192,204,110,211,124,152,117,225,218,131,187,173]
noncomputable def csL:List Addr:=[228]
noncomputable def dsL:List (Addr×Str):=(103, "Guild.__init__") :: (192, "Guild.houses_paired") :: (204, "Guild.shuns_one_of") :: (110, "Guild.size") :: (313, "_law_cell_at") :: (339, "_law_order") :: (351, "_law_table_of") :: (320, "_law_whole") :: (270, "best_road") :: (306, "next_houses_of") :: (89, "require_within") :: (301, "road_by") :: (289, "rows_with_ends") :: (211, "Guild.require_houses") :: (327, "_law_same_road") :: (263, "may_take") :: (251, "require_told_houses") :: (294, "table_by") :: (124, "Guild.has_way") :: (152, "Guild.liking") :: (117, "Guild.neighbours") :: (225, "Guild.require_long_road") :: (218, "Guild.require_two_houses") :: (334, "_law_same_table") :: (131, "Guild.lay_way") :: (187, "Guild.rank_of") :: (173, "Guild.wish") :: (284, "rows_of_next_houses") :: (346, "_law_guild_of") :: (244, "standing") :: (256, "choice_among") :: (237, "first_unsettled") :: (277, "settled_tables") :: (356, "law") :: []
noncomputable def esL:List Addr:=[]
noncomputable def ksL:List (Addr×Value):=[]
noncomputable def xpL (p:Program):HD.Ob:=(some (some (.ref 228)) :: some (some (.ref 313)) :: some (some (.ref 339)) :: some (some (.ref 351)) :: some (some (.ref 320)) :: some (some (.ref 270)) :: some (some (.ref 306)) :: some (some (.ref 89)) :: some (some (.ref 301)) :: some (some (.ref 289)) :: some (some (.ref 327)) :: some (some (.ref 263)) :: some (some (.ref 251)) :: some (some (.ref 294)) :: some (some (.ref 334)) :: some (some (.ref 284)) :: some (some (.ref 346)) :: some (some (.ref 244)) :: some (some (.ref 256)) :: some (some (.ref 237)) :: some (some (.ref 277)) :: some (some (.ref 356)) :: some (some (.int 0 280)) :: some (some (.int 60 282)) :: some (some (.int 5 523)) :: some none :: some none :: some none :: some none :: some none :: some none :: some none :: some none :: some none :: some none :: some none :: [],some (some (.ref 103)) :: some (some (.ref 192)) :: some (some (.ref 204)) :: some (some (.ref 110)) :: some (some (.ref 211)) :: some (some (.ref 124)) :: some (some (.ref 152)) :: some (some (.ref 117)) :: some (some (.ref 225)) :: some (some (.ref 218)) :: some (some (.ref 131)) :: some (some (.ref 187)) :: some (some (.ref 173)) :: some (some (.builtin "object.__setattr__")) :: some none :: some none :: some none :: some none :: some none :: [],true :: true :: true :: true :: true :: true :: true :: true :: true :: true :: true :: true :: true :: true :: [],HD.fnE "__init__" "Guild.__init__" (HD.iC (HD.top p 11) 0) :: HD.fnE "houses_paired" "Guild.houses_paired" (HD.iC (HD.top p 11) 13) :: HD.fnE "shuns_one_of" "Guild.shuns_one_of" (HD.iC (HD.top p 11) 15) :: HD.fnE "size" "Guild.size" (HD.iC (HD.top p 11) 1) :: HD.fnE "_law_cell_at" "_law_cell_at" (HD.top p 28) :: HD.fnE "_law_order" "_law_order" (HD.top p 32) :: HD.fnE "_law_table_of" "_law_table_of" (HD.top p 34) :: HD.fnE "_law_whole" "_law_whole" (HD.top p 29) :: HD.fnE "best_road" "best_road" (HD.top p 18) :: HD.fnE "next_houses_of" "next_houses_of" (HD.top p 26) :: HD.fnE "require_within" "require_within" (HD.top p 10) :: HD.fnE "road_by" "road_by" (HD.top p 25) :: HD.fnE "rows_with_ends" "rows_with_ends" (HD.top p 23) :: HD.fnE "require_houses" "Guild.require_houses" (HD.iC (HD.top p 11) 16) :: HD.fnE "_law_same_road" "_law_same_road" (HD.top p 30) :: HD.fnE "may_take" "may_take" (HD.top p 17) :: HD.fnE "require_told_houses" "require_told_houses" (HD.top p 15) :: HD.fnE "table_by" "table_by" (HD.top p 24) :: HD.fnE "has_way" "Guild.has_way" (HD.iC (HD.top p 11) 3) :: HD.fnE "liking" "Guild.liking" (HD.iC (HD.top p 11) 7) :: HD.fnE "neighbours" "Guild.neighbours" (HD.iC (HD.top p 11) 2) :: HD.fnE "require_long_road" "Guild.require_long_road" (HD.iC (HD.top p 11) 18) :: HD.fnE "require_two_houses" "Guild.require_two_houses" (HD.iC (HD.top p 11) 17) :: HD.fnE "_law_same_table" "_law_same_table" (HD.top p 31) :: HD.fnE "lay_way" "Guild.lay_way" (HD.iC (HD.top p 11) 4) :: HD.fnE "rank_of" "Guild.rank_of" (HD.iC (HD.top p 11) 12) :: HD.fnE "wish" "Guild.wish" (HD.iC (HD.top p 11) 10) :: HD.fnE "rows_of_next_houses" "rows_of_next_houses" (HD.top p 22) :: HD.fnE "_law_guild_of" "_law_guild_of" (HD.top p 33) :: HD.fnE "standing" "standing" (HD.top p 14) :: HD.fnE "choice_among" "choice_among" (HD.top p 16) :: HD.fnE "first_unsettled" "first_unsettled" (HD.top p 13) :: HD.fnE "settled_tables" "settled_tables" (HD.top p 21) :: HD.fnE "law" "law" (HD.top p 35) :: [],[],[])
theorem left1 (w:World):(openEnds treeTable PySem.Challenge.pw_heraldways_k21_rings_of_wishes w 5228).map (openSeen (qP PySem.Challenge.pw_heraldways_k21_rings_of_wishes) [] (importedModules PySem.Challenge.pw_heraldways_k21_rings_of_wishes.main.body) (fun s=>xlAt (qP PySem.Challenge.pw_heraldways_k21_rings_of_wishes) [] s && recOk (RowW.records PySem.Challenge.rw_heraldways_k21_rings_of_wishes.row.toRowW) s) true)=some (openGood (qP PySem.Challenge.pw_heraldways_k21_rings_of_wishes) []):=by
 rw [Fast.te14364793385576792824,Fast.te4187177175401517315,Fast.te5923862056798008813,Fast.te812610748335911687]
 kernel_rfl
theorem left2 (w:World):(openEnds treeTable PySem.Challenge.pw_heraldways_k21_rings_of_wishes w 5228).map (HD.ob 357 nsL msL fsL csL dsL esL ksL)=some (xpL PySem.Challenge.pw_heraldways_k21_rings_of_wishes):=by
 rw [Fast.te14364793385576792824,Fast.te812610748335911687]
 kernel_rfl
end K21
namespace L2
open PySem PySem.Spec PyProof.Rows
noncomputable abbrev Key:=Sum Int Str
noncomputable def bf4:Key→Value→Bool
 | .inl k,v=>Value.isInt k v
 | .inr x,v=>Value.isStrOf x v
noncomputable def keyH (w:World):Key→Int
 | .inl k=>hashInt k
 | .inr x=>hashStr w x
theorem ad9:∀ {k:Key} {v:Value},bf4 k v=true→(∃ i t,k=Sum.inl i∧v=Value.int i t)∨(∃ x t,k=Sum.inr x∧v=Value.str x t)
 | .inl i,v,h=>by
   obtain ⟨t,e⟩:=Value.isInt_shape (k:=i) (v:=v) h
   exact .inl ⟨i,t,rfl,e⟩
 | .inr x,v,h=>by
   obtain ⟨t,e⟩:=Value.isStrOf_shape (x:=x) (v:=v) h
   exact .inr ⟨x,t,rfl,e⟩
theorem bp1 (i:Int) (t:Tok):bf4 (.inl i) (.int i t)=true:=by simp [bf4,Value.isInt]
theorem bp0 (x:Str) (t:Tok):bf4 (.inr x) (.str x t)=true:=by simp [bf4,Value.isStrOf]
theorem cv6 (a b:Int):decide ((Sum.inl a:Key)=Sum.inl b)=(a == b):=by
 by_cases e:a=b
 · subst e; simp
 · have h:¬ (Sum.inl a:Key)=Sum.inl b:=fun q=>e (Sum.inl.inj q)
   rw [decide_eq_false h]
   exact (beq_eq_false_iff_ne.mpr e).symm
theorem cv3 (a b:Str):decide ((Sum.inr a:Key)=Sum.inr b)=decide (a=b):=by
 by_cases e:a=b
 · subst e; simp
 · have h:¬ (Sum.inr a:Key)=Sum.inr b:=fun q=>e (Sum.inr.inj q)
   rw [decide_eq_false h,decide_eq_false e]
theorem cv5 (a:Int) (b:Str):decide ((Sum.inl a:Key)=Sum.inr b)=false:=decide_eq_false (fun q=>nomatch q)
theorem cv4 (a:Str) (b:Int):decide ((Sum.inr a:Key)=Sum.inl b)=false:=decide_eq_false (fun q=>nomatch q)
noncomputable def ae5 (prog:Program) (w:World):PySem.KeyKind prog w Key where
 is:=bf4
 hash:=keyH w
 inj:=fun v a b ha hb=>by
  rcases ad9 ha with ⟨i,t,rfl,rfl⟩ | ⟨x,t,rfl,rfl⟩
  · rcases ad9 hb with ⟨j,u,rfl,e⟩ | ⟨y,u,rfl,e⟩
    · injection e with e1 _; rw [e1]
    · exact nomatch e
  · rcases ad9 hb with ⟨j,u,rfl,e⟩ | ⟨y,u,rfl,e⟩
    · exact nomatch e
    · injection e with e1 _; rw [e1]
 byValue:=fun k v h=>by
  rcases ad9 h with ⟨i,t,rfl,rfl⟩ | ⟨x,t,rfl,rfl⟩ <;> rfl
 pyHash:=fun hv h=>by
  rcases ad9 hv with ⟨i,t,rfl,rfl⟩ | ⟨x,t,rfl,rfl⟩
  · exact wpAny_pyHash_int h
  · exact wpAny_pyHash_str h
 eqBool:=fun hu hv h=>by
  rcases ad9 hu with ⟨i,t,rfl,rfl⟩ | ⟨x,t,rfl,rfl⟩
  · rcases ad9 hv with ⟨j,u,rfl,rfl⟩ | ⟨y,u,rfl,rfl⟩
    · rw [cv6] at h; exact wpAny_eqBool_int h
    · rw [cv5] at h; exact SeqAt.EqAt.int_str i t y u _ _ _ _ h
  · rcases ad9 hv with ⟨j,u,rfl,rfl⟩ | ⟨y,u,rfl,rfl⟩
    · rw [cv4] at h; exact SeqAt.EqAt.str_int x t j u _ _ _ _ h
    · rw [cv3] at h; exact wpAny_eqBool_str h
 «strs»:=fun k x t v h=>by
  rcases ad9 h with ⟨i,u,rfl,e⟩ | ⟨y,u,rfl,e⟩
  · exact nomatch e
  · injection e with e1 _
    subst e1
    cases v <;> rfl
theorem aS0 (prog:Program) (w:World) (i:Int) (t:Tok):(ae5 prog w).is (.inl i) (.int i t)=true:=bp1 i t
theorem aR9 (prog:Program) (w:World) (x:Str) (t:Tok):(ae5 prog w).is (.inr x) (.str x t)=true:=bp0 x t
inductive V where
 | non | bl (b:Bool) | int (i:Int) | str (x:Str) | byt (b:Array UInt8) | flt (b:UInt64) | ref (a:Addr) | ty (n:String)
 deriving DecidableEq
noncomputable def RelV:V→Value→Prop
 | .non,u=>u=Value.none
 | .bl b,u=>u=Value.bool b
 | .int i,u=>∃ t,u=Value.int i t
 | .str x,u=>∃ t,u=Value.str x t
 | .byt b,u=>∃ t,u=Value.bytes b t
 | .flt b,u=>∃ t,u=Value.float b t
 | .ref a,u=>u=Value.ref a
 | .ty n,u=>u=Value.type n
noncomputable abbrev Vals:List V→List Value→Prop:=Paired RelV
theorem Vals.length {xs:List V} {us:List Value} (r:Vals xs us):xs.length=us.length:=Paired.length r
theorem Vals.get:∀ {xs:List V} {us:List Value} {i:Nat} {x:V},Vals xs us→xs[i]?=some x→∃ u,us[i]?=some u∧RelV x u
 | _,_,_,_,.nil,e=>by simp at e
 | _,_,0,_,.cons r _,e=>by simp at e; subst e; exact ⟨_,rfl,r⟩
 | _,_,i + 1,x,.cons _ t,e=>by
   obtain ⟨u,h1,h2⟩:=Vals.get (i:=i) (x:=x) t (by simpa using e)
   exact ⟨u,by simpa using h1,h2⟩
theorem Vals.set {x:V} {u:Value} (r:RelV x u):∀ {xs:List V} {us:List Value} (i:Nat),Vals xs us→Vals (xs.set i x) (us.set i u)
 | _,_,_,.nil=> .nil
 | _,_,0,.cons _ t=> .cons r t
 | _,_,i + 1,.cons q t=> .cons q (Vals.set r i t)
theorem Vals.append:∀ {xs ys:List V} {us ws:List Value},Vals xs us→Vals ys ws→Vals (xs ++ ys) (us ++ ws)
 | _,_,_,_,.nil,s=>s
 | _,_,_,_,.cons r t,s=> .cons r (Vals.append t s)
theorem Vals.take:∀ {xs:List V} {us:List Value} (n:Nat),Vals xs us→Vals (xs.take n) (us.take n)
 | _,_,0,_=> .nil
 | _,_,_ + 1,.nil=> .nil
 | _,_,n + 1,.cons r t=> .cons r (Vals.take n t)
theorem Vals.drop:∀ {xs:List V} {us:List Value} (n:Nat),Vals xs us→Vals (xs.drop n) (us.drop n)
 | _,_,0,r=>r
 | _,_,_ + 1,.nil=> .nil
 | _,_,n + 1,.cons _ t=>Vals.drop n t
noncomputable def RelO:Option V→Option Value→Prop
 | some v,some u=>RelV v u
 | none,none=>True
 | _,_=>False
noncomputable def KV {κ:Type}:List (κ×V)→List (κ×Value)→Prop:=Paired fun (p:κ×V) (q:κ×Value)=>p.1=q.1∧RelV p.2 q.2
noncomputable def kV:Key→V
 | .inl i=> .int i
 | .inr x=> .str x
inductive HO where
 /-- a list -/
 | lst (xs:List V)
 /-- a tuple (never changes) -/
 | tup (xs:List V)
 /-- a dict whose keys are ints and texts; one whose keys are tuples of ints and texts (the empty one is both) -/
 | dK (kvs:List (Key×V)) | dT (kvs:List (List Key×V))
 /-- a set of ints: its members,its size -/
 | set (S:Int→Bool) (n:Nat)
 /-- an instance of the class at C,its dict at dx,its attributes -/
 | ins (C dx:Addr) (fs:List (Str×V))
 /-- the dict of the instance at x -/
 | own (x:Addr)
 /-- the dict of an exception -/
 | xd (fs:List (Str×V))
 /-- a bound method,f of x -/
 | met (f x:Addr)
 /-- a range object lo,lo + 1,.. below hi -/
 | rng (lo hi:Int)
 /-- a thing that is known to the object (the script; a dict while a loop walks it): read,never written while it is so -/
 | frz (o:Obj) (u:HO)
 /-- a code object's table: at each of these places nothing,or a code of that name -/
 | tbl (l:List (Pos×Str))
 /-- any other thing,by what is true of its one object (a def of one's own: SetO a S n:=HO.ext fun h=> ..) -/
 | ext (φ:Heap→Prop)
noncomputable abbrev Hp:=Addr→Option HO
noncomputable def upd (H:Hp) (a:Addr) (o:HO):Hp:=fun b=>if b=a then some o else H b
theorem ac4 {H:Hp} {a:Addr} {o:HO}:upd H a o a=some o:=by unfold upd; rw [if_pos rfl]
theorem ac3 {H:Hp} {a b:Addr} {o:HO} (h:b≠a):upd H a o b=H b:=by unfold upd; rw [if_neg h]
theorem cb3 {H:Hp} {a b:Addr} {o u:HO} (h:H a=some o) (h':H b=some u) (d:o≠u):a≠b:=by
 intro e; subst e; rw [h] at h'; exact d (Option.some.inj h')
theorem ac7 {H:Hp} {a b:Addr} {o:HO} (h:H a=some o) (h':H b=none):a≠b:=by
 intro e; subst e; rw [h] at h'; cases h'
section
variable (P:Program) (w:World)
noncomputable def ObjOk (H:Hp) (h:Heap) (a:Addr):HO→Prop
 | .lst xs=>xs.length≤sizeLine∧∃ (its:List Value) (n:Nat),Vals xs its∧h.get? a=some { cls:= .type "list",data:= .seq its.toArray n }
 | .tup xs=>xs.length≤sizeLine∧∃ its:List Value,Vals xs its∧IsTup h a its.toArray
 | .dK kvs=>kvs.length≤sizeLine∧(a == sysModules)=false∧∃ vs,KV kvs vs∧h.DictOf (ae5 P w) a vs
 | .dT kvs=>kvs.length≤sizeLine∧(a == sysModules)=false∧∃ xs:List (List Key×Addr×Value),
    Paired (fun (p:List Key×V) (q:List Key×Addr×Value)=>p.1=q.1∧H q.2.1=some (.tup (p.1.map kV))∧RelV p.2 q.2.2) kvs xs ∧
    ∃ o es ep,h.get? a=some o∧o.ExactDict∧o.data= .dict es ep∧es.toList=xs.map (entryOfKey (tupleKind (ae5 P w)))∧(xs.map (·.1)).Nodup
 | .set S n=>h.SetOf (intKind P w) a S n
 | .ins C dx fs=>H dx=some (.own a)∧fs.length≤1000∧dx≠a∧h.get? a=some (PySem.W.instObj C dx) ∧
    ∃ mA,h.Ns1 dx mA∧(∀ f,RelO (fs.lookup f) (mA f))∧PySem.Within mA (fs.map (·.1))
 | .own _=>∃ o,h.get? a=some o
 | .xd fs=>∃ mA,h.Ns1 a mA∧∀ f,RelO (fs.lookup f) (mA f)
 | .rng lo hi=>∃ t u v,h.get? a=some { cls:= .type "range",data:= .fields #[.int lo t,.int hi u,.int 1 v] }
 | .frz o u=>h.get? a=some o∧ObjOk H h a u
 | .tbl l=>(∀ y∈l,∀ z∈l,y.1.line=z.1.line→y.1.col=z.1.col→y.2=z.2)∧∃ ps:Array Value,h.get? a=some { cls:= .none,data:= .fields ps }∧TriplesOk ps.toList∧∀ x∈l,codeAmong x.1 ps.toList=none∨∃ c,codeAmong x.1 ps.toList=some (.ref c)∧H c=some (.own a)∧h.CodeRec (.ref c) x.2
 | .met f x=>h.get? a=some (PySem.W.methodObj (.ref f) (.ref x))
 | .ext φ=>φ h∧(∃ o,h.get? a=some o)∧∀ h1 h2:Heap,φ h1→(∀ o,h1.get? a=some o→h2.get? a=some o)→φ h2
noncomputable def HOk (H:Hp) (h:Heap):Prop:=∀ a o,H a=some o→ObjOk P w H h a o
end
section
variable {P:Program} {w:World} {H H':Hp} {h h':Heap} {a:Addr} {o:HO}
theorem ObjOk.lt (x:ObjOk P w H h a o):a < h.objs.size:=by
 cases o with
 | lst xs=>obtain ⟨_,_,_,_,e⟩:=x; exact Heap.lt_size e
 | tup xs=>obtain ⟨_,_,_,p⟩:=x; exact p.lt
 | dK kvs=>obtain ⟨_,_,_,_,o,_,_,e,_⟩:=x; exact Heap.lt_size e
 | dT kvs=>obtain ⟨_,_,_,_,o,_,_,e,_⟩:=x; exact Heap.lt_size e
 | set S n=>obtain ⟨o,_,_,_,e,_⟩:=x; exact Heap.lt_size e
 | ins C dx fs=>obtain ⟨_,_,_,e,_⟩:=x; exact Heap.lt_size e
 | own y=>obtain ⟨_,e⟩:=x; exact Heap.lt_size e
 | xd fs=>obtain ⟨_,⟨_,_,_,e,_⟩,_⟩:=x; exact Heap.lt_size e
 | rng lo hi=>obtain ⟨_,_,_,e⟩:=x; exact Heap.lt_size e
 | frz ob u=>obtain ⟨e,_⟩:=x; exact Heap.lt_size e
 | tbl l=>obtain ⟨_,_,e,_⟩:=x; exact Heap.lt_size e
 | met f y=>exact Heap.lt_size (show h.get? a=some _ from x)
 | ext φ=>obtain ⟨_,⟨_,e⟩,_⟩:=x; exact Heap.lt_size e
theorem Paired.mapP {α β:Type} {F G:α→β→Prop}:∀ {l₁:List α} {l₂:List β},Paired F l₁ l₂→(∀ a b,F a b→G a b)→Paired G l₁ l₂
 | _,_,.nil,_=> .nil
 | _,_,.cons r t,f=> .cons (f _ _ r) (Paired.mapP t f)
theorem ObjOk.stay (x:ObjOk P w H h a o) (k:∀ b u,(b=a∨H b=some (.own a))→h.get? b=some u→h'.get? b=some u)
 (ho:∀ b,H b=some (.own a)→H' b=some (.own a)) (ht:∀ b xs,H b=some (.tup xs)→H' b=some (.tup xs)):ObjOk P w H' h' a o:=by
 induction o with
 | lst xs=>obtain ⟨z,its,n,r,e⟩:=x; exact ⟨z,its,n,r,k _ _ (.inl rfl) e⟩
 | tup xs=>obtain ⟨z,its,r,ob,e,c⟩:=x; exact ⟨z,its,r,ob,k _ _ (.inl rfl) e,c⟩
 | dK kvs=>obtain ⟨z,y,vs,r,ob,es,ep,e,c⟩:=x; exact ⟨z,y,vs,r,ob,es,ep,k _ _ (.inl rfl) e,c⟩
 | dT kvs =>
   obtain ⟨z,y,xs,r,ob,es,ep,e,c⟩:=x
   exact ⟨z,y,xs,Paired.mapP r fun p q z=>⟨z.1,ht _ _ z.2.1,z.2.2⟩,ob,es,ep,k _ _ (.inl rfl) e,c⟩
 | set S n=>obtain ⟨ob,es,ep,t,e,c⟩:=x; exact ⟨ob,es,ep,t,k _ _ (.inl rfl) e,c⟩
 | ins C dx fs =>
   obtain ⟨d,z,ne,e,mA,⟨od,es,ep,e2,c⟩,r⟩:=x
   exact ⟨ho _ d,z,ne,k _ _ (.inl rfl) e,mA,⟨od,es,ep,k _ _ (.inr d) e2,c⟩,r⟩
 | own y=>obtain ⟨ob,e⟩:=x; exact ⟨ob,k _ _ (.inl rfl) e⟩
 | xd fs=>obtain ⟨mA,⟨od,es,ep,e,c⟩,r⟩:=x; exact ⟨mA,⟨od,es,ep,k _ _ (.inl rfl) e,c⟩,r⟩
 | rng lo hi=>obtain ⟨t,u,v,e⟩:=x; exact ⟨t,u,v,k _ _ (.inl rfl) e⟩
 | frz ob u ih=>obtain ⟨e,q⟩:=x; exact ⟨k _ _ (.inl rfl) e,ih q⟩
 | tbl l =>
   obtain ⟨cl,ps,e,t,q⟩:=x
   refine ⟨cl,ps,k _ _ (.inl rfl) e,t,fun y hy=>?_⟩
   rcases q y hy with z | ⟨c,z,hc,⟨c',o,vs,tt,ec,g,r⟩⟩
   · exact .inl z
   · cases ec
     exact .inr ⟨c,z,ho _ hc,⟨c,o,vs,tt,rfl,k _ _ (.inr hc) g,r⟩⟩
 | met f y =>
   have e:h.get? a=some (PySem.W.methodObj (.ref f) (.ref y)):=x
   show h'.get? a=some (PySem.W.methodObj (.ref f) (.ref y))
   exact k a _ (.inl rfl) e
 | ext φ=>obtain ⟨p,⟨o,e⟩,st⟩:=x; exact ⟨st _ _ p fun o q=>k _ _ (.inl rfl) q,⟨o,k _ _ (.inl rfl) e⟩,st⟩
theorem HOk.lt (x:HOk P w H h) (e:H a=some o):a < h.objs.size:=(x a o e).lt
theorem HOk.fresh (x:HOk P w H h) (e:h.objs.size≤a):H a=none:=by
 cases q:H a with
 | none=>rfl
 | some u=>exact absurd (Nat.lt_of_lt_of_le (x.lt q) e) (Nat.lt_irrefl _)
theorem HOk.kept (x:HOk P w H h) (k:∀ b u,h.get? b=some u→h'.get? b=some u):HOk P w H h':=fun a o e =>
 (x a o e).stay (fun b u _ q=>k b u q) (fun _ q=>q) fun _ _ q=>q
theorem HOk.laid (x:HOk P w H h) (k:∀ b u,h.get? b=some u→h'.get? b=some u) (hp:h.objs.size≤a) (new:ObjOk P w (upd H a o) h' a o):HOk P w (upd H a o) h':=fun b u e=>by
 have hn:=x.fresh hp
 by_cases hb:b=a
 · subst hb; rw [ac4] at e; cases e; exact new
 · rw [ac3 hb] at e
   exact (x b u e).stay (fun c v _ q=>k c v q) (fun c q=>by rw [ac3 (ac7 q hn)]; exact q) fun c xs q=>by rw [ac3 (ac7 q hn)]; exact q
end
noncomputable def Rd (H:Hp) (a:Addr) (u:HO):Prop:=H a=some u∨∃ o,H a=some (.frz o u)
theorem Rd.ok {P:Program} {w:World} {H:Hp} {h:Heap} {a:Addr} {u:HO} (r:Rd H a u) (x:HOk P w H h):ObjOk P w H h a u:=by
 rcases r with r | ⟨o,r⟩
 · exact x a u r
 · obtain ⟨_,q⟩:=x a _ r
   exact q
noncomputable def Mut:Option HO→Prop
 | some (.lst _)=>True
 | some (.dK _)=>True
 | some (.dT _)=>True
 | some (.set _ _)=>True
 | some (.ins _ _ _)=>True
 | some (.ext _)=>True
 | _=>False
section
variable {P:Program} {w:World} {H:Hp} {h h':Heap} {x e:Addr} {o':HO}
theorem HOk.write (ok:HOk P w H h) (mu:Mut (H x)) (he:e=x∨H e=some (.own x)) (k:∀ b u,b≠e→h.get? b=some u→h'.get? b=some u) (heo:∃ u,h'.get? e=some u)
 (new:ObjOk P w (upd H x o') h' x o'):HOk P w (upd H x o') h':=fun b u q=>by
 have nown:∀ c y,H c=some (.own y)→c≠x:=fun c y r z=>by subst z; rw [r] at mu; exact mu
 have ntup:∀ c xs,H c=some (.tup xs)→c≠x:=fun c xs r z=>by subst z; rw [r] at mu; exact mu
 by_cases hb:b=x
 · subst hb; rw [ac4] at q; cases q; exact new
 · rw [ac3 hb] at q
   by_cases hbe:b=e
   · have q':H b=some (.own x):=by
      rcases he with z | z
      · exact absurd (hbe.trans z) hb
      · rw [hbe]; exact z
     rw [q] at q'; cases q'
     obtain ⟨v,hv⟩:=heo
     exact ⟨v,by rw [hbe]; exact hv⟩
   · refine (ok b u q).stay (fun c v hc r=>k c v ?_ r) (fun c r=>by rw [ac3 (nown c b r)]; exact r) fun c xs r=>by rw [ac3 (ntup c xs r)]; exact r
     rcases hc with rfl | hc
     · exact hbe
     · rintro rfl
       rcases he with z | z
       · exact nown c b hc z
       · rw [hc] at z; cases z; exact hb rfl
end
structure Un (fs ex:List Addr) (H H':Hp) (h h':Heap):Prop where
 keep:∀ b o,h.get? b=some o→H b=none→b∉fs→b∉ex→h'.get? b=some o
 slot:∀ b o,h.get? b=some o→H b=none→b∈fs→b∉ex→∃ sl,h'.get? b=some { o with slots:=sl }
 free:∀ b o,h.get? b=some o→H b=none→b∉ex→H' b=none
 there:∀ b o,h.get? b=some o→b∉ex→∃ o',h'.get? b=some o'
 tups:∀ b xs,H b=some (.tup xs)→H' b=some (.tup xs)
 frzs:∀ b o u,H b=some (.frz o u)→H' b=some (.frz o u)
 tbls:∀ b l,H b=some (.tbl l)→H' b=some (.tbl l)∧∀ c o,H c=some (.own b)→h.get? c=some o→H' c=some (.own b)∧h'.get? c=some o
section
variable {fs fs' ex ex':List Addr} {H H1 H2:Hp} {h h1 h2 h':Heap} {a x e:Addr} {o:HO}
theorem Un.any (u:Un fs ex H H1 h h1) {b:Addr} {ob:Obj} (q:h.get? b=some ob) (n:H b=none) (hx:b∉ex):∃ sl,h1.get? b=some { ob with slots:=sl }:=by
 by_cases hb:b∈fs
 · exact u.slot b ob q n hb hx
 · exact ⟨ob.slots,u.keep b ob q n hb hx⟩
theorem Un.kept (k:∀ b u,h.get? b=some u→h'.get? b=some u):Un fs ex H H h h' :=
 ⟨fun b ob q _ _ _=>k b ob q,fun b ob q _ _ _=>⟨ob.slots,k b ob q⟩,fun _ _ _ n _=>n,fun b ob q _=>⟨ob,k b ob q⟩,fun _ _ q=>q,fun _ _ _ q=>q,fun _ _ q=>⟨q,fun c o e1 e2=>⟨e1,k c o e2⟩⟩⟩
theorem Un.refl:Un fs ex H H h h:=Un.kept fun _ _ q=>q
theorem Un.laid (k:∀ b u,h.get? b=some u→h'.get? b=some u) (hp:h.objs.size≤a) (hn:H a=none):Un fs ex H (upd H a o) h h' where
 keep:=fun b u q _ _ _=>k b u q
 slot:=fun b u q _ _ _=>⟨u.slots,k b u q⟩
 free:=fun b u q n _=>by rw [ac3 (Nat.ne_of_lt (Nat.lt_of_lt_of_le (Heap.lt_size q) hp))]; exact n
 there:=fun b u q _=>⟨u,k b u q⟩
 tups:=fun b xs q=>by rw [ac3 (ac7 q hn)]; exact q
 frzs:=fun b u xs q=>by rw [ac3 (ac7 q hn)]; exact q
 tbls:=fun b xs q=>⟨by rw [ac3 (ac7 q hn)]; exact q,fun c o e1 e2=>⟨by rw [ac3 (ac7 e1 hn)]; exact e1,k c o e2⟩⟩
theorem Un.write (mu:Mut (H x)) (he:e=x∨H e=some (.own x)) (k:∀ b u,b≠e→h.get? b=some u→h'.get? b=some u) (heo:∃ u,h'.get? e=some u):Un fs ex H (upd H x o) h h':=by
 have hx:∀ b,H b=none→b≠x:=fun b n z=>by subst z; rw [n] at mu; exact mu
 have hb:∀ b,H b=none→b≠e:=fun b n z=>by
  subst z
  rcases he with r | r
  · exact hx b n r
  · rw [n] at r; cases r
 have hm:∀ b u,H b=some u→¬ Mut (some u)→b≠x:=fun b u q nm z=>by subst z; rw [q] at mu; exact nm mu
 refine ⟨fun b u q n _ _=>k b u (hb b n) q,fun b u q n _ _=>⟨u.slots,k b u (hb b n) q⟩,fun b u q n _=>by rw [ac3 (hx b n)]; exact n,fun b u q _=>?_,
  fun b xs q=>by rw [ac3 (hm b _ q fun z=>z)]; exact q,fun b u xs q=>by rw [ac3 (hm b _ q fun z=>z)]; exact q,fun b ps q=>⟨by rw [ac3 (hm b _ q fun z=>z)]; exact q,fun c o e1 e2=>⟨by rw [ac3 (hm c _ e1 fun z=>z)]; exact e1,k c o (fun z=>by
   rcases he with r | r
   · exact hm c _ e1 (fun z=>z) (z.trans r)
   · rw [← z,e1] at r; cases r; rw [q] at mu; exact mu) e2⟩⟩⟩
 by_cases hbe:b=e
 · subst hbe; exact heo
 · exact ⟨u,k b u hbe q⟩
end
noncomputable def trk (h:Heap) (H:Hp):List Addr:=(List.range h.objs.size).filter fun a=>(H a).isSome
noncomputable def hidT (h:Heap) (H:Hp):Heap:=PySem.W.hideAll h (trk h H)
theorem bp8 (h:Heap) (H:Hp):(hidT h H).objs.size=h.objs.size:=PySem.W.hideAll_size _ _
theorem bG0 {h:Heap} {H:Hp} {b:Addr} {o:Obj} (e:h.get? b=some o) (n:H b=none):(hidT h H).get? b=some o :=
 PySem.W.hideAll_get _ e fun hm=>by
  have q:(H b).isSome=true:=(List.mem_filter.mp hm).2
  rw [n] at q; simp at q
theorem cb0 {h:Heap} {H:Hp} {b:Addr} {o:Obj} (e:(hidT h H).get? b=some o):h.get? b=some o∧H b=none:=by
 have e':h.get? b=some o:=PySem.W.of_hideAll (trk h H) e
 refine ⟨e',?_⟩
 cases q:H b with
 | none=>rfl
 | some x =>
   have hm:b∈trk h H:=List.mem_filter.mpr ⟨List.mem_range.mpr (Heap.lt_size e'),by simp [q]⟩
   have z:(hidT h H).get? b=none:=PySem.W.hideAll_none (trk h H) hm
   rw [z] at e; cases e
noncomputable def cj6 (g h:Heap) (L:Addr):List (Addr×Obj):=(List.range h.objs.size).filterMap fun a=>if a=L∨(g.get? a).isSome=true then none else (h.get? a).map fun o=>(a,o)
noncomputable def rest (g h:Heap) (L d:Addr):List (Addr×Obj):=(cj6 g h L).filter fun p=>decide (p.1≠d)
structure Mod (K:PySem.W.Frag) (mg:Str→Option Value) (base:Heap):Prop where
 kin:K.In base
 glob:base.Ns mainGlobals mg
 blt:∃ mb,base.Ns builtinsNs mb∧∀ x:Str,x ≠ "__name__" → mb x=bootBuiltins x
 nolimit:base.NoLimit
 bmod:∃ bm o,mg "__builtins__" = some (.ref bm)∧bm≠builtinsNs∧base.get? bm=some o∧o.cls= .type "module" ∧ o.dict=some builtinsNs∧o.data= .plain
structure Cx where
 prog:Program
 w:World
 K:PySem.W.Frag
 mg:Str→Option Value
 base:Heap
 A:Around
 N:List Str
 s₀:Shared
 H₀:Hp
 env:Env
 outer:List Env
 stack:List Env
 ex:List Addr
 fn:Str→Bool
 calm:Bool
 pn:List (Addr×Obj)
 xe:Value→Shared→Prop
noncomputable def frs (l:List Env):List Addr:=l.filterMap (·.frame)
noncomputable abbrev Cx.fs (X:Cx):List Addr:=frs X.outer
noncomputable def Vis (sc:Scope) (x:Str):Prop:=sc.names.lookup x=some .local∨sc.names.lookup x=some .cell∨sc.names.lookup x=some .free
noncomputable def Loc (sc:Scope) (x:Str):Prop:=sc.names.lookup x=some .local∨sc.names.lookup x=some .cell
noncomputable def Look (env:Env) (h:Heap) (m:Str→Option Value) (x:Str) (u:Value):Prop :=
 (env.kindOf x=some .local∧m x=some u)∨((env.kindOf x=some .cell∨env.kindOf x=some .free)∧∃ c,env.cells.lookup x=some c∧h.IsCell c (some u))
structure Cx.Ok (X:Cx):Prop where
 mod:Mod X.K X.mg X.base
 kind:X.env.scope.kind= .function
 glob:X.env.globals=mainGlobals
 blt:X.env.builtins=builtinsNs
 above:X.s₀.heap.objs.size≤X.env.locals
 inj:∀ x y c,X.env.cells.lookup x=some c→X.env.cells.lookup y=some c→x=y
 has:∀ x,(X.env.kindOf x=some .cell∨X.env.kindOf x=some .free)→∃ c,X.env.cells.lookup x=some c
 cab:∀ x c,X.fn x=true→X.env.cells.lookup x=some c→X.s₀.heap.objs.size≤c
 hd:X.calm=true→X.A.handled=none
 frames:X.A.frames=some X.stack
 stk:X.stack=X.outer∨(X.stack=X.env :: X.outer∧X.env.frame=some X.env.locals)
 exf:∀ b∈X.ex,b≠X.env.locals∧∀ x c,X.env.cells.lookup x=some c→c≠b
 bs:∀ b o,X.base.get? b=some o→X.s₀.heap.get? b=some o∧X.H₀ b=none
 bsz:X.base.objs.size≤X.s₀.heap.objs.size
 noex:∀ b o,X.base.get? b=some o→b∉X.ex
 exfs:∀ b∈X.ex,b∉X.fs
 funs:X.s₀.heap.FunFrames X.base X.outer
 frf:∀ b∈X.fs,X.H₀ b=none
structure Inv (X:Cx) (pins:List (Addr×Obj)) (σ:List (Option V)) (H:Hp) (s:Shared):Prop where
 ok:X.Ok
 os:s.os=X.s₀.os
 bare:AllBare s.gens
 base:Un X.fs X.ex X.H₀ H X.s₀.heap s.heap
 loc:∃ m,s.heap.Ns X.env.locals m∧∀ (i:Nat) (x:Str) (v:V),X.N[i]?=some x→σ[i]?=some (some v)→Vis X.env.scope x→∃ u,RelV v u∧Look X.env s.heap m x u
 cell:∀ x c,X.env.cells.lookup x=some c→∃ v,s.heap.IsCell c v
 free:H X.env.locals=none
 freeC:∀ x c,X.env.cells.lookup x=some c→H c=none
 pin:∀ p∈X.pn ++ pins,s.heap.get? p.1=some p.2∧H p.1=none∧p.1≠X.env.locals∧p.1∉X.fs∧∀ v,p.2.data≠ .cell v
 hok:HOk X.prog X.w H s.heap
 len:σ.length=X.N.length
section
variable {X:Cx} {pins:List (Addr×Obj)} {σ:List (Option V)} {H H':Hp} {s:Shared} {h':Heap}
theorem Cx.Ok.nofr (ok:X.Ok) {b:Addr} {o:Obj} (e:X.base.get? b=some o):b∉X.fs:=fun hb=>by
 have:=(ok.funs.mem hb).1
 rw [e] at this; cases this
theorem Inv.bs (I:Inv X pins σ H s):∀ b o,X.base.get? b=some o→s.heap.get? b=some o∧H b=none:=fun b o e =>
 ⟨I.base.keep b o (I.ok.bs b o e).1 (I.ok.bs b o e).2 (I.ok.nofr e) (I.ok.noex b o e),I.base.free b o (I.ok.bs b o e).1 (I.ok.bs b o e).2 (I.ok.noex b o e)⟩
theorem Inv.bk (I:Inv X pins σ H s):∀ b o,X.base.get? b=some o→s.heap.get? b=some o:=fun b o e=>(I.bs b o e).1
theorem Inv.mod (I:Inv X pins σ H s):Mod X.K X.mg X.base:=I.ok.mod
theorem Inv.kIn (I:Inv X pins σ H s):X.K.In s.heap:=I.ok.mod.kin.keeps I.bk
theorem Inv.nolimit (I:Inv X pins σ H s):s.heap.NoLimit:=I.ok.mod.nolimit.keeps I.bk
theorem Inv.fr (I:Inv X pins σ H s):∃ m,Fr X.base X.env.locals s.heap m :=
 let ⟨m,hn,_⟩:=I.loc
 ⟨m,hn,I.bk,Nat.le_trans I.ok.bsz I.ok.above⟩
theorem Inv.lt (I:Inv X pins σ H s):X.env.locals < s.heap.objs.size:=let ⟨_,hn,_⟩:=I.loc; hn.lt
theorem Inv.sz (I:Inv X pins σ H s):X.s₀.heap.objs.size≤s.heap.objs.size:=Nat.le_trans I.ok.above (Nat.le_of_lt I.lt)
theorem Inv.nofs (I:Inv X pins σ H s) {a:Addr} (h:s.heap.objs.size≤a):a∉X.fs:=fun hb=>by
 obtain ⟨_,o,ho,_⟩:=I.ok.funs.mem hb
 exact absurd (Nat.lt_of_lt_of_le (Heap.lt_size ho) (Nat.le_trans I.sz h)) (Nat.lt_irrefl _)
theorem Inv.cne (I:Inv X pins σ H s):∀ x c,X.env.cells.lookup x=some c→c≠X.env.locals:=fun x c e z=>by
 obtain ⟨v,o,ho,hd⟩:=I.cell x c e
 obtain ⟨m,⟨o',es,ep,ho',hd',_⟩,_⟩:=I.loc
 rw [z,ho'] at ho; cases ho; rw [hd'] at hd; cases hd
theorem Inv.funs (I:Inv X pins σ H s):s.heap.FunFrames X.base X.outer:=by
 have all:∀ (l:List Env),(∀ b∈frs l,b∈X.fs)→X.s₀.heap.FunFrames X.base l→s.heap.FunFrames X.base l:=by
  intro l
  induction l with
  | nil=>intro _ _; trivial
  | cons env r ih =>
    intro hs hl
    obtain ⟨hk,⟨L,o,hf,hn,ho,hd⟩,hr⟩:=hl
    have hL:L∈X.fs:=hs L (by unfold frs; rw [List.filterMap_cons,hf]; exact List.mem_cons_self)
    obtain ⟨sl,e⟩:=I.base.slot L o ho (I.ok.frf L hL) hL fun z=>I.ok.exfs L z hL
    exact ⟨hk,⟨L,_,hf,hn,e,hd⟩,ih (fun b hb=>hs b (by unfold frs; rw [List.filterMap_cons,hf]; exact List.mem_cons_of_mem _ hb)) hr⟩
 exact all X.outer (fun _ hb=>hb) I.ok.funs
theorem Inv.stack (I:Inv X pins σ H s):s.heap.FunFrames X.base X.stack:=by
 rcases I.ok.stk with e | ⟨e,hf⟩
 · rw [e]; exact I.funs
 · rw [e]
   obtain ⟨m,hn,_⟩:=I.loc
   refine .cons (by rw [I.ok.kind]; decide) hf hn ?_ I.funs
   exact Heap.get?_none_of_le (Nat.le_trans I.ok.bsz I.ok.above)
theorem Inv.stkSub (I:Inv X pins σ H s):∀ b∈frs X.stack,b∈X.env.locals :: X.fs:=fun b hb=>by
 rcases I.ok.stk with e | ⟨e,hf⟩
 · rw [e] at hb; exact List.mem_cons_of_mem _ hb
 · rw [e] at hb
   unfold frs at hb
   rw [List.filterMap_cons,hf] at hb
   exact hb
theorem Inv.stkFree (I:Inv X pins σ H s):∀ b∈frs X.stack,H b=none:=fun b hb=>by
 rcases List.mem_cons.mp (I.stkSub b hb) with e | hb
 · rw [e]; exact I.free
 · obtain ⟨_,o,ho,_⟩:=I.ok.funs.mem hb
   exact I.base.free b o ho (I.ok.frf b hb) fun z=>I.ok.exfs b z hb
theorem Inv.step {g':Array GenState} {t':Nat} {d':Drawn} {ch:List Addr} (I:Inv X pins σ H s)
 (hch:∀ b∈ch,(b∈X.ex∨X.s₀.heap.objs.size≤b)∧b≠X.env.locals∧(∀ x c,X.env.cells.lookup x=some c→c≠b)∧∀ p∈X.pn ++ pins,p.1≠b)
 (keep:∀ b o,b≠X.env.locals→b∉X.fs→b∉ch→s.heap.get? b=some o→H b=none→h'.get? b=some o)
 (slot:∀ b o,b≠X.env.locals→b∈X.fs→b∉ch→s.heap.get? b=some o→H b=none→∃ sl,h'.get? b=some { o with slots:=sl }) (free:∀ b o,b∉ch→s.heap.get? b=some o→H b=none→H' b=none)
 (there:∀ b o,b∉ch→s.heap.get? b=some o→∃ o',h'.get? b=some o')
 (tups:∀ b xs,H b=some (.tup xs)→H' b=some (.tup xs)) (frzs:∀ b o u,H b=some (.frz o u)→H' b=some (.frz o u)) (tbls:∀ b l,H b=some (.tbl l)→H' b=some (.tbl l)∧∀ c o,H c=some (.own b)→s.heap.get? c=some o→H' c=some (.own b)∧h'.get? c=some o)
 (ns:∀ m,s.heap.Ns X.env.locals m→h'.Ns X.env.locals m) (hok:HOk X.prog X.w H' h') (hg:AllBare g') :
 Inv X pins σ H' { s with heap:=h',gens:=g',drawn:=d',toks:=t' }:=by
 have neL:∀ b o,X.s₀.heap.get? b=some o→b≠X.env.locals:=fun b o e=>Nat.ne_of_lt (Nat.lt_of_lt_of_le (Heap.lt_size e) I.ok.above)
 have neC:∀ b o,X.s₀.heap.get? b=some o→b∉X.ex→b∉ch:=fun b o e hx hb=>by
  rcases (hch b hb).1 with z | z
  · exact hx z
  · exact absurd (Nat.lt_of_lt_of_le (Heap.lt_size e) z) (Nat.lt_irrefl _)
 have cellK:∀ x c,X.env.cells.lookup x=some c→∀ v,s.heap.IsCell c v→h'.IsCell c v:=fun x c e v ⟨o,ho,hd⟩=>by
  have nch:c∉ch:=fun z=>(hch c z).2.2.1 x c e rfl
  by_cases hc:c∈X.fs
  · obtain ⟨sl,q⟩:=slot c o (I.cne x c e) hc nch ho (I.freeC x c e)
    exact ⟨_,q,hd⟩
  · exact ⟨o,keep c o (I.cne x c e) hc nch ho (I.freeC x c e),hd⟩
 refine ⟨I.ok,I.os,hg,⟨fun b o e n hb hx=>?_,fun b o e n hb hx=>?_,fun b o e n hx=>?_,fun b o e hx=>?_,fun b xs e=>tups b xs (I.base.tups b xs e),fun b o xs e=>frzs b o xs (I.base.frzs b o xs e),fun b ps e=>⟨(tbls b ps (I.base.tbls b ps e).1).1,fun c o e1 e2=>let ⟨f1,f2⟩:=(I.base.tbls b ps e).2 c o e1 e2; (tbls b ps (I.base.tbls b ps e).1).2 c o f1 f2⟩⟩,?_,fun x c e=>?_,?_,fun x c e=>?_,fun p hp=>?_,hok,I.len⟩
 · exact keep b o (neL b o e) hb (neC b o e hx) (I.base.keep b o e n hb hx) (I.base.free b o e n hx)
 · obtain ⟨sl,e1⟩:=I.base.slot b o e n hb hx
   obtain ⟨sl',e2⟩:=slot b _ (neL b o e) hb (neC b o e hx) e1 (I.base.free b o e n hx)
   exact ⟨sl',e2⟩
 · obtain ⟨o',e1⟩:=I.base.there b o e hx
   exact free b o' (neC b o e hx) e1 (I.base.free b o e n hx)
 · obtain ⟨o',e1⟩:=I.base.there b o e hx
   exact there b o' (neC b o e hx) e1
 · obtain ⟨m,hn,hl⟩:=I.loc
   refine ⟨m,ns m hn,fun i x v e1 e2 e3=>?_⟩
   obtain ⟨u,r,l⟩:=hl i x v e1 e2 e3
   refine ⟨u,r,?_⟩
   rcases l with l | ⟨k,c,e,z⟩
   · exact .inl l
   · exact .inr ⟨k,c,e,cellK x c e _ z⟩
 · obtain ⟨v,z⟩:=I.cell x c e
   exact ⟨v,cellK x c e v z⟩
 · obtain ⟨m,⟨o,_,_,ho,_⟩,_⟩:=I.loc
   exact free _ o (fun z=>(hch _ z).2.1 rfl) ho I.free
 · obtain ⟨v,o,ho,hd⟩:=I.cell x c e
   exact free c o (fun z=>(hch c z).2.2.1 x c e rfl) ho (I.freeC x c e)
 · obtain ⟨e,n,ne,nf,d⟩:=I.pin p hp
   have nch:p.1∉ch:=fun z=>(hch p.1 z).2.2.2 p hp rfl
   exact ⟨keep p.1 p.2 ne nf nch e n,free p.1 p.2 nch e n,ne,nf,d⟩
theorem Inv.un {t':Nat} (I:Inv X pins σ H s) (u:Un X.fs [] H H' s.heap h') (hok:HOk X.prog X.w H' h'):Inv X pins σ H' { s with heap:=h',toks:=t' }:=by
 obtain ⟨m,⟨o,es,ep,ho,r⟩,_⟩:=id I.loc
 obtain ⟨sl,hL⟩:=u.any ho I.free (by simp)
 exact I.step (g':=s.gens) (d':=s.drawn) (ch:=[]) (fun _ z=>nomatch z) (fun b o _ hb _ e n=>u.keep b o e n hb (by simp)) (fun b o _ hb _ e n=>u.slot b o e n hb (by simp)) (fun b o _ e n=>u.free b o e n (by simp)) (fun b o _ e=>u.there b o e (by simp)) u.tups u.frzs u.tbls (fun m' hm=>by
  obtain ⟨o',es',ep',ho',r'⟩:=hm
  rw [ho] at ho'; cases ho'
  exact ⟨_,es',ep',hL,r'⟩) hok I.bare
theorem Inv.call {g':Array GenState} {t':Nat} {d':Drawn} {ch:List Addr} (I:Inv X pins σ H s) (u:Un (frs X.stack) ch H H' s.heap h') (hok:HOk X.prog X.w H' h') (hg:AllBare g')
 (hch:∀ b∈ch,(b∈X.ex∨X.s₀.heap.objs.size≤b)∧b≠X.env.locals∧(∀ x c,X.env.cells.lookup x=some c→c≠b)∧∀ p∈X.pn ++ pins,p.1≠b) :
 Inv X pins σ H' { s with heap:=h',gens:=g',drawn:=d',toks:=t' }:=by
 obtain ⟨m,⟨o,es,ep,ho,r⟩,_⟩:=id I.loc
 obtain ⟨sl,hL⟩:=u.any ho I.free fun z=>(hch _ z).2.1 rfl
 exact I.step (ch:=ch) hch (fun b o hL hb hc e n=>u.keep b o e n (fun z=>(List.mem_cons.mp (I.stkSub b z)).elim hL hb) hc) (fun b o _ _ hc e n=>u.any e n hc) (fun b o hc e n=>u.free b o e n hc) (fun b o hc e=>u.there b o e hc) u.tups u.frzs u.tbls (fun m' hm=>by
  obtain ⟨o',es',ep',ho',r'⟩:=hm
  rw [ho] at ho'; cases ho'
  exact ⟨_,es',ep',hL,r'⟩) hok hg
theorem Inv.turned {t':Nat} {it:Addr} (I:Inv X pins σ H s) (k:∀ b o,b≠it→s.heap.get? b=some o→h'.get? b=some o) (hn:H it=none) (hL:it≠X.env.locals)
 (h1:it∈X.ex∨X.s₀.heap.objs.size≤it) (h2:∀ x c,X.env.cells.lookup x=some c→c≠it) (h3:∀ p∈X.pn ++ pins,p.1≠it):Inv X pins σ H { s with heap:=h',toks:=t' }:=by
 have nit:∀ b u,H b=some u→b≠it:=fun b u e z=>by rw [z,hn] at e; cases e
 refine I.step (g':=s.gens) (d':=s.drawn) (ch:=[it]) (fun b hb=>?_) (fun b o _ _ hc e _=>k b o (fun z=>hc (by simp [z])) e) (fun b o _ _ hc e _=>⟨o.slots,k b o (fun z=>hc (by simp [z])) e⟩) (fun _ _ _ _ n=>n)
  (fun b o hc e=>⟨o,k b o (fun z=>hc (by simp [z])) e⟩) (fun _ _ e=>e) (fun _ _ _ e=>e) (fun _ _ e=>⟨e,fun c o e1 e2=>⟨e1,k c o (ac7 e1 hn) e2⟩⟩) (fun m hm=>?_) (fun b u e=>?_) I.bare
 · have e:b=it:=by simpa using hb
   subst e
   exact ⟨h1,hL,h2,h3⟩
 · obtain ⟨o,es,ep,ho,r⟩:=hm
   exact ⟨o,es,ep,k _ o (Ne.symm hL) ho,r⟩
 · refine (I.hok b u e).stay (fun c v hc q=>k c v ?_ q) (fun _ q=>q) fun _ _ q=>q
   rcases hc with z | z
   · rw [z]; exact nit b u e
   · exact nit c _ z
theorem Inv.tok (I:Inv X pins σ H s) (t:Nat):Inv X pins σ H { s with toks:=t }:=I.un (h':=s.heap) (t':=t) Un.refl I.hok
theorem Inv.kept {t':Nat} (I:Inv X pins σ H s) (k:∀ b u,s.heap.get? b=some u→h'.get? b=some u):Inv X pins σ H { s with heap:=h',toks:=t' }:=I.un (Un.kept k) (I.hok.kept k)
theorem Inv.laid {a:Addr} {o:HO} {t':Nat} (I:Inv X pins σ H s) (k:∀ b u,s.heap.get? b=some u→h'.get? b=some u) (hp:s.heap.objs.size≤a) (new:ObjOk X.prog X.w (upd H a o) h' a o) :
 Inv X pins σ (upd H a o) { s with heap:=h',toks:=t' }:=I.un (Un.laid k hp (I.hok.fresh hp)) (I.hok.laid k hp new)
theorem Inv.write {x e:Addr} {o:HO} {t':Nat} (I:Inv X pins σ H s) (mu:Mut (H x)) (he:e=x∨H e=some (.own x)) (k:∀ b u,b≠e→s.heap.get? b=some u→h'.get? b=some u) (heo:∃ u,h'.get? e=some u)
 (new:ObjOk X.prog X.w (upd H x o) h' x o):Inv X pins σ (upd H x o) { s with heap:=h',toks:=t' }:=I.un (Un.write mu he k heo) (I.hok.write mu he k heo new)
theorem Inv.pins_of {pins':List (Addr×Obj)} (I:Inv X pins σ H s) (h:∀ p∈pins',s.heap.get? p.1=some p.2∧H p.1=none∧p.1≠X.env.locals∧p.1∉X.fs∧∀ v,p.2.data≠ .cell v):Inv X pins' σ H s :=
 ⟨I.ok,I.os,I.bare,I.base,I.loc,I.cell,I.free,I.freeC,fun p hp=>(List.mem_append.mp hp).elim (fun z=>I.pin p (List.mem_append_left _ z)) (h p),I.hok,I.len⟩
theorem aY9 {N:List Str} (hN:N.Nodup) {i j:Nat} {x:Str} (a:N[i]?=some x) (b:N[j]?=some x):i=j:=by
 obtain ⟨h1,e1⟩:=List.getElem?_eq_some_iff.mp a
 obtain ⟨h2,e2⟩:=List.getElem?_eq_some_iff.mp b
 exact (List.getElem_inj hN).mp (e1.trans e2.symm)
theorem bh4 {M:Model} {A:Around} {E:Value→Shared→Prop} {i:Nat} {x:Str} {v:V} {u:Value} {Q:Unit→Shared→Prop} (I:Inv X pins σ H s) (hN:X.N.Nodup) (hi:X.N[i]?=some x) (hx:Loc X.env.scope x) (r:RelV v u)
 (h:∀ s',Inv X pins (σ.set i (some v)) H s'→(∃ a,Heap.SameBut a s.heap s'.heap∧(a=X.env.locals∨X.env.cells.lookup x=some a))→Q () s') (hf:X.fn x=true∨X.env.scope.names.lookup x=some .local:=by first | exact .inl rfl | exact .inr rfl | assumption):wpAny M A (storeName X.env x u) Q E s:=by
 obtain ⟨m,hn,hl⟩:=id I.loc
 have hcls:(X.env.scope.kind == .class || (X.env.scope.kind == .module && X.env.locals != X.env.globals))=false:=by rw [I.ok.kind]; rfl
 have hiσ:i < σ.length:=by rw [I.len]; exact (List.getElem?_eq_some_iff.mp hi).1
 have cne:=I.cne
 have tracked:∀ {a:Addr} {h':Heap},(∃ o,s.heap.get? a=some o∧H a=none)→Heap.SameBut a s.heap h'→HOk X.prog X.w H h':=fun {a h'} ha hs b ob e=>by
  obtain ⟨_,_,hfree⟩:=ha
  refine (I.hok b ob e).stay (fun c w' hc q=>(hs.2 c ?_).trans q) (fun _ q=>q) fun _ _ q=>q
  rintro rfl
  rcases hc with rfl | hc
  · rw [hfree] at e; cases e
  · rw [hfree] at hc; cases hc
 rcases hx with hk | hk
 · refine wpAny_storeName_local hk hn (fun h' hn' hs=>?_) hcls
   obtain ⟨oL,_,_,hoL,_⟩:=id hn
   refine h _ ⟨I.ok,I.os,I.bare,⟨fun b o e n hb hx=>?_,fun b o e n hb hx=>?_,I.base.free,fun b o e hx=>?_,I.base.tups,I.base.frzs,fun b l q=>⟨(I.base.tbls b l q).1,fun c o e1 e2=>let ⟨f1,f2⟩:=(I.base.tbls b l q).2 c o e1 e2; ⟨f1,(hs.2 c (ac7 f1 I.free)).trans f2⟩⟩⟩,⟨_,hn',fun j y v' e1 e2 e3=>?_⟩,fun y c e=>?_,I.free,I.freeC,fun p hp=>?_,tracked ⟨oL,hoL,I.free⟩ hs,by simpa using I.len⟩ ⟨_,hs,.inl rfl⟩
   · exact (hs.2 b (Nat.ne_of_lt (Nat.lt_of_lt_of_le (Heap.lt_size e) I.ok.above))).trans (I.base.keep b o e n hb hx)
   · obtain ⟨sl,e1⟩:=I.base.slot b o e n hb hx
     exact ⟨sl,(hs.2 b (Nat.ne_of_lt (Nat.lt_of_lt_of_le (Heap.lt_size e) I.ok.above))).trans e1⟩
   · obtain ⟨o',e1⟩:=I.base.there b o e hx
     exact ⟨o',(hs.2 b (Nat.ne_of_lt (Nat.lt_of_lt_of_le (Heap.lt_size e) I.ok.above))).trans e1⟩
   · by_cases hj:j=i
     · subst hj
       rw [hi] at e1; cases e1
       rw [List.getElem?_set_self hiσ] at e2
       cases e2
       exact ⟨u,r,.inl ⟨hk,by simp⟩⟩
     · rw [List.getElem?_set_ne (Ne.symm hj)] at e2
       obtain ⟨u',r',q⟩:=hl j y v' e1 e2 e3
       refine ⟨u',r',?_⟩
       rcases q with ⟨k,e⟩ | ⟨k,c,e,z⟩
       · refine .inl ⟨k,?_⟩
         have:y≠x:=fun e=>hj (aY9 hN e1 (e ▸ hi))
         simp [this,e]
       · exact .inr ⟨k,c,e,z.sameBut hs (cne y c e)⟩
   · obtain ⟨w',z⟩:=I.cell y c e
     exact ⟨w',z.sameBut hs (cne y c e)⟩
   · obtain ⟨e,n,ne,nf,d⟩:=I.pin p hp
     exact ⟨(hs.2 p.1 ne).trans e,n,ne,nf,d⟩
 · have hfn:X.fn x=true:=by
    rcases hf with z | z
    · exact z
    · rw [z] at hk; cases hk
   obtain ⟨c,hc⟩:=I.ok.has x (.inl hk)
   obtain ⟨w',z⟩:=I.cell x c hc
   refine wpAny_storeName_cell I.ok.kind hk hc z (fun h' hc' hs=>?_)
   obtain ⟨oc,hoc,hocd⟩:=id z
   refine h { s with heap:=h' } ⟨I.ok,I.os,I.bare,⟨fun b o e n hb hx=>?_,fun b o e n hb hx=>?_,I.base.free,fun b o e hx=>?_,I.base.tups,I.base.frzs,fun b l q=>⟨(I.base.tbls b l q).1,fun c' o e1 e2=>let ⟨f1,f2⟩:=(I.base.tbls b l q).2 c' o e1 e2; ⟨f1,(hs.2 c' (ac7 f1 (I.freeC x c hc))).trans f2⟩⟩⟩,⟨m,hn.sameBut hs (Ne.symm (cne x c hc)),fun j y v' e1 e2 e3=>?_⟩,fun y c' e=>?_,I.free,I.freeC,fun p hp=>?_,tracked ⟨oc,hoc,I.freeC x c hc⟩ hs,by simpa using I.len⟩ ⟨c,hs,.inr hc⟩
   · exact (hs.2 b (Nat.ne_of_lt (Nat.lt_of_lt_of_le (Heap.lt_size e) (I.ok.cab x c hfn hc)))).trans (I.base.keep b o e n hb hx)
   · obtain ⟨sl,e1⟩:=I.base.slot b o e n hb hx
     exact ⟨sl,(hs.2 b (Nat.ne_of_lt (Nat.lt_of_lt_of_le (Heap.lt_size e) (I.ok.cab x c hfn hc)))).trans e1⟩
   · obtain ⟨o',e1⟩:=I.base.there b o e hx
     exact ⟨o',(hs.2 b (Nat.ne_of_lt (Nat.lt_of_lt_of_le (Heap.lt_size e) (I.ok.cab x c hfn hc)))).trans e1⟩
   · by_cases hj:j=i
     · subst hj
       rw [hi] at e1; cases e1
       rw [List.getElem?_set_self hiσ] at e2
       cases e2
       exact ⟨u,r,.inr ⟨.inl hk,c,hc,hc'⟩⟩
     · rw [List.getElem?_set_ne (Ne.symm hj)] at e2
       obtain ⟨u',r',q⟩:=hl j y v' e1 e2 e3
       refine ⟨u',r',?_⟩
       rcases q with q | ⟨k,c',e,z'⟩
       · exact .inl q
       · refine .inr ⟨k,c',e,z'.sameBut hs ?_⟩
         rintro rfl
         exact hj (aY9 hN e1 (I.ok.inj _ _ _ e hc ▸ hi))
   · by_cases hcc:c'=c
     · subst hcc; exact ⟨_,hc'⟩
     · obtain ⟨w2,z2⟩:=I.cell y c' e
       exact ⟨w2,z2.sameBut hs hcc⟩
   · obtain ⟨e,n,ne,nf,d⟩:=I.pin p hp
     refine ⟨(hs.2 p.1 ?_).trans e,n,ne,nf,d⟩
     intro q
     rw [q,hoc] at e
     have q':oc=p.2:=Option.some.inj e
     exact d w' (by rw [← q']; exact hocd)
theorem aX3 {M:Model} {A:Around} {E:Value→Shared→Prop} {i:Nat} {x:Str} {v:V} {u:Value} {Q:Unit→Shared→Prop} (I:Inv X pins σ H s) (hN:X.N.Nodup) (hi:X.N[i]?=some x) (hx:Loc X.env.scope x) (r:RelV v u)
 (h:∀ s',Inv X pins (σ.set i (some v)) H s'→Q () s') (hf:X.fn x=true∨X.env.scope.names.lookup x=some .local:=by first | exact .inl rfl | exact .inr rfl | assumption):wpAny M A (storeName X.env x u) Q E s :=
 bh4 I hN hi hx r (fun s' I' _=>h s' I') hf
theorem Inv.call' {s':Shared} {ch:List Addr} (I:Inv X pins σ H s) (ho:s'.os=s.os) (u:Un (frs X.stack) ch H H' s.heap s'.heap) (hok:HOk X.prog X.w H' s'.heap) (hg:AllBare s'.gens)
 (hch:∀ b∈ch,(b∈X.ex∨X.s₀.heap.objs.size≤b)∧b≠X.env.locals∧(∀ x c,X.env.cells.lookup x=some c→c≠b)∧∀ p∈X.pn ++ pins,p.1≠b):Inv X pins σ H' s':=by
 obtain ⟨h',g',d',t',o'⟩:=s'
 have e:o'=s.os:=ho
 subst e
 exact I.call (g':=g') (t':=t') (d':=d') u hok hg hch
end
noncomputable abbrev XK:=Value→Option Addr→Hp→Prop
noncomputable abbrev St:=List (Option V)
noncomputable abbrev VK:=V→Hp→Prop
noncomputable abbrev TE:=St→Hp→VK→Prop
noncomputable abbrev TT:=St→Hp→(Bool→Hp→Prop)→Prop
noncomputable abbrev TA:=St→Hp→(List V→Hp→Prop)→Prop
structure Ends where
 nx:St→Hp→Prop
 rt:VK
 bk:St→Hp→Prop:=fun _ _=>False
 ct:St→Hp→Prop:=fun _ _=>False
noncomputable abbrev TS:=Ends→St→Hp→Prop
noncomputable def EP (X:Cx) (pins:List (Addr×Obj)) (σ:St) (Q:VK) (u:Value) (s':Shared):Prop:=∃ v H',Inv X pins σ H' s'∧RelV v u∧Q v H'
noncomputable def TP (X:Cx) (pins:List (Addr×Obj)) (σ:St) (Q:Bool→Hp→Prop) (b:Bool) (s':Shared):Prop:=∃ H',Inv X pins σ H' s'∧Q b H'
noncomputable def AP (X:Cx) (pins:List (Addr×Obj)) (σ:St) (Q:List V→Hp→Prop) (us:List Value) (s':Shared):Prop:=∃ vs H',Inv X pins σ H' s'∧Vals vs us∧Q vs H'
noncomputable def SP (X:Cx) (pins:List (Addr×Obj)) (D:Ends) (f:Flow) (s':Shared):Prop :=
 match f with
 | .next=>∃ σ' H',Inv X pins σ' H' s'∧D.nx σ' H'
 | .brk=>∃ σ' H',Inv X pins σ' H' s'∧D.bk σ' H'
 | .cont=>∃ σ' H',Inv X pins σ' H' s'∧D.ct σ' H'
 | .ret u=>∃ v σ' H',Inv X pins σ' H' s'∧RelV v u∧D.rt v H'
noncomputable def PE (X:Cx) (e:Expr) (t:TE):Prop :=
 ∀ (pins:List (Addr×Obj)) (s:Shared) (σ:St) (H:Hp) (Q:VK),Inv X pins σ H s→t σ H Q→wpAny (model X.prog X.w) X.A (eval e X.env) (EP X pins σ Q) X.xe s
noncomputable def PT (X:Cx) (e:Expr) (t:TT):Prop :=
 ∀ (pins:List (Addr×Obj)) (s:Shared) (σ:St) (H:Hp) (Q:Bool→Hp→Prop),Inv X pins σ H s→t σ H Q→wpAny (model X.prog X.w) X.A (isTrue e X.env (eval e X.env)) (TP X pins σ Q) X.xe s
noncomputable def PW (X:Cx) (e:Expr) (t:TT):Prop :=
 ∀ (whole:Sem Value) (pins:List (Addr×Obj)) (s:Shared) (σ:St) (H:Hp) (Q:Bool→Hp→Prop),Inv X pins σ H s→t σ H Q→wpAny (model X.prog X.w) X.A (isTrue e X.env whole) (TP X pins σ Q) X.xe s
theorem PW.pt {X:Cx} {e:Expr} {t:TT} (h:PW X e t):PT X e t:=h _
noncomputable def PA (X:Cx) (es:List Expr) (t:TA):Prop :=
 ∀ (pos:Pos) (pins:List (Addr×Obj)) (s:Shared) (σ:St) (H:Hp) (Q:List V→Hp→Prop),Inv X pins σ H s→t σ H Q→wpAny (model X.prog X.w) X.A (spliced (backTo pos (starEach es X.env))) (AP X pins σ Q) X.xe s
noncomputable def PS (X:Cx) (st:Stmt) (t:TS):Prop :=
 ∀ (pins:List (Addr×Obj)) (s:Shared) (σ:St) (H:Hp) (D:Ends),Inv X pins σ H s→t D σ H→wpAny (model X.prog X.w) X.A (exec st X.env) (SP X pins D) X.xe s
noncomputable def PSs (X:Cx) (st:List Stmt) (t:TS):Prop :=
 ∀ (pins:List (Addr×Obj)) (s:Shared) (σ:St) (H:Hp) (D:Ends),Inv X pins σ H s→t D σ H→wpAny (model X.prog X.w) X.A (execs st X.env) (SP X pins D) X.xe s
theorem thn {α:Type} {t:Sem α} {Q Q':α→Shared→Prop} {M:Model} {A:Around} {E:Value→Shared→Prop} {s:Shared} (h:wpAny M A t Q E s) (hQ:∀ a s,Q a s→Q' a s):wpAny M A t Q' E s:=wpAny_mono h hQ fun _ _ x=>x
section
variable {X:Cx}
noncomputable def tVar (i:Nat):TE:=fun σ H Q=>∃ v,σ[i]?=some (some v)∧Q v H
noncomputable def tC (v:V):TE:=fun _ H Q=>Q v H
theorem cn8 {i:Nat} {x:Str} {pos:Pos} (hN:X.N[i]?=some x) (hv:Vis X.env.scope x) (hd:(x == ("__debug__" : Str))=false:=by decide) (hcd:(x == ("__classdict__" : Str))=false:=by decide):PE X (.Name x pos) (tVar i):=by
 intro pins s σ H Q I h
 obtain ⟨v,e,h⟩:=h
 obtain ⟨m,hn,hl⟩:=I.loc
 obtain ⟨u,r,l⟩:=hl i x v hN e hv
 have fin:EP X pins σ Q u s:=⟨v,H,I,r,h⟩
 rcases l with ⟨hk,hm⟩ | ⟨hk,c,hc,hcell⟩
 · exact wpAny_Name (wpAny_loadName_local I.ok.kind hk hn hm fin) hd
 · rcases hk with hk | hk
   · exact wpAny_Name (wpAny_loadName_cell I.ok.kind hk hc hcell fin) hd
   · exact wpAny_Name (wpAny_loadName_free I.ok.kind hk hc hcell fin hcd) hd
theorem ab2 {i j pos}:PE X (.Constant (.int i) j pos) (tC (.int i)):=fun _ _ _ H _ I h=>wpAny_Constant_int ⟨.int i,H,I.tok _,⟨_,rfl⟩,h⟩
theorem aG0 {b j pos}:PE X (.Constant (.bool b) j pos) (tC (.bl b)):=fun _ _ _ H _ I h=>Constant_bool ⟨.bl b,H,I,rfl,h⟩
theorem ah5 {j pos}:PE X (.Constant .none j pos) (tC .non):=fun _ _ _ H _ I h=>Constant_none ⟨.non,H,I,rfl,h⟩
noncomputable def Gl (X:Cx) (x:Str):Prop:=X.env.kindOf x=some .globalImplicit
theorem aS2 {E:Value→Shared→Prop} {pins:List (Addr×Obj)} {s:Shared} {σ:St} {H:Hp} {x:Str} {u:Value} {pos:Pos} {Q:Value→Shared→Prop} (I:Inv X pins σ H s) (hg:Gl X x) (hm:X.mg x=some u) (h:Q u s)
 (hd:(x == ("__debug__" : Str))=false:=by decide):wpAny (model X.prog X.w) X.A (eval (.Name x pos) X.env) Q E s :=
 Calls.Name_function_global I.ok.kind hg (Calls.loadGlobal_global (by rw [I.ok.glob]; exact I.mod.glob.keeps I.bk) hm h) hd
theorem aD8 {E:Value→Shared→Prop} {pins:List (Addr×Obj)} {s:Shared} {σ:St} {H:Hp} {x:Str} {u:Value} {pos:Pos} {Q:Value→Shared→Prop} (I:Inv X pins σ H s) (hg:Gl X x) (hm:X.mg x=none) (hv:bootBuiltins x=some u) (h:Q u s)
 (hn:x ≠ "__name__" := by decide) (hd:(x == ("__debug__" : Str))=false:=by decide):wpAny (model X.prog X.w) X.A (eval (.Name x pos) X.env) Q E s:=by
 obtain ⟨mb,h1,h2⟩:=I.mod.blt
 exact Calls.Name_function_global I.ok.kind hg (Calls.loadGlobal_builtin (by rw [I.ok.glob]; exact I.mod.glob.keeps I.bk) hm (by rw [I.ok.blt]; exact h1.keeps I.bk) ((h2 x hn).trans hv) h) hd
theorem al5 {x:Str} {v:V} {u:Value} {pos:Pos} (hg:Gl X x) (hm:X.mg x=some u) (r:RelV v u) (hd:(x == ("__debug__" : Str))=false:=by decide):PE X (.Name x pos) (tC v) :=
 fun _ _ _ H _ I h=>aS2 I hg hm ⟨v,H,I,r,h⟩ hd
theorem ay0 {x:Str} {v:V} {u:Value} {pos:Pos} (hg:Gl X x) (hm:X.mg x=none) (hv:bootBuiltins x=some u) (r:RelV v u) (hn:x ≠ "__name__" := by decide) (hd:(x == ("__debug__" : Str))=false:=by decide):PE X (.Name x pos) (tC v) :=
 fun _ _ _ H _ I h=>aD8 I hg hm hv ⟨v,H,I,r,h⟩ hn hd
variable {a b:Expr} {ta tb:TE} {pos:Pos}
noncomputable def PC (X:Cx) (op:CmpOp) (a b:Expr) (t:TE):Prop :=
 ∀ (pins:List (Addr×Obj)) (s:Shared) (σ:St) (H:Hp) (Q:VK),Inv X pins σ H s→t σ H Q →
  wpAny (model X.prog X.w) X.A (eval a X.env) (fun v s₁=>wpAny (model X.prog X.w) X.A (eval b X.env) (fun u s₂=>wpAny (model X.prog X.w) X.A (compareOp op v u) (EP X pins σ Q) X.xe s₂) X.xe s₁) X.xe s
theorem aZ1 (b:Expr) {op:CmpOp} (h:op≠ .In) (h2:op≠ .NotIn):behindInMarks op b=false:=by
 have e1:(op == CmpOp.In)=false:=by cases op <;> first | rfl | exact absurd rfl h
 have e2:(op == CmpOp.NotIn)=false:=by cases op <;> first | rfl | exact absurd rfl h2
 cases b <;> simp [behindInMarks,e1,e2]
noncomputable def tB (t:TE):TT:=fun σ H Q=>t σ H fun x H1=>∃ c,x= .bl c∧Q c H1
theorem bN7 {op:CmpOp} {t:TE} (h:PC X op a b t) (h1:behindInMarks op b=false:=by first | exact aZ1 _ (by decide) (by decide) | rfl):PE X (.Compare a [op] [b] pos) t:=fun pins s σ H Q I hw=>wpAny_Compare1 (h pins s σ H Q I hw) h1
theorem bN2 {op:CmpOp} {t:TE} (h:PC X op a b t) (h1:behindInMarks op b=false:=by first | exact aZ1 _ (by decide) (by decide) | rfl):PT X (.Compare a [op] [b] pos) (tB t):=by
 intro pins s σ H Q I hw
 refine wpAny_isTrue_Compare1 (thn (h pins s σ H _ I hw) fun v s1 h1=>thn h1 fun u s2 h2=>thn h2 fun c s3 ⟨x,H1,I1,r1,q1⟩=>?_) h1
 obtain ⟨d,rfl,q⟩:=q1
 cases r1
 exact wpAny_truthy_bool ⟨H1,I1,q⟩
theorem ax7 {e:Expr} {t:TE} (h:PE X e t) (he:∀ whole,isTrue e X.env whole=(do let v ← whole; standAt e.pos; holding [v] (truthy v)):=by intro _; rfl):PT X e (tB t):=by
 intro pins s σ H Q I hw
 refine isTrue_plain (thn (h pins s σ H _ I hw) fun v s1 ⟨x,H1,I1,r1,q1⟩=>?_) (he _)
 obtain ⟨d,rfl,q⟩:=q1
 cases r1
 exact wpAny_truthy_bool ⟨H1,I1,q⟩
variable {tA tB':TT} {rest:List Expr}
noncomputable def tAnd (t u:TT):TT:=fun σ H Q=>t σ H fun c H1=>if c=true then u σ H1 Q else Q false H1
noncomputable def tOr (t u:TT):TT:=fun σ H Q=>t σ H fun c H1=>if c=true then Q true H1 else u σ H1 Q
noncomputable def tNot (t:TT):TT:=fun σ H Q=>t σ H fun c H1=>Q (!c) H1
theorem bZ8 (ha:PT X a tA):PW X (.BoolOp .And [a] pos) tA:=by
 intro wh pins s σ H Q I h
 refine isTrue_and (thn (ha pins s σ H Q I h) fun c s1 e=>?_)
 cases c with
 | true=>exact isTrue_and_nil e
 | false=>exact e
theorem ax6 (ha:PT X a tA):PW X (.BoolOp .Or [a] pos) tA:=by
 intro wh pins s σ H Q I h
 refine isTrue_or (thn (ha pins s σ H Q I h) fun c s1 e=>?_)
 cases c with
 | false=>exact isTrue_or_nil e
 | true=>exact e
theorem cn5 (ha:PT X a tA) (hb:PW X (.BoolOp .And (b :: rest) pos) tB'):PW X (.BoolOp .And (a :: b :: rest) pos) (tAnd tA tB'):=by
 intro wh pins s σ H Q I h
 refine isTrue_and (thn (ha pins s σ H _ I h) fun c s1 ⟨H1,I1,q1⟩=>?_)
 cases c with
 | true=>exact hb wh pins s1 σ H1 Q I1 q1
 | false=>exact ⟨H1,I1,q1⟩
theorem aK7 (ha:PT X a tA) (hb:PW X (.BoolOp .Or (b :: rest) pos) tB'):PW X (.BoolOp .Or (a :: b :: rest) pos) (tOr tA tB'):=by
 intro wh pins s σ H Q I h
 refine isTrue_or (thn (ha pins s σ H _ I h) fun c s1 ⟨H1,I1,q1⟩=>?_)
 cases c with
 | true=>exact ⟨H1,I1,q1⟩
 | false=>exact hb wh pins s1 σ H1 Q I1 q1
theorem aD2 (ha:PT X a tA):PT X (.UnaryOp .Not a pos) (tNot tA):=by
 intro pins s σ H Q I h
 exact isTrue_not (ha pins s σ H (fun c H1=>Q (!c) H1) I h)
noncomputable def ck8 (ta tb:TE):TE:=fun σ H Q=>ta σ H fun x H1=>∃ c,x= .bl c∧if c=true then tb σ H1 Q else Q (.bl false) H1
noncomputable def ck5 (ta:TE):TE:=fun σ H Q=>ta σ H fun x H1=>∃ c,x= .bl c∧Q (.bl (!c)) H1
theorem bN5 {op} {t:TE} (h:PE X a t):PE X (.BoolOp op [a] pos) t:=fun pins s σ H Q I hw=>BoolOp_one (h pins s σ H Q I hw)
theorem bm4 (ha:PE X a ta) (hb:PE X (.BoolOp .And (b :: rest) pos) tb):PE X (.BoolOp .And (a :: b :: rest) pos) (ck8 ta tb):=by
 intro pins s σ H Q I h
 refine BoolOp_and (thn (ha pins s σ H _ I h) fun v s1 ⟨x,H1,I1,r1,q1⟩=>?_)
 obtain ⟨c,rfl,q1⟩:=q1
 cases r1
 refine wpAny_truthy_bool ?_
 cases c with
 | true=>exact hb pins s1 σ H1 Q I1 q1
 | false=>exact ⟨.bl false,H1,I1,rfl,q1⟩
theorem bN6 (ha:PE X a ta):PE X (.UnaryOp .Not a pos) (ck5 ta):=by
 intro pins s σ H Q I h
 refine UnaryOp_ (thn (ha pins s σ H _ I h) fun v s1 ⟨x,H1,I1,r1,q1⟩=>?_)
 obtain ⟨c,rfl,q1⟩:=q1
 cases r1
 exact not_of (wpAny_truthy_bool ⟨.bl (!c),H1,I1,rfl,q1⟩)
noncomputable def tIf (t:TT) (ta tb:TE):TE:=fun σ H Q=>t σ H fun c H1=>if c=true then ta σ H1 Q else tb σ H1 Q
theorem bC9 {c:Expr} (hc:PT X c tA) (ha:PE X a ta) (hb:PE X b tb):PE X (.IfExp c a b pos) (tIf tA ta tb):=by
 intro pins s σ H Q I h
 refine wpAny_IfExp (thn (hc pins s σ H _ I h) fun d s1 ⟨H1,I1,q1⟩=>?_)
 cases d with
 | true=>exact ha pins s1 σ H1 Q I1 q1
 | false=>exact hb pins s1 σ H1 Q I1 q1
end
noncomputable def SqL (K:PySem.W.Frag) (H:Hp) (a:Addr) (xs:List V):Prop :=
 Rd H a (.lst xs) ∨
  ∃ (o:Obj) (its:Array Value) (n:Nat),K.lookup a=some o∧o.cls= .type "list" ∧ o.dict=none∧o.data= .seq its n∧its.size≤sizeLine∧Vals xs its.toList
noncomputable def SqT (K:PySem.W.Frag) (H:Hp) (a:Addr) (xs:List V):Prop :=
 Rd H a (.tup xs) ∨
  ∃ (o:Obj) (its:Array Value) (n:Nat),K.lookup a=some o∧o.cls= .type "tuple" ∧ o.data= .seq its n∧its.size≤sizeLine∧Vals xs its.toList
noncomputable def absV:Value→Option V
 | .none=>some .non
 | .bool b=>some (.bl b)
 | .int i _=>some (.int i)
 | .str x _=>some (.str x)
 | .bytes b _=>some (.byt b)
 | .float b _=>some (.flt b)
 | .ref a=>some (.ref a)
 | .type n=>some (.ty n)
 | _=>none
theorem RelV.abs {x:V} {u:Value} (r:RelV x u):absV u=some x:=by
 cases x with
 | non=>cases r; rfl
 | bl _=>cases r; rfl
 | int _=>obtain ⟨t,rfl⟩:=r; rfl
 | str _=>obtain ⟨t,rfl⟩:=r; rfl
 | byt _=>obtain ⟨t,rfl⟩:=r; rfl
 | flt _=>obtain ⟨t,rfl⟩:=r; rfl
 | ref _=>cases r; rfl
 | ty _=>cases r; rfl
theorem RelV.inj {x y:V} {u:Value} (r:RelV x u) (q:RelV y u):x=y:=Option.some.inj (r.abs.symm.trans q.abs)
theorem Vals.inj:∀ {xs ys:List V} {us:List Value},Vals xs us→Vals ys us→xs=ys
 | _,_,_,.nil,.nil=>rfl
 | _,_,_,.cons r t,.cons r' t'=>by rw [r.inj r',Vals.inj t t']
section
variable {X:Cx} {pins:List (Addr×Obj)} {σ:St} {H:Hp} {s:Shared} {a:Addr} {xs ys:List V}
theorem SqL.of {K:PySem.W.Frag} (h:H a=some (.lst xs)):SqL K H a xs:= .inl (.inl h)
theorem SqT.of {K:PySem.W.Frag} (h:H a=some (.tup xs)):SqT K H a xs:= .inl (.inl h)
theorem Inv.list (I:Inv X pins σ H s) (h:SqL X.K H a xs):∃ its:List Value,Vals xs its∧PlainL s.heap a its.toArray∧xs.length≤sizeLine:=by
 rcases h with h | ⟨o,its,n,hk,hc,hd,hs,hz,r⟩
 · obtain ⟨z,its,n,r,e⟩:=h.ok I.hok
   exact ⟨its,r,⟨_,n,e,rfl,rfl,rfl⟩,z⟩
 · refine ⟨its.toList,r,⟨o,n,I.kIn a o hk,hc,hd,by simpa using hs⟩,?_⟩
   have e:=r.length
   simp only [Array.length_toList] at e
   omega
theorem Inv.tuple (I:Inv X pins σ H s) (h:SqT X.K H a xs):∃ its:List Value,Vals xs its∧IsTup s.heap a its.toArray∧xs.length≤sizeLine:=by
 rcases h with h | ⟨o,its,n,hk,hc,hs,hz,r⟩
 · obtain ⟨z,its,r,p⟩:=h.ok I.hok
   exact ⟨its,r,p,z⟩
 · refine ⟨its.toList,r,⟨o,I.kIn a o hk,hc,n,by simpa using hs⟩,?_⟩
   have e:=r.length
   simp only [Array.length_toList] at e
   omega
theorem Inv.list_inj (I:Inv X pins σ H s) (h:SqL X.K H a xs) (h':SqL X.K H a ys):xs=ys:=by
 obtain ⟨its,r,⟨o,n,e,_,_,d⟩,_⟩:=I.list h
 obtain ⟨its',r',⟨o',n',e',_,_,d'⟩,_⟩:=I.list h'
 rw [e] at e'; cases e'
 rw [d] at d'
 injection d' with d1 _
 have:its=its':=by simpa using congrArg Array.toList d1
 subst this
 exact r.inj r'
end
noncomputable abbrev Cx.wish (X:Cx) (E:Value→Shared→Prop):Cx:={ X with xe:=E }
noncomputable abbrev Cx.nox (X:Cx):Cx:=X.wish fun _ _=>False
theorem Cx.Ok.wish {X:Cx} (ok:X.Ok) (E:Value→Shared→Prop):(X.wish E).Ok :=
 ⟨ok.mod,ok.kind,ok.glob,ok.blt,ok.above,ok.inj,ok.has,ok.cab,ok.hd,ok.frames,ok.stk,ok.exf,ok.bs,ok.bsz,ok.noex,ok.exfs,ok.funs,ok.frf⟩
theorem Cx.Ok.unwish {X:Cx} {E:Value→Shared→Prop} (ok:(X.wish E).Ok):X.Ok :=
 ⟨ok.mod,ok.kind,ok.glob,ok.blt,ok.above,ok.inj,ok.has,ok.cab,ok.hd,ok.frames,ok.stk,ok.exf,ok.bs,ok.bsz,ok.noex,ok.exfs,ok.funs,ok.frf⟩
section
variable {X:Cx} {pins:List (Addr×Obj)} {σ:St} {H:Hp} {s:Shared} {E:Value→Shared→Prop}
theorem Inv.wish (I:Inv X pins σ H s) (E:Value→Shared→Prop):Inv (X.wish E) pins σ H s:=⟨I.ok.wish E,I.os,I.bare,I.base,I.loc,I.cell,I.free,I.freeC,I.pin,I.hok,I.len⟩
theorem Inv.unwish (I:Inv (X.wish E) pins σ H s):Inv X pins σ H s:=⟨I.ok.unwish,I.os,I.bare,I.base,I.loc,I.cell,I.free,I.freeC,I.pin,I.hok,I.len⟩
theorem SP.unwish {D:Ends} {f:Flow} {s':Shared} (h:SP (X.wish E) pins D f s'):SP X pins D f s':=by
 cases f with
 | next=>obtain ⟨σ',H',I,q⟩:=h; exact ⟨σ',H',I.unwish,q⟩
 | brk=>obtain ⟨σ',H',I,q⟩:=h; exact ⟨σ',H',I.unwish,q⟩
 | cont=>obtain ⟨σ',H',I,q⟩:=h; exact ⟨σ',H',I.unwish,q⟩
 | ret u=>obtain ⟨v,σ',H',I,r,q⟩:=h; exact ⟨v,σ',H',I.unwish,r,q⟩
theorem PSs.nox {st:List Stmt} {t:TS} (h:PSs X.nox st t):PSs X st t:=fun pins s σ H D I hw =>
 wpAny_mono (h pins s σ H D (I.wish _) hw) (fun _ _ q=>q.unwish) fun _ _ z=>False.elim z
end
section
variable {X:Cx} {st:Stmt} {rest:List Stmt} {t u:TS} {e:Expr} {te:TE} {pos:Pos}
noncomputable def ck6:TS:=fun D σ H=>D.nx σ H
noncomputable def tSeq (t u:TS):TS:=fun D σ H=>t { D with nx:=u D } σ H
theorem ac5:PSs X [] ck6:=fun _ _ σ H _ I h=>wpAny_execs_nil ⟨σ,H,I,h⟩
theorem aa2 (h1:PS X st t) (h2:PSs X rest u):PSs X (st :: rest) (tSeq t u):=by
 intro pins s σ H D I h
 refine wpAny_execs_cons (thn (h1 pins s σ H { D with nx:=u D } I h) fun f s1 q=>?_)
 cases f with
 | next =>
   obtain ⟨σ',H',I',q⟩:=q
   exact h2 pins s1 σ' H' D I' q
 | ret v=>exact q
 | brk=>exact q
 | cont=>exact q
theorem aa3 (h1:PS X st t):PSs X [st] t:=by
 intro pins s σ H D I h
 refine wpAny_execs_cons (thn (h1 pins s σ H D I h) fun f s1 q=>?_)
 cases f with
 | next=>exact wpAny_execs_nil q
 | ret v=>exact q
 | brk=>exact q
 | cont=>exact q
theorem Inv.quiet {pins:List (Addr×Obj)} {σ:St} {H:Hp} {s:Shared} (I:Inv X pins σ H s):interactive X.env=false:=by simp [interactive,I.ok.kind]
noncomputable def ck7 (te:TE):TS:=fun D σ H=>te σ H fun _ H1=>D.nx σ H1
theorem ae1 (he:PE X e te) (hs:swapsWith e none pos.line X.env=pure false:=by rfl):PS X (.Expr e pos) (ck7 te):=by
 intro pins s σ H D I h
 exact wpAny_Expr_any (thn (he pins s σ H _ I h) fun v s1 ⟨x,H1,I1,r1,q1⟩=>⟨σ,H1,I1,q1⟩) I.quiet hs
noncomputable def tRet (te:TE):TS:=fun D σ H=>te σ H D.rt
theorem ac1 (he:PE X e te):PS X (.Return (some e) pos) (tRet te):=by
 intro pins s σ H D I h
 exact wpAny_Return_some (thn (he pins s σ H _ I h) fun v s1 ⟨x,H1,I1,r1,q1⟩=>⟨x,σ,H1,I1,r1,q1⟩)
noncomputable def tIfS (c:TT) (t u:TS):TS:=fun D σ H=>c σ H fun b H1=>if b=true then t D σ H1 else u D σ H1
theorem ag7 {c:Expr} {a b:List Stmt} {tc:TT} (hc:PT X c tc) (ha:PSs X a t) (hb:PSs X b u):PS X (.If c a b pos) (tIfS tc t u):=by
 intro pins s σ H D I h
 refine wpAny_If (thn (hc pins s σ H _ I h) fun d s1 ⟨H1,I1,q1⟩=>?_)
 cases d with
 | true=>exact ha pins s1 σ H1 D I1 q1
 | false=>exact hb pins s1 σ H1 D I1 q1
noncomputable def bJ7:TS:=fun _ _ _=>False
theorem aj2:PS X st bJ7:=fun _ _ _ _ _ _ h=>h.elim
end
noncomputable abbrev TG:=V→St→Hp→(St→Hp→Prop)→Prop
noncomputable def PG (X:Cx) (target:Expr) (t:TG):Prop :=
 ∀ (pins:List (Addr×Obj)) (s:Shared) (σ:St) (H:Hp) (v:V) (u:Value) (Q:St→Hp→Prop),Inv X pins σ H s→RelV v u→t v σ H Q →
  wpAny (model X.prog X.w) X.A (assign target X.env u) (fun _ s'=>∃ σ' H',Inv X pins σ' H' s'∧Q σ' H') X.xe s
noncomputable abbrev TSet:=V→V→V→Hp→(Hp→Prop)→Prop
noncomputable def PSet (X:Cx) (t:TSet):Prop :=
 ∀ (pins:List (Addr×Obj)) (s:Shared) (σ:St) (H:Hp) (o i v:V) (ov iv u:Value) (Q:Hp→Prop),Inv X pins σ H s→RelV o ov→RelV i iv→RelV v u→t o i v H Q →
  wpAny (model X.prog X.w) X.A (setItem ov iv u) (fun _ s'=>∃ H',Inv X pins σ H' s'∧Q H') X.xe s
section
variable {X:Cx} {pos:Pos}
noncomputable def az3 (i:Nat):TG:=fun v σ H Q=>Q (σ.set i (some v)) H
theorem ai7 {i:Nat} {x:Str} (hN:X.N.Nodup) (hi:X.N[i]?=some x) (hx:Loc X.env.scope x) (hf:X.fn x=true∨X.env.scope.names.lookup x=some .local:=by first | exact .inl rfl | exact .inr rfl | assumption):PG X (.Name x pos) (az3 i):=by
 intro pins s σ H v u Q I r h
 exact wpAny_assign_Name (aX3 I hN hi hx r (fun s' I'=>⟨_,H,I',h⟩) hf)
noncomputable def gSub (to ti:TE) (t:TSet):TG:=fun v σ H Q=>to σ H fun o H1=>ti σ H1 fun i H2=>t o i v H2 fun H3=>Q σ H3
theorem bN4 {o i:Expr} {to ti:TE} {t:TSet} (ho:PE X o to) (hi:PE X i ti) (hs:PSet X t)
 (ha:∀ v,assign (.Subscript o i pos) X.env v=(do
   let ov ← holding [v] (eval o X.env)
   let iv ← holding [v,ov] (eval i X.env)
   standAt pos
   holding [v,ov,iv] (setItem ov iv v)
   release [v,ov,iv] []):=by intro _; rfl):PG X (.Subscript o i pos) (gSub to ti t):=by
 intro pins s σ H v u Q I r h
 rw [ha]
 refine wpAny_bind (wpAny_holding (thn (ho pins s σ H _ I h) fun ov s1 ⟨x,H1,I1,r1,q1⟩=>?_))
 refine wpAny_bind (wpAny_holding (thn (hi pins s1 σ H1 _ I1 q1) fun iv s2 ⟨y,H2,I2,r2,q2⟩=>?_))
 refine wpAny_bind (wpAny_standAt (wpAny_bind (wpAny_holding (thn (hs pins s2 σ H2 x y v ov iv u _ I2 r1 r2 r q2) fun _ s3 ⟨H3,I3,q3⟩=>?_))))
 exact wpAny_release ⟨σ,H3,I3,q3⟩
noncomputable def tAsg (te:TE) (g:TG):TS:=fun D σ H=>te σ H fun x H1=>g x σ H1 D.nx
theorem bN3 {tg e:Expr} {te:TE} {g:TG} (he:PE X e te) (hg:PG X tg g) (hs:swapsWithSole [tg] e pos.line X.env=pure false:=by rfl) (hw:swappedStores [tg] e X.env=pure none:=by rfl)
 (h1:(assignEach [tg] X.env).map (·.2)=[assign tg X.env]:=by rfl):PS X (.Assign [tg] e pos) (tAsg te g):=by
 intro pins s σ H D I h
 refine wpAny_Assign_stores (thn (he pins s σ H _ I h) fun v s1 ⟨x,H1,I1,r1,q1⟩=>?_) hs hw
 rw [h1]
 exact thn (hg pins s1 σ H1 x v _ I1 r1 q1) fun _ s2 q=>q
theorem ae6 {i:Nat} {x:Str} {e:Expr} {te:TE} {pos':Pos} (hN:X.N.Nodup) (hi:X.N[i]?=some x) (hx:Loc X.env.scope x) (he:PE X e te) (hs:swapsWith e (some (.Name x pos')) pos.line X.env=pure false:=by rfl) (hf:X.fn x=true∨X.env.scope.names.lookup x=some .local:=by first | exact .inl rfl | exact .inr rfl | assumption) :
 PS X (.Assign [.Name x pos'] e pos) (tAsg te (az3 i)):=by
 intro pins s σ H D I h
 refine wpAny_Assign_Name (thn (he pins s σ H _ I h) fun v s1 ⟨y,H1,I1,r1,q1⟩=>?_) hs
 exact aX3 I1 hN hi hx r1 (fun s2 I2=>⟨_,H1,I2,q1⟩) hf
end
section
variable {X:Cx} {pos:Pos}
noncomputable def bJ6 (c:TT) (tb:TS):TS:=fun D σ H=>∃ W:Nat→St→Hp→Prop,(∃ m,W m σ H)∧∀ m σ H,W m σ H →
 c σ H fun b H1=>if b=true then ∃ N:St→Hp→Prop,(∀ σ' H',N σ' H'→∃ m',m' < m∧W m' σ' H')∧tb { D with nx:=N,ct:=N,bk:=D.nx } σ H1 else D.nx σ H1
theorem aY3 {c:Expr} {body:List Stmt} {tc:TT} {tb:TS} (hp:PassesOwn (model X.prog X.w) X.A X.env X.xe) (hc:PT X c tc) (hb:PSs X body tb):PS X (.While c body [] pos) (bJ6 tc tb):=by
 intro pins s σ H D I h
 obtain ⟨W,⟨m0,w0⟩,turn⟩:=h
 refine wpAny_While (codeAny_whileLoop (fun n s'=>∃ σ' H',Inv X pins σ' H' s'∧W n σ' H') ?_ m0 ⟨σ,H,I,w0⟩)
 rintro n s1 ⟨σ1,H1,I1,w1⟩
 refine wpAny_passesOwn hp (thn (hc pins s1 σ1 H1 _ I1 (turn n σ1 H1 w1)) fun b s2 ⟨H2,I2,q2⟩=>?_)
 cases b with
 | true =>
   obtain ⟨N,hN,q2⟩:=q2
   rw [if_pos rfl]
   refine wpAny_passesOwn hp (thn (hb pins s2 σ1 H2 _ I2 q2) fun f s3 q3=>?_)
   cases f with
   | next =>
     obtain ⟨σ3,H3,I3,n3⟩:=q3
     obtain ⟨m',hm,w3⟩:=hN σ3 H3 n3
     exact ⟨m',hm,σ3,H3,I3,w3⟩
   | cont =>
     obtain ⟨σ3,H3,I3,n3⟩:=q3
     obtain ⟨m',hm,w3⟩:=hN σ3 H3 n3
     exact ⟨m',hm,σ3,H3,I3,w3⟩
   | brk=>exact q3
   | ret v=>exact q3
 | false =>
   rw [if_neg Bool.false_ne_true]
   exact wpAny_execs_nil ⟨σ1,H2,I2,q2⟩
end
structure It where
 go:Nat→Hp→Prop
 yld:Nat→Hp→V→Hp→Prop
 stop:Nat→Hp→Prop
noncomputable def FpOk (X:Cx) (pins:List (Addr×Obj)) (H:Hp) (b:Addr):Prop :=
 H b=none∧b≠X.env.locals∧b∉X.fs∧(b∈X.ex∨X.s₀.heap.objs.size≤b)∧(∀ x c,X.env.cells.lookup x=some c→c≠b)∧∀ p∈X.pn ++ pins,p.1≠b
theorem Inv.fpOk {X:Cx} {pins:List (Addr×Obj)} {σ:St} {H H':Hp} {s:Shared} {b:Addr} (I:Inv X pins σ H s) (hb:s.heap.objs.size≤b) (hn:H' b=none):FpOk X pins H' b:=by
 refine ⟨hn,Nat.ne_of_gt (Nat.lt_of_lt_of_le I.lt hb),I.nofs hb,.inr (Nat.le_trans I.sz hb),fun x c e z=>?_,fun p hp z=>?_⟩
 · obtain ⟨v,q⟩:=I.cell x c e
   exact absurd (Nat.lt_of_lt_of_le q.lt (by rw [z]; exact hb)) (Nat.lt_irrefl _)
 · exact absurd (Nat.lt_of_lt_of_le (Heap.lt_size (I.pin p hp).1) (by rw [z]; exact hb)) (Nat.lt_irrefl _)
structure Turn (P:Program) (w:World) (K:PySem.W.Frag) (tg:Expr) (J:It) (fp:List Addr) (it:Addr) (tn:Nat→Heap→Prop):Prop where
 mem:it∈fp
 obj:∀ i h,tn i h→∀ b∈fp,∃ o,h.get? b=some o∧∀ v,o.data≠ .cell v
 keep:∀ i h h',tn i h→(∀ b∈fp,∀ o,h.get? b=some o→h'.get? b=some o)→tn i h'
 item:∀ (X:Cx),X.prog=P→X.w=w→X.K=K→X.calm=true→∀ (i:Nat) (pins:List (Addr×Obj)) (s:Shared) (σ:St) (H:Hp) (E:Value→Shared→Prop),Inv X pins σ H s→(∀ b∈fp,FpOk X pins H b)→tn i s.heap→J.go i H →
  wpAny (model P w) X.A (pyNext (.ref it)) (fun r s1=>∃ u,r=some u ∧
   wpAny (model P w) X.A (letOwnedTupleGo tg (.ref it) u) (fun _ s2=>∃ x H',Inv X pins σ H' s2∧RelV x u∧J.yld i H x H'∧tn (i + 1) s2.heap∧∀ b∈fp,H' b=none) E s1) E s
 done:∀ (X:Cx),X.prog=P→X.w=w→X.K=K→X.calm=true→∀ (i:Nat) (pins:List (Addr×Obj)) (s:Shared) (σ:St) (H:Hp) (E:Value→Shared→Prop),Inv X pins σ H s→(∀ b∈fp,FpOk X pins H b)→tn i s.heap→J.stop i H →
  wpAny (model P w) X.A (pyNext (.ref it)) (fun r s1=>r=none∧Inv X pins σ H s1) E s
 self:∀ (A:Around) (i:Nat) (s:Shared) (Q:Value→Shared→Prop) (E:Value→Shared→Prop),tn i s.heap→Q (.ref it) s→wpAny (model P w) A (pyIter (.ref it)) Q E s
noncomputable abbrev TI:=St→Hp→(It→Hp→Prop)→Prop
noncomputable def PIE (X:Cx) (pins:List (Addr×Obj)) (σ:St) (tg:Expr) (R:It→Hp→Prop) (itv:Value) (s2:Shared):Prop :=
 ∃ (it:Addr) (fp:List Addr) (tn:Nat→Heap→Prop) (J:It) (H':Hp),itv= .ref it∧Inv X pins σ H' s2∧Turn X.prog X.w X.K tg J fp it tn∧tn 0 s2.heap∧(∀ b∈fp,FpOk X pins H' b)∧R J H'
noncomputable def PI (X:Cx) (tg iter:Expr) (wi:TI):Prop :=
 ∀ (pins:List (Addr×Obj)) (s:Shared) (σ:St) (H:Hp) (R:It→Hp→Prop),Inv X pins σ H s→wi σ H R →
  wpAny (model X.prog X.w) X.A (eval iter X.env) (fun v s1=>wpAny (model X.prog X.w) X.A (pyIter v) (PIE X pins σ tg R) X.xe s1) X.xe s
theorem cw0 {M:Model} {A:Around} {E:Value→Shared→Prop} {s:Shared} {tg:Expr} {it:Addr} {u:Value} {o:Obj} {n:String} {vs:Array Value} {Q:Unit→Shared→Prop} (ho:s.heap.get? it=some o) (hc:o.cls= .type n) (hd:o.data= .fields vs)
 (hn:["enumerate", "zip", "dict_itemiterator", "dict_reverseitemiterator", "odict_iterator", "itertools.zip_longest", "itertools.pairwise"].contains n=false) (hQ:Q () s):wpAny M A (letOwnedTupleGo tg (.ref it) u) Q E s:=by
 unfold letOwnedTupleGo
 cases tg <;> first
  | exact wpAny_pure hQ
  | (cases u <;> first
      | exact wpAny_pure hQ
      | (refine wpAny_bind (wpAny_load ho ?_)
         rw [hc,hd]
         show wpAny M A (if (["enumerate", "zip", "dict_itemiterator", "dict_reverseitemiterator", "odict_iterator", "itertools.zip_longest", "itertools.pairwise"].contains n && vs[0]? == some (rawInt _))=true then _ else _) Q E s
         rw [if_neg (by intro h; rw [hn,Bool.false_and] at h; cases h)]
         exact wpAny_pure hQ))
noncomputable def Itl (K:PySem.W.Frag) (a:Addr):It :=
 ⟨fun i H=>∃ xs x,SqL K H a xs∧xs[i]?=some x,fun i H x H'=>H'=H∧∀ xs,SqL K H a xs→xs[i]?=some x,fun i H=>∃ xs,SqL K H a xs∧xs.length≤i⟩
noncomputable def Itr (lo:Int) (n:Nat):It:=⟨fun i _=>i < n,fun i H x H'=>H'=H∧x= .int (lo + i),fun i _=>n≤i⟩
theorem bh0 {P:Program} {w:World} {K:PySem.W.Frag} {tg:Expr} (a it:Addr):Turn P w K tg (Itl K a) [it] it (fun i h=>h.IsListIter it a i) where
 mem:=by simp
 obj:=fun i h st b hb=>by
  have e:b=it:=by simpa using hb
  subst e
  obtain ⟨o,e,c,d⟩:=st
  exact ⟨o,e,fun v z=>by rw [d] at z; cases z⟩
 keep:=fun i h h' st k=>st.at fun o e=>k it (by simp) o e
 item:=by
  intro X hP hw hK hc i pins s σ H E I hf st hg
  subst hP hw hK
  obtain ⟨xs,x,hq,hx⟩:=hg
  obtain ⟨its,rv,p,hz⟩:=I.list hq
  obtain ⟨u,hu,ru⟩:=rv.get hx
  obtain ⟨f0,f1,f2,f3,f4,f5⟩:=hf it (by simp)
  refine wpAny_pyNext_list_item st p.isList (x:=u) (by simpa using hu) fun h' st' sb=>?_
  have I1:Inv X pins σ H { s with heap:=h' }:=I.turned (t':=s.toks) (fun b o hb e=>(sb.2 b hb).trans e) f0 f1 f3 f4 f5
  obtain ⟨o,e,c,d⟩:=id st'
  exact ⟨u,rfl,cw0 (s:={ s with heap:=h' }) e c d (by decide) ⟨x,H,I1,ru,⟨rfl,fun ys hy=>by rw [I.list_inj hy hq]; exact hx⟩,st',fun b hb=>(hf b hb).1⟩⟩
 done:=by
  intro X hP hw hK hc i pins s σ H E I hf st hg
  subst hP hw hK
  obtain ⟨xs,hq,hx⟩:=hg
  obtain ⟨its,rv,p,hz⟩:=I.list hq
  obtain ⟨f0,f1,f2,f3,f4,f5⟩:=hf it (by simp)
  have hl:=rv.length
  exact wpAny_pyNext_list_end (I.ok.hd hc) st p.isList (by simp; omega) fun h' eb=>⟨rfl,I.turned (t':=s.toks) (fun b o hb e=>eb b o hb e) f0 f1 f3 f4 f5⟩
 self:=fun _ _ _ _ _ st h=>wpAny_pyIter_listiter st h
theorem bc5 {P:Program} {w:World} {K:PySem.W.Frag} {tg:Expr} (it:Addr) (lo:Int) (n:Nat):Turn P w K tg (Itr lo n) [it] it (fun i h=>IsRangeIter h it (lo + (i:Nat) * 1) ((n:Int) - (i:Nat)) 1) where
 mem:=by simp
 obj:=fun i h st b hb=>by
  have e:b=it:=by simpa using hb
  subst e
  exact ⟨_,st,fun v z=>by
   have z':Data.fields _=Data.cell v:=z
   cases z'⟩
 keep:=fun i h h' st k=>k it (by simp) _ st
 item:=by
  intro X hP hw hK hc i pins s σ H E I hf st hg
  subst hP hw hK
  obtain ⟨f0,f1,f2,f3,f4,f5⟩:=hf it (by simp)
  have W:=Walks.range (prog:=X.prog) (w:=X.w) (I.ok.hd hc) it lo 1 n
  refine W.item i s _ _ hg st fun v h' tk hv st' kk=>?_
  obtain ⟨t,rfl⟩:=hv
  have I1:Inv X pins σ H { s with heap:=h',toks:=tk }:=I.turned (fun b o hb e=>kk b o (by simpa using hb) e) f0 f1 f3 f4 f5
  refine ⟨_,rfl,cw0 (s:={ s with heap:=h',toks:=tk }) (n := "range_iterator") st' rfl rfl (by decide) ⟨.int (lo + i),H,I1,⟨t,?_⟩,⟨rfl,rfl⟩,st',fun b hb=>(hf b hb).1⟩⟩
  rw [Int.mul_one]
 done:=by
  intro X hP hw hK hc i pins s σ H E I hf st hg
  subst hP hw hK
  obtain ⟨f0,f1,f2,f3,f4,f5⟩:=hf it (by simp)
  exact wpAny_pyNext_range_end (I.ok.hd hc) st (by have:n≤i:=hg; omega) fun h' eb=>⟨rfl,I.turned (t':=s.toks) (fun b o hb e=>eb b o hb e) f0 f1 f3 f4 f5⟩
 self:=fun _ _ _ _ _ st h=>wpAny_pyIter_rangeiter st h
section
variable {X:Cx} {tg:Expr}
noncomputable def bp7 (K:PySem.W.Frag) (tl:TE):TI:=fun σ H R=>tl σ H fun x H1=>∃ a,x= .ref a∧(∃ xs,SqL K H1 a xs)∧R (Itl K a) H1
theorem bZ9 {l:Expr} {tl:TE} (hl:PE X l tl):PI X tg l (bp7 X.K tl):=by
 intro pins s σ H R I h
 refine thn (hl pins s σ H _ I h) fun v s1 ⟨x,H1,I1,r1,q1⟩=>?_
 obtain ⟨a,e,⟨xs,hq⟩,q⟩:=q1
 subst e
 cases r1
 obtain ⟨its,rv,p,hz⟩:=I1.list hq
 refine wpAny_pyIter_list p.isList ?_
 refine ⟨s1.heap.objs.size,[s1.heap.objs.size],_,_,H1,rfl,I1.kept (t':=s1.toks) fun b o e=>Heap.get?_push_of_some _ e,bh0 a _,⟨_,Heap.get?_push_size _ rfl,rfl,rfl⟩,fun b hb=>?_,q⟩
 have e:b=s1.heap.objs.size:=by simpa using hb
 subst e
 exact I1.fpOk (Nat.le_refl _) (I1.hok.fresh (Nat.le_refl _))
theorem aY0 {pins:List (Addr×Obj)} {σ:St} {H:Hp} {s:Shared} {R:It→Hp→Prop} {E:Value→Shared→Prop} {lo hi:Int} {t u v:Tok} {tk:Nat} (I:Inv X pins σ H s) (h1:-(2 ^ 62)≤lo) (h2:lo < 2 ^ 62) (h3:-(2 ^ 62)≤hi) (h4:hi < 2 ^ 62)
 (q:R (Itr lo (hi - lo).toNat) H):wpAny (model X.prog X.w) X.A (pyIter (.ref s.heap.objs.size)) (PIE X pins σ tg R) E { s with heap:=s.heap.push { cls:= .type "range",data:= .fields #[.int lo t,.int hi u,.int 1 v] },toks:=tk }:=by
 refine wpAny_pyIter_range (IsRange.new ..) (small_one h1 h2 h3 h4) ?_
 have I1:Inv X pins σ H { s with heap:=s.heap.push { cls:= .type "range",data:= .fields #[.int lo t,.int hi u,.int 1 v] },toks:=tk }:=I.kept fun b o e=>Heap.get?_push_of_some _ e
 refine ⟨(s.heap.push { cls:= .type "range",data:= .fields #[.int lo t,.int hi u,.int 1 v] }).objs.size,[(s.heap.push { cls:= .type "range",data:= .fields #[.int lo t,.int hi u,.int 1 v] }).objs.size],_,_,H,rfl,
  I1.kept (t':=tk) fun b o e=>Heap.get?_push_of_some _ e,bc5 _ lo (hi - lo).toNat,?_,fun b hb=>?_,q⟩
 · have e1:lo + ((0:Nat):Int) * 1=lo:=by simp
   have e2:(((hi - lo).toNat:Nat):Int) - ((0:Nat):Int)=Builtin.Range.rangeSize lo hi 1:=by rw [rangeSize_one]; split <;> omega
   show IsRangeIter _ _ (lo + ((0:Nat):Int) * 1) ((((hi - lo).toNat:Nat):Int) - ((0:Nat):Int)) 1
   rw [e1,e2]
   exact Heap.get?_push_size _ rfl
 · have e:b=(s.heap.push { cls:= .type "range",data:= .fields #[.int lo t,.int hi u,.int 1 v] }).objs.size:=by simpa using hb
   subst e
   exact I1.fpOk (Nat.le_refl _) (I1.hok.fresh (Nat.le_refl _))
noncomputable def cv9 (ta:TA):TI:=fun σ H R=>ta σ H fun vs H1=>∃ j:Int,vs=[.int j]∧-(2 ^ 62)≤j∧j < 2 ^ 62∧R (Itr 0 j.toNat) H1
noncomputable def cv8 (ta:TA):TI:=fun σ H R=>ta σ H fun vs H1=>∃ i j:Int,vs=[.int i,.int j]∧(-(2 ^ 62)≤i∧i < 2 ^ 62∧-(2 ^ 62)≤j∧j < 2 ^ 62)∧R (Itr i (j - i).toNat) H1
theorem ak0 {a:Expr} {ta:TA} {p pos:Pos} (hg:Gl X "range") (hm:X.mg "range" = none) (ha:PA X [a] ta) (hs:starEach [a] X.env=[(false,eval a X.env)]:=by rfl):PI X tg (.Call (.Name "range" p) [a] [] pos) (cv9 ta):=by
 intro pins s σ H R I h
 refine Call_ (aD8 I hg hm boot_range (PyProof.Rows.callWith_type1 (thn (ha pos pins s σ H _ I h) fun us s1 ⟨vs,H1,I1,r1,q1⟩=>?_) hs rfl))
 obtain ⟨j,e,q1,q2,q⟩:=q1
 subst e
 cases r1 with
 | cons r rr =>
   cases rr
   obtain ⟨t,rfl⟩:=r
   exact call_range_1 (aY0 I1 (by omega) (by omega) q1 q2 (by simpa using q))
theorem aL2 {a b:Expr} {ta:TA} {p pos:Pos} (hg:Gl X "range") (hm:X.mg "range" = none) (ha:PA X [a,b] ta) (hs:starEach [a,b] X.env=[(false,eval a X.env),(false,eval b X.env)]:=by rfl) (hs2:starEach [b] X.env=[(false,eval b X.env)]:=by rfl) :
 PI X tg (.Call (.Name "range" p) [a,b] [] pos) (cv8 ta):=by
 intro pins s σ H R I h
 refine Call_ (aD8 I hg hm boot_range (PyProof.Rows.callWith_type1 (thn (ha pos pins s σ H _ I h) fun us s1 ⟨vs,H1,I1,r1,q1⟩=>?_) (by rw [hs,hs2]) (by rw [hs2]; rfl)))
 obtain ⟨i,j,e,⟨q1,q2,q3,q4⟩,q⟩:=q1
 subst e
 cases r1 with
 | cons r rr =>
   cases rr with
   | cons r' rr =>
     cases rr
     obtain ⟨t,rfl⟩:=r
     obtain ⟨t',rfl⟩:=r'
     exact call_range_2 (aY0 I1 q1 q2 q3 q4 q)
noncomputable def tFor (wi:TI) (g:TG) (tb:TS):TS:=fun D σ H=>wi σ H fun J H1=>∃ W:Nat→Nat→St→Hp→Prop,(∃ m,W 0 m σ H1)∧∀ i m σ H,W i m σ H →
 (J.stop i H∧D.nx σ H)∨(J.go i H∧∃ N:St→Hp→Prop,(∀ σ' H',N σ' H'→∃ m',m' < m∧W (i + 1) m' σ' H')∧∀ x H',J.yld i H x H'→g x σ H' fun σ2 H2=>tb { D with nx:=N,ct:=N,bk:=D.nx } σ2 H2)
noncomputable def aL1 (fp:List Addr) (h:Heap):List (Addr×Obj):=fp.filterMap fun b=>(h.get? b).map fun o=>(b,o)
theorem ao1 {fp:List Addr} {h:Heap} {b:Addr} {o:Obj} (hb:b∈fp) (e:h.get? b=some o):(b,o)∈aL1 fp h:=List.mem_filterMap.mpr ⟨b,hb,by rw [e]; rfl⟩
theorem bn1 {fp:List Addr} {h:Heap} {p:Addr×Obj} (hp:p∈aL1 fp h):p.1∈fp∧h.get? p.1=some p.2:=by
 obtain ⟨b,hb,e⟩:=List.mem_filterMap.mp hp
 cases q:h.get? b with
 | none=>rw [q] at e; cases e
 | some o =>
   rw [q] at e
   have e':(b,o)=p:=Option.some.inj e
   subst e'
   exact ⟨hb,q⟩
theorem Inv.pinned {pins:List (Addr×Obj)} {σ:St} {H:Hp} {s:Shared} {fp:List Addr} (I:Inv X pins σ H s) (hf:∀ b∈fp,FpOk X pins H b) (ho:∀ b∈fp,∃ o,s.heap.get? b=some o∧∀ v,o.data≠ .cell v):Inv X (pins ++ aL1 fp s.heap) σ H s :=
 I.pins_of fun p hp=>(List.mem_append.mp hp).elim (fun z=>I.pin p (List.mem_append_right _ z)) fun z=>by
  obtain ⟨hb,e⟩:=bn1 z
  obtain ⟨f0,f1,f2,_⟩:=hf p.1 hb
  obtain ⟨o,e',d⟩:=ho p.1 hb
  rw [e] at e'; cases e'
  exact ⟨e,f0,f1,f2,d⟩
theorem Inv.unpinned {pins pl:List (Addr×Obj)} {σ:St} {H:Hp} {s:Shared} (I:Inv X (pins ++ pl) σ H s):Inv X pins σ H s:=I.pins_of fun p hp=>I.pin p (List.mem_append_right _ (List.mem_append_left _ hp))
theorem aq9 {iter:Expr} {body:List Stmt} {wi:TI} {g:TG} {tb:TS} {pos:Pos} (hp:PassesOwn (model X.prog X.w) X.A X.env X.xe) (hc:X.calm=true) (hi:PI X tg iter wi) (hg:PG X tg g) (hb:PSs X body tb)
 (hs:∀ x,foldedSetIterable iter X.env x=pure x:=by intro _; rfl):PS X (.For tg iter body [] pos) (tFor wi g tb):=by
 intro pins s σ H D I h
 refine wpAny_For (thn (hi pins s σ H _ I h) fun v s1 h1=>thn h1 fun itv s2 h2=>?_) hs
 obtain ⟨it,fp,tn,J,H2,e,I2,T,st2,f2,W,⟨m0,w0⟩,turn⟩:=h2
 subst e
 -- what stays true of the iterator's objects through the loop
 have stat:∀ {H':Hp},(∀ b∈fp,H' b=none)→∀ b∈fp,FpOk X pins H' b:=fun hn b hb=>⟨hn b hb,(f2 b hb).2⟩
 refine codeAny_forLoop_any (fun n s'=>∃ i σ' H',Inv X pins σ' H' s'∧tn i s'.heap∧(∀ b∈fp,H' b=none)∧W i n σ' H') ?_ m0 ⟨0,σ,H2,I2,st2,fun b hb=>(f2 b hb).1,w0⟩
 rintro n s3 ⟨i,σ3,H3,I3,st3,fr3,w3⟩
 rcases turn i n σ3 H3 w3 with ⟨stop,qn⟩ | ⟨go,N,hN,step⟩
 · refine wpAny_passesOwn hp (thn (T.done X rfl rfl rfl hc i pins s3 σ3 H3 X.xe I3 (stat fr3) st3 stop) fun r s4 ⟨hr,I4⟩=>?_)
   subst hr
   exact wpAny_execs_nil ⟨σ3,H3,I4,qn⟩
 · refine wpAny_passesOwn hp (thn (T.item X rfl rfl rfl hc i pins s3 σ3 H3 X.xe I3 (stat fr3) st3 go) fun r s4 ⟨u,hr,h4⟩=>?_)
   subst hr
   refine wpAny_passesOwn hp (thn h4 fun _ s5 ⟨x,H5,I5,r5,y5,st5,fr5⟩=>?_)
   have I5':=I5.pinned (stat fr5) (T.obj _ _ st5)
   refine wpAny_passesOwn hp (thn (hg _ s5 σ3 H5 x u _ I5' r5 (step x H5 y5)) fun _ s6 ⟨σ6,H6,I6,q6⟩=>?_)
   refine wpAny_passesOwn hp (thn (hb _ s6 σ6 H6 _ I6 q6) fun f s7 q7=>?_)
   have again:∀ {σ7:St} {H7:Hp},Inv X (pins ++ aL1 fp s5.heap) σ7 H7 s7→N σ7 H7→∃ m,m < n∧∃ i σ' H',Inv X pins σ' H' s7∧tn i s7.heap∧(∀ b∈fp,H' b=none)∧W i m σ' H':=fun {σ7 H7} I7 n7=>by
    obtain ⟨m',hm,w7⟩:=hN σ7 H7 n7
    refine ⟨m',hm,i + 1,σ7,H7,I7.unpinned,T.keep _ _ _ st5 fun b hb o e=>(I7.pin (b,o) (List.mem_append_right _ (List.mem_append_right _ (ao1 hb e)))).1,fun b hb=>?_,w7⟩
    obtain ⟨o,e,d⟩:=T.obj _ _ st5 b hb
    exact (I7.pin (b,o) (List.mem_append_right _ (List.mem_append_right _ (ao1 hb e)))).2.1
   cases f with
   | next=>obtain ⟨σ7,H7,I7,n7⟩:=q7; exact again I7 n7
   | cont=>obtain ⟨σ7,H7,I7,n7⟩:=q7; exact again I7 n7
   | brk=>obtain ⟨σ7,H7,I7,q7⟩:=q7; exact ⟨σ7,H7,I7.unpinned,q7⟩
   | ret v=>obtain ⟨x7,σ7,H7,I7,r7,q7⟩:=q7; exact ⟨x7,σ7,H7,I7.unpinned,r7,q7⟩
end
noncomputable abbrev R2:=V→V→Hp→VK→Prop
noncomputable def OpR (X:Cx) (f:Value→Value→Sem Value) (r:R2):Prop :=
 ∀ (pins:List (Addr×Obj)) (s:Shared) (σ:St) (H:Hp) (x y:V) (v u:Value) (Q:VK),Inv X pins σ H s→RelV x v→RelV y u→r x y H Q →
  wpAny (model X.prog X.w) X.A (f v u) (EP X pins σ Q) X.xe s
noncomputable def UnR (X:Cx) (f:Value→Sem Value) (r:V→Hp→VK→Prop):Prop :=
 ∀ (pins:List (Addr×Obj)) (s:Shared) (σ:St) (H:Hp) (x:V) (v:Value) (Q:VK),Inv X pins σ H s→RelV x v→r x H Q →
  wpAny (model X.prog X.w) X.A (f v) (EP X pins σ Q) X.xe s
noncomputable def au4 (X:Cx) (f:Value) (r:List V→Hp→VK→Prop):Prop :=
 ∀ (pins:List (Addr×Obj)) (s:Shared) (σ:St) (H:Hp) (xs:List V) (us:List Value) (Q:VK),Inv X pins σ H s→Vals xs us→r xs H Q →
  wpAny (model X.prog X.w) X.A (call f us) (EP X pins σ Q) X.xe s
noncomputable def tOp (r:R2) (ta tb:TE):TE:=fun σ H Q=>ta σ H fun x H1=>tb σ H1 fun y H2=>r x y H2 Q
noncomputable def tUn (r:V→Hp→VK→Prop) (ta:TE):TE:=fun σ H Q=>ta σ H fun x H1=>r x H1 Q
noncomputable def rI (C:Int→Int→Prop) (g:Int→Int→V):R2:=fun x y H Q=>∃ i j,x= .int i∧y= .int j∧C i j∧Q (g i j) H
noncomputable def rI0 (g:Int→Int→V):R2:=fun x y H Q=>∃ i j,x= .int i∧y= .int j∧Q (g i j) H
noncomputable def rU (g:Int→V):V→Hp→VK→Prop:=fun x H Q=>∃ i,x= .int i∧Q (g i) H
section
variable {X:Cx} {a b c:Expr} {ta tb tc:TE} {pos:Pos}
theorem binT (ha:PE X a ta) (hb:PE X b tb) {pins:List (Addr×Obj)} {s:Shared} {σ:St} {H:Hp} {R:V→V→Hp→Prop} (I:Inv X pins σ H s)
 (h:ta σ H fun x H1=>tb σ H1 fun y H2=>R x y H2) {Q:Value→Shared→Prop} {f:Value→Value→Sem Value}
 (hf:∀ v u s2 x y H2,Inv X pins σ H2 s2→RelV x v→RelV y u→R x y H2→wpAny (model X.prog X.w) X.A (f v u) Q X.xe s2) :
 wpAny (model X.prog X.w) X.A (eval a X.env) (fun v s₁=>wpAny (model X.prog X.w) X.A (eval b X.env) (fun u s₂=>wpAny (model X.prog X.w) X.A (f v u) Q X.xe s₂) X.xe s₁) X.xe s:=by
 refine thn (ha pins s σ H _ I h) fun v s1 ⟨x,H1,I1,r1,q1⟩=>?_
 refine thn (hb pins s1 σ H1 _ I1 q1) fun u s2 ⟨y,H2,I2,r2,q2⟩=>?_
 exact hf v u s2 x y H2 I2 r1 r2 q2
theorem ai8 {op:Operator} {r:R2} (ho:OpR X (binaryOp op) r) (ha:PE X a ta) (hb:PE X b tb):PE X (.BinOp a op b pos) (tOp r ta tb):=by
 intro pins s σ H Q I h
 exact wpAny_BinOp (binT ha hb I h fun v u s2 x y H2 I2 rx ry q=>ho pins s2 σ H2 x y v u Q I2 rx ry q)
theorem bC8 {op:UnaryOp} {r:V→Hp→VK→Prop} (ho:UnR X (unaryOp op) r) (ha:PE X a ta):PE X (.UnaryOp op a pos) (tUn r ta):=by
 intro pins s σ H Q I h
 exact UnaryOp_ (thn (ha pins s σ H _ I h) fun v s1 ⟨x,H1,I1,r1,q1⟩=>ho pins s1 σ H1 x v Q I1 r1 q1)
theorem opI {f:Value→Value→Sem Value} {C:Int→Int→Prop} {g:Int→Int→Int}
 (rule:∀ (i j:Int) (t u:Tok) (s:Shared) (Q:Value→Shared→Prop) (E:Value→Shared→Prop),C i j→Q (.int (g i j) s.toks) { s with toks:=s.toks + 1 }→wpAny (model X.prog X.w) X.A (f (.int i t) (.int j u)) Q E s) :
 OpR X f (rI C fun i j=> .int (g i j)):=by
 intro pins s σ H x y v u Q I rx ry h
 obtain ⟨i,j,rfl,rfl,hc,q⟩:=h
 obtain ⟨t,rfl⟩:=rx
 obtain ⟨t',rfl⟩:=ry
 exact rule i j t t' s _ _ hc ⟨.int (g i j),H,I.tok _,⟨_,rfl⟩,q⟩
theorem opI0 {f:Value→Value→Sem Value} {g:Int→Int→Int}
 (rule:∀ (i j:Int) (t u:Tok) (s:Shared) (Q:Value→Shared→Prop) (E:Value→Shared→Prop),Q (.int (g i j) s.toks) { s with toks:=s.toks + 1 }→wpAny (model X.prog X.w) X.A (f (.int i t) (.int j u)) Q E s) :
 OpR X f (rI0 fun i j=> .int (g i j)):=by
 intro pins s σ H x y v u Q I rx ry h
 obtain ⟨i,j,rfl,rfl,q⟩:=h
 obtain ⟨t,rfl⟩:=rx
 obtain ⟨t',rfl⟩:=ry
 exact rule i j t t' s _ _ ⟨.int (g i j),H,I.tok _,⟨_,rfl⟩,q⟩
theorem opB0 {f:Value→Value→Sem Value} {g:Int→Int→Bool}
 (rule:∀ (i j:Int) (t u:Tok) (s:Shared) (Q:Value→Shared→Prop) (E:Value→Shared→Prop),Q (.bool (g i j)) s→wpAny (model X.prog X.w) X.A (f (.int i t) (.int j u)) Q E s) :
 OpR X f (rI0 fun i j=> .bl (g i j)):=by
 intro pins s σ H x y v u Q I rx ry h
 obtain ⟨i,j,rfl,rfl,q⟩:=h
 obtain ⟨t,rfl⟩:=rx
 obtain ⟨t',rfl⟩:=ry
 exact rule i j t t' s _ _ ⟨.bl (g i j),H,I,rfl,q⟩
noncomputable def CDiv (i j:Int):Prop:=0 < j∧j < 1073741824
noncomputable def CPow (i j:Int):Prop:=0≤j∧j≤1000000∧i.natAbs < 2 ^ 64
noncomputable def CMul (i j:Int):Prop:=(-(2 ^ 64) < i∧i < 2 ^ 64)∨(-(2 ^ 64) < j∧j < 2 ^ 64)
theorem CMul.ok {i j:Int} (h:CMul i j):IntMulOk i j:=by
 rcases h with ⟨h1,h2⟩ | ⟨h1,h2⟩
 · exact .of_left (intBits_le_64 h1 h2)
 · exact .of_right (intBits_le_64 h1 h2)
theorem au9:OpR X (binaryOp .Add) (rI0 fun i j=> .int (i + j)):=opI0 fun _ _ _ _ _ _ _ q=>add_int q
theorem bO1:OpR X (binaryOp .Mult) (rI CMul fun i j=> .int (i * j)):=opI fun _ _ _ _ _ _ _ hc q=>mul_int q hc.ok
theorem ca8:OpR X (binaryOp .FloorDiv) (rI CDiv fun i j=> .int (i / j)):=opI fun i j _ _ _ _ _ hc q=>by
 have h1:(0:Int) < j:=hc.1
 have h2:j < 1073741824:=hc.2
 exact floordiv_int (by omega) (by rw [Int.fdiv_eq_ediv_of_nonneg i (by omega)]; exact q) (.inl (PyProof.noPylong_small (by omega)))
theorem ay1:OpR X (binaryOp .Mod) (rI (fun _ j=>0 < j) fun i j=> .int (i % j)):=opI fun i j _ _ _ _ _ hc q=>by
 have h1:(0:Int) < j:=hc
 exact mod_int' (by omega) (by rw [Int.fmod_eq_emod_of_nonneg i (by omega)]; exact q)
theorem co8:OpR X (binaryOp .Pow) (rI CPow fun i j=> .int (i ^ j.toNat)):=opI fun _ _ _ _ _ _ _ hc q=>pow_int_small hc.1 hc.2.1 hc.2.2 q
theorem unI {f:Value→Sem Value} {g:Int→Int}
 (rule:∀ (i:Int) (t:Tok) (s:Shared) (Q:Value→Shared→Prop) (E:Value→Shared→Prop),Q (.int (g i) s.toks) { s with toks:=s.toks + 1 }→wpAny (model X.prog X.w) X.A (f (.int i t)) Q E s) :
 UnR X f (rU fun i=> .int (g i)):=by
 intro pins s σ H x v Q I rx h
 obtain ⟨i,rfl,q⟩:=h
 obtain ⟨t,rfl⟩:=rx
 exact rule i t s _ _ ⟨.int (g i),H,I.tok _,⟨_,rfl⟩,q⟩
theorem aX1:UnR X (unaryOp .USub) (rU fun i=> .int (-i)):=unI fun _ _ _ _ _ q=>neg_int q
end
noncomputable def scal:V→V→Bool
 | .non,.non=>true | .non,.int _=>true | .int _,.non=>true | .non,.bl _=>true | .bl _,.non=>true | .non,.str _=>true | .str _,.non=>true
 | .int _,.int _=>true | .bl _,.bl _=>true | .str _,.str _=>true | .byt _,.byt _=>true
 | .int _,.str _=>true | .str _,.int _=>true | .bl _,.str _=>true | .str _,.bl _=>true
 | _,_=>false
noncomputable def rEq:R2:=fun x y H Q=>scal x y=true∧Q (.bl (decide (x=y))) H
noncomputable def rNe:R2:=fun x y H Q=>scal x y=true∧Q (.bl (!decide (x=y))) H
theorem br6 {i j:Int}:decide (V.int i=V.int j)=(i == j):=by
 rw [Bool.eq_iff_iff]
 simp
theorem bP8 {i j:Bool}:decide (V.bl i=V.bl j)=(i == j):=by
 rw [Bool.eq_iff_iff]
 simp
theorem br5 {i j:Str}:decide (V.str i=V.str j)=(i == j):=by
 rw [Bool.eq_iff_iff]
 simp
theorem br7 {i j:Array UInt8}:decide (V.byt i=V.byt j)=(i.toList == j.toList):=by
 rw [Bool.eq_iff_iff]
 cases i
 cases j
 simp
section
variable {X:Cx} {a b c:Expr} {ta tb tc:TE} {pos:Pos}
theorem ad4 {pins:List (Addr×Obj)} {σ:St} {H:Hp} {s:Shared} {Q:VK} {k k':Bool} (I:Inv X pins σ H s) (q:Q (.bl k) H) (e:k=k'):EP X pins σ Q (.bool k') s:=by
 subst e
 exact ⟨.bl k,H,I,rfl,q⟩
theorem be6:OpR X (compareOp .Eq) rEq:=by
 intro pins s σ H x y v u Q I rx ry h
 obtain ⟨hs,q⟩:=h
 cases x with
 | non =>
   cases rx
   cases y with
   | non=>cases ry; exact PySem.EqNone.eq_none_none (ad4 I q (by simp))
   | bl j=>cases ry; exact PySem.EqNone.eq_none_bool (ad4 I q (by simp))
   | int j=>obtain ⟨t',rfl⟩:=ry; exact PySem.EqNone.eq_none_int (ad4 I q (by simp))
   | str j=>obtain ⟨t',rfl⟩:=ry; exact PySem.EqNone.eq_none_str (ad4 I q (by simp))
   | _=>exact absurd (show false=true from hs) Bool.false_ne_true
 | bl i =>
   cases rx
   cases y with
   | non=>cases ry; exact PySem.EqNone.eq_bool_none (ad4 I q (by simp))
   | bl j=>cases ry; exact eq_bool (ad4 I q bP8)
   | str j=>obtain ⟨t',rfl⟩:=ry; exact PySem.EqMixed.eq_bool_str (ad4 I q (by simp))
   | _=>exact absurd (show false=true from hs) Bool.false_ne_true
 | int i =>
   obtain ⟨t,rfl⟩:=rx
   cases y with
   | non=>cases ry; exact PySem.EqNone.eq_int_none (ad4 I q (by simp))
   | int j=>obtain ⟨t',rfl⟩:=ry; exact eq_int (ad4 I q br6)
   | str j=>obtain ⟨t',rfl⟩:=ry; exact PySem.EqMixed.eq_int_str (ad4 I q (by simp))
   | _=>exact absurd (show false=true from hs) Bool.false_ne_true
 | str i =>
   obtain ⟨t,rfl⟩:=rx
   cases y with
   | non=>cases ry; exact PySem.EqNone.eq_str_none (ad4 I q (by simp))
   | bl j=>cases ry; exact PySem.EqMixed.eq_str_bool (ad4 I q (by simp))
   | int j=>obtain ⟨t',rfl⟩:=ry; exact PySem.EqMixed.eq_str_int (ad4 I q (by simp))
   | str j=>obtain ⟨t',rfl⟩:=ry; exact eq_str (ad4 I q br5)
   | _=>exact absurd (show false=true from hs) Bool.false_ne_true
 | byt i =>
   obtain ⟨t,rfl⟩:=rx
   cases y with
   | byt j=>obtain ⟨t',rfl⟩:=ry; exact PySem.W.eq_bytes (ad4 I q br7)
   | _=>exact absurd (show false=true from hs) Bool.false_ne_true
 | _=>cases y <;> exact absurd (show false=true from hs) Bool.false_ne_true
theorem be5:OpR X (compareOp .NotEq) rNe:=by
 intro pins s σ H x y v u Q I rx ry h
 obtain ⟨hs,q⟩:=h
 cases x with
 | non =>
   cases rx
   cases y with
   | non=>cases ry; exact PySem.EqNone.ne_none_none (ad4 I q (by simp))
   | bl j=>cases ry; exact PySem.EqNone.ne_none_bool (ad4 I q (by simp))
   | int j=>obtain ⟨t',rfl⟩:=ry; exact PySem.EqNone.ne_none_int (ad4 I q (by simp))
   | str j=>obtain ⟨t',rfl⟩:=ry; exact PySem.EqNone.ne_none_str (ad4 I q (by simp))
   | _=>exact absurd (show false=true from hs) Bool.false_ne_true
 | bl i =>
   cases rx
   cases y with
   | non=>cases ry; exact PySem.EqNone.ne_bool_none (ad4 I q (by simp))
   | bl j=>cases ry; exact ne_bool (ad4 I q (congrArg not bP8))
   | str j=>obtain ⟨t',rfl⟩:=ry; exact PySem.EqMixed.ne_bool_str (ad4 I q (by simp))
   | _=>exact absurd (show false=true from hs) Bool.false_ne_true
 | int i =>
   obtain ⟨t,rfl⟩:=rx
   cases y with
   | non=>cases ry; exact PySem.EqNone.ne_int_none (ad4 I q (by simp))
   | int j=>obtain ⟨t',rfl⟩:=ry; exact ne_int (ad4 I q (congrArg not br6))
   | str j=>obtain ⟨t',rfl⟩:=ry; exact PySem.EqMixed.ne_int_str (ad4 I q (by simp))
   | _=>exact absurd (show false=true from hs) Bool.false_ne_true
 | str i =>
   obtain ⟨t,rfl⟩:=rx
   cases y with
   | non=>cases ry; exact PySem.EqNone.ne_str_none (ad4 I q (by simp))
   | bl j=>cases ry; exact PySem.EqMixed.ne_str_bool (ad4 I q (by simp))
   | int j=>obtain ⟨t',rfl⟩:=ry; exact PySem.EqMixed.ne_str_int (ad4 I q (by simp))
   | str j=>obtain ⟨t',rfl⟩:=ry; exact ne_str (ad4 I q (congrArg not br5))
   | _=>exact absurd (show false=true from hs) Bool.false_ne_true
 | byt i =>
   obtain ⟨t,rfl⟩:=rx
   cases y with
   | byt j=>obtain ⟨t',rfl⟩:=ry; exact PySem.W.ne_bytes (ad4 I q (congrArg not br7))
   | _=>exact absurd (show false=true from hs) Bool.false_ne_true
 | _=>cases y <;> exact absurd (show false=true from hs) Bool.false_ne_true
theorem bm7:OpR X (compareOp .Lt) (rI0 fun i j=> .bl (decide (i < j))):=opB0 fun _ _ _ _ _ _ _ q=>lt_int q
theorem ca7:OpR X (compareOp .Gt) (rI0 fun i j=> .bl (decide (j < i))):=opB0 fun _ _ _ _ _ _ _ q=>gt_int q
theorem op_ge:OpR X (compareOp .GtE) (rI0 fun i j=> .bl (decide (j≤i))):=opB0 fun _ _ _ _ _ _ _ q=>ge_int q
theorem au8:OpR X (compareOp .Is) (fun x y H Q=>y= .non∧Q (.bl (decide (x= .non))) H):=by
 intro pins s σ H x y v u Q I rx ry h
 obtain ⟨rfl,q⟩:=h
 cases ry
 refine is_none_gen (ad4 I q ?_)
 cases x <;> first
  | (cases rx; rfl)
  | (obtain ⟨t,rfl⟩:=rx; rfl)
theorem ca4:OpR X (compareOp .IsNot) (fun x y H Q=>y= .non∧Q (.bl (!decide (x= .non))) H):=by
 intro pins s σ H x y v u Q I rx ry h
 obtain ⟨rfl,q⟩:=h
 cases ry
 refine isnot_none_gen (ad4 I q ?_)
 cases x <;> first
  | (cases rx; rfl)
  | (obtain ⟨t,rfl⟩:=rx; rfl)
theorem ac9 (b:Expr) {op:CmpOp} (h:op≠ .In:=by decide) (h2:op≠ .NotIn:=by decide):behindInMarks op b=false:=by
 have e1:(op == CmpOp.In)=false:=by cases op <;> first | rfl | exact absurd rfl h
 have e2:(op == CmpOp.NotIn)=false:=by cases op <;> first | rfl | exact absurd rfl h2
 cases b <;> simp [behindInMarks,e1,e2]
theorem aF9 {op:CmpOp} {r:R2} (ho:OpR X (compareOp op) r) (ha:PE X a ta) (hb:PE X b tb) (hm:behindInMarks op b=false):PE X (.Compare a [op] [b] pos) (tOp r ta tb):=by
 intro pins s σ H Q I h
 exact wpAny_Compare1 (binT ha hb I h fun v u s2 x y H2 I2 rx ry q=>ho pins s2 σ H2 x y v u Q I2 rx ry q) hm
noncomputable def ck3 (t:TE):TT:=fun σ H Q=>t σ H fun x H'=>∃ k,x= .bl k∧Q k H'
theorem ab8 {op:CmpOp} {r:R2} (ho:OpR X (compareOp op) r) (ha:PE X a ta) (hb:PE X b tb) (hm:behindInMarks op b=false):PT X (.Compare a [op] [b] pos) (ck3 (tOp r ta tb)):=by
 intro pins s σ H Q I h
 refine wpAny_isTrue_Compare1 (thn (ha pins s σ H _ I h) fun v s1 ⟨x,H1,I1,r1,q1⟩=>thn (hb pins s1 σ H1 _ I1 q1) fun u s2 ⟨y,H2,I2,r2,q2⟩ =>
  thn (ho pins s2 σ H2 x y v u _ I2 r1 r2 q2) fun c s3 ⟨z,H3,I3,r3,k,e,q3⟩=>?_) hm
 subst e
 cases r3
 exact wpAny_truthy_bool ⟨H3,I3,q3⟩
theorem aZ7:(sizeLine:Nat) < 2 ^ 63:=by rw [sizeLine_eq]; decide
theorem ck0 {x:V} {us:List Value} (r:Vals [x] us):∃ u,us=[u]∧RelV x u:=by
 cases r with
 | cons r1 r2=>cases r2; exact ⟨_,rfl,r1⟩
theorem vals2 {x y:V} {us:List Value} (r:Vals [x,y] us):∃ u w',us=[u,w']∧RelV x u∧RelV y w':=by
 cases r with
 | cons r1 r2 =>
   cases r2 with
   | cons r3 r4=>cases r4; exact ⟨_,_,rfl,r1,r3⟩
end
structure ObjM (h:Heap) (x dx C:Addr) (mA:Str→Option Value):Prop where
 obj:h.get? x=some (PySem.W.instObj C dx)
 ns:h.Ns1 dx mA
 ne:dx≠x
theorem bo6 {h:Heap} {dx:Addr} {mA:Str→Option Value} (n:h.Ns1 dx mA):∃ od,h.get? dx=some od∧∀ name,PySem.W.lookIn name od=some (mA name):=by
 obtain ⟨o,es,ep,ho,hd,hk,_,hm⟩:=n
 refine ⟨o,ho,fun name=>?_⟩
 have e:=hm name
 unfold nsFind findBy at e
 rw [← Array.find?_toList] at e
 unfold PySem.W.lookIn
 rw [hd]
 dsimp only
 split
 · rename_i y q
   rw [q] at e
   exact congrArg some e
 · rename_i q
   rw [q] at e
   have a:es.toList.any (·.refKey)=false:=by
    rw [List.any_eq_false]
    intro y hy
    obtain ⟨z,t,hkey⟩:=hk y (Array.mem_toList_iff.mp hy)
    simp [DictEntry.refKey,hkey]
   have a':¬ es.toList.any (·.refKey)=true:=by rw [a]; exact Bool.false_ne_true
   rw [if_neg a']
   exact congrArg some e
theorem ObjM.look {h:Heap} {x dx C:Addr} {mA:Str→Option Value} (I:ObjM h x dx C mA):∃ od,PySem.W.InstAt h x (PySem.W.instObj C dx) C (some od)∧∀ name,PySem.W.lookIn name od=some (mA name) :=
 let ⟨od,ho,hl⟩:=bo6 I.ns
 ⟨od,⟨I.obj,rfl,rfl,ho⟩,hl⟩
section
variable {prog:Program} {w:World} {A:Around} {E:Value→Shared→Prop} {s:Shared} {K:PySem.W.Frag} {x dx C f:Addr} {mA:Str→Option Value} {name:Str} {v:Value}
theorem cf6 {expr:Bool} {Q:Value→Shared→Prop} (X:K.In s.heap) (I:ObjM s.heap x dx C mA) (hg:PySem.W.plainGet K C name=true) (hh:PySem.W.hasDictIn K C=true)
 (ha:PySem.W.findIn K (.ref C) name=some none) (hv:mA name=some v) (hv':PySem.W.handedIn v=true) (h:Q v { s with toks:=s.toks + 1 }) :
 wpAny (model prog w) A (getAttr (.ref x) name expr) Q E s:=by
 obtain ⟨od,J,hl⟩:=I.look
 exact PySem.W.get_value X J (PySem.W.plainGet_of hg).1 (PySem.W.findObj_own hh ha rfl (by rw [hl,hv])) hv' h
theorem bG2 {pl:Sem Bool} {Q:Value×List Value→Shared→Prop} (X:K.In s.heap) (I:ObjM s.heap x dx C mA) (hg:PySem.W.plainGet K C name=true)
 (hf:PySem.W.findIn K (.ref C) name=some (some (.ref f))) (ht:PySem.W.isFn K (.ref f)=true) (hv:mA name=none) (h:Q (.ref f,[.ref x]) s) :
 wpAny (model prog w) A (getMethod (.ref x) name pl) Q E s:=by
 obtain ⟨od,J,hl⟩:=I.look
 exact PySem.W.method_fn X J (PySem.W.plainGet_of hg).1 (PySem.W.plainGet_of hg).2 hf (beq_iff_eq.mp ht) (by show (PySem.W.lookIn name od).map (·.isSome)=some false; rw [hl,hv]; rfl) h
theorem bY6 {ns:List Str} {Q:Unit→Shared→Prop} (X:K.In s.heap) (I:ObjM s.heap x dx C mA)
 (hs:PySem.W.findIn K (.ref C) "__setattr__" = some (some (.builtin "object.__setattr__"))) (hp:PySem.W.plainOver K C=true) (ht:PySem.W.takerIn K C name=some none) (hh:PySem.W.hasDictIn K C=true)
 (hw:PySem.Within mA ns) (hsz:ns.length≤sizeLine)
 (h:∀ h',ObjM h' x dx C (fun y=>if y=name then some v else mA y)→Heap.SameBut dx s.heap h'→Q () { s with heap:=h',toks:=s.toks + 2 }) :
 wpAny (model prog w) A (setAttr (.ref x) name v) Q E s:=by
 obtain ⟨od,J,hl⟩:=I.look
 refine PySem.W.set_plain X J hs (PySem.W.osa_open (s:={ s with toks:=s.toks + 1 }) (r:=none) X J hp ht fun b=>?_)
 obtain ⟨cd,hc,hd'⟩:=PySem.W.any_some hh
 have hx:s.heap.get? x=some ⟨.ref C,some dx,.plain,#[]⟩:=I.obj
 refine wpAny_bind (wpAny_pure (wpAny_bind (wpAny_bind (wpAny_loadPart hx (wpAny_bind (PySem.W.Looks.here (s:={ s with toks:=s.toks + 1 }) (PySem.W.looks_clsIn X hc) ?_))))))
 rw [hd']
 refine wpAny_pure (a:=some dx) (wpAny_bind (wpAny_pure (wpAny_bind ?_)))
 refine wpAny_nsSet1 (s:={ s with toks:=s.toks + 1 }) I.ns fun h' hn2 hs2=>?_
 obtain ⟨oD,esD,epD,hoD,hdD,hcD⟩:=hn2.count (PySem.Within.cons name v hw)
 refine wpAny_bind (wpAny_lookBehind hoD (by rw [hdD]; exact pastItsLine_dict (Nat.le_trans hcD (by rw [List.length_cons]; omega))) ?_)
 exact wpAny_pure (h _ ⟨(hs2.2 _ (Ne.symm I.ne)).trans I.obj,hn2,I.ne⟩ hs2)
theorem bE9 {R:Result→Shared→Prop} {vs:List Value} {kw:List (Str×Value)} (X:K.In s.heap) (hm:PySem.W.makesIn K C=true)
 (hi:PySem.W.findIn K (.ref C) "__init__" = some (some (.ref f))) (hf:PySem.W.typeIn K (.ref f)=some (.type "function"))
 (h:codeAny (model prog w) (A.under (.builtin "type.__call__" ⟨.ref C :: vs,kw⟩)) (.call (.ref f) ⟨.ref (s.heap.objs.size + 1) :: vs,kw⟩) (PySem.W.InitBack (s.heap.objs.size + 1) R)
   { s with heap:=(s.heap.push PySem.W.emptyDict).push (PySem.W.instObj C s.heap.objs.size) }) :
 codeAny (model prog w) A (.call (.ref C) ⟨vs,kw⟩) R s:=by
 obtain ⟨hh,g,d,t,os⟩:=s
 exact PySem.W.make_core (PySem.W.makes_of X hm) (PySem.W.looks_findIn X hi) (fun self=>PySem.W.bind_fn X self hf) (.inl rfl) h
end
noncomputable def putF (f:Str) (v:V):List (Str×V)→List (Str×V)
 | []=>[(f,v)]
 | (g,x) :: r=>if g=f then (g,v) :: r else (g,x) :: putF f v r
theorem ay4 (f g:Str) (v:V):∀ fs:List (Str×V),(putF f v fs).lookup g=if g=f then some v else fs.lookup g
 | []=>by
   show List.lookup g [(f,v)]=_
   by_cases h:g=f
   · have hb:(g == f)=true:=beq_iff_eq.mpr h
     simp only [List.lookup,hb,if_pos h]
   · have hb:(g == f)=false:=beq_eq_false_iff_ne.mpr h
     simp only [List.lookup,hb,if_neg h]
 | (k,x) :: r=>by
   have ih:=ay4 f g v r
   rw [show putF f v ((k,x) :: r)=(if k=f then (k,v) :: r else (k,x) :: putF f v r) from rfl]
   by_cases hk:k=f
   · rw [if_pos hk]
     by_cases h:g=k
     · have hb:(g == k)=true:=beq_iff_eq.mpr h
       simp only [List.lookup,hb,if_pos (h.trans hk)]
     · have hb:(g == k)=false:=beq_eq_false_iff_ne.mpr h
       simp only [List.lookup,hb,if_neg (fun e:g=f=>h (e.trans hk.symm))]
   · rw [if_neg hk]
     by_cases h:g=k
     · have hb:(g == k)=true:=beq_iff_eq.mpr h
       simp only [List.lookup,hb,if_neg (fun e:g=f=>hk (h.symm.trans e))]
     · have hb:(g == k)=false:=beq_eq_false_iff_ne.mpr h
       simp only [List.lookup,hb]
       exact ih
theorem ay8 (f:Str) (v:V):∀ fs:List (Str×V),f∈(putF f v fs).map (·.1)∧∀ g,g∈fs.map (·.1)→g∈(putF f v fs).map (·.1)
 | []=>⟨by simp [putF],fun g h=>by simp at h⟩
 | (k,x) :: r=>by
   obtain ⟨i1,i2⟩:=ay8 f v r
   rw [show putF f v ((k,x) :: r)=(if k=f then (k,v) :: r else (k,x) :: putF f v r) from rfl]
   by_cases hk:k=f
   · rw [if_pos hk]
     subst hk
     exact ⟨by simp,fun g h=>by simpa using h⟩
   · rw [if_neg hk]
     refine ⟨?_,fun g h=>?_⟩
     · rw [List.map_cons]
       exact List.mem_cons_of_mem _ i1
     · rw [List.map_cons] at h ⊢
       rcases List.mem_cons.mp h with e | e
       · exact List.mem_cons.mpr (.inl e)
       · exact List.mem_cons_of_mem _ (i2 g e)
theorem ay7 (f:Str) (v:V):∀ fs:List (Str×V),(putF f v fs).length≤fs.length + 1
 | []=>by simp [putF]
 | (k,x) :: r=>by
   have ih:=ay7 f v r
   rw [show putF f v ((k,x) :: r)=(if k=f then (k,v) :: r else (k,x) :: putF f v r) from rfl]
   by_cases hk:k=f
   · rw [if_pos hk,List.length_cons,List.length_cons]; omega
   · rw [if_neg hk,List.length_cons,List.length_cons]; omega
theorem RelO.some_of {v:V} {o:Option Value} (r:RelO (some v) o):∃ u,o=some u∧RelV v u:=by
 cases o with
 | none=>exact (show False from r).elim
 | some u=>exact ⟨u,rfl,r⟩
theorem RelO.none_of {o:Option Value} (r:RelO none o):o=none:=by
 cases o with
 | none=>rfl
 | some u=>exact (show False from r).elim
theorem bq0 {v:V} {u:Value} (r:RelV v u):PySem.W.handedIn u=true:=by
 cases v with
 | non=>cases (show u=Value.none from r); rfl
 | bl b=>cases (show u=Value.bool b from r); rfl
 | int i=>obtain ⟨t,e⟩:=(show ∃ t,u=Value.int i t from r); cases e; rfl
 | str x=>obtain ⟨t,e⟩:=(show ∃ t,u=Value.str x t from r); cases e; rfl
 | byt b=>obtain ⟨t,e⟩:=(show ∃ t,u=Value.bytes b t from r); cases e; rfl
 | flt b=>obtain ⟨t,e⟩:=(show ∃ t,u=Value.float b t from r); cases e; rfl
 | ref a=>cases (show u=Value.ref a from r); rfl
 | ty n=>cases (show u=Value.type n from r); rfl
section
variable {P:Program} {w:World} {H H':Hp} {h h':Heap} {a C dx:Addr} {fs fs':List (Str×V)}
theorem aG8 (hok:HOk P w H h) (e:H a=some (.ins C dx fs)):∃ mA,ObjM h a dx C mA∧(∀ f,RelO (fs.lookup f) (mA f))∧PySem.Within mA (fs.map (·.1))∧fs.length≤1000∧H dx=some (.own a):=by
 obtain ⟨d,z,ne,ob,mA,n,r,q⟩:=(show ObjOk P w H h a (.ins C dx fs) from hok a _ e)
 exact ⟨mA,⟨ob,n,ne⟩,r,q,z,d⟩
end
structure Cls (K:PySem.W.Frag) (C:Addr):Prop where
 pg:PySem.W.plainGet K C Str.empty=true
 hd:PySem.W.hasDictIn K C=true
 po:PySem.W.plainOver K C=true
 sa:PySem.W.findIn K (.ref C) "__setattr__" = some (some (.builtin "object.__setattr__"))
theorem Cls.get {K:PySem.W.Frag} {C:Addr} (c:Cls K C) (f:Str):PySem.W.plainGet K C f=true:=c.pg
noncomputable def NoAttr (K:PySem.W.Frag) (C:Addr) (f:Str):Prop:=PySem.W.findIn K (.ref C) f=some none
theorem NoAttr.taker {K:PySem.W.Frag} {C:Addr} {f:Str} (n:NoAttr K C f):PySem.W.takerIn K C f=some none:=by
 unfold PySem.W.takerIn
 rw [show PySem.W.findIn K (.ref C) f=some none from n]
 rfl
structure Meth (K:PySem.W.Frag) (C:Addr) (m:Str) (f:Addr):Prop where
 at_:PySem.W.findIn K (.ref C) m=some (some (.ref f))
 fn:PySem.W.isFn K (.ref f)=true
 kp:PySem.W.keepIn K (.ref f)=true
section
variable {X:Cx} {pins:List (Addr×Obj)} {σ:St} {H:Hp} {s:Shared} {a C dx:Addr} {fs:List (Str×V)} {f:Str} {v:V} {A:Around} {E:Value→Shared→Prop}
theorem bf6 {b:Bool} {Q:Value→Shared→Prop} (I:Inv X pins σ H s) (e:H a=some (.ins C dx fs)) (c:Cls X.K C) (n:NoAttr X.K C f) (l:fs.lookup f=some v)
 (h:∀ u s',Inv X pins σ H s'→RelV v u→Q u s'):wpAny (model X.prog X.w) A (getAttr (.ref a) f b) Q E s:=by
 obtain ⟨mA,O,r,_,_,_⟩:=aG8 I.hok e
 obtain ⟨u,hu,ru⟩:=RelO.some_of (v:=v) (o:=mA f) (by rw [← l]; exact r f)
 exact cf6 I.kIn O (c.get f) c.hd n hu (bq0 ru) (h u _ (I.tok _) ru)
theorem aE0 {m:Str} {g:Addr} {pl:Sem Bool} {Q:Value×List Value→Shared→Prop} (I:Inv X pins σ H s) (e:H a=some (.ins C dx fs)) (c:Cls X.K C) (k:Meth X.K C m g) (l:fs.lookup m=none)
 (h:Q (.ref g,[.ref a]) s):wpAny (model X.prog X.w) A (getMethod (.ref a) m pl) Q E s:=by
 obtain ⟨mA,O,r,_,_,_⟩:=aG8 I.hok e
 have hn:mA m=none:=RelO.none_of (by rw [← l]; exact r m)
 exact bG2 I.kIn O (c.get m) k.at_ k.fn hn h
theorem be2 {y:V} {u:Value} {Q:Unit→Shared→Prop} (I:Inv X pins σ H s) (e:H a=some (.ins C dx fs)) (c:Cls X.K C) (n:NoAttr X.K C f) (hl:fs.length < 1000) (ry:RelV y u)
 (h:∀ s',Inv X pins σ (upd H a (.ins C dx (putF f y fs))) s'→Q () s'):wpAny (model X.prog X.w) A (setAttr (.ref a) f u) Q E s:=by
 obtain ⟨mA,O,r,wi,_,ho⟩:=aG8 I.hok e
 have hz:(fs.map (·.1)).length≤sizeLine:=by rw [List.length_map,sizeLine_eq]; omega
 refine bY6 I.kIn O c.sa c.po n.taker c.hd wi hz fun h' O' sb=>h _ ?_
 have hd:∃ o,h'.get? dx=some o:=let ⟨o,_,_,e',_⟩:=O'.ns; ⟨o,e'⟩
 refine I.write (x:=a) (e:=dx) (by rw [e]; exact True.intro) (.inr ho) (fun b q hb z=>(sb.2 b hb).trans z) hd ?_
 refine ⟨by rw [ac3 O.ne]; exact ho,?_,O.ne,O'.obj,_,O'.ns,fun g=>?_,fun g hg=>?_⟩
 · have:=ay7 f y fs; omega
 · show RelO ((putF f y fs).lookup g) (if g=f then some u else mA g)
   rw [ay4]
   by_cases q:g=f
   · rw [if_pos q,if_pos q]; exact ry
   · rw [if_neg q,if_neg q]; exact r g
 · by_cases q:g=f
   · rw [q]; exact (ay8 f y fs).1
   · refine (ay8 f y fs).2 g (wi g fun z=>hg ?_)
     show (if g=f then some u else mA g)=none
     rw [if_neg q]; exact z
theorem Inv.made (I:Inv X pins σ H s):Inv X pins σ (upd (upd H s.heap.objs.size (.own (s.heap.objs.size + 1))) (s.heap.objs.size + 1) (.ins C s.heap.objs.size []))
 { s with heap:=(s.heap.push PySem.W.emptyDict).push (PySem.W.instObj C s.heap.objs.size) }:=by
 have e1:(s.heap.push PySem.W.emptyDict).get? s.heap.objs.size=some PySem.W.emptyDict:=Heap.get?_push_size s.heap rfl
 have e2:((s.heap.push PySem.W.emptyDict).push (PySem.W.instObj C s.heap.objs.size)).get? (s.heap.objs.size + 1)=some (PySem.W.instObj C s.heap.objs.size):=by
  have:=Heap.get?_push_size (s.heap.push PySem.W.emptyDict) (o:=PySem.W.instObj C s.heap.objs.size) rfl
  rwa [Heap.size_push] at this
 have e3:(s.heap.push PySem.W.emptyDict).Ns s.heap.objs.size (fun _=>none):=⟨PySem.W.emptyDict,#[],_,e1,rfl,(fun e he=>absurd he (by simp)),fun _=>rfl⟩
 have I1:=I.laid (a:=s.heap.objs.size) (o:= .own (s.heap.objs.size + 1)) (h':=s.heap.push PySem.W.emptyDict) (t':=s.toks) (fun b u q=>Heap.get?_push_of_some _ q) (Nat.le_refl _) ⟨_,e1⟩
 refine I1.laid (a:=s.heap.objs.size + 1) (o:= .ins C s.heap.objs.size []) (t':=s.toks) (fun b u q=>Heap.get?_push_of_some _ q) (Nat.le_of_eq (Heap.size_push _ _)) ?_
 have ne:s.heap.objs.size≠s.heap.objs.size + 1:=Nat.ne_of_lt (Nat.lt_succ_self _)
 refine ⟨by rw [ac3 ne,ac4],Nat.zero_le _,ne,e2,fun _=>none,(Heap.Ns1.of_empty e3).at fun o q=>Heap.get?_push_of_some _ q,fun _=>True.intro,fun y hy=>absurd rfl hy⟩
theorem cj4 {prog:Program} {w:World} {env:Env} {e:Expr} {f:Str} {pos:Pos} {s:Shared} {Q:Value→Shared→Prop} (hb:attributeBase e f env (eval e env)=eval e env)
 (h:wpAny (model prog w) A (eval e env) (fun o s₁=>wpAny (model prog w) A (getAttr o f true) Q E s₁) E s):wpAny (model prog w) A (eval (.Attribute e f pos) env) Q E s :=
 Attribute_any_ h (by rw [arm_eval_Attribute,hb])
end
noncomputable def tFld (K:PySem.W.Frag) (ta:TE) (f:Str):TE:=fun σ H Q=>ta σ H fun x H1=>∃ a C dx fs v,x= .ref a∧H1 a=some (.ins C dx fs)∧Cls K C∧NoAttr K C f∧fs.lookup f=some v∧Q v H1
noncomputable def sFld (K:PySem.W.Frag) (ta tv:TE) (f:Str):TS:=fun D σ H=>tv σ H fun y H1=>ta σ H1 fun x H2=>∃ a C dx fs,x= .ref a∧H2 a=some (.ins C dx fs)∧Cls K C∧NoAttr K C f∧fs.length < 1000 ∧
 D.nx σ (upd H2 a (.ins C dx (putF f y fs)))
section
variable {X:Cx} {o e value:Expr} {f:Str} {pos pos' tpos:Pos} {ta tv:TE}
theorem cn9 (he:PE X e ta) (hb:attributeBase e f X.env (eval e X.env)=eval e X.env):PE X (.Attribute e f pos) (tFld X.K ta f):=by
 intro pins s σ H Q I h
 refine cj4 hb (thn (he pins s σ H _ I h) fun u s1 ⟨x,H1,I1,rx,a,C,dx,fs,v,ex,ea,c,n,l,q⟩=>?_)
 subst ex
 obtain rfl:u=Value.ref a:=rx
 exact bf6 I1 ea c n l fun u' s2 I2 ru=>⟨v,H1,I2,ru,q⟩
theorem aL0 (ha:PE X o ta) (hv:PE X value tv) (hs:swapsWith value (some (.Attribute o f pos')) pos.line X.env=pure false):PS X (.Assign [.Attribute o f pos'] value pos) (sFld X.K ta tv f):=by
 intro pins s σ H D I h
 refine plainObj_wpAny_Assign_Attribute (thn (hv pins s σ H _ I h) fun u s1 ⟨y,H1,I1,ry,q⟩=>thn (ha pins s1 σ H1 _ I1 q) fun ov s2 ⟨x,H2,I2,rx,a,C,dx,fs,ex,ea,c,n,l,q2⟩=>?_) hs
 subst ex
 obtain rfl:ov=Value.ref a:=rx
 exact be2 I2 ea c n l ry fun s3 I3=>⟨σ,_,I3,q2⟩
end
section
variable {X:Cx} {pins:List (Addr×Obj)} {σ:St} {H:Hp} {s:Shared} {A:Around} {E:Value→Shared→Prop} {Q:Value→Shared→Prop} {c:Value} {b:Bool}
inductive TyOf (K:PySem.W.Frag) (H:Hp):V→Value→Prop where
 | non:TyOf K H .non (.type "NoneType")
 | bl (x:Bool):TyOf K H (.bl x) (.type "bool")
 | int (i:Int):TyOf K H (.int i) (.type "int")
 | str (x:Str):TyOf K H (.str x) (.type "str")
 | flt (x:UInt64):TyOf K H (.flt x) (.type "float")
 | lst {a:Addr} {xs:List V} (e:H a=some (.lst xs)):TyOf K H (.ref a) (.type "list")
 | frz {a:Addr} {o:Obj} {xs:List V} (e:H a=some (.frz o (.lst xs))):TyOf K H (.ref a) (.type "list")
 | tup {a:Addr} {xs:List V} (e:H a=some (.tup xs)):TyOf K H (.ref a) (.type "tuple")
 | dK {a:Addr} {kvs:List (Key×V)} (e:H a=some (.dK kvs)):TyOf K H (.ref a) (.type "dict")
 | dT {a:Addr} {kvs:List (List Key×V)} (e:H a=some (.dT kvs)):TyOf K H (.ref a) (.type "dict")
 | ins {a C dx:Addr} {fs:List (Str×V)} (e:H a=some (.ins C dx fs)) (cl:Cls K C) (ha:PySem.W.findIn K (.ref C) "__class__" = some (some (.builtin "object.__class__")))
    (hn:PySem.W.specialIn K (.builtin "object.__class__") "__get__" = some (some (.builtin "getset_descriptor.__get__"))) (htk:PySem.W.takesIn K (.builtin "object.__class__")=some true)
    (hm:PySem.W.mroIn K C (.type "object")=some true):TyOf K H (.ref a) (.ref C)
theorem bp3 {x:V} {u t:Value} (I:Inv X pins σ H s) (rx:RelV x u) (ty:TyOf X.K H x t) (e:PySem.W.kitOne X.K t c=some b) (h:∀ tk,Q (.bool b) { s with toks:=tk }) :
 wpAny (model X.prog X.w) A (call (.builtin "isinstance") [u,c]) Q E s:=by
 cases ty with
 | non=>cases (show u=Value.none from rx); exact PySem.W.kia_one PySem.W.kitx_none I.kIn True.intro e (fun z=>nomatch z) h
 | bl y=>cases (show u=Value.bool y from rx); exact PySem.W.kia_one PySem.W.kitx_bool I.kIn True.intro e (fun z=>nomatch z) h
 | int i=>obtain ⟨t,q⟩:=(show ∃ t,u=Value.int i t from rx); cases q; exact PySem.W.kia_one PySem.W.kitx_int I.kIn True.intro e (fun z=>nomatch z) h
 | str y=>obtain ⟨t,q⟩:=(show ∃ t,u=Value.str y t from rx); cases q; exact PySem.W.kia_one PySem.W.kitx_str I.kIn True.intro e (fun z=>nomatch z) h
 | flt y=>obtain ⟨t,q⟩:=(show ∃ t,u=Value.float y t from rx); cases q; exact PySem.W.kia_one PySem.W.kitx_float I.kIn True.intro e (fun z=>nomatch z) h
 | @lst a xs ea =>
   cases (show u=Value.ref a from rx)
   obtain ⟨_,_,n,_,h1⟩:=(show ObjOk X.prog X.w H s.heap a (.lst xs) from I.hok a _ ea)
   exact PySem.W.kia_one PySem.W.kitx_list I.kIn ⟨_,h1,rfl⟩ e (fun z=>nomatch z) h
 | @frz a ob xs ea =>
   cases (show u=Value.ref a from rx)
   obtain ⟨_,_,_,n,_,h1⟩:=(show ObjOk X.prog X.w H s.heap a (.frz ob (.lst xs)) from I.hok a _ ea)
   exact PySem.W.kia_one PySem.W.kitx_list I.kIn ⟨_,h1,rfl⟩ e (fun z=>nomatch z) h
 | @tup a xs ea =>
   cases (show u=Value.ref a from rx)
   obtain ⟨_,_,_,p⟩:=(show ObjOk X.prog X.w H s.heap a (.tup xs) from I.hok a _ ea)
   obtain ⟨o,h1,h2,_⟩:=p
   exact PySem.W.kia_one PySem.W.kitx_tuple I.kIn ⟨o,h1,h2⟩ e (fun z=>nomatch z) h
 | @dK a kvs ea =>
   cases (show u=Value.ref a from rx)
   obtain ⟨_,_,vs,_,p⟩:=(show ObjOk X.prog X.w H s.heap a (.dK kvs) from I.hok a _ ea)
   obtain ⟨o,es,ep,h1,h2,_⟩:=p
   exact PySem.W.kia_one PySem.W.kitx_dict I.kIn ⟨o,h1,h2.1⟩ e (fun z=>nomatch z) h
 | @dT a kvs ea =>
   cases (show u=Value.ref a from rx)
   obtain ⟨_,_,xs,_,o,es,ep,h1,h2,_⟩:=(show ObjOk X.prog X.w H s.heap a (.dT kvs) from I.hok a _ ea)
   exact PySem.W.kia_one PySem.W.kitx_dict I.kIn ⟨o,h1,h2.1⟩ e (fun z=>nomatch z) h
 | @ins a C dx fs ea cl ha hn htk hm =>
   cases (show u=Value.ref a from rx)
   obtain ⟨mA,O,_⟩:=aG8 I.hok ea
   obtain ⟨od,J,_⟩:=O.look
   exact PySem.W.kia_one (PySem.W.kitx_own (cl.get _) cl.hd ha hn htk hm) I.kIn J e (fun z=>nomatch z) h
end
structure Room (k:Nat) (A:Around):Prop where
 hd:A.handled=none
 dp:A.depth + 3 * k + 5 < recursionLimit
 un:A.units + 16 * k + 200 < cLine
theorem Room.mono {j k:Nat} {A:Around} (r:Room k A) (h:j≤k):Room j A:=⟨r.hd,by have:=r.dp; omega,by have:=r.un; omega⟩
theorem Room.deeper {k:Nat} {A:Around} (r:Room (k + 1) A) (env:Env):Room k (A.deeper env) :=
 ⟨r.hd,by have:=r.dp; show A.depth + 1 + 3 * k + 5 < _; omega,by have:=r.un; show A.units + 3 + 16 * k + 200 < _; omega⟩
theorem bf2 {A:Around} {C:Addr} {us:List Value} {kw:List (Str×Value)}:(A.under (.builtin "type.__call__" ⟨.ref C :: us,kw⟩)).depth=A.depth + 1:=by
 first | rfl | simp [Around.under,Code.weight,Code.isCreation,Code.isGuard,Code.isCaller,Code.frames,Code.isFrame,guardIds]
theorem bf1 {A:Around} {C:Addr} {us:List Value} {kw:List (Str×Value)}:(A.under (.builtin "type.__call__" ⟨.ref C :: us,kw⟩)).units=A.units + 1:=by
 first | rfl | simp [Around.under,Code.cUnits,Code.frames,Code.isFrame]
theorem Room.make {k:Nat} {A:Around} (r:Room (k + 1) A) (C:Addr) (us:List Value) (kw:List (Str×Value)):Room k (A.under (.builtin "type.__call__" ⟨.ref C :: us,kw⟩)) :=
 ⟨r.hd,by have:=r.dp; rw [bf2]; omega,by have:=r.un; rw [bf1]; omega⟩
theorem Room.depth {k:Nat} {A:Around} (r:Room k A):A.depth < recursionLimit:=by have:=r.dp; omega
theorem Room.units {k:Nat} {A:Around} (r:Room k A):A.units + 64 < cLine:=by have:=r.un; omega
noncomputable def tNil:TA:=fun _ H Q=>Q [] H
noncomputable def ai4 (ta:TE) (tr:TA):TA:=fun σ H Q=>ta σ H fun x H1=>tr σ H1 fun xs H2=>Q (x :: xs) H2
section
variable {X:Cx} {e:Expr} {es:List Expr} {te:TE} {t:TA} {pos:Pos}
theorem aa1:PA X [] tNil:=fun _ _ _ _ H Q I h=>Calls.spliced_nil ⟨[],H,I,.nil,h⟩
theorem aa0 (ha:PE X e te) (hr:PA X es t) (hs:starEach (e :: es) X.env=(false,eval e X.env) :: starEach es X.env:=by rfl):PA X (e :: es) (ai4 te t):=by
 intro pos pins s σ H Q I h
 rw [hs]
 show wpAny _ _ (spliced ((false,eval e X.env) :: backTo pos (starEach es X.env))) _ _ s
 refine Calls.spliced_cons (thn (ha pins s σ H _ I h) fun u s1 ⟨x,H1,I1,r1,q1⟩=>?_)
 exact thn (hr pos pins s1 σ H1 _ I1 q1) fun us s2 ⟨xs,H2,I2,r2,q2⟩=>⟨x :: xs,H2,I2,.cons r1 r2,q2⟩
noncomputable def tTup (t:TA):TE:=fun σ H Q=>t σ H fun xs H1=>xs.length≤sizeLine∧∀ p,H1 p=none→Q (.ref p) (upd H1 p (.tup xs))
noncomputable def tLst (t:TA):TE:=fun σ H Q=>t σ H fun xs H1=>xs.length≤sizeLine∧∀ p,H1 p=none→Q (.ref p) (upd H1 p (.lst xs))
theorem au7 {x1} (h:PA X es t):PE X (.Tuple es x1 pos) (tTup t):=by
 intro pins s σ H Q I hq
 refine wpAny_Tuple_spliced (thn (h pos pins s σ H _ I hq) fun us s1 ⟨xs,H1,I1,r,z,q⟩=>⟨by rw [← r.length]; exact z,?_⟩)
 have hf:H1 s1.heap.objs.size=none:=I1.hok.fresh (Nat.le_refl _)
 refine ⟨.ref s1.heap.objs.size,upd H1 s1.heap.objs.size (.tup xs),I1.laid (t':=s1.toks) (fun b u e=>Heap.get?_push_of_some _ e) (Nat.le_refl _) ?_,rfl,q _ hf⟩
 exact ⟨z,us,r,⟨_,Heap.get?_push_size _ rfl,rfl,_,rfl⟩⟩
theorem af6 (h:PA X es t):PE X (.List es pos) (tLst t):=by
 intro pins s σ H Q I hq
 refine wpAny_List_spliced (thn (h pos pins s σ H _ I hq) fun us s1 ⟨xs,H1,I1,r,z,q⟩=>⟨by rw [← r.length]; exact z,?_⟩)
 have hf:H1 s1.heap.objs.size=none:=I1.hok.fresh (Nat.le_refl _)
 refine ⟨.ref s1.heap.objs.size,upd H1 s1.heap.objs.size (.lst xs),I1.laid (t':=s1.toks) (fun b u e=>Heap.get?_push_of_some _ e) (Nat.le_refl _) ?_,rfl,q _ hf⟩
 exact ⟨z,us,0,r,Heap.get?_push_size _ rfl⟩
end
noncomputable abbrev Sp:=List V→Hp→VK→XK→Prop
noncomputable abbrev CXT:=List Env→Hp→Shared→XK→Value→Shared→Prop
structure Env0 (P:Program) (w:World) (K:PySem.W.Frag) (mg:Str→Option Value) (base:Heap) (A:Around) (outer:List Env) (s:Shared) (H:Hp):Prop where
 frames:A.frames=some outer
 mod:Mod K mg base
 bs:∀ b o,base.get? b=some o→s.heap.get? b=some o∧H b=none
 bsz:base.objs.size≤s.heap.objs.size
 funs:s.heap.FunFrames base outer
 frf:∀ b∈frs outer,H b=none
 hok:HOk P w H s.heap
 bare:AllBare s.gens
noncomputable def CE (outer:List Env) (P:Program) (w:World) (H:Hp) (s:Shared) (Q:VK) (u:Value) (s':Shared):Prop :=
 ∃ v H',s'.os=s.os∧AllBare s'.gens∧Un (frs outer) [] H H' s.heap s'.heap∧HOk P w H' s'.heap∧RelV v u∧Q v H'
noncomputable def CR (CX:CXT) (outer:List Env) (P:Program) (w:World) (H:Hp) (s:Shared) (Q:VK) (E:XK) (r:Result) (s':Shared):Prop :=
 match r with
 | .ok (.ret u)=>CE outer P w H s Q u s'
 | .ok _=>False
 | .error e=>CX outer H s E e s'
structure FnOk (P:Program) (w:World) (K:PySem.W.Frag) (mg:Str→Option Value) (base:Heap) (CX:CXT) (k:Nat) (f:Addr) (fd:FuncData) (ps:List Str) (sp:Sp):Prop where
 len:∀ vs H Q E,sp vs H Q E→vs.length=ps.length
 run:∀ (A:Around) (outer:List Env) (s:Shared) (H:Hp) (args:Args) (us:List Value) (vs:List V) (Q:VK) (E:XK),Room k A→Env0 P w K mg base A outer s H→BindsTo s fd args (ps.zip us)→Vals vs us→sp vs H Q E →
  codeAny (model P w) A (.call (.ref f) args) (CR CX outer P w H s Q E) s
theorem FnOk.imp {P:Program} {w:World} {K:PySem.W.Frag} {mg:Str→Option Value} {base:Heap} {CX:CXT} {k:Nat} {f:Addr} {fd:FuncData} {ps:List Str} {sp sp':Sp} (F:FnOk P w K mg base CX k f fd ps sp)
 (h:∀ vs H Q E,sp' vs H Q E→sp vs H Q E):FnOk P w K mg base CX k f fd ps sp' :=
 ⟨fun vs H Q E q=>F.len vs H Q E (h _ _ _ _ q),fun A outer s H args us vs Q E hr he hb hv hs=>F.run A outer s H args us vs Q E hr he hb hv (h _ _ _ _ hs)⟩
theorem Env0.make {P:Program} {w:World} {K:PySem.W.Frag} {mg:Str→Option Value} {base:Heap} {A:Around} {outer:List Env} {s:Shared} {H:Hp} (e:Env0 P w K mg base A outer s H) (C:Addr) (us:List Value) (kw:List (Str×Value)) :
 Env0 P w K mg base (A.under (.builtin "type.__call__" ⟨.ref C :: us,kw⟩)) outer s H:=⟨by first | exact e.frames | (simpa [Around.under,Code.envs,Code.isFrame,pushEnvs] using e.frames),e.mod,e.bs,e.bsz,e.funs,e.frf,e.hok,e.bare⟩
section
variable {X:Cx} {pins:List (Addr×Obj)} {σ:St} {H:Hp} {s s':Shared}
theorem Inv.env0 (I:Inv X pins σ H s):Env0 X.prog X.w X.K X.mg X.base X.A X.stack s H :=
 ⟨I.ok.frames,I.ok.mod,I.bs,Nat.le_trans I.ok.bsz I.sz,I.stack,I.stkFree,I.hok,I.bare⟩
theorem Inv.after {Q:VK} {u:Value} (I:Inv X pins σ H s) (h:CE X.stack X.prog X.w H s Q u s'):EP X pins σ Q u s':=by
 obtain ⟨v,H',os,bare,un,hok,r,q⟩:=h
 obtain ⟨hh,g,d,t,os'⟩:=s'
 obtain rfl:os'=s.os:=os
 exact ⟨v,H',I.call (h':=hh) (g':=g) (d':=d) (t':=t) (ch:=[]) un hok bare (fun b z=>absurd z (by simp)),r,q⟩
end
noncomputable def bz8 (sp:Sp) (dvs:List V) (E:XK) (t:TA):TE:=fun σ H Q=>t σ H fun vs H1=>sp (vs ++ dvs) H1 Q E
noncomputable def aO7 (C:Addr) (m:Str) (sp:Sp) (dvs:List V) (E:XK) (ta:TE) (t:TA):TE:=fun σ H Q=>ta σ H fun x H1=>∃ a dx fs,x= .ref a∧H1 a=some (.ins C dx fs)∧fs.lookup m=none ∧
 t σ H1 fun vs H2=>sp (x :: (vs ++ dvs)) H2 Q E
noncomputable def bQ5 (C:Addr) (sp:Sp) (dvs:List V) (E:XK) (t:TA):TE:=fun σ H Q=>t σ H fun vs H1=>∀ x dx,H1 x=none→H1 dx=none→dx≠x →
 sp (.ref x :: (vs ++ dvs)) (upd (upd H1 dx (.own x)) x (.ins C dx [])) (fun v H2=>v= .non∧Q (.ref x) H2) E
noncomputable def Binds (K:PySem.W.Frag) (fd:FuncData) (ps:List Str) (ds:List Value):Prop :=
 ∀ (s:Shared) (us:List Value),K.In s.heap→(us ++ ds).length=ps.length→BindsTo s fd ⟨us,[]⟩ (ps.zip (us ++ ds))
theorem Binds.all {K:PySem.W.Frag} {fd:FuncData} {ps:List Str} (h:∀ us:List Value,us.length=ps.length→bindArgs fd ⟨us,[]⟩=pure (ps.zip us)):Binds K fd ps []:=fun s us _ hl=>by
 rw [List.append_nil] at hl ⊢
 exact .of_eq (h us hl)
noncomputable def aB9 (CX:CXT) (X:Cx) (E:XK):Prop:=∀ (pins:List (Addr×Obj)) (σ:St) (H:Hp) (s:Shared) (e:Value) (s':Shared),Inv X pins σ H s→CX X.stack H s E e s'→X.xe e s'
section
variable {X:Cx} {CX:CXT} {k:Nat} {f C:Addr} {fd:FuncData} {ps:List Str} {sp:Sp} {dvs:List V} {ds:List Value} {E:XK} {x m:Str} {p pos apos:Pos} {e o:Expr} {es:List Expr} {ta:TE} {t:TA}
theorem bk2 {pins:List (Addr×Obj)} {σ:St} {H:Hp} {s:Shared} {Q:VK} {us:List Value} {vs:List V} (F:FnOk X.prog X.w X.K X.mg X.base CX k f fd ps sp) (hr:Room k X.A) (hb:Binds X.K fd ps ds) (hd:Vals dvs ds) (hx:aB9 CX X E)
 (I:Inv X pins σ H s) (r:Vals vs us) (h:sp (vs ++ dvs) H Q E):wpAny (model X.prog X.w) X.A (call (.ref f) us) (EP X pins σ Q) X.xe s:=by
 have r2:Vals (vs ++ dvs) (us ++ ds):=r.append hd
 have hl:(us ++ ds).length=ps.length:=by rw [← r2.length]; exact F.len _ _ _ _ h
 refine wpAny_call (codeAny_mono (F.run X.A X.stack s H ⟨us,[]⟩ (us ++ ds) (vs ++ dvs) Q E hr I.env0 (hb s us I.kIn hl) r2 h) fun r s' hq=>?_)
 cases r with
 | error e=>exact hx pins σ H s e s' I hq
 | ok fl =>
   cases fl with
   | ret u=>exact I.after hq
   | next=>exact False.elim hq
   | brk=>exact False.elim hq
   | cont=>exact False.elim hq
theorem ac6 (F:FnOk X.prog X.w X.K X.mg X.base CX k f fd ps sp) (hr:Room k X.A) (hg:Gl X x) (hm:X.mg x=some (.ref f)) (hk:PySem.W.keepIn X.K (.ref f)=true) (hb:Binds X.K fd ps ds) (hd:Vals dvs ds) (hx:aB9 CX X E)
 (ha:PA X (e :: es) t) (hdb:(x == ("__debug__" : Str))=false:=by decide) (he:starEach (e :: es) X.env=(false,eval e X.env) :: starEach es X.env:=by rfl) (hpl:(backTo pos (starEach es X.env)).any (·.1)=false:=by rfl) :
 PE X (.Call (.Name x p) (e :: es) [] pos) (bz8 sp dvs E t):=by
 intro pins s σ H Q I h
 refine wpAny_Call_Name_kw (aS2 I hg hm ?_ hdb)
 refine PySem.W.callWith_K (h₀:=X.base) I.ok.mod.kin hk (thn (ha pos pins s σ H _ I h) fun us s1 ⟨vs,H1,I1,r,q⟩=>⟨I1.kIn,?_⟩) he hpl
 exact bk2 F hr hb hd hx I1 r q
theorem ae2 {pl:Sem Bool} (he:PE X o ta) (c:Cls X.K C) (hm:Meth X.K C m f) (F:FnOk X.prog X.w X.K X.mg X.base CX k f fd ps sp) (hr:Room k X.A) (hb:Binds X.K fd ps ds) (hd:Vals dvs ds) (hx:aB9 CX X E) (ha:PA X (e :: es) t)
 (hst:starEach (e :: es) X.env=(false,eval e X.env) :: starEach es X.env:=by rfl) (hpl:(backTo pos (starEach es X.env)).any (·.1)=false:=by rfl)
 (ht:eval (.Call (.Attribute o m apos) (e :: es) [] pos) X.env=(do
   let ov ← eval o X.env
   standAt apos.atName
   let (f,first) ← holding [ov] (getMethod ov m pl)
   callWith pos f first (backTo pos (starEach (e :: es) X.env)) (backToKw pos (keywordEach [] X.env))):=by rfl) :
 PE X (.Call (.Attribute o m apos) (e :: es) [] pos) (aO7 C m sp dvs E ta t):=by
 intro pins s σ H Q I h
 refine PySem.W.methodCall_KW (pl:=pl) (thn (he pins s σ H _ I h) fun u s1 ⟨x,H1,I1,rx,a,dx,fs,ex,ea,l,q⟩=>?_) ht
 subst ex
 obtain rfl:u=Value.ref a:=rx
 refine aE0 I1 ea c hm l ?_
 refine PySem.W.callWith_K (first:=[.ref a]) (h₀:=X.base) I.ok.mod.kin hm.kp (thn (ha pos pins s1 σ H1 _ I1 q) fun us s2 ⟨vs,H2,I2,r,q2⟩=>⟨I2.kIn,?_⟩) hst hpl
 exact bk2 (us:= .ref a :: us) (vs:= .ref a :: vs) F hr hb hd hx I2 (.cons rfl r) q2
theorem aw3 {pl:Sem Bool} (he:PE X o ta) (c:Cls X.K C) (hm:Meth X.K C m f) (F:FnOk X.prog X.w X.K X.mg X.base CX k f fd ps sp) (hr:Room k X.A) (hb:Binds X.K fd ps ds) (hd:Vals dvs ds) (hx:aB9 CX X E)
 (ht:eval (.Call (.Attribute o m apos) [] [] pos) X.env=(do
   let ov ← eval o X.env
   standAt apos.atName
   let (f,first) ← holding [ov] (getMethod ov m pl)
   callWith pos f first (backTo pos (starEach [] X.env)) (backToKw pos (keywordEach [] X.env))):=by rfl) :
 PE X (.Call (.Attribute o m apos) [] [] pos) (aO7 C m sp dvs E ta tNil):=by
 intro pins s σ H Q I h
 refine PySem.W.methodCall_KW (pl:=pl) (thn (he pins s σ H _ I h) fun u s1 ⟨x,H1,I1,rx,a,dx,fs,ex,ea,l,q⟩=>?_) ht
 subst ex
 obtain rfl:u=Value.ref a:=rx
 refine aE0 I1 ea c hm l ?_
 exact PySem.W.callWith_K0 (first:=[.ref a]) I1.kIn hm.kp (bk2 (us:=[.ref a]) (vs:=[.ref a]) F hr hb hd hx I1 (.cons rfl .nil) q)
structure Mk (K:PySem.W.Frag) (C f:Addr):Prop where
 makes:PySem.W.makesIn K C=true
 init:PySem.W.findIn K (.ref C) "__init__" = some (some (.ref f))
 fn:PySem.W.isFn K (.ref f)=true
 kp:PySem.W.keepIn K (.ref C)=true
theorem bC4 {pins:List (Addr×Obj)} {σ:St} {H:Hp} {s:Shared} {Q:VK} {us:List Value} {vs:List V} (M:Mk X.K C f) (F:FnOk X.prog X.w X.K X.mg X.base CX k f fd ps sp) (hr:Room (k + 1) X.A) (hb:Binds X.K fd ps ds) (hd:Vals dvs ds)
 (hx:aB9 CX X E) (I:Inv X pins σ H s) (r:Vals vs us)
 (h:∀ x dx,H x=none→H dx=none→dx≠x→sp (.ref x :: (vs ++ dvs)) (upd (upd H dx (.own x)) x (.ins C dx [])) (fun v H2=>v= .non∧Q (.ref x) H2) E) :
 wpAny (model X.prog X.w) X.A (call (.ref C) us) (EP X pins σ Q) X.xe s:=by
 have hq:=h (s.heap.objs.size + 1) s.heap.objs.size (I.hok.fresh (Nat.le_succ _)) (I.hok.fresh (Nat.le_refl _)) (Nat.ne_of_lt (Nat.lt_succ_self _))
 have I2:=Inv.made (C:=C) I
 have r2:Vals (V.ref (s.heap.objs.size + 1) :: (vs ++ dvs)) (Value.ref (s.heap.objs.size + 1) :: (us ++ ds)):= .cons rfl (r.append hd)
 have hl:(Value.ref (s.heap.objs.size + 1) :: us ++ ds).length=ps.length:=by
  have e:=r2.length
  rw [F.len _ _ _ _ hq] at e
  exact e.symm
 refine wpAny_call (bE9 (f:=f) I.kIn M.makes M.init (beq_iff_eq.mp M.fn) (codeAny_mono (F.run _ X.stack _ _ ⟨Value.ref (s.heap.objs.size + 1) :: us,[]⟩ (Value.ref (s.heap.objs.size + 1) :: (us ++ ds)) _ _ E (hr.make C us [])
  (I2.env0.make C us []) (hb _ (Value.ref (s.heap.objs.size + 1) :: us) I2.kIn hl) r2 hq) fun r s' hq'=>?_))
 cases r with
 | error e=>exact hx pins σ _ _ e s' I2 hq'
 | ok fl =>
   cases fl with
   | ret u =>
     obtain ⟨v,H',I3,rv,ev,q3⟩:=I2.after hq'
     subst ev
     exact ⟨rv,⟨V.ref (s.heap.objs.size + 1),H',I3,rfl,q3⟩⟩
   | next=>exact False.elim hq'
   | brk=>exact False.elim hq'
   | cont=>exact False.elim hq'
theorem ca0 (M:Mk X.K C f) (F:FnOk X.prog X.w X.K X.mg X.base CX k f fd ps sp) (hr:Room (k + 1) X.A) (hg:Gl X x) (hm:X.mg x=some (.ref C)) (hb:Binds X.K fd ps ds) (hd:Vals dvs ds) (hx:aB9 CX X E)
 (ha:PA X (e :: es) t) (hdb:(x == ("__debug__" : Str))=false:=by decide) (he:starEach (e :: es) X.env=(false,eval e X.env) :: starEach es X.env:=by rfl) (hpl:(backTo pos (starEach es X.env)).any (·.1)=false:=by rfl) :
 PE X (.Call (.Name x p) (e :: es) [] pos) (bQ5 C sp dvs E t):=by
 intro pins s σ H Q I h
 refine wpAny_Call_Name_kw (aS2 I hg hm ?_ hdb)
 refine PySem.W.callWith_K (h₀:=X.base) I.ok.mod.kin M.kp (thn (ha pos pins s σ H _ I h) fun us s1 ⟨vs,H1,I1,r,q⟩=>⟨I1.kIn,?_⟩) he hpl
 exact bC4 M F hr hb hd hx I1 r q
end
noncomputable def PK (X:Cx) (kws:List Keyword) (t:TA):Prop :=
 ∀ (pos:Pos) (pins:List (Addr×Obj)) (s:Shared) (σ:St) (H:Hp) (Q:List V→Hp→Prop),Inv X pins σ H s→t σ H Q→wpAny (model X.prog X.w) X.A (evalAll ((backToKw pos (keywordEach kws X.env)).map (·.2))) (AP X pins σ Q) X.xe s
section
variable {X:Cx} {CX:CXT} {k:Nat} {f C:Addr} {fd:FuncData} {ps ks:List Str} {sp:Sp} {E:XK} {x m:Str} {p pos apos kpos:Pos} {e o:Expr} {es:List Expr} {kws:List Keyword} {te ta:TE} {t tk:TA} {nm:Option Str}
theorem bm2:PK X [] tNil:=fun _ _ _ _ H Q I h=>wpAny_evalAll_nil ⟨[],H,I,.nil,h⟩
theorem aR5 (ha:PE X e te) (hr:PK X kws t):PK X (⟨nm,e,kpos⟩ :: kws) (ai4 te t):=by
 intro pos pins s σ H Q I h
 show wpAny _ _ (evalAll ((do let v ← eval e X.env; standAt pos; pure v) :: (backToKw pos (keywordEach kws X.env)).map (·.2))) _ _ s
 refine wpAny_evalAll_cons (wpAny_bind (thn (ha pins s σ H _ I h) fun u s1 ⟨x,H1,I1,r1,q1⟩=>wpAny_bind (wpAny_standAt (wpAny_pure ?_))))
 exact thn (hr pos pins s1 σ H1 _ I1 q1) fun us s2 ⟨xs,H2,I2,r2,q2⟩=>⟨x :: xs,H2,I2,.cons r1 r2,q2⟩
variable {g:List Value→List Value→List Value} {gV:List V→List V→List V}
end
structure FnScope (N P:List Str) (sc:Scope):Prop where
 kind:sc.kind= .function
 co:sc.isCoroutine=false
 gen:sc.isGenerator=false
 nd:N.Nodup
 pre:N.take P.length=P
 par:∀ x∈P,sc.names.lookup x=some .local∨sc.names.lookup x=some .cell
 nofree:∀ y∈sc.names,y.2≠ .free
theorem aO0 {kindOf:Str→Option NameKind} {x:Str}:∀ {binds:List (Str×Value)} {m:Str→Option Value},(∀ v,(x,v)∉binds)→bindL kindOf binds m x=m x
 | [],_,_=>rfl
 | (n,v) :: r,m,h=>by
   unfold bindL
   rw [aO0 fun w hw=>h w (List.mem_cons_of_mem _ hw)]
   split
   · have:x≠n:=by rintro rfl; exact h v List.mem_cons_self
     simp [this]
   · rfl
theorem aO2 {kindOf:Str→Option NameKind} {x:Str}:∀ {binds:List (Str×Value)} {m:Str→Option Value},(∀ v,(x,v)∉binds)→bindC kindOf binds m x=m x
 | [],_,_=>rfl
 | (n,v) :: r,m,h=>by
   unfold bindC
   rw [aO2 fun w hw=>h w (List.mem_cons_of_mem _ hw)]
   split
   · rfl
   · have:x≠n:=by rintro rfl; exact h v List.mem_cons_self
     simp [this]
theorem aO1 {kindOf:Str→Option NameKind} {x:Str} {v:Value}:∀ {P:List Str} {vs:List Value} {i:Nat} {m:Str→Option Value},P.Nodup→P[i]?=some x→vs[i]?=some v→kindOf x=some .local →
 bindL kindOf (P.zip vs) m x=some v
 | [],_,_,_,_,h,_,_=>by simp at h
 | _ :: _,[],_,_,_,_,h,_=>by simp at h
 | p :: P,w :: vs,0,m,nd,h1,h2,hk=>by
   simp at h1 h2; subst h1; subst h2
   show bindL kindOf ((p,w) :: P.zip vs) m p=_
   unfold bindL
   rw [aO0 fun v hv=>(List.nodup_cons.mp nd).1 (List.of_mem_zip hv).1,if_pos hk]
   simp
 | p :: P,w :: vs,i + 1,m,nd,h1,h2,hk=>by
   show bindL kindOf ((p,w) :: P.zip vs) m x=_
   unfold bindL
   exact aO1 (i:=i) (List.nodup_cons.mp nd).2 (by simpa using h1) (by simpa using h2) hk
theorem aO3 {kindOf:Str→Option NameKind} {x:Str} {v:Value}:∀ {P:List Str} {vs:List Value} {i:Nat} {m:Str→Option Value},P.Nodup→P[i]?=some x→vs[i]?=some v→kindOf x≠some .local →
 bindC kindOf (P.zip vs) m x=some v
 | [],_,_,_,_,h,_,_=>by simp at h
 | _ :: _,[],_,_,_,_,h,_=>by simp at h
 | p :: P,w :: vs,0,m,nd,h1,h2,hk=>by
   simp at h1 h2; subst h1; subst h2
   show bindC kindOf ((p,w) :: P.zip vs) m p=_
   unfold bindC
   rw [aO2 fun v hv=>(List.nodup_cons.mp nd).1 (List.of_mem_zip hv).1,if_neg hk]
   simp
 | p :: P,w :: vs,i + 1,m,nd,h1,h2,hk=>by
   show bindC kindOf ((p,w) :: P.zip vs) m x=_
   unfold bindC
   exact aO3 (i:=i) (List.nodup_cons.mp nd).2 (by simpa using h1) (by simpa using h2) hk
noncomputable def av6 (N:List Str) (vs:List V):St:=vs.map some ++ List.replicate (N.length - vs.length) none
noncomputable def cxOf (CX:CXT) (P:Program) (w:World) (K:PySem.W.Frag) (mg:Str→Option Value) (base:Heap) (N:List Str) (qual:Str) (scope:Scope) (f:Addr) (cd:Value) (A:Around) (outer:List Env) (s:Shared) (H:Hp) (E:XK):Cx where
 prog:=P
 w:=w
 K:=K
 mg:=mg
 base:=base
 A:=A.deeper (envOfC qual scope s.heap.objs.size f cd)
 N:=N
 s₀:=s
 H₀:=H
 env:=envOfC qual scope s.heap.objs.size f cd
 outer:=outer
 stack:=envOfC qual scope s.heap.objs.size f cd :: outer
 ex:=[]
 calm:=true
 fn:=fun _=>true
 pn:=[]
 xe:=fun e s'=>wpAny (model P w) (A.deeper (envOfC qual scope s.heap.objs.size f cd)) (leaving (envOfC qual scope s.heap.objs.size f cd) e) (fun _ s''=>CX outer H s E e s'') (fun e' s''=>CX outer H s E e' s'') s'
theorem bc1 {sc:Scope} {n:Nat} {x:Str} (h:sc.names.lookup x=some .cell):∃ c,(cellsFrom n sc.names []).lookup x=some c:=by
 have q:=PySem.W.cellsFrom_some sc.names n [] (.inl h)
 exact Option.isSome_iff_exists.mp q
theorem bp5 {CX:CXT} {P:Program} {w:World} {K:PySem.W.Frag} {mg:Str→Option Value} {base:Heap} {N ps:List Str} {qual:Str} {scope:Scope} {f:Addr} {cd:Value} {A:Around} {outer:List Env} {s s1:Shared} {H:Hp} {E:XK} {us:List Value} {vs:List V}
 (S:FnScope N ps scope) (hd:A.handled=none) (e0:Env0 P w K mg base A outer s H) (hl:vs.length=ps.length) (r:Vals vs us)
 (x:InCallC s s.heap.objs.size (bindL (envOfC qual scope s.heap.objs.size f cd).kindOf (ps.zip us) fun _=>none) (cellsFrom (s.heap.objs.size + 1) scope.names []) (bindC (envOfC qual scope s.heap.objs.size f cd).kindOf (ps.zip us) fun _=>none) s1) :
 Inv (cxOf CX P w K mg base N qual scope f cd A outer s H E) [] (av6 N vs) H s1:=by
 have hpl:ps.length≤N.length:=by have:=congrArg List.length S.pre; rw [List.length_take] at this; omega
 obtain ⟨h1,tk,rfl,hk⟩:=x.done
 have noA:∀ b:Addr,b∉(cxOf CX P w K mg base N qual scope f cd A outer s H E).ex:=fun b z=>absurd (show b∈([]:List Addr) from z) (by simp)
 refine ⟨⟨e0.mod,S.kind,rfl,rfl,Nat.le_refl _,fun y z c h1 h2=>?_,fun y hy=>?_,fun y c _ h=>?_,fun _=>hd,Around.frames_deeper e0.frames,.inr ⟨rfl,rfl⟩,fun b z=>absurd z (noA b),e0.bs,e0.bsz,fun b _ _=>noA b,fun b z=>absurd z (noA b),e0.funs,e0.frf⟩,
  rfl,e0.bare,Un.kept hk,⟨_,x.toInCall.ns,fun i y v h1 h2 h3=>?_⟩,fun y c h=>⟨_,x.cell y c h⟩,e0.hok.fresh (Nat.le_refl _),fun y c h=>?_,fun p hp=>absurd (show p∈([]:List (Addr×Obj)) from hp) (by simp),e0.hok.kept hk,?_⟩
 · exact name_of_addr x.apart (PySem.mem_of_lookup h1) (PySem.mem_of_lookup h2)
 · have hy:scope.names.lookup y=some .cell∨scope.names.lookup y=some .free:=hy
   rcases hy with hy | hy
   · exact bc1 hy
   · exact absurd rfl (S.nofree _ (PySem.mem_of_lookup hy))
 · exact Nat.le_of_lt (x.above y c (PySem.mem_of_lookup h))
 · have hi:i < vs.length:=by
    unfold av6 at h2
    by_cases hi:i < vs.length
    · exact hi
    · rw [List.getElem?_append_right (by simpa using hi)] at h2
      rw [List.getElem?_replicate] at h2
      split at h2 <;> cases h2
   have ha:vs[i]?=some v:=by
    unfold av6 at h2
    rw [List.getElem?_append_left (by simpa using hi),List.getElem?_map] at h2
    cases e:vs[i]? with
    | none=>rw [e] at h2; cases h2
    | some a=>rw [e] at h2; cases h2; rfl
   obtain ⟨u,hu,rv⟩:=r.get ha
   have hp:ps[i]?=some y:=by
    rw [← S.pre,List.getElem?_take_of_lt (by omega)]; exact h1
   have ndP:ps.Nodup:=by rw [← S.pre]; exact S.nd.sublist (List.take_sublist _ _)
   refine ⟨u,rv,?_⟩
   rcases S.par y (List.mem_of_getElem? hp) with k | k
   · exact .inl ⟨k,aO1 ndP hp hu k⟩
   · obtain ⟨c,e⟩:=bc1 (n:=s.heap.objs.size + 1) k
     refine .inr ⟨.inl k,c,e,?_⟩
     have q:=x.cell y c e
     rw [aO3 ndP hp hu (by show scope.names.lookup y≠_; rw [k]; decide)] at q
     exact q
 · exact e0.hok.fresh (Nat.le_of_lt (x.above y c (PySem.mem_of_lookup h)))
 · unfold av6
   show _=N.length
   rw [List.length_append,List.length_map,List.length_replicate]
   omega
theorem fn_of {CX:CXT} {P:Program} {w:World} {K:PySem.W.Frag} {mg:Str→Option Value} {base:Heap} {k:Nat} {f:Addr} {name qual:Str} {params:Arguments} {body:List Stmt} {scope:Scope} {dV kV doc pm cdv ct oc:Value} {an od:Option Addr}
 {osl:Array (Option Value)} {N ps:List Str} {sp:Sp} (lk:K.lookup f=some ⟨oc,od,.func (PySem.W.fnOf name qual params body scope dV kV doc pm an cdv ct),osl⟩) (hcd:PySem.W.codeIn K cdv qual=true) (S:FnScope N ps scope)
 (len:∀ vs H Q E,sp vs H Q E→vs.length=ps.length)
 (hbody:∀ (A:Around) (outer:List Env) (s:Shared) (H:Hp) (vs:List V) (Q:VK) (E:XK),Room k (A.deeper (envOfC qual scope s.heap.objs.size f cdv))→sp vs H Q E →
   ∃ t,PSs (cxOf CX P w K mg base N qual scope f cdv A outer s H E) body t∧t { nx:=fun _ H'=>Q .non H',rt:=Q } (av6 N vs) H) :
 FnOk P w K mg base CX (k + 1) f (PySem.W.fnOf name qual params body scope dV kV doc pm an cdv ct) ps sp:=by
 refine ⟨len,fun A outer s H args us vs Q E hr e0 hb r hsp=>?_⟩
 have hl:=len _ _ _ _ hsp
 have KX:K.In s.heap:=e0.mod.kin.keeps fun b o e=>(e0.bs b o e).1
 have lim:s.heap.NoLimit:=e0.mod.nolimit.keeps fun b o e=>(e0.bs b o e).1
 have hkind:∀ y∈ps.zip us,scope.names.lookup y.1=some .local∨(scope.names.lookup y.1=some .cell∧((cellsFrom (s.heap.objs.size + 1) scope.names []).lookup y.1).isSome=true):=fun ⟨n,v⟩ hy=>by
  rcases S.par n (List.of_mem_zip hy).1 with q | q
  · exact .inl q
  · exact .inr ⟨q,PySem.W.cellsFrom_some _ _ _ (.inl q)⟩
 refine codeAny_call_function hr.depth (KX _ _ lk) rfl S.co S.gen rfl (PySem.W.codeRec_of KX hcd) (hb _ _ _ _ ?_)
 refine wpAny_newFunctionEnv_cells S.kind hkind fun env he s1 x=>?_
 subst he
 refine ⟨lim.keeps x.toInCall.keep,codeAny_func ?_⟩
 obtain ⟨t,ht,hq⟩:=hbody A outer s H vs Q E (hr.deeper _) hsp
 have I:Inv (cxOf CX P w K mg base N qual scope f cdv A outer s H E) [] (av6 N vs) H s1:=bp5 S hr.hd e0 hl r x
 refine wpAny_mono (ht [] s1 (av6 N vs) H _ I hq) (fun fl s' hs=>?_) fun e s' hs=>hs
 have fin:∀ {σ':St} {H':Hp} {v:V} {u:Value},Inv (cxOf CX P w K mg base N qual scope f cdv A outer s H E) [] σ' H' s'→RelV v u→Q v H'→CE outer P w H s Q u s' :=
  fun {σ' H' v u} J rv q=>⟨v,H',J.os,J.bare,J.base,J.hok,rv,q⟩
 cases fl with
 | ret u =>
   obtain ⟨v,σ',H',J,rv,q⟩:=hs
   exact fin J rv q
 | next =>
   obtain ⟨σ',H',J,q⟩:=hs
   exact fin (v:=V.non) (u:=Value.none) J rfl q
 | brk =>
   obtain ⟨_,_,_,q⟩:=hs
   exact False.elim q
 | cont =>
   obtain ⟨_,_,_,q⟩:=hs
   exact False.elim q
section
variable {X:Cx} {x:Str} {p pos:Pos} {e:Expr} {es:List Expr} {t:TA} {id T:String} {r:List V→Hp→VK→Prop}
noncomputable def tCB (r:List V→Hp→VK→Prop) (t:TA):TE:=fun σ H Q=>t σ H fun vs H1=>r vs H1 Q
theorem ab9 (hc:au4 X (.builtin id) r) (hg:Gl X x) (hm:X.mg x=none) (hv:bootBuiltins x=some (.builtin id)) (ha:PA X (e :: es) t) (hn:x ≠ "__name__" := by decide) (hdb:(x == ("__debug__" : Str))=false:=by decide)
 (he:starEach (e :: es) X.env=(false,eval e X.env) :: starEach es X.env:=by rfl) (hpl:(backTo pos (starEach es X.env)).any (·.1)=false:=by rfl):PE X (.Call (.Name x p) (e :: es) [] pos) (tCB r t):=by
 intro pins s σ H Q I h
 refine wpAny_Call_Name_kw (aD8 I hg hm hv ?_ hn hdb)
 exact PyProof.Rows.callWith_builtin1 (thn (ha pos pins s σ H _ I h) fun us s1 ⟨vs,H1,I1,r1,q1⟩=>hc pins s1 σ H1 vs us Q I1 r1 q1) he hpl
theorem ax8 (hc:au4 X (.type T) r) (hg:Gl X x) (hm:X.mg x=none) (hv:bootBuiltins x=some (.type T)) (ha:PA X (e :: es) t) (hn:x ≠ "__name__" := by decide) (hdb:(x == ("__debug__" : Str))=false:=by decide)
 (he:starEach (e :: es) X.env=(false,eval e X.env) :: starEach es X.env:=by rfl) (hpl:(backTo pos (starEach es X.env)).any (·.1)=false:=by rfl):PE X (.Call (.Name x p) (e :: es) [] pos) (tCB r t):=by
 intro pins s σ H Q I h
 refine wpAny_Call_Name_kw (aD8 I hg hm hv ?_ hn hdb)
 exact PyProof.Rows.callWith_type1 (thn (ha pos pins s σ H _ I h) fun us s1 ⟨vs,H1,I1,r1,q1⟩=>hc pins s1 σ H1 vs us Q I1 r1 q1) he hpl
end
section
variable {κ:Type} [DecidableEq κ]
noncomputable def valV (kvs:List (κ×V)) (k:κ):Option V:=(kvs.find? fun kv=>decide (kv.1=k)).map (·.2)
noncomputable def putK (kvs:List (κ×V)) (k:κ) (v:V):List (κ×V) :=
 if (kvs.any fun kv=>decide (kv.1=k))=true then kvs.map (fun kv=>if kv.1=k then (kv.1,v) else kv) else kvs ++ [(k,v)]
theorem bz4 {k:κ}:valV ([]:List (κ×V)) k=none:=rfl
theorem aw1 {p:κ×V} {r:List (κ×V)} {k:κ} (e:p.1=k):valV (p :: r) k=some p.2:=by simp [valV,List.find?_cons,e]
theorem aw2 {p:κ×V} {r:List (κ×V)} {k:κ} (e:¬ p.1=k):valV (p :: r) k=valV r k:=by simp [valV,List.find?_cons,e]
theorem aX0 (k:κ):∀ kvs:List (κ×V),(kvs.any fun kv=>decide (kv.1=k))=(valV kvs k).isSome
 | []=>rfl
 | p :: r=>by
   rw [List.any_cons]
   by_cases e:p.1=k
   · simp only [aw1 e,decide_eq_true e,Bool.true_or,Option.isSome_some]
   · rw [aw2 e,decide_eq_false e,Bool.false_or]; exact aX0 k r
theorem ay6 (kvs:List (κ×V)) (k:κ) (v:V):(putK kvs k v).length≤kvs.length + 1:=by
 unfold putK
 split
 · rw [List.length_map]; omega
 · rw [List.length_append,List.length_cons,List.length_nil]; omega
theorem RelO.isSome_eq {o:Option V} {u:Option Value} (r:RelO o u):o.isSome=u.isSome:=by
 cases o with
 | none=>cases u with
   | none=>rfl
   | some _=>exact (show False from r).elim
 | some _=>cases u with
   | none=>exact (show False from r).elim
   | some _=>rfl
theorem RelO.getD {o:Option V} {u:Option Value} {d:V} {d':Value} (r:RelO o u) (rd:RelV d d'):RelV (o.getD d) (u.getD d'):=by
 cases o with
 | none=>cases u with
   | none=>exact rd
   | some _=>exact (show False from r).elim
 | some _=>cases u with
   | none=>exact (show False from r).elim
   | some _=>exact r
theorem KV.val {kvs:List (κ×V)} {vs:List (κ×Value)} (r:KV kvs vs) (k:κ):RelO (valV kvs k) (valueAt vs k):=by
 unfold KV at r
 induction r with
 | nil=>exact True.intro
 | @cons p q ps qs h t ih =>
   obtain ⟨h1,h2⟩:=h
   by_cases e:p.1=k
   · have e':q.1=k:=h1.symm.trans e
     have b:valueAt (q :: qs) k=some q.2:=by simp [valueAt,List.find?_cons,e']
     rw [aw1 e,b]; exact h2
   · have e':¬ q.1=k:=fun z=>e (h1.trans z)
     have b:valueAt (q :: qs) k=valueAt qs k:=by simp [valueAt,List.find?_cons,e']
     rw [aw2 e,b]; exact ih
theorem KV.any {kvs:List (κ×V)} {vs:List (κ×Value)} (r:KV kvs vs) (k:κ):(kvs.any fun kv=>decide (kv.1=k))=vs.any fun kv=>decide (kv.1=k):=by
 unfold KV at r
 induction r with
 | nil=>rfl
 | cons h t ih=>rw [List.any_cons,List.any_cons,ih,h.1]
theorem KV.repl {kvs:List (κ×V)} {vs:List (κ×Value)} (r:KV kvs vs) (k:κ) {y:V} {u:Value} (ry:RelV y u) :
 KV (kvs.map fun kv=>if kv.1=k then (kv.1,y) else kv) (vs.map fun kv=>if kv.1=k then (kv.1,u) else kv):=by
 unfold KV at r ⊢
 induction r with
 | nil=>exact .nil
 | @cons p q ps qs h t ih =>
   rw [List.map_cons,List.map_cons]
   refine .cons ?_ ih
   obtain ⟨h1,h2⟩:=h
   by_cases e:p.1=k
   · rw [if_pos e,if_pos (h1.symm.trans e)]; exact ⟨h1,ry⟩
   · rw [if_neg e,if_neg (fun z=>e (h1.trans z))]; exact ⟨h1,h2⟩
theorem KV.put {kvs:List (κ×V)} {vs:List (κ×Value)} (r:KV kvs vs) (k:κ) {y:V} {u:Value} (ry:RelV y u):KV (putK kvs k y) (stored vs k u):=by
 unfold putK stored
 rw [r.any k]
 by_cases e:(vs.any fun kv=>decide (kv.1=k))=true
 · rw [if_pos e,if_pos e]; exact r.repl k ry
 · rw [if_neg e,if_neg e]; exact Paired.snoc r ⟨rfl,ry⟩
theorem KV.length {kvs:List (κ×V)} {vs:List (κ×Value)} (r:KV kvs vs):kvs.length=vs.length:=Paired.length r
end
theorem bp2 {P:Program} {w:World} {k:Key} {u:Value} (r:RelV (kV k) u):(ae5 P w).is k u=true:=by
 cases k with
 | inl i=>obtain ⟨t,e⟩:=(show ∃ t,u=Value.int i t from r); subst e; exact aS0 P w i t
 | inr x=>obtain ⟨t,e⟩:=(show ∃ t,u=Value.str x t from r); subst e; exact aR9 P w x t
theorem aM5 {P:Program} {w:World}:∀ {ks:List Key} {us:List Value},Vals (ks.map kV) us→ItemsAre (ae5 P w) ks us
 | [],_,r=>by rw [List.map_nil] at r; cases r; exact .nil
 | k :: ks,_,r=>by
   rw [List.map_cons] at r
   cases r with
   | cons h t=>exact .cons (bp2 h) (aM5 t)
noncomputable abbrev KT (H:Hp):List (List Key×V)→List (List Key×Addr×Value)→Prop:=Paired fun p q=>p.1=q.1∧H q.2.1=some (.tup (p.1.map kV))∧RelV p.2 q.2.2
theorem KT.val {H:Hp} {kvs:List (List Key×V)} {xs:List (List Key×Addr×Value)} (r:KT H kvs xs) (k:List Key):RelO (valV kvs k) ((atKey xs k).map (·.2)):=by
 induction r with
 | nil=>exact True.intro
 | @cons p q ps qs h t ih =>
   obtain ⟨h1,_,h2⟩:=h
   by_cases e:p.1=k
   · have e':q.1=k:=h1.symm.trans e
     have b:atKey (q :: qs) k=some q.2:=by simp [atKey,List.find?_cons,e']
     rw [aw1 e,b]; exact h2
   · have e':¬ q.1=k:=fun z=>e (h1.trans z)
     have b:atKey (q :: qs) k=atKey qs k:=by simp [atKey,List.find?_cons,e']
     rw [aw2 e,b]; exact ih
theorem KT.repl {H:Hp} {kvs:List (List Key×V)} {xs:List (List Key×Addr×Value)} (r:KT H kvs xs) (k:List Key) {y:V} {u:Value} (ry:RelV y u) :
 KT H (kvs.map fun kv=>if kv.1=k then (kv.1,y) else kv) (xs.map (putAt k u)):=by
 induction r with
 | nil=>exact .nil
 | @cons p q ps qs h t ih =>
   rw [List.map_cons,List.map_cons]
   refine .cons ?_ ih
   obtain ⟨h1,h2,h3⟩:=h
   unfold putAt
   by_cases e:p.1=k
   · rw [if_pos e,if_pos (h1.symm.trans e)]; exact ⟨h1,h2,ry⟩
   · rw [if_neg e,if_neg (fun z=>e (h1.trans z))]; exact ⟨h1,h2,h3⟩
theorem KT.put {H:Hp} {kvs:List (List Key×V)} {xs:List (List Key×Addr×Value)} (r:KT H kvs xs) (k:List Key) {b:Addr} {y:V} {u:Value} (hb:H b=some (.tup (k.map kV))) (ry:RelV y u) :
 KT H (putK kvs k y) (storedH xs k b u):=by
 have e:(kvs.any fun kv=>decide (kv.1=k))=(atKey xs k).isSome:=by
  rw [aX0,(r.val k).isSome_eq,Option.isSome_map]
 unfold putK storedH
 rw [e]
 by_cases q:(atKey xs k).isSome=true
 · rw [if_pos q,if_pos q]; exact r.repl k ry
 · rw [if_neg q,if_neg q]; exact Paired.snoc r ⟨rfl,hb,ry⟩
theorem KT.keeps {H H':Hp} {kvs:List (List Key×V)} {xs:List (List Key×Addr×Value)} (r:KT H kvs xs) (ht:∀ b ys,H b=some (.tup ys)→H' b=some (.tup ys)):KT H' kvs xs :=
 Paired.mapP r fun _ _ z=>⟨z.1,ht _ _ z.2.1,z.2.2⟩
section
variable {P:Program} {w:World} {H:Hp} {h:Heap} {a:Addr}
theorem cn3 {u:HO} (ok:HOk P w H h) (e:Rd H a u):ObjOk P w H h a u:=e.ok ok
theorem br4 {kvs:List (Key×V)} (ok:HOk P w H h) (e:Rd H a (.dK kvs)):kvs.length≤sizeLine∧(a == sysModules)=false∧∃ vs,KV kvs vs∧h.DictOf (ae5 P w) a vs :=
 show ObjOk P w H h a (.dK kvs) from cn3 ok e
theorem dk_of {kvs:List (Key×V)} (ok:HOk P w H h) (e:H a=some (.dK kvs)):kvs.length≤sizeLine∧(a == sysModules)=false∧∃ vs,KV kvs vs∧h.DictOf (ae5 P w) a vs:=br4 ok (.inl e)
theorem ay9 {ks:List Key} (ok:HOk P w H h) (e:H a=some (.tup (ks.map kV))):(tupleKind (ae5 P w)).is h ks a:=by
 obtain ⟨_,its,r,o,h1,h2,n,h3⟩:=(show ObjOk P w H h a (.tup (ks.map kV)) from ok a _ e)
 exact ⟨o,its.toArray,n,h1,h2,h3,by simpa using aM5 r⟩
theorem bq9 {kvs:List (List Key×V)} (ok:HOk P w H h) (e:Rd H a (.dT kvs)):kvs.length≤sizeLine∧(a == sysModules)=false ∧
 ∃ xs,KT H kvs xs∧h.DictOfH (tupleKind (ae5 P w)) a xs:=by
 obtain ⟨z,y,xs,r,o,es,ep,h1,h2,h3,h4,h5⟩:=(show ObjOk P w H h a (.dT kvs) from cn3 ok e)
 refine ⟨z,y,xs,r,o,es,ep,h1,h2,h3,h4,fun x hx=>?_,h5⟩
 have all:∀ {l:List (List Key×V)} {m:List (List Key×Addr×Value)},KT H l m→∀ x∈m,(tupleKind (ae5 P w)).is h x.1 x.2.1:=by
  intro l m q
  induction q with
  | nil=>intro x hx; exact nomatch hx
  | @cons p q ps qs hq t ih =>
    intro x hx
    rcases List.mem_cons.mp hx with e | hx
    · subst e
      exact ay9 ok (by rw [← hq.1]; exact hq.2.1)
    · exact ih x hx
 exact all r x hx
theorem dt_of {kvs:List (List Key×V)} (ok:HOk P w H h) (e:H a=some (.dT kvs)):kvs.length≤sizeLine∧(a == sysModules)=false ∧
 ∃ xs,KT H kvs xs∧h.DictOfH (tupleKind (ae5 P w)) a xs:=bq9 ok (.inl e)
end
noncomputable def DGet (H:Hp) (a:Addr) (y:V) (r:Option V):Prop :=
 (∃ kvs k,Rd H a (.dK kvs)∧y=kV k∧r=valV kvs k)∨∃ kvs k b,Rd H a (.dT kvs)∧y= .ref b∧H b=some (.tup (k.map kV))∧r=valV kvs k
noncomputable def DPut (H:Hp) (a:Addr) (y v:V) (H':Hp):Prop :=
 (∃ kvs k,H a=some (.dK kvs)∧y=kV k∧kvs.length < sizeLine∧H'=upd H a (.dK (putK kvs k v))) ∨
 ∃ kvs k b,H a=some (.dT kvs)∧y= .ref b∧H b=some (.tup (k.map kV))∧kvs.length < sizeLine∧H'=upd H a (.dT (putK kvs k v))
theorem DGet.k {H:Hp} {a:Addr} {kvs:List (Key×V)} {k:Key} (e:H a=some (.dK kvs)):DGet H a (kV k) (valV kvs k):= .inl ⟨kvs,k,.inl e,rfl,rfl⟩
theorem DGet.t {H:Hp} {a b:Addr} {kvs:List (List Key×V)} {k:List Key} (e:H a=some (.dT kvs)) (eb:H b=some (.tup (k.map kV))):DGet H a (.ref b) (valV kvs k):= .inr ⟨kvs,k,b,.inl e,rfl,eb,rfl⟩
theorem DPut.k {H:Hp} {a:Addr} {kvs:List (Key×V)} {k:Key} {v:V} (e:H a=some (.dK kvs)) (hl:kvs.length < sizeLine):DPut H a (kV k) v (upd H a (.dK (putK kvs k v))):= .inl ⟨kvs,k,e,rfl,hl,rfl⟩
theorem DPut.t {H:Hp} {a b:Addr} {kvs:List (List Key×V)} {k:List Key} {v:V} (e:H a=some (.dT kvs)) (eb:H b=some (.tup (k.map kV))) (hl:kvs.length < sizeLine) :
 DPut H a (.ref b) v (upd H a (.dT (putK kvs k v))):= .inr ⟨kvs,k,b,e,rfl,eb,hl,rfl⟩
section
variable {X:Cx} {pins:List (Addr×Obj)} {σ:St} {H:Hp} {s:Shared} {a:Addr} {y v:V} {u r:Value} {o:Option V} {A:Around} {E:Value→Shared→Prop}
theorem Inv.big (I:Inv X pins σ H s):sysModules < s.heap.objs.size:=by
 have h:mainGlobals < s.heap.objs.size:=(I.mod.glob.keeps I.bk).lt
 exact Nat.lt_trans (by decide) h
theorem d_in {Q:Value→Shared→Prop} (hu:A.units + 1 < cLine) (I:Inv X pins σ H s) (g:DGet H a y o) (ry:RelV y u) (h:∀ s',Inv X pins σ H s'→Q (.bool o.isSome) s') :
 wpAny (model X.prog X.w) A (compareOp .In u (.ref a)) Q E s:=by
 rcases g with ⟨kvs,k,e,ey,l⟩ | ⟨kvs,k,b,e,ey,eb,l⟩
 · subst ey
   obtain ⟨z,hd,vs,rel,dd⟩:=br4 I.hok e
   refine wpAny_in_of (bp2 ry) hd dd.mapOf ?_
   rw [← (rel.val k).isSome_eq,← l]
   exact h _ (I.tok _)
 · subst ey
   cases (show u=Value.ref b from ry)
   obtain ⟨z,hd,xs,rel,dd⟩:=bq9 I.hok e
   refine wpAny_in_heap (tupleKind_room_in1 hu) (ay9 I.hok eb) hd dd ?_
   have q:=(rel.val k).isSome_eq
   rw [Option.isSome_map] at q
   rw [← q,← l]
   exact h _ (I.tok _)
theorem br8 {h':Heap} {t':Nat} {ob:HO} (I:Inv X pins σ H s) (mu:Mut (H a)) (hs:Heap.SameBut a s.heap h') (he:∃ q,h'.get? a=some q) (new:ObjOk X.prog X.w (upd H a ob) h' a ob) :
 Inv X pins σ (upd H a ob) { s with heap:=h',toks:=t' } :=
 I.write (x:=a) (e:=a) mu (.inl rfl) (fun b q hb z=>(hs.2 b hb).trans z) he new
theorem cx0 {P:Program} {w:World} {H':Hp} {h':Heap} {kvs:List (Key×V)} {vs:List (Key×Value)} (z:kvs.length≤sizeLine) (hd:(a == sysModules)=false) (rel:KV kvs vs) (dd:h'.DictOf (ae5 P w) a vs) :
 ObjOk P w H' h' a (.dK kvs):=⟨z,hd,vs,rel,dd⟩
theorem br9 {H':Hp} {Q:Unit→Shared→Prop} (hu:A.units + 1 < cLine) (I:Inv X pins σ H s) (g:DPut H a y v H') (ry:RelV y u) (rv:RelV v r) (h:∀ s',Inv X pins σ H' s'→Q () s') :
 wpAny (model X.prog X.w) A (setItem (.ref a) u r) Q E s:=by
 rcases g with ⟨kvs,k,e,ey,l,eH⟩ | ⟨kvs,k,b,e,ey,eb,l,eH⟩
 · subst ey eH
   obtain ⟨z,hd,vs,rel,dd⟩:=dk_of I.hok e
   have hz:vs.length≤sizeLine:=by rw [← rel.length]; exact z
   have hl:(putK kvs k v).length≤sizeLine:=by have:=ay6 kvs k v; omega
   refine wpAny_setItem_pairs (hsz:=hz) (bp2 ry) dd fun h' dd' hs=>h _ ?_
   have he:∃ q,h'.get? a=some q:=let ⟨q,_,_,hq,_⟩:=dd'; ⟨q,hq⟩
   exact br8 I (by rw [e]; exact True.intro) hs he (cx0 hl hd (rel.put k rv) dd')
 · subst ey eH
   cases (show u=Value.ref b from ry)
   obtain ⟨z,hd,xs,rel,dd⟩:=dt_of I.hok e
   have hz:xs.length≤sizeLine:=by rw [← Paired.length rel]; exact z
   have hl:(putK kvs k v).length≤sizeLine:=by have:=ay6 kvs k v; omega
   refine wpAny_setItem_heap (hsz:=hz) (tupleKind_room_in1 hu) (ay9 I.hok eb) dd fun h' dd' hs=>h _ ?_
   obtain ⟨q,es,ep,hq,h2,h3,h4,_,h5⟩:=dd'
   refine br8 I (by rw [e]; exact True.intro) hs ⟨q,hq⟩ ⟨hl,hd,_,(rel.put k eb rv).keeps fun c ys ec=>?_,q,es,ep,hq,h2,h3,h4,h5⟩
   rw [ac3 (cb3 ec e (fun z=>nomatch z))]
   exact ec
end
noncomputable def tDIn (ty td:TE):TE:=fun σ H Q=>ty σ H fun y H1=>td σ H1 fun x H2=>∃ a o,x= .ref a∧DGet H2 a y o∧Q (.bl o.isSome) H2
noncomputable def cn2 (td ty tv:TE):TS:=fun D σ H=>tv σ H fun v H1=>td σ H1 fun x H2=>ty σ H2 fun y H3=>∃ a H4,x= .ref a∧DPut H3 a y v H4∧D.nx σ H4
section
variable {X:Cx} {o i e value:Expr} {pos pos' tpos:Pos} {td ty tv:TE}
theorem aY5 (hu:X.A.units + 1 < cLine) (hi:PE X i ty) (ho:PE X o td):PC X .In i o (tDIn ty td):=by
 intro pins s σ H Q I h
 refine thn (hi pins s σ H _ I h) fun iv s1 ⟨y,H1,I1,ry,q1⟩=>thn (ho pins s1 σ H1 _ I1 q1) fun u s2 ⟨x,H2,I2,rx,a,ov,ex,g,q2⟩=>?_
 subst ex
 obtain rfl:u=Value.ref a:=rx
 exact d_in hu I2 g ry fun s3 I3=>⟨.bl ov.isSome,H2,I3,rfl,q2⟩
theorem aR4 (hu:X.A.units + 1 < cLine) (ho:PE X o td) (hi:PE X i ty) (hv:PE X value tv) (hs:swapsWith value (some (.Subscript o i pos')) pos.line X.env=pure false) :
 PS X (.Assign [.Subscript o i pos'] value pos) (cn2 td ty tv):=by
 intro pins s σ H D I h
 refine wpAny_Assign_Subscript (thn (hv pins s σ H _ I h) fun r s1 ⟨v,H1,I1,rv,q1⟩=>thn (ho pins s1 σ H1 _ I1 q1) fun u s2 ⟨x,H2,I2,rx,q2⟩=>thn (hi pins s2 σ H2 _ I2 q2) fun iv s3 ⟨y,H3,I3,ry,a,H4,ex,g,q3⟩=>?_) hs
 subst ex
 obtain rfl:u=Value.ref a:=rx
 exact br9 hu I3 g ry rv fun s4 I4=>⟨σ,H4,I4,q3⟩
end
theorem bG5 {P:Program} {w:World} {H:Hp} (h:Heap) (hb:sysModules < h.objs.size):ObjOk P w H (h.push { cls:= .type "dict",data:= .dict #[] }) h.objs.size (.dT []) :=
 ⟨Nat.zero_le _,beq_eq_false_iff_ne.mpr (Ne.symm (Nat.ne_of_lt hb)),[],.nil,_,#[],0,Heap.get?_push_size _ rfl,⟨rfl,rfl,rfl⟩,rfl,rfl,List.nodup_nil⟩
noncomputable def bJ8:TE:=fun _ H Q=>∀ p,H p=none→Q (.ref p) (upd H p (.dT []))
section
variable {X:Cx} {pos:Pos}
theorem aw4:PE X (.Dict [] [] pos) bJ8:=fun pins s σ H Q I h =>
 wpAny_Dict_empty ⟨.ref s.heap.objs.size,_,I.laid (a:=s.heap.objs.size) (o:= .dT []) (t':=s.toks) (fun _ _ q=>Heap.get?_push_of_some _ q) (Nat.le_refl _) (bG5 s.heap I.big),rfl,h _ (I.hok.fresh (Nat.le_refl _))⟩
end
structure M1 (X:Cx) (o:Expr) (m:Str) (apos:Pos) (e:Expr) (cpos:Pos):Prop where
 base:attributeBase o m X.env (eval o X.env)=eval o X.env
 few:((backTo cpos (starEach [e] X.env)).all (fun x=>!x.1) && (backToKw cpos (keywordEach [] X.env)).all (fun x=>x.1.isSome)
  && decide (([e]:List Expr).length + ([]:List Keyword).length + (if ([]:List Keyword).isEmpty then 0 else 1) < 30))=true
 line:(apos.endLine == cpos.line)=true
 trees:backTo cpos (starEach [e] X.env)=[(false,eval e X.env)]
structure M2 (X:Cx) (o:Expr) (m:Str) (apos:Pos) (e f:Expr) (cpos:Pos):Prop where
 base:attributeBase o m X.env (eval o X.env)=eval o X.env
 few:((backTo cpos (starEach [e,f] X.env)).all (fun x=>!x.1) && (backToKw cpos (keywordEach [] X.env)).all (fun x=>x.1.isSome)
  && decide (([e,f]:List Expr).length + ([]:List Keyword).length + (if ([]:List Keyword).isEmpty then 0 else 1) < 30))=true
 line:(apos.endLine == cpos.line)=true
 trees:backTo cpos (starEach [e,f] X.env)=[(false,eval e X.env),(false,eval f X.env)]
noncomputable def IsD (H:Hp) (a:Addr):Prop:=(∃ kvs,Rd H a (.dK kvs))∨∃ kvs,Rd H a (.dT kvs)
theorem bP5 {X:Cx} {pins:List (Addr×Obj)} {σ:St} {H:Hp} {s:Shared} {a:Addr} (I:Inv X pins σ H s) (d:IsD H a) :
 s.TypeIs (.ref a) "dict" ∧ (∀ b,Value.ref a= .ref b→∃ ob,s.heap.get? b=some ob∧ob.dict=none)∧(a == sysModules)=false:=by
 rcases d with ⟨kvs,e⟩ | ⟨kvs,e⟩
 · obtain ⟨_,hd,vs,_,dd⟩:=br4 I.hok e
   refine ⟨dd.typeIs,fun b q=>?_,hd⟩
   cases q
   obtain ⟨ob,_,_,h1,h2,_⟩:=dd
   exact ⟨ob,h1,h2.2.1⟩
 · obtain ⟨_,hd,xs,_,dd⟩:=bq9 I.hok e
   refine ⟨dd.typeIs,fun b q=>?_,hd⟩
   cases q
   obtain ⟨ob,_,_,h1,h2,_⟩:=dd
   exact ⟨ob,h1,h2.2.1⟩
section
variable {X:Cx} {pins:List (Addr×Obj)} {σ:St} {H:Hp} {s:Shared} {a:Addr} {y d:V} {u r:Value} {o:Option V} {A:Around} {E:Value→Shared→Prop}
theorem cx3 {Q:Value→Shared→Prop} (hu:A.units + 1 < cLine) (I:Inv X pins σ H s) (g:DGet H a y o) (ry:RelV y u) (h:∀ w' s',Inv X pins σ H s'→RelV (o.getD .non) w'→Q w' s') :
 wpAny (model X.prog X.w) A (call (.builtin "dict.get") [.ref a,u]) Q E s:=by
 rcases g with ⟨kvs,k,e,ey,l⟩ | ⟨kvs,k,b,e,ey,eb,l⟩
 · subst ey
   obtain ⟨z,hd,vs,rel,dd⟩:=br4 I.hok e
   refine call_meetsIn PySem.F.slot_dict_get dd.typeIs PySem.F.entry_dict_get (PySem.F.args_dict_get_2 _ _) (meets_dict_get (ae5 X.prog X.w) a (bp2 ry) hd) ⟨_,dd.mapOf,h _ _ (I.tok _) ?_⟩
   rw [l]
   exact (rel.val k).getD rfl
 · subst ey
   cases (show u=Value.ref b from ry)
   obtain ⟨z,hd,xs,rel,dd⟩:=bq9 I.hok e
   refine call_meetsIn PySem.F.slot_dict_get dd.typeIs PySem.F.entry_dict_get (PySem.F.args_dict_get_2 _ _) (meetsH_dict_get (tupleKind (ae5 X.prog X.w)) a b hd) ⟨tupleKind_room_in1 hu,k,xs,ay9 I.hok eb,dd,h _ _ (I.tok _) ?_⟩
   rw [l]
   exact (rel.val k).getD rfl
theorem cx2 {Q:Value→Shared→Prop} (hu:A.units + 1 < cLine) (I:Inv X pins σ H s) (g:DGet H a y o) (ry:RelV y u) (rd:RelV d r) (h:∀ w' s',Inv X pins σ H s'→RelV (o.getD d) w'→Q w' s') :
 wpAny (model X.prog X.w) A (call (.builtin "dict.get") [.ref a,u,r]) Q E s:=by
 rcases g with ⟨kvs,k,e,ey,l⟩ | ⟨kvs,k,b,e,ey,eb,l⟩
 · subst ey
   obtain ⟨z,hd,vs,rel,dd⟩:=br4 I.hok e
   refine call_meetsIn PySem.F.slot_dict_get dd.typeIs PySem.F.entry_dict_get (PySem.F.args_dict_get_3 _ _ _) (meets_dict_get_default (ae5 X.prog X.w) a (bp2 ry) hd r) ⟨_,dd.mapOf,h _ _ (I.tok _) ?_⟩
   rw [l]
   exact (rel.val k).getD rd
 · subst ey
   cases (show u=Value.ref b from ry)
   obtain ⟨z,hd,xs,rel,dd⟩:=bq9 I.hok e
   refine call_meetsIn PySem.F.slot_dict_get dd.typeIs PySem.F.entry_dict_get (PySem.F.args_dict_get_3 _ _ _) (meetsH_dict_get_default (tupleKind (ae5 X.prog X.w)) a b hd r) ⟨tupleKind_room_in1 hu,k,xs,ay9 I.hok eb,dd,h _ _ (I.tok _) ?_⟩
   rw [l]
   exact (rel.val k).getD rd
end
noncomputable def bK0 (td ty:TE):TE:=fun σ H Q=>td σ H fun x H1=>∃ a,x= .ref a∧IsD H1 a∧ty σ H1 fun y H2=>∃ o,DGet H2 a y o∧Q (o.getD .non) H2
noncomputable def bJ9 (td ty tx:TE):TE:=fun σ H Q=>td σ H fun x H1=>∃ a,x= .ref a∧IsD H1 a∧ty σ H1 fun y H2=>tx σ H2 fun z H3=>∃ o,DGet H3 a y o∧Q (o.getD z) H3
section
variable {X:Cx} {o e f:Expr} {apos cpos:Pos} {td ty tx:TE}
theorem bD1 (hu:X.A.units + 1 < cLine) (ho:PE X o td) (he:PE X e ty) (m:M1 X o "get" apos e cpos):PE X (.Call (.Attribute o "get" apos) [e] [] cpos) (bK0 td ty):=by
 intro pins s σ H Q I h
 refine wpAny_Call_method m.base m.few m.line PySem.F.plainAttrs_dict PySem.F.slot_dict_get PySem.F.type_dict_get (thn (ho pins s σ H _ I h) fun u s1 ⟨x,H1,I1,rx,a,ex,d,q1⟩=>?_)
 subst ex
 obtain rfl:u=Value.ref a:=rx
 obtain ⟨t1,t2,_⟩:=bP5 I1 d
 refine ⟨t1,t2,?_⟩
 rw [m.trees]
 refine Calls.callWith_builtin rfl (Calls.evalArgs_plain (Calls.spliced_cons (thn (he pins s1 σ H1 _ I1 q1) fun iv s2 ⟨y,H2,I2,ry,ov,g,q2⟩=>Calls.spliced_nil ?_)))
 exact cx3 hu I2 g ry fun w' s3 I3 rw'=>⟨_,H2,I3,rw',q2⟩
theorem bD0 (hu:X.A.units + 1 < cLine) (ho:PE X o td) (he:PE X e ty) (hf:PE X f tx) (m:M2 X o "get" apos e f cpos):PE X (.Call (.Attribute o "get" apos) [e,f] [] cpos) (bJ9 td ty tx):=by
 intro pins s σ H Q I h
 refine wpAny_Call_method m.base m.few m.line PySem.F.plainAttrs_dict PySem.F.slot_dict_get PySem.F.type_dict_get (thn (ho pins s σ H _ I h) fun u s1 ⟨x,H1,I1,rx,a,ex,d,q1⟩=>?_)
 subst ex
 obtain rfl:u=Value.ref a:=rx
 obtain ⟨t1,t2,_⟩:=bP5 I1 d
 refine ⟨t1,t2,?_⟩
 rw [m.trees]
 refine Calls.callWith_builtin rfl (Calls.evalArgs_plain (Calls.spliced_cons (thn (he pins s1 σ H1 _ I1 q1) fun iv s2 ⟨y,H2,I2,ry,q2⟩ =>
  Calls.spliced_cons (thn (hf pins s2 σ H2 _ I2 q2) fun fv s3 ⟨z,H3,I3,rz,ov,g,q3⟩=>Calls.spliced_nil ?_))))
 exact cx2 hu I3 g ry rz fun w' s4 I4 rw'=>⟨_,H3,I4,rw',q3⟩
end
end L2
namespace HT
open PySem PyProof.Rows
noncomputable def an4:List Int→List Int→Bool
 | [],[]=>false
 | [],_ :: _=>true
 | _ :: _,[]=>false
 | x :: xs,y :: ys=>if x=y then an4 xs ys else decide (x < y)
theorem aD6 (x y:Int) (xs ys:List Int):an4 (x :: xs) (y :: ys)=if x=y then an4 xs ys else decide (x < y):=rfl
theorem bC5 (A:Around) (s:Shared) (a:Int) (t:Tok) (c:Int) (u:Tok) (prog:Program) (w:World) (E:Value→Shared→Prop) (Q:Value→Shared→Prop) (h:Q (.bool (decide (a < c))) s) :
 wpAny (model prog w) A (richCompare .Lt (.int a t) (.int c u)) Q E s :=
 (PyProof.Rows.lt_int h:wpAny (model prog w) A (compareOp .Lt (.int a t) (.int c u)) Q E s)
section
variable {prog:Program} {w:World} {A:Around} {E:Value→Shared→Prop} {s:Shared}
noncomputable def sIx (n d:Nat):Option Int→Nat
 | none=>d
 | some v=>if v < 0 then (v + (n:Int)).toNat else min v.toNat n
theorem bC3 (n d:Nat):sIx n d none=d:=rfl
end
end HT
namespace L2
open PySem PySem.Spec PyProof.Rows
noncomputable abbrev TO:=St→Hp→(Option Int→Hp→Prop)→Prop
noncomputable def PO (X:Cx) (e:Option Expr) (t:TO):Prop :=
 ∀ (pins:List (Addr×Obj)) (s:Shared) (σ:St) (H:Hp) (Q:Option Int→Hp→Prop),Inv X pins σ H s→t σ H Q →
  wpAny (model X.prog X.w) X.A (evalPart e X.env) (fun u s'=>∃ o H',Inv X pins σ H' s'∧IsPart u o∧Q o H') X.xe s
noncomputable def bh3:TO:=fun _ H Q=>Q none H
noncomputable def ck4 (t:TE):TO:=fun σ H Q=>t σ H fun x H1=>∃ i,x= .int i∧Q (some i) H1
theorem bf5 {ns:List Int}:∀ {us:List Value},Vals (ns.map V.int) us→IntsAre us ns:=by
 induction ns with
 | nil=>intro us r; rw [List.map_nil] at r; cases r; exact .nil
 | cons n ns ih =>
   intro us r
   rw [List.map_cons] at r
   cases r with
   | cons r1 r2 =>
     obtain ⟨t,e⟩:=r1
     subst e
     exact .cons n t (ih r2)
section
variable {X:Cx} {e:Expr} {te:TE} {lo hi:Option Expr} {tl th:TO} {pos p2:Pos}
theorem bm0:PO X none bh3:=by
 intro pins s σ H Q I h
 rw [evalPart_none]
 exact wpAny_pure ⟨none,H,I,.none,h⟩
theorem bl9 (h:PE X e te):PO X (some e) (ck4 te):=by
 intro pins s σ H Q I hw
 rw [evalPart_some]
 refine thn (h pins s σ H _ I hw) fun u s1 ⟨x,H1,I1,r1,q1⟩=>?_
 obtain ⟨i,rfl,q⟩:=q1
 obtain ⟨t,rfl⟩:=r1
 exact ⟨some i,H1,I1,.int i t,q⟩
noncomputable def SlR (X:Cx) (r:V→Option Int→Option Int→Hp→VK→Prop):Prop :=
 ∀ (pins:List (Addr×Obj)) (s:Shared) (σ:St) (H:Hp) (x:V) (v vl vu:Value) (lo hi:Option Int) (sl:Addr) (Q:VK),Inv X pins σ H s→RelV x v→s.heap.IsSliceOf sl vl vu .none→IsPart vl lo→IsPart vu hi→r x lo hi H Q →
  ∃ T id,typeLookup (.type T) "__getitem__" = pure (some (.builtin id))∧s.TypeIs v T∧wpAny (model X.prog X.w) X.A (getItem v (.ref sl)) (EP X pins σ Q) X.xe s
noncomputable def tSl (r:V→Option Int→Option Int→Hp→VK→Prop) (te:TE) (tl th:TO):TE:=fun σ H Q=>te σ H fun x H1=>tl σ H1 fun l H2=>th σ H2 fun u H3=>r x l u H3 Q
theorem aY4 {r:V→Option Int→Option Int→Hp→VK→Prop} (hr:SlR X r) (he:PE X e te) (hl:PO X lo tl) (hu:PO X hi th):PE X (.Subscript e (.Slice lo hi none p2) pos) (tSl r te tl th):=by
 intro pins s σ H Q I h
 refine Subscript_ (thn (he pins s σ H _ I h) fun v s1 ⟨x,H1,I1,r1,q1⟩=>?_)
 refine wpAny_Slice (thn (hl pins s1 σ H1 _ I1 q1) fun vl s2 ⟨l,H2,I2,pl,q2⟩=>thn (hu pins s2 σ H2 _ I2 q2) fun vu s3 ⟨u,H3,I3,pu,q3⟩=>?_)
 rw [evalPart_none]
 refine wpAny_pure ?_
 have I4:Inv X pins σ H3 { s3 with heap:=s3.heap.push { cls:= .type "slice",data:= .fields #[vl,vu,.none] } }:=I3.kept (t':=s3.toks) fun b ob q=>Heap.get?_push_of_some _ q
 obtain ⟨T,id,hT,ht,hg⟩:=hr pins { s3 with heap:=s3.heap.push { cls:= .type "slice",data:= .fields #[vl,vu,.none] } } σ H3 x v vl vu l u s3.heap.objs.size Q I4 r1 (Heap.IsSliceOf.new ..) pl pu q3
 show wpAny (model X.prog X.w) X.A (subscriptTail e (.Slice lo hi none p2) v (.ref s3.heap.objs.size)) (EP X pins σ Q) X.xe { s3 with heap:=s3.heap.push { cls:= .type "slice",data:= .fields #[vl,vu,.none] } }
 exact tail_any (ops:=[.ref s3.heap.objs.size,v]) ht hT hg (by with_unfolding_all rfl)
noncomputable def cutV (xs:List V) (lo hi:Option Int):List V:=(xs.drop (HT.sIx xs.length 0 lo)).take (HT.sIx xs.length xs.length hi - HT.sIx xs.length 0 lo)
theorem aT4 (xs:List V) (lo hi:Option Int):(cutV xs lo hi).length≤xs.length:=by
 unfold cutV
 rw [List.length_take,List.length_drop]
 omega
end
noncomputable def ixN (n:Nat) (i:Int):Option Nat:=if 0≤i then (if i < n then some i.toNat else none) else if -(n:Int)≤i then some (i + n).toNat else none
noncomputable def atI {α:Type} (xs:List α) (i:Int):Option α:=(ixN xs.length i).bind fun j=>xs[j]?
theorem aS4 {n:Nat} {i:Int} {j:Nat} (h:ixN n i=some j):seqIndex? i n=some j∧j < n∧-(n:Int)≤i∧i < n:=by
 unfold ixN at h
 by_cases h0:0≤i
 · rw [if_pos h0] at h
   by_cases h1:i < n
   · rw [if_pos h1] at h
     have e:i.toNat=j:=Option.some.inj h
     exact ⟨by rw [seqIndex_of h0 h1,e],by omega,by omega,h1⟩
   · rw [if_neg h1] at h; cases h
 · rw [if_neg h0] at h
   by_cases h1:-(n:Int)≤i
   · rw [if_pos h1] at h
     have e:(i + n).toNat=j:=Option.some.inj h
     exact ⟨by rw [seqIndex_neg (by omega) h1,e],by omega,h1,by omega⟩
   · rw [if_neg h1] at h; cases h
theorem by1 {α:Type} {xs:List α} {i:Int} {v:α} (h:atI xs i=some v):∃ j,seqIndex? i xs.length=some j∧xs[j]?=some v∧j < xs.length∧-(xs.length:Int)≤i∧i < xs.length:=by
 unfold atI at h
 cases e:ixN xs.length i with
 | none=>rw [e] at h; cases h
 | some j =>
   rw [e] at h
   obtain ⟨h1,h2,h3,h4⟩:=aS4 e
   exact ⟨j,h1,h,h2,h3,h4⟩
theorem aI7 {α:Type} (xs:List α) (v:α):atI (xs ++ [v]) (-1)=some v:=by
 have hl:(xs ++ [v]).length=xs.length + 1:=by simp
 have e:ixN (xs ++ [v]).length (-1)=some xs.length:=by
  unfold ixN
  rw [hl,if_neg (by decide),if_pos (by omega)]
  congr 1
  omega
 unfold atI
 rw [e]
 show (xs ++ [v])[xs.length]?=some v
 simp
noncomputable def cj7 (b:Expr):Prop:=∀ o i,subscripted b false o i=operate [o,i] (getItem o i)
noncomputable def IxR (X:Cx) (r:R2):Prop :=
 ∀ (value slice:Expr) (pins:List (Addr×Obj)) (s:Shared) (σ:St) (H:Hp) (x y:V) (v u:Value) (Q:VK),Inv X pins σ H s→RelV x v→RelV y u→r x y H Q →
  subscripted slice false v u=operate [v,u] (getItem v u)→wpAny (model X.prog X.w) X.A (subscriptTail value slice v u) (EP X pins σ Q) X.xe s
noncomputable def MtR (X:Cx) (id:String) (r:V→List V→Hp→VK→Prop):Prop :=
 ∀ (pins:List (Addr×Obj)) (s:Shared) (σ:St) (H:Hp) (x:V) (xs:List V) (v:Value) (us:List Value) (Q:VK),Inv X pins σ H s→RelV x v→Vals xs us→r x xs H Q →
  wpAny (model X.prog X.w) X.A (call (.builtin id) (v :: us)) (EP X pins σ Q) X.xe s
section
variable {X:Cx} {a b:Expr} {ta tb:TE} {pos:Pos}
theorem ag8 {r:R2} (hr:IxR X r) (ha:PE X a ta) (hb:PE X b tb) (hs:cj7 b):PE X (.Subscript a b pos) (tOp r ta tb):=by
 intro pins s σ H Q I h
 exact Subscript_ (binT ha hb I h fun v u s2 x y H2 I2 rx ry q=>hr a b pins s2 σ H2 x y v u Q I2 rx ry q (hs _ _))
noncomputable def rIxL (K:PySem.W.Frag):R2:=fun x y H Q=>∃ p xs i v,x= .ref p∧y= .int i∧SqL K H p xs∧atI xs i=some v∧Q v H
noncomputable def rIxT (K:PySem.W.Frag):R2:=fun x y H Q=>∃ p xs i v,x= .ref p∧y= .int i∧SqT K H p xs∧atI xs i=some v∧Q v H
theorem cf3:IxR X (rIxL X.K):=by
 intro value slice pins s σ H x y v u Q I rx ry h hs
 obtain ⟨p,xs,i,z,rfl,rfl,hq,he,q⟩:=h
 cases rx
 obtain ⟨t,rfl⟩:=ry
 obtain ⟨its,r,pl,hz⟩:=I.list hq
 obtain ⟨j,h1,h2,h3,h4,h5⟩:=by1 he
 obtain ⟨w,ew,rw'⟩:=r.get h2
 have hl:=r.length
 have hn:=aZ7
 have fin:EP X pins σ Q w s:=⟨z,H,I,rw',q⟩
 by_cases h0:0≤i
 · have hj:i.toNat=j:=by
    rw [seqIndex_of h0 h5] at h1
    exact Option.some.inj h1
   exact item_listR pl.isList h0 (by omega) (by rw [hj]; simpa using ew) fin hs
 · have hj:(i + (its.toArray.size:Int)).toNat=j:=by
    rw [seqIndex_neg (by omega) h4] at h1
    rw [List.size_toArray,← hl]
    exact Option.some.inj h1
   exact subscriptTail_builtinR (x:=w) pl.isList.typeIs slot_list_getitem.lookup
    (wpAny_getItem_list_neg (Q:=fun r s'=>r=w∧EP X pins σ Q r s') pl.isList (by omega) (by rw [List.size_toArray] <;> omega) (by omega) (by rw [hj]; simpa using ew) ⟨rfl,fin⟩) hs
theorem cv7:IxR X (rIxT X.K):=by
 intro value slice pins s σ H x y v u Q I rx ry h hs
 obtain ⟨p,xs,i,z,rfl,rfl,hq,he,q⟩:=h
 cases rx
 obtain ⟨t,rfl⟩:=ry
 obtain ⟨its,r,pl,hz⟩:=I.tuple hq
 obtain ⟨j,h1,h2,h3,h4,h5⟩:=by1 he
 obtain ⟨w,ew,rw'⟩:=r.get h2
 have hl:=r.length
 have hn:=aZ7
 have fin:EP X pins σ Q w s:=⟨z,H,I,rw',q⟩
 exact subscriptTail_builtinR (x:=w) pl.typeIs slot_tuple_getitem.lookup
  (getItem_tuple (j:=j) (Q:=fun r s'=>r=w∧EP X pins σ Q r s') pl (by omega) (by omega) (by rw [List.size_toArray,← hl]; exact h1) (by simpa using ew) ⟨rfl,fin⟩) hs
theorem bf0 (its:List Value) (n j:Nat) (u:Value):Obj.mapSeq (·.setIfInBounds j u) { cls:= .type "list",data:= .seq its.toArray n }={ cls:= .type "list",data:= .seq (its.set j u).toArray n }:=by
 simp [Obj.mapSeq]
theorem Inv.lst {pins:List (Addr×Obj)} {σ:St} {H:Hp} {s:Shared} {p:Addr} {xs:List V} (I:Inv X pins σ H s) (h:H p=some (.lst xs)) :
 ∃ (its:List Value) (n:Nat),Vals xs its∧s.heap.get? p=some { cls:= .type "list",data:= .seq its.toArray n }∧xs.length≤sizeLine:=by
 obtain ⟨z,its,n,r,e⟩:=I.hok p _ h
 exact ⟨its,n,r,e,z⟩
theorem Inv.lstUpd {pins:List (Addr×Obj)} {σ:St} {H:Hp} {s:Shared} {p:Addr} {xs ys:List V} {its its':List Value} {n n':Nat} {f:Obj→Obj} (I:Inv X pins σ H s) (h:H p=some (.lst xs))
 (ho:s.heap.get? p=some { cls:= .type "list",data:= .seq its.toArray n }) (hf:f { cls:= .type "list",data:= .seq its.toArray n }={ cls:= .type "list",data:= .seq its'.toArray n' }) (r:Vals ys its') (hz:ys.length≤sizeLine) (t:Nat) :
 Inv X pins σ (upd H p (.lst ys)) { s with heap:=s.heap.update p f,toks:=t }:=by
 have e:(s.heap.update p f).get? p=some { cls:= .type "list",data:= .seq its'.toArray n' }:=by
  rw [Heap.get?_update_self f ho (by rw [hf] <;> rfl),hf]
 refine I.write (x:=p) (e:=p) (by rw [h]; trivial) (.inl rfl) (fun b u hb q=>(Heap.get?_update_other _ _ (Ne.symm hb)).trans q) ⟨_,e⟩ ?_
 exact ⟨hz,its',n',r,e⟩
noncomputable def cn4:V→V→V→Hp→(Hp→Prop)→Prop:=fun o i v H Q=>∃ p xs k j,o= .ref p∧i= .int k∧H p=some (.lst xs)∧ixN xs.length k=some j∧Q (upd H p (.lst (xs.set j v)))
theorem aX5:PSet X cn4:=by
 intro pins s σ H o i v ov iv u Q I ro ri rv h
 obtain ⟨p,xs,k,j,rfl,rfl,hp,hj,q⟩:=h
 cases ro
 obtain ⟨t,rfl⟩:=ri
 obtain ⟨its,n,r,ho,hz⟩:=I.lst hp
 obtain ⟨h1,h2,h3,h4⟩:=aS4 hj
 have hl:=r.length
 have hn:=aZ7
 have I':Inv X pins σ (upd H p (.lst (xs.set j v))) { s with heap:=s.heap.update p (Obj.mapSeq (·.setIfInBounds j u)) } :=
  I.lstUpd hp ho (bf0 its n j u) (r.set rv j) (by rw [List.length_set]; exact hz) s.toks
 by_cases h0:0≤k
 · have hk:k.toNat=j:=by
    rw [seqIndex_of h0 h4] at h1
    exact Option.some.inj h1
   exact PySem.W.ki_setAt ho h0 (by omega) (by rw [List.size_toArray,← hl]; exact h4) (by rw [hk]; exact ⟨_,I',q⟩)
 · have hk:(k + (its.toArray.size:Int)).toNat=j:=by
    rw [seqIndex_neg (by omega) h3] at h1
    rw [List.size_toArray,← hl]
    exact Option.some.inj h1
   exact PySem.W.ki_setBack ho (by omega) (by rw [List.size_toArray,← hl]; exact h3) (by omega) (by rw [hk]; exact ⟨_,I',q⟩)
theorem aK2 (lo hi:Option Int) (n:Nat):(sliceBounds lo hi none n).1=((HT.sIx n 0 lo:Nat):Int)∧(sliceBounds lo hi none n).2.1=((HT.sIx n n hi:Nat):Int)∧(sliceBounds lo hi none n).2.2=1:=by
 refine ⟨?_,?_,rfl⟩
 · cases lo with
   | none=>simp [sliceBounds,HT.sIx]
   | some i =>
     simp only [sliceBounds,HT.sIx,Option.getD_none,show (1:Int) > 0 by decide,if_true]
     by_cases h:i < 0
     · simp only [h,if_true] <;> omega
     · simp only [h,if_false] <;> omega
 · cases hi with
   | none=>simp [sliceBounds,HT.sIx]
   | some i =>
     simp only [sliceBounds,HT.sIx,Option.getD_none,show (1:Int) > 0 by decide,if_true]
     by_cases h:i < 0
     · simp only [h,if_true] <;> omega
     · simp only [h,if_false] <;> omega
theorem aF5 (its:List Value) (lo hi:Option Int):slicePick its.toArray lo hi none=((its.drop (HT.sIx its.length 0 lo)).take (HT.sIx its.length its.length hi - HT.sIx its.length 0 lo)).toArray:=by
 obtain ⟨h1,h2,h3⟩:=aK2 lo hi its.toArray.size
 unfold slicePick
 rw [h1,h2,h3]
 simp only [sliceRange_one,pick_run,List.size_toArray] <;> rfl
noncomputable def rSlL (K:PySem.W.Frag):V→Option Int→Option Int→Hp→VK→Prop:=fun x lo hi H Q=>∃ a xs,x= .ref a∧SqL K H a xs∧∀ p,H p=none→Q (.ref p) (upd H p (.lst (cutV xs lo hi)))
theorem bY5:SlR X (rSlL X.K):=by
 intro pins s σ H x v vl vu lo hi sl Q I rx hs pl pu h
 obtain ⟨a,xs,rfl,hx,q⟩:=h
 cases rx
 obtain ⟨its,r,ht,hz⟩:=I.list hx
 have hlen:=r.length
 refine ⟨"list",_,slot_list_getitem.lookup,ht.isList.typeIs,?_⟩
 refine wpAny_getItem_list_slice ht.isList hs pl pu .none (by simp) ?_ (by rw [List.size_toArray] <;> omega)
 rw [aF5,← hlen]
 refine ⟨.ref s.heap.objs.size,_,I.laid (t':=s.toks) (o:= .lst (cutV xs lo hi)) (fun b ob q=>Heap.get?_push_of_some _ q) (Nat.le_refl _) ?_,rfl,q _ (I.hok.fresh (Nat.le_refl _))⟩
 exact ⟨Nat.le_trans (aT4 xs lo hi) hz,_,0,(r.drop (HT.sIx xs.length 0 lo)).take (HT.sIx xs.length xs.length hi - HT.sIx xs.length 0 lo),Heap.get?_push_size _ rfl⟩
theorem aN9:au4 X (.builtin "len") (fun xs H Q=>∃ p ys,xs=[.ref p]∧(SqL X.K H p ys∨SqT X.K H p ys)∧Q (.int ys.length) H):=by
 intro pins s σ H xs us Q I r h
 obtain ⟨p,ys,rfl,hq,q⟩:=h
 obtain ⟨u,rfl,rx⟩:=ck0 r
 cases rx
 have hn:=aZ7
 rcases hq with hq | hq
 · obtain ⟨its,r',pl,hz⟩:=I.list hq
   have hlen:=r'.length
   exact Calls.call_len_list pl.isList (by simp only [List.size_toArray] <;> omega) ⟨.int ys.length,H,I.tok _,⟨s.toks + 1,by rw [List.size_toArray,hlen]⟩,q⟩
 · obtain ⟨its,r',pl,hz⟩:=I.tuple hq
   have hlen:=r'.length
   exact len_tuple pl (by simp only [List.size_toArray] <;> omega) ⟨.int ys.length,H,I.tok _,⟨s.toks + 1,by rw [List.size_toArray,hlen]⟩,q⟩
theorem aI5:au4 X (.type "tuple") (fun xs H Q=>∃ p ys,xs=[.ref p]∧((SqL X.K H p ys∧∀ l,H l=none→Q (.ref l) (upd H l (.tup ys)))∨(SqT X.K H p ys∧Q (.ref p) H))):=by
 intro pins s σ H xs us Q I r h
 obtain ⟨p,ys,rfl,h⟩:=h
 obtain ⟨u,rfl,rx⟩:=ck0 r
 cases rx
 rcases h with ⟨hq,q⟩ | ⟨hq,q⟩
 · obtain ⟨its,r',pl,hz⟩:=I.list hq
   have hlen:=r'.length
   refine call_tuple_list pl.isList (fun h' kp=>?_) (by simp only [List.size_toArray] <;> omega)
   have I1:Inv X pins σ H { s with heap:=h' }:=I.kept (t':=s.toks) kp
   have I2:Inv X pins σ (upd H h'.objs.size (.tup ys)) { s with heap:=h'.push { cls:= .type "tuple",data:= .seq its.toArray } } :=
    I1.laid (t':=s.toks) (fun b o e=>Heap.get?_push_of_some _ e) (Nat.le_refl _) (show ObjOk X.prog X.w _ _ _ (.tup ys) from ⟨hz,its,r',IsTup.new _ _⟩)
   exact ⟨.ref h'.objs.size,_,I2,rfl,q _ (I1.hok.fresh (Nat.le_refl _))⟩
 · obtain ⟨its,r',pl,hz⟩:=I.tuple hq
   exact call_tuple_same pl ⟨.ref p,H,I,rfl,q⟩
noncomputable def tyV (K:PySem.W.Frag) (T:String) (x:V) (H:Hp):Prop:=match x with
 | .str _=>T = "str"
 | .int _=>T = "int"
 | .ref p=>(T = "list" ∧ ∃ xs,SqL K H p xs)∨(T = "tuple" ∧ ∃ o,K.lookup p=some o∧o.cls= .type "tuple" ∧ o.dict=none) ∨
    (T = "dict" ∧ ((∃ kvs,H p=some (.dK kvs))∨∃ kvs,H p=some (.dT kvs)))∨(T = "set" ∧ ∃ S n,H p=some (.set S n))
 | _=>False
theorem ck1 {pins:List (Addr×Obj)} {σ:St} {H:Hp} {s:Shared} {T:String} {x:V} {v:Value} (I:Inv X pins σ H s) (r:RelV x v) (ty:tyV X.K T x H) :
 s.TypeIs v T∧∀ a,v= .ref a→∃ ob,s.heap.get? a=some ob∧ob.dict=none:=by
 cases x with
 | str z =>
   obtain ⟨t,rfl⟩:=r
   cases (show T = "str" from ty)
   exact ⟨typeIs_str s z t,fun _ e=>nomatch e⟩
 | int i =>
   obtain ⟨t,rfl⟩:=r
   cases (show T = "int" from ty)
   exact ⟨typeIs_int s i t,fun _ e=>nomatch e⟩
 | ref p =>
   cases r
   rcases ty with ⟨rfl,xs,hq⟩ | ⟨rfl,o,hk,hc,hd⟩ | ⟨rfl,hk⟩ | ⟨rfl,S,n,hk⟩
   · obtain ⟨its,_,pl,_⟩:=I.list hq
     refine ⟨pl.isList.typeIs,fun a e=>?_⟩
     cases e
     obtain ⟨o,n,e,c,hd,_⟩:=pl
     exact ⟨o,e,hd⟩
   · refine ⟨⟨o,I.kIn p o hk,hc⟩,fun a e=>?_⟩
     cases e
     exact ⟨o,I.kIn _ o hk,hd⟩
   · have z:∃ o,s.heap.get? p=some o∧o.ExactDict:=by
      rcases hk with ⟨kvs,hk⟩ | ⟨kvs,hk⟩
      · obtain ⟨_,_,_,_,o,_,_,e,ex,_⟩:=I.hok p _ hk
        exact ⟨o,e,ex⟩
      · obtain ⟨_,_,_,_,o,_,_,e,ex,_⟩:=I.hok p _ hk
        exact ⟨o,e,ex⟩
     obtain ⟨o,e,ex⟩:=z
     refine ⟨⟨o,e,ex.1⟩,fun a e2=>?_⟩
     cases e2
     exact ⟨o,e,ex.2.1⟩
   · obtain ⟨o,_,_,_,e,ex,_⟩:=I.hok p _ hk
     refine ⟨⟨o,e,ex.1⟩,fun a e2=>?_⟩
     cases e2
     exact ⟨o,e,ex.2.1⟩
 | _=>exact False.elim ty
noncomputable def tBM (K:PySem.W.Frag) (T:String) (r:V→List V→Hp→VK→Prop) (to:TE) (t:TA):TE:=fun σ H Q=>to σ H fun x H1=>tyV K T x H1∧t σ H1 fun xs H2=>r x xs H2 Q
variable {o e:Expr} {es:List Expr} {to:TE} {t:TA} {name:Str} {apos cpos:Pos} {T id:String} {r:V→List V→Hp→VK→Prop}
theorem bm3 (pa:PlainAttrs T) (slot:Slot T name id) (hty:typeOf (.builtin id)=pure (.type "method_descriptor")) (hm:MtR X id r) (ho:PE X o to) (ha:PA X (e :: es) t)
 (hbase:attributeBase o name X.env (eval o X.env)=eval o X.env:=by rfl)
 (hfew:((backTo cpos (starEach (e :: es) X.env)).all (fun x=>!x.1) && (backToKw cpos (keywordEach [] X.env)).all (fun x=>x.1.isSome)
   && decide ((e :: es).length + ([]:List Keyword).length + (if ([]:List Keyword).isEmpty then 0 else 1) < 30))=true:=by rfl)
 (hline:(apos.endLine == cpos.line)=true:=by rfl) (hs:starEach (e :: es) X.env=(false,eval e X.env) :: starEach es X.env:=by rfl) (hplain:(backTo cpos (starEach es X.env)).any (·.1)=false:=by rfl) :
 PE X (.Call (.Attribute o name apos) (e :: es) [] cpos) (tBM X.K T r to t):=by
 intro pins s σ H Q I h
 refine wpAny_Call_method_late hbase hfew hline rfl (thn (ho pins s σ H _ I h) fun v s1 ⟨x,H1,I1,r1,ty,q1⟩=>?_)
 obtain ⟨h1,h2⟩:=ck1 I1 r1 ty
 refine ⟨T,id,pa,slot,hty,h1,h2,?_⟩
 have hA:=ha cpos pins s1 σ H1 _ I1 q1
 rw [hs] at hA ⊢
 refine Calls.callWith_builtin (by show (false || (backTo cpos (starEach es X.env)).any (·.1))=false; rw [hplain] <;> rfl) (Calls.evalArgs_plain ?_)
 exact thn hA fun us s2 ⟨vs,H2,I2,r2,q2⟩=>hm pins s2 σ H2 x vs v us Q I2 r1 r2 q2
end
noncomputable def MtM (X:Cx) (id:String) (r:V→List V→Hp→VK→Prop):Prop :=
 ∀ (pins:List (Addr×Obj)) (s:Shared) (σ:St) (H:Hp) (x:V) (xs:List V) (v:Value) (us:List Value) (Q:VK),Inv X pins σ H s→RelV x v→Vals xs us→r x xs H Q →
  wpAny (model X.prog X.w) X.A (call (.builtin id) (v :: us)) (EP X pins σ Q) X.xe s
theorem Vals.one:∀ {x:V} {us:List Value},Vals [x] us→∃ u,us=[u]∧RelV x u
 | _,_,.cons r .nil=>⟨_,rfl,r⟩
theorem Vals.eraseIdx:∀ {xs:List V} {us:List Value} (i:Nat),Vals xs us→Vals (xs.eraseIdx i) (us.eraseIdx i)
 | _,_,_,.nil=> .nil
 | _,_,0,.cons _ t=>t
 | _,_,i + 1,.cons r t=> .cons r (Vals.eraseIdx i t)
theorem aM0 {α:Type}:∀ (l:List α) (i:Nat),(l.eraseIdx i).length≤l.length
 | [],_=>Nat.le_refl _
 | _ :: _,0=>Nat.le_succ _
 | _ :: r,i + 1=>Nat.succ_le_succ (aM0 r i)
section
variable {X:Cx} {pins:List (Addr×Obj)} {σ:St} {H:Hp} {s:Shared} {l b:Addr} {xs ys zs:List V}
theorem Inv.lset {its its':List Value} {n:Nat} {f:Array Value→Array Value} {t':Nat} (I:Inv X pins σ H s) (hH:H l=some (.lst xs))
 (e:s.heap.get? l=some { cls:= .type "list",data:= .seq its.toArray n }) (hf:f its.toArray=its'.toArray) (hv:Vals ys its') (hz:ys.length≤sizeLine) :
 Inv X pins σ (upd H l (.lst ys)) { s with heap:=s.heap.update l (Obj.mapSeq f),toks:=t' }:=by
 have q:=PySem.IsL.update e f
 rw [hf] at q
 refine I.write (x:=l) (e:=l) (by rw [hH]; exact trivial) (.inl rfl) (fun b' u hb hu=>(Heap.get?_update_other s.heap (Obj.mapSeq f) (Ne.symm hb)).trans hu) ⟨_,q⟩ ?_
 exact ⟨hz,its',_,hv,q⟩
theorem Inv.lnew {its:List Value} {t':Nat} (I:Inv X pins σ H s) (hv:Vals ys its) (hz:ys.length≤sizeLine) :
 Inv X pins σ (upd H s.heap.objs.size (.lst ys)) { s with heap:=s.heap.push { cls:= .type "list",data:= .seq its.toArray },toks:=t' } :=
 I.laid (fun _ _ q=>Heap.get?_push_of_some _ q) (Nat.le_refl _) ⟨hz,its,0,hv,Heap.get?_push_size _ rfl⟩
theorem Inv.fresh (I:Inv X pins σ H s):H s.heap.objs.size=none:=I.hok.fresh (Nat.le_refl _)
theorem Inv.lstM (I:Inv X pins σ H s) (hH:H l=some (.lst xs)):xs.length≤sizeLine∧∃ (its:List Value) (n:Nat),Vals xs its∧xs.length=its.length∧s.heap.get? l=some { cls:= .type "list",data:= .seq its.toArray n }:=by
 obtain ⟨z,its,n,r,e⟩:=I.hok l _ hH
 exact ⟨z,its,n,r,r.length,e⟩
theorem bE3 {n:Nat} (h:n≤sizeLine):Builtin.List.listTooLong n=false:=by
 unfold Builtin.List.listTooLong
 exact decide_eq_false (by omega)
end
section
variable {X:Cx}
noncomputable def aR2:V→List V→Hp→VK→Prop:=fun x vs H Q=>∃ l xs y,x= .ref l∧vs=[y]∧H l=some (.lst xs)∧xs.length < sizeLine∧Q .non (upd H l (.lst (xs ++ [y])))
theorem ar0:MtM X "list.append" aR2:=by
 intro pins s σ H x vs v us Q I rx rv h
 obtain ⟨l,xs,y,rfl,rfl,hH,hz,q⟩:=h
 cases rx
 obtain ⟨u,rfl,ru⟩:=rv.one
 obtain ⟨z,its,n,r,hl,e⟩:=I.lstM hH
 refine call_meets F.slot_list_append ⟨_,e,rfl⟩ F.entry_list_append (F.args_list_append_2 _ _) (PySem.list_append l its.toArray n u (by rw [List.size_toArray]; omega)) ⟨e,?_⟩
 refine ⟨.non,_,I.lset (its':=its ++ [u]) hH e (by simp) (r.append (.cons ru .nil)) ?_,rfl,q⟩
 rw [List.length_append,List.length_singleton]
 omega
noncomputable def bl6:V→List V→Hp→VK→Prop:=fun x vs H Q=>∃ l b xs zs,x= .ref l∧vs=[.ref b]∧H l=some (.lst xs)∧H b=some (.lst zs)∧xs.length + zs.length≤sizeLine∧Q .non (upd H l (.lst (xs ++ zs)))
theorem bn4:MtM X "list.extend" bl6:=by
 intro pins s σ H x vs v us Q I rx rv h
 obtain ⟨l,b,xs,zs,rfl,rfl,hH,hB,hz,q⟩:=h
 cases rx
 obtain ⟨u,rfl,ru⟩:=rv.one
 cases ru
 obtain ⟨z,its,n,r,hl,e⟩:=I.lstM hH
 obtain ⟨z2,its2,n2,r2,hl2,e2⟩:=I.lstM hB
 have hsz:its.toArray.size + its2.toArray.size≤sizeLine:=by rw [List.size_toArray,List.size_toArray]; omega
 have hlong:¬ (!its.toArray.isEmpty && Builtin.List.listTooLong (its.toArray.size + its2.toArray.size))=true:=by
  rw [bE3 hsz,Bool.and_false]
  exact Bool.false_ne_true
 refine call_meets F.slot_list_extend ⟨_,e,rfl⟩ F.entry_list_extend (F.args_list_extend_2 _ _)
  (AutoSeq1.list_extend_list_list_0 l its.toArray n b its2.toArray n2 hlong (by rw [List.size_toArray]; omega) (by omega)) ⟨e,e2,?_⟩
 refine ⟨.non,_,I.lset (its':=its ++ its2) hH e (by simp) (r.append r2) ?_,rfl,q⟩
 rw [List.length_append]
 omega
noncomputable def bN1:V→List V→Hp→VK→Prop:=fun x vs H Q=>∃ l xs i k y,x= .ref l∧vs=[.int i]∧H l=some (.lst xs)∧-(2 ^ 63)≤i∧i < 2 ^ 63∧seqIndex? i xs.length=some k∧xs[k]?=some y∧Q y (upd H l (.lst (xs.eraseIdx k)))
theorem bE6:MtM X "list.pop" bN1:=by
 intro pins s σ H x vs v us Q I rx rv h
 obtain ⟨l,xs,i,k,y,rfl,rfl,hH,h1,h2,hk,hy,q⟩:=h
 cases rx
 obtain ⟨u,rfl,ru⟩:=rv.one
 obtain ⟨t,rfl⟩:=ru
 obtain ⟨z,its,n,r,hl,e⟩:=I.lstM hH
 obtain ⟨w,hw,rw'⟩:=r.get hy
 refine call_meets F.slot_list_pop ⟨_,e,rfl⟩ F.entry_list_pop (F.args_list_pop_2 _ _)
  (MeetsSeq.list_pop_at l its.toArray n i t k w (fitsIndex_both h1 h2) (by rw [List.size_toArray,← hl]; exact hk) (by rw [← Array.getElem?_toList]; exact hw) (by rw [List.size_toArray]; omega)) ⟨e,?_⟩
 refine ⟨y,_,I.lset (its':=its.eraseIdx k) hH e ?_ (r.eraseIdx k) ?_,rw',q⟩
 · show its.toArray.eraseIdxIfInBounds k=(its.eraseIdx k).toArray
   rw [List.eraseIdxIfInBounds_toArray]
 · have:=aM0 xs k
   omega
noncomputable def rCat:R2:=fun x y H Q=>∃ l b xs zs,x= .ref l∧y= .ref b∧H l=some (.lst xs)∧H b=some (.lst zs)∧xs.length + zs.length≤sizeLine∧∀ p,H p=none→Q (.ref p) (upd H p (.lst (xs ++ zs)))
theorem aY8:OpR X (binaryOp .Add) rCat:=by
 intro pins s σ H x y v u Q I rx ry h
 obtain ⟨l,b,xs,zs,rfl,rfl,hH,hB,hz,q⟩:=h
 cases rx
 cases ry
 obtain ⟨z,its,n,r,hl,e⟩:=I.lstM hH
 obtain ⟨z2,its2,n2,r2,hl2,e2⟩:=I.lstM hB
 refine PySem.P.add_list e e2 ?_ (by rw [List.size_toArray,List.size_toArray]; omega)
 have ea:its.toArray ++ its2.toArray=(its ++ its2).toArray:=by simp
 rw [ea]
 exact ⟨.ref _,_,I.lnew (t':=s.toks) (r.append r2) (by rw [List.length_append]; omega),rfl,q _ I.fresh⟩
end
end L2
namespace Att
open PySem PySem.W PySem.Calls PyProof.Rows
theorem az1 {P:Params} {h:Heap}:∀ (ns:List Int) (vs:List Value),WellAll P h vs (ns.map WData.int)→IntsAre vs ns:=by
 intro ns
 induction ns with
 | nil =>
   intro vs w
   rw [List.map_nil] at w
   cases w
   exact .nil
 | cons n ns ih =>
   intro vs w
   rw [List.map_cons] at w
   cases w with
   | cons a b =>
     cases a
     exact .cons _ _ (ih _ b)
theorem bj2 {l:OpenLaw} {n:Nat} (hn:l.most=some n) {P:Params} {h:Heap} {args:List WData} {vals:List Value}
 (hpre:l.row.toRowW.claim.pre args=true) (hwl:WellAll P h vals args) :
 ∃ a vs ns,vals=[Value.ref a]∧args=[WData.list (ns.map WData.int)]∧h.get? a=some { cls:= .type "list",data:= .seq vs.toArray }∧IntsAre vs ns∧ns.length≤n:=by
 have hsh:WShape.hasAll [] args [.list .int]=true:=(pre_splitW hpre).1
 have hc:l.pre.holds [] { args:=args }=true:=(pre_splitW hpre).2
 obtain ⟨d,r,rfl,h1,h2⟩:=hasAllW_cons hsh
 obtain rfl:=hasAllW_nil h2
 obtain ⟨xs,rfl,h3⟩:=hasW_list h1
 obtain ⟨ns,rfl⟩:=items_int h3
 have hlen:ns.length≤n:=by
  unfold OpenLaw.pre at hc
  have h4:(WTm.not (.lt (.lit (.int (n:Int))) (.len (.arg 0)))).holds [] { args:=[.list (ns.map .int)] }=true:=by
   have h4:=(holds_andW hc).1
   rw [hn] at h4
   exact h4
  have h5:=condW_of h4 (w_not (w_lt w_lit (w_len_list (w_arg rfl))))
  rw [List.length_map] at h5
  refine Nat.le_of_not_lt fun q=>?_
  have q':(n:Int) < ((ns.length:Nat):Int):=by omega
  first
   | (rw [decide_eq_true q'] at h5; exact absurd h5 (by decide))
   | (simp at h5; omega)
 cases hwl with
 | cons w1 w2 =>
   cases w2
   cases w1 with
   | list ho hall=>exact ⟨_,_,ns,rfl,rfl,ho,az1 ns _ hall,hlen⟩
theorem bl8 (l:OpenLaw) (args:List WData):l.row.toRowW.claim.post args (.bool true) args=true :=
 postW_of (r:=l.row.toRowW) (X:=(true == true))
  (show WShape.has [] (.bool true) .bool=true by first | rfl | decide | simp [WShape.has,WShape.arms,WShape.armsAll])
  (show (WTm.eq .res (.lit (.bool true))).value [] { args:=args,res:=some (.bool true),after:=args }=some (.bool (true == true)) from w_eq_bool (w_res rfl) w_lit) rfl
theorem aW8 {l:OpenLaw} {n:Nat} {q:Program} {loose:List Str} {XP:(Str→Option Value)→Heap→Prop} {YP:World→Heap→Prop} {d:DefRec}
 (hn:l.most=some n) (hdf:d.params.defaults=[])
 (call:∀ (w:World) (s₀ s₁:Shared) (mg mb:Str→Option Value) (fa:Addr) (o:Obj) (pm cd doc:Value) (a:Addr) (vs:List Value) (ns:List Int),
   Ground q loose [] XP w s₀ mg mb s₁.heap→YP w s₁.heap →
   s₁.heap.get? fa=some o→o.data= .func (docDef d.name d.params d.body d.scope pm cd doc)→s₁.heap.CodeRec cd d.name→mg d.name=some (.ref fa) →
   s₁.heap.get? a=some { cls:= .type "list",data:= .seq vs.toArray }→IntsAre vs ns→ns.length≤n→s₁.gens=#[] →
   codeAny (model l.prog w) callerA (.call (.ref fa) ⟨[.ref a],[]⟩) (fun r s'=>r= .ok (.ret (.bool true))∧OldK s₁.heap s'.heap∧s'.os=s₁.os∧AllBare s'.gens) s₁) :
 WalkO q loose XP YP l.row.toRowW d [] (fun f vs=>PySem.call f vs):=by
 intro w s₀ s₁ mg mb G Y fa o pm cd doc dV kV ho hd hcd hD hmg hg args vals as hpre hlay hrd hwl hlo
 obtain rfl:dV= .none:=Dflts.none hD hdf
 obtain rfl:kV= .none:=Dflts.noKw hD
 obtain ⟨a,vs,ns,rfl,rfl,hobj,hints,hlen⟩:=bj2 hn hpre hwl
 refine enter_call (codeAny_mono (call w s₀ s₁ mg mb fa o pm cd doc a vs ns G Y ho (fd_plain hd) hcd hmg hobj hints hlen hg) fun r s' hq=>?_)
 obtain ⟨rfl,h2,h3,h4⟩:=hq
 exact ⟨.inl ⟨.bool true,.bool true,[],rfl,fun _=>rfl,.bool true,bl8 l _,fun _=>⟨List.Pairwise.nil,fun _ hm=>(nomatch hm)⟩⟩,h2,h3,h4⟩
end Att
namespace L2
open PySem PySem.Spec PyProof.Rows
theorem aJ2:∀ {vs:List Value} {ns:List Int},IntsAre vs ns→Vals (ns.map V.int) vs
 | _,_,.nil=> .nil
 | _,_,.cons n t h=> .cons ⟨t,rfl⟩ (aJ2 h)
noncomputable abbrev Tbs:=List (Addr×Pos×Str)
noncomputable def Tbs.at (T:Tbs) (b:Addr):List (Pos×Str):=(T.filter fun p=>p.1 == b).map (·.2)
noncomputable def Tbs.ok (T:Tbs):Prop:=∀ y∈T,∀ z∈T,y.2.1.line=z.2.1.line→y.2.1.col=z.2.1.col→y.2.2=z.2.2
theorem Tbs.mem {T:Tbs} {b:Addr} {y:Pos×Str}:y∈T.at b↔(b,y)∈T:=by
 unfold Tbs.at
 simp only [List.mem_map,List.mem_filter,beq_iff_eq]
 constructor
 · rintro ⟨⟨c,x⟩,⟨h1,h2⟩,h3⟩
   dsimp only at h2 h3
   subst h2 h3
   exact h1
 · intro h
   exact ⟨(b,y),⟨h,rfl⟩,rfl⟩
noncomputable def Only (T:Tbs) (H:Hp):Prop:=(∀ p∈T,H p.1=some (.tbl (T.at p.1)))∧∀ b,H b=none∨(∃ o xs,H b=some (.frz o (.lst xs)))∨H b=some (.tbl (T.at b))
theorem bF6 {P:Program} {w:World} {K:PySem.W.Frag} {mg mb:Str→Option Value} {CX:CXT} {k:Nat} {fa a:Addr} {fd:FuncData} {x:Str} {sp:Sp} {s₁:Shared} {vs:List Value} {ns:List Int} {T:Tbs}
 (KX:K.In s₁.heap) (hns:s₁.heap.Ns mainGlobals mg) (hb:s₁.heap.Ns builtinsNs mb) (hbb:∀ x:Str,x ≠ "__name__" → mb x=bootBuiltins x) (hlim:s₁.heap.NoLimit) (hg:s₁.gens=#[])
 (hbm:∃ bm ob,mg "__builtins__" = some (.ref bm)∧bm≠builtinsNs∧s₁.heap.get? bm=some ob∧ob.cls= .type "module" ∧ ob.dict=some builtinsNs∧ob.data= .plain)
 (hT:∀ p∈T,∃ c,PySem.W.CodeHd s₁.heap c p.1∧s₁.heap.get? p.1=some (PySem.W.tabObj #[])) (hTK:∀ p∈T,K.lookup p.1=none) (hTo:T.ok)
 (ha:s₁.heap.get? a=some { cls:= .type "list",data:= .seq vs.toArray }) (hi:IntsAre vs ns) (hl:ns.length≤sizeLine) (hr:Room k callerA)
 (F:∀ base:Heap,K.In base→base.Ns mainGlobals mg→(∀ c P,PySem.W.CodeHd s₁.heap c P→PySem.W.CodeHd base c P)→FnOk P w K mg base CX k fa fd [x] sp) (hbind:∀ (s:Shared) (u:Value),BindsTo s fd ⟨[u],[]⟩ [(x,u)])
 (hsp:∀ H:Hp,Only T H→SqL K H a (ns.map V.int)→sp [.ref a] H (fun v _=>v= .bl true) fun _ _ _=>False)
 (hCX:∀ H e s',CX [] H s₁ (fun _ _ _=>False) e s'→False) :
 codeAny (model P w) callerA (.call (.ref fa) ⟨[.ref a],[]⟩) (fun r s'=>r= .ok (.ret (.bool true))∧OldK s₁.heap s'.heap∧s'.os=s₁.os∧AllBare s'.gens) s₁:=by
 have rv:=aJ2 hi
 have lenV:=hi.length
 -- from an abstract heap in which nothing but the script and the tables may be tracked
 have core:∀ H:Hp,Only T H→SqL K H a (ns.map V.int)→HOk P w H s₁.heap→(∀ b,H b≠none→b=a∨∃ p∈T,p.1=b)→(H a≠none→K.lookup a=none) →
  codeAny (model P w) callerA (.call (.ref fa) ⟨[.ref a],[]⟩) (fun r s'=>r= .ok (.ret (.bool true))∧OldK s₁.heap s'.heap∧s'.os=s₁.os∧AllBare s'.gens) s₁:=by
  intro H hO hS hok hA hK
  have base_of:∀ {b:Addr} {o:Obj},s₁.heap.get? b=some o→H b=none→(hidT s₁.heap H).get? b=some o:=fun e n=>bG0 e n
  have noB:∀ {b:Addr} {o:Obj},s₁.heap.get? b=some o→o≠{ cls:= .type "list",data:= .seq vs.toArray }→o≠PySem.W.tabObj #[]→H b=none:=fun {b o} e d1 d2=>by
   cases q:H b with
   | none=>rfl
   | some u =>
     rcases hA b (by rw [q]; simp) with e' | ⟨p,hp,e'⟩
     · subst e'
       rw [ha] at e
       exact absurd (Option.some.inj e).symm d1
     · subst e'
       obtain ⟨_,_,e2⟩:=hT p hp
       rw [e2] at e
       exact absurd (Option.some.inj e).symm d2
  have noA:∀ {b:Addr} {o:Obj} {es:Array DictEntry} {ep:Nat},s₁.heap.get? b=some o→o.data= .dict es ep→H b=none:=fun {b o es ep} e d =>
   noB e (fun z=>by rw [z] at d; cases d) (fun z=>by rw [z] at d; cases d)
  have nsK:∀ {b:Addr} {m:Str→Option Value},s₁.heap.Ns b m→(hidT s₁.heap H).Ns b m:=fun {b m} ⟨o,es,ep,e,d,r⟩=>⟨o,es,ep,base_of e (noA e d),d,r⟩
  have hKb:K.In (hidT s₁.heap H):=fun b o e=>base_of (KX b o e) (by
   cases q:H b with
   | none=>rfl
   | some u =>
     rcases hA b (by rw [q]; simp) with e' | ⟨p,hp,e'⟩
     · subst e'
       rw [hK (by rw [q]; simp)] at e; cases e
     · subst e'
       rw [hTK p hp] at e; cases e)
  have hbm':∃ bm ob,mg "__builtins__" = some (.ref bm)∧bm≠builtinsNs∧(hidT s₁.heap H).get? bm=some ob∧ob.cls= .type "module" ∧ ob.dict=some builtinsNs∧ob.data= .plain:=by
   obtain ⟨bm,ob,h1,h2,h3,h4,h5,h6⟩:=hbm
   exact ⟨bm,ob,h1,h2,base_of h3 (noB h3 (fun z=>by rw [z] at h6; cases h6) fun z=>by rw [z] at h6; cases h6),h4,h5,h6⟩
  have hcd:∀ c P,PySem.W.CodeHd s₁.heap c P→PySem.W.CodeHd (hidT s₁.heap H) c P:=fun c P h=>by
   obtain ⟨o,vs',file,tf,flags,tg,inF,text,tt,e,hc,r⟩:=h
   exact ⟨o,vs',file,tf,flags,tg,inF,text,tt,base_of e (noB e (fun z=>by rw [z] at hc; simp at hc) fun z=>by rw [z] at hc; simp at hc),hc,r⟩
  have hM:Mod K mg (hidT s₁.heap H):=⟨hKb,nsK hns,⟨mb,nsK hb,hbb⟩,(let ⟨mc,h1,h2⟩:=hlim; ⟨mc,nsK h1,h2⟩),hbm'⟩
  have e0:Env0 P w K mg (hidT s₁.heap H) callerA [] s₁ H:=⟨rfl,hM,fun b o e=>cb0 e,Nat.le_of_eq (bp8 _ _),trivial,fun b hb=>absurd (show b∈([]:List Addr) from hb) (by simp),hok,.of_eq hg⟩
  refine codeAny_mono ((F _ hKb (nsK hns) hcd).run callerA [] s₁ H ⟨[.ref a],[]⟩ [.ref a] [.ref a] _ _ hr e0 (hbind s₁ (.ref a)) (.cons rfl .nil) (hsp H hO hS)) fun r s' h=>?_
  cases r with
  | error e=>exact (hCX H e s' h).elim
  | ok fl =>
    cases fl with
    | next=>exact False.elim h
    | brk=>exact False.elim h
    | cont=>exact False.elim h
    | ret u =>
      obtain ⟨v,H',os,bare,un,hok',r',q⟩:=h
      have q':v= .bl true:=q
      subst q'
      obtain rfl:u=Value.bool true:=r'
      refine ⟨rfl,⟨fun b o e=>?_,fun b o e=>un.there b o e (by simp)⟩,os,bare⟩
      cases q:H b with
      | none=>exact .inl (un.keep b o e q (by intro z; exact absurd (show b∈([]:List Addr) from z) (by simp)) (by simp))
      | some u =>
        rcases hO.2 b with z | ⟨ob,xs,z⟩ | z
        · rw [q] at z; cases z
        · have z2:=un.frzs b ob _ z
          obtain ⟨e1,_⟩:=hok b _ z
          obtain ⟨e2,_⟩:=hok' b _ z2
          rw [e] at e1; cases e1
          exact .inl e2
        · have z2:=(un.tbls b _ z).1
          obtain ⟨_,ps,e2,_⟩:=hok' b _ z2
          have hb':∃ p∈T,p.1=b:=by
           rcases hA b (by rw [q]; simp) with e' | e'
           · subst e'
             obtain ⟨_,ps',e3,_⟩:=hok b _ z
             rw [ha] at e3; cases e3
           · exact e'
          obtain ⟨p,hp,e'⟩:=hb'
          obtain ⟨c,hc,e3⟩:=hT p hp
          rw [e'] at e3 hc
          rw [e] at e3
          cases e3
          refine .inr (.inl ⟨(hc.tab (ps:=#[]) e).isCodeTable,rfl,#[],ps,rfl,?_⟩)
          rw [e2]; simp
 have tabOk:∀ (H:Hp) (b:Addr),(∃ p∈T,p.1=b)→ObjOk P w H s₁.heap b (.tbl (T.at b)):=fun H b ⟨p,hp,e⟩=>by
  obtain ⟨c,hc,e3⟩:=hT p hp
  rw [e] at e3
  exact ⟨fun y hy z hz h1 h2=>hTo _ (Tbs.mem.mp hy) _ (Tbs.mem.mp hz) h1 h2,#[],e3,trivial,fun y hy=> .inl rfl⟩
 have hne:∀ p∈T,p.1≠a:=fun p hp z=>by
  obtain ⟨c,hc,e3⟩:=hT p hp
  rw [z,ha] at e3
  cases e3
 cases hk:K.lookup a with
 | some o =>
   -- the script is one of the module's own objects
   have e:=KX a o hk
   rw [ha] at e
   cases e
   have hTa:¬ ∃ p∈T,p.1=a:=fun ⟨p,hp,z⟩=>hne p hp z
   have dec:∀ b,Decidable (∃ p∈T,p.1=b):=fun b=>Classical.propDecidable _
   refine core (fun b=>if ∃ p∈T,p.1=b then some (.tbl (T.at b)) else none) ⟨fun p hp=>if_pos ⟨p,hp,rfl⟩,fun b=>?_⟩ (.inr ⟨_,vs.toArray,_,hk,rfl,rfl,rfl,by rw [List.size_toArray,lenV]; exact hl,by simpa using rv⟩) (fun b u z=>?_) (fun b z=>?_) fun z=>absurd (if_neg hTa) z
   · by_cases h:∃ p∈T,p.1=b
     · exact .inr (.inr (if_pos h))
     · exact .inl (if_neg h)
   · by_cases h:∃ p∈T,p.1=b
     · have z':=(if_pos h).symm.trans z
       cases z'
       exact tabOk _ b h
     · have z':=(if_neg h).symm.trans z
       cases z'
   · by_cases h:∃ p∈T,p.1=b
     · exact .inr h
     · exact absurd (if_neg h) z
 | none =>
   have dec:∀ b,Decidable (∃ p∈T,p.1=b):=fun b=>Classical.propDecidable _
   have hTa:∀ {b},(∃ p∈T,p.1=b)→b≠a:=fun ⟨p,hp,z⟩ e=>hne p hp (z.trans e)
   refine core (fun b=>if b=a then some (.frz { cls:= .type "list",data:= .seq vs.toArray } (.lst (ns.map V.int))) else if ∃ p∈T,p.1=b then some (.tbl (T.at b)) else none) ⟨fun p hp=>(if_neg (hne p hp)).trans (if_pos ⟨p,hp,rfl⟩),fun b=>?_⟩ (.inl (.inr ⟨{ cls:= .type "list",data:= .seq vs.toArray },if_pos rfl⟩)) (fun b u z=>?_) (fun b z=>?_) fun _=>hk
   · by_cases hb:b=a
     · exact .inr (.inl ⟨_,_,if_pos hb⟩)
     · by_cases h:∃ p∈T,p.1=b
       · exact .inr (.inr ((if_neg hb).trans (if_pos h)))
       · exact .inl ((if_neg hb).trans (if_neg h))
   · by_cases hb:b=a
     · have z':=(if_pos hb).symm.trans z
       cases z'
       subst hb
       exact ⟨ha,by rw [List.length_map]; exact hl,vs,_,rv,ha⟩
     · by_cases h:∃ p∈T,p.1=b
       · have z':=((if_neg hb).trans (if_pos h)).symm.trans z
         cases z'
         exact tabOk _ b h
       · have z':=((if_neg hb).trans (if_neg h)).symm.trans z
         cases z'
   · by_cases hb:b=a
     · exact .inl hb
     · by_cases h:∃ p∈T,p.1=b
       · exact .inr h
       · exact absurd ((if_neg hb).trans (if_neg h)) z
noncomputable abbrev Tns:=List (Str×Pos×Str)
structure TabsOf (mg:Str→Option Value) (h:Heap) (N:Tns) (T:Tbs):Prop where
 all:∀ n∈N,∃ P,(P,n.2)∈T∧∃ a o fd c,mg n.1=some (.ref a)∧h.get? a=some o∧o.data= .func fd∧fd.code= .ref c∧PySem.W.CodeHd h c P
theorem aJ4 {p:Program} {loose:List Str} {mean:ExcName→Option Value} {mg mb:Str→Option Value} {h:Heap} (Tp:PyProof.Rows.Top p loose mean mg mb h):∀ (N:Tns),(∀ n∈N,n.1∈(PyProof.Rows.recsOf p).map (·.name)) →
 ∃ T:Tbs,TabsOf mg h N T∧(∀ q∈T,∃ c,PySem.W.CodeHd h c q.1∧h.get? q.1=some (PySem.W.tabObj #[]))∧∀ q∈T,∃ n∈N,n.2=q.2
 | [],_=>⟨[],⟨fun _ h=>nomatch h⟩,fun _ h=>(nomatch h),fun _ h=>(nomatch h)⟩
 | n :: N,hN=>by
   obtain ⟨T,h1,h2,h3⟩:=aJ4 Tp N fun m hm=>hN m (List.mem_cons_of_mem _ hm)
   obtain ⟨d,hd,e⟩:=List.mem_map.mp (hN n List.mem_cons_self)
   obtain ⟨a,o,fd,c,P,e1,e2,e3,e4,e5,e6⟩:=Tp.tab d hd
   have hc:=PySem.W.CodeHd.of e5 e6
   refine ⟨(P,n.2) :: T,⟨fun m hm=>?_⟩,fun q hq=>?_,fun q hq=>?_⟩
   · rcases List.mem_cons.mp hm with z | z
     · subst z
       exact ⟨P,List.mem_cons_self,a,o,fd,c,by rw [← e]; exact e1,e2,e3,e4,hc⟩
     · obtain ⟨P',m1,r⟩:=h1.all m z
       exact ⟨P',List.mem_cons_of_mem _ m1,r⟩
   · rcases List.mem_cons.mp hq with z | z
     · subst z
       exact ⟨c,hc,e6.2⟩
     · exact h2 q z
   · rcases List.mem_cons.mp hq with z | z
     · subst z
       exact ⟨n,List.mem_cons_self,rfl⟩
     · obtain ⟨m,hm,e⟩:=h3 q z
       exact ⟨m,List.mem_cons_of_mem _ hm,e⟩
noncomputable def Tns.ok (N:Tns):Prop:=∀ y∈N,∀ z∈N,y.2.1.line=z.2.1.line→y.2.1.col=z.2.1.col→y.2.2=z.2.2
noncomputable def bO4 (K:PySem.W.Frag):Bool:=K.all fun p=>match p.2.cls,p.2.data with
 | .none,.fields vs=>!vs.isEmpty
 | _,_=>true
theorem aD4 {α:Type}:∀ {K:List (Nat×α)} {b:Nat} {o:α},K.lookup b=some o→(b,o)∈K
 | (c,x) :: r,b,o,h=>by
   rw [List.lookup_cons] at h
   by_cases z:b=c
   · subst z
     rw [beq_self_eq_true] at h
     cases h
     exact List.mem_cons_self
   · rw [beq_false_of_ne z] at h
     exact List.mem_cons_of_mem _ (aD4 h)
theorem aG1 {K:PySem.W.Frag} {h:Heap} {b:Addr} (X:K.In h) (hn:bO4 K=true) (e:h.get? b=some (PySem.W.tabObj #[])):K.lookup b=none:=by
 cases q:K.lookup b with
 | none=>rfl
 | some o =>
   have e2:=X b o q
   rw [e] at e2
   cases e2
   have:=List.all_eq_true.mp hn (b,PySem.W.tabObj #[]) (aD4 q)
   cases this
theorem bQ4 {l:PySem.W.OpenLaw} {n k:Nat} {q:Program} {loose:List Str} {XP:(Str→Option Value)→Heap→Prop} {YP:World→Heap→Prop} {d:DefRec} {K:Params→PySem.W.Frag} {CX:World→CXT} {sp:World→Tbs→Sp} {x:Str} (N:Tns)
 (hn:l.most=some n) (hn2:n≤sizeLine) (hdf:d.params.defaults=[]) (hr:Room k callerA)
 (hY:∀ (w:World) (h:Heap),YP w h→(K w.params).In h) (hK:∀ w:World,N≠[]→bO4 (K w.params)=true) (hN:∀ n∈N,n.1∈(PyProof.Rows.recsOf q).map (·.name)) (hNo:Tns.ok N)
 (F:∀ (w:World) (mg:Str→Option Value) (fa:Addr) (h:Heap) (T:Tbs),(K w.params).In h→h.Ns mainGlobals mg→mg d.name=some (.ref fa)→TabsOf mg h N T →
   ∃ fd:FuncData,(∀ (s:Shared) (u:Value),BindsTo s fd ⟨[u],[]⟩ [(x,u)]) ∧
    ∀ base:Heap,(K w.params).In base→base.Ns mainGlobals mg→(∀ c P,PySem.W.CodeHd h c P→PySem.W.CodeHd base c P)→FnOk l.prog w (K w.params) mg base (CX w) k fa fd [x] (sp w T))
 (hsp:∀ (w:World) (T:Tbs) (H:Hp) (a:Addr) (ns:List Int),ns.length≤n→Only T H→SqL (K w.params) H a (ns.map V.int)→sp w T [.ref a] H (fun v _=>v= .bl true) fun _ _ _=>False)
 (hCX:∀ (w:World) (H:Hp) (s:Shared) (e:Value) (s':Shared),CX w [] H s (fun _ _ _=>False) e s'→False) :
 PySem.W.WalkO q loose XP YP l.row.toRowW d [] (fun f vs=>PySem.call f vs):=by
 refine Att.aW8 hn hdf fun w s₀ s₁ mg mb fa o pm cd doc a vs ns G Y ho hd hcd hmg hobj hints hlen hg=>?_
 have KX:=hY w _ Y
 obtain ⟨T,hT1,hT2,hT3⟩:=aJ4 G.T N hN
 obtain ⟨fd,hb,hF⟩:=F w mg fa _ T KX G.T.g hmg hT1
 refine bF6 (T:=T) KX G.T.g G.T.b G.T.builtins G.T.nolimit hg G.T.bmain hT2 (fun p hp=>?_) (fun y hy z hz h1 h2=>?_) hobj hints (Nat.le_trans hlen hn2) hr hF hb (fun H hO hS=>hsp w T H a ns hlen hO hS) fun H e s'=>hCX w H s₁ e s'
 · obtain ⟨c,_,e⟩:=hT2 p hp
   obtain ⟨m,hm,_⟩:=hT3 p hp
   exact aG1 KX (hK w (fun z=>by rw [z] at hm; cases hm)) e
 · obtain ⟨m1,hm1,e1⟩:=hT3 y hy
   obtain ⟨m2,hm2,e2⟩:=hT3 z hz
   rw [← e1,← e2]
   exact hNo m1 hm1 m2 hm2 (by rw [e1]; exact h1 |>.trans (by rw [e2])) (by rw [e1]; exact h2 |>.trans (by rw [e2]))
noncomputable def ah1 (s:Stmt) (j:Nat):Stmt:=match s with
 | .ClassDef _ _ _ body _ _ _ _ _ _ _=>body.getD j (.Pass ⟨0,0,0,0⟩)
 | _=> .Pass ⟨0,0,0,0⟩
noncomputable def az8 (s:Stmt):Arguments:=match s with
 | .FunctionDef _ a _ _ _ _ _ _ _ _=>a
 | _=>{ posonlyargs:=[],args:=[],vararg:=none,kwonlyargs:=[],kw_defaults:=[],kwarg:=none,defaults:=[] }
noncomputable def ai3 (s:Stmt):List Stmt:=match s with
 | .FunctionDef _ _ b _ _ _ _ _ _ _=>b
 | _=>[]
noncomputable def aa4 (s:Stmt):Scope:=match s with
 | .FunctionDef _ _ _ _ _ _ sc _ _ _=>sc
 | _=>{ kind:= .function,names:=[],isGenerator:=false,isCoroutine:=false }
noncomputable abbrev CX0:CXT:=fun _ _ _ _ _ _=>False
noncomputable abbrev E0:XK:=fun _ _ _=>False
theorem ad1 {X:Cx}:aB9 CX0 X E0:=fun _ _ _ _ _ _ _ h=>h.elim
structure Fun (K:PySem.W.Frag) (x qual:Str) (st:Stmt) (f:Addr) (fd:FuncData):Prop where
 ex:∃ (oc:Value) (od:Option Addr) (kV doc pm:Value) (an:Option Addr) (cdv ct:Value) (osl:Array (Option Value)),
  fd=PySem.W.fnOf x qual (az8 st) (ai3 st) (aa4 st) .none kV doc pm an cdv ct∧K.lookup f=some ⟨oc,od,.func fd,osl⟩∧PySem.W.codeIn K cdv qual=true
 kp:PySem.W.keepIn K (.ref f)=true
section
variable {P:Program} {w:World} {K:PySem.W.Frag} {mg:Str→Option Value} {base:Heap}
theorem Fun.ok {x qual:Str} {st:Stmt} {f:Addr} {fd:FuncData} {N ps:List Str} {k:Nat} {sp:Sp} (F:Fun K x qual st f fd) (S:FnScope N ps (aa4 st)) (len:∀ vs H Q E,sp vs H Q E→vs.length=ps.length)
 (hbody:∀ (cdv:Value) (A:Around) (outer:List Env) (s:Shared) (H:Hp) (vs:List V) (Q:VK) (E:XK),Room k (A.deeper (envOfC qual (aa4 st) s.heap.objs.size f cdv))→sp vs H Q E →
   ∃ t,PSs (cxOf CX0 P w K mg base N qual (aa4 st) f cdv A outer s H E).nox (ai3 st) t∧t { nx:=fun _ H'=>Q .non H',rt:=Q } (av6 N vs) H):FnOk P w K mg base CX0 (k + 1) f fd ps sp:=by
 obtain ⟨oc,od,kV,doc,pm,an,cdv,ct,osl,rfl,lk,hcd⟩:=F.ex
 refine fn_of lk hcd S len fun A outer s H vs Q E hr hsp=>?_
 obtain ⟨t,h,q⟩:=hbody cdv A outer s H vs Q E hr hsp
 exact ⟨t,h.nox,q⟩
theorem Fun.binds {x qual:Str} {st:Stmt} {f:Addr} {fd:FuncData} {ps:List Str} (F:Fun K x qual st f fd)
 (h:∀ (kV doc pm:Value) (an:Option Addr) (cdv ct:Value) (us:List Value),us.length=ps.length→bindArgs (PySem.W.fnOf x qual (az8 st) (ai3 st) (aa4 st) .none kV doc pm an cdv ct) ⟨us,[]⟩=pure (ps.zip us)):Binds K fd ps []:=by
 obtain ⟨oc,od,kV,doc,pm,an,cdv,ct,osl,rfl,lk,hcd⟩:=F.ex
 exact .all (h kV doc pm an cdv ct)
theorem cw2 {x qual:Str} {st:Stmt} {f:Addr} {oc:Value} {od an:Option Addr} {osl:Array (Option Value)} {kV doc pm cdv ct:Value} (l:K.lookup f=some ⟨oc,od,.func (PySem.W.fnOf x qual (az8 st) (ai3 st) (aa4 st) .none kV doc pm an cdv ct),osl⟩)
 (c:PySem.W.codeIn K cdv qual=true) (k:PySem.W.keepIn K (.ref f)=true):Fun K x qual st f (PySem.W.fnOf x qual (az8 st) (ai3 st) (aa4 st) .none kV doc pm an cdv ct):=⟨⟨oc,od,kV,doc,pm,an,cdv,ct,osl,rfl,l,c⟩,k⟩
end
theorem aS6 {A:Around} {k:Nat} (hr:Room k A):A.units + 1 < cLine:=Nat.lt_of_le_of_lt (Nat.add_le_add_left (by decide:1≤64) _) hr.units
section
variable {X:Cx}
theorem pv (i:Nat) {x:Str} {pos:Pos} (hN:X.N[i]?=some x:=by rfl) (hv:Vis X.env.scope x:=by first | exact Or.inl rfl | exact Or.inr (Or.inl rfl) | exact Or.inr (Or.inr rfl)) (hd:(x == ("__debug__" : Str))=false:=by decide)
 (hcd:(x == ("__classdict__" : Str))=false:=by decide):PE X (.Name x pos) (tVar i):=cn8 hN hv hd hcd
end
noncomputable def Same (H H':Hp):Prop:=∀ b o,H b=some o→H' b=some o
theorem Same.refl (H:Hp):Same H H:=fun _ _ h=>h
theorem Same.trans {H H1 H2:Hp} (a:Same H H1) (b:Same H1 H2):Same H H2:=fun c o h=>b c o (a c o h)
theorem Same.free {H H':Hp} (e:Same H H') {l:Addr} (h:H' l=Option.none):H l=Option.none:=by
 cases q:H l with
 | none=>rfl
 | some o =>
   rw [e l o q] at h
   cases h
theorem Same.seq {K:PySem.W.Frag} {H H':Hp} {a:Addr} {xs:List V} (e:Same H H') (h:SqL K H a xs):SqL K H' a xs:=by
 rcases h with (h | ⟨o,h⟩) | h
 · exact .inl (.inl (e _ _ h))
 · exact .inl (.inr ⟨o,e _ _ h⟩)
 · exact .inr h
noncomputable def af5 (env:Env):List (Str×NameKind)→List (Str×Addr)→List (Str×Addr)
 | [],acc=>acc
 | (n,k) :: r,acc=>if (k == NameKind.free)=true then af5 env r ((n,(env.cells.lookup n).getD 0) :: acc) else af5 env r acc
theorem ao6 {env:Env} {y:Str} {c:Addr}:∀ {l:List (Str×NameKind)} {acc:List (Str×Addr)},(∀ z∈l,z.2= .free→∃ c,env.cells.lookup z.1=some c)→(af5 env l acc).lookup y=some c →
 acc.lookup y=some c∨env.cells.lookup y=some c
 | [],acc,_,h=> .inl h
 | (n,k) :: r,acc,hh,h=>by
   unfold af5 at h
   split at h
   · rename_i hk
     rcases ao6 (fun z hz=>hh z (List.mem_cons_of_mem _ hz)) h with e | e
     · by_cases q:(y == n)=true
       · have e':y=n:=by simpa using q
         subst e'
         obtain ⟨c',hc⟩:=hh (y,k) List.mem_cons_self (by simpa using hk)
         dsimp only at hc
         rw [List.lookup_cons,beq_self_eq_true,hc] at e
         exact .inr (hc.trans e)
       · rw [Bool.not_eq_true] at q
         rw [List.lookup_cons,q] at e
         exact .inl e
     · exact .inr e
   · exact ao6 (fun z hz=>hh z (List.mem_cons_of_mem _ hz)) h
theorem ao7 {env:Env} {y:Str}:∀ {l:List (Str×NameKind)} {acc:List (Str×Addr)},((y,NameKind.free)∈l∨∃ c,acc.lookup y=some c)→∃ c,(af5 env l acc).lookup y=some c
 | [],acc,h=>by
   rcases h with h | h
   · cases h
   · exact h
 | (n,k) :: r,acc,h=>by
   unfold af5
   split
   · rename_i hk
     refine ao7 ?_
     by_cases q:(y == n)=true
     · exact .inr ⟨_,by rw [List.lookup_cons,q]⟩
     · rw [Bool.not_eq_true] at q
       rcases h with h | ⟨c,h⟩
       · rcases List.mem_cons.mp h with e | e
         · cases e
           rw [beq_self_eq_true] at q
           cases q
         · exact .inl e
       · exact .inr ⟨c,by rw [List.lookup_cons,q]; exact h⟩
   · rename_i hk
     refine ao7 ?_
     rcases h with h | h
     · rcases List.mem_cons.mp h with e | e
       · cases e
         exact absurd (by rfl) hk
       · exact .inl e
     · exact .inr h
theorem ap6 {scope:Scope} {env:Env} {y:Str} {k:NameKind} (h:(relabel scope env).names.lookup y=some k):∃ k',(y,k')∈scope.names∧(k'=k∨(k'= .free∧k= .cell)):=by
 obtain ⟨⟨n,k0⟩,hm,e⟩:=List.mem_map.mp (PySem.mem_of_lookup h)
 dsimp only at e
 split at e
 · rename_i hc
   simp only [Bool.and_eq_true,beq_iff_eq] at hc
   cases e
   exact ⟨k0,hm,.inr ⟨hc.1.1,rfl⟩⟩
 · cases e
   exact ⟨_,hm,.inl rfl⟩
structure CompSc (osc sc:Scope) (x:Str) (cs:List Str):Prop where
 kind:sc.kind= .function
 cell:∀ y∈sc.names,y.2≠ .cell
 loc:∀ y∈sc.names,y.2= .local→sc.names.lookup y.1=some .local
 var:sc.names.lookup x=some .local
 cap:∀ y∈cs,(osc.names.lookup y=some .cell∨osc.names.lookup y=some .free)∧sc.names.lookup y=some .free
 free:∀ y∈sc.names,y.2= .free→osc.names.lookup y.1=some .cell∨osc.names.lookup y.1=some .free
 nd:(x :: cs).Nodup
noncomputable def av5 (X:Cx) (scope:Scope) (cl:List (Str×Addr)) (C:Addr) (N:List Str) (fp:List Addr) (s₀:Shared) (H₀:Hp):Cx where
 prog:=X.prog
 w:=X.w
 K:=X.K
 mg:=X.mg
 base:=X.base
 A:=X.A
 N:=N
 s₀:=s₀
 H₀:=H₀
 env:=compEnvC scope cl C X.env
 outer:=X.stack
 stack:=X.stack
 ex:=fp
 fn:=fun _=>false
 calm:=X.calm
 pn:=[]
 xe:=fun _ _=>False
noncomputable def capV (σ:St) (ix:List Nat):St:=ix.map fun j=>(σ[j]?).join
section
variable {X:Cx} {pins:List (Addr×Obj)} {σ:St} {H:Hp} {s:Shared} {scope:Scope} {x:Str} {cs:List Str} {ix:List Nat} {fp:List Addr}
theorem bc0 (I:Inv X pins σ H s) (hsc:CompSc X.env.scope scope x cs):∀ y∈scope.names,y.2= .free→∃ c,X.env.cells.lookup y.1=some c:=fun y hy hk=>I.ok.has _ (hsc.free y hy hk)
theorem bF9 {h₁:Heap} {t₁:Nat} {m0:Str→Option Value} (I:Inv X pins σ H s) (hsc:CompSc X.env.scope scope x cs) (hix:ix.map (fun i=>X.N[i]?)=cs.map some) (hf:∀ b∈fp,FpOk X pins H b)
 (hlt:∀ b∈fp,b < s.heap.objs.size) (hn:h₁.Ns s.heap.objs.size m0) (hk:∀ b o,s.heap.get? b=some o→h₁.get? b=some o) :
 Inv (av5 X scope (af5 X.env scope.names []) s.heap.objs.size (x :: cs) fp s H) [] (none :: capV σ ix) H { s with heap:=h₁,toks:=t₁ }:=by
 have cin:=bc0 I hsc
 have old:∀ y c,(af5 X.env scope.names []).lookup y=some c→X.env.cells.lookup y=some c:=fun y c e=>by
  rcases ao6 cin e with z | z
  · cases z
  · exact z
 have lenix:ix.length=cs.length:=by
  have:=congrArg List.length hix
  rwa [List.length_map,List.length_map] at this
 refine ⟨⟨I.ok.mod,hsc.kind,I.ok.glob,I.ok.blt,Nat.le_refl _,fun y z c h1 h2=>I.ok.inj y z c (old y c h1) (old z c h2),fun y hy=>?_,fun y c h=>(nomatch h),I.ok.hd,I.ok.frames,.inl rfl,fun b hb=>⟨Nat.ne_of_lt (hlt b hb),fun y c e=>(hf b hb).2.2.2.2.1 y c (old y c e)⟩,
  I.bs,Nat.le_trans I.ok.bsz I.sz,fun b o e hb=>?_,fun b hb hb'=>?_,I.stack,I.stkFree⟩,rfl,I.bare,Un.kept hk,⟨m0,hn,fun i y v h1 h2 h3=>?_⟩,fun y c e=>?_,I.hok.fresh (Nat.le_refl _),fun y c e=>I.freeC y c (old y c e),fun p hp=>absurd (show p∈([]:List (Addr×Obj)) from hp) (by simp),I.hok.kept hk,?_⟩
 · have hy':(relabel scope X.env).names.lookup y=some .cell∨(relabel scope X.env).names.lookup y=some .free:=hy
   have:(y,NameKind.free)∈scope.names:=by
    rcases hy' with q | q
    · obtain ⟨k',hm,e | ⟨e,_⟩⟩:=ap6 q
      · subst e
        exact absurd rfl (hsc.cell _ hm)
      · subst e
        exact hm
    · obtain ⟨k',hm,e | ⟨_,e⟩⟩:=ap6 q
      · subst e
        exact hm
      · cases e
   exact ao7 (.inl this)
 · rcases (hf b hb).2.2.2.1 with z | z
   · exact I.ok.noex b o e z
   · exact absurd (Nat.lt_of_lt_of_le (Heap.lt_size e) (Nat.le_trans I.ok.bsz z)) (Nat.lt_irrefl _)
 · rcases List.mem_cons.mp (I.stkSub b hb') with z | z
   · exact (hf b hb).2.1 z
   · exact (hf b hb).2.2.1 z
 · -- a captured name
   cases i with
   | zero =>
     have:(none :: capV σ ix:St)[0]?=some none:=rfl
     rw [this] at h2
     cases h2
   | succ j =>
     have h1':cs[j]?=some y:=h1
     have h2':(capV σ ix)[j]?=some (some v):=h2
     unfold capV at h2'
     rw [List.getElem?_map] at h2'
     cases ej:ix[j]? with
     | none=>rw [ej] at h2'; cases h2'
     | some k =>
       rw [ej] at h2'
       have h4:(σ[k]?).join=some v:=Option.some.inj h2'
       have h5:σ[k]?=some (some v):=by
        cases e:σ[k]? with
        | none=>rw [e] at h4; cases h4
        | some w=>rw [e] at h4; exact congrArg some h4
       have h6:X.N[k]?=some y:=by
        have q:=congrArg (fun l=>l[j]?) hix
        simp only [List.getElem?_map,ej,h1',Option.map_some] at q
        exact Option.some.inj q
       obtain ⟨c1,c2⟩:=hsc.cap y (List.mem_of_getElem? h1')
       obtain ⟨m,hn',hl⟩:=I.loc
       obtain ⟨u,r,l⟩:=hl k y v h6 h5 (c1.elim (fun z=> .inr (.inl z)) fun z=> .inr (.inr z))
       refine ⟨u,r,?_⟩
       rcases l with ⟨l,_⟩ | ⟨_,c,ec,hc⟩
       · have l':X.env.scope.names.lookup y=some .local:=l
         rcases c1 with z | z <;> (rw [z] at l'; cases l')
       · obtain ⟨c',ec'⟩:=ao7 (env:=X.env) (y:=y) (l:=scope.names) (acc:=[]) (.inl (PySem.mem_of_lookup c2))
         have e':=old y c' ec'
         rw [ec] at e'
         cases e'
         refine .inr ⟨?_,c,ec',?_⟩
         · rcases h3 with z | z | z
           · have z':(relabel scope X.env).names.lookup y=some .local:=z
             obtain ⟨k',hm,e | ⟨_,e⟩⟩:=ap6 z'
             · subst e
               have:=hsc.loc _ hm rfl
               dsimp only at this
               rw [c2] at this
               cases this
             · cases e
           · exact .inl z
           · exact .inr z
         · obtain ⟨o,ho,hd⟩:=hc
           exact ⟨o,hk c o ho,hd⟩
 · obtain ⟨v,o,ho,hd⟩:=I.cell y c (old y c e)
   exact ⟨v,o,hk c o ho,hd⟩
 · show (none :: capV σ ix:St).length=(x :: cs).length
   rw [List.length_cons,List.length_cons,capV,List.length_map,lenix]
end
noncomputable def PTs (X:Cx) (ifs:List Expr) (t:TT):Prop :=
 ∀ (pins:List (Addr×Obj)) (s:Shared) (σ:St) (H:Hp) (Q:Bool→Hp→Prop),Inv X pins σ H s→t σ H Q →
  wpAny (model X.prog X.w) X.A (forIn ifs true fun c r=>if r=true then do let ok ← isTrue c X.env (eval c X.env); pure (ForInStep.yield ok) else pure (ForInStep.yield r)) (TP X pins σ Q) X.xe s
noncomputable def tYes:TT:=fun _ H Q=>Q true H
theorem al4 {X:Cx}:PTs X [] tYes:=fun _ _ _ H _ I h=>wpAny_tests_nil ⟨H,I,h⟩
theorem bl7 {X:Cx} {c:Expr} {t:TT} (h:PT X c t):PTs X [c] t:=fun pins s σ H Q I hq=>wpAny_tests_one (h pins s σ H Q I hq)
section
variable {prog:Program} {w:World} {A:Around} {R:Result→Shared→Prop} {s:Shared}
theorem aW4 {elt target iter:Expr} {ifs:List Expr} {scope:Scope} {pos:Pos} {it acc:Value} {env:Env} (I:Nat→Shared→Prop)
 (turn:∀ n s,I n s→wpAny (model prog w) A (pyNext it) (fun r s₁=>match r with
   | none=>R (.ok .next) s₁
   | some v=>wpAny (model prog w) A (letOwnedTupleGo target it v) (fun _ s₁=>wpAny (model prog w) A (assign target env v) (fun _ s₂ =>
      wpAny (model prog w) A (forIn ifs true fun c r=>if r=true then do let ok ← isTrue c env (eval c env); pure (ForInStep.yield ok) else pure (ForInStep.yield r)) (fun ok s₃ =>
       if ok=true then wpAny (model prog w) A (eval elt env) (fun x s₄ =>
        wpAny (model prog w) A (call (.builtin "list.append") [acc,x]) (fun _ s₅=>∃ m,m < n∧I m s₅) (fun _ _=>False) s₄) (fun _ _=>False) s₃
       else ∃ m,m < n∧I m s₃) (fun _ _=>False) s₂) (fun _ _=>False) s₁) (fun _ _=>False) s₁) (fun _ _=>False) s)
 (n:Nat) (h:I n s):codeAny (model prog w) A (.compLoop (.ListComp elt [⟨target,iter,ifs,0⟩] scope pos) 0 it acc env) R s:=by
 refine codeAny_loop rfl I (fun n s hI=>?_) n h
 have up:∀ {α:Type} {t:Sem α} {Q:α→Shared→Prop} {E:Value→Shared→Prop} {s:Shared},wpAny (model prog w) A t Q (fun _ _=>False) s→wpAny (model prog w) A t Q E s:=fun h=>wpAny_mono h (fun _ _ z=>z) fun _ _ z=>z.elim
 show wpAny _ A ((compTurn (.ListComp elt [⟨target,iter,ifs,0⟩] scope pos) 0 it acc env).onRaise _) _ _ s
 refine wpAny_noted (up ?_)
 rw [compTurn_list]
 refine wpAny_bind (wpAny_standAt (wpAny_bind (thn (turn n s hI) fun r s₁ h₁=>?_)))
 cases r with
 | none=>exact wpAny_pure h₁
 | some v =>
   refine wpAny_bind (thn h₁ fun _ s₁' h₁'=>wpAny_bind (thn h₁' fun _ s₂ h₂=>wpAny_bind (thn h₂ fun ok s₃ h₃=>?_)))
   cases ok with
   | false=>exact wpAny_pure ⟨rfl,h₃⟩
   | true=>exact wpAny_bind (wpAny_bind (thn h₃ fun x s₄ h₄=>wpAny_bind (thn h₄ fun _ s₅ h₅=>wpAny_pure (wpAny_pure ⟨rfl,h₅⟩))))
end
noncomputable def cA3 (J:It) (τ:V→St) (ti:TT) (te:TE) (p:Addr) (H1:Hp) (Q:VK):Prop :=
 ∃ W:Nat→Nat→List V→Hp→Prop,(∃ m,W 0 m [] (upd H1 p (.lst [])))∧∀ i m ys H2,W i m ys H2→H2 p=some (.lst ys)∧ys.length < sizeLine ∧
  ((J.stop i H2∧Q (.ref p) H2)∨(J.go i H2∧∀ v H3,J.yld i H2 v H3→ti (τ v) H3 fun b H4=>if b=true then te (τ v) H4 fun y H5=>H5 p=some (.lst ys)∧∃ m',m' < m∧W (i + 1) m' (ys ++ [y]) (upd H5 p (.lst (ys ++ [y])))
    else ∃ m',m' < m∧W (i + 1) m' ys H4))
noncomputable def bc8 (wi:TI) (ix:List Nat) (ti:TT) (te:TE):TE:=fun σ H Q=>wi σ H fun J H1=>∀ p,H1 p=none→cA3 J (fun v=>some v :: capV σ ix) ti te p H1 Q
section
variable {X:Cx} {pins:List (Addr×Obj)} {σ:St} {H:Hp} {s:Shared} {scope:Scope} {x:Str} {px pos:Pos} {cs:List Str} {ix:List Nat} {fp:List Addr} {elt iter:Expr} {ifs:List Expr} {ti:TT} {te:TE}
theorem aE3 {J:It} {it:Addr} {tn:Nat→Heap→Prop} {Qe:VK} {RR:Value→Addr→Result→Shared→Prop} {E:Value→Shared→Prop} (hcalm:X.calm=true) (I2:Inv X pins σ H s) (hsc:CompSc X.env.scope scope x cs) (hix:ix.map (fun i=>X.N[i]?)=cs.map some)
 (T:Turn X.prog X.w X.K (.Name x px) J fp it tn) (st0:tn 0 s.heap) (hf:∀ b∈fp,FpOk X pins H b)
 (hti:∀ C fp s₀ H₀,PTs (av5 X scope (af5 X.env scope.names []) C (x :: cs) fp s₀ H₀) ifs ti) (hte:∀ C fp s₀ H₀,PE (av5 X scope (af5 X.env scope.names []) C (x :: cs) fp s₀ H₀) elt te)
 (hW:∀ p,H p=none→cA3 J (fun v=>some v :: capV σ ix) ti te p H Qe)
 (hRR:∀ p C H' s',Inv X pins σ H' s'→FpOk X pins H' C→(∃ m,s'.heap.Ns C m)→Qe (.ref p) H'→RR (.ref p) C (.ok .next) s') :
 wpAny (model X.prog X.w) X.A (newList []) (fun acc s₃=>wpAny (model X.prog X.w) X.A (newFunctionEnv scope X.env.globals (af5 X.env scope.names []) [] X.env.qual none .none (some X.env)) (fun cenv s₄ =>
  codeAny (model X.prog X.w) X.A (.compStart (.ListComp elt [⟨.Name x px,iter,ifs,0⟩] scope pos) 0 (.ref it) acc { cenv with scope:=relabel scope X.env }) (RR acc cenv.locals) s₄) E s₃) E s:=by
 refine wpAny_newObj_type (wpAny_newFunctionEnv hsc.cell (by intro y hy; simp at hy) (fun h₁ hns₁ hsb₁=>?_) hsc.kind)
 dsimp only at hns₁ hsb₁ ⊢
 have hD:H s.heap.objs.size=none:=I2.hok.fresh (Nat.le_refl _)
 have I3:Inv X pins σ (upd H s.heap.objs.size (.lst [])) { s with heap:=s.heap.push { cls:= .type "list",dict:=none,data:= .seq ([]:List Value).toArray } } :=
  I2.laid (t':=s.toks) (fun b u e=>Heap.get?_push_of_some _ e) (Nat.le_refl _) ⟨Nat.zero_le _,[],0,.nil,Heap.get?_push_size _ rfl⟩
 obtain ⟨W,⟨m0,w0⟩,turn⟩:=hW _ hD
 have hlt0:∀ b∈fp,b < s.heap.objs.size:=fun b hb=>by
  obtain ⟨o,e,_⟩:=T.obj 0 _ st0 b hb
  exact Heap.lt_size e
 have hlt:∀ b∈fp,b < (s.heap.push { cls:= .type "list",dict:=none,data:= .seq ([]:List Value).toArray }).objs.size:=fun b hb=>by
  rw [Heap.size_push]
  exact Nat.lt_succ_of_lt (hlt0 b hb)
 have hf3:∀ b∈fp,FpOk X pins (upd H s.heap.objs.size (.lst [])) b:=fun b hb=>⟨by rw [ac3 (Nat.ne_of_lt (hlt0 b hb))]; exact (hf b hb).1,(hf b hb).2⟩
 have kept:∀ b o,(s.heap.push { cls:= .type "list",dict:=none,data:= .seq ([]:List Value).toArray }).get? b=some o→h₁.get? b=some o:=fun b o e =>
  hsb₁.extBut b o (Nat.ne_of_lt (Heap.lt_size e)) (Heap.get?_push_of_some _ e)
 have kept0:∀ b o,s.heap.get? b=some o→h₁.get? b=some o:=fun b o e=>kept b o (Heap.get?_push_of_some _ e)
 have I4:=bF9 (t₁:=s.toks + ([]:List (Str×Value)).length) I3 hsc hix hf3 hlt hns₁ kept
 have st4:tn 0 h₁:=T.keep 0 _ _ st0 fun b _ o e=>kept0 b o e
 have loop:codeAny (model X.prog X.w) X.A (.compLoop (.ListComp elt [⟨.Name x px,iter,ifs,0⟩] scope pos) 0 (.ref it) (.ref s.heap.objs.size) (compEnvC scope (af5 X.env scope.names []) (s.heap.push { cls:= .type "list",dict:=none,data:= .seq ([]:List Value).toArray }).objs.size X.env))
  (RR (.ref s.heap.objs.size) (s.heap.push { cls:= .type "list",dict:=none,data:= .seq ([]:List Value).toArray }).objs.size) { s with heap:=h₁,toks:=s.toks + ([]:List (Str×Value)).length }:=by
  generalize hY:av5 X scope (af5 X.env scope.names []) (s.heap.push { cls:= .type "list",dict:=none,data:= .seq ([]:List Value).toArray }).objs.size (x :: cs) fp { s with heap:=s.heap.push { cls:= .type "list",dict:=none,data:= .seq ([]:List Value).toArray } } (upd H s.heap.objs.size (.lst []))=Y at I4
  have hti':PTs Y ifs ti:=by rw [← hY]; exact hti _ _ _ _
  have hte':PE Y elt te:=by rw [← hY]; exact hte _ _ _ _
  have hcY:Y.calm=true:=by rw [← hY]; exact hcalm
  have hg:PG Y (.Name x px) (az3 0):=by
   rw [← hY]
   exact ai7 hsc.nd rfl (.inl (lookup_relabel_local hsc.var)) (.inr (lookup_relabel_local hsc.var))
  have f4:∀ {H':Hp},(∀ b∈fp,H' b=none)→∀ b∈fp,FpOk Y [] H' b:=fun {H'} hn b hb=>by
   rw [← hY]
   refine ⟨hn b hb,Nat.ne_of_lt (hlt b hb),fun z=>?_,.inl hb,fun y c e z=>?_,fun p hp=>absurd (show p∈([]:List (Addr×Obj)) from hp) (by simp)⟩
   · rcases List.mem_cons.mp (I3.stkSub b z) with q | q
     · exact (hf b hb).2.1 q
     · exact (hf b hb).2.2.1 q
   · rcases ao6 (bc0 I2 hsc) e with q | q
     · cases q
     · exact (hf b hb).2.2.2.2.1 y c q z
  have fin:∀ {vo:Option V} {H':Hp} {s':Shared},Inv Y [] (vo :: capV σ ix) H' s'→Qe (.ref s.heap.objs.size) H'→RR (.ref s.heap.objs.size) (s.heap.push { cls:= .type "list",dict:=none,data:= .seq ([]:List Value).toArray }).objs.size (.ok .next) s':=fun {vo H' s'} J q=>by
   rw [← hY] at J
   have Ix:Inv X pins σ H' s':=I3.call' (ch:=fp) J.os J.base J.hok J.bare fun b hb=>⟨(hf b hb).2.2.2.1,(hf b hb).2.1,(hf b hb).2.2.2.2.1,(hf b hb).2.2.2.2.2⟩
   refine hRR _ _ H' s' Ix (I3.fpOk (Nat.le_refl _) J.free) ?_ q
   obtain ⟨m,hm,_⟩:=J.loc
   exact ⟨m,hm⟩
  have eY:compEnvC scope (af5 X.env scope.names []) (s.heap.push { cls:= .type "list",dict:=none,data:= .seq ([]:List Value).toArray }).objs.size X.env=Y.env:=by rw [← hY]; rfl
  have eP:X.prog=Y.prog:=by rw [← hY]; rfl
  have eW:X.w=Y.w:=by rw [← hY]; rfl
  have eK:X.K=Y.K:=by rw [← hY]; rfl
  have eA:X.A=Y.A:=by rw [← hY]; rfl
  have eX:Y.xe=fun _ _=>False:=by rw [← hY]; rfl
  rw [eP,eW,eK] at T
  rw [eY,eP,eW,eA]
  refine aW4 (fun n s'=>∃ i ys vo H',Inv Y [] (vo :: capV σ ix) H' s'∧tn i s'.heap∧(∀ b∈fp,H' b=none)∧W i n ys H') ?_ m0 ⟨0,[],none,_,I4,st4,fun b hb=>(hf3 b hb).1,w0⟩
  rintro n s' ⟨i,ys,vo,H',I',st',fr',w'⟩
  obtain ⟨hp,hlen,ways⟩:=turn i n ys H' w'
  rcases ways with ⟨stop,q⟩ | ⟨go,step⟩
  · refine thn (T.done Y rfl rfl rfl hcY i [] s' (vo :: capV σ ix) H' (fun _ _=>False) I' (f4 fr') st' stop) fun r s1 ⟨hr,I1⟩=>?_
    subst hr
    exact fin I1 q
  · refine thn (T.item Y rfl rfl rfl hcY i [] s' (vo :: capV σ ix) H' (fun _ _=>False) I' (f4 fr') st' go) fun r s1 ⟨u,hr,h4⟩=>?_
    subst hr
    refine thn h4 fun _ s2 ⟨v,H2,J2,r2,y2,st2,fr2⟩=>?_
    have J2p:=J2.pinned (f4 fr2) (T.obj _ _ st2)
    have again:∀ {σ':St} {H7:Hp} {s7:Shared},Inv Y ([] ++ aL1 fp s2.heap) σ' H7 s7→tn (i + 1) s7.heap∧∀ b∈fp,H7 b=none:=fun {σ' H7 s7} I7=>by
     refine ⟨T.keep _ _ _ st2 fun b hb o e=>(I7.pin (b,o) (List.mem_append_right _ (List.mem_append_right _ (ao1 hb e)))).1,fun b hb=>?_⟩
     obtain ⟨o,e,d⟩:=T.obj _ _ st2 b hb
     exact (I7.pin (b,o) (List.mem_append_right _ (List.mem_append_right _ (ao1 hb e)))).2.1
    have hga:=hg _ s2 (vo :: capV σ ix) H2 v u (fun σ' H'=>σ'=some v :: capV σ ix∧H'=H2) J2p r2 ⟨rfl,rfl⟩
    rw [eX] at hga
    refine thn hga fun _ s3 ⟨σ3,H3,J3,e3,e3'⟩=>?_
    subst e3 e3'
    have htt:=hti' _ s3 _ H3 _ J3 (step v H3 y2)
    rw [eX] at htt
    refine thn htt fun b s4 ⟨H4,J4,q4⟩=>?_
    cases b with
    | false =>
      rw [if_neg Bool.false_ne_true] at q4 ⊢
      obtain ⟨m',hm,w4⟩:=q4
      exact ⟨m',hm,i + 1,ys,some v,H4,J4.unpinned,(again J4).1,(again J4).2,w4⟩
    | true =>
      rw [if_pos rfl] at q4 ⊢
      have hee:=hte' _ s4 _ H4 _ J4 q4
      rw [eX] at hee
      refine thn hee fun y s5 ⟨yv,H5,J5,r5,hp5,m',hm,w5⟩=>?_
      have hap:=ar0 (X:=Y) _ s5 _ H5 (.ref s.heap.objs.size) [yv] (.ref s.heap.objs.size) [y] (fun _ H6=>H6=upd H5 s.heap.objs.size (.lst (ys ++ [yv]))) J5 rfl (.cons r5 .nil) ⟨_,ys,yv,rfl,rfl,hp5,hlen,rfl⟩
      rw [eX] at hap
      refine thn hap fun _ s6 ⟨_,H6,J6,_,e6⟩=>?_
      subst e6
      exact ⟨m',hm,i + 1,ys ++ [yv],some v,_,J6.unpinned,(again J6).1,(again J6).2,w5⟩
 exact codeAny_compStart_list loop (T.self _ 0 _ _ _ st4 loop)
theorem an1 {wi:TI} (hcalm:X.calm=true) (hi:PI X (.Name x px) iter wi) (hsc:CompSc X.env.scope scope x cs) (hix:ix.map (fun i=>X.N[i]?)=cs.map some)
 (hti:∀ C fp s₀ H₀,PTs (av5 X scope (af5 X.env scope.names []) C (x :: cs) fp s₀ H₀) ifs ti) (hte:∀ C fp s₀ H₀,PE (av5 X scope (af5 X.env scope.names []) C (x :: cs) fp s₀ H₀) elt te)
 (hcl:closureFor scope X.env=pure (af5 X.env scope.names []):=by rfl) (hs:∀ x,foldedSetIterable iter X.env x=pure x:=by intro _; rfl) :
 PE X (.ListComp elt [⟨.Name x px,iter,ifs,0⟩] scope pos) (bc8 wi ix ti te):=by
 intro pins s σ H Q I h
 rw [eval_ListComp]
 refine wpAny_comprehension_free (use:=none) rfl hs hcl hsc.kind hsc.loc (thn (hi pins s σ H _ I h) fun v s1 h1=>thn h1 fun itv s2 h2=>?_)
 obtain ⟨it,fp,tn,J,H2,e,I2,T,st2,f2,hW⟩:=h2
 subst e
 refine aE3 (RR:=fun acc C=>compPost (model X.prog X.w) X.A X.xe none (EP X pins σ Q) acc C) hcalm I2 hsc hix T st2 f2 hti hte hW ?_
 rintro p C H' s' I' ⟨f0,f1,_,f3,f4,f5⟩ ⟨m,hm⟩ q
 exact ⟨m,hm,fun h' hs'=>⟨.ref p,H',I'.turned (t':=s'.toks) (fun b o hb e=>hs'.extBut b o hb e) f0 f1 f3 f4 f5,rfl,q⟩⟩
theorem as5 {wi:TI} {y:Str} {py spos:Pos} {i:Nat} (hcalm:X.calm=true) (hN:X.N.Nodup) (hi':X.N[i]?=some y) (hy:Loc X.env.scope y) (hi:PI X (.Name x px) iter wi) (hsc:CompSc X.env.scope scope x cs) (hix:ix.map (fun i=>X.N[i]?)=cs.map some)
 (hti:∀ C fp s₀ H₀,PTs (av5 X scope (af5 X.env scope.names []) C (x :: cs) fp s₀ H₀) ifs ti) (hte:∀ C fp s₀ H₀,PE (av5 X scope (af5 X.env scope.names []) C (x :: cs) fp s₀ H₀) elt te)
 (hsw:swapsWith (.ListComp elt [⟨.Name x px,iter,ifs,0⟩] scope pos) (some (.Name y py)) spos.line X.env=pure true:=by rfl)
 (hcl:closureFor scope X.env=pure (af5 X.env scope.names []):=by rfl) (hs:∀ x,foldedSetIterable iter X.env x=pure x:=by intro _; rfl)
 (hf:X.fn y=true∨X.env.scope.names.lookup y=some .local:=by first | exact .inl rfl | exact .inr rfl | assumption) :
 PS X (.Assign [.Name y py] (.ListComp elt [⟨.Name x px,iter,ifs,0⟩] scope pos) spos) (tAsg (bc8 wi ix ti te) (az3 i)):=by
 intro pins s σ H D I h
 rw [exec_Assign_Name_used _ _ _ _ hsw]
 refine wpAny_bind (wpAny_standAt (wpAny_bind ?_))
 show wpAny _ X.A (do let _ ← comprehension (.ListComp elt [⟨.Name x px,iter,ifs,0⟩] scope pos) scope X.env _ (newList []) false (eval iter X.env) (some (assign (.Name y py) X.env))) _ _ s
 refine wpAny_bind (thn (wpAny_comprehension_free (Q:=fun _ s'=>SP X pins D .next s') rfl hs hcl hsc.kind hsc.loc (thn (hi pins s σ H _ I h) fun v s1 h1=>thn h1 fun itv s2 h2=>?_)) fun _ s' hq=>wpAny_pure (wpAny_pure hq))
 obtain ⟨it,fp,tn,J,H2,e,I2,T,st2,f2,hW⟩:=h2
 subst e
 refine aE3 (RR:=fun acc C=>compPost (model X.prog X.w) X.A X.xe (some (assign (.Name y py) X.env)) (fun _ s'=>SP X pins D .next s') acc C) hcalm I2 hsc hix T st2 f2 hti hte hW ?_
 rintro p C H' s' I' ⟨f0,f1,f2',f3,f4,f5⟩ ⟨m,hm⟩ q
 obtain ⟨oC,es,ep,hoC,hdC,rC⟩:=hm
 have Ip:Inv X (pins ++ [(C,oC)]) σ H' s':=I'.pins_of fun p hp=>(List.mem_append.mp hp).elim (fun z=>I'.pin p (List.mem_append_right _ z)) fun z=>by
  have e:p=(C,oC):=by simpa using z
  subst e
  exact ⟨hoC,f0,f1,f2',fun v z=>by rw [hdC] at z; cases z⟩
 have hg:PG X (.Name y py) (az3 i):=ai7 hN hi' hy hf
 refine thn (hg _ s' σ H' (.ref p) (.ref p) D.nx Ip rfl q) fun _ s3 ⟨σ3,H3,I3,q3⟩=>?_
 have hpin:=I3.pin (C,oC) (List.mem_append_right _ (List.mem_append_right _ (by simp)))
 refine ⟨m,⟨oC,es,ep,hpin.1,hdC,rC⟩,fun h' hs'=>?_⟩
 exact ⟨σ3,H3,(I3.unpinned).turned (t':=s3.toks) (fun b o hb e=>hs'.extBut b o hb e) hpin.2.1 f1 f3 f4 f5,q3⟩
end
mutual
noncomputable def Den (K:PySem.W.Frag) (H:Hp):PyData→V→Prop
 | .none,v=>v= .non
 | .bool b,v=>v= .bl b
 | .int i,v=>v= .int i
 | .str x,v=>v= .str x
 | .list ds,v=>∃ a xs,v= .ref a∧SqL K H a xs∧Dens K H ds xs
 | .tuple ds,v=>∃ a xs,v= .ref a∧SqT K H a xs∧Dens K H ds xs
 | .dict _,_=>False
noncomputable def Dens (K:PySem.W.Frag) (H:Hp):List PyData→List V→Prop
 | [],xs=>xs=[]
 | d :: ds,xs=>∃ x r,xs=x :: r∧Den K H d x∧Dens K H ds r
end
section
variable {X:Cx} {pins:List (Addr×Obj)} {σ:St} {H:Hp} {s:Shared}
mutual
theorem den_reads (I:Inv X pins σ H s):∀ (d:PyData) {v:V} {u:Value},Den X.K H d v→RelV v u→∃ as,Reads s.heap u d as
 | .none,v,u,h,r=>by
   rw [Den] at h
   subst h
   have r':u=Value.none:=r
   subst r'
   exact ⟨_,.none⟩
 | .bool b,v,u,h,r=>by
   rw [Den] at h
   subst h
   have r':u=Value.bool b:=r
   subst r'
   exact ⟨_,.bool b⟩
 | .int i,v,u,h,r=>by
   rw [Den] at h
   subst h
   obtain ⟨t,r'⟩:=(show ∃ t,u=Value.int i t from r)
   subst r'
   exact ⟨_,.int i t⟩
 | .str x,v,u,h,r=>by
   rw [Den] at h
   subst h
   obtain ⟨t,r'⟩:=(show ∃ t,u=Value.str x t from r)
   subst r'
   exact ⟨_,.str x t⟩
 | .list ds,v,u,h,r=>by
   rw [Den] at h
   obtain ⟨a,xs,rfl,hq,hd⟩:=h
   have r':u=Value.ref a:=r
   subst r'
   obtain ⟨its,rv,p,hz⟩:=I.list hq
   obtain ⟨as,ra⟩:=dens_reads I ds hd rv
   obtain ⟨o,ho,hc,n,hdat⟩:=p.isList
   exact ⟨_,.list ho hc hdat (by simpa using ra)⟩
 | .tuple ds,v,u,h,r=>by
   rw [Den] at h
   obtain ⟨a,xs,rfl,hq,hd⟩:=h
   have r':u=Value.ref a:=r
   subst r'
   obtain ⟨its,rv,p,hz⟩:=I.tuple hq
   obtain ⟨as,ra⟩:=dens_reads I ds hd rv
   obtain ⟨o,ho,hc,n,hdat⟩:=p
   exact ⟨_,.tuple ho hc hdat (by simpa using ra)⟩
 | .dict _,v,u,h,r=>by
   rw [Den] at h
   exact h.elim
theorem dens_reads (I:Inv X pins σ H s):∀ (ds:List PyData) {xs:List V} {us:List Value},Dens X.K H ds xs→Vals xs us→∃ as,ReadsAll s.heap us ds as
 | [],xs,us,h,r=>by
   rw [Dens] at h
   subst h
   cases r
   exact ⟨_,.nil⟩
 | d :: ds,xs,us,h,r=>by
   rw [Dens] at h
   obtain ⟨x,t,rfl,hx,ht⟩:=h
   cases r with
   | cons r1 r2 =>
     obtain ⟨as,ra⟩:=den_reads I d hx r1
     obtain ⟨bs,rb⟩:=dens_reads I ds ht r2
     exact ⟨_,.cons ra rb⟩
end
end
theorem aN6 {K:PySem.W.Frag} {H:Hp}:∀ ns:List Int,Dens K H (ns.map PyData.int) (ns.map V.int)
 | []=>by rw [List.map_nil,List.map_nil,Dens]
 | n :: r=>by
   rw [List.map_cons,List.map_cons,Dens]
   exact ⟨_,_,rfl,by rw [Den],aN6 r⟩
theorem ba5 {K:PySem.W.Frag} {H:Hp} {a:Addr} {ns:List Int} (h:SqL K H a (ns.map V.int)):Den K H (.list (ns.map PyData.int)) (.ref a):=by
 rw [Den]
 exact ⟨a,_,rfl,h,aN6 ns⟩
theorem bG4 (ns ms:List Int):PyData.eqv (.list (ns.map PyData.int)) (.list (ms.map PyData.int))=decide (ns=ms):=by
 rw [← SeqAt.same_eq_eqv _ _ (by simp only [SeqAt.noMix]; exact PySem.W.noMix_ints ns ms)]
 simp only [same]
 exact PySem.W.same_ints ns ms
section
variable {X:Cx}
noncomputable def rEqD (K:PySem.W.Frag) (neg:Bool):R2:=fun x y H Q=>∃ d e,Den K H d x∧Den K H e y∧SeqAt.shaped d=true∧SeqAt.shaped e=true∧Q (.bl (if neg then !PyData.eqv d e else PyData.eqv d e)) H
theorem cp1 (hu:X.A.units + 64 < cLine):OpR X (compareOp .Eq) (rEqD X.K false):=by
 intro pins s σ H x y v u Q I rx ry h
 obtain ⟨d,e,hd,he,sd,se,q⟩:=h
 obtain ⟨as,ra⟩:=den_reads I d hd rx
 obtain ⟨bs,rb⟩:=den_reads I e he ry
 exact eq_dataH ra rb sd se hu ⟨.bl _,H,I,rfl,q⟩
theorem co9 (hu:X.A.units + 64 < cLine):OpR X (compareOp .NotEq) (rEqD X.K true):=by
 intro pins s σ H x y v u Q I rx ry h
 obtain ⟨d,e,hd,he,sd,se,q⟩:=h
 obtain ⟨as,ra⟩:=den_reads I d hd rx
 obtain ⟨bs,rb⟩:=den_reads I e he ry
 exact ne_dataH ra rb sd se hu ⟨.bl _,H,I,rfl,q⟩
theorem cp0 (hu:X.A.units + 65 < cLine):OpR X (compareOp .In) (fun x y H Q=>∃ d xs,Den X.K H d x∧Den X.K H (.list xs) y∧SeqAt.shaped d=true∧SeqAt.shaped (.list xs)=true∧(∀ z∈xs,SeqAt.noMix z d=true)∧Q (.bl (decide (countIn d xs≠0))) H):=by
 intro pins s σ H x y v u Q I rx ry h
 obtain ⟨d,xs,hd,he,sd,se,nm,q⟩:=h
 obtain ⟨as,ra⟩:=den_reads I d hd rx
 obtain ⟨bs,rb⟩:=den_reads I _ he ry
 exact in_list_dataH rb ra se sd hu nm ⟨.bl _,H,I,rfl,q⟩
end
section
variable {X:Cx}
theorem bI7:au4 X (.builtin "isinstance") (fun xs H Q=>∃ x c t b,xs=[x,.ty c]∧TyOf X.K H x t∧PySem.W.kitOne X.K t (.type c)=some b∧Q (.bl b) H):=by
 intro pins s σ H xs us Q I r h
 obtain ⟨x,c,t,b,rfl,ty,e,q⟩:=h
 obtain ⟨u,w',rfl,r1,r2⟩:=vals2 r
 have r3:w'=Value.type c:=r2
 subst r3
 exact bp3 I r1 ty e fun tk=>⟨.bl b,H,I.tok tk,rfl,q⟩
end
section
variable {prog:Program} {w:World} {A:Around} {R:Result→Shared→Prop} {I:Addr} {fp wr:List Addr} {n:Nat} {P:Nat→Value→Prop} {St:Nat→Heap→Prop}
theorem aT2 (W:Walks prog w A.in1 I fp wr n P St) (kw:List (Str×Value)) (bt:Nat→Nat→Bool) (cmp:CmpOf prog w A.in1 .Lt P bt) (S:Addr) (nS:S∉fp):∀ (k j:Nat) (s:Shared) (vb:Value) (c:Nat),
 n - (j + 1)=k→j + 1≤n→St (j + 1) s.heap→P (argBest bt j) vb→s.heap.get? S=some { cls:= .type "list",dict:=none,data:= .seq #[vb,vb] c,slots:=#[] } →
 (∀ v h' tk,P (argBest bt (n - 1)) v→(∀ b o,b∉wr→b≠S→s.heap.get? b=some o→h'.get? b=some o)→R (.ok (.ret v)) { s with heap:=h',toks:=tk }) →
 codeAny (model prog w) A (.builtin "min.loop" ⟨[.ref I,.none,.ref S],kw⟩) R s:=by
 have nW:S∉wr:=fun z=>nS (W.sub _ z)
 have nm:(toString "min" ++ toString ".loop" : String) = "min.loop" := by decide
 intro k
 induction k with
 | zero =>
   intro j s vb c e1 e2 st pb oS fin
   refine codeAny_builtin PySem.F.entry_min_loop ?_
   rw [Around.under_plainId PySem.F.plain_min_loop _]
   refine wpAny_bind (m:=seqItems? (.ref S)) (wpAny_seqItems oS rfl ?_)
   refine wpAny_bind (m:=tryCatch (pyNext (.ref I)) _) (wpAny_tryCatch (W.done s _ _ ((show j + 1=n by omega) ▸ st) fun h' tk kp=>?_))
   refine wpAny_bind (m:=updateSeq S (fun _=>#[])) ?_
   refine wpAny_updateSeq (kp S _ nW oS) rfl (wpAny_bind (wpAny_letGo (wpAny_pure ?_)))
   exact fin vb _ tk (by rw [show n - 1=j by omega]; exact pb) fun b o hw hS e=>(Heap.get?_update_other _ _ (Ne.symm hS)).trans (kp b o hw e)
 | succ k ih =>
   intro j s vb c e1 e2 st pb oS fin
   have lt:j + 1 < n:=by omega
   refine codeAny_builtin PySem.F.entry_min_loop ?_
   rw [Around.under_plainId PySem.F.plain_min_loop _]
   refine wpAny_bind (m:=seqItems? (.ref S)) (wpAny_seqItems oS rfl ?_)
   refine wpAny_bind (m:=tryCatch (pyNext (.ref I)) _) (wpAny_tryCatch (W.item (j + 1) s _ _ lt st fun v h' tk pv st' kp=>?_))
   have oS':=kp S _ nW oS
   refine wpAny_bind (m:=tryCatch (holding [v,v] (richCompare .Lt v vb >>= _)) _) (wpAny_tryCatch (wpAny_holding (wpAny_bind (cmp (j + 1) (argBest bt j) v vb _ _ _ pv pb ?_))))
   refine wpAny_bind (wpAny_holding (wpAny_truthy_bool (wpAny_bind (wpAny_letGo (wpAny_pure ?_)))))
   cases eb:bt (j + 1) (argBest bt j) with
   | true =>
     rw [if_pos rfl]
     refine wpAny_bind ?_
     refine wpAny_updateSeq oS' rfl (wpAny_bind (wpAny_letGo ?_))
     rw [nm]
     refine wpAny_pure ⟨plainId_quiet PySem.F.plain_min_loop _,ih (j + 1) _ v _ (by omega) lt (W.frame _ _ _ st' fun b hb o e=>?_) (by simp only [argBest,eb,if_true]; exact pv) (Heap.get?_update_self _ oS' rfl) fun v' h'' tk'' pv' kp''=>?_⟩
     · exact (Heap.get?_update_other _ _ (fun z:S=b=>nS (by rw [z]; exact hb))).trans e
     · exact fin v' h'' tk'' pv' fun b o hw hS e=>kp'' b o hw hS ((Heap.get?_update_other _ _ (Ne.symm hS)).trans (kp b o hw e))
   | false =>
     rw [if_neg Bool.false_ne_true]
     refine wpAny_bind (wpAny_letGo ?_)
     rw [nm]
     exact wpAny_pure ⟨plainId_quiet PySem.F.plain_min_loop _,ih (j + 1) _ vb c (by omega) lt st' (by simp only [argBest,eb,Bool.false_eq_true,if_false]; exact pb) oS' fun v' h'' tk'' pv' kp''=>fin v' h'' tk'' pv' fun b o hw hS e=>kp'' b o hw hS (kp b o hw e)⟩
end
theorem aO4 (a d:Value):argsOk "min" ⟨[a],[(Str.ofString "default",d)]⟩:=by unfold argsOk; kernel_rfl
section
variable {prog:Program} {w:World} {A:Around} {E:Value→Shared→Prop} {s:Shared}
theorem bx3 {x d:Value} {Q:Value→Shared→Prop}
 (h:wpAny (model prog w) A.in1 (pyIter x) (fun it s₂=>∃ I fp wr n P St bt,it= .ref I∧Walks prog w A.in1 I fp wr n P St∧St 0 s₂.heap∧(∀ b∈fp,b < s₂.heap.objs.size)∧CmpOf prog w A.in1 .Lt P bt ∧
   (n=0→∀ h' tk,(∀ b o,b∉wr→s₂.heap.get? b=some o→h'.get? b=some o)→Q d { s₂ with heap:=h',toks:=tk }) ∧
   (0 < n→∀ v h' tk,P (argBest bt (n - 1)) v→(∀ b o,b∉wr→s₂.heap.get? b=some o→h'.get? b=some o)→Q v { s₂ with heap:=h',toks:=tk })) E s) :
 wpAny (model prog w) A (call (.builtin "min") [x] [(Str.ofString "default",d)]) Q E s:=by
 have nm:(toString "min" ++ toString ".loop" : String) = "min.loop" := by decide
 refine kmk_tree PySem.F.kind_min PySem.F.plain_min PySem.F.entry_min (aO4 _ _) ?_
 refine wpAny_bind (m:=Builtin.Builtins.bindParams "min" ["key", "default"] 0 ⟨[],[(Str.ofString "default",d)]⟩) (wpAny_of_eq (show _=pure [none,some d] from rfl) ?_)
 refine wpAny_bind (wpAny_pure (wpAny_bind (wpAny_mono h (fun it s₂ h₂=>?_) fun _ _ e=>e)))
 obtain ⟨I,fp,wr,n,P,St,bt,rfl,W,st,lts,cmp,q0,q1⟩:=h₂
 refine wpAny_bind (wpAny_newObj_type ?_)
 have nS:s₂.heap.objs.size∉fp:=fun z=>Nat.lt_irrefl _ (lts _ z)
 have nW:s₂.heap.objs.size∉wr:=fun z=>nS (W.sub _ z)
 rw [nm]
 have st1:=W.frame _ _ (s₂.heap.push { cls:= .type "list",dict:=none,data:= .seq ([]:List Value).toArray }) st fun b _ o e=>Heap.get?_push_of_some _ e
 have oS:(s₂.heap.push { cls:= .type "list",dict:=none,data:= .seq ([]:List Value).toArray }).get? s₂.heap.objs.size=some { cls:= .type "list",dict:=none,data:= .seq ([]:List Value).toArray }:=Heap.get?_push_size _ rfl
 refine wpAny_pure ⟨plainId_quiet PySem.F.plain_min_loop _,codeAny_builtin PySem.F.entry_min_loop ?_⟩
 rw [Around.under_plainId PySem.F.plain_min_loop _]
 refine wpAny_bind (m:=seqItems? (.ref s₂.heap.objs.size)) (wpAny_seqItems oS rfl ?_)
 by_cases hn:n=0
 · refine wpAny_bind (m:=tryCatch (pyNext (.ref I)) _) (wpAny_tryCatch (W.done _ _ _ (hn ▸ st1) fun h' tk kp=>?_))
   refine wpAny_bind (m:=rule _) (wpAny_rule (wpAny_pure ?_))
   exact q0 hn h' tk fun b o hw e=>kp b o hw (Heap.get?_push_of_some _ e)
 · have lt:0 < n:=Nat.pos_of_ne_zero hn
   refine wpAny_bind (m:=tryCatch (pyNext (.ref I)) _) (wpAny_tryCatch (W.item 0 _ _ _ lt st1 fun v h' tk pv st' kp=>?_))
   have oS':=kp _ _ nW oS
   refine wpAny_bind (m:=updateSeq s₂.heap.objs.size (fun _=>#[v,v])) ?_
   refine wpAny_updateSeq oS' rfl ?_
   rw [nm]
   refine wpAny_pure ⟨plainId_quiet PySem.F.plain_min_loop _,aT2 W _ bt cmp _ nS _ 0 _ v _ rfl lt (W.frame _ _ _ st' fun b hb o e=>?_) pv (Heap.get?_update_self _ oS' rfl) fun v' h'' tk'' pv' kp''=>?_⟩
   · exact (Heap.get?_update_other _ _ (fun z:s₂.heap.objs.size=b=>nS (by rw [z]; exact hb))).trans e
   · exact q1 lt v' h'' tk'' pv' fun b o hw e=>kp'' b o hw (Nat.ne_of_lt (Heap.lt_size e)) ((Heap.get?_update_other _ _ (Nat.ne_of_gt (Heap.lt_size e))).trans (kp b o hw (Heap.get?_push_of_some _ e)))
end
section
variable {prog:Program} {w:World} {A:Around} {R:Result→Shared→Prop} {I:Addr} {fp wr:List Addr} {n:Nat} {P:Nat→Value→Prop} {St:Nat→Heap→Prop}
theorem aT3 (W:Walks prog w A.in1 I fp wr n P St) (kw:List (Str×Value)) (bt:Nat→Nat→Bool) (cmp:CmpOf prog w A.in1 .Gt P bt) (S:Addr) (nS:S∉fp):∀ (k j:Nat) (s:Shared) (vb:Value) (c:Nat),
 n - (j + 1)=k→j + 1≤n→St (j + 1) s.heap→P (argBest bt j) vb→s.heap.get? S=some { cls:= .type "list",dict:=none,data:= .seq #[vb,vb] c,slots:=#[] } →
 (∀ v h' tk,P (argBest bt (n - 1)) v→(∀ b o,b∉wr→b≠S→s.heap.get? b=some o→h'.get? b=some o)→R (.ok (.ret v)) { s with heap:=h',toks:=tk }) →
 codeAny (model prog w) A (.builtin "max.loop" ⟨[.ref I,.none,.ref S],kw⟩) R s:=by
 have nW:S∉wr:=fun z=>nS (W.sub _ z)
 have nm:(toString "max" ++ toString ".loop" : String) = "max.loop" := by decide
 intro k
 induction k with
 | zero =>
   intro j s vb c e1 e2 st pb oS fin
   refine codeAny_builtin PySem.F.entry_max_loop ?_
   rw [Around.under_plainId PySem.F.plain_max_loop _]
   refine wpAny_bind (m:=seqItems? (.ref S)) (wpAny_seqItems oS rfl ?_)
   refine wpAny_bind (m:=tryCatch (pyNext (.ref I)) _) (wpAny_tryCatch (W.done s _ _ ((show j + 1=n by omega) ▸ st) fun h' tk kp=>?_))
   refine wpAny_bind (m:=updateSeq S (fun _=>#[])) ?_
   refine wpAny_updateSeq (kp S _ nW oS) rfl (wpAny_bind (wpAny_letGo (wpAny_pure ?_)))
   exact fin vb _ tk (by rw [show n - 1=j by omega]; exact pb) fun b o hw hS e=>(Heap.get?_update_other _ _ (Ne.symm hS)).trans (kp b o hw e)
 | succ k ih =>
   intro j s vb c e1 e2 st pb oS fin
   have lt:j + 1 < n:=by omega
   refine codeAny_builtin PySem.F.entry_max_loop ?_
   rw [Around.under_plainId PySem.F.plain_max_loop _]
   refine wpAny_bind (m:=seqItems? (.ref S)) (wpAny_seqItems oS rfl ?_)
   refine wpAny_bind (m:=tryCatch (pyNext (.ref I)) _) (wpAny_tryCatch (W.item (j + 1) s _ _ lt st fun v h' tk pv st' kp=>?_))
   have oS':=kp S _ nW oS
   refine wpAny_bind (m:=tryCatch (holding [v,v] (richCompare .Gt v vb >>= _)) _) (wpAny_tryCatch (wpAny_holding (wpAny_bind (cmp (j + 1) (argBest bt j) v vb _ _ _ pv pb ?_))))
   refine wpAny_bind (wpAny_holding (wpAny_truthy_bool (wpAny_bind (wpAny_letGo (wpAny_pure ?_)))))
   cases eb:bt (j + 1) (argBest bt j) with
   | true =>
     rw [if_pos rfl]
     refine wpAny_bind ?_
     refine wpAny_updateSeq oS' rfl (wpAny_bind (wpAny_letGo ?_))
     rw [nm]
     refine wpAny_pure ⟨plainId_quiet PySem.F.plain_max_loop _,ih (j + 1) _ v _ (by omega) lt (W.frame _ _ _ st' fun b hb o e=>?_) (by simp only [argBest,eb,if_true]; exact pv) (Heap.get?_update_self _ oS' rfl) fun v' h'' tk'' pv' kp''=>?_⟩
     · exact (Heap.get?_update_other _ _ (fun z:S=b=>nS (by rw [z]; exact hb))).trans e
     · exact fin v' h'' tk'' pv' fun b o hw hS e=>kp'' b o hw hS ((Heap.get?_update_other _ _ (Ne.symm hS)).trans (kp b o hw e))
   | false =>
     rw [if_neg Bool.false_ne_true]
     refine wpAny_bind (wpAny_letGo ?_)
     rw [nm]
     exact wpAny_pure ⟨plainId_quiet PySem.F.plain_max_loop _,ih (j + 1) _ vb c (by omega) lt st' (by simp only [argBest,eb,Bool.false_eq_true,if_false]; exact pb) oS' fun v' h'' tk'' pv' kp''=>fin v' h'' tk'' pv' fun b o hw hS e=>kp'' b o hw hS (kp b o hw e)⟩
end
theorem by5 (a d:Value):argsOk "max" ⟨[a],[(Str.ofString "default",d)]⟩:=by unfold argsOk; kernel_rfl
section
variable {prog:Program} {w:World} {A:Around} {E:Value→Shared→Prop} {s:Shared}
theorem bx4 {x d:Value} {Q:Value→Shared→Prop}
 (h:wpAny (model prog w) A.in1 (pyIter x) (fun it s₂=>∃ I fp wr n P St bt,it= .ref I∧Walks prog w A.in1 I fp wr n P St∧St 0 s₂.heap∧(∀ b∈fp,b < s₂.heap.objs.size)∧CmpOf prog w A.in1 .Gt P bt ∧
   (n=0→∀ h' tk,(∀ b o,b∉wr→s₂.heap.get? b=some o→h'.get? b=some o)→Q d { s₂ with heap:=h',toks:=tk }) ∧
   (0 < n→∀ v h' tk,P (argBest bt (n - 1)) v→(∀ b o,b∉wr→s₂.heap.get? b=some o→h'.get? b=some o)→Q v { s₂ with heap:=h',toks:=tk })) E s) :
 wpAny (model prog w) A (call (.builtin "max") [x] [(Str.ofString "default",d)]) Q E s:=by
 have nm:(toString "max" ++ toString ".loop" : String) = "max.loop" := by decide
 refine kmk_tree PySem.F.kind_max PySem.F.plain_max PySem.F.entry_max (by5 _ _) ?_
 refine wpAny_bind (m:=Builtin.Builtins.bindParams "max" ["key", "default"] 0 ⟨[],[(Str.ofString "default",d)]⟩) (wpAny_of_eq (show _=pure [none,some d] from rfl) ?_)
 refine wpAny_bind (wpAny_pure (wpAny_bind (wpAny_mono h (fun it s₂ h₂=>?_) fun _ _ e=>e)))
 obtain ⟨I,fp,wr,n,P,St,bt,rfl,W,st,lts,cmp,q0,q1⟩:=h₂
 refine wpAny_bind (wpAny_newObj_type ?_)
 have nS:s₂.heap.objs.size∉fp:=fun z=>Nat.lt_irrefl _ (lts _ z)
 have nW:s₂.heap.objs.size∉wr:=fun z=>nS (W.sub _ z)
 rw [nm]
 have st1:=W.frame _ _ (s₂.heap.push { cls:= .type "list",dict:=none,data:= .seq ([]:List Value).toArray }) st fun b _ o e=>Heap.get?_push_of_some _ e
 have oS:(s₂.heap.push { cls:= .type "list",dict:=none,data:= .seq ([]:List Value).toArray }).get? s₂.heap.objs.size=some { cls:= .type "list",dict:=none,data:= .seq ([]:List Value).toArray }:=Heap.get?_push_size _ rfl
 refine wpAny_pure ⟨plainId_quiet PySem.F.plain_max_loop _,codeAny_builtin PySem.F.entry_max_loop ?_⟩
 rw [Around.under_plainId PySem.F.plain_max_loop _]
 refine wpAny_bind (m:=seqItems? (.ref s₂.heap.objs.size)) (wpAny_seqItems oS rfl ?_)
 by_cases hn:n=0
 · refine wpAny_bind (m:=tryCatch (pyNext (.ref I)) _) (wpAny_tryCatch (W.done _ _ _ (hn ▸ st1) fun h' tk kp=>?_))
   refine wpAny_bind (m:=rule _) (wpAny_rule (wpAny_pure ?_))
   exact q0 hn h' tk fun b o hw e=>kp b o hw (Heap.get?_push_of_some _ e)
 · have lt:0 < n:=Nat.pos_of_ne_zero hn
   refine wpAny_bind (m:=tryCatch (pyNext (.ref I)) _) (wpAny_tryCatch (W.item 0 _ _ _ lt st1 fun v h' tk pv st' kp=>?_))
   have oS':=kp _ _ nW oS
   refine wpAny_bind (m:=updateSeq s₂.heap.objs.size (fun _=>#[v,v])) ?_
   refine wpAny_updateSeq oS' rfl ?_
   rw [nm]
   refine wpAny_pure ⟨plainId_quiet PySem.F.plain_max_loop _,aT3 W _ bt cmp _ nS _ 0 _ v _ rfl lt (W.frame _ _ _ st' fun b hb o e=>?_) pv (Heap.get?_update_self _ oS' rfl) fun v' h'' tk'' pv' kp''=>?_⟩
   · exact (Heap.get?_update_other _ _ (fun z:s₂.heap.objs.size=b=>nS (by rw [z]; exact hb))).trans e
   · exact q1 lt v' h'' tk'' pv' fun b o hw e=>kp'' b o hw (Nat.ne_of_lt (Heap.lt_size e)) ((Heap.get?_update_other _ _ (Nat.ne_of_gt (Heap.lt_size e))).trans (kp b o hw (Heap.get?_push_of_some _ e)))
end
noncomputable def aC0 (X:Cx) (f:Value) (ks:List Str) (r:List V→List V→Hp→VK→Prop):Prop :=
 ∀ (pins:List (Addr×Obj)) (s:Shared) (σ:St) (H:Hp) (xs zs:List V) (us ws:List Value) (Q:VK),Inv X pins σ H s→Vals xs us→Vals zs ws→r xs zs H Q →
  wpAny (model X.prog X.w) X.A (call f us (ks.zip ws)) (EP X pins σ Q) X.xe s
noncomputable def tCBK (r:List V→List V→Hp→VK→Prop) (t tk:TA):TE:=fun σ H Q=>t σ H fun vs H1=>tk σ H1 fun zs H2=>r vs zs H2 Q
section
variable {X:Cx} {x:Str} {p pos:Pos} {e:Expr} {es:List Expr} {kws:List Keyword} {t tk:TA} {id:String} {ks:List Str} {r:List V→List V→Hp→VK→Prop}
theorem ax9 (hc:aC0 X (.builtin id) ks r) (hg:Gl X x) (hm:X.mg x=none) (hv:bootBuiltins x=some (.builtin id)) (ha:PA X (e :: es) t) (hk:PK X kws tk)
 (hks:(backToKw pos (keywordEach kws X.env)).filterMap (·.1)=ks:=by rfl) (hn:x ≠ "__name__" := by decide) (hdb:(x == ("__debug__" : Str))=false:=by decide)
 (he:backTo pos (starEach (e :: es) X.env)=(false,eval e X.env) :: backTo pos (starEach es X.env):=by rfl) (hpl:(backTo pos (starEach (e :: es) X.env)).any (·.1)=false:=by rfl)
 (hall:(backToKw pos (keywordEach kws X.env)).all (·.1.isSome)=true:=by rfl) (hkn:(backToKw pos (keywordEach kws X.env)).any (·.1.isNone)=false:=by rfl) :
 PE X (.Call (.Name x p) (e :: es) kws pos) (tCBK r t tk):=by
 intro pins s σ H Q I h
 refine wpAny_Call_Name_kw (aD8 I hg hm hv ?_ hn hdb)
 refine PyProof.Rows.callWith_kw (thn (ha pos pins s σ H _ I h) fun us s1 ⟨vs,H1,I1,r1,q1⟩=>thn (hk pos pins s1 σ H1 _ I1 q1) fun ws s2 ⟨zs,H2,I2,r2,q2⟩=>?_) he hpl hall hkn
 rw [hks]
 exact hc pins s2 σ H2 vs zs us ws Q I2 r1 r2 q2
end
theorem af1:∀ {ns:List Int} {us:List Value} {i:Nat} {u:Value},Vals (ns.map V.int) us→us[i]?=some u→∃ t,u= .int (ns.getD i 0) t
 | [],us,i,u,r,e=>by
   cases r
   cases e
 | n :: ns,us,i,u,r,e=>by
   rw [List.map_cons] at r
   cases r with
   | cons r1 r2 =>
     cases i with
     | zero =>
       cases e
       exact r1
     | succ i =>
       show ∃ t,u= .int (ns.getD i 0) t
       exact af1 (ns:=ns) (i:=i) r2 (by simpa using e)
theorem bx8 {X:Cx} (hc:X.calm=true):aC0 X (.builtin "min") ["default"] (fun xs zs H Q=>∃ p ns d,xs=[.ref p]∧zs=[d]∧SqL X.K H p (ns.map V.int)∧(ns=[]→Q d H)∧∀ m∈ns,(∀ x∈ns,m≤x)→Q (.int m) H):=by
 intro pins s σ H xs zs us ws Q I r rz h
 obtain ⟨p,ns,d,rfl,rfl,hq,q0,q1⟩:=h
 obtain ⟨u,rfl,ru⟩:=Vals.one r
 have ru':u=Value.ref p:=ru
 subst ru'
 obtain ⟨dv,rfl,rd⟩:=Vals.one rz
 obtain ⟨its,rv,pl,hz⟩:=I.list hq
 have ln:ns.length=its.length:=by rw [← rv.length,List.length_map]
 obtain ⟨ol,hol,hcl,hdl⟩:=id pl.isList
 have hlt:p < s.heap.objs.size:=Heap.lt_size hol
 refine bx3 (wpAny_pyIter_list pl.isList ⟨s.heap.objs.size,_,_,_,_,_,_,rfl,Walks.list (A:=X.A.in1) (I.ok.hd hc) _ p (Nat.ne_of_lt hlt) its.toArray,⟨⟨_,Heap.get?_push_size _ rfl,rfl,rfl⟩,⟨ol,Heap.get?_push_of_some _ hol,hcl,hdl⟩⟩,fun b hb=>?_,CmpOf.ints_lt (fun i=>ns.getD i 0) (fun i v e=>af1 rv (by simpa using e)),fun e h' tk kp=>?_,fun e v h' tk pv kp=>?_⟩)
 · rw [Heap.size_push]
   rcases List.mem_cons.mp hb with z | z
   · rw [z]; exact Nat.lt_succ_self _
   · have z':b=p:=by simpa using z
     rw [z']; exact Nat.lt_succ_of_lt hlt
 · have en:ns=[]:=List.length_eq_zero_iff.mp (by rw [ln]; simpa using e)
   refine ⟨d,H,I.kept fun b o q=>kp b o (fun z=>?_) (Heap.get?_push_of_some _ q),rd,q0 en⟩
   have z':b=s.heap.objs.size:=by simpa using z
   exact absurd (Heap.lt_size q) (by rw [z']; exact Nat.lt_irrefl _)
 · have e':0 < its.length:=by simpa using e
   have e1:its.toArray.size - 1=ns.length - 1:=by rw [List.size_toArray,ln]
   rw [e1] at pv
   obtain ⟨b1,b2⟩:=argBest_lt (fun i=>ns.getD i 0) (ns.length - 1)
   rw [List.getElem?_toArray] at pv
   obtain ⟨t,rfl⟩:=af1 rv pv
   have up:∀ i,i < ns.length→ns.getD i 0∈ns:=fun i hi=>by
    rw [List.getD_eq_getElem?_getD,List.getElem?_eq_getElem hi]
    exact List.getElem_mem hi
   refine ⟨.int _,H,I.kept fun b o q=>kp b o (fun z=>?_) (Heap.get?_push_of_some _ q),⟨t,rfl⟩,q1 _ (up _ (by omega)) fun x hx=>?_⟩
   · have z':b=s.heap.objs.size:=by simpa using z
     exact absurd (Heap.lt_size q) (by rw [z']; exact Nat.lt_irrefl _)
   · obtain ⟨j,hj,rfl⟩:=List.getElem_of_mem hx
     have:=b2 j (by omega)
     rwa [show ns.getD j 0=ns[j] by rw [List.getD_eq_getElem?_getD,List.getElem?_eq_getElem hj]; rfl] at this
theorem bx9 {X:Cx} (hc:X.calm=true):aC0 X (.builtin "max") ["default"] (fun xs zs H Q=>∃ p ns d,xs=[.ref p]∧zs=[d]∧SqL X.K H p (ns.map V.int)∧(ns=[]→Q d H)∧∀ m∈ns,(∀ x∈ns,x≤m)→Q (.int m) H):=by
 intro pins s σ H xs zs us ws Q I r rz h
 obtain ⟨p,ns,d,rfl,rfl,hq,q0,q1⟩:=h
 obtain ⟨u,rfl,ru⟩:=Vals.one r
 have ru':u=Value.ref p:=ru
 subst ru'
 obtain ⟨dv,rfl,rd⟩:=Vals.one rz
 obtain ⟨its,rv,pl,hz⟩:=I.list hq
 have ln:ns.length=its.length:=by rw [← rv.length,List.length_map]
 obtain ⟨ol,hol,hcl,hdl⟩:=id pl.isList
 have hlt:p < s.heap.objs.size:=Heap.lt_size hol
 refine bx4 (wpAny_pyIter_list pl.isList ⟨s.heap.objs.size,_,_,_,_,_,_,rfl,Walks.list (A:=X.A.in1) (I.ok.hd hc) _ p (Nat.ne_of_lt hlt) its.toArray,⟨⟨_,Heap.get?_push_size _ rfl,rfl,rfl⟩,⟨ol,Heap.get?_push_of_some _ hol,hcl,hdl⟩⟩,fun b hb=>?_,CmpOf.ints_gt (fun i=>ns.getD i 0) (fun i v e=>af1 rv (by simpa using e)),fun e h' tk kp=>?_,fun e v h' tk pv kp=>?_⟩)
 · rw [Heap.size_push]
   rcases List.mem_cons.mp hb with z | z
   · rw [z]; exact Nat.lt_succ_self _
   · have z':b=p:=by simpa using z
     rw [z']; exact Nat.lt_succ_of_lt hlt
 · have en:ns=[]:=List.length_eq_zero_iff.mp (by rw [ln]; simpa using e)
   refine ⟨d,H,I.kept fun b o q=>kp b o (fun z=>?_) (Heap.get?_push_of_some _ q),rd,q0 en⟩
   have z':b=s.heap.objs.size:=by simpa using z
   exact absurd (Heap.lt_size q) (by rw [z']; exact Nat.lt_irrefl _)
 · have e':0 < its.length:=by simpa using e
   have e1:its.toArray.size - 1=ns.length - 1:=by rw [List.size_toArray,ln]
   rw [e1] at pv
   obtain ⟨b1,b2⟩:=argBest_gt (fun i=>ns.getD i 0) (ns.length - 1)
   rw [List.getElem?_toArray] at pv
   obtain ⟨t,rfl⟩:=af1 rv pv
   have up:∀ i,i < ns.length→ns.getD i 0∈ns:=fun i hi=>by
    rw [List.getD_eq_getElem?_getD,List.getElem?_eq_getElem hi]
    exact List.getElem_mem hi
   refine ⟨.int _,H,I.kept fun b o q=>kp b o (fun z=>?_) (Heap.get?_push_of_some _ q),⟨t,rfl⟩,q1 _ (up _ (by omega)) fun x hx=>?_⟩
   · have z':b=s.heap.objs.size:=by simpa using z
     exact absurd (Heap.lt_size q) (by rw [z']; exact Nat.lt_irrefl _)
   · obtain ⟨j,hj,rfl⟩:=List.getElem_of_mem hx
     have:=b2 j (by omega)
     rwa [show ns.getD j 0=ns[j] by rw [List.getD_eq_getElem?_getD,List.getElem?_eq_getElem hj]; rfl] at this
noncomputable def dd (ns:List Int):List Int:=ns.foldl step_dedup []
theorem be4 (ns:List Int):(List.range ns.length).map (fun i=>ns.getD i 0)=ns:=by
 apply List.ext_getElem?
 intro i
 rw [List.getElem?_map]
 by_cases h:i < ns.length
 · rw [List.getElem?_range h,List.getElem?_eq_getElem h,Option.map_some,List.getD_eq_getElem?_getD,List.getElem?_eq_getElem h]
   rfl
 · rw [List.getElem?_eq_none (by rw [List.length_range]; omega),List.getElem?_eq_none (by omega)]
   rfl
theorem aT0 (ns:List Int):firstMet (fun i=>ns.getD i 0) ns.length=dd ns:=by
 unfold firstMet dd
 rw [be4]
theorem cx1:∀ (ns acc:List Int),ns.Nodup→(∀ x∈ns,x∉acc)→ns.foldl step_dedup acc=acc ++ ns
 | [],acc,_,_=>by rw [List.foldl_nil,List.append_nil]
 | n :: r,acc,h,hd=>by
   have hn:=List.nodup_cons.mp h
   have e:step_dedup acc n=acc ++ [n]:=by
    unfold step_dedup
    rw [if_neg]
    intro z
    obtain ⟨y,hy,e⟩:=List.any_eq_true.mp z
    have e':y=n:=by simpa using e
    subst e'
    exact hd y List.mem_cons_self hy
   rw [List.foldl_cons,e,cx1 r (acc ++ [n]) hn.2 fun x hx z=>?_,List.append_assoc]
   · rfl
   · rcases List.mem_append.mp z with z | z
     · exact hd x (List.mem_cons_of_mem _ hx) z
     · have e':x=n:=by simpa using z
       subst e'
       exact hn.1 hx
theorem bG9 {ns:List Int} (h:ns.Nodup):dd ns=ns:=by
 unfold dd
 rw [cx1 ns [] h fun _ _ z=>nomatch z]
 rfl
section
variable {X:Cx}
theorem bx2 (hc:X.calm=true):au4 X (.type "set") (fun xs H Q=>∃ p ns,xs=[.ref p]∧SqL X.K H p (ns.map V.int)∧ns.length < 4000∧∀ q,H q=none→Q (.ref q) (upd H q (.set (fun k=>(dd ns).any (· == k)) (dd ns).length))):=by
 intro pins s σ H xs us Q I r h
 obtain ⟨p,ns,rfl,hq,hl,q⟩:=h
 obtain ⟨u,rfl,ru⟩:=Vals.one r
 have ru':u=Value.ref p:=ru
 subst ru'
 obtain ⟨its,rv,pl,hz⟩:=I.list hq
 have ln:its.length=ns.length:=by rw [← rv.length,List.length_map]
 refine PySem.call_set_list (ns:=ns) (I.ok.hd hc) pl.isList (by simpa using bf5 rv) (by rw [List.size_toArray,ln]; unfold scanBound; omega) fun h' tk hS kp=>?_
 have es:its.toArray.size=ns.length:=by rw [List.size_toArray,ln]
 rw [es,aT0] at hS
 exact ⟨.ref s.heap.objs.size,_,I.laid (o:= .set _ _) (fun b o e=>kp b o (Heap.lt_size e) e) (Nat.le_refl _) hS,rfl,q _ (I.hok.fresh (Nat.le_refl _))⟩
theorem bx5:au4 X (.builtin "len") (fun xs H Q=>∃ a S n,xs=[.ref a]∧H a=some (.set S n)∧Q (.int n) H):=by
 intro pins s σ H xs us Q I r h
 obtain ⟨a,S,n,rfl,ha,q⟩:=h
 obtain ⟨u,rfl,ru⟩:=Vals.one r
 have ru':u=Value.ref a:=ru
 subst ru'
 obtain ⟨o,es,ep,t,ho,hex,hd,_,_,hb,hf,hn⟩:=(show s.heap.SetOf (intKind X.prog X.w) a S n from I.hok a _ ha)
 refine call_len_set ho hex hd hf (Int.lt_of_lt_of_le (Int.ofNat_lt.mpr hb) (by unfold scanBound; decide)) ?_
 rw [hn]
 exact ⟨.int n,H,I.tok _,⟨_,rfl⟩,q⟩
end
noncomputable def RawD (h:Heap) (d:Addr) (es:Array DictEntry) (ep:Nat):Prop:=∃ o,h.get? d=some o∧o.ExactDict∧o.data= .dict es ep
section
variable {prog:Program} {w:World} {A:Around} {E:Value→Shared→Prop} {s:Shared} {d it:Addr} {es:Array DictEntry} {ep i:Nat}
theorem RawD.typeIs (x:RawD s.heap d es ep):s.TypeIs (.ref d) "dict" := by
 obtain ⟨o,ho,hx,_⟩:=x
 exact ⟨o,ho,hx.1⟩
end
end L2
namespace HT
open PySem PyProof.Rows
open PySem.SeqAt
open PySem.AutoSeq1 (wpAny_loadPart')
open PySem.MeetsSeq PySem.MeetsSeq2 PySem.MeetsSeq3 PySem.SeqRoads2
noncomputable def LtAt (A:Around) (s:Shared) (y x:Value) (b:Bool):Prop :=
 ∀ (prog:Program) (w:World) (E:Value→Shared→Prop) (Q:Value→Shared→Prop),Q (.bool b) s→wpAny (model prog w) A (richCompare .Lt y x) Q E s
noncomputable def lexN (p:Nat→Bool×Bool) (t:Bool):Nat→Nat→Bool
 | 0,_=>t
 | k + 1,i=>if (p i).1=true then lexN p t k (i + 1) else (p i).2
theorem bf3 (l b:Addr) (items items2:Array Value) (n n2:Nat) (dd dd2:Option Addr) (sl sl2:Array (Option Value)) (p:Nat→Bool×Bool) (k:Nat) :
 ∀ i:Nat,min items.size items2.size - i=k→i≤min items.size items2.size→Meets (Builtin.«list.__eq__.loop» ⟨[.ref l,.ref b,rawInt i,rawInt 0],[]⟩)
  (fun A R s=>s.heap.get? l=some { cls:= .type "list",dict:=dd,data:= .seq items n,slots:=sl }∧s.heap.get? b=some { cls:= .type "list",dict:=dd2,data:= .seq items2 n2,slots:=sl2 } ∧
    (∀ j (h1:j < items.size) (h2:j < items2.size),EqAt A.in1 s items[j] items2[j] (p j).1∧((p j).1=false→LtAt A.in1 s items[j] items2[j] (p j).2)) ∧
    R (.ok (.ret (.bool (lexN p (decide (items.size < items2.size)) k i)))) s):=by
 induction k with
 | zero =>
   intro i hk hi prog w A R s h
   obtain ⟨hp,g,d,tk,os⟩:=s; obtain ⟨hl,hb,he,h⟩:=h
   wp_walk using wpAny_loadPart' hl,wpAny_loadPart' hb
   by_cases hlt:i < items.size
   · have hi1:items[((i:Nat):Int).toNat]?=some items[i]:=by simp [hlt]
     have hi2:items2[((i:Nat):Int).toNat]?=none:=by simp; omega
     rw [hi1,hi2]
     wp_walk using wpAny_loadPart' hl,wpAny_loadPart' hb
     exact h
   · have hi1:items[((i:Nat):Int).toNat]?=none:=by simp; omega
     rw [hi1]
     wp_walk using wpAny_loadPart' hl,wpAny_loadPart' hb
     exact h
 | succ k ih =>
   intro i hk hi prog w A R s h
   obtain ⟨hp,g,d,tk,os⟩:=s; obtain ⟨hl,hb,he,h⟩:=h
   wp_walk using wpAny_loadPart' hl,wpAny_loadPart' hb
   have hlt:i < items.size:=by omega
   have hlt2:i < items2.size:=by omega
   have hi1:items[((i:Nat):Int).toNat]?=some items[i]:=by simp [hlt]
   have hi2:items2[((i:Nat):Int).toNat]?=some items2[i]:=by simp [hlt2]
   have hc:((i:Int) + 1)=((i + 1:Nat):Int):=by push_cast; rfl
   rw [hi1,hi2]
   obtain ⟨e1,e2⟩:=he i hlt hlt2
   refine wpAny_bind (e1 prog w _ _ ?_)
   cases hb':(p i).1 with
   | true =>
     rw [lexN,hb',if_pos rfl] at h
     wp_walk
     rw [hc]
     exact ⟨plainId_quiet plain_eq_loop _,codeAny_builtin entry_eq_loop (by
      rw [Around.under_plainId plain_eq_loop _]
      exact ih (i + 1) (by omega) (by omega) prog w A R _ ⟨hl,hb,he,h⟩)⟩
   | false =>
     rw [lexN,hb',if_neg Bool.false_ne_true] at h
     wp_walk using wpAny_loadPart' hl,wpAny_loadPart' hb
     rw [hi1,hi2]
     have e3:=e2 hb' prog w
     wp_walk using e3
     exact h
theorem bo7 (l b:Addr) (items items2:Array Value) (n n2:Nat) (dd dd2:Option Addr) (sl sl2:Array (Option Value)) (p:Nat→Bool×Bool) :
 Meets (Builtin.«list.__lt__» ⟨[.ref l,.ref b],[]⟩)
  (fun A R s=>s.heap.get? l=some { cls:= .type "list",dict:=dd,data:= .seq items n,slots:=sl }∧s.heap.get? b=some { cls:= .type "list",dict:=dd2,data:= .seq items2 n2,slots:=sl2 } ∧
    (∀ j (h1:j < items.size) (h2:j < items2.size),EqAt A.in1 s items[j] items2[j] (p j).1∧((p j).1=false→LtAt A.in1 s items[j] items2[j] (p j).2)) ∧
    R (.ok (.ret (.bool (lexN p (decide (items.size < items2.size)) (min items.size items2.size) 0)))) s):=by
 intro prog w A R s h
 obtain ⟨hp,g,d,tk,os⟩:=s; obtain ⟨hl,hb,he,h⟩:=h
 have f3:=AutoSeq1.sub_list_list
 wp_walk using wpAny_loadPart' hl,wpAny_loadPart' hb
 exact ⟨plainId_quiet plain_eq_loop _,codeAny_builtin entry_eq_loop (by
  rw [Around.under_plainId plain_eq_loop _]
  exact bf3 l b items items2 n n2 dd dd2 sl sl2 p _ 0 rfl (Nat.zero_le _) prog w A R _ ⟨hl,hb,he,h⟩)⟩
theorem LtAt.int_int {A:Around} {s:Shared} (a:Int) (t:Tok) (c:Int) (u:Tok):LtAt A s (.int a t) (.int c u) (decide (a < c)):=fun prog w E Q h=>bC5 A s a t c u prog w E Q h
theorem LtAt.lists {A:Around} {s:Shared} {l b:Addr} {items items2:Array Value} {p:Nat→Bool×Bool} (hl:s.heap.IsList l items) (hb:s.heap.IsList b items2) (hu:A.units < cLine)
 (he:∀ j (h1:j < items.size) (h2:j < items2.size),EqAt A.in1 s items[j] items2[j] (p j).1∧((p j).1=false→LtAt A.in1 s items[j] items2[j] (p j).2)) :
 LtAt A s (.ref l) (.ref b) (lexN p (decide (items.size < items2.size)) (min items.size items2.size) 0):=fun prog w E Q h=>by
 obtain ⟨⟨cls,dd,data,sl⟩,ho,hc,n,hd⟩:=id hl
 obtain ⟨⟨cls2,dd2,data2,sl2⟩,ho2,hc2,n2,hd2⟩:=id hb
 simp only at hc hd hc2 hd2
 subst hc hd hc2 hd2
 exact richCompare_meets_room (op:= .Lt) ⟨_,ho,rfl⟩ ⟨_,ho2,rfl⟩ PySem.F.slot_list_lt PySem.F.entry_list_lt (PySem.F.args_list_lt_2 _ _) (bo7 l b items items2 n n2 dd dd2 sl sl2 p)
  ⟨ho,ho2,he,show Value.bool (lexN p (decide (items.size < items2.size)) (min items.size items2.size) 0)≠Value.notImplemented∧Q (.bool (lexN p (decide (items.size < items2.size)) (min items.size items2.size) 0)) s from ⟨(fun x=>nomatch x),h⟩⟩ hu
theorem aL8:∀ (ns ms:List Int) (i:Nat) (f:Nat→Bool×Bool) (t:Bool),(∀ j,j < min ns.length ms.length→f (i + j)=(decide (ns.getD j 0=ms.getD j 0),decide (ns.getD j 0 < ms.getD j 0)))→t=decide (ns.length < ms.length) →
 lexN f t (min ns.length ms.length) i=an4 ns ms
 | [],[],i,f,t,h,e=>by rw [e]; rfl
 | [],m :: ms,i,f,t,h,e=>by
   rw [e]
   show decide (0 < (m :: ms).length)=true
   simp
 | n :: ns,[],i,f,t,h,e=>by
   rw [e]
   show decide ((n :: ns).length < 0)=false
   simp
 | n :: ns,m :: ms,i,f,t,h,e=>by
   have e1:min (n :: ns).length (m :: ms).length=min ns.length ms.length + 1:=by
    rw [List.length_cons,List.length_cons]; omega
   rw [e1,lexN,aD6]
   have h0:=h 0 (by rw [e1]; omega)
   rw [Nat.add_zero] at h0
   have h0':f i=(decide (n=m),decide (n < m)):=h0
   rw [h0']
   by_cases q:n=m
   · rw [if_pos (by simpa using q),if_pos q]
     exact aL8 ns ms (i + 1) f t (fun j hj=>by
      have:=h (j + 1) (by rw [e1]; omega)
      rw [show i + 1 + j=i + (j + 1) by omega,this]
      rfl) (by rw [e]; simp)
   · rw [if_neg (by simpa using q),if_neg q]
noncomputable def bo9 (a b:Int) (xs:List Int) (c d:Int) (ys:List Int):Bool:=if a=c then (if b=d then an4 xs ys else decide (b < d)) else decide (a < c)
theorem bc6 (l b:Addr) (items items2:Array Value) (n n2:Nat) (dd dd2:Option Addr) (sl sl2:Array (Option Value)) (p:Nat→Bool×Bool) :
 Meets (Builtin.«tuple.__lt__» ⟨[.ref l,.ref b],[]⟩)
  (fun A R s=>s.heap.get? l=some { cls:= .type "tuple",dict:=dd,data:= .seq items n,slots:=sl }∧s.heap.get? b=some { cls:= .type "tuple",dict:=dd2,data:= .seq items2 n2,slots:=sl2 } ∧
    (∀ j (h1:j < items.size) (h2:j < items2.size),EqAt A.in1 s items[j] items2[j] (p j).1∧((p j).1=false→LtAt A.in1 s items[j] items2[j] (p j).2)) ∧
    R (.ok (.ret (.bool (lexN p (decide (items.size < items2.size)) (min items.size items2.size) 0)))) s) :=
 .of_wp fun prog w A R s h=>by
  obtain ⟨hp,g,d,tk,os⟩:=s; obtain ⟨hl,hb,he,h⟩:=h
  have f2:=AutoSeq1.sub_tuple_tuple
  have zl:(items.toList.zip items2.toList).length=min items.size items2.size:=by rw [List.length_zip,Array.length_toList,Array.length_toList]
  wp_walk using wpAny_loadPart' hl,wpAny_loadPart' hb,wpAny_forIn_list _ (fun rest b s'=>b.1=none∧s'=⟨hp,g,d,tk,os⟩∧∃ i,i≤min items.size items2.size∧rest=(items.toList.zip items2.toList).drop i ∧
   R (.ok (.ret (.bool (lexN p (decide (items.size < items2.size)) (min items.size items2.size - i) i)))) ⟨hp,g,d,tk,os⟩) _
  case turn =>
   rintro ⟨y,x⟩ rest b s' ⟨hb',rfl,i,hi,hz,hR⟩
   have hlt:i < min items.size items2.size:=by
    rcases Nat.lt_or_ge i (min items.size items2.size) with q | q
    · exact q
    · rw [List.drop_eq_nil_of_le (by rw [zl]; exact q)] at hz
      cases hz
   have h1:i < items.size:=by omega
   have h2:i < items2.size:=by omega
   rw [List.drop_eq_getElem_cons (by rw [zl]; exact hlt)] at hz
   injection hz with hyx hrest
   rw [List.getElem_zip,Array.getElem_toList,Array.getElem_toList] at hyx
   injection hyx with hy hx
   subst hy hx
   obtain ⟨e1,e2⟩:=he i h1 h2
   rw [show min items.size items2.size - i=(min items.size items2.size - (i + 1)) + 1 by omega,lexN] at hR
   refine wpAny_bind (e1 prog w _ _ ?_)
   cases eb:(p i).1 with
   | true =>
     rw [eb,if_pos rfl] at hR
     wp_walk
     exact ⟨rfl,rfl,i + 1,by omega,hrest,hR⟩
   | false =>
     rw [eb,if_neg Bool.false_ne_true] at hR
     have e3:=e2 eb prog w
     wp_walk using e3
     exact ⟨_,rfl,by simpa using hR⟩
  case fin =>
   rintro ⟨b1,b2⟩ s' ⟨hb',rfl,i,hi,hz,hR⟩
   simp only at hb'
   subst hb'
   have hge:min items.size items2.size≤i:=by
    rcases Nat.lt_or_ge i (min items.size items2.size) with q | q
    · rw [List.drop_eq_getElem_cons (by rw [zl]; exact q)] at hz
      cases hz
    · exact q
   rw [show min items.size items2.size - i=0 by omega,lexN] at hR
   wp_walk
   exact ⟨_,rfl,by simpa [Builtin.Tuple.tupleCompareSizes] using hR⟩
  case h =>
   exact ⟨rfl,rfl,0,Nat.zero_le _,rfl,h⟩
theorem LtAt.tuples {A:Around} {s:Shared} {l b:Addr} {items items2:Array Value} {p:Nat→Bool×Bool} (hl:s.heap.IsTuple l items) (hb:s.heap.IsTuple b items2) (hu:A.units < cLine)
 (he:∀ j (h1:j < items.size) (h2:j < items2.size),EqAt A.in1 s items[j] items2[j] (p j).1∧((p j).1=false→LtAt A.in1 s items[j] items2[j] (p j).2)) :
 LtAt A s (.ref l) (.ref b) (lexN p (decide (items.size < items2.size)) (min items.size items2.size) 0):=fun prog w E Q h=>by
 obtain ⟨⟨cls,dd,data,sl⟩,ho,hc,n,hd⟩:=id hl
 obtain ⟨⟨cls2,dd2,data2,sl2⟩,ho2,hc2,n2,hd2⟩:=id hb
 simp only at hc hd hc2 hd2
 subst hc hd hc2 hd2
 exact richCompare_meets_room (op:= .Lt) ⟨_,ho,rfl⟩ ⟨_,ho2,rfl⟩ PySem.F.slot_tuple_lt PySem.F.entry_tuple_lt (PySem.F.args_tuple_lt_2 _ _) (bc6 l b items items2 n n2 dd dd2 sl sl2 p)
  ⟨ho,ho2,he,show Value.bool (lexN p (decide (items.size < items2.size)) (min items.size items2.size) 0)≠Value.notImplemented∧Q (.bool (lexN p (decide (items.size < items2.size)) (min items.size items2.size) 0)) s from ⟨(fun x=>nomatch x),h⟩⟩ hu
end HT
namespace L2
open PySem PySem.Spec PyProof.Rows
theorem aD5:∀ xs:List Int,HT.an4 xs xs=false
 | []=>rfl
 | x :: xs=>by rw [HT.aD6,if_pos rfl,aD5 xs]
theorem Room.u100 {k:Nat} {A:Around} (r:Room k A):A.units + 100 < cLine:=by have:=r.un; omega
section
variable {X:Cx} {pins:List (Addr×Obj)} {σ:St} {H:Hp} {s:Shared}
theorem aM7 {A:Around} {a b:Addr} {ns ms:List Int} (I:Inv X pins σ H s) (ha:SqL X.K H a (ns.map V.int)) (hb:SqL X.K H b (ms.map V.int)) (hu:A.units + 64 < cLine) :
 SeqAt.EqAt A s (.ref a) (.ref b) (decide (ns=ms))∧HT.LtAt A s (.ref a) (.ref b) (HT.an4 ns ms):=by
 constructor
 · obtain ⟨as,ra⟩:=den_reads I _ (ba5 ha) (show RelV (.ref a) (.ref a) from rfl)
   obtain ⟨bs,rb⟩:=den_reads I _ (ba5 hb) (show RelV (.ref b) (.ref b) from rfl)
   rw [← bG4]
   exact SeqAt.eqAt_reads _ _ A s _ _ as bs ra rb (SeqAt.canLay_of_shaped (PySem.W.shaped_ints ns)) (SeqAt.canLay_of_shaped (PySem.W.shaped_ints ms)) (SeqAt.room_of_shaped (PySem.W.shaped_ints ns) hu)
 · obtain ⟨its,rv,pl,_⟩:=I.list ha
   obtain ⟨its2,rv2,pl2,_⟩:=I.list hb
   have l1:its.toArray.size=ns.length:=by rw [List.size_toArray,← rv.length,List.length_map]
   have l2:its2.toArray.size=ms.length:=by rw [List.size_toArray,← rv2.length,List.length_map]
   have key:=HT.LtAt.lists (A:=A) (p:=fun j=>(decide (ns.getD j 0=ms.getD j 0),decide (ns.getD j 0 < ms.getD j 0))) pl.isList pl2.isList (by omega) (fun j h1 h2=>?_)
   · rw [l1,l2,HT.aL8 ns ms 0 _ _ (fun j _=>by rw [Nat.zero_add]) rfl] at key
     exact key
   · obtain ⟨t,e1⟩:=af1 rv (i:=j) (u:=its.toArray[j]) (by simp at h1; simp [h1])
     obtain ⟨u,e2⟩:=af1 rv2 (i:=j) (u:=its2.toArray[j]) (by simp at h2; simp [h2])
     rw [e1,e2]
     refine ⟨?_,fun _=>HT.LtAt.int_int _ _ _ _⟩
     have:=SeqAt.EqAt.int_int (A:=A.in1) (s:=s) (ns.getD j 0) t (ms.getD j 0) u
     rwa [show (ns.getD j 0 == ms.getD j 0)=decide (ns.getD j 0=ms.getD j 0) from Bool.beq_eq_decide_eq _ _] at this
theorem cv1 {A:Around} {p q:Addr} {a b c d:Int} {l m:Addr} {xs ys:List Int} (hu:A.units + 100 < cLine) (I:Inv X pins σ H s) (hp:SqT X.K H p [.int a,.int b,.ref l]) (hq:SqT X.K H q [.int c,.int d,.ref m]) (hl:SqL X.K H l (xs.map V.int)) (hm:SqL X.K H m (ys.map V.int)) :
 HT.LtAt A s (.ref p) (.ref q) (HT.bo9 a b xs c d ys):=by
 obtain ⟨its,rv,t1,_⟩:=I.tuple hp
 obtain ⟨its2,rv2,t2,_⟩:=I.tuple hq
 cases rv with | cons ra rv=>cases rv with | cons rb rv=>cases rv with | cons rl rv =>
 cases rv
 cases rv2 with | cons rc rv2=>cases rv2 with | cons rd rv2=>cases rv2 with | cons rm rv2 =>
 cases rv2
 obtain ⟨ta,rfl⟩:=ra
 obtain ⟨tb,rfl⟩:=rb
 obtain ⟨tc,rfl⟩:=rc
 obtain ⟨td,rfl⟩:=rd
 obtain rfl:_=Value.ref l:=rl
 obtain rfl:_=Value.ref m:=rm
 have hu1:A.in1.units + 64 < cLine:=by show A.units + 1 + 64 < cLine; omega
 obtain ⟨el,ll⟩:=aM7 (A:=A.in1) I hl hm hu1
 have ei:∀ (i j:Int) (t u:Tok),SeqAt.EqAt A.in1 s (.int i t) (.int j u) (decide (i=j)):=fun i j t u=>by
  have:=SeqAt.EqAt.int_int (A:=A.in1) (s:=s) i t j u
  rwa [show (i == j)=decide (i=j) from Bool.beq_eq_decide_eq _ _] at this
 have key:=HT.LtAt.tuples (A:=A) (s:=s) (p:=fun j=>if j=0 then (decide (a=c),decide (a < c)) else if j=1 then (decide (b=d),decide (b < d)) else (decide (xs=ys),HT.an4 xs ys)) t1 t2 (by omega) (fun j h1 h2=>by
  have h1':j < 3:=h1
  match j,h1' with
  | 0,_=>exact ⟨ei a c ta tc,fun _=>HT.LtAt.int_int a ta c tc⟩
  | 1,_=>exact ⟨ei b d tb td,fun _=>HT.LtAt.int_int b tb d td⟩
  | 2,_=>exact ⟨el,fun _=>ll⟩)
 have e:HT.lexN (fun j=>if j=0 then (decide (a=c),decide (a < c)) else if j=1 then (decide (b=d),decide (b < d)) else (decide (xs=ys),HT.an4 xs ys)) (decide (3 < 3)) 3 0=HT.bo9 a b xs c d ys:=by
  simp only [HT.lexN,HT.bo9]
  by_cases h1:a=c
  · by_cases h2:b=d
    · by_cases h3:xs=ys
      · subst h3
        simp [h1,h2,aD5]
      · simp [h1,h2,h3]
    · simp [h1,h2]
  · simp [h1]
 exact e ▸ key
end
end L2
namespace Gd
open PySem L2
theorem ag1:bootBuiltins "len" = some (.builtin "len"):=by decide +kernel
theorem bQ0:bootBuiltins "min" = some (.builtin "min"):=by decide +kernel
theorem cz5:bootBuiltins "max" = some (.builtin "max"):=by decide +kernel
theorem ag2:bootBuiltins "isinstance" = some (.builtin "isinstance"):=by decide +kernel
theorem cz4:bootBuiltins "set" = some (.type "set"):=by decide +kernel
theorem aW7:bootBuiltins "list" = some (.type "list"):=by decide +kernel
theorem bc4:bootBuiltins "tuple" = some (.type "tuple"):=by decide +kernel
theorem cj3:bootBuiltins "bool" = some (.type "bool"):=by decide +kernel
theorem cz6:bootBuiltins "int" = some (.type "int"):=by decide +kernel
theorem aX8 {H H':Hp} {q:Addr} {o:HO} (h:H q=none) (e:Same H H'):Same H (upd H' q o):=fun b u z=>by
 rw [ac3 (ac7 z h)]
 exact e b u z
theorem ae8 {H:Hp} {q:Addr} {o:HO} (h:H q=none):Same H (upd H q o):=aX8 h (Same.refl H)
noncomputable def as7 (e:PySem.Expr):Scope:=match e with
 | .ListComp _ _ sc _=>sc
 | _=>{ kind:= .function,names:=[],isGenerator:=false,isCoroutine:=false,more:=[] }
noncomputable def bd7 (s:Stmt):PySem.Expr:=match s with
 | .Assign _ v _=>v
 | .Return (some v) _=>v
 | .Expr v _=>v
 | .For _ it _ _ _=>it
 | .If t _ _ _=>t
 | _=> .Constant .none 0 ⟨0,0,0,0⟩
noncomputable def ck9 (s:Stmt):List Stmt:=match s with
 | .For _ _ b _ _=>b
 | .If _ b _ _=>b
 | .While _ b _ _=>b
 | _=>[]
noncomputable def nth (l:List Stmt) (i:Nat):Stmt:=l.getD i (.Pass ⟨0,0,0,0⟩)
noncomputable abbrev AL:=List (List Int×Int)
noncomputable abbrev kI (k:List Int):List Key:=k.map Sum.inl
noncomputable def encD (D:AL):List (List Key×V):=D.map fun p=>(kI p.1,V.int p.2)
noncomputable def look (D:AL) (k:List Int):Option Int:=(D.find? fun p=>decide (p.1=k)).map (·.2)
noncomputable def But (c:Addr) (H H':Hp):Prop:=∀ b o,H b=some o→b≠c→H' b=some o
theorem But.seq {K:PySem.W.Frag} {c a:Addr} {H H':Hp} {xs:List V} {kvs:List (List Key×V)} (hc:H c=some (.dT kvs)) (e:But c H H') (h:SqL K H a xs):SqL K H' a xs:=by
 rcases h with (h | ⟨o,h⟩) | h
 · exact .inl (.inl (e _ _ h (cb3 h hc (by intro z; cases z))))
 · exact .inl (.inr ⟨o,e _ _ h (cb3 h hc (by intro z; cases z))⟩)
 · exact .inr h
end Gd
namespace L2
open PySem PySem.Spec PyProof.Rows
theorem aD0:∀ {bs:List Bool} {us:List Value} {i:Nat} {u:Value},Vals (bs.map V.bl) us→us[i]?=some u→u= .bool (bs.getD i false)
 | [],us,i,u,r,e=>by
   cases r
   cases e
 | b :: bs,us,i,u,r,e=>by
   rw [List.map_cons] at r
   cases r with
   | cons r1 r2 =>
     cases i with
     | zero =>
       cases e
       exact r1
     | succ i =>
       show u= .bool (bs.getD i false)
       exact aD0 (bs:=bs) (i:=i) r2 (by simpa using e)
theorem aC6 (bs:List Bool):((List.range bs.length).any fun i=>bs.getD i false)=bs.any id:=by
 induction bs with
 | nil=>rfl
 | cons b bs ih =>
   rw [List.length_cons,List.range_succ_eq_map,List.any_cons,List.any_map,List.any_cons,← ih]
   rfl
theorem bx7 {X:Cx} (hc:X.calm=true):au4 X (.builtin "any") (fun xs H Q=>∃ p,∃ bs:List Bool,xs=[.ref p]∧SqL X.K H p (bs.map V.bl)∧Q (.bl (bs.any id)) H):=by
 intro pins s σ H xs us Q I r h
 obtain ⟨p,bs,rfl,hq,q⟩:=h
 obtain ⟨u,rfl,ru⟩:=Vals.one r
 have ru':u=Value.ref p:=ru
 subst ru'
 obtain ⟨its,rv,pl,hz⟩:=I.list hq
 have ln:bs.length=its.length:=by rw [← rv.length,List.length_map]
 obtain ⟨ol,hol,hcl,hdl⟩:=id pl.isList
 have hlt:p < s.heap.objs.size:=Heap.lt_size hol
 refine call_any_walk (wpAny_pyIter_list pl.isList ⟨s.heap.objs.size,_,_,_,_,_,fun i=>bs.getD i false,rfl,Walks.list (A:=X.A.in1) (I.ok.hd hc) _ p (Nat.ne_of_lt hlt) its.toArray,⟨⟨_,Heap.get?_push_size _ rfl,rfl,rfl⟩,⟨ol,Heap.get?_push_of_some _ hol,hcl,hdl⟩⟩,fun i v s' Q' E' hP hQ=>?_,fun h' tk kp=>?_⟩)
 · have e:=aD0 rv (i:=i) (u:=v) (by simpa using hP)
   rw [e]
   exact wpAny_truthy_bool hQ
 · have e:((List.range its.toArray.size).any fun i=>bs.getD i false)=bs.any id:=by
    rw [List.size_toArray,← ln]; exact aC6 bs
   rw [e]
   refine ⟨.bl _,H,I.kept fun b o q=>kp b o (fun z=>?_) (Heap.get?_push_of_some _ q),rfl,q⟩
   have z':b=s.heap.objs.size:=by simpa using z
   exact absurd (Heap.lt_size q) (by rw [z']; exact Nat.lt_irrefl _)
section
variable {prog:Program} {w:World} {A:Around} {R:Result→Shared→Prop} {I:Addr} {fp wr:List Addr} {n:Nat} {P:Nat→Value→Prop} {St:Nat→Heap→Prop}
theorem aN5 (W:Walks prog w A.in1 I fp wr n P St) (kw:List (Str×Value)) (bt:Nat→Nat→Bool) (S:Addr) (nS:S∉fp) (G:Shared→Prop)
 (hG:∀ (s:Shared) h' tk,G s→(∀ b o,b∉wr→b≠S→s.heap.get? b=some o→h'.get? b=some o)→G { s with heap:=h',toks:=tk })
 (cmp:∀ i j vi vj (s:Shared) (Q:Value→Shared→Prop) (E:Value→Shared→Prop),G s→P i vi→P j vj→Q (.bool (bt i j)) s→wpAny (model prog w) A.in1 (richCompare .Lt vi vj) Q E s):∀ (k j:Nat) (s:Shared) (vb:Value) (c:Nat),
 n - (j + 1)=k→j + 1≤n→G s→St (j + 1) s.heap→P (argBest bt j) vb→s.heap.get? S=some { cls:= .type "list",dict:=none,data:= .seq #[vb,vb] c,slots:=#[] } →
 (∀ v h' tk,P (argBest bt (n - 1)) v→(∀ b o,b∉wr→b≠S→s.heap.get? b=some o→h'.get? b=some o)→R (.ok (.ret v)) { s with heap:=h',toks:=tk }) →
 codeAny (model prog w) A (.builtin "min.loop" ⟨[.ref I,.none,.ref S],kw⟩) R s:=by
 have nW:S∉wr:=fun z=>nS (W.sub _ z)
 have nm:(toString "min" ++ toString ".loop" : String) = "min.loop" := by decide
 intro k
 induction k with
 | zero =>
   intro j s vb c e1 e2 g st pb oS fin
   refine codeAny_builtin PySem.F.entry_min_loop ?_
   rw [Around.under_plainId PySem.F.plain_min_loop _]
   refine wpAny_bind (m:=seqItems? (.ref S)) (wpAny_seqItems oS rfl ?_)
   refine wpAny_bind (m:=tryCatch (pyNext (.ref I)) _) (wpAny_tryCatch (W.done s _ _ ((show j + 1=n by omega) ▸ st) fun h' tk kp=>?_))
   refine wpAny_bind (m:=updateSeq S (fun _=>#[])) ?_
   refine wpAny_updateSeq (kp S _ nW oS) rfl (wpAny_bind (wpAny_letGo (wpAny_pure ?_)))
   exact fin vb _ tk (by rw [show n - 1=j by omega]; exact pb) fun b o hw hS e=>(Heap.get?_update_other _ _ (Ne.symm hS)).trans (kp b o hw e)
 | succ k ih =>
   intro j s vb c e1 e2 g st pb oS fin
   have lt:j + 1 < n:=by omega
   refine codeAny_builtin PySem.F.entry_min_loop ?_
   rw [Around.under_plainId PySem.F.plain_min_loop _]
   refine wpAny_bind (m:=seqItems? (.ref S)) (wpAny_seqItems oS rfl ?_)
   refine wpAny_bind (m:=tryCatch (pyNext (.ref I)) _) (wpAny_tryCatch (W.item (j + 1) s _ _ lt st fun v h' tk pv st' kp=>?_))
   have oS':=kp S _ nW oS
   have g':G { s with heap:=h',toks:=tk }:=hG s h' tk g fun b o hw _ e=>kp b o hw e
   refine wpAny_bind (m:=tryCatch (holding [v,v] (richCompare .Lt v vb >>= _)) _) (wpAny_tryCatch (wpAny_holding (wpAny_bind (cmp (j + 1) (argBest bt j) v vb _ _ _ g' pv pb ?_))))
   refine wpAny_bind (wpAny_holding (wpAny_truthy_bool (wpAny_bind (wpAny_letGo (wpAny_pure ?_)))))
   cases eb:bt (j + 1) (argBest bt j) with
   | true =>
     rw [if_pos rfl]
     refine wpAny_bind ?_
     refine wpAny_updateSeq oS' rfl (wpAny_bind (wpAny_letGo ?_))
     rw [nm]
     refine wpAny_pure ⟨plainId_quiet PySem.F.plain_min_loop _,ih (j + 1) _ v _ (by omega) lt (hG _ _ tk g' fun b o hw hS e=>(Heap.get?_update_other _ _ (Ne.symm hS)).trans e) (W.frame _ _ _ st' fun b hb o e=>?_) (by simp only [argBest,eb,if_true]; exact pv) (Heap.get?_update_self _ oS' rfl) fun v' h'' tk'' pv' kp''=>?_⟩
     · exact (Heap.get?_update_other _ _ (fun z:S=b=>nS (by rw [z]; exact hb))).trans e
     · exact fin v' h'' tk'' pv' fun b o hw hS e=>kp'' b o hw hS ((Heap.get?_update_other _ _ (Ne.symm hS)).trans (kp b o hw e))
   | false =>
     rw [if_neg Bool.false_ne_true]
     refine wpAny_bind (wpAny_letGo ?_)
     rw [nm]
     exact wpAny_pure ⟨plainId_quiet PySem.F.plain_min_loop _,ih (j + 1) _ vb c (by omega) lt g' st' (by simp only [argBest,eb,Bool.false_eq_true,if_false]; exact pb) oS' fun v' h'' tk'' pv' kp''=>fin v' h'' tk'' pv' fun b o hw hS e=>kp'' b o hw hS (kp b o hw e)⟩
end
section
variable {prog:Program} {w:World} {A:Around} {E:Value→Shared→Prop} {s:Shared}
theorem bg3 {x d:Value} {Q:Value→Shared→Prop}
 (h:wpAny (model prog w) A.in1 (pyIter x) (fun it s₂=>∃ I fp wr n P St bt,∃ G:Shared→Prop,it= .ref I∧Walks prog w A.in1 I fp wr n P St∧St 0 s₂.heap∧(∀ b∈fp,b < s₂.heap.objs.size) ∧
   G s₂∧(∀ (s:Shared) h' tk,G s→(∀ b o,b∉wr→b≠s₂.heap.objs.size→s.heap.get? b=some o→h'.get? b=some o)→G { s with heap:=h',toks:=tk }) ∧
   (∀ i j vi vj (s:Shared) (Q:Value→Shared→Prop) (E:Value→Shared→Prop),G s→P i vi→P j vj→Q (.bool (bt i j)) s→wpAny (model prog w) A.in1 (richCompare .Lt vi vj) Q E s) ∧
   (n=0→∀ h' tk,(∀ b o,b∉wr→s₂.heap.get? b=some o→h'.get? b=some o)→Q d { s₂ with heap:=h',toks:=tk }) ∧
   (0 < n→∀ v h' tk,P (argBest bt (n - 1)) v→(∀ b o,b∉wr→s₂.heap.get? b=some o→h'.get? b=some o)→Q v { s₂ with heap:=h',toks:=tk })) E s) :
 wpAny (model prog w) A (call (.builtin "min") [x] [(Str.ofString "default",d)]) Q E s:=by
 have nm:(toString "min" ++ toString ".loop" : String) = "min.loop" := by decide
 refine kmk_tree PySem.F.kind_min PySem.F.plain_min PySem.F.entry_min (aO4 _ _) ?_
 refine wpAny_bind (m:=Builtin.Builtins.bindParams "min" ["key", "default"] 0 ⟨[],[(Str.ofString "default",d)]⟩) (wpAny_of_eq (show _=pure [none,some d] from rfl) ?_)
 refine wpAny_bind (wpAny_pure (wpAny_bind (wpAny_mono h (fun it s₂ h₂=>?_) fun _ _ e=>e)))
 obtain ⟨I,fp,wr,n,P,St,bt,G,rfl,W,st,lts,g0,hG,cmp,q0,q1⟩:=h₂
 refine wpAny_bind (wpAny_newObj_type ?_)
 have nS:s₂.heap.objs.size∉fp:=fun z=>Nat.lt_irrefl _ (lts _ z)
 have nW:s₂.heap.objs.size∉wr:=fun z=>nS (W.sub _ z)
 rw [nm]
 have st1:=W.frame _ _ (s₂.heap.push { cls:= .type "list",dict:=none,data:= .seq ([]:List Value).toArray }) st fun b _ o e=>Heap.get?_push_of_some _ e
 have oS:(s₂.heap.push { cls:= .type "list",dict:=none,data:= .seq ([]:List Value).toArray }).get? s₂.heap.objs.size=some { cls:= .type "list",dict:=none,data:= .seq ([]:List Value).toArray }:=Heap.get?_push_size _ rfl
 refine wpAny_pure ⟨plainId_quiet PySem.F.plain_min_loop _,codeAny_builtin PySem.F.entry_min_loop ?_⟩
 rw [Around.under_plainId PySem.F.plain_min_loop _]
 refine wpAny_bind (m:=seqItems? (.ref s₂.heap.objs.size)) (wpAny_seqItems oS rfl ?_)
 by_cases hn:n=0
 · refine wpAny_bind (m:=tryCatch (pyNext (.ref I)) _) (wpAny_tryCatch (W.done _ _ _ (hn ▸ st1) fun h' tk kp=>?_))
   refine wpAny_bind (m:=rule _) (wpAny_rule (wpAny_pure ?_))
   exact q0 hn h' tk fun b o hw e=>kp b o hw (Heap.get?_push_of_some _ e)
 · have lt:0 < n:=Nat.pos_of_ne_zero hn
   refine wpAny_bind (m:=tryCatch (pyNext (.ref I)) _) (wpAny_tryCatch (W.item 0 _ _ _ lt st1 fun v h' tk pv st' kp=>?_))
   have oS':=kp _ _ nW oS
   refine wpAny_bind (m:=updateSeq s₂.heap.objs.size (fun _=>#[v,v])) ?_
   refine wpAny_updateSeq oS' rfl ?_
   rw [nm]
   refine wpAny_pure ⟨plainId_quiet PySem.F.plain_min_loop _,aN5 W _ bt _ nS G hG cmp _ 0 _ v _ rfl lt (hG s₂ _ _ g0 fun b o hw hS e=>(Heap.get?_update_other _ _ (Ne.symm hS)).trans (kp b o hw (Heap.get?_push_of_some _ e))) (W.frame _ _ _ st' fun b hb o e=>?_) pv (Heap.get?_update_self _ oS' rfl) fun v' h'' tk'' pv' kp''=>?_⟩
   · exact (Heap.get?_update_other _ _ (fun z:s₂.heap.objs.size=b=>nS (by rw [z]; exact hb))).trans e
   · exact q1 lt v' h'' tk'' pv' fun b o hw e=>kp'' b o hw (Nat.ne_of_lt (Heap.lt_size e)) ((Heap.get?_update_other _ _ (Nat.ne_of_gt (Heap.lt_size e))).trans (kp b o hw (Heap.get?_push_of_some _ e)))
end
noncomputable def KeyV (K:PySem.W.Frag) (H:Hp) (v:V) (k:Int×Int×List Int):Prop:=∃ p l,v= .ref p∧SqT K H p [.int k.1,.int k.2.1,.ref l]∧SqL K H l (k.2.2.map V.int)
noncomputable def ah8 (a b:Int×Int×List Int):Bool:=HT.bo9 a.1 a.2.1 a.2.2 b.1 b.2.1 b.2.2
theorem aE6:∀ {vs:List V} {us:List Value} {i:Nat} {u:Value},Vals vs us→us[i]?=some u→∃ v,vs[i]?=some v∧RelV v u
 | [],us,i,u,r,e=>by cases r; cases e
 | v :: vs,us,i,u,r,e=>by
   cases r with
   | cons r1 r2 =>
     cases i with
     | zero=>cases e; exact ⟨v,rfl,r1⟩
     | succ i=>exact aE6 (i:=i) r2 (by simpa using e)
theorem au3 (bt:Nat→Nat→Bool):∀ k,argBest bt k≤k
 | 0=>Nat.le_refl _
 | k + 1=>by
   unfold argBest
   split
   · exact Nat.le_refl _
   · exact Nat.le_succ_of_le (au3 bt k)
theorem bg0 {X:Cx} (hc:X.calm=true) (hu:X.A.units + 101 < cLine):aC0 X (.builtin "min") ["default"] (fun xs zs H Q=>∃ p vs d,∃ ks:List (Int×Int×List Int),xs=[.ref p]∧zs=[d]∧SqL X.K H p vs∧vs.length=ks.length∧(∀ i v,vs[i]?=some v→KeyV X.K H v (ks.getD i (0,0,[]))) ∧
 (vs=[]→Q d H)∧∀ v,vs[argBest (fun i j=>ah8 (ks.getD i (0,0,[])) (ks.getD j (0,0,[]))) (vs.length - 1)]?=some v→Q v H):=by
 intro pins s σ H xs zs us ws Q I r rz h
 obtain ⟨p,vs,d,ks,rfl,rfl,hq,hlen,hk,q0,q1⟩:=h
 obtain ⟨u,rfl,ru⟩:=Vals.one r
 have ru':u=Value.ref p:=ru
 subst ru'
 obtain ⟨dv,rfl,rd⟩:=Vals.one rz
 obtain ⟨its,rv,pl,hz⟩:=I.list hq
 have ln:vs.length=its.length:=rv.length
 obtain ⟨ol,hol,hcl,hdl⟩:=id pl.isList
 have hlt:p < s.heap.objs.size:=Heap.lt_size hol
 refine bg3 (wpAny_pyIter_list pl.isList ⟨s.heap.objs.size,_,_,_,_,_,fun i j=>ah8 (ks.getD i (0,0,[])) (ks.getD j (0,0,[])),fun s'=>∃ h' tk,s'={ s with heap:=h',toks:=tk }∧∀ b o,s.heap.get? b=some o→h'.get? b=some o,rfl,Walks.list (A:=X.A.in1) (I.ok.hd hc) _ p (Nat.ne_of_lt hlt) its.toArray,⟨⟨_,Heap.get?_push_size _ rfl,rfl,rfl⟩,⟨ol,Heap.get?_push_of_some _ hol,hcl,hdl⟩⟩,fun b hb=>?_,?_,?_,?_,fun e h' tk kp=>?_,fun e v h' tk pv kp=>?_⟩)
 · rw [Heap.size_push]
   rcases List.mem_cons.mp hb with z | z
   · rw [z]; exact Nat.lt_succ_self _
   · have z':b=p:=by simpa using z
     rw [z']; exact Nat.lt_succ_of_lt hlt
 · exact ⟨_,_,rfl,fun b o e=>Heap.get?_push_of_some _ e⟩
 · rintro s' h' tk ⟨h1,t1,rfl,k1⟩ kp
   refine ⟨h',tk,rfl,fun b o e=>kp b o (fun z=>?_) (fun z=>?_) (k1 b o e)⟩
   · have z':b=s.heap.objs.size:=by simpa using z
     exact absurd (Heap.lt_size e) (by rw [z']; exact Nat.lt_irrefl _)
   · have z':b=s.heap.objs.size + 1:=by rw [z,Heap.size_push]
     exact absurd (Heap.lt_size e) (by rw [z']; exact Nat.not_lt.mpr (Nat.le_succ _))
 · rintro i j vi vj s' Q' E' ⟨h1,t1,rfl,k1⟩ pi pj hq'
   have I1:Inv X pins σ H { s with heap:=h1,toks:=t1 }:=I.kept k1
   obtain ⟨v1,e1,r1⟩:=aE6 rv (i:=i) (u:=vi) (by simpa using pi)
   obtain ⟨v2,e2,r2⟩:=aE6 rv (i:=j) (u:=vj) (by simpa using pj)
   obtain ⟨p1,l1,rfl,a1,b1⟩:=hk i v1 e1
   obtain ⟨p2,l2,rfl,a2,b2⟩:=hk j v2 e2
   obtain rfl:vi=Value.ref p1:=r1
   obtain rfl:vj=Value.ref p2:=r2
   exact cv1 (A:=X.A.in1) (by show X.A.units + 1 + 100 < cLine; omega) I1 a1 a2 b1 b2 X.prog X.w E' Q' hq'
 · have en:vs=[]:=List.length_eq_zero_iff.mp (by rw [ln]; simpa using e)
   refine ⟨d,H,I.kept fun b o q=>kp b o (fun z=>?_) (Heap.get?_push_of_some _ q),rd,q0 en⟩
   have z':b=s.heap.objs.size:=by simpa using z
   exact absurd (Heap.lt_size q) (by rw [z']; exact Nat.lt_irrefl _)
 · rw [show its.toArray.size - 1=vs.length - 1 by rw [List.size_toArray,ln],List.getElem?_toArray] at pv
   obtain ⟨v1,e1,r1⟩:=aE6 rv pv
   refine ⟨v1,H,I.kept fun b o q=>kp b o (fun z=>?_) (Heap.get?_push_of_some _ q),r1,q1 _ e1⟩
   have z':b=s.heap.objs.size:=by simpa using z
   exact absurd (Heap.lt_size q) (by rw [z']; exact Nat.lt_irrefl _)
end L2
namespace Mi
open PySem L2
inductive D where
 | non | bl (b:Bool) | int (i:Int) | str (x:Str) | ty (n:String)
 | lst (xs:List D) | tup (xs:List D) | scr (xs:List D)
 | dK (ks:List Key) (vs:List D) | dT (ks:List (List Key)) (vs:List D)
 | obj (c:Nat) (ns:List Str) (vs:List D)
noncomputable abbrev Env:=List (Option D)
inductive Res (α:Type) where
 | ok (a:α) | exc (c:Nat) | bad
inductive Out (α:Type) where
 | ok (a:α) (ρ:Env) | exc (c:Nat) (ρ:Env) | bad
inductive SO where
 | nx (ρ:Env) | rt (d:D) (ρ:Env) | bk (ρ:Env) | ct (ρ:Env) | exc (c:Nat) (ρ:Env) | bad
@[simp] noncomputable def Res.bind {α β:Type}:Res α→(α→Res β)→Res β
 | .ok a,f=>f a
 | .exc c,_=> .exc c
 | .bad,_=> .bad
@[simp] noncomputable def Res.calm {α:Type}:Res α→Res α
 | .ok a=> .ok a
 | _=> .bad
@[simp] noncomputable def Out.bind {α β:Type}:Out α→(α→Env→Out β)→Out β
 | .ok a ρ,f=>f a ρ
 | .exc c ρ,_=> .exc c ρ
 | .bad,_=> .bad
@[simp] noncomputable def Res.up {α:Type} (ρ:Env):Res α→Out α
 | .ok a=> .ok a ρ
 | .exc c=> .exc c ρ
 | .bad=> .bad
noncomputable def rg {α:Type} (l:List (Option α)) (i:Nat):Option α:=(l[i]?).join
@[simp] noncomputable def vr (i:Nat):Env→Res D:=fun ρ=>match rg ρ i with | some d=> .ok d | none=> .bad
noncomputable def cst (d:D):Env→Res D:=fun _=> .ok d
noncomputable def un (f:D→Res D) (a:Env→Res D):Env→Res D:=fun ρ=>(a ρ).bind f
noncomputable def bn (f:D→D→Res D) (a b:Env→Res D):Env→Res D:=fun ρ=>(a ρ).bind fun x=>(b ρ).bind fun y=>f x y
noncomputable def aa7:Nat:=1000000
noncomputable def iI (g:Int→Int→Int):D→D→Res D | .int i,.int j=> .ok (.int (g i j)) | _,_=> .bad
noncomputable def iB (g:Int→Int→Bool):D→D→Res D | .int i,.int j=> .ok (.bl (g i j)) | _,_=> .bad
noncomputable def iC (C:Int→Int→Bool) (g:Int→Int→Int):D→D→Res D | .int i,.int j=>if C i j=true then .ok (.int (g i j)) else .bad | _,_=> .bad
noncomputable def addI:=iI fun i j=>i + j
noncomputable def mulI:=iC (fun i j=>decide ((-(2 ^ 64) < i∧i < 2 ^ 64)∨(-(2 ^ 64) < j∧j < 2 ^ 64))) fun i j=>i * j
noncomputable def bq4:=iC (fun _ j=>decide (0 < j∧j < 1073741824)) fun i j=>i / j
noncomputable def modI:=iC (fun _ j=>decide (0 < j)) fun i j=>i % j
noncomputable def powI:=iC (fun i j=>decide (0≤j∧j≤1000000∧i.natAbs < 2 ^ 64)) fun i j=>i ^ j.toNat
noncomputable def ltI:=iB fun i j=>decide (i < j)
noncomputable def gtI:=iB fun i j=>decide (j < i)
noncomputable def geI:=iB fun i j=>decide (j≤i)
@[simp] theorem addI_int (i j:Int):addI (.int i) (.int j)= .ok (.int (i + j)):=rfl
@[simp] theorem bE5 (i j:Int):mulI (.int i) (.int j)=if (-(2 ^ 64) < i∧i < 2 ^ 64)∨(-(2 ^ 64) < j∧j < 2 ^ 64) then .ok (.int (i * j)) else .bad:=by simp [mulI,iC]
@[simp] theorem bq3 (i j:Int):bq4 (.int i) (.int j)=if 0 < j∧j < 1073741824 then .ok (.int (i / j)) else .bad:=by simp [bq4,iC]
@[simp] theorem bE7 (i j:Int):modI (.int i) (.int j)=if 0 < j then .ok (.int (i % j)) else .bad:=by simp [modI,iC]
@[simp] theorem bC7 (i j:Int):powI (.int i) (.int j)=if 0≤j∧j≤1000000∧i.natAbs < 2 ^ 64 then .ok (.int (i ^ j.toNat)) else .bad:=by simp [powI,iC]
@[simp] theorem ltI_int (i j:Int):ltI (.int i) (.int j)= .ok (.bl (decide (i < j))):=rfl
@[simp] theorem gtI_int (i j:Int):gtI (.int i) (.int j)= .ok (.bl (decide (j < i))):=rfl
@[simp] theorem geI_int (i j:Int):geI (.int i) (.int j)= .ok (.bl (decide (j≤i))):=rfl
noncomputable def negI:D→Res D | .int i=> .ok (.int (-i)) | _=> .bad
noncomputable def notB:D→Res D | .bl b=> .ok (.bl (!b)) | _=> .bad
noncomputable def eqS (neg:Bool):D→D→Res D
 | .int i,.int j=> .ok (.bl (neg.xor (decide (i=j))))
 | .str i,.str j=> .ok (.bl (neg.xor (decide (i=j))))
 | .bl i,.bl j=> .ok (.bl (neg.xor (decide (i=j))))
 | .non,.int _=> .ok (.bl neg)
 | .int _,.non=> .ok (.bl neg)
 | .non,.non=> .ok (.bl (!neg))
 | _,_=> .bad
noncomputable def aM6:D→Bool | .non=>true | _=>false
noncomputable def lenD:D→Res D
 | .lst xs=> .ok (.int xs.length)
 | .tup xs=> .ok (.int xs.length)
 | .scr xs=> .ok (.int xs.length)
 | _=> .bad
noncomputable def atD (xs:List D) (i:Int):Res D:=match atI xs i with | some d=> .ok d | none=> .bad
noncomputable def ixL:D→D→Res D | .lst xs,.int i=>atD xs i | .scr xs,.int i=>atD xs i | _,_=> .bad
noncomputable def ixT:D→D→Res D | .tup xs,.int i=>atD xs i | _,_=> .bad
noncomputable def catL:D→D→Res D | .lst xs,.lst ys=>if xs.length + ys.length≤aa7 then .ok (.lst (xs ++ ys)) else .bad | _,_=> .bad
noncomputable def ai1:D→Option Key | .int i=>some (.inl i) | .str x=>some (.inr x) | _=>none
noncomputable def am4:List D→Option (List Key)
 | []=>some []
 | d :: r=>match ai1 d,am4 r with | some k,some ks=>some (k :: ks) | _,_=>none
section
variable {κ:Type} [DecidableEq κ]
noncomputable def ai9:List κ→List D→κ→Option D
 | k :: ks,d :: ds,j=>if k=j then some d else ai9 ks ds j
 | _,_,_=>none
noncomputable def hasK (ks:List κ) (j:κ):Bool:=ks.any fun k=>decide (k=j)
noncomputable def putV:List κ→List D→κ→D→List D
 | k :: ks,d :: ds,j,x=>(if k=j then x else d) :: putV ks ds j x
 | _,_,_,_=>[]
noncomputable def aq7:List κ→List D→κ→D→List D
 | k :: ks,d :: ds,j,x=>if k=j then x :: ds else d :: aq7 ks ds j x
 | _,_,_,_=>[]
end
noncomputable def aS9:D→D→Option (Option D)
 | .dT ks vs,.tup k=>(am4 k).map fun k=>ai9 ks vs k
 | .dK ks vs,k=>(ai1 k).map fun k=>ai9 ks vs k
 | _,_=>none
noncomputable def dinD (neg:Bool) (k d:D):Res D:=match aS9 d k with | some x=> .ok (.bl (neg.xor x.isSome)) | none=> .bad
noncomputable def av3 (d k x:D):Res D:=match aS9 d k with | some (some y)=> .ok y | some none=> .ok x | none=> .bad
noncomputable def br3:D→D→D→Option D
 | .dT ks vs,.tup k,x=>(am4 k).bind fun k=>if ks.length < aa7 then some (if hasK ks k=true then .dT ks (putV ks vs k x) else .dT (ks ++ [k]) (vs ++ [x])) else none
 | .dK ks vs,k,x=>(ai1 k).bind fun k=>if ks.length < aa7 then some (if hasK ks k=true then .dK ks (putV ks vs k x) else .dK (ks ++ [k]) (vs ++ [x])) else none
 | _,_,_=>none
noncomputable def fldD (c:Nat) (f:Str):D→Res D
 | .obj c' ns vs=>if c'=c then (match ai9 ns vs f with | some x=> .ok x | none=> .bad) else .bad
 | _=> .bad
noncomputable def bC6 (c₀:Nat) (f:Str) (x:D):D→Option D
 | .obj c ns vs=>if c=c₀∧ns.length < 900 then some (if hasK ns f=true then .obj c ns (aq7 ns vs f x) else .obj c (ns ++ [f]) (vs ++ [x])) else none
 | _=>none
noncomputable def truB:D→Res Bool | .bl b=> .ok b | _=> .bad
noncomputable def andD (a b:Env→Res D):Env→Res D:=fun ρ=>((a ρ).bind truB).bind fun c=>if c=true then b ρ else .ok (.bl false)
noncomputable def iteD (c:Env→Res Bool) (a b:Env→Res D):Env→Res D:=fun ρ=>(c ρ).bind fun c=>if c=true then a ρ else b ρ
noncomputable def esN:Env→Res (List D):=fun _=> .ok []
noncomputable def esC (a:Env→Res D) (r:Env→Res (List D)):Env→Res (List D):=fun ρ=>(a ρ).bind fun x=>(r ρ).bind fun xs=> .ok (x :: xs)
noncomputable def mkL (r:Env→Res (List D)):Env→Res D:=fun ρ=>(r ρ).bind fun xs=>if xs.length≤aa7 then .ok (.lst xs) else .bad
noncomputable def mkT (r:Env→Res (List D)):Env→Res D:=fun ρ=>(r ρ).bind fun xs=>if xs.length≤aa7 then .ok (.tup xs) else .bad
noncomputable def capD (ρ:Env) (ix:List Nat):Env:=ix.map fun j=>rg ρ j
noncomputable def aj5 (ti:Env→Res Bool) (te:Env→Res D) (cap:Env):List D→Res (List D)
 | []=> .ok []
 | d :: r=>(ti (some d :: cap)).calm.bind fun c=>if c=true then (te (some d :: cap)).calm.bind fun x=>(aj5 ti te cap r).bind fun xs=> .ok (x :: xs) else aj5 ti te cap r
noncomputable def comp (src:Env→Res (List D)) (ix:List Nat) (ti:Env→Res Bool) (te:Env→Res D):Env→Res D:=fun ρ=>(src ρ).bind fun xs=>if xs.length < aa7 then (aj5 ti te (capD ρ ix) xs).bind fun ys=> .ok (.lst ys) else .bad
noncomputable def srcL (a:Env→Res D):Env→Res (List D):=fun ρ=>(a ρ).bind fun d=>match d with | .lst xs=> .ok xs | .scr xs=> .ok xs | _=> .bad
noncomputable def rng (lo hi:Int):List D:=(List.range (hi - lo).toNat).map fun i:Nat=>D.int (lo + i)
noncomputable def srcR (a b:Env→Res D):Env→Res (List D):=fun ρ=>(a ρ).bind fun x=>(b ρ).bind fun y=>match x,y with
 | .int i,.int j=>if -(2 ^ 62)≤i∧i < 2 ^ 62∧-(2 ^ 62)≤j∧j < 2 ^ 62 then .ok (rng i j) else .bad
 | _,_=> .bad
noncomputable def aJ7 (b:Env→Res D):Env→Res (List D):=srcR (cst (.int 0)) b
noncomputable def seqS (a b:Env→SO):Env→SO:=fun ρ=>match a ρ with | .nx ρ'=>b ρ' | o=>o
noncomputable def af2:Env→SO:=fun ρ=> .nx ρ
@[simp] noncomputable def ax3 {α:Type}:Out α→(α→Env→SO)→SO
 | .ok a ρ,f=>f a ρ
 | .exc c ρ,_=> .exc c ρ
 | .bad,_=> .bad
noncomputable abbrev MD:=Env→Out D
noncomputable def liP {α:Type} (a:Env→Res α):Env→Out α:=fun ρ=>(a ρ).up ρ
noncomputable def retS (a:MD):Env→SO:=fun ρ=>ax3 (a ρ) fun d ρ'=> .rt d ρ'
noncomputable def ak5 (a:MD):Env→SO:=fun ρ=>ax3 (a ρ) fun _ ρ'=> .nx ρ'
noncomputable def setS (i:Nat) (a:MD):Env→SO:=fun ρ=>ax3 (a ρ) fun d ρ'=> .nx (ρ'.set i (some d))
noncomputable def ifS (c:Env→Out Bool) (a b:Env→SO):Env→SO:=fun ρ=>ax3 (c ρ) fun t ρ'=>if t=true then a ρ' else b ρ'
noncomputable def forS (tgt:D→Env→Option Env) (body:Env→SO):List D→Env→SO
 | [],ρ=> .nx ρ
 | d :: ds,ρ=>match tgt d ρ with
   | none=> .bad
   | some ρ1=>match body ρ1 with
     | .nx ρ'=>forS tgt body ds ρ'
     | .ct ρ'=>forS tgt body ds ρ'
     | .bk ρ'=> .nx ρ'
     | o=>o
noncomputable def av9 (src:Env→Out (List D)) (tgt:D→Env→Option Env) (body:Env→SO):Env→SO:=fun ρ=>ax3 (src ρ) fun xs ρ'=>forS tgt body xs ρ'
noncomputable def whS (c:Env→Out Bool) (body:Env→SO):Nat→Env→SO
 | 0,_=> .bad
 | n + 1,ρ=>ax3 (c ρ) fun t ρ1=>if t=true then (match body ρ1 with
    | .nx ρ'=>whS c body n ρ'
    | .ct ρ'=>whS c body n ρ'
    | .bk ρ'=> .nx ρ'
    | o=>o) else .nx ρ1
noncomputable def tgN (i:Nat):D→Env→Option Env:=fun d ρ=>some (ρ.set i (some d))
noncomputable def run (k:Nat) (body:Env→SO) (ds:List D):Out D:=match body (ds.map some ++ List.replicate (k - ds.length) none) with
 | .nx ρ=> .ok .non ρ
 | .rt d ρ=> .ok d ρ
 | .exc c ρ=> .exc c ρ
 | _=> .bad
structure Cm where
 f:Nat→Addr
 K:PySem.W.Frag
 tb:Tbs
noncomputable instance:CoeFun Cm fun _=>Nat→Addr:=⟨Cm.f⟩
noncomputable def SqF (K:PySem.W.Frag) (B:Hp) (a:Addr) (xs:List V):Prop:=(∃ o,B a=some (.frz o (.lst xs))) ∨
 ∃ (o:Obj) (its:Array Value) (n:Nat),K.lookup a=some o∧o.cls= .type "list" ∧ o.dict=none∧o.data= .seq its n∧its.size≤sizeLine∧Vals xs its.toList
theorem SqF.mono {K:PySem.W.Frag} {B B':Hp} {a:Addr} {xs:List V} (h:SqF K B a xs) (e:Same B B'):SqF K B' a xs:=by
 rcases h with ⟨o,h⟩ | h
 · exact .inl ⟨o,e _ _ h⟩
 · exact .inr h
theorem SqF.sq {K:PySem.W.Frag} {H:Hp} {a:Addr} {xs:List V} (h:SqF K H a xs):SqL K H a xs:=by
 rcases h with ⟨o,h⟩ | h
 · exact .inl (.inr ⟨o,h⟩)
 · exact .inr h
section
variable (cm:Cm)
mutual
noncomputable def Dn (B:Hp):D→V→Prop
 | .non,v=>v= .non
 | .bl b,v=>v= .bl b
 | .int i,v=>v= .int i
 | .str x,v=>v= .str x
 | .ty n,v=>v= .ty n
 | .lst ds,v=>∃ a xs,v= .ref a∧B a=some (.lst xs)∧Dns B ds xs
 | .scr ds,v=>∃ a xs,v= .ref a∧SqF cm.K B a xs∧Dns B ds xs
 | .tup ds,v=>∃ a xs,v= .ref a∧B a=some (.tup xs)∧Dns B ds xs
 | .dK ks ds,v=>∃ (a:Addr) (kvs:List (Key×V)),v= .ref a∧B a=some (.dK kvs)∧kvs.map (·.1)=ks∧Dns B ds (kvs.map (·.2))
 | .dT ks ds,v=>∃ (a:Addr) (kvs:List (List Key×V)),v= .ref a∧B a=some (.dT kvs)∧kvs.map (·.1)=ks∧Dns B ds (kvs.map (·.2))
 | .obj c ns ds,v=>∃ (a dx:Addr) (fs:List (Str×V)),v= .ref a∧B a=some (.ins (cm c) dx fs)∧fs.map (·.1)=ns∧Dns B ds (fs.map (·.2))
noncomputable def Dns (B:Hp):List D→List V→Prop
 | [],xs=>xs=[]
 | d :: ds,xs=>∃ x r,xs=x :: r∧Dn B d x∧Dns B ds r
end
inductive Sh where
 | fz | ct (s:Sh) | ob (fs:List (Str×Sh))
mutual
noncomputable def Ow (B H:Hp):D→Sh→V→List Addr→Prop
 | d,.fz,v,A=>Dn cm B d v∧A=[]
 | .lst ds,.ct s,v,A=>∃ a xs A',v= .ref a∧H a=some (.lst xs)∧A=a :: A'∧Ows B H ds s xs A'
 | .dK ks ds,.ct s,v,A=>∃ (a:Addr) (kvs:List (Key×V)) (A':List Addr),v= .ref a∧H a=some (.dK kvs)∧kvs.map (·.1)=ks∧A=a :: A'∧Ows B H ds s (kvs.map (·.2)) A'
 | .dT ks ds,.ct s,v,A=>∃ (a:Addr) (kvs:List (List Key×V)) (A':List Addr),v= .ref a∧H a=some (.dT kvs)∧kvs.map (·.1)=ks∧A=a :: A'∧Ows B H ds s (kvs.map (·.2)) A'
 | .obj c ns ds,.ob fs,v,A=>∃ (a dx:Addr) (xs:List (Str×V)) (A':List Addr),v= .ref a∧H a=some (.ins (cm c) dx xs)∧xs.map (·.1)=ns∧A=a :: A'∧Owf B H ds ns fs (xs.map (·.2)) A'
 | _,_,_,_=>False
noncomputable def Ows (B H:Hp):List D→Sh→List V→List Addr→Prop
 | [],_,xs,A=>xs=[]∧A=[]
 | d :: ds,s,xs,A=>∃ x r A1 A2,xs=x :: r∧A=A1 ++ A2∧Ow B H d s x A1∧Ows B H ds s r A2
noncomputable def Owf (B H:Hp):List D→List Str→List (Str×Sh)→List V→List Addr→Prop
 | [],_,_,xs,A=>xs=[]∧A=[]
 | d :: ds,ns,fs,xs,A=>∃ n ns' x r A1 A2,ns=n :: ns'∧xs=x :: r∧A=A1 ++ A2∧Ow B H d ((fs.lookup n).getD .fz) x A1∧Owf B H ds ns' fs r A2
end
inductive Md where
 | F | R | O (s:Sh)
noncomputable def LoV (B U H:Hp) (m:Md) (d:D) (v:V) (A:List Addr):Prop :=
 match m with
 | .F=>Dn cm B d v∧A=[]
 | .R=>Dn cm U d v∧A=[]
 | .O sh=>Ow cm B H d sh v A
noncomputable def Lo (B U H:Hp) (m:Md) (o:Option D) (s:Option V) (A:List Addr):Prop :=
 match o with
 | none=>A=[]
 | some d=>∃ v,s=some v∧LoV cm B U H m d v A
structure Rel (ms:List Md) (B U:Hp) (As:Nat→List Addr) (σ:St) (H:Hp) (ρ:Env):Prop where
 bu:Same B U
 uh:Same U H
 nd:∀ i,(As i).Nodup
 dj:∀ i j a,i≠j→a∈As i→a∉As j
 un:∀ i a,a∈As i→U a=none
 lo:∀ i,Lo cm B U H (ms.getD i .F) (rg ρ i) (rg σ i) (As i)
 len:ρ.length=σ.length
 tb:∀ p∈cm.tb,∃ l,B p.1=some (.tbl l)∧p.2∈l
end
noncomputable def aG7 (o:HO):Prop:=∃ xs,o= .tup xs
structure Ex (B U B' U':Hp):Prop where
 b:Same B B'
 u:Same U U'
 nb:∀ a o,B' a=some o→B a=some o∨U a=none∨aG7 o
theorem Ex.refl (B U:Hp):Ex B U B U:=⟨Same.refl _,Same.refl _,fun _ _ h=> .inl h⟩
theorem Ex.trans {B U B1 U1 B2 U2:Hp} (a:Ex B U B1 U1) (b:Ex B1 U1 B2 U2):Ex B U B2 U2 :=
 ⟨a.b.trans b.b,a.u.trans b.u,fun c o h=>by
  rcases b.nb c o h with h | h | h
  · exact a.nb c o h
  · exact .inr (.inl (a.u.free h))
  · exact .inr (.inr h)⟩
section
variable {cm:Cm}
mutual
theorem Dn.mono {B B':Hp} (e:Same B B'):∀ {d:D} {v:V},Dn cm B d v→Dn cm B' d v
 | .non,_,h=>by rw [Dn] at h ⊢; exact h
 | .bl _,_,h=>by rw [Dn] at h ⊢; exact h
 | .int _,_,h=>by rw [Dn] at h ⊢; exact h
 | .str _,_,h=>by rw [Dn] at h ⊢; exact h
 | .ty _,_,h=>by rw [Dn] at h ⊢; exact h
 | .lst ds,_,h=>by
   rw [Dn] at h ⊢
   obtain ⟨a,xs,r,h1,h2⟩:=h
   exact ⟨a,xs,r,e _ _ h1,Dns.mono e h2⟩
 | .scr ds,_,h=>by
   rw [Dn] at h ⊢
   obtain ⟨a,xs,r,h1,h2⟩:=h
   exact ⟨a,xs,r,h1.mono e,Dns.mono e h2⟩
 | .tup ds,_,h=>by
   rw [Dn] at h ⊢
   obtain ⟨a,xs,r,h1,h2⟩:=h
   exact ⟨a,xs,r,e _ _ h1,Dns.mono e h2⟩
 | .dK ks ds,_,h=>by
   rw [Dn] at h ⊢
   obtain ⟨a,xs,r,h1,h2,h3⟩:=h
   exact ⟨a,xs,r,e _ _ h1,h2,Dns.mono e h3⟩
 | .dT ks ds,_,h=>by
   rw [Dn] at h ⊢
   obtain ⟨a,xs,r,h1,h2,h3⟩:=h
   exact ⟨a,xs,r,e _ _ h1,h2,Dns.mono e h3⟩
 | .obj c ns ds,_,h=>by
   rw [Dn] at h ⊢
   obtain ⟨a,dx,xs,r,h1,h2,h3⟩:=h
   exact ⟨a,dx,xs,r,e _ _ h1,h2,Dns.mono e h3⟩
theorem Dns.mono {B B':Hp} (e:Same B B'):∀ {ds:List D} {xs:List V},Dns cm B ds xs→Dns cm B' ds xs
 | [],_,h=>by rw [Dns] at h ⊢; exact h
 | d :: ds,_,h=>by
   rw [Dns] at h ⊢
   obtain ⟨x,r,h0,h1,h2⟩:=h
   exact ⟨x,r,h0,Dn.mono e h1,Dns.mono e h2⟩
end
theorem Dns.len {B:Hp}:∀ {ds:List D} {xs:List V},Dns cm B ds xs→ds.length=xs.length
 | [],_,h=>by rw [Dns] at h; subst h; rfl
 | d :: ds,_,h=>by
   rw [Dns] at h
   obtain ⟨x,r,rfl,_,h2⟩:=h
   rw [List.length_cons,List.length_cons,Dns.len h2]
theorem Dns.get {B:Hp}:∀ {ds:List D} {xs:List V} {i:Nat} {d:D},Dns cm B ds xs→ds[i]?=some d→∃ x,xs[i]?=some x∧Dn cm B d x
 | [],_,_,_,_,e=>by cases e
 | d :: ds,_,i,d',h,e=>by
   rw [Dns] at h
   obtain ⟨x,r,rfl,h1,h2⟩:=h
   cases i with
   | zero=>cases e; exact ⟨x,rfl,h1⟩
   | succ i=>exact Dns.get (i:=i) h2 (by simpa using e)
theorem Dns.geti {B:Hp}:∀ {ds:List D} {xs:List V} {i:Nat} {x:V},Dns cm B ds xs→xs[i]?=some x→∃ d,ds[i]?=some d∧Dn cm B d x
 | [],_,_,_,h,e=>by rw [Dns] at h; subst h; cases e
 | d :: ds,_,i,x',h,e=>by
   rw [Dns] at h
   obtain ⟨x,r,rfl,h1,h2⟩:=h
   cases i with
   | zero=>cases e; exact ⟨d,rfl,h1⟩
   | succ i=>exact Dns.geti (i:=i) h2 (by simpa using e)
theorem Dns.append {B:Hp}:∀ {ds es:List D} {xs ys:List V},Dns cm B ds xs→Dns cm B es ys→Dns cm B (ds ++ es) (xs ++ ys)
 | [],_,_,_,h,k=>by rw [Dns] at h; subst h; exact k
 | d :: ds,_,_,_,h,k=>by
   rw [Dns] at h
   obtain ⟨x,r,rfl,h1,h2⟩:=h
   rw [List.cons_append,List.cons_append,Dns]
   exact ⟨x,_,rfl,h1,Dns.append h2 k⟩
theorem Dns.one {B:Hp} {d:D} {v:V} (h:Dn cm B d v):Dns cm B [d] [v]:=by
 rw [Dns]
 exact ⟨v,[],rfl,h,by rw [Dns]⟩
theorem Dns.drop {B:Hp}:∀ {ds:List D} {xs:List V} (n:Nat),Dns cm B ds xs→Dns cm B (ds.drop n) (xs.drop n)
 | [],_,n,h=>by rw [Dns] at h; subst h; rw [List.drop_nil,List.drop_nil,Dns]
 | d :: ds,_,n,h=>by
   cases n with
   | zero=>exact h
   | succ n =>
     rw [Dns] at h
     obtain ⟨x,r,rfl,h1,h2⟩:=h
     exact Dns.drop n h2
theorem Dns.erase {B:Hp}:∀ {ds:List D} {xs:List V} (n:Nat),Dns cm B ds xs→Dns cm B (ds.eraseIdx n) (xs.eraseIdx n)
 | [],_,n,h=>by rw [Dns] at h; subst h; rw [List.eraseIdx_nil,List.eraseIdx_nil,Dns]
 | d :: ds,_,n,h=>by
   rw [Dns] at h
   obtain ⟨x,r,rfl,h1,h2⟩:=h
   cases n with
   | zero=>exact h2
   | succ n =>
     rw [List.eraseIdx_cons_succ,List.eraseIdx_cons_succ,Dns]
     exact ⟨x,_,rfl,h1,Dns.erase n h2⟩
theorem Dns.set {B:Hp} {d':D} {v:V} (hd:Dn cm B d' v):∀ {ds:List D} {xs:List V} (n:Nat),Dns cm B ds xs→Dns cm B (ds.set n d') (xs.set n v)
 | [],_,n,h=>by rw [Dns] at h; subst h; rw [List.set_nil,List.set_nil,Dns]
 | d :: ds,_,n,h=>by
   rw [Dns] at h
   obtain ⟨x,r,rfl,h1,h2⟩:=h
   cases n with
   | zero=>rw [List.set_cons_zero,List.set_cons_zero,Dns]; exact ⟨v,r,rfl,hd,h2⟩
   | succ n =>
     rw [List.set_cons_succ,List.set_cons_succ,Dns]
     exact ⟨x,_,rfl,h1,Dns.set hd n h2⟩
mutual
theorem Ow.mono {B B' H H':Hp} (e:Same B B'):∀ {d:D} {s:Sh} {v:V} {A:List Addr},(∀ a∈A,H' a=H a)→Ow cm B H d s v A→Ow cm B' H' d s v A
 | d,.fz,v,A,k,h=>by
   rw [Ow] at h ⊢
   exact ⟨h.1.mono e,h.2⟩
 | .lst ds,.ct s,v,A,k,h=>by
   rw [Ow] at h ⊢
   obtain ⟨a,xs,A',r,h1,h2,h3⟩:=h
   subst h2
   exact ⟨a,xs,A',r,by rw [k a List.mem_cons_self]; exact h1,rfl,Ows.mono e (fun b hb=>k b (List.mem_cons_of_mem _ hb)) h3⟩
 | .dK ks ds,.ct s,v,A,k,h=>by
   rw [Ow] at h ⊢
   obtain ⟨a,xs,A',r,h1,h2,h3,h4⟩:=h
   subst h3
   exact ⟨a,xs,A',r,by rw [k a List.mem_cons_self]; exact h1,h2,rfl,Ows.mono e (fun b hb=>k b (List.mem_cons_of_mem _ hb)) h4⟩
 | .dT ks ds,.ct s,v,A,k,h=>by
   rw [Ow] at h ⊢
   obtain ⟨a,xs,A',r,h1,h2,h3,h4⟩:=h
   subst h3
   exact ⟨a,xs,A',r,by rw [k a List.mem_cons_self]; exact h1,h2,rfl,Ows.mono e (fun b hb=>k b (List.mem_cons_of_mem _ hb)) h4⟩
 | .obj c ns ds,.ob fs,v,A,k,h=>by
   rw [Ow] at h ⊢
   obtain ⟨a,dx,xs,A',r,h1,h2,h3,h4⟩:=h
   subst h3
   exact ⟨a,dx,xs,A',r,by rw [k a List.mem_cons_self]; exact h1,h2,rfl,Owf.mono e (fun b hb=>k b (List.mem_cons_of_mem _ hb)) h4⟩
 | .non,.ct _,_,_,_,h=>by simp [Ow] at h
 | .bl _,.ct _,_,_,_,h=>by simp [Ow] at h
 | .int _,.ct _,_,_,_,h=>by simp [Ow] at h
 | .str _,.ct _,_,_,_,h=>by simp [Ow] at h
 | .ty _,.ct _,_,_,_,h=>by simp [Ow] at h
 | .tup _,.ct _,_,_,_,h=>by simp [Ow] at h
 | .scr _,.ct _,_,_,_,h=>by simp [Ow] at h
 | .obj _ _ _,.ct _,_,_,_,h=>by simp [Ow] at h
 | .non,.ob _,_,_,_,h=>by simp [Ow] at h
 | .bl _,.ob _,_,_,_,h=>by simp [Ow] at h
 | .int _,.ob _,_,_,_,h=>by simp [Ow] at h
 | .str _,.ob _,_,_,_,h=>by simp [Ow] at h
 | .ty _,.ob _,_,_,_,h=>by simp [Ow] at h
 | .tup _,.ob _,_,_,_,h=>by simp [Ow] at h
 | .scr _,.ob _,_,_,_,h=>by simp [Ow] at h
 | .lst _,.ob _,_,_,_,h=>by simp [Ow] at h
 | .dK _ _,.ob _,_,_,_,h=>by simp [Ow] at h
 | .dT _ _,.ob _,_,_,_,h=>by simp [Ow] at h
theorem Ows.mono {B B' H H':Hp} (e:Same B B'):∀ {ds:List D} {s:Sh} {xs:List V} {A:List Addr},(∀ a∈A,H' a=H a)→Ows cm B H ds s xs A→Ows cm B' H' ds s xs A
 | [],_,_,_,_,h=>by rw [Ows] at h ⊢; exact h
 | d :: ds,s,xs,A,k,h=>by
   rw [Ows] at h ⊢
   obtain ⟨x,r,A1,A2,h0,h1,h2,h3⟩:=h
   subst h1
   exact ⟨x,r,A1,A2,h0,rfl,Ow.mono e (fun b hb=>k b (List.mem_append_left _ hb)) h2,Ows.mono e (fun b hb=>k b (List.mem_append_right _ hb)) h3⟩
theorem Owf.mono {B B' H H':Hp} (e:Same B B'):∀ {ds:List D} {ns:List Str} {fs:List (Str×Sh)} {xs:List V} {A:List Addr},(∀ a∈A,H' a=H a)→Owf cm B H ds ns fs xs A→Owf cm B' H' ds ns fs xs A
 | [],_,_,_,_,_,h=>by rw [Owf] at h ⊢; exact h
 | d :: ds,ns,fs,xs,A,k,h=>by
   rw [Owf] at h ⊢
   obtain ⟨n,ns',x,r,A1,A2,hn,h0,h1,h2,h3⟩:=h
   subst h1
   exact ⟨n,ns',x,r,A1,A2,hn,h0,rfl,Ow.mono e (fun b hb=>k b (List.mem_append_left _ hb)) h2,Owf.mono e (fun b hb=>k b (List.mem_append_right _ hb)) h3⟩
end
end
section
variable {cm:Cm}
mutual
theorem Ow.dn {B H G:Hp} (e:Same B G):∀ {d:D} {s:Sh} {v:V} {A:List Addr},(∀ a∈A,∀ o,H a=some o→G a=some o)→Ow cm B H d s v A→Dn cm G d v
 | d,.fz,v,A,k,h=>by
   rw [Ow] at h
   exact h.1.mono e
 | .lst ds,.ct s,v,A,k,h=>by
   rw [Ow] at h
   obtain ⟨a,xs,A',r,h1,h2,h3⟩:=h
   subst h2
   rw [Dn]
   exact ⟨a,xs,r,k a List.mem_cons_self _ h1,Ows.dn e (fun b hb=>k b (List.mem_cons_of_mem _ hb)) h3⟩
 | .dK ks ds,.ct s,v,A,k,h=>by
   rw [Ow] at h
   obtain ⟨a,xs,A',r,h1,h2,h3,h4⟩:=h
   subst h3
   rw [Dn]
   exact ⟨a,xs,r,k a List.mem_cons_self _ h1,h2,Ows.dn e (fun b hb=>k b (List.mem_cons_of_mem _ hb)) h4⟩
 | .dT ks ds,.ct s,v,A,k,h=>by
   rw [Ow] at h
   obtain ⟨a,xs,A',r,h1,h2,h3,h4⟩:=h
   subst h3
   rw [Dn]
   exact ⟨a,xs,r,k a List.mem_cons_self _ h1,h2,Ows.dn e (fun b hb=>k b (List.mem_cons_of_mem _ hb)) h4⟩
 | .obj c ns ds,.ob fs,v,A,k,h=>by
   rw [Ow] at h
   obtain ⟨a,dx,xs,A',r,h1,h2,h3,h4⟩:=h
   subst h3
   rw [Dn]
   exact ⟨a,dx,xs,r,k a List.mem_cons_self _ h1,h2,Owf.dn e (fun b hb=>k b (List.mem_cons_of_mem _ hb)) h4⟩
 | .non,.ct _,_,_,_,h=>by simp [Ow] at h
 | .bl _,.ct _,_,_,_,h=>by simp [Ow] at h
 | .int _,.ct _,_,_,_,h=>by simp [Ow] at h
 | .str _,.ct _,_,_,_,h=>by simp [Ow] at h
 | .ty _,.ct _,_,_,_,h=>by simp [Ow] at h
 | .tup _,.ct _,_,_,_,h=>by simp [Ow] at h
 | .scr _,.ct _,_,_,_,h=>by simp [Ow] at h
 | .obj _ _ _,.ct _,_,_,_,h=>by simp [Ow] at h
 | .non,.ob _,_,_,_,h=>by simp [Ow] at h
 | .bl _,.ob _,_,_,_,h=>by simp [Ow] at h
 | .int _,.ob _,_,_,_,h=>by simp [Ow] at h
 | .str _,.ob _,_,_,_,h=>by simp [Ow] at h
 | .ty _,.ob _,_,_,_,h=>by simp [Ow] at h
 | .tup _,.ob _,_,_,_,h=>by simp [Ow] at h
 | .scr _,.ob _,_,_,_,h=>by simp [Ow] at h
 | .lst _,.ob _,_,_,_,h=>by simp [Ow] at h
 | .dK _ _,.ob _,_,_,_,h=>by simp [Ow] at h
 | .dT _ _,.ob _,_,_,_,h=>by simp [Ow] at h
theorem Ows.dn {B H G:Hp} (e:Same B G):∀ {ds:List D} {s:Sh} {xs:List V} {A:List Addr},(∀ a∈A,∀ o,H a=some o→G a=some o)→Ows cm B H ds s xs A→Dns cm G ds xs
 | [],_,_,_,_,h=>by rw [Ows] at h; rw [Dns]; exact h.1
 | d :: ds,s,xs,A,k,h=>by
   rw [Ows] at h
   obtain ⟨x,r,A1,A2,h0,h1,h2,h3⟩:=h
   subst h1
   rw [Dns]
   exact ⟨x,r,h0,Ow.dn e (fun b hb=>k b (List.mem_append_left _ hb)) h2,Ows.dn e (fun b hb=>k b (List.mem_append_right _ hb)) h3⟩
theorem Owf.dn {B H G:Hp} (e:Same B G):∀ {ds:List D} {ns:List Str} {fs:List (Str×Sh)} {xs:List V} {A:List Addr},(∀ a∈A,∀ o,H a=some o→G a=some o)→Owf cm B H ds ns fs xs A→Dns cm G ds xs
 | [],_,_,_,_,_,h=>by rw [Owf] at h; rw [Dns]; exact h.1
 | d :: ds,ns,fs,xs,A,k,h=>by
   rw [Owf] at h
   obtain ⟨n,ns',x,r,A1,A2,hn,h0,h1,h2,h3⟩:=h
   subst h1
   rw [Dns]
   exact ⟨x,r,h0,Ow.dn e (fun b hb=>k b (List.mem_append_left _ hb)) h2,Owf.dn e (fun b hb=>k b (List.mem_append_right _ hb)) h3⟩
end
mutual
theorem Ow.at2 {B H:Hp}:∀ {d:D} {s:Sh} {v:V} {A:List Addr} {a:Addr},Ow cm B H d s v A→a∈A→∃ o,H a=some o∧¬ aG7 o
 | d,.fz,v,A,a,h,m=>by
   rw [Ow] at h
   rw [h.2] at m
   cases m
 | .lst ds,.ct s,v,A,a,h,m=>by
   rw [Ow] at h
   obtain ⟨b,xs,A',r,h1,h2,h3⟩:=h
   subst h2
   rcases List.mem_cons.mp m with e | m
   · refine ⟨_,by rw [e]; exact h1,?_⟩
     rintro ⟨_,z⟩
     cases z
   · exact Ows.at2 h3 m
 | .dK ks ds,.ct s,v,A,a,h,m=>by
   rw [Ow] at h
   obtain ⟨b,xs,A',r,h1,h2,h3,h4⟩:=h
   subst h3
   rcases List.mem_cons.mp m with e | m
   · refine ⟨_,by rw [e]; exact h1,?_⟩
     rintro ⟨_,z⟩
     cases z
   · exact Ows.at2 h4 m
 | .dT ks ds,.ct s,v,A,a,h,m=>by
   rw [Ow] at h
   obtain ⟨b,xs,A',r,h1,h2,h3,h4⟩:=h
   subst h3
   rcases List.mem_cons.mp m with e | m
   · refine ⟨_,by rw [e]; exact h1,?_⟩
     rintro ⟨_,z⟩
     cases z
   · exact Ows.at2 h4 m
 | .obj c ns ds,.ob fs,v,A,a,h,m=>by
   rw [Ow] at h
   obtain ⟨b,dx,xs,A',r,h1,h2,h3,h4⟩:=h
   subst h3
   rcases List.mem_cons.mp m with e | m
   · refine ⟨_,by rw [e]; exact h1,?_⟩
     rintro ⟨_,z⟩
     cases z
   · exact Owf.at2 h4 m
 | .non,.ct _,_,_,_,h,_=>by simp [Ow] at h
 | .bl _,.ct _,_,_,_,h,_=>by simp [Ow] at h
 | .int _,.ct _,_,_,_,h,_=>by simp [Ow] at h
 | .str _,.ct _,_,_,_,h,_=>by simp [Ow] at h
 | .ty _,.ct _,_,_,_,h,_=>by simp [Ow] at h
 | .tup _,.ct _,_,_,_,h,_=>by simp [Ow] at h
 | .scr _,.ct _,_,_,_,h,_=>by simp [Ow] at h
 | .obj _ _ _,.ct _,_,_,_,h,_=>by simp [Ow] at h
 | .non,.ob _,_,_,_,h,_=>by simp [Ow] at h
 | .bl _,.ob _,_,_,_,h,_=>by simp [Ow] at h
 | .int _,.ob _,_,_,_,h,_=>by simp [Ow] at h
 | .str _,.ob _,_,_,_,h,_=>by simp [Ow] at h
 | .ty _,.ob _,_,_,_,h,_=>by simp [Ow] at h
 | .tup _,.ob _,_,_,_,h,_=>by simp [Ow] at h
 | .scr _,.ob _,_,_,_,h,_=>by simp [Ow] at h
 | .lst _,.ob _,_,_,_,h,_=>by simp [Ow] at h
 | .dK _ _,.ob _,_,_,_,h,_=>by simp [Ow] at h
 | .dT _ _,.ob _,_,_,_,h,_=>by simp [Ow] at h
theorem Ows.at2 {B H:Hp}:∀ {ds:List D} {s:Sh} {xs:List V} {A:List Addr} {a:Addr},Ows cm B H ds s xs A→a∈A→∃ o,H a=some o∧¬ aG7 o
 | [],_,_,_,_,h,m=>by rw [Ows] at h; rw [h.2] at m; cases m
 | d :: ds,s,xs,A,a,h,m=>by
   rw [Ows] at h
   obtain ⟨x,r,A1,A2,h0,h1,h2,h3⟩:=h
   subst h1
   rcases List.mem_append.mp m with m | m
   · exact Ow.at2 h2 m
   · exact Ows.at2 h3 m
theorem Owf.at2 {B H:Hp}:∀ {ds:List D} {ns:List Str} {fs:List (Str×Sh)} {xs:List V} {A:List Addr} {a:Addr},Owf cm B H ds ns fs xs A→a∈A→∃ o,H a=some o∧¬ aG7 o
 | [],_,_,_,_,_,h,m=>by rw [Owf] at h; rw [h.2] at m; cases m
 | d :: ds,ns,fs,xs,A,a,h,m=>by
   rw [Owf] at h
   obtain ⟨n,ns',x,r,A1,A2,hn,h0,h1,h2,h3⟩:=h
   subst h1
   rcases List.mem_append.mp m with m | m
   · exact Ow.at2 h2 m
   · exact Owf.at2 h3 m
end
theorem Ow.at {B H:Hp} {d:D} {s:Sh} {v:V} {A:List Addr} {a:Addr} (h:Ow cm B H d s v A) (m:a∈A):∃ o,H a=some o:=let ⟨o,e,_⟩:=Ow.at2 h m; ⟨o,e⟩
theorem Owf.at {B H:Hp} {ds:List D} {ns:List Str} {fs:List (Str×Sh)} {xs:List V} {A:List Addr} {a:Addr} (h:Owf cm B H ds ns fs xs A) (m:a∈A):∃ o,H a=some o:=let ⟨o,e,_⟩:=Owf.at2 h m; ⟨o,e⟩
theorem Ows.of {B H:Hp}:∀ {ds:List D} {xs:List V},Dns cm B ds xs→Ows cm B H ds .fz xs []
 | [],_,h=>by rw [Dns] at h; rw [Ows]; exact ⟨h,rfl⟩
 | d :: ds,_,h=>by
   rw [Dns] at h
   obtain ⟨x,r,h0,h1,h2⟩:=h
   rw [Ows]
   exact ⟨x,r,[],[],h0,rfl,by rw [Ow]; exact ⟨h1,rfl⟩,Ows.of h2⟩
theorem Ows.fz {B H:Hp}:∀ {ds:List D} {xs:List V} {A:List Addr},Ows cm B H ds .fz xs A→Dns cm B ds xs∧A=[]
 | [],_,_,h=>by rw [Ows] at h; rw [Dns]; exact h
 | d :: ds,_,_,h=>by
   rw [Ows] at h
   obtain ⟨x,r,A1,A2,h0,h1,h2,h3⟩:=h
   rw [Ow] at h2
   obtain ⟨h4,h5⟩:=Ows.fz h3
   rw [Dns]
   exact ⟨⟨x,r,h0,h2.1,h4⟩,by rw [h1,h2.2,h5]; rfl⟩
theorem Lo.at2 {B U H:Hp} {m:Md} {o:Option D} {s:Option V} {A:List Addr} {a:Addr} (h:Lo cm B U H m o s A) (ha:a∈A):∃ o,H a=some o∧¬ aG7 o:=by
 unfold Lo at h
 cases o with
 | none=>simp only at h; rw [h] at ha; cases ha
 | some d =>
   obtain ⟨v,_,h⟩:=h
   cases m with
   | F=>have h:Dn cm B d v∧A=[]:=h; rw [h.2] at ha; cases ha
   | R=>have h:Dn cm U d v∧A=[]:=h; rw [h.2] at ha; cases ha
   | O sh=>exact Ow.at2 h ha
theorem Lo.at {B U H:Hp} {m:Md} {o:Option D} {s:Option V} {A:List Addr} {a:Addr} (h:Lo cm B U H m o s A) (ha:a∈A):∃ o,H a=some o:=let ⟨o,e,_⟩:=h.at2 ha; ⟨o,e⟩
theorem Lo.mono {B U H B' U' H':Hp} {m:Md} {o:Option D} {s:Option V} {A:List Addr} (h:Lo cm B U H m o s A) (e:Same B B') (f:Same U U') (k:∀ a∈A,H' a=H a):Lo cm B' U' H' m o s A:=by
 unfold Lo at h ⊢
 cases o with
 | none=>exact h
 | some d =>
   obtain ⟨v,hv,h⟩:=h
   refine ⟨v,hv,?_⟩
   cases m with
   | F=>exact ⟨h.1.mono e,h.2⟩
   | R=>exact ⟨h.1.mono f,h.2⟩
   | O sh=>exact Ow.mono e k h
variable {ms:List Md} {B U H B' U' H':Hp} {As:Nat→List Addr} {σ:St} {ρ:Env}
theorem Rel.at (R:Rel cm ms B U As σ H ρ) {i:Nat} {a:Addr} (h:a∈As i):∃ o,H a=some o:=(R.lo i).at h
theorem Rel.nt (R:Rel cm ms B U As σ H ρ) {i:Nat} {a:Addr} {o:HO} (h:a∈As i) (e:H a=some o) (z:aG7 o):False:=by
 obtain ⟨o',e',n⟩:=(R.lo i).at2 h
 rw [e] at e'; cases e'; exact n z
theorem Rel.fresh (R:Rel cm ms B U As σ H ρ) {p:Addr} (h:H p=none) (i:Nat):p∉As i:=fun m=>by
 obtain ⟨o,e⟩:=R.at m
 rw [h] at e
 cases e
theorem Rel.grow (R:Rel cm ms B U As σ H ρ) (e:Same B B') (f:Same U U') (g:Same H H') (bu:Same B' U') (uh:Same U' H') (un:∀ i a,a∈As i→U' a=none):Rel cm ms B' U' As σ H' ρ :=
 ⟨bu,uh,R.nd,R.dj,un,fun i=>(R.lo i).mono e f fun a ha=>by
  obtain ⟨o,q⟩:=R.at ha
  rw [q,g a o q],R.len,fun p hp=>let ⟨l,h1,h2⟩:=R.tb p hp; ⟨l,e _ _ h1,h2⟩⟩
theorem Rel.bh (R:Rel cm ms B U As σ H ρ):Same B H:=R.bu.trans R.uh
theorem Rel.new (R:Rel cm ms B U As σ H ρ) {p:Addr} {o:HO} (h:H p=none):Rel cm ms B U As σ (upd H p o) ρ :=
 R.grow (Same.refl _) (Same.refl _) (Gd.ae8 h) R.bu (R.uh.trans (Gd.ae8 h)) R.un
theorem aK4 {G G':Hp} {p:Addr} {o:HO} (e:Same G G'):Same (upd G p o) (upd G' p o):=fun b u q=>by
 by_cases z:b=p
 · subst z; rw [ac4] at q ⊢; exact q
 · rw [ac3 z] at q ⊢; exact e b u q
theorem Rel.newB (R:Rel cm ms B U As σ H ρ) {p:Addr} {o:HO} (h:H p=none):Rel cm ms (upd B p o) (upd U p o) As σ (upd H p o) ρ :=
 R.grow (Gd.ae8 (R.bh.free h)) (Gd.ae8 (R.uh.free h)) (Gd.ae8 h) (aK4 R.bu) (aK4 R.uh) fun i a ha=>by
  rw [ac3 (fun z:a=p=>R.fresh h i (z ▸ ha))]
  exact R.un i a ha
theorem Ex.newB (R:Rel cm ms B U As σ H ρ) {p:Addr} {o:HO} (h:H p=none):Ex B U (upd B p o) (upd U p o) :=
 ⟨Gd.ae8 (R.bh.free h),Gd.ae8 (R.uh.free h),fun a u q=>by
  by_cases z:a=p
  · subst z; exact .inr (.inl (R.uh.free h))
  · rw [ac3 z] at q; exact .inl q⟩
noncomputable def frz (B H:Hp) (A:List Addr):Hp:=fun a=>if a∈A then H a else B a
theorem ao2 {A:List Addr} (e:Same B H):Same B (frz B H A):=fun a o q=>by
 unfold frz
 split
 · exact e a o q
 · exact q
theorem cf9 {A:List Addr} (e:Same B H):Same (frz B H A) H:=fun a o q=>by
 unfold frz at q
 split at q
 · exact q
 · exact e a o q
theorem bG3 {A:List Addr} (e:Same B U):Same (frz B H A) (frz U H A):=fun a o q=>by
 unfold frz at q ⊢
 split
 · rename_i z; rw [if_pos z] at q; exact q
 · rename_i z; rw [if_neg z] at q; exact e a o q
end
noncomputable abbrev KT (α β:Type):=α→β→Hp→Hp→Hp→List Addr→Prop
inductive Kd where
 | F | U | X
noncomputable def hp:Kd→Hp→Hp→Hp→Hp
 | .F,B,_,_=>B
 | .U,_,U,_=>U
 | .X,_,_,H=>H
structure Gw (B U H B' U' H':Hp):Prop extends Ex B U B' U' where
 h:Same H H'
 fr:∀ a o,U' a=some o→U a=some o∨H a=none∨aG7 o
theorem Gw.refl (B U H:Hp):Gw B U H B U H:=⟨Ex.refl _ _,Same.refl _,fun _ _ h=> .inl h⟩
theorem Gw.trans {B U H B1 U1 H1 B2 U2 H2:Hp} (a:Gw B U H B1 U1 H1) (b:Gw B1 U1 H1 B2 U2 H2):Gw B U H B2 U2 H2 :=
 ⟨a.toEx.trans b.toEx,a.h.trans b.h,fun c o h=>by
  rcases b.fr c o h with h | h | h
  · exact a.fr c o h
  · exact .inr (.inl (a.h.free h))
  · exact .inr (.inr h)⟩
structure New (N:List Addr) (H U:Hp) (As:Nat→List Addr):Prop where
 nd:N.Nodup
 fr:∀ a∈N,H a=none
 un:∀ a∈N,U a=none
theorem New.nil {H U:Hp} {As:Nat→List Addr}:New [] H U As:=⟨List.nodup_nil,fun _ h=>(nomatch h),fun _ h=>(nomatch h)⟩
section
variable (cm:Cm)
noncomputable def Cn (G H:Hp):D→V→Prop
 | .lst ds,v=>∃ a xs,v= .ref a∧H a=some (.lst xs)∧Dns cm G ds xs
 | .scr ds,v=>∃ a xs,v= .ref a∧SqF cm.K H a xs∧Dns cm G ds xs
 | .tup ds,v=>∃ a xs,v= .ref a∧H a=some (.tup xs)∧Dns cm G ds xs
 | .dK ks ds,v=>∃ (a:Addr) (kvs:List (Key×V)),v= .ref a∧H a=some (.dK kvs)∧kvs.map (·.1)=ks∧Dns cm G ds (kvs.map (·.2))
 | .dT ks ds,v=>∃ (a:Addr) (kvs:List (List Key×V)),v= .ref a∧H a=some (.dT kvs)∧kvs.map (·.1)=ks∧Dns cm G ds (kvs.map (·.2))
 | .obj c ns ds,v=>∃ (a dx:Addr) (fs:List (Str×V)),v= .ref a∧H a=some (.ins (cm c) dx fs)∧fs.map (·.1)=ns∧Dns cm G ds (fs.map (·.2))
 | d,v=>Dn cm G d v
noncomputable def KR (k:Kd):KT D V:=fun d v B U H _=>Dn cm (hp k B U H) d v
noncomputable def KC (k:Kd):KT D V:=fun d v B U H _=>Cn cm (hp k B U H) H d v
noncomputable def KO (s:Sh):KT D V:=fun d v B U H N=>Ow cm B H d s v N
noncomputable def KB:KT Bool Bool:=fun b c _ _ _ _=>b=c
noncomputable def KL (k:Kd):KT (List D) (List V):=fun d v B U H _=>Dns cm (hp k B U H) d v
noncomputable def Po {α β:Type} (K:KT α β) (E:XK) (ms:List Md) (B U:Hp) (As:Nat→List Addr) (σ:St) (H:Hp) (ρ:Env) (r:Res α) (Q:β→Hp→Prop):Prop :=
 match r with
 | .ok d=>∀ v B' U' H' N,Rel cm ms B' U' As σ H' ρ→Gw B U H B' U' H'→New N H U' As→K d v B' U' H' N→Q v H'
 | .exc c=>∀ B' U' H',Rel cm ms B' U' As σ H' ρ→Gw B U H B' U' H'→∀ oa,E (.ref (cm c)) oa H'
 | .bad=>False
noncomputable def PJ {α β:Type} (K:KT α β) (E:XK) (ms:List Md) (t:St→Hp→(β→Hp→Prop)→Prop) (m:Env→Res α):Prop :=
 ∀ B U As σ H ρ Q,Rel cm ms B U As σ H ρ→Po cm K E ms B U As σ H ρ (m ρ) Q→t σ H Q
end
section
variable {cm:Cm} {E:XK} {ms:List Md} {B U H:Hp} {As:Nat→List Addr} {σ:St} {ρ:Env}
theorem New.up {N:List Addr} {H1:Hp} (h:New N H1 U As) (s:Same H H1):New N H U As:=⟨h.nd,fun a ha=>s.free (h.fr a ha),h.un⟩
theorem Po.at {α β:Type} {K:KT α β} {B1 U1 H1:Hp} {r:Res α} {Q:β→Hp→Prop} (P:Po cm K E ms B U As σ H ρ r Q) (e:Gw B U H B1 U1 H1):Po cm K E ms B1 U1 As σ H1 ρ r Q:=by
 cases r with
 | ok d=>exact fun v B' U' H' N R' e' n' k=>P v B' U' H' N R' (e.trans e') (n'.up e.h) k
 | exc c=>exact fun B' U' H' R' e'=>P B' U' H' R' (e.trans e')
 | bad=>exact P
theorem PJ.bnd {α β γ δ:Type} {Ka:KT α β} {Kc:KT γ δ} {ta:St→Hp→(β→Hp→Prop)→Prop} {ma:Env→Res α} (ha:PJ cm Ka E ms ta ma) (R:Rel cm ms B U As σ H ρ) {k:α→Res γ} {Q:δ→Hp→Prop}
 (P:Po cm Kc E ms B U As σ H ρ ((ma ρ).bind k) Q) {body:β→Hp→Prop}
 (h:∀ x v B1 U1 H1 N,ma ρ= .ok x→Rel cm ms B1 U1 As σ H1 ρ→Gw B U H B1 U1 H1→New N H U1 As→Ka x v B1 U1 H1 N→Po cm Kc E ms B1 U1 As σ H1 ρ (k x) Q→body v H1):ta σ H body:=by
 refine ha B U As σ H ρ body R ?_
 cases e:ma ρ with
 | ok x =>
   rw [e] at P
   exact fun v B1 U1 H1 N R1 e1 n1 k1=>h x v B1 U1 H1 N e R1 e1 n1 k1 (Po.at (r:=k x) P e1)
 | exc c=>rw [e] at P; exact P
 | bad=>rw [e] at P; exact P
theorem at4 {k:Kd} {B1 U1 H1:Hp} (e:Gw B U H B1 U1 H1):Same (hp k B U H) (hp k B1 U1 H1):=by
 cases k with
 | F=>exact e.b
 | U=>exact e.u
 | X=>exact e.h
theorem Cn.mono {G G' H H':Hp} (e:Same G G') (f:Same H H') {d:D} {v:V} (h:Cn cm G H d v):Cn cm G' H' d v:=by
 cases d with
 | lst ds=>obtain ⟨a,xs,r,h1,h2⟩:=h; exact ⟨a,xs,r,f _ _ h1,h2.mono e⟩
 | scr ds=>obtain ⟨a,xs,r,h1,h2⟩:=h; exact ⟨a,xs,r,h1.mono f,h2.mono e⟩
 | tup ds=>obtain ⟨a,xs,r,h1,h2⟩:=h; exact ⟨a,xs,r,f _ _ h1,h2.mono e⟩
 | dK ks ds=>obtain ⟨a,xs,r,h1,h2,h3⟩:=h; exact ⟨a,xs,r,f _ _ h1,h2,h3.mono e⟩
 | dT ks ds=>obtain ⟨a,xs,r,h1,h2,h3⟩:=h; exact ⟨a,xs,r,f _ _ h1,h2,h3.mono e⟩
 | obj c ns ds=>obtain ⟨a,dx,xs,r,h1,h2,h3⟩:=h; exact ⟨a,dx,xs,r,f _ _ h1,h2,h3.mono e⟩
 | non=>exact Dn.mono e h
 | bl _=>exact Dn.mono e h
 | int _=>exact Dn.mono e h
 | str _=>exact Dn.mono e h
 | ty _=>exact Dn.mono e h
theorem Dn.cn {G H:Hp} (f:Same G H) {d:D} {v:V} (h:Dn cm G d v):Cn cm G H d v:=by
 cases d with
 | lst ds=>rw [Dn] at h; obtain ⟨a,xs,r,h1,h2⟩:=h; exact ⟨a,xs,r,f _ _ h1,h2⟩
 | scr ds=>rw [Dn] at h; obtain ⟨a,xs,r,h1,h2⟩:=h; exact ⟨a,xs,r,h1.mono f,h2⟩
 | tup ds=>rw [Dn] at h; obtain ⟨a,xs,r,h1,h2⟩:=h; exact ⟨a,xs,r,f _ _ h1,h2⟩
 | dK ks ds=>rw [Dn] at h; obtain ⟨a,xs,r,h1,h2,h3⟩:=h; exact ⟨a,xs,r,f _ _ h1,h2,h3⟩
 | dT ks ds=>rw [Dn] at h; obtain ⟨a,xs,r,h1,h2,h3⟩:=h; exact ⟨a,xs,r,f _ _ h1,h2,h3⟩
 | obj c ns ds=>rw [Dn] at h; obtain ⟨a,dx,xs,r,h1,h2,h3⟩:=h; exact ⟨a,dx,xs,r,f _ _ h1,h2,h3⟩
 | non=>exact h
 | bl _=>exact h
 | int _=>exact h
 | str _=>exact h
 | ty _=>exact h
theorem Cn.dn {H:Hp} {d:D} {v:V} (h:Cn cm H H d v):Dn cm H d v:=by
 cases d with
 | lst ds=>obtain ⟨a,xs,r,h1,h2⟩:=h; rw [Dn]; exact ⟨a,xs,r,h1,h2⟩
 | scr ds=>obtain ⟨a,xs,r,h1,h2⟩:=h; rw [Dn]; exact ⟨a,xs,r,h1,h2⟩
 | tup ds=>obtain ⟨a,xs,r,h1,h2⟩:=h; rw [Dn]; exact ⟨a,xs,r,h1,h2⟩
 | dK ks ds=>obtain ⟨a,xs,r,h1,h2,h3⟩:=h; rw [Dn]; exact ⟨a,xs,r,h1,h2,h3⟩
 | dT ks ds=>obtain ⟨a,xs,r,h1,h2,h3⟩:=h; rw [Dn]; exact ⟨a,xs,r,h1,h2,h3⟩
 | obj c ns ds=>obtain ⟨a,dx,xs,r,h1,h2,h3⟩:=h; rw [Dn]; exact ⟨a,dx,xs,r,h1,h2,h3⟩
 | non=>exact h
 | bl _=>exact h
 | int _=>exact h
 | str _=>exact h
 | ty _=>exact h
theorem Rel.hp (R:Rel cm ms B U As σ H ρ) (k:Kd):Same (hp k B U H) H:=by
 cases k with
 | F=>exact R.bh
 | U=>exact R.uh
 | X=>exact Same.refl _
theorem PJ.imp {α β:Type} {K K':KT α β} {t:St→Hp→(β→Hp→Prop)→Prop} {m:Env→Res α} (h:PJ cm K E ms t m) (f:∀ B U As σ H ρ d v N,Rel cm ms B U As σ H ρ→K d v B U H N→K' d v B U H N):PJ cm K' E ms t m:=by
 intro B U As σ H ρ Q R P
 refine h B U As σ H ρ Q R ?_
 cases e:m ρ with
 | ok d=>rw [e] at P; exact fun v B' U' H' N R' e' n' k=>P v B' U' H' N R' e' n' (f _ _ _ _ _ _ _ _ _ R' k)
 | exc c=>rw [e] at P; exact P
 | bad=>rw [e] at P; exact P
section
variable {t:TE} {m:Env→Res D} {k:Kd} {s:Sh}
theorem fu (h:PJ cm (KR cm .F) E ms t m):PJ cm (KR cm .U) E ms t m:=h.imp fun _ _ _ _ _ _ _ _ _ R q=>Dn.mono R.bu q
theorem ux (h:PJ cm (KR cm .U) E ms t m):PJ cm (KR cm .X) E ms t m:=h.imp fun _ _ _ _ _ _ _ _ _ R q=>Dn.mono R.uh q
theorem fx (h:PJ cm (KR cm .F) E ms t m):PJ cm (KR cm .X) E ms t m:=ux (fu h)
theorem rc (h:PJ cm (KR cm k) E ms t m):PJ cm (KC cm k) E ms t m:=h.imp fun _ _ _ _ _ _ _ _ _ R q=>Dn.cn (R.hp k) q
theorem cx (h:PJ cm (KC cm k) E ms t m):PJ cm (KR cm .X) E ms t m:=h.imp fun _ _ _ _ _ _ _ _ _ R q=>Cn.dn (Cn.mono (R.hp k) (Same.refl _) q)
theorem Rel.freeze {A:List Addr} (R:Rel cm ms B U As σ H ρ) (h:∀ a∈A,U a=none∧∀ i,a∉As i):Rel cm ms (Mi.frz B H A) (Mi.frz U H A) As σ H ρ∧Ex B U (Mi.frz B H A) (Mi.frz U H A):=by
 refine ⟨R.grow (ao2 R.bh) (ao2 R.uh) (Same.refl _) (bG3 R.bu) (cf9 R.uh) fun i a ha=>?_,ao2 R.bh,ao2 R.uh,fun a o q=>?_⟩
 · unfold Mi.frz
   split
   · rename_i z; exact absurd ha ((h a z).2 i)
   · exact R.un i a ha
 · unfold Mi.frz at q
   split at q
   · rename_i z; exact .inr (.inl (h a z).1)
   · exact .inl q
theorem Rel.apart (R:Rel cm ms B U As σ H ρ) {N:List Addr} {U':Hp} (n:New N H U' As):∀ a∈N,∀ i,a∉As i:=fun a ha i=>R.fresh (n.fr a ha) i
theorem oF (h:PJ cm (KO cm s) E ms t m):PJ cm (KR cm .F) E ms t m:=by
 intro B U As σ H ρ Q R P
 refine h B U As σ H ρ Q R ?_
 cases e:m ρ with
 | ok d =>
   rw [e] at P
   intro v B' U' H' N R' e' n' ow
   obtain ⟨R2,e2⟩:=R'.freeze fun a ha=>⟨n'.un a ha,R.apart n' a ha⟩
   refine P v _ _ H' [] R2 ⟨e'.toEx.trans e2,e'.h,fun a o q=>?_⟩ New.nil (Ow.dn (ao2 R'.bh) (fun a ha o q=>?_) ow)
   · unfold Mi.frz at q
     split at q
     · rename_i z; exact .inr (.inl (n'.fr a z))
     · exact e'.fr a o q
   · unfold Mi.frz
     rw [if_pos ha]
     exact q
 | exc c=>rw [e] at P; exact P
 | bad=>rw [e] at P; exact P
theorem oc (h:PJ cm (KO cm (.ct .fz)) E ms t m):PJ cm (KC cm .F) E ms t m:=rc (oF h)
end
theorem am9 {α:Type} {l:List (Option α)} {i:Nat} {x:α} (h:rg l i=some x):l[i]?=some (some x):=by
 unfold rg at h
 cases e:l[i]? with
 | none=>rw [e] at h; cases h
 | some o=>rw [e] at h; exact congrArg some h
theorem aY6 {K:KT D V} {i:Nat} (f:∀ (B U:Hp) (A:List Addr) (H:Hp) (d:D) (v:V) (s:Option V),Same B U→Same U H→Lo cm B U H (ms.getD i .F) (some d) s A→s=some v→K d v B U H []):PJ cm K E ms (tVar i) (vr i):=by
 intro B U As σ H ρ Q R P
 unfold vr at P
 have l:=R.lo i
 cases e:rg ρ i with
 | none=>rw [e] at P; exact P.elim
 | some d =>
   rw [e] at P l
   obtain ⟨v,hv,q⟩:=id l
   exact ⟨v,am9 hv,P v B U H [] R (Gw.refl _ _ _) New.nil (f B U _ H d v _ R.bu R.uh l hv)⟩
theorem ar2 {B U H:Hp} {m:Md} {d:D} {v:V} {s:Option V} {A:List Addr} (l:Lo cm B U H m (some d) s A) (hs:s=some v):LoV cm B U H m d v A:=by
 obtain ⟨w,hw,q⟩:=l
 rw [hs] at hw
 cases hw
 exact q
theorem xF {i:Nat} (hm:ms.getD i .F= .F):PJ cm (KR cm .F) E ms (tVar i) (vr i):=aY6 fun B U As H d v s _ _ l hs=>by
 rw [hm] at l
 exact (ar2 l hs).1
theorem xR {i:Nat} (hm:ms.getD i .F= .R):PJ cm (KR cm .U) E ms (tVar i) (vr i):=aY6 fun B U As H d v s _ _ l hs=>by
 rw [hm] at l
 exact (ar2 l hs).1
theorem xO {i:Nat} {sh:Sh} (hm:ms.getD i .F= .O sh):PJ cm (KR cm .X) E ms (tVar i) (vr i):=aY6 fun B U As H d v s b u l hs=>by
 rw [hm] at l
 exact Ow.dn (b.trans u) (fun _ _ _ q=>q) (ar2 l hs)
theorem Ow.cn {B H:Hp} {d:D} {v:V} {A:List Addr} (f:Same B H) (h:Ow cm B H d (.ct .fz) v A):Cn cm B H d v:=by
 cases d with
 | lst ds=>rw [Ow] at h; obtain ⟨a,xs,A',r,h1,h2,h3⟩:=h; exact ⟨a,xs,r,h1,(Ows.fz h3).1⟩
 | dK ks ds=>rw [Ow] at h; obtain ⟨a,xs,A',r,h1,h2,h3,h4⟩:=h; exact ⟨a,xs,r,h1,h2,(Ows.fz h4).1⟩
 | dT ks ds=>rw [Ow] at h; obtain ⟨a,xs,A',r,h1,h2,h3,h4⟩:=h; exact ⟨a,xs,r,h1,h2,(Ows.fz h4).1⟩
 | scr ds=>simp [Ow] at h
 | tup ds=>simp [Ow] at h
 | obj c ns ds=>simp [Ow] at h
 | non=>simp [Ow] at h
 | bl _=>simp [Ow] at h
 | int _=>simp [Ow] at h
 | str _=>simp [Ow] at h
 | ty _=>simp [Ow] at h
theorem xC {i:Nat} (hm:ms.getD i .F= .O (.ct .fz)):PJ cm (KC cm .F) E ms (tVar i) (vr i):=aY6 fun B U As H d v s b u l hs=>by
 rw [hm] at l
 exact Ow.cn (b.trans u) (ar2 l hs)
theorem p_c {d:D} {v:V} (h:∀ G,Dn cm G d v):PJ cm (KR cm .F) E ms (tC v) (cst d):=fun B U As σ H ρ Q R P=>P v B U H [] R (Gw.refl _ _ _) New.nil (h _)
theorem pI {i:Int}:PJ cm (KR cm .F) E ms (tC (.int i)) (cst (.int i)):=p_c fun _=>by rw [Dn]
theorem pB {b:Bool}:PJ cm (KR cm .F) E ms (tC (.bl b)) (cst (.bl b)):=p_c fun _=>by rw [Dn]
theorem pN:PJ cm (KR cm .F) E ms (tC .non) (cst .non):=p_c fun _=>by rw [Dn]
theorem pT {n:String}:PJ cm (KR cm .F) E ms (tC (.ty n)) (cst (.ty n)):=p_c fun _=>by rw [Dn]
end
noncomputable def isNb (neg:Bool) (x y:D):Res D:=if aM6 y=true then .ok (.bl (neg.xor (aM6 x))) else .bad
noncomputable def tst (m:Env→Res D):Env→Res Bool:=fun ρ=>(m ρ).bind truB
noncomputable def andT (a b:Env→Res Bool):Env→Res Bool:=fun ρ=>(a ρ).bind fun c=>if c=true then b ρ else .ok false
noncomputable def orT (a b:Env→Res Bool):Env→Res Bool:=fun ρ=>(a ρ).bind fun c=>if c=true then .ok true else b ρ
noncomputable def notT (a:Env→Res Bool):Env→Res Bool:=fun ρ=>(a ρ).bind fun c=> .ok (!c)
section
variable {cm:Cm} {E:XK} {ms:List Md}
noncomputable def S2 (cm:Cm) (r:R2) (f:D→D→Res D):Prop:=∀ H x y v u,Dn cm H x v→Dn cm H y u→match f x y with
 | .ok d=>∃ w,(∀ G,Dn cm G d w)∧∀ Q:VK,Q w H→r v u H Q
 | .exc _=>False
 | .bad=>True
noncomputable def S1 (cm:Cm) (r:V→Hp→VK→Prop) (f:D→Res D):Prop:=∀ H x v,Dn cm H x v→match f x with
 | .ok d=>∃ w,(∀ G,Dn cm G d w)∧∀ Q:VK,Q w H→r v H Q
 | .exc _=>False
 | .bad=>True
section
variable {r:R2} {r1:V→Hp→VK→Prop} {rb:List V→Hp→VK→Prop} {f:D→D→Res D} {f1:D→Res D} {ta tb:TE} {ma mb:Env→Res D}
theorem p_op (h:S2 cm r f) (ha:PJ cm (KR cm .X) E ms ta ma) (hb:PJ cm (KR cm .X) E ms tb mb):PJ cm (KR cm .F) E ms (tOp r ta tb) (bn f ma mb):=by
 intro B U As σ H ρ Q R P
 refine ha.bnd R P fun x v B1 U1 H1 N1 _ R1 e1 n1 d1 P1=>hb.bnd R1 P1 fun y u B2 U2 H2 N2 _ R2 e2 n2 d2 P2=>?_
 have q:=h H2 x y v u (Dn.mono e2.h d1) d2
 cases e:f x y with
 | ok d =>
   rw [e] at q P2
   obtain ⟨w,hw,k⟩:=q
   exact k Q (P2 w B2 U2 H2 [] R2 (Gw.refl _ _ _) New.nil (hw _))
 | exc c=>rw [e] at q; exact q.elim
 | bad=>rw [e] at P2; exact P2.elim
theorem p_un (h:S1 cm r1 f1) (ha:PJ cm (KR cm .X) E ms ta ma):PJ cm (KR cm .F) E ms (tUn r1 ta) (un f1 ma):=by
 intro B U As σ H ρ Q R P
 refine ha.bnd R P fun x v B1 U1 H1 N1 _ R1 e1 n1 d1 P1=>?_
 have q:=h H1 x v d1
 cases e:f1 x with
 | ok d =>
   rw [e] at q P1
   obtain ⟨w,hw,k⟩:=q
   exact k Q (P1 w B1 U1 H1 [] R1 (Gw.refl _ _ _) New.nil (hw _))
 | exc c=>rw [e] at q; exact q.elim
 | bad=>rw [e] at P1; exact P1.elim
theorem al7 (h:S1 cm (fun v H Q=>rb [v] H Q) f1) (ha:PJ cm (KR cm .X) E ms ta ma):PJ cm (KR cm .F) E ms (tCB rb (ai4 ta tNil)) (un f1 ma):=p_un h ha
theorem bm6 (h:S2 cm (fun v u H Q=>rb [v,u] H Q) f) (ha:PJ cm (KR cm .X) E ms ta ma) (hb:PJ cm (KR cm .X) E ms tb mb):PJ cm (KR cm .F) E ms (tCB rb (ai4 ta (ai4 tb tNil))) (bn f ma mb):=p_op h ha hb
end
theorem S2.imp {r r':R2} {f:D→D→Res D} (h:S2 cm r f) (k:∀ x y H Q,r x y H Q→r' x y H Q):S2 cm r' f:=by
 intro H x y v u hx hy
 have q:=h H x y v u hx hy
 cases e:f x y with
 | ok d =>
   rw [e] at q
   obtain ⟨w,hw,q⟩:=q
   exact ⟨w,hw,fun Q z=>k _ _ _ _ (q Q z)⟩
 | exc c=>rw [e] at q; exact q
 | bad=>trivial
theorem sI0 {g:Int→Int→Int}:S2 cm (rI0 fun i j=> .int (g i j)) (iI g):=by
 intro H x y v u hx hy
 cases x with
 | int i =>
   cases y with
   | int j =>
     rw [Dn] at hx; rw [Dn] at hy
     subst hx hy
     exact ⟨.int (g i j),fun _=>by rw [Dn],fun Q q=>⟨i,j,rfl,rfl,q⟩⟩
   | _=>trivial
 | _=>trivial
theorem sB0 {g:Int→Int→Bool}:S2 cm (rI0 fun i j=> .bl (g i j)) (iB g):=by
 intro H x y v u hx hy
 cases x with
 | int i =>
   cases y with
   | int j =>
     rw [Dn] at hx; rw [Dn] at hy
     subst hx hy
     exact ⟨.bl (g i j),fun _=>by rw [Dn],fun Q q=>⟨i,j,rfl,rfl,q⟩⟩
   | _=>trivial
 | _=>trivial
theorem sIc {C:Int→Int→Prop} {c:Int→Int→Bool} {g:Int→Int→Int} (hc:∀ i j,c i j=true→C i j):S2 cm (rI C fun i j=> .int (g i j)) (iC c g):=by
 intro H x y v u hx hy
 cases x with
 | int i =>
   cases y with
   | int j =>
     rw [Dn] at hx; rw [Dn] at hy
     subst hx hy
     unfold iC
     dsimp only
     by_cases z:c i j=true
     · rw [if_pos z]
       exact ⟨.int (g i j),fun _=>by rw [Dn],fun Q q=>⟨i,j,rfl,rfl,hc i j z,q⟩⟩
     · rw [if_neg z]
       trivial
   | _=>trivial
 | _=>trivial
theorem aK5:S2 cm (rI0 fun i j=> .int (i + j)) addI:=sI0
theorem s_lt:S2 cm (rI0 fun i j=> .bl (decide (i < j))) ltI:=sB0
theorem s_gt:S2 cm (rI0 fun i j=> .bl (decide (j < i))) gtI:=sB0
theorem s_ge:S2 cm (rI0 fun i j=> .bl (decide (j≤i))) geI:=sB0
theorem cm5:S2 cm (rI CMul fun i j=> .int (i * j)) mulI:=sIc fun _ _ h=>by simpa [CMul] using h
theorem cn0:S2 cm (rI CDiv fun i j=> .int (i / j)) bq4:=sIc fun _ _ h=>by simpa [CDiv] using h
theorem aR0:S2 cm (rI (fun _ j=>0 < j) fun i j=> .int (i % j)) modI:=sIc fun _ _ h=>of_decide_eq_true h
theorem s_pow:S2 cm (rI CPow fun i j=> .int (i ^ j.toNat)) powI:=sIc fun _ _ h=>by simpa [CPow] using h
theorem bC1:S1 cm (rU fun i=> .int (-i)) negI:=by
 intro H x v hx
 cases x with
 | int i =>
   rw [Dn] at hx
   subst hx
   exact ⟨.int (-i),fun _=>by rw [Dn],fun Q q=>⟨i,rfl,q⟩⟩
 | _=>trivial
theorem cn1 (neg:Bool):S2 cm (fun x y H Q=>scal x y=true∧Q (.bl (neg.xor (decide (x=y)))) H) (eqS neg):=by
 intro H x y v u hx hy
 cases x with
 | int i =>
   cases y with
   | int j =>
     rw [Dn] at hx; rw [Dn] at hy
     subst hx hy
     exact ⟨_,fun _=>by rw [Dn],fun Q q=>⟨rfl,by simpa using q⟩⟩
   | non =>
     rw [Dn] at hx; rw [Dn] at hy
     subst hx hy
     exact ⟨_,fun _=>by rw [Dn],fun Q q=>⟨rfl,by simpa using q⟩⟩
   | _=>trivial
 | str i =>
   cases y with
   | str j =>
     rw [Dn] at hx; rw [Dn] at hy
     subst hx hy
     exact ⟨_,fun _=>by rw [Dn],fun Q q=>⟨rfl,by simpa using q⟩⟩
   | _=>trivial
 | bl i =>
   cases y with
   | bl j =>
     rw [Dn] at hx; rw [Dn] at hy
     subst hx hy
     exact ⟨_,fun _=>by rw [Dn],fun Q q=>⟨rfl,by simpa using q⟩⟩
   | _=>trivial
 | non =>
   cases y with
   | int j =>
     rw [Dn] at hx; rw [Dn] at hy
     subst hx hy
     exact ⟨_,fun _=>by rw [Dn],fun Q q=>⟨rfl,by simpa using q⟩⟩
   | non =>
     rw [Dn] at hx; rw [Dn] at hy
     subst hx hy
     exact ⟨_,fun _=>by rw [Dn],fun Q q=>⟨rfl,by simpa using q⟩⟩
   | _=>trivial
 | _=>cases y <;> trivial
theorem s_eq:S2 cm rEq (eqS false):=(cn1 false).imp fun x y H Q h=>⟨h.1,by simpa using h.2⟩
theorem s_ne:S2 cm rNe (eqS true):=(cn1 true).imp fun x y H Q h=>⟨h.1,by simpa using h.2⟩
theorem Dn.non {G:Hp} {d:D} {v:V} (h:Dn cm G d v):decide (v= .non)=aM6 d:=by
 cases d with
 | non=>rw [Dn] at h; subst h; rfl
 | bl _=>rw [Dn] at h; subst h; rfl
 | int _=>rw [Dn] at h; subst h; rfl
 | str _=>rw [Dn] at h; subst h; rfl
 | ty _=>rw [Dn] at h; subst h; rfl
 | lst _=>rw [Dn] at h; obtain ⟨a,xs,e,_⟩:=h; subst e; rfl
 | scr _=>rw [Dn] at h; obtain ⟨a,xs,e,_⟩:=h; subst e; rfl
 | tup _=>rw [Dn] at h; obtain ⟨a,xs,e,_⟩:=h; subst e; rfl
 | dK _ _=>rw [Dn] at h; obtain ⟨a,xs,e,_⟩:=h; subst e; rfl
 | dT _ _=>rw [Dn] at h; obtain ⟨a,xs,e,_⟩:=h; subst e; rfl
 | obj _ _ _=>rw [Dn] at h; obtain ⟨a,dx,xs,e,_⟩:=h; subst e; rfl
theorem s_is:S2 cm (fun x y H Q=>y= .non∧Q (.bl (decide (x= .non))) H) (isNb false):=by
 intro H x y v u hx hy
 unfold isNb
 by_cases e:aM6 y=true
 · rw [if_pos e]
   have:decide (u= .non)=true:=by rw [Dn.non hy]; exact e
   refine ⟨_,fun _=>by rw [Dn],fun Q q=>⟨of_decide_eq_true this,?_⟩⟩
   rw [Dn.non hx]
   simpa using q
 · rw [if_neg e]
   trivial
theorem cm6:S2 cm (fun x y H Q=>y= .non∧Q (.bl (!decide (x= .non))) H) (isNb true):=by
 intro H x y v u hx hy
 unfold isNb
 by_cases e:aM6 y=true
 · rw [if_pos e]
   have:decide (u= .non)=true:=by rw [Dn.non hy]; exact e
   refine ⟨_,fun _=>by rw [Dn],fun Q q=>⟨of_decide_eq_true this,?_⟩⟩
   rw [Dn.non hx]
   simpa using q
 · rw [if_neg e]
   trivial
theorem am5:S1 cm (fun v H Q=>∃ p ys,[v]=[.ref p]∧(SqL cm.K H p ys∨SqT cm.K H p ys)∧Q (.int ys.length) H) lenD:=by
 intro H x v hx
 cases x with
 | lst ds =>
   rw [Dn] at hx
   obtain ⟨a,xs,rfl,h1,h2⟩:=hx
   exact ⟨.int ds.length,fun _=>by rw [Dn],fun Q q=>⟨a,xs,rfl,.inl (SqL.of h1),by rw [← h2.len]; exact q⟩⟩
 | scr ds =>
   rw [Dn] at hx
   obtain ⟨a,xs,rfl,h1,h2⟩:=hx
   exact ⟨.int ds.length,fun _=>by rw [Dn],fun Q q=>⟨a,xs,rfl,.inl h1.sq,by rw [← h2.len]; exact q⟩⟩
 | tup ds =>
   rw [Dn] at hx
   obtain ⟨a,xs,rfl,h1,h2⟩:=hx
   exact ⟨.int ds.length,fun _=>by rw [Dn],fun Q q=>⟨a,xs,rfl,.inr (SqT.of h1),by rw [← h2.len]; exact q⟩⟩
 | _=>trivial
theorem co1 {ta:TE} {ma:Env→Res D} (ha:PJ cm (KR cm .X) E ms ta ma):PJ cm (KR cm .F) E ms (ck5 ta) (un notB ma):=by
 intro B U As σ H ρ Q R P
 refine ha.bnd R P fun x v B1 U1 H1 N1 _ R1 e1 n1 d1 P1=>?_
 cases x with
 | bl b =>
   have d1:Dn cm H1 (.bl b) v:=d1
   rw [Dn] at d1
   exact ⟨b,d1,P1 _ B1 U1 H1 [] R1 (Gw.refl _ _ _) New.nil (show Dn cm _ (.bl (!b)) _ by rw [Dn])⟩
 | _=>exact P1.elim
theorem co0 {t:TE} {m:Env→Res D} (h:PJ cm (KR cm .X) E ms t m):PJ cm KB E ms (fun σ H Q=>t σ H fun x H1=>∃ c,x= .bl c∧Q c H1) (tst m):=by
 intro B U As σ H ρ Q R P
 refine h.bnd R P fun x v B1 U1 H1 N1 _ R1 e1 n1 d1 P1=>?_
 cases x with
 | bl b =>
   have d1:Dn cm H1 (.bl b) v:=d1
   rw [Dn] at d1
   exact ⟨b,d1,P1 _ B1 U1 H1 [] R1 (Gw.refl _ _ _) New.nil rfl⟩
 | _=>exact P1.elim
theorem pt_B {t:TE} {m:Env→Res D} (h:PJ cm (KR cm .X) E ms t m):PJ cm KB E ms (tB t) (tst m):=co0 h
theorem pt_T {t:TE} {m:Env→Res D} (h:PJ cm (KR cm .X) E ms t m):PJ cm KB E ms (ck3 t) (tst m):=co0 h
theorem cn6 {t u:TT} {m n:Env→Res Bool} (h:PJ cm KB E ms t m) (k:PJ cm KB E ms u n):PJ cm KB E ms (tAnd t u) (andT m n):=by
 intro B U As σ H ρ Q R P
 refine h.bnd R P fun x v B1 U1 H1 N1 _ R1 e1 n1 d1 P1=>?_
 cases d1
 cases x with
 | true=>exact k B1 U1 As σ H1 ρ Q R1 P1
 | false=>exact P1 _ B1 U1 H1 [] R1 (Gw.refl _ _ _) New.nil rfl
theorem aK9 {t u:TT} {m n:Env→Res Bool} (h:PJ cm KB E ms t m) (k:PJ cm KB E ms u n):PJ cm KB E ms (tOr t u) (orT m n):=by
 intro B U As σ H ρ Q R P
 refine h.bnd R P fun x v B1 U1 H1 N1 _ R1 e1 n1 d1 P1=>?_
 cases d1
 cases x with
 | false=>exact k B1 U1 As σ H1 ρ Q R1 P1
 | true=>exact P1 _ B1 U1 H1 [] R1 (Gw.refl _ _ _) New.nil rfl
theorem as4 {t:TT} {m:Env→Res Bool} (h:PJ cm KB E ms t m):PJ cm KB E ms (tNot t) (notT m):=by
 intro B U As σ H ρ Q R P
 refine h.bnd R P fun x v B1 U1 H1 N1 _ R1 e1 n1 d1 P1=>?_
 cases d1
 exact P1 _ B1 U1 H1 [] R1 (Gw.refl _ _ _) New.nil rfl
theorem ca3 {k:Kd} {ta tb:TE} {ma mb:Env→Res D} (ha:PJ cm (KR cm .X) E ms ta ma) (hb:PJ cm (KR cm k) E ms tb mb):PJ cm (KR cm k) E ms (ck8 ta tb) (andD ma mb):=by
 intro B U As σ H ρ Q R P
 unfold andD at P
 have P':Po cm (KR cm k) E ms B U As σ H ρ ((ma ρ).bind fun x=>(truB x).bind fun c=>if c=true then mb ρ else .ok (.bl false)) Q:=by
  cases e:ma ρ <;> (rw [e] at P; exact P)
 refine ha.bnd R P' fun x v B1 U1 H1 N1 _ R1 e1 n1 d1 P1=>?_
 cases x with
 | bl b =>
   have d1:Dn cm H1 (.bl b) v:=d1
   rw [Dn] at d1
   refine ⟨b,d1,?_⟩
   cases b with
   | true=>exact hb B1 U1 As σ H1 ρ Q R1 P1
   | false=>exact P1 _ B1 U1 H1 [] R1 (Gw.refl _ _ _) New.nil (show Dn cm _ (.bl false) _ by rw [Dn])
 | _=>exact P1.elim
theorem p_ite {K:KT D V} {t:TT} {ta tb:TE} {m:Env→Res Bool} {ma mb:Env→Res D} (h:PJ cm KB E ms t m) (ha:PJ cm K E ms ta ma) (hb:PJ cm K E ms tb mb):PJ cm K E ms (tIf t ta tb) (iteD m ma mb):=by
 intro B U As σ H ρ Q R P
 refine h.bnd R P fun x v B1 U1 H1 N1 _ R1 e1 n1 d1 P1=>?_
 cases d1
 cases x with
 | true=>exact ha B1 U1 As σ H1 ρ Q R1 P1
 | false=>exact hb B1 U1 As σ H1 ρ Q R1 P1
end
section
variable {cm:Cm} {E:XK} {ms:List Md} {K:PySem.W.Frag}
theorem am1 {n:Nat} (h:n≤aa7):n < sizeLine:=by
 have:=sizeLine_eq
 unfold aa7 at h
 omega
theorem by2 {G:Hp} {ds:List D} {xs:List V} {i:Int} {d:D} (h:Dns cm G ds xs) (e:atI ds i=some d):∃ v,atI xs i=some v∧Dn cm G d v:=by
 unfold atI at e ⊢
 rw [← h.len]
 cases q:ixN ds.length i with
 | none=>rw [q] at e; cases e
 | some j =>
   rw [q] at e
   exact h.get e
theorem ah6 {k:Kd} {ta tb:TE} {ma mb:Env→Res D} (ha:PJ cm (KC cm k) E ms ta ma) (hb:PJ cm (KR cm .X) E ms tb mb):PJ cm (KR cm k) E ms (tOp (rIxL cm.K) ta tb) (bn ixL ma mb):=by
 intro B U As σ H ρ Q R P
 refine ha.bnd R P fun x v B1 U1 H1 N1 _ R1 e1 n1 d1 P1=>hb.bnd R1 P1 fun y u B2 U2 H2 N2 _ R2 e2 n2 d2 P2=>?_
 have c:=Cn.mono (at4 e2) e2.h d1
 have d2:Dn cm H2 y u:=d2
 have fin:∀ (ds:List D) (i:Int),Po cm (KR cm k) E ms B2 U2 As σ H2 ρ (atD ds i) Q→∀ xs,Dns cm (hp k B2 U2 H2) ds xs→∃ w,atI xs i=some w∧Q w H2:=fun ds i P3 xs h=>by
  unfold atD at P3
  cases q:atI ds i with
  | none=>rw [q] at P3; exact P3.elim
  | some d =>
    rw [q] at P3
    obtain ⟨w,hw,dw⟩:=by2 h q
    exact ⟨w,hw,P3 w B2 U2 H2 [] R2 (Gw.refl _ _ _) New.nil dw⟩
 cases x with
 | lst ds =>
   cases y with
   | int i =>
     rw [Dn] at d2
     obtain ⟨a,xs,r,h1,h2⟩:=c
     obtain ⟨w,hw,q⟩:=fin ds i P2 xs h2
     exact ⟨a,xs,i,w,r,d2,SqL.of h1,hw,q⟩
   | _=>exact P2.elim
 | scr ds =>
   cases y with
   | int i =>
     rw [Dn] at d2
     obtain ⟨a,xs,r,h1,h2⟩:=c
     obtain ⟨w,hw,q⟩:=fin ds i P2 xs h2
     exact ⟨a,xs,i,w,r,d2,h1.sq,hw,q⟩
   | _=>exact P2.elim
 | _=>cases y <;> exact P2.elim
theorem p_ixT {k:Kd} {ta tb:TE} {ma mb:Env→Res D} (ha:PJ cm (KC cm k) E ms ta ma) (hb:PJ cm (KR cm .X) E ms tb mb):PJ cm (KR cm k) E ms (tOp (rIxT K) ta tb) (bn ixT ma mb):=by
 intro B U As σ H ρ Q R P
 refine ha.bnd R P fun x v B1 U1 H1 N1 _ R1 e1 n1 d1 P1=>hb.bnd R1 P1 fun y u B2 U2 H2 N2 _ R2 e2 n2 d2 P2=>?_
 have c:=Cn.mono (at4 e2) e2.h d1
 have d2:Dn cm H2 y u:=d2
 cases x with
 | tup ds =>
   cases y with
   | int i =>
     rw [Dn] at d2
     obtain ⟨a,xs,r,h1,h2⟩:=c
     have P3:Po cm (KR cm k) E ms B2 U2 As σ H2 ρ (atD ds i) Q:=P2
     unfold atD at P3
     cases q:atI ds i with
     | none=>rw [q] at P3; exact P3.elim
     | some d =>
       rw [q] at P3
       obtain ⟨w,hw,dw⟩:=by2 h2 q
       exact ⟨a,xs,i,w,r,d2,SqT.of h1,hw,P3 w B2 U2 H2 [] R2 (Gw.refl _ _ _) New.nil dw⟩
   | _=>exact P2.elim
 | _=>cases y <;> exact P2.elim
theorem ad7 {k:Kd}:PJ cm (KL cm k) E ms tNil esN:=fun B U As σ H ρ Q R P=>P [] B U H [] R (Gw.refl _ _ _) New.nil (show Dns cm _ [] [] by rw [Dns])
theorem ab0 {k:Kd} {ta:TE} {tr:TA} {ma:Env→Res D} {mr:Env→Res (List D)} (ha:PJ cm (KR cm k) E ms ta ma) (hr:PJ cm (KL cm k) E ms tr mr):PJ cm (KL cm k) E ms (ai4 ta tr) (esC ma mr):=by
 intro B U As σ H ρ Q R P
 refine ha.bnd R P fun x v B1 U1 H1 N1 _ R1 e1 n1 d1 P1=>hr.bnd R1 P1 fun y u B2 U2 H2 N2 _ R2 e2 n2 d2 P2=>?_
 refine P2 (v :: u) B2 U2 H2 [] R2 (Gw.refl _ _ _) New.nil ?_
 show Dns cm _ (x :: y) (v :: u)
 rw [Dns]
 exact ⟨v,u,rfl,Dn.mono (at4 e2) d1,d2⟩
variable {B U H:Hp} {As:Nat→List Addr} {σ:St} {ρ:Env}
theorem Gw.newO (R:Rel cm ms B U As σ H ρ) {p:Addr} {o:HO} (h:H p=none):Gw B U H B U (upd H p o):=⟨Ex.refl _ _,Gd.ae8 h,fun _ _ q=> .inl q⟩
theorem Gw.newB (R:Rel cm ms B U As σ H ρ) {p:Addr} {o:HO} (h:H p=none):Gw B U H (upd B p o) (upd U p o) (upd H p o):=⟨Ex.newB R h,Gd.ae8 h,fun a u q=>by
 by_cases z:a=p
 · subst z; exact .inr (.inl h)
 · rw [ac3 z] at q; exact .inl q⟩
theorem New.one (R:Rel cm ms B U As σ H ρ) {p:Addr} (h:H p=none):New [p] H U As:=⟨by simp,fun a ha=>by rw [List.mem_singleton.mp ha]; exact h,fun a ha=>by rw [List.mem_singleton.mp ha]; exact R.uh.free h⟩
theorem aw5 (R:Rel cm ms B U As σ H ρ) {ds:List D} {xs:List V} {Q:VK} (P:Po cm (KO cm (.ct .fz)) E ms B U As σ H ρ (.ok (.lst ds)) Q) (h:Dns cm B ds xs) {p:Addr} (hp:H p=none):Q (.ref p) (upd H p (.lst xs)) :=
 P (.ref p) B U _ [p] (R.new hp) (Gw.newO R hp) (New.one R hp) (by
  show Ow cm B _ (.lst ds) (.ct .fz) (.ref p) [p]
  rw [Ow]
  exact ⟨p,xs,[],rfl,ac4,rfl,Ows.of h⟩)
theorem aZ2 (R:Rel cm ms B U As σ H ρ) {ds:List D} {xs:List V} {Q:VK} (P:Po cm (KR cm .F) E ms B U As σ H ρ (.ok (.tup ds)) Q) (h:Dns cm B ds xs) {p:Addr} (hp:H p=none):Q (.ref p) (upd H p (.tup xs)) :=
 P (.ref p) _ _ _ [] (R.newB hp) (Gw.newB R hp) New.nil (by
  show Dn cm (upd B p (.tup xs)) (.tup ds) (.ref p)
  rw [Dn]
  exact ⟨p,xs,rfl,ac4,h.mono (Gd.ae8 (R.bh.free hp))⟩)
section
variable {t:TA} {m:Env→Res (List D)}
theorem al6 (h:PJ cm (KL cm .F) E ms t m):PJ cm (KO cm (.ct .fz)) E ms (tLst t) (mkL m):=by
 intro B U As σ H ρ Q R P
 refine h.bnd R P fun ds xs B1 U1 H1 N1 _ R1 e1 n1 d1 P1=>?_
 by_cases z:ds.length≤aa7
 · rw [if_pos z] at P1
   have d1:Dns cm B1 ds xs:=d1
   exact ⟨Nat.le_of_lt (am1 (by rw [← d1.len]; exact z)),fun p hp=>aw5 R1 P1 d1 hp⟩
 · rw [if_neg z] at P1
   exact P1.elim
theorem aL3 (h:PJ cm (KL cm .F) E ms t m):PJ cm (KR cm .F) E ms (tTup t) (mkT m):=by
 intro B U As σ H ρ Q R P
 refine h.bnd R P fun ds xs B1 U1 H1 N1 _ R1 e1 n1 d1 P1=>?_
 by_cases z:ds.length≤aa7
 · rw [if_pos z] at P1
   have d1:Dns cm B1 ds xs:=d1
   exact ⟨Nat.le_of_lt (am1 (by rw [← d1.len]; exact z)),fun p hp=>aZ2 R1 P1 d1 hp⟩
 · rw [if_neg z] at P1
   exact P1.elim
end
theorem bD3:PJ cm (KO cm (.ct .fz)) E ms bJ8 (cst (.dT [] [])):=by
 intro B U As σ H ρ Q R P p hp
 refine P (.ref p) B U _ [p] (R.new hp) (Gw.newO R hp) (New.one R hp) ?_
 show Ow cm B _ (.dT [] []) (.ct .fz) (.ref p) [p]
 rw [Ow]
 exact ⟨p,[],[],rfl,ac4,rfl,rfl,Ows.of (by rw [List.map_nil,Dns])⟩
theorem cz3 {G:Hp} {x y:D} {v u:V} (hx:Cn cm G H x v) (hy:Cn cm G H y u) {C:Res D→Prop} (hb:C .bad→False) (P:C (catL x y)) {Q:VK}
 (h:∀ ds es xs ys,Dns cm G (ds ++ es) (xs ++ ys)→C (.ok (.lst (ds ++ es)))→∀ p,H p=none→Q (.ref p) (upd H p (.lst (xs ++ ys)))):rCat v u H Q:=by
 cases x with
 | lst ds =>
   cases y with
   | lst es =>
     obtain ⟨a,xs,r,h1,h2⟩:=hx
     obtain ⟨b,ys,r',h3,h4⟩:=hy
     have P':C (if ds.length + es.length≤aa7 then .ok (.lst (ds ++ es)) else .bad):=P
     by_cases z:ds.length + es.length≤aa7
     · rw [if_pos z] at P'
       exact ⟨a,b,xs,ys,r,r',h1,h3,Nat.le_of_lt (am1 (by rw [← h2.len,← h4.len]; exact z)),h ds es xs ys (h2.append h4) P'⟩
     · rw [if_neg z] at P'
       exact (hb P').elim
   | _=>exact (hb P).elim
 | _=>cases y <;> exact (hb P).elim
theorem bD6 {ta tb:TE} {ma mb:Env→Res D} (ha:PJ cm (KC cm .F) E ms ta ma) (hb:PJ cm (KC cm .F) E ms tb mb):PJ cm (KO cm (.ct .fz)) E ms (tOp rCat ta tb) (bn catL ma mb):=by
 intro B U As σ H ρ Q R P
 refine ha.bnd R P fun x v B1 U1 H1 N1 _ R1 e1 n1 d1 P1=>hb.bnd R1 P1 fun y u B2 U2 H2 N2 _ R2 e2 n2 d2 P2=>?_
 exact cz3 (G:=B2) (Cn.mono e2.b e2.h d1) d2 (C:=fun r=>Po cm (KO cm (.ct .fz)) E ms B2 U2 As σ H2 ρ r Q) (fun h=>h) P2 fun ds es xs ys h P3 p hp=>aw5 R2 P3 h hp
noncomputable def tupL:D→Res D | .lst xs=> .ok (.tup xs) | _=> .bad
theorem bm5 {ta:TE} {ma:Env→Res D} (ha:PJ cm (KC cm .F) E ms ta ma) :
 PJ cm (KR cm .F) E ms (tCB (fun xs H Q=>∃ p ys,xs=[.ref p]∧((SqL K H p ys∧∀ l,H l=none→Q (.ref l) (upd H l (.tup ys)))∨(SqT K H p ys∧Q (.ref p) H))) (ai4 ta tNil)) (un tupL ma):=by
 intro B U As σ H ρ Q R P
 refine ha.bnd R P fun x v B1 U1 H1 N1 _ R1 e1 n1 d1 P1=>?_
 cases x with
 | lst ds =>
   obtain ⟨a,xs,r,h1,h2⟩:=d1
   exact ⟨a,xs,by rw [r],.inl ⟨SqL.of h1,fun p hp=>aZ2 R1 P1 h2 hp⟩⟩
 | _=>exact P1.elim
theorem as9 {G:Hp}:∀ {ds:List D} {xs:List V} {k:List Key},am4 ds=some k→Dns cm G ds xs→xs=k.map kV
 | [],_,_,e,h=>by rw [Dns] at h; cases e; rw [h]; rfl
 | d :: ds,_,k,e,h=>by
   rw [Dns] at h
   obtain ⟨x,r,rfl,h1,h2⟩:=h
   unfold am4 at e
   cases q:ai1 d with
   | none=>rw [q] at e; cases e
   | some k0 =>
     cases q2:am4 ds with
     | none=>rw [q,q2] at e; cases e
     | some ks =>
       rw [q,q2] at e
       cases e
       rw [as9 q2 h2,List.map_cons]
       congr 1
       cases d with
       | int i=>cases q; rw [Dn] at h1; exact h1
       | str x=>cases q; rw [Dn] at h1; exact h1
       | _=>cases q
theorem aZ9 {G:Hp} {d:D} {v:V} {k:Key} (e:ai1 d=some k) (h:Dn cm G d v):v=kV k:=by
 cases d with
 | int i=>cases e; rw [Dn] at h; exact h
 | str x=>cases e; rw [Dn] at h; exact h
 | _=>cases e
noncomputable def OI (cm:Cm) (G:Hp):Option D→Option V→Prop
 | some d,r=>∃ v,r=some v∧Dn cm G d v
 | none,r=>r=none
section
variable {κ:Type} [DecidableEq κ]
theorem aG2 {G:Hp}:∀ {kvs:List (κ×V)} {ds:List D} (j:κ),Dns cm G ds (kvs.map (·.2))→OI cm G (ai9 (kvs.map (·.1)) ds j) (valV kvs j)
 | [],ds,j,h=>by
   cases ds with
   | nil=>exact bz4
   | cons d ds=>rw [Dns] at h; obtain ⟨x,r,e,_⟩:=h; cases e
 | p :: kvs,ds,j,h=>by
   cases ds with
   | nil=>rw [Dns] at h; cases h
   | cons d ds =>
     rw [List.map_cons,Dns] at h
     obtain ⟨x,r,e,h1,h2⟩:=h
     cases e
     rw [List.map_cons]
     unfold ai9
     by_cases q:p.1=j
     · rw [if_pos q]
       exact ⟨p.2,aw1 q,h1⟩
     · rw [if_neg q,aw2 q]
       exact aG2 j h2
end
theorem aS8 {G:Hp} {d k:D} {v u:V} {o:Option D} (hd:Cn cm G H d v) (hk:Dn cm H k u) (e:aS9 d k=some o):∃ a r,v= .ref a∧IsD H a∧DGet H a u r∧OI cm G o r:=by
 cases d with
 | dT ks vs =>
   obtain ⟨a,kvs,rfl,h1,h2,h3⟩:=hd
   cases k with
   | tup kd =>
     have e:(am4 kd).map (fun k=>ai9 ks vs k)=some o:=e
     obtain ⟨kk,ek,eo⟩:=Option.map_eq_some_iff.mp e
     rw [Dn] at hk
     obtain ⟨b,xs,rfl,h4,h5⟩:=hk
     have ex:=as9 ek h5
     subst ex
     refine ⟨a,valV kvs kk,rfl,.inr ⟨kvs,.inl h1⟩,DGet.t h1 h4,?_⟩
     have l:=aG2 (κ:=List Key) kk h3
     rw [h2,eo] at l
     exact l
   | _=>cases e
 | dK ks vs =>
   obtain ⟨a,kvs,rfl,h1,h2,h3⟩:=hd
   have e:(ai1 k).map (fun k=>ai9 ks vs k)=some o:=by cases k <;> exact e
   obtain ⟨kk,ek,eo⟩:=Option.map_eq_some_iff.mp e
   have ex:=aZ9 ek hk
   subst ex
   refine ⟨a,valV kvs kk,rfl,.inl ⟨kvs,.inl h1⟩,DGet.k h1,?_⟩
   have l:=aG2 (κ:=Key) kk h3
   rw [h2,eo] at l
   exact l
 | _=>cases k <;> cases e
theorem bD4 {k:Kd} {td tk:TE} {md mk:Env→Res D} (hk:PJ cm (KR cm .X) E ms tk mk) (hd:PJ cm (KC cm k) E ms td md):PJ cm (KR cm .F) E ms (tDIn tk td) (bn (dinD false) mk md):=by
 intro B U As σ H ρ Q R P
 refine hk.bnd R P fun y u B1 U1 H1 N1 _ R1 e1 n1 d1 P1=>hd.bnd R1 P1 fun x v B2 U2 H2 N2 _ R2 e2 n2 d2 P2=>?_
 unfold dinD at P2
 cases q:aS9 x y with
 | none=>rw [q] at P2; exact P2.elim
 | some o =>
   rw [q] at P2
   obtain ⟨a,r,ea,_,g,l⟩:=aS8 d2 (Dn.mono e2.h d1) q
   refine ⟨a,r,ea,g,P2 _ B2 U2 H2 [] R2 (Gw.refl _ _ _) New.nil ?_⟩
   show Dn cm _ (.bl (false.xor o.isSome)) _
   rw [Dn]
   cases o with
   | none=>rw [show r=none from l]; rfl
   | some d=>obtain ⟨w,rfl,_⟩:=l; rfl
noncomputable def bp4:D→Bool | .dT _ _=>true | .dK _ _=>true | _=>false
theorem Cn.dic {G:Hp} {d:D} {v:V} (h:Cn cm G H d v) (e:bp4 d=true):∃ a,v= .ref a∧IsD H a:=by
 cases d with
 | dT ks vs=>obtain ⟨a,kvs,r,h1,_⟩:=h; exact ⟨a,r,.inr ⟨kvs,.inl h1⟩⟩
 | dK ks vs=>obtain ⟨a,kvs,r,h1,_⟩:=h; exact ⟨a,r,.inl ⟨kvs,.inl h1⟩⟩
 | _=>cases e
noncomputable def cf7 (md mk mx:Env→Res D):Env→Res D:=fun ρ=>(md ρ).bind fun d=>if bp4 d=true then (mk ρ).bind fun k=>(mx ρ).bind fun x=>av3 d k x else .bad
theorem ca1 {k:Kd} {td tk tx:TE} {md mk mx:Env→Res D} (hd:PJ cm (KC cm k) E ms td md) (hk:PJ cm (KR cm .X) E ms tk mk) (hx:PJ cm (KR cm k) E ms tx mx):PJ cm (KR cm k) E ms (bJ9 td tk tx) (cf7 md mk mx):=by
 intro B U As σ H ρ Q R P
 refine hd.bnd R P fun x v B1 U1 H1 N1 _ R1 e1 n1 d1 P1=>?_
 by_cases z:bp4 x=true
 · rw [if_pos z] at P1
   obtain ⟨a,ea,hI⟩:=Cn.dic d1 z
   refine ⟨a,ea,hI,hk.bnd R1 P1 fun y u B2 U2 H2 N2 _ R2 e2 n2 d2 P2=>hx.bnd R2 P2 fun w ww B3 U3 H3 N3 _ R3 e3 n3 d3 P3=>?_⟩
   unfold av3 at P3
   have c:=Cn.mono (at4 (e2.trans e3)) (e2.trans e3).h d1
   cases q:aS9 x y with
   | none=>rw [q] at P3; exact P3.elim
   | some o =>
     rw [q] at P3
     obtain ⟨a',r,ea',_,g,l⟩:=aS8 c (Dn.mono e3.h d2) q
     rw [ea] at ea'
     cases ea'
     cases o with
     | none =>
       refine ⟨r,g,?_⟩
       rw [show r=none from l]
       exact P3 ww B3 U3 H3 [] R3 (Gw.refl _ _ _) New.nil d3
     | some d =>
       obtain ⟨w',rfl,dw⟩:=l
       exact ⟨_,g,P3 w' B3 U3 H3 [] R3 (Gw.refl _ _ _) New.nil dw⟩
 · rw [if_neg z] at P1
   exact P1.elim
noncomputable def cf8 (md mk:Env→Res D):Env→Res D:=fun ρ=>(md ρ).bind fun d=>if bp4 d=true then (mk ρ).bind fun k=>av3 d k .non else .bad
theorem ca2 {k:Kd} {td tk:TE} {md mk:Env→Res D} (hd:PJ cm (KC cm k) E ms td md) (hk:PJ cm (KR cm .X) E ms tk mk):PJ cm (KR cm k) E ms (bK0 td tk) (cf8 md mk):=by
 intro B U As σ H ρ Q R P
 refine hd.bnd R P fun x v B1 U1 H1 N1 _ R1 e1 n1 d1 P1=>?_
 by_cases z:bp4 x=true
 · rw [if_pos z] at P1
   obtain ⟨a,ea,hI⟩:=Cn.dic d1 z
   refine ⟨a,ea,hI,hk.bnd R1 P1 fun y u B2 U2 H2 N2 _ R2 e2 n2 d2 P3=>?_⟩
   unfold av3 at P3
   have c:=Cn.mono (at4 e2) e2.h d1
   cases q:aS9 x y with
   | none=>rw [q] at P3; exact P3.elim
   | some o =>
     rw [q] at P3
     obtain ⟨a',r,ea',_,g,l⟩:=aS8 c d2 q
     rw [ea] at ea'
     cases ea'
     cases o with
     | none =>
       refine ⟨r,g,?_⟩
       rw [show r=none from l]
       exact P3 .non B2 U2 H2 [] R2 (Gw.refl _ _ _) New.nil (show Dn cm _ .non .non by rw [Dn])
     | some d =>
       obtain ⟨w',rfl,dw⟩:=l
       exact ⟨_,g,P3 w' B2 U2 H2 [] R2 (Gw.refl _ _ _) New.nil dw⟩
 · rw [if_neg z] at P1
   exact P1.elim
end
section
variable {cm:Cm} {E:XK} {ms:List Md} {K:PySem.W.Frag} {B U H:Hp} {As:Nat→List Addr} {σ:St} {ρ:Env}
theorem aZ5 {G:Hp}:∀ {fs:List (Str×V)} {ds:List D} {f:Str} {d:D},Dns cm G ds (fs.map (·.2))→ai9 (fs.map (·.1)) ds f=some d→∃ v,fs.lookup f=some v∧Dn cm G d v
 | [],ds,f,d,h,e=>by cases ds <;> cases e
 | p :: fs,ds,f,d,h,e=>by
   cases ds with
   | nil=>cases e
   | cons d0 ds =>
     rw [List.map_cons,Dns] at h
     obtain ⟨x,r,e0,h1,h2⟩:=h
     cases e0
     rw [List.map_cons] at e
     unfold ai9 at e
     by_cases q:p.1=f
     · rw [if_pos q] at e
       cases e
       exact ⟨p.2,by rw [List.lookup_cons,← q,beq_self_eq_true],h1⟩
     · rw [if_neg q] at e
       obtain ⟨v,hv,dv⟩:=aZ5 h2 e
       have:(f == p.1)=false:=beq_eq_false_iff_ne.mpr fun z=>q z.symm
       exact ⟨v,by rw [List.lookup_cons,this]; exact hv,dv⟩
theorem Owf.get {B H:Hp} {sh:List (Str×Sh)}:∀ {fs:List (Str×V)} {ds:List D} {A:List Addr} {f:Str} {d:D},Owf cm B H ds (fs.map (·.1)) sh (fs.map (·.2)) A→ai9 (fs.map (·.1)) ds f=some d →
 ∃ v A1,fs.lookup f=some v∧Ow cm B H d ((sh.lookup f).getD .fz) v A1∧∀ a∈A1,a∈A
 | [],ds,A,f,d,h,e=>by cases ds <;> cases e
 | p :: fs,ds,A,f,d,h,e=>by
   cases ds with
   | nil=>cases e
   | cons d0 ds =>
     rw [List.map_cons,List.map_cons,Owf] at h
     obtain ⟨n,ns',x,r,A1,A2,hn,h0,h1,h2,h3⟩:=h
     cases hn
     cases h0
     subst h1
     rw [List.map_cons] at e
     unfold ai9 at e
     by_cases q:p.1=f
     · rw [if_pos q] at e
       cases e
       rw [q] at h2
       exact ⟨p.2,A1,by rw [List.lookup_cons,← q,beq_self_eq_true],h2,fun a ha=>List.mem_append_left _ ha⟩
     · rw [if_neg q] at e
       obtain ⟨v,A3,hv,ow,hA⟩:=Owf.get h3 e
       have:(f == p.1)=false:=beq_eq_false_iff_ne.mpr fun z=>q z.symm
       exact ⟨v,A3,by rw [List.lookup_cons,this]; exact hv,ow,fun a ha=>List.mem_append_right _ (hA a ha)⟩
theorem bq2 {c:Nat} {f:Str} {x d:D} (h:fldD c f x= .ok d):∃ ns vs,x= .obj c ns vs∧ai9 ns vs f=some d:=by
 cases x with
 | obj c' ns vs =>
   unfold fldD at h; dsimp only at h
   by_cases e:c'=c
   · rw [if_pos e] at h
     subst e
     cases q:ai9 ns vs f with
     | none=>rw [q] at h; cases h
     | some y=>rw [q] at h; cases h; exact ⟨ns,vs,rfl,q⟩
   · rw [if_neg e] at h
     cases h
 | _=>cases h
theorem ba2 {c:Nat} {f:Str} {x:D} {e:Nat} (h:fldD c f x= .exc e):False:=by
 cases x with
 | obj c' ns vs =>
   have h:(if c'=c then (match ai9 ns vs f with | some x=>Res.ok x | none=> .bad) else .bad)= .exc e:=h
   by_cases e:c'=c
   · rw [if_pos e] at h
     cases q:ai9 ns vs f <;> (rw [q] at h; cases h)
   · rw [if_neg e] at h
     cases h
 | _=>cases h
theorem aL4 {k:Kd} {c:Nat} {f:Str} {ta:TE} {ma:Env→Res D} (hc:Cls K (cm c)) (hn:NoAttr K (cm c) f) (ha:PJ cm (KC cm k) E ms ta ma):PJ cm (KR cm k) E ms (tFld K ta f) (un (fldD c f) ma):=by
 intro B U As σ H ρ Q R P
 refine ha.bnd R P fun x v B1 U1 H1 N1 _ R1 e1 n1 d1 P1=>?_
 cases e:fldD c f x with
 | ok d =>
   rw [e] at P1
   obtain ⟨ns,vs,rfl,l⟩:=bq2 e
   obtain ⟨a,dx,fs,r,h1,h2,h3⟩:=d1
   subst h2
   obtain ⟨w,hw,dw⟩:=aZ5 h3 l
   exact ⟨a,_,dx,fs,w,r,h1,hc,hn,hw,P1 w B1 U1 H1 [] R1 (Gw.refl _ _ _) New.nil dw⟩
 | exc c'=>exact (ba2 e).elim
 | bad=>rw [e] at P1; exact P1.elim
theorem co6 {K':KT D V} {c:Nat} {f:Str} {i:Nat} {sh:List (Str×Sh)} (hc:Cls K (cm c)) (hn:NoAttr K (cm c) f) (hm:ms.getD i .F= .O (.ob sh))
 (hk:∀ B U H d v A,Same B U→Same U H→Ow cm B H d ((sh.lookup f).getD .fz) v A→K' d v B U H []):PJ cm K' E ms (tFld K (tVar i) f) (un (fldD c f) (vr i)):=by
 intro B U As σ H ρ Q R P
 have l:=R.lo i
 rw [hm] at l
 unfold un vr at P
 cases e:rg ρ i with
 | none=>rw [e] at P; exact P.elim
 | some d0 =>
   rw [e] at P l
   obtain ⟨v,hv,q⟩:=l
   replace P:Po cm K' E ms B U As σ H ρ (fldD c f d0) Q:=P
   refine ⟨v,am9 hv,?_⟩
   cases e2:fldD c f d0 with
   | ok d =>
     rw [e2] at P
     obtain ⟨ns,vs,rfl,l⟩:=bq2 e2
     have q:Ow cm B H (.obj c ns vs) (.ob sh) v (As i):=q
     rw [Ow] at q
     obtain ⟨a,dx,fs,A',r,h1,h2,h3,h4⟩:=q
     subst h2
     obtain ⟨w,A1,hw,ow,_⟩:=Owf.get h4 l
     exact ⟨a,_,dx,fs,w,r,h1,hc,hn,hw,P w B U H [] R (Gw.refl _ _ _) New.nil (hk B U H d w A1 R.bu R.uh ow)⟩
   | exc c'=>exact (ba2 e2).elim
   | bad=>rw [e2] at P; exact P.elim
theorem co7 {c:Nat} {f:Str} {i:Nat} {sh:List (Str×Sh)} (hc:Cls K (cm c)) (hn:NoAttr K (cm c) f) (hm:ms.getD i .F= .O (.ob sh)) (hf:(sh.lookup f).getD .fz= .ct .fz):PJ cm (KC cm .F) E ms (tFld K (tVar i) f) (un (fldD c f) (vr i)) :=
 co6 hc hn hm fun B U H d v A b u ow=>by
  rw [hf] at ow
  exact Ow.cn (b.trans u) ow
noncomputable def ItIs (J:It) (H:Hp) (vs:List V):Prop:=∀ H2,Same H H2→(∀ i,vs.length≤i→J.stop i H2)∧(∀ i,i < vs.length→J.go i H2)∧∀ i x H',i < vs.length→J.yld i H2 x H'→H'=H2∧vs[i]?=some x
noncomputable def KI (cm:Cm) (k g:Kd):KT (List D) It:=fun ds J B U H _=>∃ vs,ItIs J (hp g B U H) vs∧Dns cm (hp k B U H) ds vs
theorem ar4 {a:Addr} {xs:List V} (h:H a=some (.lst xs)∨SqF K H a xs):ItIs (Itl K a) H xs:=fun H2 s=>by
 have q:SqL K H2 a xs:=by
  rcases h with h | h
  · exact .inl (.inl (s _ _ h))
  · exact (h.mono s).sq
 exact ⟨fun i hi=>⟨xs,q,hi⟩,fun i hi=>⟨xs,xs[i],q,List.getElem?_eq_getElem hi⟩,fun i x H' hi y=>⟨y.1,y.2 xs q⟩⟩
theorem ba0 (lo:Int) (n:Nat):ItIs (Itr lo n) H ((List.range n).map fun i:Nat=>V.int (lo + i)):=fun H2 s=>by
 have hl:((List.range n).map fun i:Nat=>V.int (lo + i)).length=n:=by rw [List.length_map,List.length_range]
 refine ⟨fun i hi=>by rw [hl] at hi; exact hi,fun i hi=>by rw [hl] at hi; exact hi,fun i x H' hi y=>⟨y.1,?_⟩⟩
 rw [hl] at hi
 rw [List.getElem?_map,List.getElem?_range hi,y.2]
 rfl
theorem aT1 {G:Hp} (lo:Int):∀ n:Nat,Dns cm G ((List.range n).map fun i:Nat=>D.int (lo + i)) ((List.range n).map fun i:Nat=>V.int (lo + i))
 | 0=>by rw [List.range_zero,List.map_nil,List.map_nil,Dns]
 | n + 1=>by
   rw [List.range_succ,List.map_append,List.map_append]
   exact (aT1 lo n).append (Dns.one (by rw [Dn]))
theorem av1 {k:Kd} {ta:TE} {ma:Env→Res D} (ha:PJ cm (KC cm k) E ms ta ma):PJ cm (KI cm k .X) E ms (bp7 cm.K ta) (srcL ma):=by
 intro B U As σ H ρ Q R P
 refine ha.bnd R P fun x v B1 U1 H1 N1 _ R1 e1 n1 d1 P1=>?_
 cases x with
 | lst ds =>
   obtain ⟨a,xs,r,h1,h2⟩:=d1
   exact ⟨a,r,⟨xs,SqL.of h1⟩,P1 _ B1 U1 H1 [] R1 (Gw.refl _ _ _) New.nil ⟨xs,ar4 (.inl h1),h2⟩⟩
 | scr ds =>
   obtain ⟨a,xs,r,h1,h2⟩:=d1
   exact ⟨a,r,⟨xs,h1.sq⟩,P1 _ B1 U1 H1 [] R1 (Gw.refl _ _ _) New.nil ⟨xs,ar4 (.inr h1),h2⟩⟩
 | _=>exact P1.elim
theorem bp6 {k:Kd} {ta:TE} {ma:Env→Res D} (ha:PJ cm (KR cm k) E ms ta ma):PJ cm (KI cm k k) E ms (bp7 cm.K ta) (srcL ma):=by
 intro B U As σ H ρ Q R P
 refine ha.bnd R P fun x v B1 U1 H1 N1 _ R1 e1 n1 d1 P1=>?_
 have d1:Dn cm (hp k B1 U1 H1) x v:=d1
 cases x with
 | lst ds =>
   rw [Dn] at d1
   obtain ⟨a,xs,r,h1,h2⟩:=d1
   exact ⟨a,r,⟨xs,SqL.of (R1.hp k _ _ h1)⟩,P1 _ B1 U1 H1 [] R1 (Gw.refl _ _ _) New.nil ⟨xs,ar4 (.inl h1),h2⟩⟩
 | scr ds =>
   rw [Dn] at d1
   obtain ⟨a,xs,r,h1,h2⟩:=d1
   exact ⟨a,r,⟨xs,(h1.mono (R1.hp k)).sq⟩,P1 _ B1 U1 H1 [] R1 (Gw.refl _ _ _) New.nil ⟨xs,ar4 (.inr h1),h2⟩⟩
 | _=>exact P1.elim
theorem i_r2 {g:Kd} {ta tb:TE} {ma mb:Env→Res D} (ha:PJ cm (KR cm .X) E ms ta ma) (hb:PJ cm (KR cm .X) E ms tb mb):PJ cm (KI cm .F g) E ms (cv8 (ai4 ta (ai4 tb tNil))) (srcR ma mb):=by
 intro B U As σ H ρ Q R P
 refine ha.bnd R P fun x v B1 U1 H1 N1 _ R1 e1 n1 d1 P1=>hb.bnd R1 P1 fun y u B2 U2 H2 N2 _ R2 e2 n2 d2 P2=>?_
 have d1:Dn cm H1 x v:=d1
 have d2:Dn cm H2 y u:=d2
 cases x with
 | int i =>
   cases y with
   | int j =>
     rw [Dn] at d1; rw [Dn] at d2
     subst d1 d2
     have P2:Po cm (KI cm .F g) E ms B2 U2 As σ H2 ρ (if -(2 ^ 62)≤i∧i < 2 ^ 62∧-(2 ^ 62)≤j∧j < 2 ^ 62 then .ok (rng i j) else .bad) Q:=P2
     by_cases z:-(2 ^ 62)≤i∧i < 2 ^ 62∧-(2 ^ 62)≤j∧j < 2 ^ 62
     · rw [if_pos z] at P2
       exact ⟨i,j,rfl,z,P2 _ B2 U2 H2 [] R2 (Gw.refl _ _ _) New.nil ⟨_,ba0 i _,aT1 i _⟩⟩
     · rw [if_neg z] at P2
       exact P2.elim
   | _=>exact P2.elim
 | _=>cases y <;> exact P2.elim
theorem i_r1 {g:Kd} {tb:TE} {mb:Env→Res D} (hb:PJ cm (KR cm .X) E ms tb mb):PJ cm (KI cm .F g) E ms (cv9 (ai4 tb tNil)) (aJ7 mb):=by
 intro B U As σ H ρ Q R P
 have P:Po cm (KI cm .F g) E ms B U As σ H ρ ((mb ρ).bind fun y=>match D.int 0,y with
  | .int i,.int j=>if -(2 ^ 62)≤i∧i < 2 ^ 62∧-(2 ^ 62)≤j∧j < 2 ^ 62 then .ok (rng i j) else .bad
  | _,_=> .bad) Q:=P
 refine hb.bnd R P fun y u B2 U2 H2 N2 _ R2 e2 n2 d2 P2=>?_
 have d2:Dn cm H2 y u:=d2
 cases y with
 | int j =>
   rw [Dn] at d2
   subst d2
   have P2:Po cm (KI cm .F g) E ms B2 U2 As σ H2 ρ (if -(2 ^ 62)≤(0:Int)∧(0:Int) < 2 ^ 62∧-(2 ^ 62)≤j∧j < 2 ^ 62 then .ok (rng 0 j) else .bad) Q:=P2
   by_cases z:-(2 ^ 62)≤(0:Int)∧(0:Int) < 2 ^ 62∧-(2 ^ 62)≤j∧j < 2 ^ 62
   · rw [if_pos z] at P2
     refine ⟨j,rfl,z.2.2.1,z.2.2.2,P2 _ B2 U2 H2 [] R2 (Gw.refl _ _ _) New.nil ?_⟩
     have e:(j - 0).toNat=j.toNat:=by rw [Int.sub_zero]
     unfold rng
     rw [e]
     exact ⟨_,ba0 0 _,aT1 0 _⟩
   · rw [if_neg z] at P2
     exact P2.elim
 | _=>exact P2.elim
theorem bk6 {α:Type} {l:List (Option α)} {x:Option α} {i:Nat}:rg (x :: l) (i + 1)=rg l i:=by unfold rg; rw [List.getElem?_cons_succ]
theorem bk5 {α:Type} {l:List (Option α)} {x:Option α}:rg (x :: l) 0=x:=by unfold rg; rw [List.getElem?_cons_zero]; rfl
theorem bK4 {α:Type} {l:List (Option α)} {ix:List Nat} {j:Nat}:rg (ix.map fun i=>rg l i) j=match ix[j]? with | some i=>rg l i | none=>none:=by
 unfold rg
 rw [List.getElem?_map]
 cases ix[j]? <;> rfl
theorem aZ0:∀ {l:List Nat} {i j:Nat},l.Nodup→(h1:i < l.length)→(h2:j < l.length)→l[i]=l[j]→i=j
 | [],_,_,_,h1,_,_=>by simp at h1
 | x :: l,0,0,_,_,_,_=>rfl
 | x :: l,0,j + 1,nd,h1,h2,e=>by
   have h3:j < l.length:=by simpa using h2
   exact absurd (show x∈l from by rw [show x=l[j] from e]; exact List.getElem_mem h3) (List.nodup_cons.mp nd).1
 | x :: l,i + 1,0,nd,h1,h2,e=>by
   have h3:i < l.length:=by simpa using h1
   exact absurd (show x∈l from by rw [show x=l[i] from e.symm]; exact List.getElem_mem h3) (List.nodup_cons.mp nd).1
 | x :: l,i + 1,j + 1,nd,h1,h2,e=>by
   rw [aZ0 (List.nodup_cons.mp nd).2 (by simpa using h1) (by simpa using h2) e]
noncomputable def asIn (As:Nat→List Addr) (ix:List Nat):Nat→List Addr
 | 0=>[]
 | j + 1=>match ix[j]? with | some i=>As i | none=>[]
noncomputable def msIn (m:Md) (ms:List Md) (ix:List Nat):List Md:=m :: ix.map fun i=>ms.getD i .F
theorem Rel.inner (R:Rel cm ms B U As σ H ρ) {ix:List Nat} (hix:ix.Nodup) {m:Md} {d:D} {v:V} (hd:Lo cm B U H m (some d) (some v) []) :
 Rel cm (msIn m ms ix) B U (asIn As ix) (some v :: capV σ ix) H (some d :: capD ρ ix) where
 bu:=R.bu
 uh:=R.uh
 nd:=fun i=>by
  cases i with
  | zero=>exact List.nodup_nil
  | succ j =>
    show (match ix[j]? with | some i=>As i | none=>[]).Nodup
    cases ix[j]? with
    | none=>exact List.nodup_nil
    | some i=>exact R.nd i
 dj:=fun i j a hne ha hb=>by
  cases i with
  | zero=>cases ha
  | succ i =>
    cases j with
    | zero=>cases hb
    | succ j =>
      have ha:a∈(match ix[i]? with | some i=>As i | none=>[]):=ha
      have hb:a∈(match ix[j]? with | some i=>As i | none=>[]):=hb
      cases ei:ix[i]? with
      | none=>rw [ei] at ha; cases ha
      | some x =>
        cases ej:ix[j]? with
        | none=>rw [ej] at hb; cases hb
        | some y =>
          rw [ei] at ha
          rw [ej] at hb
          by_cases e:x=y
          · subst e
            obtain ⟨h1,e1⟩:=List.getElem?_eq_some_iff.mp ei
            obtain ⟨h2,e2⟩:=List.getElem?_eq_some_iff.mp ej
            have:=aZ0 hix h1 h2 (e1.trans e2.symm)
            exact hne (by rw [this])
          · exact R.dj x y a e ha hb
 tb:=R.tb
 un:=fun i a ha=>by
  cases i with
  | zero=>cases ha
  | succ i =>
    have ha:a∈(match ix[i]? with | some i=>As i | none=>[]):=ha
    cases ei:ix[i]? with
    | none=>rw [ei] at ha; cases ha
    | some x=>rw [ei] at ha; exact R.un x a ha
 lo:=fun i=>by
  cases i with
  | zero =>
    rw [bk5,bk5]
    exact hd
  | succ j =>
    rw [bk6,bk6]
    unfold capV capD
    have e1:rg (ix.map fun j=>rg ρ j) j=match ix[j]? with | some i=>rg ρ i | none=>none:=bK4
    have e2:rg (ix.map fun j=>(σ[j]?).join) j=match ix[j]? with | some i=>rg σ i | none=>none:=bK4
    rw [e1,e2]
    show Lo cm B U H ((m :: ix.map fun i=>ms.getD i .F).getD (j + 1) .F) _ _ (match ix[j]? with | some i=>As i | none=>[])
    rw [List.getD_cons_succ,List.getD_eq_getElem?_getD,List.getElem?_map]
    cases ix[j]? with
    | none=>exact rfl
    | some i=>exact R.lo i
 len:=by
  rw [List.length_cons,List.length_cons,capV,capD,List.length_map,List.length_map]
theorem Rel.poke (R:Rel cm ms B U As σ H ρ) {p:Addr} {o:HO} (hu:U p=none) (ha:∀ i,p∉As i):Rel cm ms B U As σ (upd H p o) ρ :=
 ⟨R.bu,fun a u q=>by rw [ac3 (ac7 q hu)]; exact R.uh a u q,R.nd,R.dj,R.un,fun i=>(R.lo i).mono (Same.refl _) (Same.refl _) fun a h=>ac3 (fun z:a=p=>ha i (z ▸ h)),R.len,R.tb⟩
theorem aN3 {α:Type} {l:List α} {i:Nat} {x:α} (h:l[i]?=some x):l.drop i=x :: l.drop (i + 1):=by
 obtain ⟨h1,h2⟩:=List.getElem?_eq_some_iff.mp h
 rw [List.drop_eq_getElem_cons h1,h2]
theorem aW3 {k k':Kd} {m0:Md} {K':KT D V} {wi:TI} {ix:List Nat} {ti:TT} {te:TE} {src:Env→Res (List D)} {mi:Env→Res Bool} {me:Env→Res D}
 (hs:PJ cm (KI cm k .X) E ms wi src) (hix:ix.Nodup) (h0:∀ B U H d v,Same B U→Same U H→Dn cm (hp k B U H) d v→Lo cm B U H m0 (some d) (some v) [])
 (hti:PJ cm KB E0 (msIn m0 ms ix) ti mi) (hte:PJ cm (KR cm k') E0 (msIn m0 ms ix) te me)
 (fin:∀ B U As σ H ρ B1 U1 H1 Q zs ys p,Rel cm ms B1 U1 As σ H1 ρ→Gw B U H B1 U1 H1→H p=none→U1 p=none→(∀ i,p∉As i)→H1 p=some (.lst ys)→Dns cm (hp k' B1 U1 H1) zs ys→Po cm K' E ms B U As σ H ρ (.ok (.lst zs)) Q→Q (.ref p) H1)
 (hk':k'= .F∨k'= .U):PJ cm K' E ms (bc8 wi ix ti te) (comp src ix mi me):=by
 intro B U As σ H ρ Q R P
 refine hs.bnd R P fun ds J B1 U1 H1 N1 _ R1 e1 n1 ⟨vs,hJ,hd⟩ P1 p hp=>?_
 by_cases z:ds.length < aa7
 · rw [if_pos z] at P1
   have hvl:ds.length=vs.length:=hd.len
   have hpA:∀ i,p∉As i:=fun i=>R1.fresh hp i
   have grow':∀ {B2 U2 H2 B3 U3 H3:Hp},Gw B2 U2 H2 B3 U3 H3→Same (Mi.hp k' B2 U2 (fun _=>none)) (Mi.hp k' B3 U3 (fun _=>none)):=fun g=>by
    rcases hk' with e | e <;> subst e
    · exact g.b
    · exact g.u
   have hpe:∀ {B2 U2 H2:Hp},Mi.hp k' B2 U2 H2=Mi.hp k' B2 U2 (fun _=>none):=fun {B2 U2 H2}=>by rcases hk' with e | e <;> subst e <;> rfl
   refine ⟨fun i m ys H2=>i≤ds.length∧m=ds.length - i∧H2 p=some (.lst ys)∧ys.length≤i∧∃ B2 U2 zs,Rel cm ms B2 U2 As σ H2 ρ∧Gw B1 U1 H1 B2 U2 H2∧U2 p=none∧Dns cm (Mi.hp k' B2 U2 (fun _=>none)) zs ys ∧
    Po cm K' E ms B1 U1 As σ H1 ρ ((aj5 mi me (capD ρ ix) (ds.drop i)).bind fun r=> .ok (.lst (zs ++ r))) Q,⟨ds.length,Nat.zero_le _,rfl,ac4,Nat.le_refl _,B1,U1,[],R1.new hp,Gw.newO R1 hp,R1.uh.free hp,by rw [Dns],P1⟩,?_⟩
   rintro i m ys H2 ⟨hi,rfl,hy,hle,B2,U2,zs,R2,g2,u2,dz,P2⟩
   have hpe2:=hJ H2 g2.h
   refine ⟨hy,Nat.lt_of_le_of_lt hle (am1 (Nat.le_of_lt (Nat.lt_of_le_of_lt hi z))),?_⟩
   by_cases hlt:i < ds.length
   · refine .inr ⟨hpe2.2.1 i (by omega),fun v H3 hyl=>?_⟩
     obtain ⟨rfl,ev⟩:=hpe2.2.2 i v H3 (by omega) hyl
     obtain ⟨d,ed,dd⟩:=hd.geti ev
     rw [aN3 ed,aj5] at P2
     have RI:=R2.inner hix (h0 B2 U2 H3 d v R2.bu R2.uh (Dn.mono (at4 g2) dd))
     refine hti B2 U2 _ _ H3 _ _ RI ?_
     cases eb:mi (some d :: capD ρ ix) with
     | ok c =>
       rw [eb] at P2
       intro b B3 U3 H4 N3 R3' g3 n3 hb
       cases hb
       have up3:U3 p=none:=by
        cases q:U3 p with
        | none=>rfl
        | some o =>
          rcases g3.fr p o q with z | z | ⟨xs,z⟩
          · rw [u2] at z; cases z
          · rw [hy] at z; cases z
          · subst z; have:=R3'.uh p _ q; rw [g3.h _ _ hy] at this; cases this
       have R3:Rel cm ms B3 U3 As σ H4 ρ:=R2.grow g3.b g3.u g3.h R3'.bu R3'.uh fun j a ha=>by
        cases q:U3 a with
        | none=>rfl
        | some o =>
          rcases g3.fr a o q with z | z | z
          · rw [R2.un j a ha] at z; cases z
          · obtain ⟨o',q'⟩:=R2.at ha
            rw [z] at q'; cases q'
          · obtain ⟨o',q'⟩:=R2.at ha
            have e1:=g3.h _ _ q'
            rw [R3'.uh a _ q] at e1; cases e1; exact (R2.nt ha q' z).elim
       cases c with
       | false =>
         rw [if_neg Bool.false_ne_true]
         exact ⟨ds.length - (i + 1),by omega,hlt,rfl,g3.h _ _ hy,by omega,B3,U3,zs,R3,g2.trans g3,up3,dz.mono (grow' g3),P2⟩
       | true =>
         rw [if_pos rfl]
         refine hte B3 U3 _ _ H4 _ _ R3' ?_
         cases ee:me (some d :: capD ρ ix) with
         | ok x =>
           have P3:Po cm K' E ms B1 U1 As σ H1 ρ (((me (some d :: capD ρ ix)).calm.bind fun x=>(aj5 mi me (capD ρ ix) (ds.drop (i + 1))).bind fun xs=> .ok (x :: xs)).bind fun r=> .ok (.lst (zs ++ r))) Q:=P2
           rw [ee] at P3
           intro y B4 U4 H5 N4 R4' g4 n4 hx
           have y5:H5 p=some (.lst ys):=g4.h _ _ (g3.h _ _ hy)
           have up4:U4 p=none:=by
            cases q:U4 p with
            | none=>rfl
            | some o =>
              rcases g4.fr p o q with z | z | ⟨xs,z⟩
              · rw [up3] at z; cases z
              · rw [g3.h _ _ hy] at z; cases z
              · subst z; have:=R4'.uh p _ q; rw [y5] at this; cases this
           have R4:Rel cm ms B4 U4 As σ H5 ρ:=R3.grow g4.b g4.u g4.h R4'.bu R4'.uh fun j a ha=>by
            cases q:U4 a with
            | none=>rfl
            | some o =>
              rcases g4.fr a o q with z | z | z
              · rw [R3.un j a ha] at z; cases z
              · obtain ⟨o',q'⟩:=R3.at ha
                rw [z] at q'; cases q'
              · obtain ⟨o',q'⟩:=R3.at ha
                have e1:=g4.h _ _ q'
                rw [R4'.uh a _ q] at e1; cases e1; exact (R3.nt ha q' z).elim
           have g5:Gw B1 U1 H1 B4 U4 (upd H5 p (.lst (ys ++ [y]))):=by
            have g:=(g2.trans g3).trans g4
            exact ⟨g.toEx,fun a o q=>by rw [ac3 (ac7 q hp)]; exact g.h a o q,g.fr⟩
           refine ⟨y5,ds.length - (i + 1),by omega,hlt,rfl,ac4,by rw [List.length_append,List.length_singleton]; omega,B4,U4,zs ++ [x],R4.poke up4 hpA,g5,up4,(dz.mono (grow' (g3.trans g4))).append (Dns.one ?_),?_⟩
           · have hx:Dn cm (Mi.hp k' B4 U4 H5) x y:=hx
             rw [hpe] at hx
             exact hx
           · cases eg:aj5 mi me (capD ρ ix) (ds.drop (i + 1)) with
             | ok r =>
               rw [eg] at P3
               show Po cm K' E ms B1 U1 As σ H1 ρ (.ok (.lst (zs ++ [x] ++ r))) Q
               rw [List.append_assoc]
               exact P3
             | exc c=>rw [eg] at P3; exact P3
             | bad=>rw [eg] at P3; exact P3
         | exc c =>
           have P3:Po cm K' E ms B1 U1 As σ H1 ρ (((me (some d :: capD ρ ix)).calm.bind fun x=>(aj5 mi me (capD ρ ix) (ds.drop (i + 1))).bind fun xs=> .ok (x :: xs)).bind fun r=> .ok (.lst (zs ++ r))) Q:=P2
           rw [ee] at P3
           exact P3.elim
         | bad =>
           have P3:Po cm K' E ms B1 U1 As σ H1 ρ (((me (some d :: capD ρ ix)).calm.bind fun x=>(aj5 mi me (capD ρ ix) (ds.drop (i + 1))).bind fun xs=> .ok (x :: xs)).bind fun r=> .ok (.lst (zs ++ r))) Q:=P2
           rw [ee] at P3
           exact P3.elim
     | exc c=>rw [eb] at P2; exact P2.elim
     | bad=>rw [eb] at P2; exact P2.elim
   · have e:i=ds.length:=by omega
     subst e
     rw [List.drop_length,aj5] at P2
     refine .inl ⟨hpe2.1 _ (by omega),?_⟩
     have P3:Po cm K' E ms B1 U1 As σ H1 ρ (.ok (.lst (zs ++ []))) Q:=P2
     rw [List.append_nil] at P3
     exact fin B1 U1 As σ H1 ρ B2 U2 H2 Q zs ys p R2 g2 hp u2 hpA hy (by rw [hpe]; exact dz) P3
 · rw [if_neg z] at P1
   exact P1.elim
theorem inF {B U H:Hp} {d:D} {v:V} (_:Same B U) (_:Same U H) (h:Dn cm (hp .F B U H) d v):Lo cm B U H .F (some d) (some v) []:=⟨v,rfl,h,rfl⟩
theorem inU {B U H:Hp} {d:D} {v:V} (_:Same B U) (_:Same U H) (h:Dn cm (hp .U B U H) d v):Lo cm B U H .R (some d) (some v) []:=⟨v,rfl,h,rfl⟩
theorem finO {B U:Hp} {As:Nat→List Addr} {σ:St} {H:Hp} {ρ:Env} {B1 U1 H1:Hp} {Q:VK} {zs:List D} {ys:List V} {p:Addr} (R:Rel cm ms B1 U1 As σ H1 ρ) (g:Gw B U H B1 U1 H1) (hp:H p=none) (u:U1 p=none) (ha:∀ i,p∉As i) (h:H1 p=some (.lst ys))
 (d:Dns cm (Mi.hp .F B1 U1 H1) zs ys) (P:Po cm (KO cm (.ct .fz)) E ms B U As σ H ρ (.ok (.lst zs)) Q):Q (.ref p) H1 :=
 P (.ref p) B1 U1 H1 [p] R g ⟨by simp,fun a q=>by rw [List.mem_singleton.mp q]; exact hp,fun a q=>by rw [List.mem_singleton.mp q]; exact u⟩ (by
  show Ow cm B1 H1 (.lst zs) (.ct .fz) (.ref p) [p]
  rw [Ow]
  exact ⟨p,ys,[],rfl,h,rfl,Ows.of d⟩)
theorem finU {B U:Hp} {As:Nat→List Addr} {σ:St} {H:Hp} {ρ:Env} {B1 U1 H1:Hp} {Q:VK} {zs:List D} {ys:List V} {p:Addr} (R:Rel cm ms B1 U1 As σ H1 ρ) (g:Gw B U H B1 U1 H1) (hp:H p=none) (u:U1 p=none) (ha:∀ i,p∉As i) (h:H1 p=some (.lst ys))
 (d:Dns cm (Mi.hp .U B1 U1 H1) zs ys) (P:Po cm (KR cm .U) E ms B U As σ H ρ (.ok (.lst zs)) Q):Q (.ref p) H1:=by
 have s1:Same U1 (upd U1 p (.lst ys)):=Gd.ae8 u
 have s2:Same (upd U1 p (.lst ys)) H1:=fun a o q=>by
  by_cases z:a=p
  · subst z; rw [ac4] at q; cases q; exact h
  · rw [ac3 z] at q; exact R.uh a o q
 refine P (.ref p) B1 (upd U1 p (.lst ys)) H1 [] (R.grow (Same.refl _) s1 (Same.refl _) (R.bu.trans s1) s2 fun i a q=>by rw [ac3 (fun z:a=p=>ha i (z ▸ q))]; exact R.un i a q)
  ⟨⟨g.b,g.u.trans s1,g.nb⟩,g.h,fun a o q=>?_⟩ New.nil ?_
 · by_cases z:a=p
   · subst z; exact .inr (.inl hp)
   · rw [ac3 z] at q; exact g.fr a o q
 · show Dn cm (upd U1 p (.lst ys)) (.lst zs) (.ref p)
   rw [Dn]
   exact ⟨p,ys,rfl,ac4,Dns.mono s1 d⟩
section
variable {wi:TI} {ix:List Nat} {ti:TT} {te:TE} {src:Env→Res (List D)} {mi:Env→Res Bool} {me:Env→Res D}
theorem aq8:PJ cm KB E ms tYes (fun _=> .ok true):=fun B U As σ H ρ Q R P=>P _ B U H [] R (Gw.refl _ _ _) New.nil rfl
theorem aj3 (hs:PJ cm (KI cm .F .X) E ms wi src) (hix:ix.Nodup) (hti:PJ cm KB E0 (msIn .F ms ix) ti mi) (hte:PJ cm (KR cm .F) E0 (msIn .F ms ix) te me):PJ cm (KO cm (.ct .fz)) E ms (bc8 wi ix ti te) (comp src ix mi me) :=
 aW3 hs hix (fun _ _ _ _ _=>inF) hti hte (fun _ _ _ _ _ _ _ _ _ _ _ _ _=>finO) (.inl rfl)
theorem aY7 (hs:PJ cm (KI cm .U .X) E ms wi src) (hix:ix.Nodup) (hti:PJ cm KB E0 (msIn .R ms ix) ti mi) (hte:PJ cm (KR cm .F) E0 (msIn .R ms ix) te me):PJ cm (KO cm (.ct .fz)) E ms (bc8 wi ix ti te) (comp src ix mi me) :=
 aW3 hs hix (fun _ _ _ _ _=>inU) hti hte (fun _ _ _ _ _ _ _ _ _ _ _ _ _=>finO) (.inl rfl)
theorem bD5 (hs:PJ cm (KI cm .F .X) E ms wi src) (hix:ix.Nodup) (hti:PJ cm KB E0 (msIn .F ms ix) ti mi) (hte:PJ cm (KR cm .U) E0 (msIn .F ms ix) te me):PJ cm (KR cm .U) E ms (bc8 wi ix ti te) (comp src ix mi me) :=
 aW3 hs hix (fun _ _ _ _ _=>inF) hti hte (fun _ _ _ _ _ _ _ _ _ _ _ _ _=>finU) (.inr rfl)
end
end
structure NewM (N:List Addr) (U:Hp) (As:Nat→List Addr):Prop where
 nd:N.Nodup
 un:∀ a∈N,U a=none
 ap:∀ a∈N,∀ i,a∉As i
theorem NewM.nil {U:Hp} {As:Nat→List Addr}:NewM [] U As:=⟨List.nodup_nil,fun _ h=>(nomatch h),fun _ h=>(nomatch h)⟩
noncomputable def Kp (pr:Nat→Bool) (σ σ':St):Prop:=∀ j,pr j=true→rg σ' j=rg σ j
theorem Kp.refl (pr:Nat→Bool) (σ:St):Kp pr σ σ:=fun _ _=>rfl
theorem Kp.trans {pr:Nat→Bool} {σ σ1 σ2:St} (a:Kp pr σ σ1) (b:Kp pr σ1 σ2):Kp pr σ σ2:=fun j h=>(b j h).trans (a j h)
section
variable (cm:Cm)
noncomputable def Mo {α β:Type} (K:KT α β) (E:XK) (ms:List Md) (B U:Hp) (σ:St) (r:Out α) (Q:β→Hp→Prop):Prop :=
 match r with
 | .ok d ρ'=>∀ v B' U' As' H' N,Rel cm ms B' U' As' σ H' ρ'→Ex B U B' U'→NewM N U' As'→K d v B' U' H' N→Q v H'
 | .exc c ρ'=>∀ B' U' As' H',Rel cm ms B' U' As' σ H' ρ'→Ex B U B' U'→∀ oa,E (.ref (cm c)) oa H'
 | .bad=>False
noncomputable def MJ {α β:Type} (K:KT α β) (E:XK) (ms:List Md) (t:St→Hp→(β→Hp→Prop)→Prop) (m:Env→Out α):Prop :=
 ∀ B U As σ H ρ Q,Rel cm ms B U As σ H ρ→Mo cm K E ms B U σ (m ρ) Q→t σ H Q
noncomputable def So (E:XK) (Kr:KT D V) (pr:Nat→Bool) (ms:List Md) (B U:Hp) (σ:St) (r:SO) (D:Ends):Prop :=
 match r with
 | .nx ρ'=>∀ σ' B' U' As' H',Rel cm ms B' U' As' σ' H' ρ'→Ex B U B' U'→Kp pr σ σ'→D.nx σ' H'
 | .bk ρ'=>∀ σ' B' U' As' H',Rel cm ms B' U' As' σ' H' ρ'→Ex B U B' U'→Kp pr σ σ'→D.bk σ' H'
 | .ct ρ'=>∀ σ' B' U' As' H',Rel cm ms B' U' As' σ' H' ρ'→Ex B U B' U'→Kp pr σ σ'→D.ct σ' H'
 | .rt d ρ'=>∀ v σ' B' U' As' H' N,Rel cm ms B' U' As' σ' H' ρ'→Ex B U B' U'→Kp pr σ σ'→NewM N U' As'→Kr d v B' U' H' N→D.rt v H'
 | .exc c ρ'=>∀ σ' B' U' As' H',Rel cm ms B' U' As' σ' H' ρ'→Ex B U B' U'→Kp pr σ σ'→∀ oa,E (.ref (cm c)) oa H'
 | .bad=>False
noncomputable def SJ (E:XK) (Kr:KT D V) (pr:Nat→Bool) (ms:List Md) (t:TS) (m:Env→SO):Prop :=
 ∀ B U As σ H ρ D,Rel cm ms B U As σ H ρ→So cm E Kr pr ms B U σ (m ρ) D→t D σ H
end
section
variable {cm:Cm} {E:XK} {Kr:KT D V} {pr:Nat→Bool} {ms:List Md} {K:PySem.W.Frag} {B U H B1 U1 H1:Hp} {As:Nat→List Addr} {σ σ1:St} {ρ:Env}
theorem Mo.at {α β:Type} {K:KT α β} {r:Out α} {Q:β→Hp→Prop} (P:Mo cm K E ms B U σ r Q) (e:Ex B U B1 U1):Mo cm K E ms B1 U1 σ r Q:=by
 cases r with
 | ok d ρ'=>exact fun v B' U' As' H' N R' e' n' k=>P v B' U' As' H' N R' (e.trans e') n' k
 | exc c ρ'=>exact fun B' U' As' H' R' e'=>P B' U' As' H' R' (e.trans e')
 | bad=>exact P
theorem So.at {r:SO} {D:Ends} (P:So cm E Kr pr ms B U σ r D) (e:Ex B U B1 U1) (k:Kp pr σ σ1):So cm E Kr pr ms B1 U1 σ1 r D:=by
 cases r with
 | nx ρ'=>exact fun σ' B' U' As' H' R' e' k'=>P σ' B' U' As' H' R' (e.trans e') (k.trans k')
 | bk ρ'=>exact fun σ' B' U' As' H' R' e' k'=>P σ' B' U' As' H' R' (e.trans e') (k.trans k')
 | ct ρ'=>exact fun σ' B' U' As' H' R' e' k'=>P σ' B' U' As' H' R' (e.trans e') (k.trans k')
 | rt d ρ'=>exact fun v σ' B' U' As' H' N R' e' k'=>P v σ' B' U' As' H' N R' (e.trans e') (k.trans k')
 | exc c ρ'=>exact fun σ' B' U' As' H' R' e' k'=>P σ' B' U' As' H' R' (e.trans e') (k.trans k')
 | bad=>exact P
theorem upM {α β:Type} {K:KT α β} {t:St→Hp→(β→Hp→Prop)→Prop} {m:Env→Res α} (h:PJ cm K E ms t m):MJ cm K E ms t (fun ρ=>(m ρ).up ρ):=by
 intro B U As σ H ρ Q R P
 replace P:Mo cm K E ms B U σ ((m ρ).up ρ) Q:=P
 refine h B U As σ H ρ Q R ?_
 cases e:m ρ with
 | ok d =>
   rw [e] at P
   exact fun v B' U' H' N R' g n k=>P v B' U' As H' N R' g.toEx ⟨n.nd,n.un,R.apart n⟩ k
 | exc c =>
   rw [e] at P
   exact fun B' U' H' R' g=>P B' U' As H' R' g.toEx
 | bad=>rw [e] at P; exact P
theorem moF {s:Sh} {t:TE} {m:Env→Out D} (h:MJ cm (KO cm s) E ms t m):MJ cm (KR cm .F) E ms t m:=by
 intro B U As σ H ρ Q R P
 refine h B U As σ H ρ Q R ?_
 cases e:m ρ with
 | ok d ρ' =>
   rw [e] at P
   intro v B' U' As' H' N R' e' n' ow
   obtain ⟨R2,e2⟩:=R'.freeze fun a ha=>⟨n'.un a ha,n'.ap a ha⟩
   refine P v _ _ As' H' [] R2 (e'.trans e2) NewM.nil (Ow.dn (ao2 R'.bh) (fun a ha o q=>?_) ow)
   unfold Mi.frz
   rw [if_pos ha]
   exact q
 | exc c ρ'=>rw [e] at P; exact P
 | bad=>rw [e] at P; exact P
theorem MJ.bnd {α β γ δ:Type} {Ka:KT α β} {Kc:KT γ δ} {ta:St→Hp→(β→Hp→Prop)→Prop} {ma:Env→Out α} (ha:MJ cm Ka E ms ta ma) (R:Rel cm ms B U As σ H ρ) {k:α→Env→Out γ} {Q:δ→Hp→Prop}
 (P:Mo cm Kc E ms B U σ ((ma ρ).bind k) Q) {body:β→Hp→Prop}
 (h:∀ x ρ' v B1 U1 As1 H1 N,Rel cm ms B1 U1 As1 σ H1 ρ'→Ex B U B1 U1→NewM N U1 As1→Ka x v B1 U1 H1 N→Mo cm Kc E ms B1 U1 σ (k x ρ') Q→body v H1):ta σ H body:=by
 refine ha B U As σ H ρ body R ?_
 cases e:ma ρ with
 | ok x ρ' =>
   rw [e] at P
   exact fun v B1 U1 As1 H1 N R1 e1 n1 k1=>h x ρ' v B1 U1 As1 H1 N R1 e1 n1 k1 (Mo.at (r:=k x ρ') P e1)
 | exc c ρ'=>rw [e] at P; exact P
 | bad=>rw [e] at P; exact P
theorem MJ.bndS {α β:Type} {Ka:KT α β} {ta:St→Hp→(β→Hp→Prop)→Prop} {ma:Env→Out α} (ha:MJ cm Ka E ms ta ma) (R:Rel cm ms B U As σ H ρ) {k:α→Env→SO} {D:Ends}
 (P:So cm E Kr pr ms B U σ (ax3 (ma ρ) k) D) {body:β→Hp→Prop}
 (h:∀ x ρ' v B1 U1 As1 H1 N,Rel cm ms B1 U1 As1 σ H1 ρ'→Ex B U B1 U1→NewM N U1 As1→Ka x v B1 U1 H1 N→So cm E Kr pr ms B1 U1 σ (k x ρ') D→body v H1):ta σ H body:=by
 refine ha B U As σ H ρ body R ?_
 cases e:ma ρ with
 | ok x ρ' =>
   rw [e] at P
   exact fun v B1 U1 As1 H1 N R1 e1 n1 k1=>h x ρ' v B1 U1 As1 H1 N R1 e1 n1 k1 (So.at (r:=k x ρ') P e1 (Kp.refl _ _))
 | exc c ρ'=>rw [e] at P; exact fun B' U' As' H' R' e'=>P σ B' U' As' H' R' e' (Kp.refl _ _)
 | bad=>rw [e] at P; exact P
theorem au6 {α:Type} {l:List (Option α)} {i j:Nat} {x:Option α}:rg (l.set i x) j=if i=j∧i < l.length then x else rg l j:=by
 unfold rg
 rw [List.getElem?_set]
 by_cases e:i=j
 · subst e
   by_cases h:i < l.length
   · rw [if_pos rfl,if_pos h,if_pos ⟨rfl,h⟩]
     rfl
   · rw [if_pos rfl,if_neg h,if_neg fun z=>h z.2,List.getElem?_eq_none (by omega)]
 · rw [if_neg e,if_neg fun z=>e z.1]
theorem Rel.store (R:Rel cm ms B U As σ H ρ) {i:Nat} {d:D} {v:V} {N:List Addr} (n:NewM N U As) (l:Lo cm B U H (ms.getD i .F) (some d) (some v) N) :
 ∃ As',Rel cm ms B U As' (σ.set i (some v)) H (ρ.set i (some d)):=by
 by_cases hi:i < ρ.length
 · refine ⟨fun j=>if j=i then N else As j,R.bu,R.uh,fun j=>?_,fun j k a hne ha hb=>?_,fun j a ha=>?_,fun j=>?_,by rw [List.length_set,List.length_set]; exact R.len,R.tb⟩
   · show (if j=i then N else As j).Nodup
     split
     · exact n.nd
     · exact R.nd j
   · replace ha:a∈(if j=i then N else As j):=ha
     replace hb:a∈(if k=i then N else As k):=hb
     split at ha
     · split at hb
       · rename_i h1 h2
         exact hne (h1.trans h2.symm)
       · exact n.ap a ha k hb
     · split at hb
       · exact n.ap a hb j ha
       · exact R.dj j k a hne ha hb
   · replace ha:a∈(if j=i then N else As j):=ha
     split at ha
     · exact n.un a ha
     · exact R.un j a ha
   · rw [au6,au6]
     show Lo cm B U H (ms.getD j .F) _ _ (if j=i then N else As j)
     by_cases e:i=j
     · subst e
       rw [if_pos ⟨rfl,hi⟩,if_pos ⟨rfl,by rw [← R.len]; exact hi⟩,if_pos rfl]
       exact l
     · rw [if_neg fun z=>e z.1,if_neg fun z=>e z.1,if_neg fun z=>e z.symm]
       exact R.lo j
 · have h2:=R.len
   have e1:σ.set i (some v)=σ:=List.set_eq_of_length_le (by omega)
   have e2:ρ.set i (some d)=ρ:=List.set_eq_of_length_le (by omega)
   rw [e1,e2]
   exact ⟨As,R⟩
theorem Kp.set {i:Nat} {x:Option V} (h:pr i=false):Kp pr σ (σ.set i x):=fun j hj=>by
 rw [au6,if_neg]
 rintro ⟨e,_⟩
 rw [e,hj] at h
 cases h
theorem bY9 {K':KT D V} {i:Nat} {te:TE} {m:Env→Out D} (h:MJ cm K' E ms te m) (hk:∀ B U H d v N,K' d v B U H N→∃ N',(N'=[]∨N'=N)∧Lo cm B U H (ms.getD i .F) (some d) (some v) N') (hp:pr i=false):SJ cm E Kr pr ms (tAsg te (az3 i)) (setS i m):=by
 intro B U As σ H ρ D R P
 refine h.bndS R P fun x ρ' v B1 U1 As1 H1 N R1 e1 n1 k1 P1=>?_
 obtain ⟨N',hN,l⟩:=hk B1 U1 H1 x v N k1
 have n2:NewM N' U1 As1:=by
  rcases hN with e | e
  · subst e; exact NewM.nil
  · subst e; exact n1
 obtain ⟨As2,R2⟩:=R1.store n2 l
 exact P1 _ B1 U1 As2 H1 R2 (Ex.refl _ _) (Kp.set hp)
theorem ah4 {i:Nat} {te:TE} {m:Env→Out D} (h:MJ cm (KR cm .F) E ms te m) (hm:ms.getD i .F= .F) (hp:pr i=false):SJ cm E Kr pr ms (tAsg te (az3 i)) (setS i m) :=
 bY9 h (fun B U H d v N k=>⟨[],.inl rfl,by rw [hm]; exact ⟨v,rfl,k,rfl⟩⟩) hp
theorem cm4 {i:Nat} {te:TE} {m:Env→Out D} (h:MJ cm (KR cm .U) E ms te m) (hm:ms.getD i .F= .R) (hp:pr i=false):SJ cm E Kr pr ms (tAsg te (az3 i)) (setS i m) :=
 bY9 h (fun B U H d v N k=>⟨[],.inl rfl,by rw [hm]; exact ⟨v,rfl,k,rfl⟩⟩) hp
theorem ax5 {i:Nat} {s:Sh} {te:TE} {m:Env→Out D} (h:MJ cm (KO cm s) E ms te m) (hm:ms.getD i .F= .O s) (hp:pr i=false):SJ cm E Kr pr ms (tAsg te (az3 i)) (setS i m) :=
 bY9 h (fun B U H d v N k=>⟨N,.inr rfl,by rw [hm]; exact ⟨v,rfl,k⟩⟩) hp
theorem ag6:SJ cm E Kr pr ms ck6 af2:=fun B U As σ H ρ D R P=>P σ B U As H R (Ex.refl _ _) (Kp.refl _ _)
theorem ab6 {t u:TS} {m n:Env→SO} (h:SJ cm E Kr pr ms t m) (k:SJ cm E Kr pr ms u n):SJ cm E Kr pr ms (tSeq t u) (seqS m n):=by
 intro B U As σ H ρ D R P
 refine h B U As σ H ρ _ R ?_
 unfold seqS at P
 cases e:m ρ with
 | nx ρ'=>rw [e] at P; exact fun σ' B' U' As' H' R' e' kp=>k B' U' As' σ' H' ρ' D R' (So.at P e' kp)
 | bk ρ'=>rw [e] at P; exact P
 | ct ρ'=>rw [e] at P; exact P
 | rt d ρ'=>rw [e] at P; exact P
 | exc c ρ'=>rw [e] at P; exact P
 | bad=>rw [e] at P; exact P
theorem ag3 {K':KT D V} {te:TE} {m:Env→Out D} (h:MJ cm K' E ms te m):SJ cm E Kr pr ms (ck7 te) (ak5 m):=by
 intro B U As σ H ρ D R P
 refine h.bndS R P fun x ρ' v B1 U1 As1 H1 N R1 e1 n1 k1 P1=>?_
 exact P1 σ B1 U1 As1 H1 R1 (Ex.refl _ _) (Kp.refl _ _)
theorem ad8 {te:TE} {m:Env→Out D} (h:MJ cm Kr E ms te m):SJ cm E Kr pr ms (tRet te) (retS m):=by
 intro B U As σ H ρ D R P
 refine h.bndS R P fun x ρ' v B1 U1 As1 H1 N R1 e1 n1 k1 P1=>?_
 exact P1 v σ B1 U1 As1 H1 N R1 (Ex.refl _ _) (Kp.refl _ _) n1 k1
theorem s_if {c:TT} {t u:TS} {mc:Env→Out Bool} {m n:Env→SO} (hc:MJ cm KB E ms c mc) (h:SJ cm E Kr pr ms t m) (k:SJ cm E Kr pr ms u n):SJ cm E Kr pr ms (tIfS c t u) (ifS mc m n):=by
 intro B U As σ H ρ D R P
 refine hc.bndS R P fun x ρ' v B1 U1 As1 H1 N R1 e1 n1 k1 P1=>?_
 cases k1
 cases x with
 | true=>exact h B1 U1 As1 σ H1 ρ' D R1 P1
 | false=>exact k B1 U1 As1 σ H1 ρ' D R1 P1
theorem am8:SJ cm E Kr pr ms bJ7 (fun _=> .bad):=fun _ _ _ _ _ _ _ _ P=>P
noncomputable def TJ (cm:Cm) (k:Kd) (pr:Nat→Bool) (ms:List Md) (g:TG) (tg:D→Env→Option Env):Prop:=∀ B U As σ H ρ d v ρ1 Q,Rel cm ms B U As σ H ρ→Dn cm (hp k B U H) d v→tg d ρ=some ρ1→(∀ σ1 As1,Rel cm ms B U As1 σ1 H ρ1→Kp pr σ σ1→Q σ1 H)→g v σ H Q
theorem tgF {i:Nat} (hm:ms.getD i .F= .F) (hp:pr i=false):TJ cm .F pr ms (az3 i) (tgN i):=by
 intro B U As σ H ρ d v ρ1 Q R hd e h
 cases e
 obtain ⟨As2,R2⟩:=R.store (i:=i) (d:=d) (v:=v) NewM.nil (by rw [hm]; exact ⟨v,rfl,hd,rfl⟩)
 exact h _ As2 R2 (Kp.set hp)
theorem tgR {i:Nat} (hm:ms.getD i .F= .R) (hp:pr i=false):TJ cm .U pr ms (az3 i) (tgN i):=by
 intro B U As σ H ρ d v ρ1 Q R hd e h
 cases e
 obtain ⟨As2,R2⟩:=R.store (i:=i) (d:=d) (v:=v) NewM.nil (by rw [hm]; exact ⟨v,rfl,hd,rfl⟩)
 exact h _ As2 R2 (Kp.set hp)
theorem aF6 {k:Kd} {wi:TI} {g:TG} {tb:TS} {src:Env→Out (List D)} {tg:D→Env→Option Env} {body:Env→SO} (hs:MJ cm (KI cm k .U) E ms wi src) (hk:k= .F∨k= .U) (hg:TJ cm k pr ms g tg) (hb:SJ cm E Kr pr ms tb body) :
 SJ cm E Kr pr ms (tFor wi g tb) (av9 src tg body):=by
 intro B U As σ H ρ D R P
 refine hs.bndS R P fun ds ρ0 J B1 U1 As1 H1 N R1 e1 n1 ⟨vs,hJ,hd⟩ P1=>?_
 have hvl:ds.length=vs.length:=hd.len
 have hp1:∀ {B2 U2 H2:Hp},Ex B1 U1 B2 U2→Same (hp k B1 U1 H1) (hp k B2 U2 H2):=fun e=>by
  rcases hk with z | z <;> subst z
  · exact e.b
  · exact e.u
 refine ⟨fun i m σ' H'=>i≤ds.length∧m=ds.length - i∧∃ B2 U2 As2 ρ2,Rel cm ms B2 U2 As2 σ' H' ρ2∧Ex B1 U1 B2 U2∧Kp pr σ σ'∧So cm E Kr pr ms B1 U1 σ (forS tg body (ds.drop i) ρ2) D,⟨_,Nat.zero_le _,rfl,B1,U1,As1,ρ0,R1,Ex.refl _ _,Kp.refl _ _,P1⟩,?_⟩
 rintro i m σ' H' ⟨hi,rfl,B2,U2,As2,ρ2,R2,e2,k2,P2⟩
 have hj:=hJ H' (e2.u.trans R2.uh)
 by_cases hlt:i < ds.length
 · refine .inr ⟨hj.2.1 i (by omega),fun σ'' H''=>i + 1≤ds.length∧∃ B2 U2 As2 ρ2,Rel cm ms B2 U2 As2 σ'' H'' ρ2∧Ex B1 U1 B2 U2∧Kp pr σ σ''∧So cm E Kr pr ms B1 U1 σ (forS tg body (ds.drop (i + 1)) ρ2) D,fun σ'' H'' ⟨h1,h2⟩=>⟨ds.length - (i + 1),by omega,h1,rfl,h2⟩,fun x Hx hy=>?_⟩
   obtain ⟨rfl,ev⟩:=hj.2.2 i x Hx (by omega) hy
   obtain ⟨d,ed,dd⟩:=hd.geti ev
   rw [aN3 ed,forS] at P2
   cases et:tg d ρ2 with
   | none=>rw [et] at P2; exact P2.elim
   | some ρ3 =>
     rw [et] at P2
     refine hg B2 U2 As2 σ' Hx ρ2 d x ρ3 _ R2 (Dn.mono (hp1 e2) dd) et fun σ3 As3 R3 k3=>?_
     refine hb B2 U2 As3 σ3 Hx ρ3 _ R3 ?_
     dsimp only at P2
     cases eb:body ρ3 with
     | nx ρ4 =>
       rw [eb] at P2
       exact fun σ4 B4 U4 As4 H4 R4 e4 k4=>⟨hlt,B4,U4,As4,ρ4,R4,e2.trans e4,(k2.trans k3).trans k4,P2⟩
     | ct ρ4 =>
       rw [eb] at P2
       exact fun σ4 B4 U4 As4 H4 R4 e4 k4=>⟨hlt,B4,U4,As4,ρ4,R4,e2.trans e4,(k2.trans k3).trans k4,P2⟩
     | bk ρ4 =>
       rw [eb] at P2
       exact fun σ4 B4 U4 As4 H4 R4 e4 k4=>P2 σ4 B4 U4 As4 H4 R4 (e2.trans e4) ((k2.trans k3).trans k4)
     | rt d ρ4 =>
       rw [eb] at P2
       exact fun v σ4 B4 U4 As4 H4 N R4 e4 k4=>P2 v σ4 B4 U4 As4 H4 N R4 (e2.trans e4) ((k2.trans k3).trans k4)
     | exc c ρ4 =>
       rw [eb] at P2
       exact fun σ4 B4 U4 As4 H4 R4 e4 k4=>P2 σ4 B4 U4 As4 H4 R4 (e2.trans e4) ((k2.trans k3).trans k4)
     | bad=>rw [eb] at P2; exact P2.elim
 · have e:i=ds.length:=by omega
   subst e
   rw [List.drop_length,forS] at P2
   exact .inl ⟨hj.1 _ (by omega),P2 σ' B2 U2 As2 H' R2 e2 k2⟩
theorem bj7 {c:TT} {tb:TS} {mc:Env→Out Bool} {body:Env→SO} (n:Nat) (hc:MJ cm KB E ms c mc) (hb:SJ cm E Kr pr ms tb body):SJ cm E Kr pr ms (bJ6 c tb) (whS mc body n):=by
 intro B U As σ H ρ D R P
 refine ⟨fun m σ' H'=>∃ B2 U2 As2 ρ2,Rel cm ms B2 U2 As2 σ' H' ρ2∧Ex B U B2 U2∧Kp pr σ σ'∧So cm E Kr pr ms B U σ (whS mc body m ρ2) D,⟨n,B,U,As,ρ,R,Ex.refl _ _,Kp.refl _ _,P⟩,?_⟩
 rintro m σ' H' ⟨B2,U2,As2,ρ2,R2,e2,k2,P2⟩
 cases m with
 | zero=>exact P2.elim
 | succ m =>
   rw [whS] at P2
   refine hc B2 U2 As2 σ' H' ρ2 _ R2 ?_
   cases e:mc ρ2 with
   | ok x ρ3 =>
     rw [e] at P2
     intro v B3 U3 As3 H3 N R3 e3 n3 k3
     cases k3
     cases x with
     | false =>
       rw [if_neg Bool.false_ne_true]
       exact P2 σ' B3 U3 As3 H3 R3 (e2.trans e3) k2
     | true =>
       rw [if_pos rfl]
       have P2:So cm E Kr pr ms B U σ (match body ρ3 with
        | .nx ρ'=>whS mc body m ρ'
        | .ct ρ'=>whS mc body m ρ'
        | .bk ρ'=> .nx ρ'
        | o=>o) D:=P2
       refine ⟨fun σ'' H''=>∃ B4 U4 As4 ρ4,Rel cm ms B4 U4 As4 σ'' H'' ρ4∧Ex B U B4 U4∧Kp pr σ σ''∧So cm E Kr pr ms B U σ (whS mc body m ρ4) D,fun σ'' H'' h=>⟨m,Nat.lt_succ_self m,h⟩,?_⟩
       refine hb B3 U3 As3 σ' H3 ρ3 _ R3 ?_
       cases eb:body ρ3 with
       | nx ρ4 =>
         rw [eb] at P2
         exact fun σ4 B4 U4 As4 H4 R4 e4 k4=>⟨B4,U4,As4,ρ4,R4,(e2.trans e3).trans e4,k2.trans k4,P2⟩
       | ct ρ4 =>
         rw [eb] at P2
         exact fun σ4 B4 U4 As4 H4 R4 e4 k4=>⟨B4,U4,As4,ρ4,R4,(e2.trans e3).trans e4,k2.trans k4,P2⟩
       | bk ρ4 =>
         rw [eb] at P2
         exact fun σ4 B4 U4 As4 H4 R4 e4 k4=>P2 σ4 B4 U4 As4 H4 R4 ((e2.trans e3).trans e4) (k2.trans k4)
       | rt d ρ4 =>
         rw [eb] at P2
         exact fun v σ4 B4 U4 As4 H4 N R4 e4 k4=>P2 v σ4 B4 U4 As4 H4 N R4 ((e2.trans e3).trans e4) (k2.trans k4)
       | exc c ρ4 =>
         rw [eb] at P2
         exact fun σ4 B4 U4 As4 H4 R4 e4 k4=>P2 σ4 B4 U4 As4 H4 R4 ((e2.trans e3).trans e4) (k2.trans k4)
       | bad=>rw [eb] at P2; exact P2.elim
   | exc c ρ3=>rw [e] at P2; exact fun B3 U3 As3 H3 R3 e3=>P2 σ' B3 U3 As3 H3 R3 (e2.trans e3) k2
   | bad=>rw [e] at P2; exact P2.elim
end
inductive Ap where
 | F | U | X | O (i:Nat) | Bo (i:Nat)
deriving DecidableEq
noncomputable def wbGo:List Ap→Nat→Env→Env→Env
 | [],_,_,ρ=>ρ
 | .O i :: r,j,ρc,ρ=>wbGo r (j + 1) ρc (ρ.set i (rg ρc j))
 | _ :: r,j,ρc,ρ=>wbGo r (j + 1) ρc ρ
noncomputable def aw0 (plan:List Ap) (fm:List D→Out D) (ds:List D) (ρ:Env):Out D:=match fm ds with
 | .ok d ρc=> .ok d (wbGo plan 0 ρc ρ)
 | .exc c ρc=> .exc c (wbGo plan 0 ρc ρ)
 | .bad=> .bad
noncomputable def au1 (fm:List D→Out D) (ds:List D):Res D:=match fm ds with
 | .ok d _=> .ok d
 | .exc c _=> .exc c
 | .bad=> .bad
noncomputable def ar3 (ms:List Md) (ρ:Env):Env:=(List.range ms.length).map fun i=>match ms.getD i .F with | .O _=>rg ρ i | _=>none
section
variable (cm:Cm)
noncomputable def spM (ms:List Md) (Kr:KT D V) (fm:List D→Out D):Sp:=fun vs H Q E=>∃ B U As ds,Rel cm ms B U As (vs.map some) H (ds.map some)∧vs.length=ms.length∧match fm ds with
 | .ok d ρ'=>∀ v B' U' As' H' N,Rel cm ms B' U' As' (vs.map some) H' (ar3 ms ρ')→Ex B U B' U'→NewM N U' As'→Kr d v B' U' H' N→Q v H'
 | .exc c ρ'=>∀ B' U' As' H',Rel cm ms B' U' As' (vs.map some) H' (ar3 ms ρ')→Ex B U B' U'→∀ oa,E (.ref (cm c)) oa H'
 | .bad=>False
noncomputable def A1 (p:Ap) (B U H:Hp) (σ:St) (ρ:Env) (d:D) (v:V):Prop:=match p with
 | .F=>Dn cm B d v
 | .U=>Dn cm U d v
 | .X=>Dn cm H d v
 | .O i=>rg σ i=some v∧rg ρ i=some d
 | .Bo i=>rg σ i=some v∧rg ρ i=some d
noncomputable def Ag (B U H:Hp) (σ:St) (ρ:Env):List Ap→List D→List V→Prop
 | [],ds,vs=>ds=[]∧vs=[]
 | p :: ps,ds,vs=>∃ d dr v vr,ds=d :: dr∧vs=v :: vr∧A1 cm p B U H σ ρ d v∧Ag B U H σ ρ ps dr vr
end
section
variable {cm:Cm} {E:XK} {ms:List Md} {B U H:Hp} {As:Nat→List Addr} {σ:St} {ρ:Env}
theorem A1.mono {p:Ap} {B' U' H':Hp} {d:D} {v:V} (h:A1 cm p B U H σ ρ d v) (g:Gw B U H B' U' H'):A1 cm p B' U' H' σ ρ d v:=by
 cases p with
 | F=>exact Dn.mono g.b h
 | U=>exact Dn.mono g.u h
 | X=>exact Dn.mono g.h h
 | O i=>exact h
 | Bo i=>exact h
noncomputable def A1J (cm:Cm) (E:XK) (ms:List Md) (p:Ap) (t:TE) (m:Env→Res D):Prop:=∀ B U As σ H ρ Q,Rel cm ms B U As σ H ρ→Po cm (fun d v B U H _=>A1 cm p B U H σ ρ d v) E ms B U As σ H ρ (m ρ) Q→t σ H Q
noncomputable def AJ (cm:Cm) (E:XK) (ms:List Md) (ps:List Ap) (t:TA) (m:Env→Res (List D)):Prop:=∀ B U As σ H ρ Q,Rel cm ms B U As σ H ρ→Po cm (fun d v B U H _=>Ag cm B U H σ ρ ps d v) E ms B U As σ H ρ (m ρ) Q→t σ H Q
theorem aF {t:TE} {m:Env→Res D} (h:PJ cm (KR cm .F) E ms t m):A1J cm E ms .F t m:=fun B U As σ H ρ Q R P=>h B U As σ H ρ Q R P
theorem aU {t:TE} {m:Env→Res D} (h:PJ cm (KR cm .U) E ms t m):A1J cm E ms .U t m:=fun B U As σ H ρ Q R P=>h B U As σ H ρ Q R P
theorem aX {t:TE} {m:Env→Res D} (h:PJ cm (KR cm .X) E ms t m):A1J cm E ms .X t m:=fun B U As σ H ρ Q R P=>h B U As σ H ρ Q R P
theorem cz9 {i:Nat} {p:Ap} (hp:∀ B U H σ ρ d v,rg σ i=some v→rg ρ i=some d→A1 cm p B U H σ ρ d v):A1J cm E ms p (tVar i) (vr i):=by
 intro B U As σ H ρ Q R P
 unfold vr at P
 have l:=R.lo i
 cases e:rg ρ i with
 | none=>rw [e] at P; exact P.elim
 | some d =>
   rw [e] at P l
   obtain ⟨v,hv,q⟩:=l
   exact ⟨v,am9 hv,P v B U H [] R (Gw.refl _ _ _) New.nil (hp _ _ _ _ _ _ _ hv e)⟩
theorem aO {i:Nat}:A1J cm E ms (.O i) (tVar i) (vr i):=cz9 fun _ _ _ _ _ _ _ h k=>⟨h,k⟩
theorem ad2:AJ cm E ms [] tNil esN:=fun B U As σ H ρ Q R P=>P [] B U H [] R (Gw.refl _ _ _) New.nil ⟨rfl,rfl⟩
theorem A1J.bnd {p:Ap} {γ δ:Type} {Kc:KT γ δ} {ta:TE} {ma:Env→Res D} (ha:A1J cm E ms p ta ma) (R:Rel cm ms B U As σ H ρ) {k:D→Res γ} {Q:δ→Hp→Prop}
 (P:Po cm Kc E ms B U As σ H ρ ((ma ρ).bind k) Q) {body:V→Hp→Prop}
 (h:∀ x v B1 U1 H1,Rel cm ms B1 U1 As σ H1 ρ→Gw B U H B1 U1 H1→A1 cm p B1 U1 H1 σ ρ x v→Po cm Kc E ms B1 U1 As σ H1 ρ (k x) Q→body v H1):ta σ H body:=by
 refine ha B U As σ H ρ body R ?_
 cases e:ma ρ with
 | ok x =>
   rw [e] at P
   exact fun v B1 U1 H1 N R1 e1 n1 k1=>h x v B1 U1 H1 R1 e1 k1 (Po.at (r:=k x) P e1)
 | exc c=>rw [e] at P; exact P
 | bad=>rw [e] at P; exact P
theorem AJ.bnd {ps:List Ap} {γ δ:Type} {Kc:KT γ δ} {ta:TA} {ma:Env→Res (List D)} (ha:AJ cm E ms ps ta ma) (R:Rel cm ms B U As σ H ρ) {k:List D→Res γ} {Q:δ→Hp→Prop}
 (P:Po cm Kc E ms B U As σ H ρ ((ma ρ).bind k) Q) {body:List V→Hp→Prop}
 (h:∀ x v B1 U1 H1,Rel cm ms B1 U1 As σ H1 ρ→Gw B U H B1 U1 H1→Ag cm B1 U1 H1 σ ρ ps x v→Po cm Kc E ms B1 U1 As σ H1 ρ (k x) Q→body v H1):ta σ H body:=by
 refine ha B U As σ H ρ body R ?_
 cases e:ma ρ with
 | ok x =>
   rw [e] at P
   exact fun v B1 U1 H1 N R1 e1 n1 k1=>h x v B1 U1 H1 R1 e1 k1 (Po.at (r:=k x) P e1)
 | exc c=>rw [e] at P; exact P
 | bad=>rw [e] at P; exact P
theorem aa5 {p:Ap} {ps:List Ap} {ta:TE} {tr:TA} {ma:Env→Res D} {mr:Env→Res (List D)} (ha:A1J cm E ms p ta ma) (hr:AJ cm E ms ps tr mr):AJ cm E ms (p :: ps) (ai4 ta tr) (esC ma mr):=by
 intro B U As σ H ρ Q R P
 refine ha.bnd R P fun x v B1 U1 H1 R1 e1 d1 P1=>hr.bnd R1 P1 fun y u B2 U2 H2 R2 e2 d2 P2=>?_
 exact P2 (v :: u) B2 U2 H2 [] R2 (Gw.refl _ _ _) New.nil ⟨x,y,v,u,rfl,rfl,d1.mono e2,d2⟩
noncomputable def fits (ms:List Md) (pure:Bool):Ap→Md→Bool
 | .F,.F=>true
 | .F,.R=>true
 | .U,.R=>true
 | .X,.R=>pure
 | .Bo _,.R=>true
 | _,_=>false
theorem Ag.len:∀ {ps:List Ap} {ds:List D} {vs:List V},Ag cm B U H σ ρ ps ds vs→ds.length=ps.length∧vs.length=ps.length
 | [],_,_,h=>by obtain ⟨rfl,rfl⟩:=h; exact ⟨rfl,rfl⟩
 | p :: ps,_,_,h=>by
   obtain ⟨d,dr,v,vr,rfl,rfl,_,h⟩:=h
   have:=Ag.len h
   exact ⟨by rw [List.length_cons,List.length_cons,this.1],by rw [List.length_cons,List.length_cons,this.2]⟩
theorem Ag.get:∀ {ps:List Ap} {ds:List D} {vs:List V} {j:Nat} {p:Ap},Ag cm B U H σ ρ ps ds vs→ps[j]?=some p→∃ d v,ds[j]?=some d∧vs[j]?=some v∧A1 cm p B U H σ ρ d v
 | [],_,_,_,_,_,e=>by cases e
 | p :: ps,_,_,j,q,h,e=>by
   obtain ⟨d,dr,v,vr,rfl,rfl,h1,h⟩:=h
   cases j with
   | zero=>cases e; exact ⟨d,v,rfl,rfl,h1⟩
   | succ j=>exact Ag.get (j:=j) h (by simpa using e)
theorem aj6 {α:Type} {l:List α} {i:Nat}:rg (l.map some) i=l[i]?:=by
 unfold rg
 rw [List.getElem?_map]
 cases l[i]? <;> rfl
theorem Rel.read (R:Rel cm ms B U As σ H ρ) {i:Nat} {d:D} {v:V} (hv:rg σ i=some v) (hd:rg ρ i=some d):Dn cm H d v:=by
 have l:=R.lo i
 rw [hd] at l
 have q:=ar2 l hv
 cases e:ms.getD i .F with
 | F=>rw [e] at q; exact Dn.mono R.bh q.1
 | R=>rw [e] at q; exact Dn.mono R.uh q.1
 | O s=>rw [e] at q; exact Ow.dn R.bh (fun _ _ _ q=>q) q
theorem A1.read (R:Rel cm ms B U As σ H ρ) {p:Ap} {d:D} {v:V} (h:A1 cm p B U H σ ρ d v):Dn cm H d v:=by
 cases p with
 | F=>exact Dn.mono R.bh h
 | U=>exact Dn.mono R.uh h
 | X=>exact h
 | O i=>exact R.read h.1 h.2
 | Bo i=>exact R.read h.1 h.2
noncomputable def ov (B U:Hp):Hp:=fun a=>match B a with | some o=>some o | none=>U a
theorem bc3 {msC:List Md} {Kr:KT D V} {fm:List D→Out D} {ps:List Ap} {ds:List D} {vs:List V} {Q:VK} (R:Rel cm ms B U As σ H ρ) (A:Ag cm B U H σ ρ ps ds vs) (hl:ps.length=msC.length)
 (hf:∀ (j:Nat) p,ps[j]?=some p→fits ms true p (msC.getD j .F)=true) (hU:∀ d v B U U' H N,Kr d v B U H N→Kr d v B U' H N) (P:Po cm Kr E ms B U As σ H ρ (au1 fm ds) Q):spM cm msC Kr fm vs H Q E:=by
 have hlen:=A.len
 have Rc:Rel cm msC B H (fun _=>[]) (vs.map some) H (ds.map some):=by
  refine ⟨R.bh,Same.refl _,fun _=>List.nodup_nil,fun _ _ _ _ h=>(nomatch h),fun _ _ h=>(nomatch h),fun j=>?_,by rw [List.length_map,List.length_map,hlen.1,hlen.2],R.tb⟩
  rw [aj6,aj6]
  cases e:ps[j]? with
  | none =>
    have:ps.length≤j:=List.getElem?_eq_none_iff.mp e
    rw [List.getElem?_eq_none (by omega)]
    rfl
  | some p =>
    obtain ⟨d,v,ed,ev,h1⟩:=A.get e
    rw [ed,ev]
    refine ⟨v,rfl,?_⟩
    have hr:=A1.read R h1
    have q:=hf j p e
    cases em:msC.getD j .F with
    | F =>
      rw [em] at q
      cases p with
      | F=>exact ⟨h1,rfl⟩
      | _=>cases q
    | R=>exact ⟨hr,rfl⟩
    | O s=>rw [em] at q; cases p <;> cases q
 refine ⟨B,H,fun _=>[],ds,Rc,by omega,?_⟩
 have main:∀ {B' U' H':Hp} {As':Nat→List Addr} {ρc:Env},Rel cm msC B' U' As' (vs.map some) H' ρc→Ex B H B' U'→Rel cm ms B' (ov B' U) As σ H' ρ∧Gw B U H B' (ov B' U) H':=fun {B' U' H' As' ρc} R' e'=>by
  have same:∀ a o,U a=some o→∀ o',B' a=some o'→o'=o:=fun a o q o' q'=>by
   have h1:=e'.u a o (R.uh a o q)
   have h2:=R'.bu a o' q'
   rw [h1] at h2
   exact (Option.some.inj h2).symm
  have su:Same U (ov B' U):=fun a o q=>by
   unfold ov
   cases z:B' a with
   | none=>exact q
   | some o'=>rw [same a o q o' z]
  have sh:Same H H':=e'.u.trans R'.uh
  have uh:Same (ov B' U) H':=fun a o q=>by
   unfold ov at q
   cases z:B' a with
   | none=>rw [z] at q; exact sh a o (R.uh a o q)
   | some o'=>rw [z] at q; cases q; exact R'.bh a _ z
  have bu:Same B' (ov B' U):=fun a o q=>by unfold ov; rw [q]
  have new:∀ a o,B' a=some o→B a=some o∨H a=none∨aG7 o:=e'.nb
  refine ⟨R.grow e'.b su sh bu uh fun i a ha=>?_,⟨e'.b,su,fun a o q=>?_⟩,sh,fun a o q=>?_⟩
  · unfold ov
    cases z:B' a with
    | none=>exact R.un i a ha
    | some o =>
      obtain ⟨o',q'⟩:=R.at ha
      rcases new a o z with q | q | q
      · have:=R.bu a o q; rw [R.un i a ha] at this; cases this
      · rw [q] at q'; cases q'
      · have e1:=sh _ _ q'
        rw [R'.bh a o z] at e1; cases e1; exact (R.nt ha q' q).elim
  · rcases new a o q with q | q | q
    · exact .inl q
    · exact .inr (.inl (R.uh.free q))
    · exact .inr (.inr q)
  · unfold ov at q
    cases z:B' a with
    | none=>rw [z] at q; exact .inl q
    | some o' =>
      rw [z] at q
      cases q
      rcases new a _ z with q | q
      · exact .inl (R.bu a _ q)
      · exact .inr q
 cases e:fm ds with
 | ok d ρ' =>
   unfold au1 at P
   rw [e] at P
   intro v B' U' As' H' N R' e' n' k
   obtain ⟨R2,g2⟩:=main R' e'
   refine P v B' _ H' N R2 g2 ⟨n'.nd,fun a ha=>e'.u.free (n'.un a ha),fun a ha=>?_⟩ (hU d v B' U' (ov B' U) H' N k)
   unfold ov
   have h1:=n'.un a ha
   cases z:B' a with
   | none=>exact R.uh.free (e'.u.free h1)
   | some o=>have:=R'.bu a o z; rw [h1] at this; cases this
 | exc c ρ' =>
   unfold au1 at P
   rw [e] at P
   intro B' U' As' H' R' e'
   obtain ⟨R2,g2⟩:=main R' e'
   exact P B' _ H' R2 g2
 | bad =>
   unfold au1 at P
   rw [e] at P
   exact P
theorem hF {d:D} {v:V} {B U U' H:Hp} {N:List Addr} (h:KR cm .F d v B U H N):KR cm .F d v B U' H N:=h
theorem hO {s:Sh} {d:D} {v:V} {B U U' H:Hp} {N:List Addr} (h:KO cm s d v B U H N):KO cm s d v B U' H N:=h
theorem bO0 {msC:List Md} {Kr:KT D V} {fm:List D→Out D} {ps:List Ap} {t:TA} {m:Env→Res (List D)} (h:AJ cm E ms ps t m) (hl:ps.length=msC.length)
 (hf:∀ (j:Nat) p,ps[j]?=some p→fits ms true p (msC.getD j .F)=true) (hU:∀ d v B U U' H N,Kr d v B U H N→Kr d v B U' H N):PJ cm Kr E ms (bz8 (spM cm msC Kr fm) [] E t) (fun ρ=>(m ρ).bind (au1 fm)):=by
 intro B U As σ H ρ Q R P
 refine h.bnd R P fun ds vs B1 U1 H1 R1 e1 A P1=>?_
 rw [List.append_nil]
 exact bc3 R1 A hl hf hU P1
noncomputable def ak1 (c:Nat) (m:Str):D→Bool
 | .obj c' ns _=>decide (c'=c) && !ns.contains m
 | _=>false
theorem ay5 {m:Str}:∀ {fs:List (Str×V)},(fs.map (·.1)).contains m=false→fs.lookup m=none
 | [],_=>rfl
 | p :: fs,h=>by
   rw [List.map_cons,List.contains_cons,Bool.or_eq_false_iff] at h
   rw [List.lookup_cons,h.1]
   exact ay5 h.2
theorem aL6 {c:Nat} {m:Str} {d:D} {v:V} (h:ak1 c m d=true) (hd:Dn cm H d v):∃ a dx fs,v= .ref a∧H a=some (.ins (cm c) dx fs)∧fs.lookup m=none:=by
 cases d with
 | obj c' ns ds =>
   have h:(decide (c'=c) && !ns.contains m)=true:=h
   rw [Bool.and_eq_true] at h
   have e:=of_decide_eq_true h.1
   subst e
   rw [Dn] at hd
   obtain ⟨a,dx,fs,r,h1,h2,_⟩:=hd
   refine ⟨a,dx,fs,r,h1,ay5 ?_⟩
   rw [h2]
   simpa using h.2
 | _=>cases h
theorem bN8 {c:Nat} {mn:Str} {msC:List Md} {Kr:KT D V} {fm:List D→Out D} {p:Ap} {ps:List Ap} {ta:TE} {ma:Env→Res D} {t:TA} {m:Env→Res (List D)} (ha:A1J cm E ms p ta ma) (h:AJ cm E ms ps t m) (hl:(p :: ps).length=msC.length)
 (hf:∀ (j:Nat) q,(p :: ps)[j]?=some q→fits ms true q (msC.getD j .F)=true) (hU:∀ d v B U U' H N,Kr d v B U H N→Kr d v B U' H N) :
 PJ cm Kr E ms (aO7 (cm c) mn (spM cm msC Kr fm) [] E ta t) (fun ρ=>(ma ρ).bind fun o=>if ak1 c mn o=true then (m ρ).bind fun ds=>au1 fm (o :: ds) else .bad):=by
 intro B U As σ H ρ Q R P
 refine ha.bnd R P fun o v B1 U1 H1 R1 e1 a1 P1=>?_
 by_cases z:ak1 c mn o=true
 · rw [if_pos z] at P1
   obtain ⟨a,dx,fs,rfl,h1,h2⟩:=aL6 z (A1.read R1 a1)
   refine ⟨a,dx,fs,rfl,h1,h2,h.bnd R1 P1 fun ds vs B2 U2 H2 R2 e2 A P2=>?_⟩
   rw [List.append_nil]
   exact bc3 (ps:=p :: ps) (ds:=o :: ds) R2 ⟨o,ds,_,vs,rfl,rfl,a1.mono e2,A⟩ hl hf hU P2
 · rw [if_neg z] at P1
   exact P1.elim
end
section
variable {cm:Cm} {E:XK} {ms:List Md} {B U H:Hp} {As:Nat→List Addr} {σ:St} {ρ:Env}
noncomputable def posO:List Ap→Nat→Option Nat
 | [],_=>none
 | p :: r,i=>if p= .O i then some 0 else (posO r i).map (· + 1)
theorem an0:∀ {ps:List Ap} {i j:Nat},posO ps i=some j→ps[j]?=some (.O i)
 | [],_,_,h=>by cases h
 | p :: r,i,j,h=>by
   unfold posO at h
   by_cases e:p= .O i
   · rw [if_pos e] at h; cases h; rw [e]; rfl
   · rw [if_neg e] at h
     obtain ⟨k,hk,rfl⟩:=Option.map_eq_some_iff.mp h
     rw [List.getElem?_cons_succ]
     exact an0 hk
noncomputable def lent:List Ap→List Nat
 | []=>[]
 | .O i :: r=>i :: lent r
 | _ :: r=>lent r
noncomputable def borr:List Ap→List Nat
 | []=>[]
 | .Bo i :: r=>i :: borr r
 | _ :: r=>borr r
theorem ar1:∀ {ps:List Ap} {i j:Nat},ps[j]?=some (.O i)→i∈lent ps
 | [],_,_,h=>by cases h
 | p :: r,i,j,h=>by
   cases j with
   | zero=>cases h; exact List.mem_cons_self
   | succ j =>
     have:=ar1 (ps:=r) (j:=j) (by simpa using h)
     cases p <;> first | exact this | exact List.mem_cons_of_mem _ this
theorem aG3:∀ {ps:List Ap} {i:Nat},i∈lent ps→∃ j,posO ps i=some j
 | [],_,h=>by cases h
 | p :: r,i,h=>by
   unfold posO
   by_cases e:p= .O i
   · exact ⟨0,by rw [if_pos e]⟩
   · rw [if_neg e]
     have:i∈lent r:=by
      cases p with
      | O k =>
        rcases List.mem_cons.mp h with z | z
        · exact absurd (by rw [z]) e
        · exact z
      | _=>exact h
     obtain ⟨j,hj⟩:=aG3 this
     exact ⟨j + 1,by rw [hj]; rfl⟩
theorem aZ3:∀ {ps:List Ap} {i j:Nat},ps[j]?=some (.Bo i)→i∈borr ps
 | [],_,_,h=>by cases h
 | p :: r,i,j,h=>by
   cases j with
   | zero=>cases h; exact List.mem_cons_self
   | succ j =>
     have:=aZ3 (ps:=r) (j:=j) (by simpa using h)
     cases p <;> first | exact this | exact List.mem_cons_of_mem _ this
theorem aL9:∀ {ps:List Ap} {i j k:Nat},(lent ps).Nodup→ps[j]?=some (.O i)→ps[k]?=some (.O i)→j=k
 | [],_,_,_,_,h,_=>by cases h
 | p :: r,i,j,k,nd,h1,h2=>by
   cases j with
   | zero =>
     cases k with
     | zero=>rfl
     | succ k =>
       cases h1
       exact absurd (ar1 (ps:=r) (j:=k) (by simpa using h2)) (List.nodup_cons.mp nd).1
   | succ j =>
     cases k with
     | zero =>
       cases h2
       exact absurd (ar1 (ps:=r) (j:=j) (by simpa using h1)) (List.nodup_cons.mp nd).1
     | succ k =>
       have nd':(lent r).Nodup:=by
        cases p with
        | O x=>exact (List.nodup_cons.mp nd).2
        | _=>exact nd
       rw [aL9 nd' (j:=j) (k:=k) (by simpa using h1) (by simpa using h2)]
theorem ax0:∀ {ps:List Ap} {j:Nat} {ρc ρ:Env},(wbGo ps j ρc ρ).length=ρ.length
 | [],_,_,_=>rfl
 | p :: r,j,ρc,ρ=>by
   cases p with
   | O i=>rw [wbGo,ax0,List.length_set]
   | F=>rw [wbGo,ax0]; all_goals simp
   | U=>rw [wbGo,ax0]; all_goals simp
   | X=>rw [wbGo,ax0]; all_goals simp
   | Bo i=>rw [wbGo,ax0]; all_goals simp
theorem aW9:∀ {ps:List Ap} {j0:Nat} {ρc ρ:Env} {i:Nat},(lent ps).Nodup→i < ρ.length→rg (wbGo ps j0 ρc ρ) i=match posO ps i with | some j=>rg ρc (j0 + j) | none=>rg ρ i
 | [],_,_,_,_,_,_=>rfl
 | p :: r,j0,ρc,ρ,i,nd,hi=>by
   have step:∀ ρ':Env,ρ'.length=ρ.length→(lent r).Nodup→(p≠ .O i)→rg ρ' i=rg ρ i→rg (wbGo r (j0 + 1) ρc ρ') i=match posO (p :: r) i with | some j=>rg ρc (j0 + j) | none=>rg ρ i:=fun ρ' hl nd' hp e=>by
    rw [aW9 nd' (by rw [hl]; exact hi),posO,if_neg hp]
    cases posO r i with
    | none=>exact e
    | some j =>
      show rg ρc (j0 + 1 + j)=rg ρc (j0 + (j + 1))
      rw [show j0 + 1 + j=j0 + (j + 1) by omega]
   cases p with
   | O k =>
     rw [wbGo]
     by_cases e:k=i
     · subst e
       have hn:posO r k=none:=by
        cases q:posO r k with
        | none=>rfl
        | some j=>exact absurd (ar1 (an0 q)) (List.nodup_cons.mp nd).1
       rw [aW9 (List.nodup_cons.mp nd).2 (by rw [List.length_set]; exact hi),hn,posO,if_pos rfl,au6,if_pos ⟨rfl,hi⟩]
       rfl
     · exact step _ (List.length_set ..) (List.nodup_cons.mp nd).2 (fun z=>e (by cases z; rfl)) (by rw [au6,if_neg fun z=>e z.1])
   | F=>rw [wbGo]; exact step ρ rfl nd (fun z=>by cases z) rfl; all_goals simp
   | U=>rw [wbGo]; exact step ρ rfl nd (fun z=>by cases z) rfl; all_goals simp
   | X=>rw [wbGo]; exact step ρ rfl nd (fun z=>by cases z) rfl; all_goals simp
   | Bo k=>rw [wbGo]; exact step ρ rfl nd (fun z=>by cases z) rfl; all_goals simp
noncomputable def fit1 (ms:List Md):Ap→Md→Prop
 | .F,.F=>True
 | .F,.R=>True
 | .U,.R=>True
 | .Bo _,.R=>True
 | .O i,.O s=>ms.getD i .F= .O s
 | _,_=>False
noncomputable def fitM (ms:List Md):List Ap→List Md→Prop
 | [],[]=>True
 | p :: ps,m :: r=>fit1 ms p m∧fitM ms ps r
 | _,_=>False
theorem fitM.len:∀ {ps:List Ap} {mc:List Md},fitM ms ps mc→ps.length=mc.length
 | [],[],_=>rfl
 | [],_ :: _,h=>h.elim
 | _ :: _,[],h=>h.elim
 | p :: ps,m :: r,h=>by rw [List.length_cons,List.length_cons,fitM.len h.2]
theorem fitM.get:∀ {ps:List Ap} {mc:List Md} {j:Nat} {p:Ap},fitM ms ps mc→ps[j]?=some p→fit1 ms p (mc.getD j .F)
 | [],_,_,_,_,e=>by cases e
 | _ :: _,[],_,_,h,_=>h.elim
 | p :: ps,m :: r,j,q,h,e=>by
   cases j with
   | zero=>cases e; exact h.1
   | succ j=>rw [List.getD_cons_succ]; exact fitM.get (j:=j) h.2 (by simpa using e)
theorem az0 {mc:List Md} {ρc:Env} {j:Nat} {s:Sh} (h:mc.getD j .F= .O s):rg (ar3 mc ρc) j=rg ρc j:=by
 have hj:j < mc.length:=by
  by_cases z:j < mc.length
  · exact z
  · rw [List.getD_eq_getElem?_getD,List.getElem?_eq_none (by omega)] at h; cases h
 unfold ar3
 show ((((List.range mc.length).map _)[j]?).join)=_
 rw [List.getElem?_map,List.getElem?_range hj]
 show (some (match mc.getD j .F with | .O _=>rg ρc j | _=>none)).join=_
 rw [h]
 rfl
open Classical in
theorem bI8 {msC:List Md} {Kr:KT D V} {fm:List D→Out D} {ps:List Ap} {ds:List D} {vs:List V} {Q:VK} (R:Rel cm ms B U As σ H ρ) (A:Ag cm B U H σ ρ ps ds vs) (hf:fitM ms ps msC) (hd:(lent ps).Nodup)
 (hb:∀ i∈borr ps,i∉lent ps) (hU:∀ d v B U U' H N,Kr d v B U H N→Kr d v B U' H N) (P:Mo cm Kr E ms B U σ (aw0 ps fm ds ρ) Q):spM cm msC Kr fm vs H Q E:=by
 have hlen:=A.len
 have hl:=hf.len
 have lentO:∀ {i j:Nat},ps[j]?=some (.O i)→∃ d v s,ds[j]?=some d∧vs[j]?=some v∧rg σ i=some v∧rg ρ i=some d∧msC.getD j .F= .O s∧ms.getD i .F= .O s:=fun {i j} e=>by
  obtain ⟨d,v,ed,ev,h1⟩:=A.get e
  have q:=hf.get e
  cases em:msC.getD j .F with
  | O s=>rw [em] at q; exact ⟨d,v,s,ed,ev,h1.1,h1.2,rfl,q⟩
  | F=>rw [em] at q; exact q.elim
  | R=>rw [em] at q; exact q.elim
 have FPd:∃ Uc:Hp,(∀ a,(∃ j i:Nat,ps[j]?=some (.O i)∧a∈As i)→Uc a=none)∧(∀ a,(¬ ∃ j i:Nat,ps[j]?=some (.O i)∧a∈As i)→Uc a=H a) :=
  ⟨fun a=>if (∃ j i:Nat,ps[j]?=some (.O i)∧a∈As i) then none else H a,fun a h=>if_pos h,fun a h=>if_neg h⟩
 obtain ⟨Uc,uc1,uc2⟩:=FPd
 have notFP:∀ {a o},U a=some o→¬ ∃ j i:Nat,ps[j]?=some (.O i)∧a∈As i:=fun {a o} q ⟨j,i,_,ha⟩=>by
  rw [R.un i a ha] at q; cases q
 have sUc:Same U Uc:=fun a o q=>by rw [uc2 a (notFP q)]; exact R.uh a o q
 have ucH:Same Uc H:=fun a o q=>by
  by_cases z:∃ j i:Nat,ps[j]?=some (.O i)∧a∈As i
  · rw [uc1 a z] at q; cases q
  · rw [uc2 a z] at q; exact q
 -- what is owned and not lent
 have other:∀ {i a},i∉lent ps→a∈As i→∃ o,Uc a=some o∧H a=some o:=fun {i a} hi ha=>by
  obtain ⟨o,q⟩:=R.at ha
  refine ⟨o,?_,q⟩
  rw [uc2 a]
  · exact q
  · rintro ⟨j,k,ek,hk⟩
    by_cases e:k=i
    · subst e; exact hi (ar1 ek)
    · exact R.dj k i a e hk ha
 have Rc:Rel cm msC B Uc (fun j=>match ps[j]? with | some (.O i)=>As i | _=>[]) (vs.map some) H (ds.map some):=by
  refine ⟨R.bu.trans sUc,ucH,fun j=>?_,fun j k a hne ha hk=>?_,fun j a ha=>?_,fun j=>?_,by rw [List.length_map,List.length_map,hlen.1,hlen.2],R.tb⟩
  · try dsimp only
    split
    · exact R.nd _
    · exact List.nodup_nil
  · try dsimp only at ha hk
    split at ha
    · rename_i i e1
      split at hk
      · rename_i i' e2
        by_cases e:i=i'
        · subst e; exact hne (aL9 hd e1 e2)
        · exact R.dj i i' a e ha hk
      · cases hk
    · cases ha
  · try dsimp only at ha
    split at ha
    · rename_i i e1
      exact uc1 a ⟨j,i,e1,ha⟩
    · cases ha
  · rw [aj6,aj6]
    cases e:ps[j]? with
    | none =>
      have:ps.length≤j:=List.getElem?_eq_none_iff.mp e
      rw [List.getElem?_eq_none (by omega)]
      rfl
    | some p =>
      obtain ⟨d,v,ed,ev,h1⟩:=A.get e
      rw [ed,ev]
      refine ⟨v,rfl,?_⟩
      have q:=hf.get e
      cases p with
      | F =>
        have h1:Dn cm B d v:=h1
        cases em:msC.getD j .F with
        | F=>exact ⟨h1,rfl⟩
        | R=>exact ⟨Dn.mono (R.bu.trans sUc) h1,rfl⟩
        | O s=>rw [em] at q; exact q.elim
      | U =>
        have h1:Dn cm U d v:=h1
        cases em:msC.getD j .F with
        | F=>rw [em] at q; exact q.elim
        | R=>exact ⟨Dn.mono sUc h1,rfl⟩
        | O s=>rw [em] at q; exact q.elim
      | X=>cases em:msC.getD j .F <;> (rw [em] at q; exact q.elim)
      | Bo i =>
        cases em:msC.getD j .F with
        | F=>rw [em] at q; exact q.elim
        | O s=>rw [em] at q; exact q.elim
        | R =>
          refine ⟨?_,rfl⟩
          have l:=R.lo i
          rw [h1.2] at l
          have w:=ar2 l h1.1
          cases e2:ms.getD i .F with
          | F=>rw [e2] at w; exact Dn.mono (R.bu.trans sUc) w.1
          | R=>rw [e2] at w; exact Dn.mono sUc w.1
          | O s =>
            rw [e2] at w
            refine Ow.dn (R.bu.trans sUc) (fun a ha o q=>?_) w
            obtain ⟨o',q1,q2⟩:=other (hb i (aZ3 e)) ha
            rw [q2] at q; cases q; exact q1
      | O i =>
        obtain ⟨d',v',s,ed',ev',h2,h3,h4,h5⟩:=lentO e
        rw [h4]
        have l:=R.lo i
        rw [h1.2,h5] at l
        exact ar2 l h1.1
 refine ⟨B,Uc,_,ds,Rc,by omega,?_⟩
 have main:∀ {B' U' H':Hp} {As':Nat→List Addr} {ρc:Env},Rel cm msC B' U' As' (vs.map some) H' (ar3 msC ρc)→Ex B Uc B' U' →
  Rel cm ms B' (ov B' U) (fun i=>match posO ps i with | some j=>As' j | none=>As i) σ H' (wbGo ps 0 ρc ρ)∧Ex B U B' (ov B' U)∧∀ N,NewM N U' As'→NewM N (ov B' U) (fun i=>match posO ps i with | some j=>As' j | none=>As i):=fun {B' U' H' As' ρc} R' e'=>by
  have su:Same U (ov B' U):=fun a o q=>by
   unfold ov
   cases z:B' a with
   | none=>exact q
   | some o' =>
     have h1:=e'.u a o (sUc a o q)
     have h2:=R'.bu a o' z
     rw [h1] at h2; cases h2; rfl
  have uh:Same (ov B' U) H':=fun a o q=>by
   unfold ov at q
   cases z:B' a with
   | none=>rw [z] at q; exact R'.uh a o (e'.u a o (sUc a o q))
   | some o'=>rw [z] at q; cases q; exact R'.bh a _ z
  have bu:Same B' (ov B' U):=fun a o q=>by unfold ov; rw [q]
  have free:∀ {a},U' a=none→ov B' U a=none:=fun {a} h=>by
   unfold ov
   cases z:B' a with
   | none=>exact sUc.free (e'.u.free h)
   | some o=>have:=R'.bu a o z; rw [h] at this; cases this
  have there:∀ {i a},posO ps i=none→a∈As i→∃ o,U' a=some o∧H a=some o∧H' a=some o:=fun {i a} hi ha=>by
   obtain ⟨o,q1,q2⟩:=other (fun z=>by obtain ⟨j,hj⟩:=aG3 z; rw [hi] at hj; cases hj) ha
   exact ⟨o,e'.u a o q1,q2,R'.uh a o (e'.u a o q1)⟩
  refine ⟨⟨bu,uh,fun i=>?_,fun i k a hne ha hk=>?_,fun i a ha=>?_,fun i=>?_,by rw [ax0]; exact R.len,R'.tb⟩,⟨e'.b,su,fun a o q=>?_⟩,fun N n=>⟨n.nd,fun a ha=>free (n.un a ha),fun a ha i=>?_⟩⟩
  · try dsimp only
    split
    · exact R'.nd _
    · exact R.nd _
  · try dsimp only at ha hk
    split at ha
    · rename_i j ej
      split at hk
      · rename_i j' ej'
        refine R'.dj j j' a (fun z=>hne ?_) ha hk
        subst z
        have h1:=an0 ej
        have h2:=an0 ej'
        rw [h1] at h2; cases h2; rfl
      · rename_i ek
        obtain ⟨o,q,_⟩:=there ek hk
        rw [R'.un j a ha] at q; cases q
    · rename_i ei
      obtain ⟨o,q,_⟩:=there ei ha
      split at hk
      · rename_i j' ej'
        rw [R'.un j' a hk] at q; cases q
      · exact R.dj i k a hne ha hk
  · try dsimp only at ha
    split at ha
    · rename_i j ej
      exact free (R'.un j a ha)
    · rename_i ei
      obtain ⟨o,q,_⟩:=there ei ha
      unfold ov
      cases z:B' a with
      | none=>exact R.un i a ha
      | some o' =>
        rcases e'.nb a o' z with w | w | w
        · have:=R.bu a o' w; rw [R.un i a ha] at this; cases this
        · obtain ⟨o2,q1,q2⟩:=other (fun z=>by obtain ⟨j,hj⟩:=aG3 z; rw [ei] at hj; cases hj) ha
          rw [w] at q1; cases q1
        · obtain ⟨o2,_,q2,q3⟩:=there ei ha
          rw [R'.bh a o' z] at q3; cases q3
          exact (R.nt ha q2 w).elim
  · try dsimp only
    cases ep:posO ps i with
    | some j =>
      obtain ⟨d,v,s,ed,ev,h2,h3,h4,h5⟩:=lentO (an0 ep)
      have hi:i < ρ.length:=by
       have:=am9 h3
       exact (List.getElem?_eq_some_iff.mp this).1
      rw [aW9 hd hi,ep]
      try dsimp only
      have l:=R'.lo j
      rw [az0 h4,aj6,ev,h4] at l
      rw [h2,h5,Nat.zero_add]
      exact l
    | none =>
      try dsimp only
      by_cases hi:i < ρ.length
      · rw [aW9 hd hi,ep]
        refine (R.lo i).mono e'.b su fun a ha=>?_
        obtain ⟨o,_,q1,q2⟩:=there ep ha
        rw [q1,q2]
      · have h1:rg (wbGo ps 0 ρc ρ) i=none:=by
         unfold rg
         rw [List.getElem?_eq_none (by rw [ax0]; omega)]
         rfl
        have h2:rg ρ i=none:=by
         unfold rg
         rw [List.getElem?_eq_none (by omega)]
         rfl
        have l:=R.lo i
        rw [h2] at l
        rw [h1]
        exact l
  · rcases e'.nb a o q with w | w | w
    · exact .inl w
    · exact .inr (.inl (sUc.free w))
    · exact .inr (.inr w)
  · try dsimp only
    cases ep:posO ps i with
    | some j=>exact n.ap a ha j
    | none =>
      intro z
      obtain ⟨o,q,_⟩:=there ep z
      rw [n.un a ha] at q; cases q
 cases e:fm ds with
 | ok d ρ' =>
   unfold aw0 at P
   rw [e] at P
   intro v B' U' As' H' N R' e' n' k
   obtain ⟨R2,e2,n2⟩:=main R' e'
   exact P v B' _ _ H' N R2 e2 (n2 N n') (hU d v B' U' (ov B' U) H' N k)
 | exc c ρ' =>
   unfold aw0 at P
   rw [e] at P
   intro B' U' As' H' R' e'
   obtain ⟨R2,e2,n2⟩:=main R' e'
   exact P B' _ _ H' R2 e2
 | bad =>
   unfold aw0 at P
   rw [e] at P
   exact P
end
noncomputable def aL7 (c:Nat) (fm:List D→Out D) (ds:List D):Res D:=match fm (.obj c [] [] :: ds) with
 | .ok .non ρ'=>(match rg ρ' 0 with | some d=> .ok d | none=> .bad)
 | .ok _ _=> .bad
 | .exc c _=> .exc c
 | .bad=> .bad
section
variable {cm:Cm} {E:XK} {ms:List Md} {B U H:Hp} {As:Nat→List Addr} {σ:St} {ρ:Env} {K:PySem.W.Frag}
theorem cv0 {c:Nat} {mn:Str} {msC:List Md} {Kr:KT D V} {fm:List D→Out D} {p:Ap} {ps:List Ap} {ta:TE} {ma:Env→Res D} {t:TA} {m:Env→Res (List D)} (ha:A1J cm E ms p ta ma) (h:AJ cm E ms ps t m) (hf:fitM ms (p :: ps) msC) (hd:(lent (p :: ps)).Nodup)
 (hb:∀ i∈borr (p :: ps),i∉lent (p :: ps)) (hU:∀ d v B U U' H N,Kr d v B U H N→Kr d v B U' H N) :
 MJ cm Kr E ms (aO7 (cm c) mn (spM cm msC Kr fm) [] E ta t) (fun ρ=>((ma ρ).up ρ).bind fun o ρ=>if ak1 c mn o=true then ((m ρ).up ρ).bind fun ds ρ=>aw0 (p :: ps) fm (o :: ds) ρ else .bad):=by
 intro B U As σ H ρ Q R P
 replace P:Mo cm Kr E ms B U σ (((ma ρ).up ρ).bind fun o ρ=>if ak1 c mn o=true then ((m ρ).up ρ).bind fun ds ρ=>aw0 (p :: ps) fm (o :: ds) ρ else .bad) Q:=P
 refine ha B U As σ H ρ _ R ?_
 cases e:ma ρ with
 | ok o =>
   rw [e] at P
   intro v B1 U1 H1 N R1 g1 n1 a1
   replace P:Mo cm Kr E ms B U σ (if ak1 c mn o=true then ((m ρ).up ρ).bind fun ds ρ=>aw0 (p :: ps) fm (o :: ds) ρ else .bad) Q:=P
   by_cases z:ak1 c mn o=true
   · rw [if_pos z] at P
     obtain ⟨a,dx,fs,rfl,h1,h2⟩:=aL6 z (A1.read R1 a1)
     refine ⟨a,dx,fs,rfl,h1,h2,h B1 U1 As σ H1 ρ _ R1 ?_⟩
     cases e2:m ρ with
     | ok ds =>
       rw [e2] at P
       intro vs B2 U2 H2 N2 R2 g2 n2 A
       rw [List.append_nil]
       exact bI8 (ps:=p :: ps) (ds:=o :: ds) R2 ⟨o,ds,_,vs,rfl,rfl,a1.mono g2,A⟩ hf hd hb hU (Mo.at (r:=aw0 (p :: ps) fm (o :: ds) ρ) P (g1.toEx.trans g2.toEx))
     | exc c=>rw [e2] at P; exact fun B2 U2 H2 R2 g2=>P B2 U2 As H2 R2 (g1.toEx.trans g2.toEx)
     | bad=>rw [e2] at P; exact P
   · rw [if_neg z] at P
     exact P.elim
 | exc c=>rw [e] at P; exact fun B1 U1 H1 R1 g1=>P B1 U1 As H1 R1 g1.toEx
 | bad=>rw [e] at P; exact P
theorem ce2 {c:Nat} {sh:List (Str×Sh)} {msC:List Md} {fm:List D→Out D} {ps:List Ap} {ds:List D} {vs:List V} {Q:VK} (R:Rel cm ms B U As σ H ρ) (A:Ag cm B U H σ ρ ps ds vs) (hl:ps.length + 1=msC.length) (h0:msC.getD 0 .F= .O (.ob sh))
 (hf:∀ (j:Nat) p,ps[j]?=some p→fits ms true p (msC.getD (j + 1) .F)=true) (P:Po cm (KO cm (.ob sh)) E ms B U As σ H ρ (aL7 c fm ds) Q) (x dx:Addr) (hx:H x=none) (hdx:H dx=none) (hne:dx≠x) :
 spM cm msC (KR cm .F) fm (.ref x :: vs) (upd (upd H dx (.own x)) x (.ins (cm c) dx [])) (fun v H2=>v= .non∧Q (.ref x) H2) E:=by
 have hlen:=A.len
 have sH:Same H (upd (upd H dx (.own x)) x (.ins (cm c) dx [])):=Gd.aX8 hx (Gd.ae8 hdx)
 have hUc:∃ Uc:Hp,Uc x=none∧∀ a,a≠x→Uc a=upd (upd H dx (.own x)) x (.ins (cm c) dx []) a:=⟨fun a=>if a=x then none else upd (upd H dx (.own x)) x (.ins (cm c) dx []) a,if_pos rfl,fun a h=>if_neg h⟩
 obtain ⟨Uc,u1,u2⟩:=hUc
 have sUc:Same H Uc:=fun a o q=>by rw [u2 a (ac7 q hx)]; exact sH a o q
 have ucH:Same Uc (upd (upd H dx (.own x)) x (.ins (cm c) dx [])):=fun a o q=>by
  by_cases z:a=x
  · subst z; rw [u1] at q; cases q
  · rw [u2 a z] at q; exact q
 have freeU:∀ {a},Uc a=none→H a=none:=fun h=>sUc.free h
 have Rc:Rel cm msC B Uc (fun j=>match j with | 0=>[x] | _ + 1=>[]) ((.ref x :: vs).map some) (upd (upd H dx (.own x)) x (.ins (cm c) dx [])) ((.obj c [] [] :: ds).map some):=by
  refine ⟨R.bh.trans sUc,ucH,fun j=>?_,fun j k a hne' ha hk=>?_,fun j a ha=>?_,fun j=>?_,by rw [List.length_map,List.length_map,List.length_cons,List.length_cons,hlen.1,hlen.2],R.tb⟩
  · cases j with
    | zero=>simp
    | succ j=>exact List.nodup_nil
  · cases j with
    | zero =>
      cases k with
      | zero=>exact hne' rfl
      | succ k=>cases hk
    | succ j=>cases ha
  · cases j with
    | zero=>rw [List.mem_singleton.mp ha]; exact u1
    | succ j=>cases ha
  · rw [aj6,aj6]
    cases j with
    | zero =>
      rw [h0]
      refine ⟨.ref x,rfl,?_⟩
      show Ow cm B _ (.obj c [] []) (.ob sh) (.ref x) [x]
      rw [Ow]
      exact ⟨x,dx,[],[],rfl,ac4,rfl,rfl,by rw [Owf]; exact ⟨rfl,rfl⟩⟩
    | succ j =>
      rw [List.getElem?_cons_succ,List.getElem?_cons_succ]
      cases e:ps[j]? with
      | none =>
        have:ps.length≤j:=List.getElem?_eq_none_iff.mp e
        rw [List.getElem?_eq_none (by omega)]
        rfl
      | some p =>
        obtain ⟨d,v,ed,ev,h1⟩:=A.get e
        rw [ed,ev]
        refine ⟨v,rfl,?_⟩
        have hr:=A1.read R h1
        have q:=hf j p e
        cases em:msC.getD (j + 1) .F with
        | F =>
          rw [em] at q
          cases p with
          | F=>exact ⟨h1,rfl⟩
          | _=>cases q
        | R=>exact ⟨Dn.mono sUc hr,rfl⟩
        | O s=>rw [em] at q; cases p <;> cases q
 refine ⟨B,Uc,_,.obj c [] [] :: ds,Rc,by rw [List.length_cons]; omega,?_⟩
 have main:∀ {B' U' H':Hp} {As':Nat→List Addr} {ρc:Env},Rel cm msC B' U' As' ((.ref x :: vs).map some) H' ρc→Ex B Uc B' U'→Rel cm ms B' (ov B' U) As σ H' ρ∧Gw B U H B' (ov B' U) H'∧∀ a,U' a=none→ov B' U a=none:=fun {B' U' H' As' ρc} R' e'=>by
  have sU:Same U U':=(R.uh.trans sUc).trans e'.u
  have su:Same U (ov B' U):=fun a o q=>by
   unfold ov
   cases z:B' a with
   | none=>exact q
   | some o' =>
     have h1:=sU a o q
     have h2:=R'.bu a o' z
     rw [h1] at h2; cases h2; rfl
  have sh:Same H H':=(sUc.trans e'.u).trans R'.uh
  have uh:Same (ov B' U) H':=fun a o q=>by
   unfold ov at q
   cases z:B' a with
   | none=>rw [z] at q; exact sh a o (R.uh a o q)
   | some o'=>rw [z] at q; cases q; exact R'.bh a _ z
  have bu:Same B' (ov B' U):=fun a o q=>by unfold ov; rw [q]
  have new:∀ a o,B' a=some o→B a=some o∨H a=none∨aG7 o:=fun a o q=>(e'.nb a o q).imp id fun z=>z.imp freeU id
  refine ⟨R.grow e'.b su sh bu uh fun i a ha=>?_,⟨⟨e'.b,su,fun a o q=>?_⟩,sh,fun a o q=>?_⟩,fun a h=>?_⟩
  · unfold ov
    cases z:B' a with
    | none=>exact R.un i a ha
    | some o =>
      obtain ⟨o',q'⟩:=R.at ha
      rcases new a o z with q | q | q
      · have:=R.bu a o q; rw [R.un i a ha] at this; cases this
      · rw [q] at q'; cases q'
      · have e1:=sh _ _ q'
        rw [R'.bh a o z] at e1; cases e1; exact (R.nt ha q' q).elim
  · rcases new a o q with q | q | q
    · exact .inl q
    · exact .inr (.inl (R.uh.free q))
    · exact .inr (.inr q)
  · unfold ov at q
    cases z:B' a with
    | none=>rw [z] at q; exact .inl q
    | some o' =>
      rw [z] at q
      cases q
      rcases new a _ z with q | q
      · exact .inl (R.bu a _ q)
      · exact .inr q
  · unfold ov
    cases z:B' a with
    | none=>exact sU.free h
    | some o=>have:=R'.bu a o z; rw [h] at this; cases this
 unfold aL7 at P
 cases e:fm (.obj c [] [] :: ds) with
 | ok d ρ' =>
   rw [e] at P
   intro v B' U' As' H' N R' e' n' k
   obtain ⟨R2,g2,fr2⟩:=main R' e'
   cases d with
   | non =>
     have k:Dn cm B' .non v:=k
     rw [Dn] at k
     refine ⟨k,?_⟩
     replace P:Po cm (KO cm (.ob sh)) E ms B U As σ H ρ (match rg ρ' 0 with | some d=> .ok d | none=> .bad) Q:=P
     have l:=R'.lo 0
     rw [az0 h0,h0] at l
     cases e0:rg ρ' 0 with
     | none=>rw [e0] at P; exact P.elim
     | some d =>
       rw [e0] at P l
       have w:=ar2 l (v:= .ref x) rfl
       exact P (.ref x) B' _ H' (As' 0) R2 g2 ⟨R'.nd 0,fun a ha=>freeU (e'.u.free (R'.un 0 a ha)),fun a ha=>fr2 a (R'.un 0 a ha)⟩ w
   | _=>exact P.elim
 | exc c' ρ' =>
   rw [e] at P
   intro B' U' As' H' R' e'
   obtain ⟨R2,g2,fr2⟩:=main R' e'
   exact P B' _ H' R2 g2
 | bad=>rw [e] at P; exact P
theorem co5 {c:Nat} {sh:List (Str×Sh)} {msC:List Md} {fm:List D→Out D} {ps:List Ap} {t:TA} {m:Env→Res (List D)} (h:AJ cm E ms ps t m) (hl:ps.length + 1=msC.length) (h0:msC.getD 0 .F= .O (.ob sh))
 (hf:∀ (j:Nat) p,ps[j]?=some p→fits ms true p (msC.getD (j + 1) .F)=true):PJ cm (KO cm (.ob sh)) E ms (bQ5 (cm c) (spM cm msC (KR cm .F) fm) [] E t) (fun ρ=>(m ρ).bind (aL7 c fm)):=by
 intro B U As σ H ρ Q R P
 refine h.bnd R P fun ds vs B1 U1 H1 R1 e1 A P1=>?_
 intro x dx hx hdx hne
 rw [List.append_nil]
 exact ce2 R1 A hl h0 hf P1 x dx hx hdx hne
structure Pth (cm:Cm) (ms:List Md) (t:TE) (get:Env→Option D) (set:Env→D→Env):Prop where
 rd:∀ {B U:Hp} {As:Nat→List Addr} {σ:St} {H:Hp} {ρ:Env} {d:D},Rel cm ms B U As σ H ρ→get ρ=some d→∃ v A,(∀ Q:VK,Q v H→t σ H Q)∧Ow cm B H d (.ct .fz) v A∧(∀ a∈A,∃ i,a∈As i) ∧
  ∀ B1 U1 H1,Rel cm ms B1 U1 As σ H1 ρ→Same B B1→Same H H1→∀ a∈A,∀ o' d',Ow cm B1 (upd H1 a o') d' (.ct .fz) v A→Rel cm ms B1 U1 As σ (upd H1 a o') (set ρ d')
theorem Rel.mut (R:Rel cm ms B U As σ H ρ) {i:Nat} {a:Addr} {o':HO} {d d':D} {v:V} {sh:Sh} (hm:ms.getD i .F= .O sh) (hv:rg σ i=some v) (hd:rg ρ i=some d) (ha:a∈As i) (w:Ow cm B (upd H a o') d' sh v (As i)) :
 Rel cm ms B U As σ (upd H a o') (ρ.set i (some d')):=by
 have hi:i < ρ.length:=(List.getElem?_eq_some_iff.mp (am9 hd)).1
 refine ⟨R.bu,fun b u q=>?_,R.nd,R.dj,R.un,fun j=>?_,by rw [List.length_set]; exact R.len,R.tb⟩
 · rw [ac3 (ac7 q (R.un i a ha))]
   exact R.uh b u q
 · rw [au6]
   by_cases e:i=j
   · subst e
     rw [if_pos ⟨rfl,hi⟩,hm]
     exact ⟨v,hv,w⟩
   · rw [if_neg fun z=>e z.1]
     exact (R.lo j).mono (Same.refl _) (Same.refl _) fun b hb=>ac3 (fun z:b=a=>R.dj i j a e ha (z ▸ hb))
noncomputable def aQ8 (i:Nat):Env→Option D:=fun ρ=>rg ρ i
noncomputable def aC5 (i:Nat):Env→D→Env:=fun ρ d=>ρ.set i (some d)
theorem pthV {i:Nat} (hm:ms.getD i .F= .O (.ct .fz)):Pth cm ms (tVar i) (aQ8 i) (aC5 i) where
 rd:=fun {B U As σ H ρ d} R e=>by
  replace e:rg ρ i=some d:=e
  have l:=R.lo i
  rw [e,hm] at l
  obtain ⟨v,hv,w⟩:=l
  exact ⟨v,As i,fun Q q=>⟨v,am9 hv,q⟩,w,fun a ha=>⟨i,ha⟩,fun B1 U1 H1 R1 _ _ a ha o' d' w'=>R1.mut hm hv e ha w'⟩
theorem Owf.upd {sh:List (Str×Sh)} {f:Str} {B H:Hp}:∀ {fs:List (Str×V)} {ds:List D} {A:List Addr} {d:D},Owf cm B H ds (fs.map (·.1)) sh (fs.map (·.2)) A→A.Nodup→ai9 (fs.map (·.1)) ds f=some d →
 ∃ v A1,fs.lookup f=some v∧Ow cm B H d ((sh.lookup f).getD .fz) v A1∧(∀ a∈A1,a∈A)∧∀ B1 H1 d',Same B B1→(∀ b∈A,b∉A1→H1 b=H b)→Ow cm B1 H1 d' ((sh.lookup f).getD .fz) v A1→Owf cm B1 H1 (aq7 (fs.map (·.1)) ds f d') (fs.map (·.1)) sh (fs.map (·.2)) A
 | [],ds,A,d,h,nd,e=>by cases ds <;> cases e
 | p :: fs,ds,A,d,h,nd,e=>by
   cases ds with
   | nil=>cases e
   | cons d0 ds =>
     rw [List.map_cons,List.map_cons,Owf] at h
     obtain ⟨n,ns',x,r,X1,X2,hn,h0,h1,h2,h3⟩:=h
     cases hn
     cases h0
     subst h1
     obtain ⟨nd1,nd2,nd3⟩:=List.nodup_append.mp nd
     rw [List.map_cons] at e
     unfold ai9 at e
     by_cases q:p.1=f
     · rw [if_pos q] at e
       cases e
       rw [q] at h2
       refine ⟨p.2,X1,by rw [List.lookup_cons,← q,beq_self_eq_true],h2,fun a ha=>List.mem_append_left _ ha,fun B1 H1 d' sb k w=>?_⟩
       rw [List.map_cons,List.map_cons,aq7,if_pos q,Owf]
       exact ⟨p.1,_,p.2,_,X1,X2,rfl,rfl,rfl,by rw [q]; exact w,Owf.mono sb (fun b hb=>k b (List.mem_append_right _ hb) fun z=>nd3 b z b hb rfl) h3⟩
     · rw [if_neg q] at e
       obtain ⟨v,A1,hv,ow,hA,cl⟩:=Owf.upd h3 nd2 e
       have hb:(f == p.1)=false:=beq_eq_false_iff_ne.mpr fun z=>q z.symm
       refine ⟨v,A1,by rw [List.lookup_cons,hb]; exact hv,ow,fun a ha=>List.mem_append_right _ (hA a ha),fun B1 H1 d' sb k w=>?_⟩
       rw [List.map_cons,List.map_cons,aq7,if_neg q,Owf]
       exact ⟨p.1,_,p.2,_,X1,X2,rfl,rfl,rfl,Ow.mono sb (fun b hb=>k b (List.mem_append_left _ hb) fun z=>nd3 b hb b (hA b z) rfl) h2,cl B1 H1 d' sb (fun b hb hb1=>k b (List.mem_append_right _ hb) hb1) w⟩
noncomputable def getF (c:Nat) (f:Str) (i:Nat):Env→Option D:=fun ρ=>match rg ρ i with
 | some (.obj c' ns vs)=>if c'=c then ai9 ns vs f else none
 | _=>none
noncomputable def setF (f:Str) (i:Nat):Env→D→Env:=fun ρ d=>match rg ρ i with
 | some (.obj c ns vs)=>ρ.set i (some (.obj c ns (aq7 ns vs f d)))
 | _=>ρ
theorem pthF {c:Nat} {f:Str} {i:Nat} {sh:List (Str×Sh)} (hc:Cls K (cm c)) (hn:NoAttr K (cm c) f) (hm:ms.getD i .F= .O (.ob sh)) (hf:(sh.lookup f).getD .fz= .ct .fz):Pth cm ms (tFld K (tVar i) f) (getF c f i) (setF f i) where
 rd:=fun {B U As σ H ρ d} R e=>by
  have l:=R.lo i
  unfold getF at e
  cases e0:rg ρ i with
  | none=>rw [e0] at e; cases e
  | some d0 =>
    cases d0 with
    | obj c' ns vs =>
      rw [e0] at e
      replace e:(if c'=c then ai9 ns vs f else none)=some d:=e
      by_cases q:c'=c
      · subst q
        rw [if_pos rfl] at e
        rw [e0,hm] at l
        obtain ⟨v,hv,w⟩:=l
        have w0:Ow cm B H (.obj c' ns vs) (.ob sh) v (As i):=w
        rw [Ow] at w0
        obtain ⟨a,dx,xs,A',rfl,h1,h2,h3,h4⟩:=w0
        subst h2
        have nd:=R.nd i
        rw [h3] at nd
        obtain ⟨nd1,nd2⟩:=List.nodup_cons.mp nd
        obtain ⟨u,A1,hu,ow,hA,cl⟩:=Owf.upd h4 nd2 e
        rw [hf] at ow
        refine ⟨u,A1,fun Q q=>⟨.ref a,am9 hv,a,_,dx,xs,u,rfl,h1,hc,hn,hu,q⟩,ow,fun b hb=>⟨i,by rw [h3]; exact List.mem_cons_of_mem _ (hA b hb)⟩,fun B1 U1 H1 R1 sb sh1 b hb o' d' w'=>?_⟩
        have hbi:b∈As i:=by rw [h3]; exact List.mem_cons_of_mem _ (hA b hb)
        have:setF f i ρ d'=ρ.set i (some (.obj c' (xs.map (·.1)) (aq7 (xs.map (·.1)) vs f d'))):=by unfold setF; rw [e0]
        rw [this]
        refine R1.mut hm hv e0 hbi ?_
        rw [h3,Ow]
        have nab:a≠b:=fun z=>nd1 (by rw [z]; exact hA b hb)
        refine ⟨a,dx,xs,A',rfl,by rw [ac3 nab]; exact sh1 _ _ h1,rfl,rfl,cl B1 _ d' sb (fun y hy hy1=>?_) (by rw [hf]; exact w')⟩
        have:y≠b:=fun z=>hy1 (by rw [z]; exact hb)
        rw [ac3 this]
        obtain ⟨o,ho⟩:=Owf.at h4 hy
        rw [ho,sh1 _ _ ho]
      · rw [if_neg q] at e
        cases e
    | _=>rw [e0] at e; cases e
noncomputable def lstK (set:Env→D→Env) (ρ:Env):Option (D×List D)→Out D
 | some (d,es)=> .ok d (set ρ (.lst es))
 | none=> .bad
noncomputable def lstR (set:Env→D→Env) (f:List D→D→Option (D×List D)) (ρ:Env) (xs:List D):Res D→Out D
 | .ok x=>lstK set ρ (f xs x)
 | .exc c=> .exc c ρ
 | .bad=> .bad
noncomputable def lst1 (get:Env→Option D) (set:Env→D→Env) (f:List D→D→Option (D×List D)) (me:Env→Res D):Env→Out D:=fun ρ=>match get ρ with
 | some (.lst xs)=>lstR set f ρ xs (me ρ)
 | _=> .bad
theorem Ow.lst {d:D} {v:V} {A:List Addr} {ds:List D} (w:Ow cm B H d (.ct .fz) v A) (e:d= .lst ds):∃ a xs,v= .ref a∧H a=some (.lst xs)∧A=[a]∧Dns cm B ds xs:=by
 subst e
 rw [Ow] at w
 obtain ⟨a,xs,A',r,h1,h2,h3⟩:=w
 obtain ⟨h4,h5⟩:=Ows.fz h3
 exact ⟨a,xs,r,h1,by rw [h2,h5],h4⟩
theorem Ow.lst' {a:Addr} {ds:List D} {xs:List V} (h:H a=some (.lst xs)) (d:Dns cm B ds xs):Ow cm B H (.lst ds) (.ct .fz) (.ref a) [a]:=by
 rw [Ow]
 exact ⟨a,xs,[],rfl,h,rfl,Ows.of d⟩
section
variable {t:TE} {get:Env→Option D} {set:Env→D→Env}
theorem ce4 {k:Kd} {r:V→List V→Hp→VK→Prop} {f:List D→D→Option (D×List D)} {te:TE} {me:Env→Res D} (p:Pth cm ms t get set) (he:PJ cm (KR cm k) E ms te me)
 (hr:∀ (B U H:Hp) (a:Addr) (ds:List D) (xs:List V) (x:D) (u:V) (d:D) (es:List D) (Q:VK),Same B U→Same U H→H a=some (.lst xs)→Dns cm B ds xs→Dn cm (hp k B U H) x u→f ds x=some (d,es)→(∀ v ys,Dn cm B d v→Dns cm B es ys→Q v (upd H a (.lst ys)))→r (.ref a) [u] H Q) :
 MJ cm (KR cm .F) E ms (tBM K "list" r t (ai4 te tNil)) (lst1 get set f me):=by
 intro B U As σ H ρ Q R P
 unfold lst1 at P
 cases e:get ρ with
 | none=>rw [e] at P; exact P.elim
 | some d0 =>
   cases d0 with
   | lst ds =>
     rw [e] at P
     replace P:Mo cm (KR cm .F) E ms B U σ (lstR set f ρ ds (me ρ)) Q:=P
     obtain ⟨v,A,ht,w,hA,cl⟩:=p.rd R e
     obtain ⟨a,xs,rfl,h1,rfl,h2⟩:=w.lst rfl
     refine ht _ ⟨.inl ⟨rfl,xs,SqL.of h1⟩,he B U As σ H ρ _ R ?_⟩
     cases em:me ρ with
     | ok x =>
       rw [em] at P
       replace P:Mo cm (KR cm .F) E ms B U σ (lstK set ρ (f ds x)) Q:=P
       intro u B1 U1 H1 N R1 g1 n1 hu
       cases ef:f ds x with
       | none=>rw [ef] at P; exact P.elim
       | some de =>
         obtain ⟨d,es⟩:=de
         rw [ef] at P
         refine hr B1 U1 H1 a ds xs x u d es Q R1.bu R1.uh (g1.h _ _ h1) (h2.mono g1.b) hu ef fun v ys hv hy=>?_
         exact P v B1 U1 As _ [] (cl B1 U1 H1 R1 g1.b g1.h a List.mem_cons_self _ _ (Ow.lst' ac4 hy)) g1.toEx NewM.nil hv
     | exc c=>rw [em] at P; exact fun B1 U1 H1 R1 g1=>P B1 U1 As H1 R1 g1.toEx
     | bad=>rw [em] at P; exact P.elim
   | _=>rw [e] at P; exact P.elim
noncomputable def appF (xs:List D) (x:D):Option (D×List D):=if xs.length < aa7 then some (.non,xs ++ [x]) else none
theorem aZ4 {te:TE} {me:Env→Res D} (p:Pth cm ms t get set) (he:PJ cm (KR cm .F) E ms te me):MJ cm (KR cm .F) E ms (tBM K "list" aR2 t (ai4 te tNil)) (lst1 get set appF me) :=
 ce4 (f:=appF) p he fun B U H a ds xs x u d es Q _ _ h1 h2 hu ef k=>by
  unfold appF at ef
  by_cases z:ds.length < aa7
  · rw [if_pos z] at ef
    cases ef
    exact ⟨a,xs,u,rfl,rfl,h1,am1 (Nat.le_of_lt (by rw [← h2.len]; exact z)),k .non _ (by rw [Dn]) (h2.append (Dns.one hu))⟩
  · rw [if_neg z] at ef
    cases ef
noncomputable def popF (xs:List D) (x:D):Option (D×List D):=match x with
 | .int i=>if 0≤i∧i < xs.length∧xs.length≤aa7 then xs[i.toNat]?.map fun d=>(d,xs.eraseIdx i.toNat) else none
 | _=>none
theorem ce3 {te:TE} {me:Env→Res D} (p:Pth cm ms t get set) (he:PJ cm (KR cm .X) E ms te me):MJ cm (KR cm .F) E ms (tBM K "list" bN1 t (ai4 te tNil)) (lst1 get set popF me) :=
 ce4 (f:=popF) p he fun B U H a ds xs x u d es Q _ _ h1 h2 hu ef k=>by
  cases x with
  | int i =>
    have hu:Dn cm H (.int i) u:=hu
    rw [Dn] at hu
    subst hu
    replace ef:(if 0≤i∧i < ds.length∧ds.length≤aa7 then ds[i.toNat]?.map fun d=>(d,ds.eraseIdx i.toNat) else none)=some (d,es):=ef
    by_cases z:0≤i∧i < ds.length∧ds.length≤aa7
    · rw [if_pos z] at ef
      obtain ⟨y,ey,e2⟩:=Option.map_eq_some_iff.mp ef
      cases e2
      obtain ⟨w,hw,dw⟩:=h2.get ey
      obtain ⟨z1,z2,z3⟩:=z
      unfold aa7 at z3
      refine ⟨a,xs,i,i.toNat,w,rfl,rfl,h1,by omega,by omega,?_,hw,k w _ dw (h2.erase _)⟩
      refine (aS4 ?_).1
      unfold ixN
      rw [if_pos z1,if_pos (by rw [← h2.len]; exact z2)]
    · rw [if_neg z] at ef
      cases ef
  | _=>cases ef
noncomputable def by7 (i:Nat) (x:D) (ρ:Env):Out D:=match rg ρ i with
 | some (.lst xs)=>lstK (aC5 i) ρ (appF xs x)
 | _=> .bad
noncomputable def appM (i:Nat) (me:Env→Out D):Env→Out D:=fun ρ=>match rg ρ i with
 | some (.lst _)=>(me ρ).bind (by7 i)
 | _=> .bad
theorem bo5 {i:Nat} {te:TE} {me:Env→Out D} (hm:ms.getD i .F= .O (.ct .fz)) (he:MJ cm (KR cm .F) E ms te me):MJ cm (KR cm .F) E ms (tBM K "list" aR2 (tVar i) (ai4 te tNil)) (appM i me):=by
 intro B U As σ H ρ Q R P
 unfold appM at P
 cases e:rg ρ i with
 | none=>rw [e] at P; exact P.elim
 | some d0 =>
   cases d0 with
   | lst ds =>
     rw [e] at P
     replace P:Mo cm (KR cm .F) E ms B U σ ((me ρ).bind (by7 i)) Q:=P
     have l:=R.lo i
     rw [e,hm] at l
     obtain ⟨v,hv,w⟩:=l
     obtain ⟨a,xs,rfl,h1,_,h2⟩:=Ow.lst w rfl
     refine ⟨.ref a,am9 hv,.inl ⟨rfl,xs,SqL.of h1⟩,he.bnd R P fun x ρ' u B1 U1 As1 H1 N R1 e1 n1 hu P1=>?_⟩
     have l1:=R1.lo i
     unfold by7 at P1
     cases e2:rg ρ' i with
     | none=>rw [e2] at P1; exact P1.elim
     | some d2 =>
       cases d2 with
       | lst ds2 =>
         rw [e2] at P1
         rw [e2,hm,hv] at l1
         have w1:=ar2 l1 rfl
         obtain ⟨a',xs2,ea,h3,h4,h5⟩:=Ow.lst w1 rfl
         cases ea
         replace P1:Mo cm (KR cm .F) E ms B1 U1 σ (lstK (aC5 i) ρ' (appF ds2 x)) Q:=P1
         unfold appF at P1
         by_cases z:ds2.length < aa7
         · rw [if_pos z] at P1
           refine ⟨a,xs2,u,rfl,rfl,h3,am1 (Nat.le_of_lt (by rw [← h5.len]; exact z)),?_⟩
           refine P1 .non B1 U1 As1 _ [] (R1.mut hm hv e2 (by rw [h4]; exact List.mem_cons_self) ?_) (Ex.refl _ _) NewM.nil (show Dn cm B1 .non .non by rw [Dn])
           rw [h4]
           exact Ow.lst' ac4 (h5.append (Dns.one hu))
         · rw [if_neg z] at P1
           exact P1.elim
       | _=>rw [e2] at P1; exact P1.elim
   | _=>rw [e] at P; exact P.elim
end
end
section
variable {cm:Cm} {E:XK} {Kr:KT D V} {pr:Nat→Bool} {ms:List Md} {B U H:Hp} {As:Nat→List Addr} {σ:St} {ρ:Env} {K:PySem.W.Frag}
noncomputable def br2 (set:Env→D→Env) (x d:D) (ρ:Env):Res D→SO
 | .ok k=>(match br3 d k x with | some d'=> .nx (set ρ d') | none=> .bad)
 | .exc c=> .exc c ρ
 | .bad=> .bad
noncomputable def br1 (get:Env→Option D) (set:Env→D→Env) (mk:Env→Res D) (mv:Env→Out D):Env→SO:=fun ρ=>ax3 (mv ρ) fun x ρ1=>match get ρ1 with
 | some d=>br2 set x d ρ1 (mk ρ1)
 | none=> .bad
section
variable {κ:Type} [DecidableEq κ]
theorem aI9 {kvs:List (κ×V)} {k:κ}:(kvs.any fun kv=>decide (kv.1=k))=hasK (kvs.map (·.1)) k:=by
 unfold hasK
 rw [List.any_map]
 rfl
theorem aY2 {kvs:List (κ×V)} {k:κ} {v:V} (h:hasK (kvs.map (·.1)) k=true):(putK kvs k v).map (·.1)=kvs.map (·.1):=by
 unfold putK
 rw [aI9,if_pos h,List.map_map]
 refine List.map_congr_left fun p _=>?_
 show (if p.1=k then (p.1,v) else p).1=p.1
 split <;> rfl
theorem aj9 {kvs:List (κ×V)} {k:κ} {v:V} (h:¬ hasK (kvs.map (·.1)) k=true):putK kvs k v=kvs ++ [(k,v)]:=by
 unfold putK
 rw [aI9,if_neg h]
theorem aF8 {G:Hp} {x:D} {v:V} {k:κ} (hx:Dn cm G x v):∀ {kvs:List (κ×V)} {ds:List D},Dns cm G ds (kvs.map (·.2))→Dns cm G (putV (kvs.map (·.1)) ds k x) ((kvs.map fun kv=>if kv.1=k then (kv.1,v) else kv).map (·.2))
 | [],ds,h=>by cases ds <;> exact (by rw [List.map_nil,List.map_nil,List.map_nil]; unfold putV; rw [Dns])
 | p :: kvs,ds,h=>by
   cases ds with
   | nil=>rw [Dns] at h; cases h
   | cons d ds =>
     rw [List.map_cons,Dns] at h
     obtain ⟨y,r,e,h1,h2⟩:=h
     cases e
     rw [List.map_cons,List.map_cons,List.map_cons,putV,Dns]
     refine ⟨_,_,rfl,?_,aF8 hx h2⟩
     by_cases q:p.1=k
     · rw [if_pos q,if_pos q]; exact hx
     · rw [if_neg q,if_neg q]; exact h1
end
theorem Ow.dT {d:D} {v:V} {A:List Addr} {ks:List (List Key)} {ds:List D} (w:Ow cm B H d (.ct .fz) v A) (e:d= .dT ks ds):∃ (a:Addr) (kvs:List (List Key×V)),v= .ref a∧H a=some (.dT kvs)∧kvs.map (·.1)=ks∧A=[a]∧Dns cm B ds (kvs.map (·.2)):=by
 subst e
 rw [Ow] at w
 obtain ⟨a,xs,A',r,h1,h2,h3,h4⟩:=w
 obtain ⟨h5,h6⟩:=Ows.fz h4
 exact ⟨a,xs,r,h1,h2,by rw [h3,h6],h5⟩
theorem Ow.dK {d:D} {v:V} {A:List Addr} {ks:List Key} {ds:List D} (w:Ow cm B H d (.ct .fz) v A) (e:d= .dK ks ds):∃ (a:Addr) (kvs:List (Key×V)),v= .ref a∧H a=some (.dK kvs)∧kvs.map (·.1)=ks∧A=[a]∧Dns cm B ds (kvs.map (·.2)):=by
 subst e
 rw [Ow] at w
 obtain ⟨a,xs,A',r,h1,h2,h3,h4⟩:=w
 obtain ⟨h5,h6⟩:=Ows.fz h4
 exact ⟨a,xs,r,h1,h2,by rw [h3,h6],h5⟩
theorem Ow.dT' {a:Addr} {kvs:List (List Key×V)} {ds:List D} (h:H a=some (.dT kvs)) (d:Dns cm B ds (kvs.map (·.2))):Ow cm B H (.dT (kvs.map (·.1)) ds) (.ct .fz) (.ref a) [a]:=by
 rw [Ow]
 exact ⟨a,kvs,[],rfl,h,rfl,rfl,Ows.of d⟩
theorem Ow.dK' {a:Addr} {kvs:List (Key×V)} {ds:List D} (h:H a=some (.dK kvs)) (d:Dns cm B ds (kvs.map (·.2))):Ow cm B H (.dK (kvs.map (·.1)) ds) (.ct .fz) (.ref a) [a]:=by
 rw [Ow]
 exact ⟨a,kvs,[],rfl,h,rfl,rfl,Ows.of d⟩
theorem cg7 {d k x d':D} {v u w:V} {A:List Addr} (hw:Ow cm B H d (.ct .fz) v A) (hk:Dn cm H k u) (hx:Dn cm B x w) (e:br3 d k x=some d'):∃ a o',v= .ref a∧a∈A∧DPut H a u w (upd H a o')∧Ow cm B (upd H a o') d' (.ct .fz) v A:=by
 cases d with
 | dT ks vs =>
   obtain ⟨a,kvs,rfl,h1,h2,rfl,h3⟩:=hw.dT rfl
   cases k with
   | tup kd =>
     replace e:((am4 kd).bind fun k=>if ks.length < aa7 then some (if hasK ks k=true then D.dT ks (putV ks vs k x) else .dT (ks ++ [k]) (vs ++ [x])) else none)=some d':=e
     obtain ⟨kk,ek,e⟩:=Option.bind_eq_some_iff.mp e
     rw [Dn] at hk
     obtain ⟨b,xs,rfl,h4,h5⟩:=hk
     have ex:=as9 ek h5
     subst ex
     by_cases z:ks.length < aa7
     · rw [if_pos z] at e
       cases e
       have hl:kvs.length < sizeLine:=am1 (Nat.le_of_lt (by rw [← h2,List.length_map] at z; exact z))
       refine ⟨a,_,rfl,List.mem_cons_self,DPut.t h1 h4 hl,?_⟩
       subst h2
       by_cases q:hasK (kvs.map (·.1)) kk=true
       · rw [if_pos q]
         have hp:putK kvs kk w=kvs.map fun kv=>if kv.1=kk then (kv.1,w) else kv:=by unfold putK; rw [aI9,if_pos q]
         have:=Ow.dT' (cm:=cm) (B:=B) (H:=upd H a (.dT (putK kvs kk w))) (ds:=putV (kvs.map (·.1)) vs kk x) ac4 (by rw [hp]; exact aF8 hx h3)
         rw [aY2 q] at this
         exact this
       · rw [if_neg q]
         have:=Ow.dT' (cm:=cm) (B:=B) (H:=upd H a (.dT (putK kvs kk w))) (ds:=vs ++ [x]) ac4 (by rw [aj9 q,List.map_append]; exact h3.append (Dns.one hx))
         rw [aj9 q,List.map_append] at this
         rw [aj9 q]
         exact this
     · rw [if_neg z] at e
       cases e
   | _=>cases e
 | dK ks vs =>
   obtain ⟨a,kvs,rfl,h1,h2,rfl,h3⟩:=hw.dK rfl
   replace e:((ai1 k).bind fun k=>if ks.length < aa7 then some (if hasK ks k=true then D.dK ks (putV ks vs k x) else .dK (ks ++ [k]) (vs ++ [x])) else none)=some d':=by cases k <;> exact e
   obtain ⟨kk,ek,e⟩:=Option.bind_eq_some_iff.mp e
   have ex:=aZ9 ek hk
   subst ex
   by_cases z:ks.length < aa7
   · rw [if_pos z] at e
     cases e
     have hl:kvs.length < sizeLine:=am1 (Nat.le_of_lt (by rw [← h2,List.length_map] at z; exact z))
     refine ⟨a,_,rfl,List.mem_cons_self,DPut.k h1 hl,?_⟩
     subst h2
     by_cases q:hasK (kvs.map (·.1)) kk=true
     · rw [if_pos q]
       have hp:putK kvs kk w=kvs.map fun kv=>if kv.1=kk then (kv.1,w) else kv:=by unfold putK; rw [aI9,if_pos q]
       have:=Ow.dK' (cm:=cm) (B:=B) (H:=upd H a (.dK (putK kvs kk w))) (ds:=putV (kvs.map (·.1)) vs kk x) ac4 (by rw [hp]; exact aF8 hx h3)
       rw [aY2 q] at this
       exact this
     · rw [if_neg q]
       have:=Ow.dK' (cm:=cm) (B:=B) (H:=upd H a (.dK (putK kvs kk w))) (ds:=vs ++ [x]) ac4 (by rw [aj9 q,List.map_append]; exact h3.append (Dns.one hx))
       rw [aj9 q,List.map_append] at this
       rw [aj9 q]
       exact this
   · rw [if_neg z] at e
     cases e
 | _=>cases k <;> cases e
section
variable {t:TE} {get:Env→Option D} {set:Env→D→Env} {tk tv:TE} {mk:Env→Res D} {mv:Env→Out D}
theorem bk0 (p:Pth cm ms t get set) (hk:PJ cm (KR cm .X) E ms tk mk) (hv:MJ cm (KR cm .F) E ms tv mv):SJ cm E Kr pr ms (cn2 t tk tv) (br1 get set mk mv):=by
 intro B U As σ H ρ D R P
 refine hv.bndS R P fun x ρ1 w B1 U1 As1 H1 N R1 e1 n1 hx P1=>?_
 cases e:get ρ1 with
 | none=>rw [e] at P1; exact P1.elim
 | some d =>
   rw [e] at P1
   replace P1:So cm E Kr pr ms B1 U1 σ (br2 set x d ρ1 (mk ρ1)) D:=P1
   obtain ⟨v,A,ht,ow,hA,cl⟩:=p.rd R1 e
   refine ht _ (hk B1 U1 As1 σ H1 ρ1 _ R1 ?_)
   cases em:mk ρ1 with
   | ok k =>
     rw [em] at P1
     replace P1:So cm E Kr pr ms B1 U1 σ (match br3 d k x with | some d'=> .nx (set ρ1 d') | none=> .bad) D:=P1
     intro u B2 U2 H2 N2 R2 g2 n2 hu
     cases ed:br3 d k x with
     | none=>rw [ed] at P1; exact P1.elim
     | some d' =>
       rw [ed] at P1
       have ow2:Ow cm B2 H2 d (.ct .fz) v A:=Ow.mono g2.b (fun a ha=>by
        obtain ⟨o,ho⟩:=Ow.at ow ha
        rw [ho,g2.h _ _ ho]) ow
       obtain ⟨a,o',ea,ha,dp,ow3⟩:=cg7 ow2 hu (Dn.mono g2.b hx) ed
       exact ⟨a,_,ea,dp,P1 σ B2 U2 As1 _ (cl B2 U2 H2 R2 g2.b g2.h a ha o' d' ow3) g2.toEx (Kp.refl _ _)⟩
   | exc c=>rw [em] at P1; exact fun B2 U2 H2 R2 g2=>P1 σ B2 U2 As1 H2 R2 g2.toEx (Kp.refl _ _)
   | bad=>rw [em] at P1; exact P1.elim
noncomputable def ce6 (set:Env→D→Env) (x:D) (xs:List D) (ρ:Env):Res D→SO
 | .ok (.int i)=>(match ixN xs.length i with | some j=> .nx (set ρ (.lst (xs.set j x))) | none=> .bad)
 | .ok _=> .bad
 | .exc c=> .exc c ρ
 | .bad=> .bad
noncomputable def bF1 (get:Env→Option D) (set:Env→D→Env) (mk:Env→Res D) (mv:Env→Out D):Env→SO:=fun ρ=>ax3 (mv ρ) fun x ρ1=>match get ρ1 with
 | some (.lst xs)=>ce6 set x xs ρ1 (mk ρ1)
 | _=> .bad
theorem bK3 (p:Pth cm ms t get set) (hk:PJ cm (KR cm .X) E ms tk mk) (hv:MJ cm (KR cm .F) E ms tv mv):SJ cm E Kr pr ms (tAsg tv (gSub t tk cn4)) (bF1 get set mk mv):=by
 intro B U As σ H ρ D R P
 refine hv.bndS R P fun x ρ1 w B1 U1 As1 H1 N R1 e1 n1 hx P1=>?_
 cases e:get ρ1 with
 | none=>rw [e] at P1; exact P1.elim
 | some d =>
   cases d with
   | lst xs =>
     rw [e] at P1
     replace P1:So cm E Kr pr ms B1 U1 σ (ce6 set x xs ρ1 (mk ρ1)) D:=P1
     obtain ⟨v,A,ht,ow,hA,cl⟩:=p.rd R1 e
     obtain ⟨a,vs,rfl,h1,rfl,h2⟩:=ow.lst rfl
     refine ht _ (hk B1 U1 As1 σ H1 ρ1 _ R1 ?_)
     cases em:mk ρ1 with
     | ok k =>
       rw [em] at P1
       intro u B2 U2 H2 N2 R2 g2 n2 hu
       cases k with
       | int i =>
         replace P1:So cm E Kr pr ms B1 U1 σ (match ixN xs.length i with | some j=> .nx (set ρ1 (.lst (xs.set j x))) | none=> .bad) D:=P1
         have hu:Dn cm H2 (.int i) u:=hu
         rw [Dn] at hu
         cases ed:ixN xs.length i with
         | none=>rw [ed] at P1; exact P1.elim
         | some j =>
           rw [ed] at P1
           refine ⟨a,vs,i,j,rfl,hu,g2.h _ _ h1,by rw [← h2.len]; exact ed,?_⟩
           exact P1 σ B2 U2 As1 _ (cl B2 U2 H2 R2 g2.b g2.h a List.mem_cons_self _ _ (Ow.lst' ac4 (Dns.set (Dn.mono g2.b hx) j (h2.mono g2.b)))) g2.toEx (Kp.refl _ _)
       | _=>exact P1.elim
     | exc c=>rw [em] at P1; exact fun B2 U2 H2 R2 g2=>P1 σ B2 U2 As1 H2 R2 g2.toEx (Kp.refl _ _)
     | bad=>rw [em] at P1; exact P1.elim
   | _=>rw [e] at P1; exact P1.elim
end
theorem aK8 {f:Str} {y:V}:∀ {fs:List (Str×V)},(putF f y fs).map (·.1)=if hasK (fs.map (·.1)) f=true then fs.map (·.1) else fs.map (·.1) ++ [f]
 | []=>rfl
 | p :: fs=>by
   obtain ⟨g,z⟩:=p
   unfold putF hasK
   rw [List.map_cons,List.any_cons]
   by_cases q:g=f
   · rw [if_pos q,decide_eq_true q,Bool.true_or,if_pos rfl,List.map_cons]
   · rw [if_neg q,decide_eq_false q,Bool.false_or,List.map_cons,aK8]
     unfold hasK
     split
     · rfl
     · rw [List.cons_append]
theorem Owf.put {sh:List (Str×Sh)} {f:Str} {x:D} {y:V} {N:List Addr} (hx:Ow cm B H x ((sh.lookup f).getD .fz) y N) (hN:N.Nodup):∀ {fs:List (Str×V)} {ds:List D} {A:List Addr},Owf cm B H ds (fs.map (·.1)) sh (fs.map (·.2)) A→A.Nodup→(∀ a∈N,a∉A) →
 ∃ A2,Owf cm B H (if hasK (fs.map (·.1)) f=true then aq7 (fs.map (·.1)) ds f x else ds ++ [x]) ((putF f y fs).map (·.1)) sh ((putF f y fs).map (·.2)) A2∧A2.Nodup∧∀ a∈A2,a∈A∨a∈N
 | [],ds,A,h,nd,hd=>by
   cases ds with
   | nil =>
     refine ⟨N,?_,hN,fun a ha=> .inr ha⟩
     show Owf cm B H [x] [f] sh [y] N
     rw [Owf]
     exact ⟨f,[],y,[],N,[],rfl,rfl,by rw [List.append_nil],hx,by rw [Owf]; exact ⟨rfl,rfl⟩⟩
   | cons d ds =>
     rw [Owf] at h
     obtain ⟨_,_,_,_,_,_,e,_⟩:=h
     cases e
 | p :: fs,ds,A,h,nd,hd=>by
   obtain ⟨g,z⟩:=p
   cases ds with
   | nil =>
     rw [Owf] at h
     cases h.1
   | cons d ds =>
     rw [List.map_cons,List.map_cons,Owf] at h
     obtain ⟨n,ns',u,r,X1,X2,hn,h0,h1,h2,h3⟩:=h
     cases hn
     cases h0
     subst h1
     obtain ⟨nd1,nd2,nd3⟩:=List.nodup_append.mp nd
     unfold putF
     by_cases q:g=f
     · have hk:hasK (((g,z) :: fs).map (·.1)) f=true:=by
        unfold hasK
        rw [List.map_cons,List.any_cons,decide_eq_true q,Bool.true_or]
       rw [if_pos q,hk,if_pos rfl,List.map_cons,aq7,if_pos q,List.map_cons,List.map_cons]
       refine ⟨N ++ X2,?_,List.nodup_append.mpr ⟨hN,nd2,fun a ha b hb e=>hd a ha (List.mem_append_right _ (e ▸ hb))⟩,fun a ha=>?_⟩
       · rw [Owf]
         exact ⟨g,_,y,_,N,X2,rfl,rfl,rfl,by rw [q]; exact hx,h3⟩
       · rcases List.mem_append.mp ha with z | z
         · exact .inr z
         · exact .inl (List.mem_append_right _ z)
     · obtain ⟨A2,w,nda,hA⟩:=Owf.put hx hN h3 nd2 (fun a ha hb=>hd a ha (List.mem_append_right _ hb))
       have hk:hasK (((g,z) :: fs).map (·.1)) f=hasK (fs.map (·.1)) f:=by
        unfold hasK
        rw [List.map_cons,List.any_cons,decide_eq_false q,Bool.false_or]
       rw [if_neg q,hk,List.map_cons,List.map_cons,List.map_cons,aq7,if_neg q]
       have dis:∀ a∈X1,∀ b∈A2,a≠b:=fun a ha b hb e=>by
        rcases hA b hb with z | z
        · exact nd3 a ha b z e
        · exact hd b z (List.mem_append_left _ (e ▸ ha))
       refine ⟨X1 ++ A2,?_,List.nodup_append.mpr ⟨nd1,nda,dis⟩,fun a ha=>?_⟩
       · have:(if hasK (fs.map (·.1)) f=true then d :: aq7 (fs.map (·.1)) ds f x else (d :: ds) ++ [x])=d :: (if hasK (fs.map (·.1)) f=true then aq7 (fs.map (·.1)) ds f x else ds ++ [x]):=by split <;> rfl
         rw [this,Owf]
         exact ⟨g,_,z,_,X1,A2,rfl,rfl,rfl,h2,w⟩
       · rcases List.mem_append.mp ha with z | z
         · exact .inl (List.mem_append_left _ z)
         · rcases hA a z with z | z
           · exact .inl (List.mem_append_right _ z)
           · exact .inr z
noncomputable def fldS (c:Nat) (f:Str) (i:Nat) (me:Env→Out D):Env→SO:=fun ρ=>ax3 (me ρ) fun x ρ1=>match rg ρ1 i with
 | some d=>(match bC6 c f x d with | some d'=> .nx (ρ1.set i (some d')) | none=> .bad)
 | none=> .bad
theorem cm9 {K':KT D V} {c:Nat} {f:Str} {i:Nat} {sh:List (Str×Sh)} {te:TE} {me:Env→Out D} (hc:Cls K (cm c)) (hn:NoAttr K (cm c) f) (hm:ms.getD i .F= .O (.ob sh)) (he:MJ cm K' E ms te me)
 (hk:∀ B U H d v N,K' d v B U H N→∃ N',(N'=[]∨N'=N)∧Ow cm B H d ((sh.lookup f).getD .fz) v N'):SJ cm E Kr pr ms (sFld K (tVar i) te f) (fldS c f i me):=by
 intro B U As σ H ρ D R P
 refine he.bndS R P fun x ρ1 y B1 U1 As1 H1 N R1 e1 n1 hx P1=>?_
 obtain ⟨N',hN,ow⟩:=hk _ _ _ _ _ _ hx
 have n2:NewM N' U1 As1:=by
  rcases hN with e | e
  · subst e; exact NewM.nil
  · subst e; exact n1
 have l:=R1.lo i
 cases e:rg ρ1 i with
 | none=>rw [e] at P1; exact P1.elim
 | some d =>
   rw [e] at P1
   replace P1:So cm E Kr pr ms B1 U1 σ (match bC6 c f x d with | some d'=> .nx (ρ1.set i (some d')) | none=> .bad) D:=P1
   rw [e,hm] at l
   obtain ⟨v,hv,w⟩:=l
   cases d with
   | obj c' ns vs =>
     have ep:bC6 c f x (.obj c' ns vs)=if c'=c∧ns.length < 900 then some (if hasK ns f=true then .obj c' ns (aq7 ns vs f x) else .obj c' (ns ++ [f]) (vs ++ [x])) else none:=rfl
     rw [ep] at P1
     by_cases q:c'=c∧ns.length < 900
     · rw [if_pos q] at P1
       obtain ⟨q1,q2⟩:=q
       subst q1
       have w:Ow cm B1 H1 (.obj c' ns vs) (.ob sh) v (As1 i):=w
       rw [Ow] at w
       obtain ⟨a,dx,fs,A',rfl,h1,h2,h3,h4⟩:=w
       subst h2
       have nd:=R1.nd i
       rw [h3] at nd
       obtain ⟨nd1,nd2⟩:=List.nodup_cons.mp nd
       have hai:a∈As1 i:=by rw [h3]; exact List.mem_cons_self
       obtain ⟨A2,w2,nda,hA⟩:=Owf.put ow n2.nd h4 nd2 (fun b hb hb2=>n2.ap b hb i (by rw [h3]; exact List.mem_cons_of_mem _ hb2))
       have haA:a∉A2:=fun z=>by
        rcases hA a z with z | z
        · exact nd1 z
        · exact n2.ap a z i hai
       refine ⟨.ref a,am9 hv,a,_,dx,fs,rfl,h1,hc,hn,by rw [List.length_map] at q2; omega,?_⟩
       have w3:Ow cm B1 (upd H1 a (.ins (cm c') dx (putF f y fs))) (if hasK (fs.map (·.1)) f=true then .obj c' (fs.map (·.1)) (aq7 (fs.map (·.1)) vs f x) else .obj c' (fs.map (·.1) ++ [f]) (vs ++ [x])) (.ob sh) (.ref a) (a :: A2):=by
        have w4:=Owf.mono (H':=upd H1 a (.ins (cm c') dx (putF f y fs))) (Same.refl B1) (fun b hb=>ac3 (fun z:b=a=>haA (z ▸ hb))) w2
        have ek:=aK8 (f:=f) (y:=y) (fs:=fs)
        by_cases k:hasK (fs.map (·.1)) f=true
        · rw [if_pos k] at ek w4 ⊢
          rw [Ow]
          rw [ek] at w4
          exact ⟨a,dx,_,A2,rfl,ac4,ek,rfl,w4⟩
        · rw [if_neg k] at ek w4 ⊢
          rw [Ow]
          rw [ek] at w4
          exact ⟨a,dx,_,A2,rfl,ac4,ek,rfl,w4⟩
       have hi:i < ρ1.length:=(List.getElem?_eq_some_iff.mp (am9 e)).1
       refine P1 σ B1 U1 (fun j=>if j=i then a :: A2 else As1 j) _ ⟨R1.bu,fun b u z=>?_,fun j=>?_,fun j k b hne hb hk=>?_,fun j b hb=>?_,fun j=>?_,by rw [List.length_set]; exact R1.len,R1.tb⟩ (Ex.refl _ _) (Kp.refl _ _)
       · rw [ac3 (ac7 z (R1.un i a hai))]
         exact R1.uh b u z
       · show (if j=i then a :: A2 else As1 j).Nodup
         split
         · exact List.nodup_cons.mpr ⟨haA,nda⟩
         · exact R1.nd j
       · replace hb:b∈(if j=i then a :: A2 else As1 j):=hb
         replace hk:b∈(if k=i then a :: A2 else As1 k):=hk
         have key:∀ {j},j≠i→b∈a :: A2→b∈As1 j→False:=fun {j} hj hb2 hb3=>by
          rcases List.mem_cons.mp hb2 with z | z
          · exact R1.dj i j b (Ne.symm hj) (by rw [z]; exact hai) hb3
          · rcases hA b z with z | z
            · exact R1.dj i j b (Ne.symm hj) (by rw [h3]; exact List.mem_cons_of_mem _ z) hb3
            · exact n2.ap b z j hb3
         split at hb
         · rename_i z1
           split at hk
           · rename_i z2; exact hne (z1.trans z2.symm)
           · rename_i z2; exact key z2 hb hk
         · rename_i z1
           split at hk
           · exact key z1 hk hb
           · exact R1.dj j k b hne hb hk
       · replace hb:b∈(if j=i then a :: A2 else As1 j):=hb
         split at hb
         · rcases List.mem_cons.mp hb with z | z
           · rw [z]; exact R1.un i a hai
           · rcases hA b z with z | z
             · exact R1.un i b (by rw [h3]; exact List.mem_cons_of_mem _ z)
             · exact n2.un b z
         · exact R1.un j b hb
       · rw [au6]
         show Lo cm B1 U1 _ (ms.getD j .F) _ _ (if j=i then a :: A2 else As1 j)
         by_cases z:i=j
         · subst z
           rw [if_pos ⟨rfl,hi⟩,if_pos rfl,hm]
           exact ⟨.ref a,hv,w3⟩
         · rw [if_neg fun y=>z y.1,if_neg fun y=>z y.symm]
           exact (R1.lo j).mono (Same.refl _) (Same.refl _) fun b hb=>ac3 (fun y:b=a=>R1.dj i j a z hai (y ▸ hb))
     · rw [if_neg q] at P1
       exact P1.elim
   | _=>exact P1.elim
theorem cm8 {c:Nat} {f:Str} {i:Nat} {sh:List (Str×Sh)} {te:TE} {me:Env→Out D} (hc:Cls K (cm c)) (hn:NoAttr K (cm c) f) (hm:ms.getD i .F= .O (.ob sh)) (hf:(sh.lookup f).getD .fz= .fz) (he:MJ cm (KR cm .F) E ms te me):SJ cm E Kr pr ms (sFld K (tVar i) te f) (fldS c f i me) :=
 cm9 hc hn hm he fun B U H d v N k=>⟨[],.inl rfl,by rw [hf,Ow]; exact ⟨k,rfl⟩⟩
theorem aX9 {c:Nat} {f:Str} {i:Nat} {sh:List (Str×Sh)} {s:Sh} {te:TE} {me:Env→Out D} (hc:Cls K (cm c)) (hn:NoAttr K (cm c) f) (hm:ms.getD i .F= .O (.ob sh)) (hf:(sh.lookup f).getD .fz=s) (he:MJ cm (KO cm s) E ms te me):SJ cm E Kr pr ms (sFld K (tVar i) te f) (fldS c f i me) :=
 cm9 hc hn hm he fun B U H d v N k=>⟨N,.inr rfl,by rw [hf]; exact k⟩
noncomputable def spZ (cm:Cm) (ms:List Md) (Kr:KT D V) (fm:List D→Out D):Sp:=fun vs H Q _=>spM cm ms Kr fm vs H Q E0
noncomputable def prO (ms:List Md) (np:Nat):Nat→Bool:=fun j=>decide (j < np) && (match ms.getD j .F with | .O _=>true | _=>false)
theorem bk7 {α:Type} {l:List (Option α)} {n i:Nat}:rg (l ++ List.replicate n none) i=rg l i:=by
 unfold rg
 by_cases h:i < l.length
 · rw [List.getElem?_append_left h]
 · rw [List.getElem?_append_right (by omega),List.getElem?_eq_none (show l.length≤i by omega)]
   by_cases h2:i - l.length < n
   · rw [List.getElem?_replicate,if_pos h2]; rfl
   · rw [List.getElem?_replicate,if_neg h2]
noncomputable def runO (k:Nat) (body:Env→SO) (ds:List D):Out D:=match body (ds.map some ++ List.replicate (k - ds.length) none) with
 | .rt d ρ=> .ok d ρ
 | .exc c ρ=> .exc c ρ
 | _=> .bad
theorem Rel.enter {more:List Md} {vs:List V} {ds:List D} {n:Nat} (R:Rel cm ms B U As (vs.map some) H (ds.map some)) (hl:vs.length=ms.length):Rel cm (ms ++ more) B U As (vs.map some ++ List.replicate n none) H (ds.map some ++ List.replicate n none):=by
 have hd:ds.length=vs.length:=by have:=R.len; rw [List.length_map,List.length_map] at this; exact this
 refine ⟨R.bu,R.uh,R.nd,R.dj,R.un,fun i=>?_,by rw [List.length_append,List.length_append,R.len,List.length_replicate,List.length_replicate],R.tb⟩
 rw [bk7,bk7]
 have l:=R.lo i
 by_cases h:i < ms.length
 · rw [List.getD_eq_getElem?_getD,List.getElem?_append_left h,← List.getD_eq_getElem?_getD]
   exact l
 · have:rg (ds.map some) i=none:=by rw [aj6,List.getElem?_eq_none (by omega)]
   rw [this] at l ⊢
   exact l
theorem Rel.leave {more:List Md} {vs:List V} {σ':St} {ρ':Env} {n:Nat} (hl:vs.length=ms.length) (R:Rel cm (ms ++ more) B U As σ' H ρ') (k:Kp (prO ms ms.length) (vs.map some ++ List.replicate n none) σ') :
 ∃ As',Rel cm ms B U As' (vs.map some) H (ar3 ms ρ')∧∀ N,NewM N U As→NewM N U As':=by
 refine ⟨fun i=>if prO ms ms.length i=true then As i else [],⟨R.bu,R.uh,fun i=>?_,fun i j a hne ha hb=>?_,fun i a ha=>?_,fun i=>?_,?_,R.tb⟩,fun N n=>⟨n.nd,n.un,fun a ha i=>?_⟩⟩
 · show (if prO ms ms.length i=true then As i else []).Nodup
   split
   · exact R.nd i
   · exact List.nodup_nil
 · replace ha:a∈(if prO ms ms.length i=true then As i else []):=ha
   replace hb:a∈(if prO ms ms.length j=true then As j else []):=hb
   split at ha
   · split at hb
     · exact R.dj i j a hne ha hb
     · cases hb
   · cases ha
 · replace ha:a∈(if prO ms ms.length i=true then As i else []):=ha
   split at ha
   · exact R.un i a ha
   · cases ha
 · show Lo cm B U H (ms.getD i .F) (rg (ar3 ms ρ') i) (rg (vs.map some) i) (if prO ms ms.length i=true then As i else [])
   by_cases hi:i < ms.length
   · have eg:(ms ++ more).getD i .F=ms.getD i .F:=by
      rw [List.getD_eq_getElem?_getD,List.getElem?_append_left hi,← List.getD_eq_getElem?_getD]
     cases em:ms.getD i .F with
     | O s =>
       have hp:prO ms ms.length i=true:=by unfold prO; rw [em,decide_eq_true hi]; rfl
       rw [if_pos hp,az0 em]
       have l:=R.lo i
       rw [eg,em,k i hp,bk7] at l
       exact l
     | F =>
       have hp:prO ms ms.length i=false:=by unfold prO; rw [em]; simp
       have hk:rg (ar3 ms ρ') i=none:=by
        unfold ar3 rg
        rw [List.getElem?_map,List.getElem?_range hi]
        show (some (match ms.getD i .F with | .O _=>_ | _=>none)).join=none
        rw [em]; rfl
       rw [hp,hk]
       exact rfl
     | R =>
       have hp:prO ms ms.length i=false:=by unfold prO; rw [em]; simp
       have hk:rg (ar3 ms ρ') i=none:=by
        unfold ar3 rg
        rw [List.getElem?_map,List.getElem?_range hi]
        show (some (match ms.getD i .F with | .O _=>_ | _=>none)).join=none
        rw [em]; rfl
       rw [hp,hk]
       exact rfl
   · have hp:prO ms ms.length i=false:=by unfold prO; rw [decide_eq_false hi]; rfl
     have hk:rg (ar3 ms ρ') i=none:=by
      unfold ar3 rg
      rw [List.getElem?_eq_none (by rw [List.length_map,List.length_range]; omega)]
      rfl
     rw [hp,hk]
     exact rfl
 · unfold ar3
   rw [List.length_map,List.length_map,List.length_range,hl]
 · show a∉(if prO ms ms.length i=true then As i else [])
   split
   · exact n.ap a ha i
   · simp
theorem ad0 {more:List Md} {t:TS} {body:Env→SO} {N:List Str} {vs:List V} {Q:VK} {fm:List D→Out D} (hb:SJ cm E0 Kr (prO ms ms.length) (ms ++ more) t body) (hN:N.length=ms.length + more.length) (hfm:fm=run N.length body) (hr:∀ B U H,Kr .non .non B U H [])
 (h:spM cm ms Kr fm vs H Q E0):t { nx:=fun _ H'=>Q .non H',rt:=Q } (L2.av6 N vs) H:=by
 obtain ⟨B,U,As,ds,R,hl,P⟩:=h
 subst hfm
 have hd:ds.length=vs.length:=by have:=R.len; rw [List.length_map,List.length_map] at this; exact this
 unfold L2.av6
 refine hb B U As _ H (ds.map some ++ List.replicate (N.length - vs.length) none) _ (R.enter hl) ?_
 unfold run at P
 rw [hd] at P
 cases e:body (ds.map some ++ List.replicate (N.length - vs.length) none) with
 | nx ρ' =>
   rw [e] at P
   intro σ' B' U' As' H' R' e' k'
   obtain ⟨As2,R2,n2⟩:=R'.leave hl k'
   exact P .non B' U' As2 H' [] R2 e' NewM.nil (hr _ _ _)
 | rt d ρ' =>
   rw [e] at P
   intro v σ' B' U' As' H' N' R' e' k' n' kr
   obtain ⟨As2,R2,n2⟩:=R'.leave hl k'
   exact P v B' U' As2 H' N' R2 e' (n2 _ n') kr
 | exc c ρ' =>
   rw [e] at P
   intro σ' B' U' As' H' R' e' k' oa
   obtain ⟨As2,R2,n2⟩:=R'.leave hl k'
   exact P B' U' As2 H' R2 e' oa
 | bk ρ'=>rw [e] at P; exact P.elim
 | ct ρ'=>rw [e] at P; exact P.elim
 | bad=>rw [e] at P; exact P.elim
theorem ai5 {more:List Md} {t:TS} {body:Env→SO} {N:List Str} {vs:List V} {Q:VK} {fm:List D→Out D} (hb:SJ cm E0 Kr (prO ms ms.length) (ms ++ more) t body) (hN:N.length=ms.length + more.length) (hfm:fm=runO N.length body)
 (h:spM cm ms Kr fm vs H Q E0):t { nx:=fun _ H'=>Q .non H',rt:=Q } (L2.av6 N vs) H:=by
 obtain ⟨B,U,As,ds,R,hl,P⟩:=h
 subst hfm
 have hd:ds.length=vs.length:=by have:=R.len; rw [List.length_map,List.length_map] at this; exact this
 unfold L2.av6
 refine hb B U As _ H (ds.map some ++ List.replicate (N.length - vs.length) none) _ (R.enter hl) ?_
 unfold runO at P
 rw [hd] at P
 cases e:body (ds.map some ++ List.replicate (N.length - vs.length) none) with
 | nx ρ'=>rw [e] at P; exact P.elim
 | rt d ρ' =>
   rw [e] at P
   intro v σ' B' U' As' H' N' R' e' k' n' kr
   obtain ⟨As2,R2,n2⟩:=R'.leave hl k'
   exact P v B' U' As2 H' N' R2 e' (n2 _ n') kr
 | exc c ρ' =>
   rw [e] at P
   intro σ' B' U' As' H' R' e' k' oa
   obtain ⟨As2,R2,n2⟩:=R'.leave hl k'
   exact P B' U' As2 H' R2 e' oa
 | bk ρ'=>rw [e] at P; exact P.elim
 | ct ρ'=>rw [e] at P; exact P.elim
 | bad=>rw [e] at P; exact P.elim
theorem ab4 {vs:List V} {Q:VK} {fm:List D→Out D} (h:spM cm ms Kr fm vs H Q E):vs.length=ms.length:=by
 obtain ⟨_,_,_,_,_,hl,_⟩:=h
 exact hl
end
end Mi
namespace Mi
open PySem PySem.Spec L2
mutual
noncomputable def toPy:D→Option PyData
 | .non=>some .none
 | .bl b=>some (.bool b)
 | .int i=>some (.int i)
 | .str x=>some (.str x)
 | .lst xs=>(toPys xs).map .list
 | .scr xs=>(toPys xs).map .list
 | .tup xs=>(toPys xs).map .tuple
 | .ty _=>none
 | .dK _ _=>none
 | .dT _ _=>none
 | .obj _ _ _=>none
noncomputable def toPys:List D→Option (List PyData)
 | []=>some []
 | d :: r=>match toPy d,toPys r with
   | some p,some q=>some (p :: q)
   | _,_=>none
end
section
variable {cm:Cm} {E:XK} {Kr:KT D V} {pr:Nat→Bool} {ms:List Md} {B U H:Hp} {As:Nat→List Addr} {σ:St} {ρ:Env} {K:PySem.W.Frag}
mutual
theorem den_of:∀ {d:D} {p:PyData} {v:V},toPy d=some p→Dn cm H d v→L2.Den cm.K H p v
 | .non,p,v,e,h=>by rw [Dn] at h; cases e; rw [L2.Den]; exact h
 | .bl _,p,v,e,h=>by rw [Dn] at h; cases e; rw [L2.Den]; exact h
 | .int _,p,v,e,h=>by rw [Dn] at h; cases e; rw [L2.Den]; exact h
 | .str _,p,v,e,h=>by rw [Dn] at h; cases e; rw [L2.Den]; exact h
 | .lst xs,p,v,e,h=>by
   rw [Dn] at h
   obtain ⟨a,ys,rfl,h1,h2⟩:=h
   rw [toPy] at e
   obtain ⟨ps,e1,rfl⟩:=Option.map_eq_some_iff.mp e
   rw [L2.Den]
   exact ⟨a,ys,rfl,SqL.of h1,dens_of e1 h2⟩
 | .scr xs,p,v,e,h=>by
   rw [Dn] at h
   obtain ⟨a,ys,rfl,h1,h2⟩:=h
   rw [toPy] at e
   obtain ⟨ps,e1,rfl⟩:=Option.map_eq_some_iff.mp e
   rw [L2.Den]
   exact ⟨a,ys,rfl,h1.sq,dens_of e1 h2⟩
 | .tup xs,p,v,e,h=>by
   rw [Dn] at h
   obtain ⟨a,ys,rfl,h1,h2⟩:=h
   rw [toPy] at e
   obtain ⟨ps,e1,rfl⟩:=Option.map_eq_some_iff.mp e
   rw [L2.Den]
   exact ⟨a,ys,rfl,SqT.of h1,dens_of e1 h2⟩
 | .ty _,p,v,e,h=>by cases e
 | .dK _ _,p,v,e,h=>by cases e
 | .dT _ _,p,v,e,h=>by cases e
 | .obj _ _ _,p,v,e,h=>by cases e
theorem dens_of:∀ {ds:List D} {ps:List PyData} {xs:List V},toPys ds=some ps→Dns cm H ds xs→L2.Dens cm.K H ps xs
 | [],ps,xs,e,h=>by rw [Dns] at h; rw [toPys] at e; cases e; rw [L2.Dens]; exact h
 | d :: ds,ps,xs,e,h=>by
   rw [Dns] at h
   obtain ⟨x,r,rfl,h1,h2⟩:=h
   rw [toPys] at e
   cases e1:toPy d with
   | none=>rw [e1] at e; cases e
   | some p =>
     cases e2:toPys ds with
     | none=>rw [e1,e2] at e; cases e
     | some q =>
       rw [e1,e2] at e
       cases e
       rw [L2.Dens]
       exact ⟨x,r,rfl,den_of e1 h1,dens_of e2 h2⟩
end
noncomputable def eqD (neg:Bool) (x y:D):Res D:=match toPy x,toPy y with
 | some p,some q=>if SeqAt.shaped p=true∧SeqAt.shaped q=true then .ok (.bl (neg.xor (PyData.eqv p q))) else .bad
 | _,_=> .bad
theorem bj9 {neg:Bool}:S2 cm (rEqD cm.K neg) (eqD neg):=by
 intro H x y v u hx hy
 unfold eqD
 cases e1:toPy x with
 | none=>trivial
 | some p =>
   cases e2:toPy y with
   | none=>trivial
   | some q =>
     dsimp only
     by_cases z:SeqAt.shaped p=true∧SeqAt.shaped q=true
     · rw [if_pos z]
       refine ⟨.bl _,fun _=>by rw [Dn],fun Q h=>⟨p,q,den_of e1 hx,den_of e2 hy,z.1,z.2,?_⟩⟩
       cases neg <;> simpa using h
     · rw [if_neg z]; trivial
noncomputable def inD (x y:D):Res D:=match toPy x,toPy y with
 | some p,some (.list xs)=>if SeqAt.shaped p=true∧SeqAt.shaped (.list xs)=true∧(xs.all fun z=>SeqAt.noMix z p)=true then .ok (.bl (decide (countIn p xs≠0))) else .bad
 | _,_=> .bad
theorem cm7:S2 cm (fun x y H Q=>∃ d xs,L2.Den cm.K H d x∧L2.Den cm.K H (.list xs) y∧SeqAt.shaped d=true∧SeqAt.shaped (.list xs)=true∧(∀ z∈xs,SeqAt.noMix z d=true)∧Q (.bl (decide (countIn d xs≠0))) H) inD:=by
 intro H x y v u hx hy
 unfold inD
 cases e1:toPy x with
 | none=>trivial
 | some p =>
   cases e2:toPy y with
   | none=>trivial
   | some q =>
     cases q with
     | list xs =>
       dsimp only
       by_cases z:SeqAt.shaped p=true∧SeqAt.shaped (.list xs)=true∧(xs.all fun z=>SeqAt.noMix z p)=true
       · rw [if_pos z]
         exact ⟨.bl _,fun _=>by rw [Dn],fun Q h=>⟨p,xs,den_of e1 hx,den_of e2 hy,z.1,z.2.1,fun y hy=>List.all_eq_true.mp z.2.2 y hy,h⟩⟩
       · rw [if_neg z]; trivial
     | _=>trivial
noncomputable def bg9:D→Option String
 | .non=>some "NoneType" | .bl _=>some "bool" | .int _=>some "int" | .str _=>some "str" | .lst _=>some "list" | .tup _=>some "tuple" | .dK _ _=>some "dict" | .dT _ _=>some "dict"
 | .ty _=>none | .obj _ _ _=>none | .scr _=>none
noncomputable def kit (t n:String):Option Bool:=PySem.W.kitOne [] (.type t) (.type n)
noncomputable def isT (x y:D):Res D:=match y,bg9 x with
 | .ty n,some t=>(match kit t n with | some b=> .ok (.bl b) | none=> .bad)
 | _,_=> .bad
theorem bg8 {d:D} {v:V} {t:String} (e:bg9 d=some t) (h:Dn cm H d v):TyOf K H v (.type t):=by
 cases d with
 | non=>rw [Dn] at h; cases e; subst h; exact .non
 | bl b=>rw [Dn] at h; cases e; subst h; exact .bl b
 | int i=>rw [Dn] at h; cases e; subst h; exact .int i
 | str x=>rw [Dn] at h; cases e; subst h; exact .str x
 | lst _=>rw [Dn] at h; cases e; obtain ⟨a,xs,rfl,h1,_⟩:=h; exact .lst h1
 | scr _=>cases e
 | tup _=>rw [Dn] at h; cases e; obtain ⟨a,xs,rfl,h1,_⟩:=h; exact .tup h1
 | dK _ _=>rw [Dn] at h; cases e; obtain ⟨a,xs,rfl,h1,_⟩:=h; exact .dK h1
 | dT _ _=>rw [Dn] at h; cases e; obtain ⟨a,xs,rfl,h1,_⟩:=h; exact .dT h1
 | ty _=>cases e
 | obj _ _ _=>cases e
theorem bj8:S2 cm (fun v u H Q=>∃ x c t b,[v,u]=[x,.ty c]∧TyOf K H x t∧PySem.W.kitOne K t (.type c)=some b∧Q (.bl b) H) isT:=by
 intro H x y v u hx hy
 unfold isT
 cases y with
 | ty n =>
   cases e:bg9 x with
   | none=>trivial
   | some t =>
     dsimp only
     cases e2:kit t n with
     | none=>trivial
     | some b =>
       rw [Dn] at hy
       subst hy
       exact ⟨.bl b,fun _=>by rw [Dn],fun Q h=>⟨v,n,_,b,rfl,bg8 e hx,e2,h⟩⟩
 | _=>trivial
noncomputable def mvS (i:Nat):Env→Out D:=fun ρ=>match rg ρ i with | some d=> .ok d (ρ.set i none) | none=> .bad
theorem Rel.take (R:Rel cm ms B U As σ H ρ) (i:Nat):Rel cm ms B U (fun j=>if j=i then [] else As j) σ H (ρ.set i none)∧∀ a∈As i,U a=none∧∀ j,a∉(fun j=>if j=i then [] else As j) j:=by
 refine ⟨⟨R.bu,R.uh,fun j=>?_,fun j k a hne ha hb=>?_,fun j a ha=>?_,fun j=>?_,by rw [List.length_set]; exact R.len,R.tb⟩,fun a ha=>⟨R.un i a ha,fun j hj=>?_⟩⟩
 · show (if j=i then [] else As j).Nodup
   split
   · exact List.nodup_nil
   · exact R.nd j
 · replace ha:a∈(if j=i then [] else As j):=ha
   replace hb:a∈(if k=i then [] else As k):=hb
   split at ha
   · cases ha
   · split at hb
     · cases hb
     · exact R.dj j k a hne ha hb
 · replace ha:a∈(if j=i then [] else As j):=ha
   split at ha
   · cases ha
   · exact R.un j a ha
 · show Lo cm B U H (ms.getD j .F) (rg (ρ.set i none) j) (rg σ j) (if j=i then [] else As j)
   rw [au6]
   by_cases e:i=j
   · subst e
     rw [if_pos rfl]
     by_cases h:i < ρ.length
     · rw [if_pos ⟨rfl,h⟩]; exact rfl
     · rw [if_neg fun z=>h z.2]
       have:rg ρ i=none:=by unfold rg; rw [List.getElem?_eq_none (by omega)]; rfl
       rw [this]; exact rfl
   · rw [if_neg fun z=>e z.1,if_neg fun z=>e z.symm]
     exact R.lo j
 · replace hj:a∈(if j=i then [] else As j):=hj
   split at hj
   · cases hj
   · rename_i z; exact R.dj i j a (fun q=>z q.symm) ha hj
theorem m_mv {i:Nat} {s:Sh} (hm:ms.getD i .F= .O s):MJ cm (KO cm s) E ms (tVar i) (mvS i):=by
 intro B U As σ H ρ Q R P
 unfold mvS at P
 have l:=R.lo i
 cases e:rg ρ i with
 | none=>rw [e] at P; exact P.elim
 | some d =>
   rw [e] at P
   rw [e,hm] at l
   obtain ⟨v,hv,w⟩:=l
   obtain ⟨R2,h2⟩:=R.take i
   exact ⟨v,am9 hv,P v B U _ H (As i) R2 (Ex.refl _ _) ⟨R.nd i,fun a ha=>(h2 a ha).1,fun a ha=>(h2 a ha).2⟩ w⟩
noncomputable def ad5:D→Bool | .int _=>true | .bl _=>true | .non=>true | .str _=>true | _=>false
noncomputable def be3:D→Bool
 | .lst xs=>xs.all ad5
 | .scr xs=>xs.all ad5
 | .tup xs=>xs.all ad5
 | .dK _ xs=>xs.all ad5
 | .dT _ xs=>xs.all ad5
 | .obj _ _ xs=>xs.all ad5
 | d=>ad5 d
noncomputable def chkS (m:Env→Res D):Env→Res D:=fun ρ=>(m ρ).bind fun d=>if be3 d=true then .ok d else .bad
theorem al1 {G G':Hp} {d:D} {v:V} (h:ad5 d=true) (q:Dn cm G d v):Dn cm G' d v:=by
 cases d with
 | int _=>rw [Dn] at q ⊢; exact q
 | bl _=>rw [Dn] at q ⊢; exact q
 | non=>rw [Dn] at q ⊢; exact q
 | str _=>rw [Dn] at q ⊢; exact q
 | _=>cases h
theorem al0 {G G':Hp}:∀ {ds:List D} {xs:List V},ds.all ad5=true→Dns cm G ds xs→Dns cm G' ds xs
 | [],_,_,q=>by rw [Dns] at q ⊢; exact q
 | d :: ds,_,h,q=>by
   rw [List.all_cons,Bool.and_eq_true] at h
   rw [Dns] at q ⊢
   obtain ⟨x,r,e,h1,h2⟩:=q
   exact ⟨x,r,e,al1 h.1 h1,al0 h.2 h2⟩
theorem cS {k k':Kd} {t:TE} {m:Env→Res D} (h:PJ cm (KC cm k) E ms t m):PJ cm (KC cm k') E ms t (chkS m):=by
 intro B U As σ H ρ Q R P
 refine h.bnd R P fun x v B1 U1 H1 N1 _ R1 e1 n1 d1 P1=>?_
 by_cases z:be3 x=true
 · rw [if_pos z] at P1
   refine P1 v B1 U1 H1 [] R1 (Gw.refl _ _ _) New.nil ?_
   cases x with
   | lst ds=>obtain ⟨a,xs,r,h1,h2⟩:=d1; exact ⟨a,xs,r,h1,al0 z h2⟩
   | scr ds=>obtain ⟨a,xs,r,h1,h2⟩:=d1; exact ⟨a,xs,r,h1,al0 z h2⟩
   | tup ds=>obtain ⟨a,xs,r,h1,h2⟩:=d1; exact ⟨a,xs,r,h1,al0 z h2⟩
   | dK ks ds=>obtain ⟨a,xs,r,h1,h2,h3⟩:=d1; exact ⟨a,xs,r,h1,h2,al0 z h3⟩
   | dT ks ds=>obtain ⟨a,xs,r,h1,h2,h3⟩:=d1; exact ⟨a,xs,r,h1,h2,al0 z h3⟩
   | obj c ns ds=>obtain ⟨a,dx,xs,r,h1,h2,h3⟩:=d1; exact ⟨a,dx,xs,r,h1,h2,al0 z h3⟩
   | int _=>exact al1 (G:=hp k B1 U1 H1) z d1
   | bl _=>exact al1 (G:=hp k B1 U1 H1) z d1
   | non=>exact al1 (G:=hp k B1 U1 H1) z d1
   | str _=>exact al1 (G:=hp k B1 U1 H1) z d1
   | ty _=>cases z
 · rw [if_neg z] at P1
   exact P1.elim
theorem rS {k:Kd} {t:TE} {m:Env→Res D} (h:PJ cm (KR cm .X) E ms t m):PJ cm (KR cm .F) E ms t (fun ρ=>(m ρ).bind fun d=>if ad5 d=true then .ok d else .bad):=by
 intro B U As σ H ρ Q R P
 refine h.bnd R P fun x v B1 U1 H1 N1 _ R1 e1 n1 d1 P1=>?_
 by_cases z:ad5 x=true
 · rw [if_pos z] at P1
   exact P1 v B1 U1 H1 [] R1 (Gw.refl _ _ _) New.nil (al1 z d1)
 · rw [if_neg z] at P1
   exact P1.elim
noncomputable def ae4:List D→Option (List Int)
 | []=>some []
 | .int i :: r=>(ae4 r).map (i :: ·)
 | _ :: _=>none
theorem ah0 {G:Hp}:∀ {ds:List D} {ns:List Int} {xs:List V},ae4 ds=some ns→Dns cm G ds xs→xs=ns.map V.int
 | [],ns,xs,e,h=>by rw [Dns] at h; cases e; rw [h]; rfl
 | d :: ds,ns,xs,e,h=>by
   rw [Dns] at h
   obtain ⟨x,r,rfl,h1,h2⟩:=h
   cases d with
   | int i =>
     rw [ae4] at e
     obtain ⟨ms,e1,rfl⟩:=Option.map_eq_some_iff.mp e
     rw [Dn] at h1
     rw [ah0 e1 h2,h1,List.map_cons]
   | _=>cases e
noncomputable def ag4:List Int→Int→Int
 | [],m=>m
 | x :: r,m=>ag4 r (if x < m then x else m)
noncomputable def an3:List Int→Int→Int
 | [],m=>m
 | x :: r,m=>an3 r (if m < x then x else m)
theorem ap7:∀ (l:List Int) (m:Int),(ag4 l m=m∨ag4 l m∈l)∧ag4 l m≤m∧∀ x∈l,ag4 l m≤x
 | [],m=>⟨.inl rfl,Int.le_refl _,fun _ h=>(nomatch h)⟩
 | x :: r,m=>by
   unfold ag4
   obtain ⟨h1,h2,h3⟩:=ap7 r (if x < m then x else m)
   refine ⟨?_,?_,fun y hy=>?_⟩
   · rcases h1 with h1 | h1
     · by_cases z:x < m
       · rw [if_pos z] at h1 ⊢; exact .inr (by rw [h1]; exact List.mem_cons_self)
       · rw [if_neg z] at h1 ⊢; exact .inl h1
     · exact .inr (List.mem_cons_of_mem _ h1)
   · split at h2 <;> split <;> omega
   · rcases List.mem_cons.mp hy with z | z
     · subst z; split at h2 <;> split <;> omega
     · exact h3 y z
theorem as6:∀ (l:List Int) (m:Int),(an3 l m=m∨an3 l m∈l)∧m≤an3 l m∧∀ x∈l,x≤an3 l m
 | [],m=>⟨.inl rfl,Int.le_refl _,fun _ h=>(nomatch h)⟩
 | x :: r,m=>by
   unfold an3
   obtain ⟨h1,h2,h3⟩:=as6 r (if m < x then x else m)
   refine ⟨?_,?_,fun y hy=>?_⟩
   · rcases h1 with h1 | h1
     · by_cases z:m < x
       · rw [if_pos z] at h1 ⊢; exact .inr (by rw [h1]; exact List.mem_cons_self)
       · rw [if_neg z] at h1 ⊢; exact .inl h1
     · exact .inr (List.mem_cons_of_mem _ h1)
   · split at h2 <;> split <;> omega
   · rcases List.mem_cons.mp hy with z | z
     · subst z; split at h2 <;> split <;> omega
     · exact h3 y z
noncomputable def extD (f:List Int→Int→Int) (x d:D):Res D:=match x with
 | .lst ds=>(match ae4 ds with | some []=>(if ad5 d=true then .ok d else .bad) | some (n :: ns)=> .ok (.int (f ns n)) | none=> .bad)
 | _=> .bad
theorem co3 {ta td:TE} {ma md:Env→Res D} (ha:PJ cm (KR cm .X) E ms ta ma) (hd:PJ cm (KR cm .X) E ms td md) :
 PJ cm (KR cm .F) E ms (tCBK (fun xs zs H Q=>∃ p ns d,xs=[.ref p]∧zs=[d]∧SqL K H p (ns.map V.int)∧(ns=[]→Q d H)∧∀ m∈ns,(∀ x∈ns,m≤x)→Q (.int m) H) (ai4 ta tNil) (ai4 td tNil)) (bn (extD ag4) ma md):=by
 intro B U As σ H ρ Q R P
 refine ha.bnd R P fun x v B1 U1 H1 N1 _ R1 e1 n1 d1 P1=>hd.bnd R1 P1 fun y u B2 U2 H2 N2 _ R2 e2 n2 d2 P2=>?_
 have d1:Dn cm H1 x v:=d1
 cases x with
 | lst ds =>
   rw [Dn] at d1
   obtain ⟨a,xs,rfl,h1,h2⟩:=d1
   replace P2:Po cm (KR cm .F) E ms B2 U2 As σ H2 ρ (match ae4 ds with | some []=>(if ad5 y=true then .ok y else .bad) | some (n :: ns)=> .ok (.int (ag4 ns n)) | none=> .bad) Q:=P2
   cases ei:ae4 ds with
   | none=>rw [ei] at P2; exact P2.elim
   | some ns =>
     have ex:=ah0 ei h2
     subst ex
     cases ns with
     | nil =>
       rw [ei] at P2
       replace P2:Po cm (KR cm .F) E ms B2 U2 As σ H2 ρ (if ad5 y=true then .ok y else .bad) Q:=P2
       by_cases z:ad5 y=true
       · rw [if_pos z] at P2
         exact ⟨a,[],u,rfl,rfl,SqL.of (e2.h _ _ h1),fun _=>P2 u B2 U2 H2 [] R2 (Gw.refl _ _ _) New.nil (al1 z d2),fun m hm=>(nomatch hm)⟩
       · rw [if_neg z] at P2; exact P2.elim
     | cons n ns =>
       rw [ei] at P2
       refine ⟨a,n :: ns,u,rfl,rfl,SqL.of (e2.h _ _ h1),(fun z=>by cases z),fun m hm hle=>?_⟩
       obtain ⟨s1,s2,s3⟩:=ap7 ns n
       have em:m=ag4 ns n:=by
        have l1:ag4 ns n∈n :: ns:=by
         rcases s1 with z | z
         · rw [z]; exact List.mem_cons_self
         · exact List.mem_cons_of_mem _ z
        have l2:=hle _ l1
        rcases List.mem_cons.mp hm with z | z
        · rw [z] at l2 ⊢; omega
        · have:=s3 m z; omega
       rw [em]
       exact P2 _ B2 U2 H2 [] R2 (Gw.refl _ _ _) New.nil (show Dn cm _ (.int (ag4 ns n)) _ by rw [Dn])
 | _=>exact P2.elim
theorem co4 {ta td:TE} {ma md:Env→Res D} (ha:PJ cm (KR cm .X) E ms ta ma) (hd:PJ cm (KR cm .X) E ms td md) :
 PJ cm (KR cm .F) E ms (tCBK (fun xs zs H Q=>∃ p ns d,xs=[.ref p]∧zs=[d]∧SqL K H p (ns.map V.int)∧(ns=[]→Q d H)∧∀ m∈ns,(∀ x∈ns,x≤m)→Q (.int m) H) (ai4 ta tNil) (ai4 td tNil)) (bn (extD an3) ma md):=by
 intro B U As σ H ρ Q R P
 refine ha.bnd R P fun x v B1 U1 H1 N1 _ R1 e1 n1 d1 P1=>hd.bnd R1 P1 fun y u B2 U2 H2 N2 _ R2 e2 n2 d2 P2=>?_
 have d1:Dn cm H1 x v:=d1
 cases x with
 | lst ds =>
   rw [Dn] at d1
   obtain ⟨a,xs,rfl,h1,h2⟩:=d1
   replace P2:Po cm (KR cm .F) E ms B2 U2 As σ H2 ρ (match ae4 ds with | some []=>(if ad5 y=true then .ok y else .bad) | some (n :: ns)=> .ok (.int (an3 ns n)) | none=> .bad) Q:=P2
   cases ei:ae4 ds with
   | none=>rw [ei] at P2; exact P2.elim
   | some ns =>
     have ex:=ah0 ei h2
     subst ex
     cases ns with
     | nil =>
       rw [ei] at P2
       replace P2:Po cm (KR cm .F) E ms B2 U2 As σ H2 ρ (if ad5 y=true then .ok y else .bad) Q:=P2
       by_cases z:ad5 y=true
       · rw [if_pos z] at P2
         exact ⟨a,[],u,rfl,rfl,SqL.of (e2.h _ _ h1),fun _=>P2 u B2 U2 H2 [] R2 (Gw.refl _ _ _) New.nil (al1 z d2),fun m hm=>(nomatch hm)⟩
       · rw [if_neg z] at P2; exact P2.elim
     | cons n ns =>
       rw [ei] at P2
       refine ⟨a,n :: ns,u,rfl,rfl,SqL.of (e2.h _ _ h1),(fun z=>by cases z),fun m hm hle=>?_⟩
       obtain ⟨s1,s2,s3⟩:=as6 ns n
       have em:m=an3 ns n:=by
        have l1:an3 ns n∈n :: ns:=by
         rcases s1 with z | z
         · rw [z]; exact List.mem_cons_self
         · exact List.mem_cons_of_mem _ z
        have l2:=hle _ l1
        rcases List.mem_cons.mp hm with z | z
        · rw [z] at l2 ⊢; omega
        · have:=s3 m z; omega
       rw [em]
       exact P2 _ B2 U2 H2 [] R2 (Gw.refl _ _ _) New.nil (show Dn cm _ (.int (an3 ns n)) _ by rw [Dn])
 | _=>exact P2.elim
noncomputable def aM2:D→Res D
 | .lst ds=>(match ae4 ds with | some ns=>(if ns.length < 4000 then .ok (.int (dd ns).length) else .bad) | none=> .bad)
 | _=> .bad
theorem bD2 {ta:TE} {ma:Env→Res D} (ha:PJ cm (KR cm .X) E ms ta ma):PJ cm (KR cm .F) E ms
 (tCB (fun xs H Q=>∃ a S n,xs=[.ref a]∧H a=some (.set S n)∧Q (.int n) H) (ai4 (tCB (fun xs H Q=>∃ p ns,xs=[.ref p]∧SqL K H p (ns.map V.int)∧ns.length < 4000∧∀ q,H q=none→Q (.ref q) (upd H q (.set (fun k=>(dd ns).any (· == k)) (dd ns).length))) (ai4 ta tNil)) tNil)) (un aM2 ma):=by
 intro B U As σ H ρ Q R P
 refine ha.bnd R P fun x v B1 U1 H1 N1 _ R1 e1 n1 d1 P1=>?_
 have d1:Dn cm H1 x v:=d1
 cases x with
 | lst ds =>
   rw [Dn] at d1
   obtain ⟨a,xs,rfl,h1,h2⟩:=d1
   replace P1:Po cm (KR cm .F) E ms B1 U1 As σ H1 ρ (match ae4 ds with | some ns=>(if ns.length < 4000 then .ok (.int (dd ns).length) else .bad) | none=> .bad) Q:=P1
   cases ei:ae4 ds with
   | none=>rw [ei] at P1; exact P1.elim
   | some ns =>
     have ex:=ah0 ei h2
     subst ex
     rw [ei] at P1
     replace P1:Po cm (KR cm .F) E ms B1 U1 As σ H1 ρ (if ns.length < 4000 then .ok (.int (dd ns).length) else .bad) Q:=P1
     by_cases z:ns.length < 4000
     · rw [if_pos z] at P1
       exact ⟨a,ns,rfl,SqL.of h1,z,fun q hq=>⟨q,_,_,rfl,ac4,P1 _ B1 U1 _ [] (R1.new hq) (Gw.newO R1 hq) New.nil (show Dn cm _ (.int _) _ by rw [Dn])⟩⟩
     · rw [if_neg z] at P1; exact P1.elim
 | _=>exact P1.elim
noncomputable def keyP:D→Option (Int×Int×List Int)
 | .tup [.int a,.int b,.lst xs]=>(ae4 xs).map fun ns=>(a,b,ns)
 | _=>none
theorem bo8 {x:D} {a b:Int} {ns:List Int} (h:keyP x=some (a,b,ns)):∃ xs,x= .tup [.int a,.int b,.lst xs]∧ae4 xs=some ns:=by
 unfold keyP at h
 split at h
 · obtain ⟨ms,e,e2⟩:=Option.map_eq_some_iff.mp h
   cases e2
   exact ⟨_,rfl,e⟩
 · cases h
theorem ay9 {x:D} {v:V} {a b:Int} {ns:List Int} (e:keyP x=some (a,b,ns)) (hx:Dn cm H x v):∃ p l,v= .ref p∧SqT K H p [.int a,.int b,.ref l]∧SqL K H l (ns.map V.int):=by
 obtain ⟨xs,rfl,e9⟩:=bo8 e
 rw [Dn] at hx
 obtain ⟨p,ys,rfl,h1,h2⟩:=hx
 rw [Dns] at h2
 obtain ⟨x1,r1,rfl,d1,h3⟩:=h2
 rw [Dns] at h3
 obtain ⟨x2,r2,rfl,d2,h4⟩:=h3
 rw [Dns] at h4
 obtain ⟨x3,r3,rfl,d3,h5⟩:=h4
 rw [Dns] at h5
 rw [Dn] at d1; rw [Dn] at d2; rw [Dn] at d3
 obtain ⟨l,zs,rfl,h6,h7⟩:=d3
 subst d1 d2 h5
 rw [ah0 e9 h7] at h6
 exact ⟨p,l,rfl,SqT.of h1,SqL.of h6⟩
noncomputable def ninD (x y:D):Res D:=match toPy x,toPy y with
 | some p,some (.list xs)=>if SeqAt.shaped p=true∧SeqAt.shaped (.list xs)=true∧(xs.all fun z=>SeqAt.noMix z p)=true then .ok (.bl (!decide (countIn p xs≠0))) else .bad
 | _,_=> .bad
theorem hu65 {A:Around} {k:Nat} (hr:Room k A):A.units + 65 < cLine:=by have:=hr.un; omega
end
end Mi
namespace Mi
open PySem L2
noncomputable def aC9:List Ap→List Md→Bool
 | [],[]=>true
 | p :: ps,m :: r=>fits [] true p m && aC9 ps r
 | _,_=>false
theorem ak2:∀ {ps:List Ap} {mc:List Md},aC9 ps mc=true→ps.length=mc.length
 | [],[],_=>rfl
 | [],_ :: _,h=>by cases h
 | _ :: _,[],h=>by cases h
 | p :: ps,m :: r,h=>by
   have h:(fits [] true p m && aC9 ps r)=true:=h
   rw [Bool.and_eq_true] at h
   rw [List.length_cons,List.length_cons,ak2 h.2]
theorem ak3 {ms:List Md}:∀ {ps:List Ap} {mc:List Md},aC9 ps mc=true→∀ (j:Nat) p,ps[j]?=some p→fits ms true p (mc.getD j .F)=true
 | [],_,_,_,_,e=>by cases e
 | _ :: _,[],h,_,_,_=>by cases h
 | p :: ps,m :: r,h,j,q,e=>by
   have h:(fits [] true p m && aC9 ps r)=true:=h
   rw [Bool.and_eq_true] at h
   cases j with
   | zero =>
     cases e
     have:=h.1
     cases p <;> cases m <;> first | exact this | cases this
   | succ j=>rw [List.getD_cons_succ]; exact ak3 h.2 j q (by simpa using e)
noncomputable def pc (fm:List D→Out D) (a:Env→Res (List D)):Env→Res D:=fun ρ=>(a ρ).bind (au1 fm)
noncomputable def pm (c:Nat) (mn:Str) (fm:List D→Out D) (o:Env→Res D) (a:Env→Res (List D)):Env→Res D:=fun ρ=>(o ρ).bind fun o=>if ak1 c mn o=true then (a ρ).bind fun ds=>au1 fm (o :: ds) else .bad
noncomputable def pk (c:Nat) (fm:List D→Out D) (a:Env→Res (List D)):Env→Res D:=fun ρ=>(a ρ).bind (aL7 c fm)
noncomputable def mc (ps:List Ap) (fm:List D→Out D) (a:Env→Res (List D)):Env→Out D:=fun ρ=>((a ρ).up ρ).bind (aw0 ps fm)
noncomputable def mm (c:Nat) (mn:Str) (ps:List Ap) (fm:List D→Out D) (o:Env→Res D) (a:Env→Res (List D)):Env→Out D:=fun ρ=>((o ρ).up ρ).bind fun o ρ=>if ak1 c mn o=true then ((a ρ).up ρ).bind fun ds ρ=>aw0 ps fm (o :: ds) ρ else .bad
section
variable {cm:Cm} {Kr:KT D V} {pr:Nat→Bool} {ms:List Md} {K:PySem.W.Frag}
theorem KR.u {d:D} {v:V} {B U U' H:Hp} {N:List Addr} (h:KR cm .F d v B U H N):KR cm .F d v B U' H N:=h
theorem KO.u {s:Sh} {d:D} {v:V} {B U U' H:Hp} {N:List Addr} (h:KO cm s d v B U H N):KO cm s d v B U' H N:=h
theorem an2 {msC:List Md} {fm:List D→Out D} {ps:List Ap} {t:TA} {m:Env→Res (List D)} (h:AJ cm E0 ms ps t m) (hf:aC9 ps msC=true):PJ cm (KR cm .F) E0 ms (bz8 (spZ cm msC (KR cm .F) fm) [] E0 t) (pc fm m) :=
 bO0 h (ak2 hf) (ak3 hf) fun _ _ _ _ _ _ _ h=>h
theorem ao9 {s:Sh} {msC:List Md} {fm:List D→Out D} {ps:List Ap} {t:TA} {m:Env→Res (List D)} (h:AJ cm E0 ms ps t m) (hf:aC9 ps msC=true):PJ cm (KO cm s) E0 ms (bz8 (spZ cm msC (KO cm s) fm) [] E0 t) (pc fm m) :=
 bO0 h (ak2 hf) (ak3 hf) fun _ _ _ _ _ _ _ h=>h
theorem ao8 {c:Nat} {mn:Str} {msC:List Md} {fm:List D→Out D} {p:Ap} {ps:List Ap} {ta:TE} {ma:Env→Res D} {t:TA} {m:Env→Res (List D)} (ha:A1J cm E0 ms p ta ma) (h:AJ cm E0 ms ps t m) (hf:aC9 (p :: ps) msC=true) :
 PJ cm (KR cm .F) E0 ms (aO7 (cm c) mn (spZ cm msC (KR cm .F) fm) [] E0 ta t) (pm c mn fm ma m):=bN8 ha h (ak2 hf) (ak3 hf) fun _ _ _ _ _ _ _ h=>h
theorem bm1 {s:Sh} {c:Nat} {mn:Str} {msC:List Md} {fm:List D→Out D} {p:Ap} {ps:List Ap} {ta:TE} {ma:Env→Res D} {t:TA} {m:Env→Res (List D)} (ha:A1J cm E0 ms p ta ma) (h:AJ cm E0 ms ps t m) (hf:aC9 (p :: ps) msC=true) :
 PJ cm (KO cm s) E0 ms (aO7 (cm c) mn (spZ cm msC (KO cm s) fm) [] E0 ta t) (pm c mn fm ma m):=bN8 ha h (ak2 hf) (ak3 hf) fun _ _ _ _ _ _ _ h=>h
theorem pmake {c:Nat} {sh:List (Str×Sh)} {msC:List Md} {fm:List D→Out D} {ps:List Ap} {t:TA} {m:Env→Res (List D)} (h:AJ cm E0 ms ps t m) (hf:aC9 ps msC=true) :
 PJ cm (KO cm (.ob sh)) E0 ms (bQ5 (cm c) (spZ cm (.O (.ob sh) :: msC) (KR cm .F) fm) [] E0 t) (pk c fm m) :=
 co5 h (by rw [List.length_cons,ak2 hf]) rfl fun j p e=>by rw [List.getD_cons_succ]; exact ak3 hf j p e
theorem cb5 {c:Nat} {mn:Str} {msC:List Md} {fm:List D→Out D} {p:Ap} {ps:List Ap} {ta:TE} {ma:Env→Res D} {t:TA} {m:Env→Res (List D)} (ha:A1J cm E0 ms p ta ma) (h:AJ cm E0 ms ps t m) (hf:fitM ms (p :: ps) msC) (hd:(lent (p :: ps)).Nodup)
 (hb:∀ i∈borr (p :: ps),i∉lent (p :: ps)):MJ cm (KR cm .F) E0 ms (aO7 (cm c) mn (spZ cm msC (KR cm .F) fm) [] E0 ta t) (mm c mn (p :: ps) fm ma m):=cv0 ha h hf hd hb fun _ _ _ _ _ _ _ h=>h
theorem rnon {B U H:Hp} {N:List Addr}:KR cm .F .non .non B U H N:=show Dn cm B .non .non by rw [Dn]
end
theorem aN4 {cm:Cm} {G:Hp}:∀ ns:List Int,Dns cm G (ns.map D.int) (ns.map V.int)
 | []=>by rw [List.map_nil,List.map_nil,Dns]
 | n :: r=>by
   rw [List.map_cons,List.map_cons,Dns]
   exact ⟨_,_,rfl,by rw [Dn],aN4 r⟩
theorem cv2 {cm:Cm} {fm:List D→Out D} (h:∀ ns:List Int,ns.length≤63→∃ ρ,fm [.scr (ns.map D.int)]= .ok (.bl true) ρ) {vs:List V} {H:Hp} {Q:VK} {a:Addr} {ns:List Int} (hv:vs=[.ref a]) (hs:SqF cm.K H a (ns.map V.int)) (hl:ns.length≤63) (ht:∀ p∈cm.tb,∃ l,H p.1=some (.tbl l)∧p.2∈l) (hq:∀ H',Q (.bl true) H') :
 spM cm [.R] (KR cm .F) fm vs H Q E0:=by
 subst hv
 obtain ⟨ρ,e⟩:=h ns hl
 refine ⟨H,H,fun _=>[],[.scr (ns.map D.int)],⟨Same.refl _,Same.refl _,fun _=>List.nodup_nil,fun _ _ _ _ z=>(nomatch z),fun _ _ z=>(nomatch z),fun i=>?_,rfl,ht⟩,rfl,?_⟩
 · rw [aj6,aj6]
   cases i with
   | zero=>exact ⟨.ref a,rfl,by show Dn cm H (.scr _) _; rw [Dn]; exact ⟨a,_,rfl,hs,aN4 ns⟩,rfl⟩
   | succ i=>exact rfl
 · rw [e]
   intro v B' U' As' H' N R' e' n' k
   have k:Dn cm B' (.bl true) v:=k
   rw [Dn] at k
   rw [k]
   exact hq H'
theorem cl0 {K:PySem.W.Frag} {H:Hp} {a:Addr} {xs:List V} {T:Tbs} (o:Only T H) (h:SqL K H a xs):SqF K H a xs:=by
 rcases h with (h | h) | h
 · rcases o.2 a with z | ⟨ob,ys,z⟩ | z
   · rw [z] at h; cases h
   · rw [z] at h; cases h
   · rw [z] at h; cases h
 · exact .inl h
 · exact .inr h
theorem tb_of {H:Hp} {T:Tbs} (o:Only T H):∀ p∈T,∃ l,H p.1=some (.tbl l)∧p.2∈l:=fun p hp=>⟨_,o.1 p hp,Tbs.mem.mpr hp⟩
noncomputable def sc1 (m:Env→Res D):Env→Res D:=fun ρ=>(m ρ).bind fun d=>if ad5 d=true then .ok d else .bad
section
variable {cm:Cm} {E:XK} {ms:List Md}
theorem aS5 {ta:TE} {ma:Env→Res D} (ha:PJ cm (KR cm .F) E ms ta ma):PJ cm (KI cm .F .U) E ms (bp7 cm.K ta) (srcL ma):=by
 intro B U As σ H ρ Q R P
 refine bp6 ha B U As σ H ρ Q R ?_
 cases e:srcL ma ρ with
 | ok ds =>
   rw [e] at P
   intro J B1 U1 H1 N R1 g n ⟨vs,hJ,hd⟩
   exact P J B1 U1 H1 N R1 g n ⟨vs,fun H2 s=>hJ H2 (R1.bu.trans s),hd⟩
 | exc c=>rw [e] at P; exact P
 | bad=>rw [e] at P; exact P
end
end Mi
namespace L2
open PySem PySem.Spec PyProof.Rows
section
variable {X:Cx} (K:PySem.W.Frag)
theorem ab7 (h:X.K=K):IxR X (rIxL K):=by subst h; exact cf3
theorem cf2 (h:X.K=K):IxR X (rIxT K):=by subst h; exact cv7
theorem aa8 (h:X.K=K):au4 X (.builtin "len") (fun xs H Q=>∃ p ys,xs=[.ref p]∧(SqL K H p ys∨SqT K H p ys)∧Q (.int ys.length) H):=by subst h; exact aN9
theorem ap4 (h:X.K=K):au4 X (.type "tuple") (fun xs H Q=>∃ p ys,xs=[.ref p]∧((SqL K H p ys∧∀ l,H l=none→Q (.ref l) (upd H l (.tup ys)))∨(SqT K H p ys∧Q (.ref p) H))):=by subst h; exact aI5
theorem bf9 (h:X.K=K) (hc:X.calm=true):au4 X (.type "set") (fun xs H Q=>∃ p ns,xs=[.ref p]∧SqL K H p (ns.map V.int)∧ns.length < 4000∧∀ q,H q=none→Q (.ref q) (upd H q (.set (fun k=>(dd ns).any (· == k)) (dd ns).length))):=by subst h; exact bx2 hc
theorem bg1 (h:X.K=K) (hc:X.calm=true):aC0 X (.builtin "min") ["default"] (fun xs zs H Q=>∃ p ns d,xs=[.ref p]∧zs=[d]∧SqL K H p (ns.map V.int)∧(ns=[]→Q d H)∧∀ m∈ns,(∀ x∈ns,m≤x)→Q (.int m) H):=by subst h; exact bx8 hc
theorem bg2 (h:X.K=K) (hc:X.calm=true):aC0 X (.builtin "max") ["default"] (fun xs zs H Q=>∃ p ns d,xs=[.ref p]∧zs=[d]∧SqL K H p (ns.map V.int)∧(ns=[]→Q d H)∧∀ m∈ns,(∀ x∈ns,x≤m)→Q (.int m) H):=by subst h; exact bx9 hc
theorem bm9 (h:X.K=K) (hu:X.A.units + 64 < cLine):OpR X (compareOp .Eq) (rEqD K false):=by subst h; exact cp1 hu
theorem ca5 (h:X.K=K) (hu:X.A.units + 64 < cLine):OpR X (compareOp .NotEq) (rEqD K true):=by subst h; exact co9 hu
theorem bm8 (h:X.K=K) (hu:X.A.units + 65 < cLine):OpR X (compareOp .In) (fun x y H Q=>∃ d xs,Den K H d x∧Den K H (.list xs) y∧SeqAt.shaped d=true∧SeqAt.shaped (.list xs)=true∧(∀ z∈xs,SeqAt.noMix z d=true)∧Q (.bl (decide (countIn d xs≠0))) H):=by subst h; exact cp0 hu
theorem ao0 (h:X.K=K):au4 X (.builtin "isinstance") (fun xs H Q=>∃ x c t b,xs=[x,.ty c]∧TyOf K H x t∧PySem.W.kitOne K t (.type c)=some b∧Q (.bl b) H):=by subst h; exact bI7
theorem ah9 {e:Expr} {ta:TE} {f:Str} {pos:Pos} (h:X.K=K) (he:PE X e ta) (hb:attributeBase e f X.env (eval e X.env)=eval e X.env):PE X (.Attribute e f pos) (tFld K ta f):=by subst h; exact cn9 he hb
theorem ae9 {tg l:Expr} {tl:TE} (h:X.K=K) (hl:PE X l tl):PI X tg l (bp7 K tl):=by subst h; exact bZ9 hl
end
end L2
namespace Mi
open PySem L2
noncomputable def spT (K:PySem.W.Frag) (T:Tbs):Sp:=fun vs H Q _=>∃ (a:Addr) (ns:List Int),vs=[.ref a]∧SqF K H a (ns.map V.int)∧ns.length≤63∧(∀ p∈T,∃ l,H p.1=some (.tbl l)∧p.2∈l)∧∀ H',Q (.bl true) H'
noncomputable def aq2:List D→Option (List Bool)
 | []=>some []
 | .bl b :: r=>(aq2 r).map (b :: ·)
 | _ :: _=>none
noncomputable def anyD:D→Res D
 | .lst ds=>(match aq2 ds with | some bs=> .ok (.bl (bs.any id)) | none=> .bad)
 | _=> .bad
noncomputable def as8:List D→Option (List (Int×Int×List Int))
 | []=>some []
 | d :: r=>match keyP d,as8 r with | some k,some ks=>some (k :: ks) | _,_=>none
noncomputable def bn5 (x d:D):Res D:=match x with
 | .lst []=>if ad5 d=true then .ok d else .bad
 | .lst (e :: r)=>(match as8 (e :: r) with
   | some ks=>(match (e :: r)[PySem.argBest (fun i j=>ah8 (ks.getD i (0,0,[])) (ks.getD j (0,0,[]))) r.length]? with | some y=> .ok y | none=> .bad)
   | none=> .bad)
 | _=> .bad
section
variable {cm:Cm} {E:XK} {ms:List Md} {K:PySem.W.Frag}
theorem aB6 {G:Hp}:∀ {ds:List D} {bs:List Bool} {xs:List V},aq2 ds=some bs→Dns cm G ds xs→xs=bs.map V.bl
 | [],ns,xs,e,h=>by rw [Dns] at h; cases e; rw [h]; rfl
 | d :: ds,ns,xs,e,h=>by
   rw [Dns] at h
   obtain ⟨x,r,rfl,h1,h2⟩:=h
   cases d with
   | bl i =>
     rw [aq2] at e
     obtain ⟨ms,e1,rfl⟩:=Option.map_eq_some_iff.mp e
     rw [Dn] at h1
     rw [aB6 e1 h2,h1,List.map_cons]
   | _=>cases e
theorem s_any:S1 cm (fun v H Q=>∃ p,∃ bs:List Bool,[v]=[.ref p]∧SqL K H p (bs.map V.bl)∧Q (.bl (bs.any id)) H) anyD:=by
 intro H x v hx
 cases x with
 | lst ds =>
   rw [Dn] at hx
   obtain ⟨a,xs,rfl,h1,h2⟩:=hx
   cases e:aq2 ds with
   | none =>
     have ea:anyD (.lst ds)= .bad:=by simp only [anyD,e]
     rw [ea]; trivial
   | some bs =>
     have ea:anyD (.lst ds)= .ok (.bl (bs.any id)):=by simp only [anyD,e]
     rw [ea]
     have ex:=aB6 e h2
     subst ex
     exact ⟨.bl _,fun _=>by rw [Dn],fun Q q=>⟨a,bs,rfl,SqL.of h1,q⟩⟩
 | _=>trivial
theorem aM3:∀ {ds:List D} {ks:List (Int×Int×List Int)},as8 ds=some ks→ds.length=ks.length
 | [],ks,e=>by cases e; rfl
 | d :: r,ks,e=>by
   unfold as8 at e
   cases e1:keyP d with
   | none=>rw [e1] at e; cases e
   | some k =>
     cases e2:as8 r with
     | none=>rw [e1,e2] at e; cases e
     | some l=>rw [e1,e2] at e; cases e; rw [List.length_cons,List.length_cons,aM3 e2]
theorem aZ8:∀ {ds:List D} {ks:List (Int×Int×List Int)} {i:Nat} {d:D},as8 ds=some ks→ds[i]?=some d→keyP d=some (ks.getD i (0,0,[]))
 | [],ks,i,d,e,h=>by cases h
 | x :: r,ks,i,d,e,h=>by
   unfold as8 at e
   cases e1:keyP x with
   | none=>rw [e1] at e; cases e
   | some k =>
     cases e2:as8 r with
     | none=>rw [e1,e2] at e; cases e
     | some l =>
       rw [e1,e2] at e
       cases e
       cases i with
       | zero=>cases h; exact e1
       | succ i=>rw [List.getD_cons_succ]; exact aZ8 e2 (by simpa using h)
theorem co2 {ta td:TE} {ma md:Env→Res D} (ha:PJ cm (KC cm .F) E ms ta ma) (hd:PJ cm (KR cm .X) E ms td md) :
 PJ cm (KR cm .F) E ms (tCBK (fun xs zs H Q=>∃ p vs d,∃ ks:List (Int×Int×List Int),xs=[.ref p]∧zs=[d]∧SqL K H p vs∧vs.length=ks.length∧(∀ i v,vs[i]?=some v→KeyV K H v (ks.getD i (0,0,[]))) ∧
  (vs=[]→Q d H)∧∀ v,vs[PySem.argBest (fun i j=>ah8 (ks.getD i (0,0,[])) (ks.getD j (0,0,[]))) (vs.length - 1)]?=some v→Q v H) (ai4 ta tNil) (ai4 td tNil)) (bn bn5 ma md):=by
 intro B U As σ H ρ Q R P
 refine ha.bnd R P fun x v B1 U1 H1 N1 _ R1 e1 n1 d1 P1=>hd.bnd R1 P1 fun y u B2 U2 H2 N2 _ R2 e2 n2 d2 P2=>?_
 have d1:Cn cm B1 H1 x v:=d1
 cases x with
 | lst ds =>
   have d1:∃ a xs,v= .ref a∧H1 a=some (.lst xs)∧Dns cm B1 ds xs:=d1
   obtain ⟨a,xs,rfl,h1,h2⟩:=d1
   have h1':=e2.h _ _ h1
   have h2':=h2.mono e2.b
   cases ds with
   | nil =>
     rw [Dns] at h2
     subst h2
     replace P2:Po cm (KR cm .F) E ms B2 U2 As σ H2 ρ (if ad5 y=true then .ok y else .bad) Q:=P2
     by_cases z:ad5 y=true
     · rw [if_pos z] at P2
       exact ⟨a,[],u,[],rfl,rfl,SqL.of h1',rfl,fun i v e=>(nomatch e),fun _=>P2 u B2 U2 H2 [] R2 (Gw.refl _ _ _) New.nil (al1 z d2),fun v e=>by cases e⟩
     · rw [if_neg z] at P2; exact P2.elim
   | cons e r =>
     replace P2:Po cm (KR cm .F) E ms B2 U2 As σ H2 ρ (match as8 (e :: r) with
      | some ks=>(match (e :: r)[PySem.argBest (fun i j=>ah8 (ks.getD i (0,0,[])) (ks.getD j (0,0,[]))) r.length]? with | some y=> .ok y | none=> .bad)
      | none=> .bad) Q:=P2
     cases ek:as8 (e :: r) with
     | none=>rw [ek] at P2; exact P2.elim
     | some ks =>
       rw [ek] at P2
       replace P2:Po cm (KR cm .F) E ms B2 U2 As σ H2 ρ (match (e :: r)[PySem.argBest (fun i j=>ah8 (ks.getD i (0,0,[])) (ks.getD j (0,0,[]))) r.length]? with | some y=> .ok y | none=> .bad) Q:=P2
       have hl:=h2'.len
       refine ⟨a,xs,u,ks,rfl,rfl,SqL.of h1',by rw [← hl,aM3 ek],fun i v hv=>?_,fun z=>?_,fun v hv=>?_⟩
       · obtain ⟨d,hd',hdn⟩:=h2'.geti hv
         obtain ⟨p,l,rfl,q1,q2⟩:=ay9 (K:=K) (aZ8 ek hd') (Dn.mono R2.bh hdn)
         exact ⟨p,l,rfl,q1,q2⟩
       · subst z; cases hl
       · rw [← hl,List.length_cons,Nat.add_sub_cancel] at hv
         obtain ⟨d,hd',hdn⟩:=h2'.geti hv
         rw [hd'] at P2
         exact P2 v B2 U2 H2 [] R2 (Gw.refl _ _ _) New.nil hdn
 | _=>exact P2.elim
end
section
variable {cm:Cm} {E:XK} {ms:List Md}
theorem fF (i:Nat) (hm:ms.getD i .F= .F:=by rfl):PJ cm (KR cm .F) E ms (tVar i) (vr i):=xF hm
theorem fR (i:Nat) (hm:ms.getD i .F= .R:=by rfl):PJ cm (KR cm .U) E ms (tVar i) (vr i):=xR hm
theorem fO (i:Nat) {sh:Sh} (hm:ms.getD i .F= .O sh:=by rfl):PJ cm (KR cm .X) E ms (tVar i) (vr i):=xO hm
theorem fC (i:Nat) (hm:ms.getD i .F= .O (.ct .fz):=by rfl):PJ cm (KC cm .F) E ms (tVar i) (vr i):=xC hm
end
theorem cf5 {k:Nat} {A:Around} (r:Room k A):A.units + 101 < cLine:=by have:=r.un; omega
end Mi
namespace L2
open PySem PySem.Spec PyProof.Rows
section
variable {X:Cx} (K:PySem.W.Frag)
theorem bx6 (h:X.K=K) (hc:X.calm=true):au4 X (.builtin "any") (fun xs H Q=>∃ p,∃ bs:List Bool,xs=[.ref p]∧SqL K H p (bs.map V.bl)∧Q (.bl (bs.any id)) H):=by subst h; exact bx7 hc
theorem aW6 (h:X.K=K) (hc:X.calm=true) (hu:X.A.units + 101 < cLine):aC0 X (.builtin "min") ["default"] (fun xs zs H Q=>∃ p vs d,∃ ks:List (Int×Int×List Int),xs=[.ref p]∧zs=[d]∧SqL K H p vs∧vs.length=ks.length∧(∀ i v,vs[i]?=some v→KeyV K H v (ks.getD i (0,0,[]))) ∧
 (vs=[]→Q d H)∧∀ v,vs[PySem.argBest (fun i j=>ah8 (ks.getD i (0,0,[])) (ks.getD j (0,0,[]))) (vs.length - 1)]?=some v→Q v H):=by subst h; exact bg0 hc hu
end
end L2
namespace Gd
open PySem L2
theorem cz7:bootBuiltins "any" = some (.builtin "any"):=by decide +kernel
end Gd
namespace L2
open PySem
theorem lenV0 {P:List Value→Prop} (h:P []):∀ us:List Value,us.length=0→P us:=by
 intro us hl
 rw [List.length_eq_zero_iff.mp hl]; exact h
theorem aM1 {P:List Value→Prop} (h:∀ a0:Value,P [a0]):∀ us:List Value,us.length=1→P us:=by
 intro us hl
 cases us with
 | nil=>cases hl
 | cons a us=>exact lenV0 (P:=fun us=>P (a :: us)) (h a) us (Nat.succ.inj hl)
theorem am2 {P:List Value→Prop} (h:∀ a0 a1:Value,P [a0,a1]):∀ us:List Value,us.length=2→P us:=by
 intro us hl
 cases us with
 | nil=>cases hl
 | cons a us=>exact aM1 (P:=fun us=>P (a :: us)) (h a) us (Nat.succ.inj hl)
theorem aG4 {P:List Value→Prop} (h:∀ a0 a1 a2:Value,P [a0,a1,a2]):∀ us:List Value,us.length=3→P us:=by
 intro us hl
 cases us with
 | nil=>cases hl
 | cons a us=>exact am2 (P:=fun us=>P (a :: us)) (h a) us (Nat.succ.inj hl)
end L2
namespace L2
open PySem PySem.Spec PyProof.Rows
section
variable {P:Program} {w:World} {H H':Hp} {h h':Heap} {a:Addr} {o:HO}
theorem ObjOk.ex (x:ObjOk P w H h a o):∃ u,h.get? a=some u:=by
 cases o with
 | lst xs=>obtain ⟨_,_,_,_,e⟩:=x; exact ⟨_,e⟩
 | tup xs=>obtain ⟨_,_,_,_,e,_⟩:=x; exact ⟨_,e⟩
 | dK kvs=>obtain ⟨_,_,_,_,o,_,_,e,_⟩:=x; exact ⟨_,e⟩
 | dT kvs=>obtain ⟨_,_,_,_,o,_,_,e,_⟩:=x; exact ⟨_,e⟩
 | set S n=>obtain ⟨o,_,_,_,e,_⟩:=x; exact ⟨_,e⟩
 | ins C dx fs=>obtain ⟨_,_,_,e,_⟩:=x; exact ⟨_,e⟩
 | own y=>obtain ⟨_,e⟩:=x; exact ⟨_,e⟩
 | xd fs=>obtain ⟨_,⟨_,_,_,e,_⟩,_⟩:=x; exact ⟨_,e⟩
 | rng lo hi=>obtain ⟨_,_,_,e⟩:=x; exact ⟨_,e⟩
 | frz ob u=>obtain ⟨e,_⟩:=x; exact ⟨_,e⟩
 | tbl l=>obtain ⟨_,_,e,_⟩:=x; exact ⟨_,e⟩
 | met f y=>exact ⟨_,show h.get? a=some _ from x⟩
 | ext φ=>obtain ⟨_,⟨_,e⟩,_⟩:=x; exact ⟨_,e⟩
theorem HOk.none (x:HOk P w H h) (e:h.get? a=Option.none):H a=Option.none:=by
 cases q:H a with
 | none=>rfl
 | some u=>obtain ⟨v,r⟩:=(x a u q).ex; rw [e] at r; cases r
end
noncomputable def CX1 (P:Program) (w:World):CXT:=fun outer H s E e s'=>∃ (ea C:Addr) (a0:Value) (B:Heap) (H':Hp),e= .ref ea∧s'.os=s.os∧AllBare s'.gens∧Un (frs outer) (frs outer) H H' s.heap B∧HOk P w H' B ∧
 Heap.FlyingW B outer ea (.ref C) a0 s'.heap∧(∀ b∈frs outer,∀ o,s.heap.get? b=some o→∃ sl,s'.heap.get? b=some { o with slots:=sl })∧(∀ b∈frs outer,H' b=none)∧E (.ref C) none H'
structure Own (X:Cx) (E:XK):Prop where
 xe:X.xe=fun e s'=>wpAny (model X.prog X.w) X.A (leaving X.env e) (fun _ s''=>CX1 X.prog X.w X.outer X.H₀ X.s₀ E e s'') (fun e' s''=>CX1 X.prog X.w X.outer X.H₀ X.s₀ E e' s'')  s'
 ex:X.ex=[]
 stk:X.stack=X.env :: X.outer
 fr:X.env.frame=some X.env.locals
section
variable {X:Cx} {E:XK} {pins:List (Addr×Obj)} {σ:St} {H:Hp} {s:Shared}
theorem Inv.above (I:Inv X pins σ H s):X.s₀.heap.get? X.env.locals=none:=Heap.get?_none_of_le I.ok.above
theorem Own.own (O:Own X E):PassesOwn (model X.prog X.w) X.A X.env X.xe:=by
 rw [O.xe]
 exact PassesOwn.leaving
end
noncomputable def mroK (K:PySem.W.Frag) (C:Addr):List Value:=match K.lookup C with
 | some ⟨_,_,.cls cd,_⟩=>cd.mro
 | _=>[]
noncomputable abbrev vBm:List Value:=[.type "ValueError",.type "Exception",.type "BaseException",.type "object"]
noncomputable def excK (K:PySem.W.Frag) (C:Addr):Bool:=PySem.W.excIn K C vBm "ValueError.__new__"
noncomputable abbrev Cx.hand (X:Cx) (ea:Addr) (oe:Obj):Cx:={ X with A:=X.A.mark (some (.ref ea)),calm:=false,pn:=(ea,oe) :: X.pn,xe:=fun _ _=>False }
section
variable {X:Cx} {pins:List (Addr×Obj)} {σ:St} {H:Hp} {s:Shared} {ea:Addr} {oe:Obj}
theorem Cx.Ok.hand (ok:X.Ok):(X.hand ea oe).Ok:=⟨ok.mod,ok.kind,ok.glob,ok.blt,ok.above,ok.inj,ok.has,ok.cab,fun z=>(nomatch z),ok.frames,ok.stk,ok.exf,ok.bs,ok.bsz,ok.noex,ok.exfs,ok.funs,ok.frf⟩
theorem Inv.hand (I:Inv X pins σ H s) {vs:Array Value} (he:s.heap.get? ea=some oe) (hn:H ea=none) (hd:oe.data= .fields vs):Inv (X.hand ea oe) pins σ H s:=by
 refine ⟨I.ok.hand,I.os,I.bare,I.base,I.loc,I.cell,I.free,I.freeC,fun p hp=>?_,I.hok,I.len⟩
 rcases List.mem_cons.mp (show p∈(ea,oe) :: (X.pn ++ pins) from hp) with rfl | hp
 · refine ⟨he,hn,fun z=>?_,fun z=>?_,fun v z=>by rw [hd] at z; cases z⟩
   · obtain ⟨m,⟨o,es,ep,ho,hd',_⟩,_⟩:=I.loc
     replace z:ea=X.env.locals:=z
     rw [z,ho] at he
     cases he
     rw [hd] at hd'
     cases hd'
   · obtain ⟨_,o,ho,nf⟩:=I.funs.mem z
     replace ho:s.heap.get? ea=some o:=ho
     rw [he] at ho
     cases ho
     exact nf _ hd
 · exact I.pin p hp
theorem Inv.exc (I:Inv (X.hand ea oe) pins σ H s):s.heap.get? ea=some oe:=(I.pin (ea,oe) List.mem_cons_self).1
end
end L2
namespace PySem.W
open PySem PySem.Spec PySem.Calls PyProof.Rows
open Builtin Builtin.ObjectAttr Builtin.Getset_descriptor in
open Builtin Builtin.ObjectAttr Builtin.Getset_descriptor in
noncomputable def cw4 (K:Frag) (D:Addr):Bool:=findIn K (.ref D) "__getattribute__" == some (some (.builtin "BaseException.__getattribute__")) && (findIn K (.ref D) "__getattr__" == some none && (findIn K (.ref D) "__class__" == some (some (.builtin "object.__class__")) &&
 (specialIn K (.builtin "object.__class__") "__get__" == some (some (.builtin "getset_descriptor.__get__")) && (takesIn K (.builtin "object.__class__") == some true && (mroIn K D (.type "object") == some true && (mroIn K D (.type "BaseException") == some true && (clsIn K D).isSome))))))
end PySem.W
namespace Mi
open PySem L2
section
variable {cm:Cm} {Kr:KT D V} {E:XK} {pr:Nat→Bool} {ms:List Md} {K:PySem.W.Frag}
theorem Rel.slot {B U H:Hp} {As:Nat→List Addr} {σ:St} {ρ:Env} {j:Nat} {x:Option V} (R:Rel cm ms B U As σ H ρ) (h:rg ρ j=none):Rel cm ms B U As (σ.set j x) H ρ:=by
 refine ⟨R.bu,R.uh,R.nd,R.dj,R.un,fun i=>?_,by rw [List.length_set]; exact R.len,R.tb⟩
 have l:=R.lo i
 by_cases z:i=j
 · subst z
   rw [h] at l ⊢
   exact l
 · have:rg (σ.set j x) i=rg σ i:=by unfold rg; rw [List.getElem?_set_ne (Ne.symm z)]
   rw [this]
   exact l
theorem Kp.slot {σ σ':St} {j:Nat} {x:Option V} (k:Kp pr σ σ') (hp:pr j=false):Kp pr σ (σ'.set j x):=fun i hi=>by
 have:i≠j:=fun z=>by rw [z,hp] at hi; cases hi
 have e:rg (σ'.set j x) i=rg σ' i:=by unfold rg; rw [List.getElem?_set_ne (Ne.symm this)]
 rw [e]
 exact k i hi
end
noncomputable abbrev DI (β:Type):=List (List Int×β)
section
variable {β:Type}
noncomputable def encD (f:β→D) (F:DI β):D:= .dT (F.map fun p=>p.1.map Sum.inl) (F.map fun p=>f p.2)
noncomputable def DI.get (F:DI β) (k:List Int):Option β:=(F.find? fun p=>decide (p.1=k)).map (·.2)
noncomputable def DI.put (F:DI β) (k:List Int) (v:β):DI β:=if (F.get k).isSome=true then F.map fun p=>if p.1=k then (p.1,v) else p else F ++ [(k,v)]
theorem at3 {j k:List Int}:j.map (Sum.inl:Int→Key)=k.map Sum.inl↔j=k:=by
 constructor
 · intro h
   induction j generalizing k with
   | nil=>cases k with | nil=>rfl | cons _ _=>cases h
   | cons x j ih =>
     cases k with
     | nil=>cases h
     | cons y k =>
       rw [List.map_cons,List.map_cons] at h
       injection h with h1 h2
       injection h1 with h1
       rw [h1,ih h2]
 · intro h; rw [h]
theorem ap8:∀ k:List Int,am4 (k.map D.int)=some (k.map Sum.inl)
 | []=>rfl
 | x :: k=>by rw [List.map_cons,am4,ap8 k]; rfl
theorem aZ6 {f:β→D} {k:List Int}:∀ F:DI β,ai9 (F.map fun p=>p.1.map (Sum.inl:Int→Key)) (F.map fun p=>f p.2) (k.map Sum.inl)=(DI.get F k).map f
 | []=>rfl
 | p :: F=>by
   rw [List.map_cons,List.map_cons,ai9,aZ6 F]
   unfold DI.get
   rw [List.find?_cons]
   by_cases h:p.1=k
   · rw [if_pos (at3.mpr h),decide_eq_true h]; rfl
   · rw [if_neg (fun z=>h (at3.mp z)),decide_eq_false h]
theorem az2 {f:β→D} {F:DI β} {k:List Int}:aS9 (encD f F) (.tup (k.map D.int))=some ((F.get k).map f):=by
 show (am4 (k.map D.int)).map (fun k=>ai9 (F.map fun p=>p.1.map (Sum.inl:Int→Key)) (F.map fun p=>f p.2) k)=_
 rw [ap8,Option.map_some,aZ6]
theorem bp9 {k:List Int}:∀ F:DI β,hasK (F.map fun p=>p.1.map (Sum.inl:Int→Key)) (k.map Sum.inl)=(DI.get F k).isSome
 | []=>rfl
 | p :: F=>by
   have ih:=bp9 (k:=k) F
   unfold hasK DI.get at *
   rw [List.map_cons,List.any_cons,List.find?_cons,ih]
   by_cases h:p.1=k
   · rw [decide_eq_true (at3.mpr h),decide_eq_true h]; rfl
   · rw [decide_eq_false (fun z=>h (at3.mp z)),decide_eq_false h]; rfl
theorem aY1 {f:β→D} {k:List Int} {v:β}:∀ F:DI β,putV (F.map fun p=>p.1.map (Sum.inl:Int→Key)) (F.map fun p=>f p.2) (k.map Sum.inl) (f v)=(F.map fun p=>if p.1=k then (p.1,v) else p).map fun p=>f p.2
 | []=>rfl
 | p :: F=>by
   rw [List.map_cons,List.map_cons,putV,aY1 F,List.map_cons,List.map_cons]
   by_cases h:p.1=k
   · rw [if_pos (at3.mpr h),if_pos h]
   · rw [if_neg (fun z=>h (at3.mp z)),if_neg h]
theorem bG7 {f:β→D} {F:DI β} {k:List Int} {v:β} (h:F.length < aa7):br3 (encD f F) (.tup (k.map D.int)) (f v)=some (encD f (F.put k v)):=by
 show ((am4 (k.map D.int)).bind fun k=>if (F.map fun p=>p.1.map (Sum.inl:Int→Key)).length < aa7 then some (if hasK (F.map fun p=>p.1.map (Sum.inl:Int→Key)) k=true then D.dT (F.map fun p=>p.1.map (Sum.inl:Int→Key)) (putV (F.map fun p=>p.1.map (Sum.inl:Int→Key)) (F.map fun p=>f p.2) k (f v)) else D.dT ((F.map fun p=>p.1.map (Sum.inl:Int→Key)) ++ [k]) ((F.map fun p=>f p.2) ++ [f v])) else none)=some (D.dT ((F.put k v).map fun p=>p.1.map Sum.inl) ((F.put k v).map fun p=>f p.2))
 rw [ap8,Option.bind_some,if_pos (by rw [List.length_map]; exact h),bp9]
 unfold DI.put
 by_cases q:(DI.get F k).isSome=true
 · rw [if_pos q,if_pos q,aY1,List.map_map,List.map_map]
   refine congrArg (fun z=>some (D.dT z _)) ?_
   refine List.map_congr_left fun p _=>?_
   show _=((if p.1=k then (p.1,v) else p).1).map Sum.inl
   split <;> rfl
 · rw [if_neg q,if_neg q,List.map_append,List.map_append]
   rfl
theorem bq1 {F:DI β} {k j:List Int} {v:β}:(F.put k v).get j=if j=k then some v else F.get j:=by
 unfold DI.put
 by_cases q:(DI.get F k).isSome=true
 · rw [if_pos q]
   have key:∀ G:DI β,DI.get (G.map fun p=>if p.1=k then (p.1,v) else p) j=if j=k then (DI.get G k).map fun _=>v else DI.get G j:=by
    intro G
    induction G with
    | nil=>unfold DI.get; split <;> rfl
    | cons p G ih =>
      unfold DI.get at ih ⊢
      rw [List.map_cons,List.find?_cons,List.find?_cons,List.find?_cons]
      by_cases h1:p.1=k
      · rw [if_pos h1]
        by_cases h2:j=k
        · subst h2
          simp only [h1,decide_true,if_pos,Option.map_some]
        · have h3:¬ p.1=j:=fun z=>h2 (z.symm.trans h1)
          simp only [h3,decide_false]
          rw [ih,if_neg h2,if_neg h2]
      · rw [if_neg h1]
        by_cases h3:p.1=j
        · have h2:¬ j=k:=fun z=>h1 (h3.trans z)
          simp only [h3,decide_true,if_neg h2]
        · simp only [h3,h1,decide_false]
          exact ih
   rw [key]
   by_cases h:j=k
   · rw [if_pos h,if_pos h]
     obtain ⟨x,hx⟩:=Option.isSome_iff_exists.mp q
     rw [hx]; rfl
   · rw [if_neg h,if_neg h]
 · rw [if_neg q]
   have q':DI.get F k=none:=by
    cases z:DI.get F k with
    | none=>rfl
    | some x=>rw [z] at q; exact absurd rfl q
   unfold DI.get at q' ⊢
   rw [List.find?_append]
   by_cases h:j=k
   · subst h
     have q2:F.find? (fun p=>decide (p.1=j))=none:=by
      cases z:F.find? (fun p=>decide (p.1=j)) with
      | none=>rfl
      | some x=>rw [z] at q'; cases q'
     rw [q2,if_pos rfl]
     simp
   · rw [if_neg h]
     have:¬ k=j:=fun z=>h z.symm
     simp [this]
end
open PySem.Spec (countIn same sameAll)
theorem aJ3 {α:Type} {f:α→D} {g:α→PyData} (h:∀ a,toPy (f a)=some (g a)):∀ l:List α,toPys (l.map f)=some (l.map g)
 | []=>rfl
 | a :: l=>by rw [List.map_cons,toPys,h a,aJ3 h l]; rfl
theorem ax1 {α:Type} {f:α→D} {g:α→PyData} (h:∀ a,toPy (f a)=some (g a)) (l:List α):toPy (.lst (l.map f))=some (.list (l.map g)):=by
 rw [toPy,aJ3 h]; rfl
theorem be1 {α:Type} {g:α→PyData} (h1:∀ a,(g a).canLay0=true) (h2:∀ a,(g a).depth≤60) (l:List α):SeqAt.shaped (.list (l.map g))=true:=by
 have c:∀ l:List α,PyData.canLayAll0 (l.map g)=true:=by
  intro l
  induction l with
  | nil=>simp [PyData.canLayAll0]
  | cons a l ih=>simp [PyData.canLayAll0,h1 a,ih]
 have d:∀ l:List α,PyData.depthAll (l.map g)≤60:=by
  intro l
  induction l with
  | nil=>simp [PyData.depthAll]
  | cons a l ih =>
    rw [List.map_cons,PyData.depthAll]
    have:=h2 a
    omega
 have e:PyData.depth (.list (l.map g))≤64:=by rw [PyData.depth]; have:=d l; omega
 unfold SeqAt.shaped
 rw [Bool.and_eq_true]
 exact ⟨by rw [PyData.canLay0]; exact c l,decide_eq_true e⟩
theorem aB4 {α:Type} [DecidableEq α] {g:α→PyData} (h:∀ a b,same (g a) (g b)=decide (a=b)) (a:α):∀ l:List α,(0≤countIn (g a) (l.map g))∧(countIn (g a) (l.map g)≠0↔a∈l)
 | []=>by simp [countIn]
 | b :: l=>by
   obtain ⟨i1,i2⟩:=aB4 h a l
   rw [List.map_cons,countIn,h b a,List.mem_cons]
   by_cases e:b=a
   · rw [if_pos (by simpa using e)]
     exact ⟨by omega,fun _=> .inl e.symm,fun _=>by omega⟩
   · rw [if_neg (by simpa using e)]
     refine ⟨by omega,fun z=> .inr (i2.mp (by omega)),fun z=>?_⟩
     rcases z with z | z
     · exact absurd z.symm e
     · have:=i2.mpr z; omega
section
variable {α:Type} [DecidableEq α] {f:α→D} {g:α→PyData}
theorem cf4 (h0:∀ a,toPy (f a)=some (g a)) (h1:∀ a,(g a).canLay0=true) (h2:∀ a,(g a).depth≤60) (h3:∀ a b,same (g a) (g b)=decide (a=b)) (h4:∀ a b,SeqAt.noMix (g a) (g b)=true) (a:α) (l:List α) :
 inD (f a) (.lst (l.map f))= .ok (.bl (decide (a∈l)))∧ninD (f a) (.lst (l.map f))= .ok (.bl (!decide (a∈l))):=by
 have s1:SeqAt.shaped (g a)=true:=by
  unfold SeqAt.shaped
  rw [h1 a,Bool.true_and]
  exact decide_eq_true (by have:=h2 a; omega)
 have s2:=be1 h1 h2 l
 have s3:((l.map g).all fun z=>SeqAt.noMix z (g a))=true:=by
  rw [List.all_map,List.all_eq_true]
  exact fun b _=>h4 b a
 have s4:decide (countIn (g a) (l.map g)≠0)=decide (a∈l):=by
  have:=(aB4 h3 a l).2
  by_cases z:a∈l
  · rw [decide_eq_true z,decide_eq_true (this.mpr z)]
  · rw [decide_eq_false z,decide_eq_false (fun w=>z (this.mp w))]
 constructor
 · unfold inD
   rw [h0 a,ax1 h0 l]
   show (if _ then _ else _)=_
   rw [if_pos ⟨s1,s2,s3⟩,s4]
 · unfold ninD
   rw [h0 a,ax1 h0 l]
   show (if _ then _ else _)=_
   rw [if_pos ⟨s1,s2,s3⟩,s4]
end
end Mi
namespace Cl
open PySem L2 Mi
inductive OutC (σ α:Type) where
 | ok (a:α) (s:σ) | exc (c:Nat) (s:σ) | bad
inductive FlC (σ β:Type) where
 | nx (s:σ) | rt (b:β) (s:σ) | bk (s:σ) | ct (s:σ) | exc (c:Nat) (s:σ) | bad
noncomputable def SimR {α γ:Type} (e:α→γ) (r:Res γ) (q:Res α):Prop:=match q with
 | .ok a=>r= .ok (e a)
 | .exc x=>r= .exc x
 | .bad=>True
section
variable {σ α β γ δ:Type} {rep:σ→Mi.Env}
noncomputable def SimO (rep:σ→Mi.Env) (e:α→γ) (r:Out γ) (q:OutC σ α):Prop:=match q with
 | .ok a s=>r= .ok (e a) (rep s)
 | .exc x s=>r= .exc x (rep s)
 | .bad=>True
noncomputable def SimS (rep:σ→Mi.Env) (e:β→D) (r:SO) (q:FlC σ β):Prop:=match q with
 | .nx s=>r= .nx (rep s)
 | .rt b s=>r= .rt (e b) (rep s)
 | .bk s=>r= .bk (rep s)
 | .ct s=>r= .ct (rep s)
 | .exc x s=>r= .exc x (rep s)
 | .bad=>True
noncomputable def EJ (rep:σ→Mi.Env) (e:α→γ) (m:Mi.Env→Res γ) (c:σ→Res α):Prop:=∀ s,SimR e (m (rep s)) (c s)
noncomputable def NJ (rep:σ→Mi.Env) (e:α→γ) (m:Mi.Env→Out γ) (c:σ→OutC σ α):Prop:=∀ s,SimO rep e (m (rep s)) (c s)
noncomputable def TJ (rep:σ→Mi.Env) (e:β→D) (m:Mi.Env→SO) (c:σ→FlC σ β):Prop:=∀ s,SimS rep e (m (rep s)) (c s)
theorem SimR.bnd {e:α→γ} {e':β→δ} {r:Res γ} {q:Res α} {k:γ→Res δ} {l:α→Res β} (h:SimR e r q) (hk:∀ a,SimR e' (k (e a)) (l a)):SimR e' (r.bind k) (q.bind l):=by
 cases q with
 | ok a=>have h:r= .ok (e a):=h; rw [h]; exact hk a
 | exc x=>have h:r= .exc x:=h; rw [h]; exact rfl
 | bad=>trivial
theorem SimR.calm {e:α→γ} {r:Res γ} {q:Res α} (h:SimR e r q):SimR e r.calm q.calm:=by
 cases q with
 | ok a=>have h:r= .ok (e a):=h; rw [h]; exact rfl
 | exc x=>trivial
 | bad=>trivial
@[simp] noncomputable def vC (g:σ→Option α):σ→Res α:=fun s=>match g s with | some a=> .ok a | none=> .bad
@[simp] noncomputable def pC (g:σ→α):σ→Res α:=fun s=> .ok (g s)
@[simp] noncomputable def kC (a:α):σ→Res α:=fun _=> .ok a
@[simp] noncomputable def unC (f:α→Res β) (c:σ→Res α):σ→Res β:=fun s=>(c s).bind f
@[simp] noncomputable def bnC (f:α→β→Res γ) (a:σ→Res α) (b:σ→Res β):σ→Res γ:=fun s=>(a s).bind fun x=>(b s).bind fun y=>f x y
theorem cw5 {e:α→D} {i:Nat} {g:σ→Option α} (h:∀ s,rg (rep s) i=(g s).map e):EJ rep e (vr i) (vC g):=fun s=>by
 unfold vC vr
 rw [h s]
 cases g s with
 | none=>trivial
 | some a=>exact rfl
theorem cw7 {e:α→D} {i:Nat} {g:σ→α} (h:∀ s,rg (rep s) i=some (e (g s))):EJ rep e (vr i) (pC g):=fun s=>by
 unfold vr pC
 rw [h s]
 exact rfl
theorem bP7 {e:α→D} {d:D} {a:α} (h:e a=d):EJ rep e (cst d) (kC a):=fun s=>by subst h; exact rfl
theorem ae3 {e:α→D} {e':β→D} {F:D→Res D} {f:α→Res β} {m:Mi.Env→Res D} {c:σ→Res α} (h:∀ a,SimR e' (F (e a)) (f a)) (h1:EJ rep e m c):EJ rep e' (un F m) (unC f c):=fun s=>(h1 s).bnd h
theorem ab1 {e:α→D} {e1:β→D} {e2:γ→D} {F:D→D→Res D} {f:α→β→Res γ} {m n:Mi.Env→Res D} {c:σ→Res α} {c':σ→Res β} (h:∀ a b,SimR e2 (F (e a) (e1 b)) (f a b)) (h1:EJ rep e m c) (h2:EJ rep e1 n c'):EJ rep e2 (bn F m n) (bnC f c c'):=fun s=>(h1 s).bnd fun a=>(h2 s).bnd fun b=>h a b
theorem ah2 {e:α→D} {e':β→D} {m:Mi.Env→Res D} {c:σ→Res α} {f:α→Res β} (h:∀ a,SimR e' (.ok (e a)) (f a)) (h1:EJ rep e m c):EJ rep e' m (unC f c):=fun s=>by
 have h1:=h1 s
 unfold unC
 cases q:c s with
 | ok a=>rw [q] at h1; have h1:m (rep s)= .ok (e a):=h1; rw [h1]; exact h a
 | exc x=>rw [q] at h1; exact h1
 | bad=>trivial
noncomputable def eN:Unit→D:=fun _=> .non
noncomputable def eL (e:α→D):List α→D:=fun xs=> .lst (xs.map e)
noncomputable def eS:List Int→D:=fun xs=> .scr (xs.map D.int)
noncomputable def eTs (e:α→D):List α→D:=fun xs=> .tup (xs.map e)
noncomputable def eT2 (e:α→D) (e':β→D):α×β→D:=fun p=> .tup [e p.1,e' p.2]
noncomputable def eT3 (e:α→D) (e':β→D) (e'':γ→D):α×β×γ→D:=fun p=> .tup [e p.1,e' p.2.1,e'' p.2.2]
noncomputable def eO (e:α→D):Option α→D:=fun o=>match o with | none=> .non | some a=>e a
noncomputable abbrev eK:Int×Int×List Int→D:=eT3 D.int D.int (eL D.int)
@[simp] noncomputable def optC (o:Option α):Res α:=match o with | some a=> .ok a | none=> .bad
@[simp] noncomputable def aC4 (a:α):Res (Option α):= .ok (some a)
@[simp] noncomputable def idC (a:α):Res α:= .ok a
theorem af3 {e:α→D} (o:Option α):SimR e (.ok (eO e o)) (optC o):=by cases o <;> trivial
theorem aB8 {e:α→D} (a:α):SimR (eO e) (.ok (e a)) (aC4 a):=rfl
theorem cw9 {e:α→D} {F:(Mi.Env→Res D)→Mi.Env→Res D} {m:Mi.Env→Res D} {c:σ→Res α} (hF:∀ ρ a,m ρ= .ok (e a)→F m ρ= .ok (e a)) (hx:∀ ρ x,m ρ= .exc x→F m ρ= .exc x) (h:EJ rep e m c):EJ rep e (F m) c:=fun s=>by
 have h:=h s
 cases q:c s with
 | ok a=>rw [q] at h; exact hF _ _ h
 | exc x=>rw [q] at h; exact hx _ _ h
 | bad=>trivial
theorem av2 {e:α→D} {m:Mi.Env→Res D} {c:σ→Res α} (hs:∀ a,ad5 (e a)=true) (h:EJ rep e m c):EJ rep e (sc1 m) c :=
 cw9 (F:=sc1) (fun ρ a q=>by unfold sc1; rw [q]; show (if _ then _ else _)=_; rw [if_pos (hs a)]) (fun ρ x q=>by unfold sc1; rw [q]; rfl) h
theorem bq7 {e:α→D} {m:Mi.Env→Res D} {c:σ→Res α} (hs:∀ a,be3 (e a)=true) (h:EJ rep e m c):EJ rep e (chkS m) c :=
 cw9 (F:=chkS) (fun ρ a q=>by unfold chkS; rw [q]; show (if _ then _ else _)=_; rw [if_pos (hs a)]) (fun ρ x q=>by unfold chkS; rw [q]; rfl) h
theorem bJ0 {e:α→D} (h:∀ a,ad5 (e a)=true) (xs:List α):(xs.map e).all ad5=true:=by
 rw [List.all_map,List.all_eq_true]
 exact fun a _=>h a
theorem bj3 {e:α→D} (h:∀ a,ad5 (e a)=true) (xs:List α):be3 (eL e xs)=true:=bJ0 h xs
theorem cl5 {e:α→D} (h:∀ a,be3 (e a)=true) (o:Option α):be3 (eO e o)=true:=by
 cases o with
 | none=>rfl
 | some a=>exact h a
theorem bF8 {e:α→D} (h:∀ a,ad5 (e a)=true) (o:Option α):ad5 (eO e o)=true:=by
 cases o with
 | none=>rfl
 | some a=>exact h a
@[simp] noncomputable def addC (a b:Int):Res Int:= .ok (a + b)
@[simp] noncomputable def mulC (a b:Int):Res Int:=if (-(2 ^ 64) < a∧a < 2 ^ 64)∨(-(2 ^ 64) < b∧b < 2 ^ 64) then .ok (a * b) else .bad
@[simp] noncomputable def cw3 (a b:Int):Res Int:=if 0 < b∧b < 1073741824 then .ok (a / b) else .bad
@[simp] noncomputable def modC (a b:Int):Res Int:=if 0 < b then .ok (a % b) else .bad
@[simp] noncomputable def powC (a b:Int):Res Int:=if 0≤b∧b≤1000000∧a.natAbs < 2 ^ 64 then .ok (a ^ b.toNat) else .bad
@[simp] noncomputable def ltC (a b:Int):Res Bool:= .ok (decide (a < b))
@[simp] noncomputable def gtC (a b:Int):Res Bool:= .ok (decide (b < a))
@[simp] noncomputable def geC (a b:Int):Res Bool:= .ok (decide (b≤a))
@[simp] noncomputable def negC (a:Int):Res Int:= .ok (-a)
@[simp] noncomputable def notC (a:Bool):Res Bool:= .ok (!a)
@[simp] noncomputable def eqC [DecidableEq α] (neg:Bool) (a b:α):Res Bool:= .ok (neg.xor (decide (a=b)))
theorem aL5 (a b:Int):SimR D.int (addI (.int a) (.int b)) (addC a b):=rfl
theorem SimR.ite {e:α→γ} {p:Prop} [Decidable p] {r r':Res γ} {q q':Res α} (h:SimR e r q) (h':SimR e r' q'):SimR e (if p then r else r') (if p then q else q'):=by
 by_cases z:p
 · rw [if_pos z,if_pos z]; exact h
 · rw [if_neg z,if_neg z]; exact h'
theorem cq6 (a b:Int):SimR D.int (mulI (.int a) (.int b)) (mulC a b):=by rw [bE5]; exact SimR.ite rfl trivial
theorem cr1 (a b:Int):SimR D.int (bq4 (.int a) (.int b)) (cw3 a b):=by rw [bq3]; exact SimR.ite rfl trivial
theorem aR7 (a b:Int):SimR D.int (modI (.int a) (.int b)) (modC a b):=by rw [bE7]; exact SimR.ite rfl trivial
theorem o_pow (a b:Int):SimR D.int (powI (.int a) (.int b)) (powC a b):=by rw [bC7]; exact SimR.ite rfl trivial
theorem o_lt (a b:Int):SimR D.bl (ltI (.int a) (.int b)) (ltC a b):=rfl
theorem o_gt (a b:Int):SimR D.bl (gtI (.int a) (.int b)) (gtC a b):=rfl
theorem o_ge (a b:Int):SimR D.bl (geI (.int a) (.int b)) (geC a b):=rfl
theorem bD9 (a:Int):SimR D.int (negI (.int a)) (negC a):=rfl
theorem cq5 (a:Bool):SimR D.bl (notB (.bl a)) (notC a):=rfl
theorem av8 (neg:Bool) (a b:Int):SimR D.bl (eqS neg (.int a) (.int b)) (eqC neg a b):=rfl
@[simp] noncomputable def isnC (neg:Bool) (f:α→Bool) (a:α):Res Bool:= .ok (neg.xor (f a))
theorem ar8 {e:α→D} {m:Mi.Env→Res D} {c:σ→Res α} {neg:Bool} {f:α→Bool} (h:∀ a,aM6 (e a)=f a) (h1:EJ rep e m c):EJ rep D.bl (bn (isNb neg) m (cst .non)) (unC (isnC neg f) c):=fun s=>(h1 s).bnd fun a=>by
 show isNb neg (e a) .non= .ok (.bl (neg.xor (f a)))
 rw [← h a]
 rfl
@[simp] noncomputable def nonO (o:Option α):Bool:=o.isNone
theorem aG6 {e:α→D} (h:∀ a,aM6 (e a)=false) (o:Option α):aM6 (eO e o)=nonO o:=by
 cases o with
 | none=>rfl
 | some a=>exact h a
theorem ac2 {m:Mi.Env→Res D} {c:σ→Res Bool} (h:EJ rep D.bl m c):EJ rep (id:Bool→Bool) (tst m) c:=fun s=>by
 have h:=h s
 cases q:c s with
 | ok a=>rw [q] at h; have h:m (rep s)= .ok (.bl a):=h; show tst m (rep s)= .ok a; unfold tst; rw [h]; rfl
 | exc x=>rw [q] at h; have h:m (rep s)= .exc x:=h; show tst m (rep s)= .exc x; unfold tst; rw [h]; rfl
 | bad=>trivial
@[simp] noncomputable def andC (a b:σ→Res Bool):σ→Res Bool:=fun s=>(a s).bind fun c=>if c=true then b s else .ok false
@[simp] noncomputable def orC (a b:σ→Res Bool):σ→Res Bool:=fun s=>(a s).bind fun c=>if c=true then .ok true else b s
@[simp] noncomputable def iteC (c:σ→Res Bool) (a b:σ→Res α):σ→Res α:=fun s=>(c s).bind fun t=>if t=true then a s else b s
theorem cg6 {a b:Mi.Env→Res Bool} {c d:σ→Res Bool} (h1:EJ rep (id:Bool→Bool) a c) (h2:EJ rep (id:Bool→Bool) b d):EJ rep (id:Bool→Bool) (andT a b) (andC c d):=fun s=>(h1 s).bnd fun t=>SimR.ite (h2 s) rfl
theorem az7 {a b:Mi.Env→Res Bool} {c d:σ→Res Bool} (h1:EJ rep (id:Bool→Bool) a c) (h2:EJ rep (id:Bool→Bool) b d):EJ rep (id:Bool→Bool) (orT a b) (orC c d):=fun s=>(h1 s).bnd fun t=>SimR.ite rfl (h2 s)
theorem at6 {a:Mi.Env→Res Bool} {c:σ→Res Bool} (h1:EJ rep (id:Bool→Bool) a c):EJ rep (id:Bool→Bool) (notT a) (unC notC c):=fun s=>(h1 s).bnd fun t=>rfl
theorem bq8 {a b:Mi.Env→Res D} {c d:σ→Res Bool} (h1:EJ rep D.bl a c) (h2:EJ rep D.bl b d):EJ rep D.bl (andD a b) (andC c d):=fun s=>by
 have:=ac2 h1 s
 exact SimR.bnd (e:=(id:Bool→Bool)) this fun t=>SimR.ite (h2 s) rfl
theorem cw8 {e:α→D} {t:Mi.Env→Res Bool} {a b:Mi.Env→Res D} {ct:σ→Res Bool} {c d:σ→Res α} (ht:EJ rep (id:Bool→Bool) t ct) (h1:EJ rep e a c) (h2:EJ rep e b d):EJ rep e (iteD t a b) (iteC ct c d):=fun s=>(ht s).bnd fun t=>SimR.ite (h1 s) (h2 s)
structure Dat (e:α→D) [DecidableEq α] where
 py:α→PyData
 dep:Nat
 h0:∀ a,toPy (e a)=some (py a)
 lay:∀ a,(py a).canLay0=true
 depth:∀ a,(py a).depth≤dep
 eqv:∀ a b,PyData.eqv (py a) (py b)=decide (a=b)
 nomix:∀ a b,SeqAt.noMix (py a) (py b)=true
theorem Dat.same {e:α→D} [DecidableEq α] (A:Dat e) (a b:α):PySem.Spec.same (A.py a) (A.py b)=decide (a=b):=by rw [← A.eqv,SeqAt.same_eq_eqv _ _ (A.nomix a b)]
theorem Dat.shp {e:α→D} [DecidableEq α] (A:Dat e) (hd:A.dep≤64) (a:α):SeqAt.shaped (A.py a)=true:=by
 unfold SeqAt.shaped
 rw [A.lay a,Bool.true_and]
 exact decide_eq_true (Nat.le_trans (A.depth a) hd)
theorem cb2 {e:α→D} [DecidableEq α] (A:Dat e) (hd:A.dep≤64) (neg:Bool) (a b:α):SimR D.bl (eqD neg (e a) (e b)) (eqC neg a b):=by
 show eqD neg (e a) (e b)= .ok (.bl (neg.xor (decide (a=b))))
 unfold eqD
 rw [A.h0,A.h0]
 show (if _ then _ else _)=_
 rw [if_pos ⟨A.shp hd a,A.shp hd b⟩,A.eqv]
@[simp] noncomputable def inC [DecidableEq α] (neg:Bool) (a:α) (l:List α):Res Bool:= .ok (neg.xor (decide (a∈l)))
theorem cr0 {e:α→D} [DecidableEq α] (A:Dat e) (hd:A.dep≤60) (a:α) (l:List α):SimR D.bl (inD (e a) (eL e l)) (inC false a l):=by
 have:=(cf4 A.h0 A.lay (fun a=>Nat.le_trans (A.depth a) hd) A.same A.nomix a l).1
 show inD (e a) (.lst (l.map e))= .ok (.bl (false.xor (decide (a∈l))))
 rw [this,Bool.false_xor]
noncomputable def bf7:Dat D.int:=⟨PyData.int,1,fun _=>rfl,fun a=>by simp [PyData.canLay0],fun a=>by simp [PyData.depth],fun a b=>by simp only [PyData.eqv]; exact Bool.beq_eq_decide_eq _ _,fun a b=>by simp [SeqAt.noMix]⟩
theorem aE1 {g:α→PyData} [DecidableEq α] (h:∀ a b,PyData.eqv (g a) (g b)=decide (a=b)):∀ t u:List α,PyData.eqvAll (t.map g) (u.map g)=decide (t=u)
 | [],[]=>by simp [PyData.eqvAll]
 | [],_ :: _=>by simp [PyData.eqvAll]
 | _ :: _,[]=>by simp [PyData.eqvAll]
 | r :: t,q :: u=>by
   rw [List.map_cons,List.map_cons,PyData.eqvAll,h,aE1 h t u]
   by_cases h1:r=q <;> by_cases h2:t=u <;> simp [h1,h2]
end
section
variable {σ α β γ δ:Type} {rep:σ→Mi.Env}
theorem av0 {g:α→PyData} (h:∀ a b,SeqAt.noMix (g a) (g b)=true):∀ t u:List α,SeqAt.noMixAll (t.map g) (u.map g)=true
 | [],[]=>by simp [SeqAt.noMixAll]
 | [],_ :: _=>by simp [SeqAt.noMixAll]
 | _ :: _,[]=>by simp [SeqAt.noMixAll]
 | r :: t,q :: u=>by rw [List.map_cons,List.map_cons,SeqAt.noMixAll,h,av0 h t u]; rfl
theorem aD9 {g:α→PyData} (h:∀ a,(g a).canLay0=true):∀ l:List α,PyData.canLayAll0 (l.map g)=true
 | []=>by simp [PyData.canLayAll0]
 | a :: l=>by simp [PyData.canLayAll0,h a,aD9 h l]
theorem av4 {g:α→PyData} {n:Nat} (h:∀ a,(g a).depth≤n):∀ l:List α,PyData.depthAll (l.map g)≤n
 | []=>by simp [PyData.depthAll]
 | a :: l=>by rw [List.map_cons,PyData.depthAll]; have:=h a; have:=av4 h l; omega
noncomputable def bH0 {e:α→D} [DecidableEq α] (A:Dat e):Dat (eL e):=⟨fun l=> .list (l.map A.py),A.dep + 1,fun l=>ax1 A.h0 l,fun l=>by rw [PyData.canLay0]; exact aD9 A.lay l,fun l=>by rw [PyData.depth]; have:=av4 A.depth l; omega,fun a b=>by rw [PyData.eqv]; exact aE1 A.eqv a b,fun a b=>by rw [SeqAt.noMix]; exact av0 A.nomix a b⟩
theorem aw7 {d:PyData} (h:d≠ .none):PyData.eqv .none d=false∧PyData.eqv d .none=false∧SeqAt.noMix .none d=true∧SeqAt.noMix d .none=true:=by
 cases d with
 | none=>exact absurd rfl h
 | _=>simp [PyData.eqv,SeqAt.noMix]
noncomputable def cg8 {e:α→D} [DecidableEq α] (A:Dat e) (F:∀ a,A.py a≠ .none):Dat (eO e):=⟨fun o=>match o with | none=> .none | some a=>A.py a,A.dep + 1,fun o=>by
 cases o with
 | none=>rfl
 | some a=>exact A.h0 a,fun o=>by
 cases o with
 | none=>simp [PyData.canLay0]
 | some a=>exact A.lay a,fun o=>by
 cases o with
 | none=>simp [PyData.depth]
 | some a=>exact Nat.le_succ_of_le (A.depth a),fun a b=>by
 cases a with
 | none =>
   cases b with
   | none=>simp [PyData.eqv]
   | some b=>exact (aw7 (F b)).1.trans (by simp)
 | some a =>
   cases b with
   | none=>exact (aw7 (F a)).2.1.trans (by simp)
   | some b=>exact (A.eqv a b).trans (by simp),fun a b=>by
 cases a with
 | none =>
   cases b with
   | none=>simp [SeqAt.noMix]
   | some b=>exact (aw7 (F b)).2.2.1
 | some a =>
   cases b with
   | none=>exact (aw7 (F a)).2.2.2
   | some b=>exact A.nomix a b⟩
theorem bH1 (a:Int):bf7.py a≠ .none:=fun h=>PyData.noConfusion (show PyData.int a= .none from h)
theorem ba6 {e:α→D} [DecidableEq α] (A:Dat e) (a:List α):(bH0 A).py a≠ .none:=fun h=>PyData.noConfusion (show PyData.list (a.map A.py)= .none from h)
@[simp] noncomputable def aR8 (_:Unit):Res (Option α):= .ok none
theorem aI8 {e:α→D} (u:Unit):SimR (eO e) (.ok (eN u)) (aR8 u):=rfl
@[simp] noncomputable def cj9 (xs:List Unit):Res (List (Option α)):= .ok (xs.map fun _=>none)
theorem by4 {e:α→D} (xs:List Unit):SimR (eL (eO e)) (.ok (eL eN xs)) (cj9 xs):=by
 show Res.ok (D.lst (xs.map eN))=Res.ok (D.lst ((xs.map fun _=>(none:Option α)).map (eO e)))
 rw [List.map_map]; rfl
@[simp] noncomputable def cj8 (xs:List α):Res (List (Option α)):= .ok (xs.map some)
theorem by3 {e:α→D} (xs:List α):SimR (eL (eO e)) (.ok (eL e xs)) (cj8 xs):=by
 show Res.ok (D.lst (xs.map e))=Res.ok (D.lst ((xs.map some).map (eO e)))
 rw [List.map_map]; rfl
@[simp] noncomputable def cbC (b:Bool) (_:α):Res Bool:= .ok b
theorem ba4 {e:α→D} {n:String} {b:Bool} {m:Mi.Env→Res D} {c:σ→Res α} (h:∀ a,isT (e a) (.ty n)= .ok (.bl b)) (h1:EJ rep e m c):EJ rep D.bl (bn isT m (cst (.ty n))) (unC (cbC b) c):=fun s=>(h1 s).bnd fun a=>h a
@[simp] noncomputable def oisC (b0 b1:Bool) (o:Option α):Res Bool:= .ok (match o with | none=>b0 | some _=>b1)
theorem cq3 {e:α→D} {n:D} {b0 b1:Bool} (h0:isT .non n= .ok (.bl b0)) (h1:∀ a,isT (e a) n= .ok (.bl b1)) (o:Option α):SimR D.bl (isT (eO e o) n) (oisC b0 b1 o):=by
 cases o with
 | none=>exact h0
 | some a=>exact h1 a
@[simp] noncomputable def nilC:σ→Res (List α):=fun _=> .ok []
@[simp] noncomputable def af9 (a:σ→Res α) (r:σ→Res (List α)):σ→Res (List α):=fun s=>(a s).bind fun x=>(r s).bind fun xs=> .ok (x :: xs)
theorem af7 {e:α→D}:EJ rep (List.map e) esN (nilC:σ→Res (List α)):=fun s=>rfl
theorem ad3 {e:α→D} {m:Mi.Env→Res D} {n:Mi.Env→Res (List D)} {c:σ→Res α} {d:σ→Res (List α)} (h1:EJ rep e m c) (h2:EJ rep (List.map e) n d):EJ rep (List.map e) (esC m n) (af9 c d):=fun s=>(h1 s).bnd fun a=>(h2 s).bnd fun b=>rfl
@[simp] noncomputable def mkC (c:σ→Res (List α)):σ→Res (List α):=fun s=>(c s).bind fun xs=>if xs.length≤aa7 then .ok xs else .bad
theorem af8 {e:α→D} {m:Mi.Env→Res (List D)} {c:σ→Res (List α)} (h:EJ rep (List.map e) m c):EJ rep (eL e) (mkL m) (mkC c):=fun s=>(h s).bnd fun xs=>by rw [List.length_map]; exact SimR.ite rfl trivial
@[simp] noncomputable def prC (a:σ→Res α) (b:σ→Res β):σ→Res (α×β):=fun s=>(a s).bind fun x=>(b s).bind fun y=> .ok (x,y)
theorem ap9 {e:α→D} {e':β→D} {m n:Mi.Env→Res D} {c:σ→Res α} {d:σ→Res β} (h1:EJ rep e m c) (h2:EJ rep e' n d):EJ rep (eT2 e e') (mkT (esC m (esC n esN))) (prC c d):=fun s=>by
 have h1:=h1 s
 have h2:=h2 s
 unfold prC
 cases q1:c s with
 | bad=>trivial
 | exc x=>rw [q1] at h1; have h1:m (rep s)= .exc x:=h1; show mkT _ (rep s)= .exc x; simp only [mkT,esC,h1,Res.bind]
 | ok a =>
   rw [q1] at h1; have h1:m (rep s)= .ok (e a):=h1
   cases q2:d s with
   | bad=>trivial
   | exc x=>rw [q2] at h2; have h2:n (rep s)= .exc x:=h2; show mkT _ (rep s)= .exc x; simp only [mkT,esC,h1,h2,Res.bind]
   | ok b=>rw [q2] at h2; have h2:n (rep s)= .ok (e' b):=h2; show mkT _ (rep s)= .ok (eT2 e e' (a,b)); simp only [mkT,esC,esN,h1,h2,Res.bind,List.length_cons,List.length_nil]; rw [if_pos (by decide)]; rfl
theorem cg2 {e:α→D} {e':β→D} {e'':γ→D} {m n o:Mi.Env→Res D} {c:σ→Res α} {d:σ→Res β} {f:σ→Res γ} (h1:EJ rep e m c) (h2:EJ rep e' n d) (h3:EJ rep e'' o f):EJ rep (eT3 e e' e'') (mkT (esC m (esC n (esC o esN)))) (prC c (prC d f)):=fun s=>by
 have h1:=h1 s
 have h2:=h2 s
 have h3:=h3 s
 simp only [prC]
 cases q1:c s with
 | bad=>trivial
 | exc x=>rw [q1] at h1; have h1:m (rep s)= .exc x:=h1; show mkT _ (rep s)= .exc x; simp only [mkT,esC,h1,Res.bind]
 | ok a =>
   rw [q1] at h1; have h1:m (rep s)= .ok (e a):=h1
   cases q2:d s with
   | bad=>trivial
   | exc x=>rw [q2] at h2; have h2:n (rep s)= .exc x:=h2; show mkT _ (rep s)= .exc x; simp only [mkT,esC,h1,h2,Res.bind]
   | ok b =>
     rw [q2] at h2; have h2:n (rep s)= .ok (e' b):=h2
     cases q3:f s with
     | bad=>trivial
     | exc x=>rw [q3] at h3; have h3:o (rep s)= .exc x:=h3; show mkT _ (rep s)= .exc x; simp only [mkT,esC,h1,h2,h3,Res.bind]
     | ok z=>rw [q3] at h3; have h3:o (rep s)= .ok (e'' z):=h3; show mkT _ (rep s)= .ok (eT3 e e' e'' (a,b,z)); simp only [mkT,esC,esN,h1,h2,h3,Res.bind,List.length_cons,List.length_nil]; rw [if_pos (by decide)]; rfl
@[simp] noncomputable def lenC (xs:List α):Res Int:= .ok xs.length
theorem ah7 {e:α→D} (xs:List α):SimR D.int (lenD (eL e xs)) (lenC xs):=by show Res.ok (D.int _)=Res.ok (D.int _); rw [List.length_map]
theorem cq9 (xs:List Int):SimR D.int (lenD (eS xs)) (lenC xs):=by show Res.ok (D.int _)=Res.ok (D.int _); rw [List.length_map]
theorem cj5 {e:α→γ} (xs:List α) (i:Int):atI (xs.map e) i=(atI xs i).map e:=by
 unfold atI
 rw [List.length_map]
 cases ixN xs.length i with
 | none=>rfl
 | some j=>simp only [Option.bind_some,List.getElem?_map]
@[simp] noncomputable def ixC (xs:List α) (i:Int):Res α:=match atI xs i with | some a=> .ok a | none=> .bad
theorem bQ1 {e:α→D} (xs:List α) (i:Int):SimR e (atD (xs.map e) i) (ixC xs i):=by
 unfold atD ixC
 rw [cj5]
 cases atI xs i <;> trivial
theorem ai0 {e:α→D} (xs:List α) (i:Int):SimR e (ixL (eL e xs) (.int i)) (ixC xs i):=bQ1 xs i
theorem o_ixS (xs:List Int) (i:Int):SimR D.int (ixL (eS xs) (.int i)) (ixC xs i):=bQ1 xs i
@[simp] noncomputable def thrC (p:α×β×γ):Res γ:= .ok p.2.2
theorem cg5 {e:α→D} {e':β→D} {F:D→D→Res D} {f:α→Res β} {k:D} {m:Mi.Env→Res D} {c:σ→Res α} (h:∀ a,SimR e' (F (e a) k) (f a)) (h1:EJ rep e m c):EJ rep e' (bn F m (cst k)) (unC f c):=fun s=>(h1 s).bnd fun a=>h a
theorem o_q2 {e:α→D} {e':β→D} {e'':γ→D} (p:α×β×γ):SimR e'' (ixT (eT3 e e' e'' p) (.int 2)) (thrC p):=rfl
@[simp] noncomputable def catC (xs ys:List α):Res (List α):=if xs.length + ys.length≤aa7 then .ok (xs ++ ys) else .bad
theorem bE2 {e:α→D} (xs ys:List α):SimR (eL e) (catL (eL e xs) (eL e ys)) (catC xs ys):=by
 show SimR (eL e) (if (xs.map e).length + (ys.map e).length≤aa7 then .ok (.lst (xs.map e ++ ys.map e)) else .bad) (catC xs ys)
 rw [List.length_map,List.length_map]
 exact SimR.ite (by show Res.ok (D.lst _)=Res.ok (D.lst _); rw [List.map_append]) trivial
theorem cq4 {e:α→D} (xs:List α):SimR (eTs e) (tupL (eL e xs)) (idC xs):=rfl
@[simp] noncomputable def aC7 (p:α×α):Res (List α):= .ok [p.1,p.2]
theorem aq3 {e:α→D} (p:α×α):SimR (eTs e) (.ok (eT2 e e p)) (aC7 p):=rfl
@[simp] noncomputable def dinC (neg:Bool) (k:List Int) (F:DI β):Res Bool:= .ok (neg.xor (F.get k).isSome)
@[simp] noncomputable def dg2C (F:DI β) (k:List Int) (x:β):Res β:= .ok ((F.get k).getD x)
@[simp] noncomputable def dg1C (F:DI β) (k:List Int):Res (Option β):= .ok (F.get k)
theorem bE1 {e:β→D} (neg:Bool) (k:List Int) (F:DI β):SimR D.bl (dinD neg (eTs D.int k) (encD e F)) (dinC neg k F):=by
 show dinD neg (.tup (k.map D.int)) (encD e F)= .ok (.bl (neg.xor (F.get k).isSome))
 unfold dinD
 rw [az2]
 simp
@[simp] noncomputable def cw1 (cd:σ→Res (DI β)) (ck:σ→Res (List Int)) (cx:σ→Res β):σ→Res β:=fun s=>(cd s).bind fun F=>(ck s).bind fun k=>(cx s).bind fun x=>dg2C F k x
theorem cg3 {e:β→D} {md mk mx:Mi.Env→Res D} {cd:σ→Res (DI β)} {ck:σ→Res (List Int)} {cx:σ→Res β} (h1:EJ rep (encD e) md cd) (h2:EJ rep (eTs D.int) mk ck) (h3:EJ rep e mx cx) :
 EJ rep e (cf7 md mk mx) (cw1 cd ck cx):=fun s=>(h1 s).bnd fun F=>by
 show SimR e (if true=true then _ else _) _
 rw [if_pos rfl]
 refine (h2 s).bnd fun k=>(h3 s).bnd fun x=>?_
 show av3 (encD e F) (.tup (k.map D.int)) (e x)= .ok (e ((F.get k).getD x))
 unfold av3
 rw [az2]
 cases F.get k <;> rfl
theorem cg4 {e:β→D} {md mk:Mi.Env→Res D} {cd:σ→Res (DI β)} {ck:σ→Res (List Int)} (h1:EJ rep (encD e) md cd) (h2:EJ rep (eTs D.int) mk ck):EJ rep (eO e) (cf8 md mk) (bnC dg1C cd ck):=fun s=>(h1 s).bnd fun F=>by
 show SimR (eO e) (if true=true then _ else _) _
 rw [if_pos rfl]
 refine (h2 s).bnd fun k=>?_
 show av3 (encD e F) (.tup (k.map D.int)) .non= .ok (eO e (F.get k))
 unfold av3
 rw [az2]
 cases F.get k <;> rfl
@[simp] noncomputable def bP3 (xs:List Int) (d:Int):Res Int:= .ok (match xs with | []=>d | x :: r=>ag4 r x)
@[simp] noncomputable def cu0 (xs:List Int) (d:Int):Res Int:= .ok (match xs with | []=>d | x :: r=>an3 r x)
theorem ag9:∀ l:List Int,ae4 (l.map D.int)=some l
 | []=>rfl
 | x :: l=>by rw [List.map_cons,ae4,ag9 l]; rfl
theorem cb1 (xs:List Int) (d:Int):SimR D.int (extD ag4 (eL D.int xs) (.int d)) (bP3 xs d):=by
 show extD ag4 (.lst (xs.map D.int)) (.int d)=_
 unfold extD
 dsimp only
 rw [ag9]
 cases xs <;> rfl
theorem cq7 (xs:List Int) (d:Int):SimR D.int (extD an3 (eL D.int xs) (.int d)) (cu0 xs d):=by
 show extD an3 (.lst (xs.map D.int)) (.int d)=_
 unfold extD
 dsimp only
 rw [ag9]
 cases xs <;> rfl
@[simp] noncomputable def aS1 (xs:List Int):Res Int:=if xs.length < 4000 then .ok (dd xs).length else .bad
theorem bE0 (xs:List Int):SimR D.int (aM2 (eL D.int xs)) (aS1 xs):=by
 show SimR D.int (aM2 (.lst (xs.map D.int))) _
 unfold aM2 aS1
 dsimp only
 rw [ag9]
 exact SimR.ite rfl trivial
theorem aB5:∀ l:List Bool,aq2 (l.map D.bl)=some l
 | []=>rfl
 | x :: l=>by rw [List.map_cons,aq2,aB5 l]; rfl
@[simp] noncomputable def anyC (xs:List Bool):Res Bool:= .ok (xs.any id)
theorem o_any (xs:List Bool):SimR D.bl (anyD (eL D.bl xs)) (anyC xs):=by
 show anyD (.lst (xs.map D.bl))=_
 unfold anyD
 dsimp only
 rw [aB5]
theorem bF7 (k:Int×Int×List Int):keyP (eK k)=some k:=by
 show (ae4 (k.2.2.map D.int)).map (fun ns=>(k.1,k.2.1,ns))=some k
 rw [ag9]
 rfl
theorem aM4:∀ l:List (Int×Int×List Int),as8 (l.map eK)=some l
 | []=>rfl
 | k :: l=>by rw [List.map_cons,as8,bF7,aM4 l]
noncomputable def minK:List (Int×Int×List Int)→Option (Int×Int×List Int)
 | []=>none
 | k :: r=>some (r.foldl (fun b x=>if ah8 x b=true then x else b) k)
theorem aB7 (bt:Nat→Nat→Bool) (n:Nat):PySem.argBest bt (n + 1)=if bt (n + 1) (PySem.argBest bt n)=true then n + 1 else PySem.argBest bt n:=rfl
theorem aO5:∀ (n:Nat) (k:Int×Int×List Int) (r:List (Int×Int×List Int)),r.length=n →
 (k :: r)[PySem.argBest (fun i j=>ah8 ((k :: r).getD i (0,0,[])) ((k :: r).getD j (0,0,[]))) n]?=minK (k :: r):=by
 intro n
 induction n with
 | zero =>
   intro k r h
   have:r=[]:=List.length_eq_zero_iff.mp h
   subst this
   rfl
 | succ n ih =>
   intro k r h
   obtain ⟨q,x,rfl⟩:∃ q x,r=q ++ [x]:=by
    rcases List.eq_nil_or_concat r with z | ⟨q,x,z⟩
    · subst z; cases h
    · exact ⟨q,x,by rw [z,List.concat_eq_append]⟩
   have hq:q.length=n:=by simpa using h
   have ihq:=ih k q hq
   have gl:∀ i,i≤n→(k :: (q ++ [x])).getD i (0,0,[])=(k :: q).getD i (0,0,[]):=fun i hi=>by
    rw [← List.cons_append,List.getD_eq_getElem?_getD,List.getD_eq_getElem?_getD,List.getElem?_append_left (by simp; omega)]
   have ab:∀ m,m≤n→PySem.argBest (fun i j=>ah8 ((k :: (q ++ [x])).getD i (0,0,[])) ((k :: (q ++ [x])).getD j (0,0,[]))) m=PySem.argBest (fun i j=>ah8 ((k :: q).getD i (0,0,[])) ((k :: q).getD j (0,0,[]))) m:=by
    intro m
    induction m with
    | zero=>intro _; rfl
    | succ m ihm =>
      intro hm
      rw [aB7,aB7,ihm (by omega)]
      have hl:=au3 (fun i j=>ah8 ((k :: q).getD i (0,0,[])) ((k :: q).getD j (0,0,[]))) m
      rw [gl (m + 1) hm,gl _ (by omega)]
   rw [aB7,ab n (Nat.le_refl _)]
   have hl:=au3 (fun i j=>ah8 ((k :: q).getD i (0,0,[])) ((k :: q).getD j (0,0,[]))) n
   generalize PySem.argBest (fun i j=>ah8 ((k :: q).getD i (0,0,[])) ((k :: q).getD j (0,0,[]))) n=b at ihq hl
   have e1:(k :: (q ++ [x])).getD (n + 1) (0,0,[])=x:=by
    rw [List.getD_cons_succ,List.getD_eq_getElem?_getD,List.getElem?_append_right (by omega),hq,Nat.sub_self]; rfl
   rw [e1,gl b hl]
   have e2:minK (k :: q)=some ((k :: q).getD b (0,0,[])):=by
    rw [← ihq,List.getD_eq_getElem?_getD,List.getElem?_eq_getElem (by simp; omega)]; rfl
   unfold minK at e2 ⊢
   dsimp only at e2 ⊢
   injection e2 with e2
   rw [List.foldl_append,List.foldl_cons,List.foldl_nil,e2]
   by_cases z:ah8 x ((k :: q).getD b (0,0,[]))=true
   · rw [if_pos z,if_pos z,List.getElem?_cons_succ,List.getElem?_append_right (by omega),hq,Nat.sub_self]; rfl
   · rw [if_neg z,if_neg z,← List.cons_append,List.getElem?_append_left (by simp; omega),List.getElem?_eq_getElem (by simp; omega),List.getD_eq_getElem?_getD,List.getElem?_eq_getElem (by simp; omega)]; rfl
@[simp] noncomputable def cu9 (xs:List (Int×Int×List Int)):Res (Option (Int×Int×List Int)):= .ok (minK xs)
theorem cq8 (xs:List (Int×Int×List Int)):SimR (eO eK) (bn5 (eL eK xs) .non) (cu9 xs):=by
 cases xs with
 | nil=>rfl
 | cons k r =>
   have hk:as8 (eK k :: r.map eK)=some (k :: r):=aM4 (k :: r)
   show bn5 (.lst (eK k :: r.map eK)) .non= .ok (eO eK (minK (k :: r)))
   simp only [bn5,hk]
   rw [List.length_map,show eK k :: r.map eK=(k :: r).map eK from rfl,List.getElem?_map,aO5 _ k r rfl]
   rfl
end
section
variable {σ σ' α β γ δ:Type} {rep:σ→Mi.Env} {rep':σ'→Mi.Env}
noncomputable def repI (rep:σ→Mi.Env) (e:α→D) (ix:List Nat):α×σ→Mi.Env:=fun p=>some (e p.1) :: capD (rep p.2) ix
noncomputable def an9 (ti:α→Res Bool) (te:α→Res β):List α→Res (List β)
 | []=> .ok []
 | a :: r=>(ti a).calm.bind fun c=>if c=true then (te a).calm.bind fun x=>(an9 ti te r).bind fun xs=> .ok (x :: xs) else an9 ti te r
noncomputable def ag0 (src:σ→Res (List α)) (ti:α×σ→Res Bool) (te:α×σ→Res β):σ→Res (List β):=fun s=>(src s).bind fun xs=>if xs.length < aa7 then an9 (fun a=>ti (a,s)) (fun a=>te (a,s)) xs else .bad
theorem aj0 {e:α→D} {e':β→D} {ix:List Nat} {src:Mi.Env→Res (List D)} {ti:Mi.Env→Res Bool} {te:Mi.Env→Res D} {csrc:σ→Res (List α)} {cti:α×σ→Res Bool} {cte:α×σ→Res β}
 (hs:EJ rep (List.map e) src csrc) (ht:EJ (repI rep e ix) (id:Bool→Bool) ti cti) (he:EJ (repI rep e ix) e' te cte):EJ rep (eL e') (comp src ix ti te) (ag0 csrc cti cte):=fun s=>(hs s).bnd fun xs=>by
 rw [List.length_map]
 refine SimR.ite ?_ trivial
 have key:∀ l:List α,SimR (List.map e') (aj5 ti te (capD (rep s) ix) (l.map e)) (an9 (fun a=>cti (a,s)) (fun a=>cte (a,s)) l):=by
  intro l
  induction l with
  | nil=>rfl
  | cons a l ih =>
    rw [List.map_cons]
    unfold aj5 an9
    refine SimR.bnd (ht (a,s)).calm fun t=>SimR.ite (SimR.bnd (he (a,s)).calm fun x=>SimR.bnd ih fun xs=>?_) ih
    rfl
 have:=key xs
 cases q:an9 (fun a=>cti (a,s)) (fun a=>cte (a,s)) xs with
 | ok ys=>rw [q] at this; have this:aj5 ti te (capD (rep s) ix) (xs.map e)= .ok (ys.map e'):=this; rw [this]; rfl
 | exc x=>rw [q] at this; have this:aj5 ti te (capD (rep s) ix) (xs.map e)= .exc x:=this; rw [this]; rfl
 | bad=>trivial
theorem ar7:EJ rep (id:Bool→Bool) (fun _=> .ok true) (fun _=> .ok true):=fun s=>rfl
theorem ai2 {e:α→D} {m:Mi.Env→Res D} {c:σ→Res (List α)} (h:EJ rep (eL e) m c):EJ rep (List.map e) (srcL m) c:=fun s=>by
 have h:=h s
 cases q:c s with
 | ok a=>rw [q] at h; have h:m (rep s)= .ok (eL e a):=h; show srcL m (rep s)= .ok (a.map e); unfold srcL; rw [h]; rfl
 | exc x=>rw [q] at h; have h:m (rep s)= .exc x:=h; show srcL m (rep s)= .exc x; unfold srcL; rw [h]; rfl
 | bad=>trivial
noncomputable def rngI (lo hi:Int):List Int:=(List.range (hi - lo).toNat).map fun i:Nat=>lo + i
noncomputable def rngC (lo hi:Int):Res (List Int):=@ite _ (-(2 ^ 62)≤lo∧lo < 2 ^ 62∧-(2 ^ 62)≤hi∧hi < 2 ^ 62) (Classical.propDecidable _) (.ok (rngI lo hi)) .bad
theorem bZ6 (lo hi:Int):(rngI lo hi).map D.int=rng lo hi:=by unfold rngI rng; rw [List.map_map]; rfl
theorem al3 {lo hi:Int} (h1:-(2 ^ 62)≤lo) (h2:lo < 2 ^ 62) (h3:-(2 ^ 62)≤hi) (h4:hi < 2 ^ 62):rngC lo hi= .ok (rngI lo hi):=by unfold rngC; rw [if_pos ⟨h1,h2,h3,h4⟩]
theorem bq6 {a b:Mi.Env→Res D} {ca cb:σ→Res Int} (h1:EJ rep D.int a ca) (h2:EJ rep D.int b cb):EJ rep (List.map D.int) (srcR a b) (bnC rngC ca cb):=fun s=>(h1 s).bnd fun i=>(h2 s).bnd fun j=>by
 show SimR _ (if -(2 ^ 62)≤i∧i < 2 ^ 62∧-(2 ^ 62)≤j∧j < 2 ^ 62 then _ else _) _
 by_cases h:-(2 ^ 62)≤i∧i < 2 ^ 62∧-(2 ^ 62)≤j∧j < 2 ^ 62
 · rw [if_pos h,al3 h.1 h.2.1 h.2.2.1 h.2.2.2]; exact congrArg Res.ok (bZ6 i j).symm
 · unfold rngC; rw [if_neg h,if_neg h]; trivial
theorem at5 {b:Mi.Env→Res D} {cb:σ→Res Int} (h2:EJ rep D.int b cb):EJ rep (List.map D.int) (aJ7 b) (unC (rngC 0) cb):=fun s=>bq6 (bP7 (a:=(0:Int)) rfl) h2 s
noncomputable def OutC.res:OutC σ α→Res α
 | .ok a _=> .ok a
 | .exc x _=> .exc x
 | .bad=> .bad
@[simp] theorem bK5 (a:α) (s:σ):(OutC.ok a s).res= .ok a:=rfl
@[simp] theorem res_exc (x:Nat) (s:σ):(OutC.exc x s:OutC σ α).res= .exc x:=rfl
@[simp] theorem res_bad:(OutC.bad:OutC σ α).res= .bad:=rfl
@[simp] noncomputable def bndO (r:Res α) (s:σ) (k:α→OutC σ β):OutC σ β:=match r with
 | .ok a=>k a
 | .exc x=> .exc x s
 | .bad=> .bad
theorem SimO.res {e:α→D} {fm:List D→Out D} {ds:List D} {q:OutC σ α} (h:SimO rep e (fm ds) q):SimR e (au1 fm ds) q.res:=by
 unfold au1
 cases q with
 | ok a s=>have h:fm ds= .ok (e a) (rep s):=h; rw [h]; rfl
 | exc x s=>have h:fm ds= .exc x (rep s):=h; rw [h]; rfl
 | bad=>trivial
@[simp] noncomputable def wbC (w:σ'→σ→σ) (s:σ):OutC σ' α→OutC σ α
 | .ok a s'=> .ok a (w s' s)
 | .exc x s'=> .exc x (w s' s)
 | .bad=> .bad
theorem SimO.wb {plan:List Ap} {fm:List D→Out D} {ds:List D} {e:α→D} {q:OutC σ' α} {w:σ'→σ→σ} (hw:∀ s' s,wbGo plan 0 (rep' s') (rep s)=rep (w s' s)) (h:SimO rep' e (fm ds) q) (s:σ):SimO rep e (aw0 plan fm ds (rep s)) (wbC w s q):=by
 unfold aw0
 cases q with
 | ok a s'=>have h:fm ds= .ok (e a) (rep' s'):=h; rw [h]; show Out.ok _ _=Out.ok _ _; rw [hw]
 | exc x s'=>have h:fm ds= .exc x (rep' s'):=h; rw [h]; show Out.exc _ _=Out.exc _ _; rw [hw]
 | bad=>trivial
@[simp] noncomputable def pc1C {α0:Type} (f:α0→OutC σ' γ) (c0:σ→Res α0):σ→Res γ:=fun s=>(c0 s).bind fun x0=>(f x0).res
@[simp] noncomputable def pk1C {α0:Type} (f:α0→Res γ) (c0:σ→Res α0):σ→Res γ:=fun s=>(c0 s).bind fun x0=>f x0
theorem row1 {α0:Type} {e0:α0→D} {m0:Mi.Env→Res D} {c0:σ→Res α0} {eR:γ→δ} {k:List D→Res δ} {f:α0→Res γ} (hf:∀ x0,SimR eR (k [e0 x0]) (f x0)) (h0:EJ rep e0 m0 c0):EJ rep eR (fun ρ=>((esC m0 esN) ρ).bind k) (pk1C f c0):=fun s=>by
 have g0:=h0 s
 unfold pk1C
 cases q0:c0 s with
 | bad=>trivial
 | exc x=>rw [q0] at g0; have g0:m0 (rep s)= .exc x:=g0; show (_:Res _)= .exc x; simp only [esC,g0,Res.bind]
 | ok x0 =>
   rw [q0] at g0; have g0:m0 (rep s)= .ok (e0 x0):=g0
   have z:=hf x0
   simp only [esC,esN,g0,Res.bind]
   exact z
theorem aN2 {α0:Type} {e0:α0→D} {m0:Mi.Env→Res D} {c0:σ→Res α0} {eR:γ→D} {fm:List D→Out D} {f:α0→OutC σ' γ} (hf:∀ x0,SimO rep' eR (fm [e0 x0]) (f x0)) (h0:EJ rep e0 m0 c0):EJ rep eR (pc fm (esC m0 esN)) (pc1C f c0):=row1 (k:=au1 fm) (f:=fun x0=>(f x0).res) (fun x0=>(hf x0).res) h0
theorem cw6 {α0:Type} {e0:α0→D} {m0:Mi.Env→Res D} {c0:σ→Res α0} {eR:γ→D} {c:Nat} {fm:List D→Out D} {f:α0→Res γ} (hf:∀ x0,SimR eR (aL7 c fm [e0 x0]) (f x0)) (h0:EJ rep e0 m0 c0):EJ rep eR (pk c fm (esC m0 esN)) (pk1C f c0):=row1 hf h0
theorem ba3 {α0:Type} {e0:α0→D} {m0:Mi.Env→Res D} {c0:σ→Res α0} {eR:γ→D} {c:Nat} {mn:Str} {fm:List D→Out D} {f:α0→OutC σ' γ} (ho:∀ a,ak1 c mn (e0 a)=true) (hf:∀ x0,SimO rep' eR (fm [e0 x0]) (f x0)) (h0:EJ rep e0 m0 c0):EJ rep eR (pm c mn fm m0 esN) (pc1C f c0):=fun s=>by
 have g0:=h0 s
 unfold pm pc1C
 cases q0:c0 s with
 | bad=>trivial
 | exc x=>rw [q0] at g0; have g0:m0 (rep s)= .exc x:=g0; show (_:Res _)= .exc x; simp only [esC,g0,Res.bind,ho,if_true]
 | ok x0 =>
   rw [q0] at g0; have g0:m0 (rep s)= .ok (e0 x0):=g0
   have z:=(hf x0).res
   simp only [esC,esN,g0,Res.bind,ho,if_true]
   exact z
@[simp] noncomputable def pc2C {α0 α1:Type} (f:α0→α1→OutC σ' γ) (c0:σ→Res α0) (c1:σ→Res α1):σ→Res γ:=fun s=>(c0 s).bind fun x0=>(c1 s).bind fun x1=>(f x0 x1).res
@[simp] noncomputable def pk2C {α0 α1:Type} (f:α0→α1→Res γ) (c0:σ→Res α0) (c1:σ→Res α1):σ→Res γ:=fun s=>(c0 s).bind fun x0=>(c1 s).bind fun x1=>f x0 x1
theorem row2 {α0 α1:Type} {e0:α0→D} {e1:α1→D} {m0 m1:Mi.Env→Res D} {c0:σ→Res α0} {c1:σ→Res α1} {eR:γ→δ} {k:List D→Res δ} {f:α0→α1→Res γ} (hf:∀ x0 x1,SimR eR (k [e0 x0,e1 x1]) (f x0 x1)) (h0:EJ rep e0 m0 c0) (h1:EJ rep e1 m1 c1):EJ rep eR (fun ρ=>((esC m0 (esC m1 esN)) ρ).bind k) (pk2C f c0 c1):=fun s=>by
 have g0:=h0 s
 have g1:=h1 s
 unfold pk2C
 cases q0:c0 s with
 | bad=>trivial
 | exc x=>rw [q0] at g0; have g0:m0 (rep s)= .exc x:=g0; show (_:Res _)= .exc x; simp only [esC,g0,Res.bind]
 | ok x0 =>
   rw [q0] at g0; have g0:m0 (rep s)= .ok (e0 x0):=g0
   cases q1:c1 s with
   | bad=>trivial
   | exc x=>rw [q1] at g1; have g1:m1 (rep s)= .exc x:=g1; show (_:Res _)= .exc x; simp only [esC,g0,g1,Res.bind]
   | ok x1 =>
     rw [q1] at g1; have g1:m1 (rep s)= .ok (e1 x1):=g1
     have z:=hf x0 x1
     simp only [esC,esN,g0,g1,Res.bind]
     exact z
theorem af4 {α0 α1:Type} {e0:α0→D} {e1:α1→D} {m0 m1:Mi.Env→Res D} {c0:σ→Res α0} {c1:σ→Res α1} {eR:γ→D} {fm:List D→Out D} {f:α0→α1→OutC σ' γ} (hf:∀ x0 x1,SimO rep' eR (fm [e0 x0,e1 x1]) (f x0 x1)) (h0:EJ rep e0 m0 c0) (h1:EJ rep e1 m1 c1):EJ rep eR (pc fm (esC m0 (esC m1 esN))) (pc2C f c0 c1):=row2 (k:=au1 fm) (f:=fun x0 x1=>(f x0 x1).res) (fun x0 x1=>(hf x0 x1).res) h0 h1
theorem ap0 {α0 α1:Type} {e0:α0→D} {e1:α1→D} {m0 m1:Mi.Env→Res D} {c0:σ→Res α0} {c1:σ→Res α1} {eR:γ→D} {c:Nat} {mn:Str} {fm:List D→Out D} {f:α0→α1→OutC σ' γ} (ho:∀ a,ak1 c mn (e0 a)=true) (hf:∀ x0 x1,SimO rep' eR (fm [e0 x0,e1 x1]) (f x0 x1)) (h0:EJ rep e0 m0 c0) (h1:EJ rep e1 m1 c1):EJ rep eR (pm c mn fm m0 (esC m1 esN)) (pc2C f c0 c1):=fun s=>by
 have g0:=h0 s
 have g1:=h1 s
 unfold pm pc2C
 cases q0:c0 s with
 | bad=>trivial
 | exc x=>rw [q0] at g0; have g0:m0 (rep s)= .exc x:=g0; show (_:Res _)= .exc x; simp only [esC,g0,Res.bind,ho,if_true]
 | ok x0 =>
   rw [q0] at g0; have g0:m0 (rep s)= .ok (e0 x0):=g0
   cases q1:c1 s with
   | bad=>trivial
   | exc x=>rw [q1] at g1; have g1:m1 (rep s)= .exc x:=g1; show (_:Res _)= .exc x; simp only [esC,g0,g1,Res.bind,ho,if_true]
   | ok x1 =>
     rw [q1] at g1; have g1:m1 (rep s)= .ok (e1 x1):=g1
     have z:=(hf x0 x1).res
     simp only [esC,esN,g0,g1,Res.bind,ho,if_true]
     exact z
@[simp] noncomputable def pc3C {α0 α1 α2:Type} (f:α0→α1→α2→OutC σ' γ) (c0:σ→Res α0) (c1:σ→Res α1) (c2:σ→Res α2):σ→Res γ:=fun s=>(c0 s).bind fun x0=>(c1 s).bind fun x1=>(c2 s).bind fun x2=>(f x0 x1 x2).res
@[simp] noncomputable def mc3C {α0 α1 α2:Type} (f:α0→α1→α2→OutC σ' γ) (w:σ'→σ→σ) (c0:σ→Res α0) (c1:σ→Res α1) (c2:σ→Res α2):σ→OutC σ γ:=fun s=>bndO (c0 s) s fun x0=>bndO (c1 s) s fun x1=>bndO (c2 s) s fun x2=>wbC w s (f x0 x1 x2)
@[simp] noncomputable def pk3C {α0 α1 α2:Type} (f:α0→α1→α2→Res γ) (c0:σ→Res α0) (c1:σ→Res α1) (c2:σ→Res α2):σ→Res γ:=fun s=>(c0 s).bind fun x0=>(c1 s).bind fun x1=>(c2 s).bind fun x2=>f x0 x1 x2
theorem row3 {α0 α1 α2:Type} {e0:α0→D} {e1:α1→D} {e2:α2→D} {m0 m1 m2:Mi.Env→Res D} {c0:σ→Res α0} {c1:σ→Res α1} {c2:σ→Res α2} {eR:γ→δ} {k:List D→Res δ} {f:α0→α1→α2→Res γ} (hf:∀ x0 x1 x2,SimR eR (k [e0 x0,e1 x1,e2 x2]) (f x0 x1 x2)) (h0:EJ rep e0 m0 c0) (h1:EJ rep e1 m1 c1) (h2:EJ rep e2 m2 c2):EJ rep eR (fun ρ=>((esC m0 (esC m1 (esC m2 esN))) ρ).bind k) (pk3C f c0 c1 c2):=fun s=>by
 have g0:=h0 s
 have g1:=h1 s
 have g2:=h2 s
 unfold pk3C
 cases q0:c0 s with
 | bad=>trivial
 | exc x=>rw [q0] at g0; have g0:m0 (rep s)= .exc x:=g0; show (_:Res _)= .exc x; simp only [esC,g0,Res.bind]
 | ok x0 =>
   rw [q0] at g0; have g0:m0 (rep s)= .ok (e0 x0):=g0
   cases q1:c1 s with
   | bad=>trivial
   | exc x=>rw [q1] at g1; have g1:m1 (rep s)= .exc x:=g1; show (_:Res _)= .exc x; simp only [esC,g0,g1,Res.bind]
   | ok x1 =>
     rw [q1] at g1; have g1:m1 (rep s)= .ok (e1 x1):=g1
     cases q2:c2 s with
     | bad=>trivial
     | exc x=>rw [q2] at g2; have g2:m2 (rep s)= .exc x:=g2; show (_:Res _)= .exc x; simp only [esC,g0,g1,g2,Res.bind]
     | ok x2 =>
       rw [q2] at g2; have g2:m2 (rep s)= .ok (e2 x2):=g2
       have z:=hf x0 x1 x2
       simp only [esC,esN,g0,g1,g2,Res.bind]
       exact z
theorem bP6 {α0 α1 α2:Type} {e0:α0→D} {e1:α1→D} {e2:α2→D} {m0 m1 m2:Mi.Env→Res D} {c0:σ→Res α0} {c1:σ→Res α1} {c2:σ→Res α2} {eR:γ→D} {fm:List D→Out D} {f:α0→α1→α2→OutC σ' γ} (hf:∀ x0 x1 x2,SimO rep' eR (fm [e0 x0,e1 x1,e2 x2]) (f x0 x1 x2)) (h0:EJ rep e0 m0 c0) (h1:EJ rep e1 m1 c1) (h2:EJ rep e2 m2 c2):EJ rep eR (pc fm (esC m0 (esC m1 (esC m2 esN)))) (pc3C f c0 c1 c2):=row3 (k:=au1 fm) (f:=fun x0 x1 x2=>(f x0 x1 x2).res) (fun x0 x1 x2=>(hf x0 x1 x2).res) h0 h1 h2
theorem aN1 {α0 α1 α2:Type} {e0:α0→D} {e1:α1→D} {e2:α2→D} {m0 m1 m2:Mi.Env→Res D} {c0:σ→Res α0} {c1:σ→Res α1} {c2:σ→Res α2} {eR:γ→D} {c:Nat} {mn:Str} {fm:List D→Out D} {f:α0→α1→α2→OutC σ' γ} (ho:∀ a,ak1 c mn (e0 a)=true) (hf:∀ x0 x1 x2,SimO rep' eR (fm [e0 x0,e1 x1,e2 x2]) (f x0 x1 x2)) (h0:EJ rep e0 m0 c0) (h1:EJ rep e1 m1 c1) (h2:EJ rep e2 m2 c2):EJ rep eR (pm c mn fm m0 (esC m1 (esC m2 esN))) (pc3C f c0 c1 c2):=fun s=>by
 have g0:=h0 s
 have g1:=h1 s
 have g2:=h2 s
 unfold pm pc3C
 cases q0:c0 s with
 | bad=>trivial
 | exc x=>rw [q0] at g0; have g0:m0 (rep s)= .exc x:=g0; show (_:Res _)= .exc x; simp only [esC,g0,Res.bind,ho,if_true]
 | ok x0 =>
   rw [q0] at g0; have g0:m0 (rep s)= .ok (e0 x0):=g0
   cases q1:c1 s with
   | bad=>trivial
   | exc x=>rw [q1] at g1; have g1:m1 (rep s)= .exc x:=g1; show (_:Res _)= .exc x; simp only [esC,g0,g1,Res.bind,ho,if_true]
   | ok x1 =>
     rw [q1] at g1; have g1:m1 (rep s)= .ok (e1 x1):=g1
     cases q2:c2 s with
     | bad=>trivial
     | exc x=>rw [q2] at g2; have g2:m2 (rep s)= .exc x:=g2; show (_:Res _)= .exc x; simp only [esC,g0,g1,g2,Res.bind,ho,if_true]
     | ok x2 =>
       rw [q2] at g2; have g2:m2 (rep s)= .ok (e2 x2):=g2
       have z:=(hf x0 x1 x2).res
       simp only [esC,esN,g0,g1,g2,Res.bind,ho,if_true]
       exact z
theorem bn3 {α0 α1 α2:Type} {e0:α0→D} {e1:α1→D} {e2:α2→D} {m0 m1 m2:Mi.Env→Res D} {c0:σ→Res α0} {c1:σ→Res α1} {c2:σ→Res α2} {eR:γ→D} {c:Nat} {mn:Str} {plan:List Ap} {fm:List D→Out D} {f:α0→α1→α2→OutC σ' γ} {w:σ'→σ→σ} (ho:∀ a,ak1 c mn (e0 a)=true) (hw:∀ s' s,wbGo plan 0 (rep' s') (rep s)=rep (w s' s)) (hf:∀ x0 x1 x2,SimO rep' eR (fm [e0 x0,e1 x1,e2 x2]) (f x0 x1 x2)) (h0:EJ rep e0 m0 c0) (h1:EJ rep e1 m1 c1) (h2:EJ rep e2 m2 c2):NJ rep eR (mm c mn plan fm m0 (esC m1 (esC m2 esN))) (mc3C f w c0 c1 c2):=fun s=>by
 have g0:=h0 s
 have g1:=h1 s
 have g2:=h2 s
 unfold mm mc3C
 cases q0:c0 s with
 | bad=>trivial
 | exc x=>rw [q0] at g0; have g0:m0 (rep s)= .exc x:=g0; show (_:Out _)= .exc x (rep s); simp only [esC,g0,Res.bind,Res.up,Out.bind,ho,if_true]
 | ok x0 =>
   rw [q0] at g0; have g0:m0 (rep s)= .ok (e0 x0):=g0
   cases q1:c1 s with
   | bad=>trivial
   | exc x=>rw [q1] at g1; have g1:m1 (rep s)= .exc x:=g1; show (_:Out _)= .exc x (rep s); simp only [esC,g0,g1,Res.bind,Res.up,Out.bind,ho,if_true]
   | ok x1 =>
     rw [q1] at g1; have g1:m1 (rep s)= .ok (e1 x1):=g1
     cases q2:c2 s with
     | bad=>trivial
     | exc x=>rw [q2] at g2; have g2:m2 (rep s)= .exc x:=g2; show (_:Out _)= .exc x (rep s); simp only [esC,g0,g1,g2,Res.bind,Res.up,Out.bind,ho,if_true]
     | ok x2 =>
       rw [q2] at g2; have g2:m2 (rep s)= .ok (e2 x2):=g2
       simp only [esC,esN,g0,g1,g2,Res.bind,Res.up,Out.bind,bndO,ho,if_true]
       exact SimO.wb hw (hf x0 x1 x2) s
end
section
variable {σ σ' α β γ δ:Type} {rep:σ→Mi.Env} {eR:β→D}
@[simp] noncomputable def upC (c:σ→Res α):σ→OutC σ α:=fun s=>match c s with
 | .ok a=> .ok a s
 | .exc x=> .exc x s
 | .bad=> .bad
theorem aa6 {e:α→γ} {m:Mi.Env→Res γ} {c:σ→Res α} (h:EJ rep e m c):NJ rep e (liP m) (upC c):=fun s=>by
 have h:=h s
 unfold upC liP
 cases q:c s with
 | ok a=>rw [q] at h; have h:m (rep s)= .ok (e a):=h; rw [h]; rfl
 | exc x=>rw [q] at h; have h:m (rep s)= .exc x:=h; rw [h]; rfl
 | bad=>trivial
@[simp] noncomputable def bdO (o:OutC σ α) (k:α→σ→OutC σ β):OutC σ β:=match o with
 | .ok a s=>k a s
 | .exc x s=> .exc x s
 | .bad=> .bad
theorem SimO.bd {e:α→γ} {e':β→δ} {r:Out γ} {q:OutC σ α} {k:γ→Mi.Env→Out δ} {l:α→σ→OutC σ β} (h:SimO rep e r q) (hk:∀ a s,SimO rep e' (k (e a) (rep s)) (l a s)):SimO rep e' (r.bind k) (bdO q l):=by
 cases q with
 | ok a s=>have h:r= .ok (e a) (rep s):=h; rw [h]; exact hk a s
 | exc x s=>have h:r= .exc x (rep s):=h; rw [h]; exact rfl
 | bad=>trivial
theorem ay2 {e:α→D} {e':β→D} {m:Mi.Env→Out D} {c:σ→OutC σ α} {f:α→Res β} (h:∀ a,SimR e' (.ok (e a)) (f a)) (h1:NJ rep e m c):NJ rep e' m (fun s=>bdO (c s) fun a s=>bndO (f a) s fun b=> .ok b s):=fun s=>by
 have h1:=h1 s
 dsimp only
 cases q:c s with
 | ok a s1 =>
   rw [q] at h1; have h1:m (rep s)= .ok (e a) (rep s1):=h1
   rw [h1]
   have:=h a
   show SimO rep e' (.ok (e a) (rep s1)) (bndO (f a) s1 fun b=> .ok b s1)
   cases q2:f a with
   | ok b=>rw [q2] at this; have this:Res.ok (e a)= .ok (e' b):=this; injection this with this; rw [this]; rfl
   | exc x=>rw [q2] at this; cases this
   | bad=>trivial
 | exc x s1=>rw [q] at h1; exact h1
 | bad=>trivial
@[simp] noncomputable def mvC (g:σ→Option α) (cl:σ→σ):σ→OutC σ α:=fun s=>match g s with | some a=> .ok a (cl s) | none=> .bad
theorem be9 {e:α→D} {i:Nat} {g:σ→Option α} {cl:σ→σ} (h:∀ s,rg (rep s) i=(g s).map e) (hc:∀ s,(rep s).set i none=rep (cl s)):NJ rep e (mvS i) (mvC g cl):=fun s=>by
 unfold mvS mvC
 rw [h s]
 cases g s with
 | none=>trivial
 | some a=>show Out.ok _ _=Out.ok _ _; rw [hc]
@[simp] noncomputable def l1C (g:σ→Option (List α)) (p:σ→List α→σ) (f:List α→δ→Option (γ×List α)) (c:σ→Res δ):σ→OutC σ γ:=fun s=>match g s with
 | none=> .bad
 | some xs=>bndO (c s) s fun x=>match f xs x with
   | some (r,ys)=> .ok r (p s ys)
   | none=> .bad
noncomputable def appC (xs:List α) (x:α):Option (Unit×List α):=if xs.length < aa7 then some ((),xs ++ [x]) else none
noncomputable def popC (xs:List α) (i:Int):Option (α×List α):=if 0≤i∧i < xs.length∧xs.length≤aa7 then xs[i.toNat]?.map fun d=>(d,xs.eraseIdx i.toNat) else none
noncomputable def SimF {δ':Type} (e:α→D) (e1:δ→D) (e2:γ→D) (F:List D→D→Option (D×List D)) (f:List α→δ→Option (γ×List α)):Prop:=∀ xs x,match f xs x with
 | some (r,ys)=>F (xs.map e) (e1 x)=some (e2 r,ys.map e)
 | none=>True
theorem aN0 {e:α→γ}:∀ (xs:List α) (i:Nat),(xs.map e).eraseIdx i=(xs.eraseIdx i).map e
 | [],i=>by simp
 | x :: xs,0=>by simp
 | x :: xs,i + 1=>by rw [List.map_cons,List.eraseIdx_cons_succ,List.eraseIdx_cons_succ,List.map_cons,aN0 xs i]
theorem cg1 {e:α→D}:SimF (δ':=Unit) e e eN appF appC:=fun xs x=>by
 unfold appC appF
 rw [List.length_map]
 by_cases h:xs.length < aa7
 · rw [if_pos h,if_pos h]
   show some (D.non,xs.map e ++ [e x])=some (eN (),(xs ++ [x]).map e)
   rw [List.map_append]; rfl
 · rw [if_neg h]; trivial
theorem f_pop {e:α→D}:SimF (δ':=Unit) e D.int e popF popC:=fun xs i=>by
 unfold popC popF
 dsimp only
 rw [List.length_map]
 by_cases h:0≤i∧i < xs.length∧xs.length≤aa7
 · rw [if_pos h,if_pos h,List.getElem?_map]
   cases xs[i.toNat]? with
   | none=>trivial
   | some a =>
     show some (e a,(xs.map e).eraseIdx i.toNat)=some (e a,(xs.eraseIdx i.toNat).map e)
     rw [aN0]
 · rw [if_neg h]; trivial
theorem bE4 {e:α→D} {e1:δ→D} {e2:γ→D} {get:Mi.Env→Option D} {set:Mi.Env→D→Mi.Env} {g:σ→Option (List α)} {p:σ→List α→σ} {F:List D→D→Option (D×List D)} {f:List α→δ→Option (γ×List α)} {m:Mi.Env→Res D} {c:σ→Res δ}
 (hg:∀ s,get (rep s)=(g s).map (eL e)) (hs:∀ s xs,set (rep s) (eL e xs)=rep (p s xs)) (hF:SimF (δ':=Unit) e e1 e2 F f) (h1:EJ rep e1 m c):NJ rep e2 (lst1 get set F m) (l1C g p f c):=fun s=>by
 have h1:=h1 s
 unfold lst1 l1C
 rw [hg]
 cases g s with
 | none=>trivial
 | some xs =>
   show SimO rep e2 (lstR set F (rep s) (xs.map e) (m (rep s))) (bndO (c s) s _)
   cases q:c s with
   | bad=>trivial
   | exc x=>rw [q] at h1; have h1:m (rep s)= .exc x:=h1; rw [h1]; rfl
   | ok x =>
     rw [q] at h1; have h1:m (rep s)= .ok (e1 x):=h1
     rw [h1]
     have:=hF xs x
     show SimO rep e2 (lstK set (rep s) (F (xs.map e) (e1 x))) (match f xs x with | some (r,ys)=>OutC.ok r (p s ys) | none=> .bad)
     cases q2:f xs x with
     | none=>trivial
     | some r =>
       rw [q2] at this
       obtain ⟨r,ys⟩:=r
       have this:F (xs.map e) (e1 x)=some (e2 r,ys.map e):=this
       rw [this]
       show Out.ok _ _=Out.ok _ _
       rw [← hs]; rfl
@[simp] noncomputable def apMC (g:σ→Option (List α)) (p:σ→List α→σ) (c:σ→OutC σ α):σ→OutC σ Unit:=fun s=>match g s with
 | none=> .bad
 | some _=>bdO (c s) fun x s=>match g s with
   | none=> .bad
   | some xs=>(match appC xs x with | some (r,ys)=> .ok r (p s ys) | none=> .bad)
theorem cr2 {e:α→D} {i:Nat} {g:σ→Option (List α)} {p:σ→List α→σ} {m:Mi.Env→Out D} {c:σ→OutC σ α} (hg:∀ s,rg (rep s) i=(g s).map (eL e)) (hs:∀ s xs,(rep s).set i (some (eL e xs))=rep (p s xs)) (h1:NJ rep e m c):NJ rep eN (appM i m) (apMC g p c):=fun s=>by
 have h1:=h1 s
 unfold appM apMC
 rw [hg]
 cases g s with
 | none=>trivial
 | some xs0 =>
   show SimO rep eN ((m (rep s)).bind (by7 i)) (bdO (c s) _)
   refine h1.bd fun x s=>?_
   unfold by7
   rw [hg]
   cases g s with
   | none=>trivial
   | some xs =>
     have:=cg1 (e:=e) xs x
     show SimO rep eN (lstK (aC5 i) (rep s) (appF (xs.map e) (e x))) (match appC xs x with | some (r,ys)=>OutC.ok r (p s ys) | none=> .bad)
     cases q2:appC xs x with
     | none=>trivial
     | some r =>
       rw [q2] at this
       obtain ⟨r,ys⟩:=r
       have this:appF (xs.map e) (e x)=some (eN r,ys.map e):=this
       rw [this]
       show Out.ok _ _=Out.ok _ _
       rw [← hs]; rfl
end
section
variable {σ σ' α β γ δ:Type} {rep:σ→Mi.Env} {eR:β→D}
@[simp] noncomputable def bdS (o:OutC σ α) (k:α→σ→FlC σ β):FlC σ β:=match o with
 | .ok a s=>k a s
 | .exc x s=> .exc x s
 | .bad=> .bad
theorem SimS.bd {e:α→γ} {r:Out γ} {q:OutC σ α} {k:γ→Mi.Env→SO} {l:α→σ→FlC σ β} (h:SimO rep e r q) (hk:∀ a s,SimS rep eR (k (e a) (rep s)) (l a s)):SimS rep eR (ax3 r k) (bdS q l):=by
 cases q with
 | ok a s=>have h:r= .ok (e a) (rep s):=h; rw [h]; exact hk a s
 | exc x s=>have h:r= .exc x (rep s):=h; rw [h]; exact rfl
 | bad=>trivial
theorem SimS.ite {p:Prop} [Decidable p] {r r':SO} {q q':FlC σ β} (h:SimS rep eR r q) (h':SimS rep eR r' q'):SimS rep eR (if p then r else r') (if p then q else q'):=by
 by_cases z:p
 · rw [if_pos z,if_pos z]; exact h
 · rw [if_neg z,if_neg z]; exact h'
@[simp] noncomputable def seqC (a b:σ→FlC σ β):σ→FlC σ β:=fun s=>match a s with
 | .nx s'=>b s'
 | o=>o
theorem aa9 {a b:Mi.Env→SO} {c d:σ→FlC σ β} (h1:TJ rep eR a c) (h2:TJ rep eR b d):TJ rep eR (seqS a b) (seqC c d):=fun s=>by
 have h1:=h1 s
 unfold seqS seqC
 cases q:c s with
 | nx s'=>rw [q] at h1; have h1:a (rep s)= .nx (rep s'):=h1; rw [h1]; exact h2 s'
 | rt b s'=>rw [q] at h1; have h1:a (rep s)= .rt (eR b) (rep s'):=h1; rw [h1]; rfl
 | bk s'=>rw [q] at h1; have h1:a (rep s)= .bk (rep s'):=h1; rw [h1]; rfl
 | ct s'=>rw [q] at h1; have h1:a (rep s)= .ct (rep s'):=h1; rw [h1]; rfl
 | exc x s'=>rw [q] at h1; have h1:a (rep s)= .exc x (rep s'):=h1; rw [h1]; rfl
 | bad=>trivial
@[simp] noncomputable def ag5:σ→FlC σ β:=fun s=> .nx s
@[simp] noncomputable def badC:σ→FlC σ β:=fun _=> .bad
theorem ac8:TJ rep eR af2 ag5:=fun s=>rfl
theorem ax2 {m:Mi.Env→SO}:TJ rep eR m badC:=fun s=>trivial
@[simp] noncomputable def retC (c:σ→OutC σ β):σ→FlC σ β:=fun s=>bdS (c s) fun b s=> .rt b s
theorem ac0 {m:Mi.Env→Out D} {c:σ→OutC σ β} (h:NJ rep eR m c):TJ rep eR (retS m) (retC c):=fun s=>SimS.bd (h s) fun b s=>rfl
@[simp] noncomputable def ak6 (c:σ→OutC σ α):σ→FlC σ β:=fun s=>bdS (c s) fun _ s=> .nx s
theorem ae0 {e:α→D} {m:Mi.Env→Out D} {c:σ→OutC σ α} (h:NJ rep e m c):TJ rep eR (ak5 m) (ak6 c):=fun s=>SimS.bd (h s) fun b s=>rfl
@[simp] noncomputable def setC (u:α→σ→σ) (c:σ→OutC σ α):σ→FlC σ β:=fun s=>bdS (c s) fun a s=> .nx (u a s)
theorem ck2 {e:α→D} {i:Nat} {m:Mi.Env→Out D} {c:σ→OutC σ α} {u:α→σ→σ} (hu:∀ a s,(rep s).set i (some (e a))=rep (u a s)) (h:NJ rep e m c):TJ rep eR (setS i m) (setC u c):=fun s=>SimS.bd (h s) fun a s=>by show SO.nx _=SO.nx _; rw [hu]
@[simp] noncomputable def ifC (t:σ→OutC σ Bool) (a b:σ→FlC σ β):σ→FlC σ β:=fun s=>bdS (t s) fun c s=>if c=true then a s else b s
theorem ah3 {t:Mi.Env→Out Bool} {a b:Mi.Env→SO} {ct:σ→OutC σ Bool} {c d:σ→FlC σ β} (ht:NJ rep (id:Bool→Bool) t ct) (h1:TJ rep eR a c) (h2:TJ rep eR b d):TJ rep eR (ifS t a b) (ifC ct c d):=fun s=>SimS.bd (ht s) fun t s=>SimS.ite (h1 s) (h2 s)
noncomputable def forC (u:α→σ→σ) (body:σ→FlC σ β):List α→σ→FlC σ β
 | [],s=> .nx s
 | a :: r,s=>match body (u a s) with
   | .nx s'=>forC u body r s'
   | .ct s'=>forC u body r s'
   | .bk s'=> .nx s'
   | o=>o
theorem aQ9 {e:α→D} {tgt:D→Mi.Env→Option Mi.Env} {body:Mi.Env→SO} {u:α→σ→σ} {c:σ→FlC σ β} (hu:∀ a s,tgt (e a) (rep s)=some (rep (u a s))) (h:TJ rep eR body c):∀ (xs:List α) (s:σ),SimS rep eR (forS tgt body (xs.map e) (rep s)) (forC u c xs s)
 | [],s=>rfl
 | a :: r,s=>by
   have hb:=h (u a s)
   rw [List.map_cons]
   unfold forS forC
   rw [hu]
   dsimp only
   cases q:c (u a s) with
   | nx s'=>rw [q] at hb; have hb:body (rep (u a s))= .nx (rep s'):=hb; rw [hb]; exact aQ9 hu h r s'
   | ct s'=>rw [q] at hb; have hb:body (rep (u a s))= .ct (rep s'):=hb; rw [hb]; exact aQ9 hu h r s'
   | bk s'=>rw [q] at hb; have hb:body (rep (u a s))= .bk (rep s'):=hb; rw [hb]; rfl
   | rt b s'=>rw [q] at hb; have hb:body (rep (u a s))= .rt (eR b) (rep s'):=hb; rw [hb]; rfl
   | exc x s'=>rw [q] at hb; have hb:body (rep (u a s))= .exc x (rep s'):=hb; rw [hb]; rfl
   | bad=>trivial
@[simp] noncomputable def ay3 (src:σ→Res (List α)) (u:α→σ→σ) (body:σ→FlC σ β):σ→FlC σ β:=fun s=>match src s with
 | .ok xs=>forC u body xs s
 | .exc x=> .exc x s
 | .bad=> .bad
theorem ak9 {e:α→D} {src:Mi.Env→Res (List D)} {csrc:σ→Res (List α)} {tgt:D→Mi.Env→Option Mi.Env} {body:Mi.Env→SO} {u:α→σ→σ} {c:σ→FlC σ β} (hs:EJ rep (List.map e) src csrc) (hu:∀ a s,tgt (e a) (rep s)=some (rep (u a s))) (h:TJ rep eR body c):TJ rep eR (av9 (liP src) tgt body) (ay3 csrc u c):=fun s=>by
 have hs:=hs s
 unfold av9 liP ay3
 cases q:csrc s with
 | ok xs=>rw [q] at hs; have hs:src (rep s)= .ok (xs.map e):=hs; rw [hs]; exact aQ9 hu h xs s
 | exc x=>rw [q] at hs; have hs:src (rep s)= .exc x:=hs; rw [hs]; rfl
 | bad=>trivial
noncomputable def whC (t:σ→OutC σ Bool) (body:σ→FlC σ β):Nat→σ→FlC σ β
 | 0,_=> .bad
 | n + 1,s=>match t s with
   | .ok true s1=>(match body s1 with
     | .nx s'=>whC t body n s'
     | .ct s'=>whC t body n s'
     | .bk s'=> .nx s'
     | o=>o)
   | .ok false s1=> .nx s1
   | .exc x s1=> .exc x s1
   | .bad=> .bad
theorem bz5 {t:Mi.Env→Out Bool} {body:Mi.Env→SO} {ct:σ→OutC σ Bool} {c:σ→FlC σ β} (ht:NJ rep (id:Bool→Bool) t ct) (h:TJ rep eR body c):∀ n,TJ rep eR (whS t body n) (whC ct c n)
 | 0=>fun s=>trivial
 | n + 1=>fun s=>by
   have hs:=ht s
   unfold whS whC
   cases q:ct s with
   | ok b s1 =>
     rw [q] at hs; have hs:t (rep s)= .ok b (rep s1):=hs
     rw [hs]
     cases b with
     | false=>rfl
     | true =>
       have hb:=h s1
       show SimS rep eR (match body (rep s1) with | .nx ρ'=>whS t body n ρ' | .ct ρ'=>whS t body n ρ' | .bk ρ'=> .nx ρ' | o=>o) _
       dsimp only
       cases q:c s1 with
       | nx s'=>rw [q] at hb; have hb:body (rep s1)= .nx (rep s'):=hb; rw [hb]; exact bz5 ht h n s'
       | ct s'=>rw [q] at hb; have hb:body (rep s1)= .ct (rep s'):=hb; rw [hb]; exact bz5 ht h n s'
       | bk s'=>rw [q] at hb; have hb:body (rep s1)= .bk (rep s'):=hb; rw [hb]; rfl
       | rt b s'=>rw [q] at hb; have hb:body (rep s1)= .rt (eR b) (rep s'):=hb; rw [hb]; rfl
       | exc x s'=>rw [q] at hb; have hb:body (rep s1)= .exc x (rep s'):=hb; rw [hb]; rfl
       | bad=>trivial
   | exc x s1=>rw [q] at hs; have hs:t (rep s)= .exc x (rep s1):=hs; rw [hs]; rfl
   | bad=>trivial
@[simp] noncomputable def bG8 (g:σ→Option (DI α)) (p:σ→DI α→σ) (ck:σ→Res (List Int)) (cv:σ→OutC σ α):σ→FlC σ β:=fun s=>bdS (cv s) fun x s=>match g s with
 | none=> .bad
 | some F=>(match ck s with
   | .ok k=>if F.length < aa7 then .nx (p s (F.put k x)) else .bad
   | .exc y=> .exc y s
   | .bad=> .bad)
theorem aO6 {e:α→D} {get:Mi.Env→Option D} {set:Mi.Env→D→Mi.Env} {g:σ→Option (DI α)} {p:σ→DI α→σ} {mk:Mi.Env→Res D} {ck:σ→Res (List Int)} {mv:Mi.Env→Out D} {cv:σ→OutC σ α} (hg:∀ s,get (rep s)=(g s).map (encD e)) (hs:∀ s F,set (rep s) (encD e F)=rep (p s F))
 (hk:EJ rep (eTs D.int) mk ck) (hv:NJ rep e mv cv):TJ rep eR (br1 get set mk mv) (bG8 g p ck cv):=fun s=>SimS.bd (hv s) fun x s=>by
 have hk:=hk s
 rw [hg]
 cases g s with
 | none=>trivial
 | some F =>
   show SimS rep eR (br2 set (e x) (encD e F) (rep s) (mk (rep s))) _
   dsimp only
   cases q:ck s with
   | bad=>trivial
   | exc y=>rw [q] at hk; have hk:mk (rep s)= .exc y:=hk; rw [hk]; rfl
   | ok k =>
     rw [q] at hk; have hk:mk (rep s)= .ok (.tup (k.map D.int)):=hk
     rw [hk]
     show SimS rep eR (br2 set (e x) (encD e F) (rep s) (.ok (.tup (k.map D.int)))) (if F.length < aa7 then FlC.nx (p s (F.put k x)) else .bad)
     by_cases h:F.length < aa7
     · rw [if_pos h]
       unfold br2
       dsimp only
       rw [bG7 h]
       show SO.nx _=SO.nx _
       rw [hs]
     · rw [if_neg h]; trivial
@[simp] noncomputable def ce7 (g:σ→Option (List α)) (p:σ→List α→σ) (ck:σ→Res Int) (cv:σ→OutC σ α):σ→FlC σ β:=fun s=>bdS (cv s) fun x s=>match g s with
 | none=> .bad
 | some xs=>(match ck s with
   | .ok i=>(match ixN xs.length i with | some j=> .nx (p s (xs.set j x)) | none=> .bad)
   | .exc y=> .exc y s
   | .bad=> .bad)
theorem bh2 {e:α→D} {get:Mi.Env→Option D} {set:Mi.Env→D→Mi.Env} {g:σ→Option (List α)} {p:σ→List α→σ} {mk:Mi.Env→Res D} {ck:σ→Res Int} {mv:Mi.Env→Out D} {cv:σ→OutC σ α} (hg:∀ s,get (rep s)=(g s).map (eL e)) (hs:∀ s F,set (rep s) (eL e F)=rep (p s F))
 (hk:EJ rep D.int mk ck) (hv:NJ rep e mv cv):TJ rep eR (bF1 get set mk mv) (ce7 g p ck cv):=fun s=>SimS.bd (hv s) fun x s=>by
 have hk:=hk s
 rw [hg]
 cases g s with
 | none=>trivial
 | some xs =>
   show SimS rep eR (ce6 set (e x) (xs.map e) (rep s) (mk (rep s))) _
   dsimp only
   cases q:ck s with
   | bad=>trivial
   | exc y=>rw [q] at hk; have hk:mk (rep s)= .exc y:=hk; rw [hk]; rfl
   | ok i =>
     rw [q] at hk; have hk:mk (rep s)= .ok (.int i):=hk
     rw [hk]
     show SimS rep eR (match ixN (xs.map e).length i with | some j=> .nx (set (rep s) (.lst ((xs.map e).set j (e x)))) | none=> .bad) _
     rw [List.length_map]
     dsimp only
     cases ixN xs.length i with
     | none=>trivial
     | some j =>
       show SO.nx _=SO.nx _
       rw [← List.map_set]
       exact congrArg _ (hs s _)
@[simp] noncomputable def runC (d:Option β):FlC σ β→OutC σ β
 | .nx s=>(match d with | some b=> .ok b s | none=> .bad)
 | .rt b s=> .ok b s
 | .exc x s=> .exc x s
 | _=> .bad
theorem az5 {k:Nat} {ds:List D} {body:Mi.Env→SO} {c:σ→FlC σ β} {s:σ} {d:β} (hd:eR d= .non) (h:TJ rep eR body c) (hr:ds.map some ++ List.replicate (k - ds.length) none=rep s):SimO rep eR (Mi.run k body ds) (runC (some d) (c s)):=by
 have h:=h s
 unfold Mi.run
 rw [hr]
 cases q:c s with
 | nx s'=>rw [q] at h; have h:body (rep s)= .nx (rep s'):=h; rw [h]; show Out.ok .non _=Out.ok (eR d) _; rw [hd]
 | rt b s'=>rw [q] at h; have h:body (rep s)= .rt (eR b) (rep s'):=h; rw [h]; rfl
 | exc x s'=>rw [q] at h; have h:body (rep s)= .exc x (rep s'):=h; rw [h]; rfl
 | _=>trivial
theorem ak4 {k:Nat} {ds:List D} {body:Mi.Env→SO} {c:σ→FlC σ β} {s:σ} (h:TJ rep eR body c) (hr:ds.map some ++ List.replicate (k - ds.length) none=rep s):SimO rep eR (Mi.run k body ds) (runC none (c s)):=by
 have h:=h s
 unfold Mi.run
 rw [hr]
 cases q:c s with
 | rt b s'=>rw [q] at h; have h:body (rep s)= .rt (eR b) (rep s'):=h; rw [h]; rfl
 | exc x s'=>rw [q] at h; have h:body (rep s)= .exc x (rep s'):=h; rw [h]; rfl
 | _=>trivial
theorem ar6 {k:Nat} {ds:List D} {body:Mi.Env→SO} {c:σ→FlC σ β} {s:σ} (h:TJ rep eR body c) (hr:ds.map some ++ List.replicate (k - ds.length) none=rep s):SimO rep eR (runO k body ds) (runC none (c s)):=by
 have h:=h s
 unfold runO
 rw [hr]
 cases q:c s with
 | rt b s'=>rw [q] at h; have h:body (rep s)= .rt (eR b) (rep s'):=h; rw [h]; rfl
 | exc x s'=>rw [q] at h; have h:body (rep s)= .exc x (rep s'):=h; rw [h]; rfl
 | _=>trivial
end
section
variable {σ α β:Type} {rep:σ→Mi.Env} {eR:β→D}
theorem xp {e:α→D} {i:Nat} {g:σ→α} (h:∀ s,rg (rep s) i=some (e (g s)):=by exact fun _=>rfl):EJ rep e (vr i) (pC g):=cw7 h
theorem xv {e:α→D} {i:Nat} {g:σ→Option α} (h:∀ s,rg (rep s) i=(g s).map e:=by exact fun _=>rfl):EJ rep e (vr i) (vC g):=cw5 h
theorem xk {e:α→D} {d:D} {a:α} (h:e a=d:=by rfl):EJ rep e (cst d) (kC a):=bP7 h
theorem xs {e:α→D} {i:Nat} {m:Mi.Env→Out D} {c:σ→OutC σ α} {u:α→σ→σ} (h:NJ rep e m c) (hu:∀ a s,(rep s).set i (some (e a))=rep (u a s):=by exact fun _ _=>rfl):TJ rep eR (setS i m) (setC u c):=ck2 hu h
end
section
variable {σ σ' α β γ δ τ:Type}
theorem aM8 {u:α→σ→σ} {c:σ→FlC σ β} (R:τ→σ→Prop) (step:τ→α→τ):∀ (l:List α) (b:τ) (s:σ),R b s →
 (∀ b a s,a∈l→R b s→∃ s',(c (u a s)= .nx s'∨c (u a s)= .ct s')∧R (step b a) s')→∃ s',forC u c l s= .nx s'∧R (l.foldl step b) s'
 | [],b,s,h,_=>⟨s,rfl,h⟩
 | a :: l,b,s,h,st=>by
   obtain ⟨s2,e2,h2⟩:=st b a s List.mem_cons_self h
   obtain ⟨s',e,h'⟩:=aM8 R step l (step b a) s2 h2 fun b c s hb=>st b c s (List.mem_cons_of_mem _ hb)
   refine ⟨s',?_,h'⟩
   unfold forC
   rcases e2 with e2 | e2 <;> (rw [e2]; exact e)
theorem aH2 {u:α→σ→σ} {c:σ→FlC σ β} (R:σ→Prop) (l:List α) (s:σ) (h:R s) (st:∀ a s,a∈l→R s→∃ s',(c (u a s)= .nx s'∨c (u a s)= .ct s')∧R s'):∃ s',forC u c l s= .nx s'∧R s':=by
 obtain ⟨s',e,h'⟩:=aM8 (τ:=Unit) (fun _ s=>R s) (fun _ _=>()) l () s h fun _ a s ha hs=>st a s ha hs
 exact ⟨s',e,h'⟩
theorem ar5 {u:α→σ→σ} {c:σ→FlC σ β} (R:List α→σ→Prop) (l:List α) (s:σ) (h:R [] s) (st:∀ p a r s,l=p ++ a :: r→R p s→∃ s',(c (u a s)= .nx s'∨c (u a s)= .ct s')∧R (p ++ [a]) s'):∃ s',forC u c l s= .nx s'∧R l s':=by
 have key:∀ (r p:List α) (s:σ),l=p ++ r→R p s→∃ s',forC u c r s= .nx s'∧R l s':=by
  intro r
  induction r with
  | nil=>intro p s e h; rw [List.append_nil] at e; exact ⟨s,rfl,by rw [e]; exact h⟩
  | cons a r ih =>
    intro p s e h
    obtain ⟨s2,e2,h2⟩:=st p a r s e h
    obtain ⟨s',e',h'⟩:=ih (p ++ [a]) s2 (by rw [e]; simp) h2
    refine ⟨s',?_,h'⟩
    unfold forC
    rcases e2 with e2 | e2 <;> (rw [e2]; exact e')
 exact key l [] s rfl h
theorem aM9 {u:α→σ→σ} {c:σ→FlC σ β} (R:σ→Prop) (p:α→Bool) (out:α→β):∀ (l:List α) (s:σ),R s →
 (∀ a s,a∈l→R s→∃ s',(p a=true→c (u a s)= .rt (out a) s')∧(p a=false→(c (u a s)= .nx s'∨c (u a s)= .ct s')∧R s')) →
 ∃ s',(∀ a,l.find? p=some a→forC u c l s= .rt (out a) s')∧(l.find? p=none→forC u c l s= .nx s'∧R s')
 | [],s,h,_=>⟨s,fun a e=>(nomatch e),fun _=>⟨rfl,h⟩⟩
 | a :: l,s,h,st=>by
   obtain ⟨s2,e2,e3⟩:=st a s List.mem_cons_self h
   cases hp:p a with
   | true =>
     refine ⟨s2,fun b e=>?_,fun e=>?_⟩
     · rw [List.find?_cons,hp] at e
       cases e
       unfold forC
       rw [e2 hp]
     · rw [List.find?_cons,hp] at e
       cases e
   | false =>
     obtain ⟨e4,h2⟩:=e3 hp
     obtain ⟨s',f1,f2⟩:=aM9 R p out l s2 h2 fun b s hb=>st b s (List.mem_cons_of_mem _ hb)
     have eq:forC u c (a :: l) s=forC u c l s2:=by
      conv=>lhs; unfold forC
      rcases e4 with e4 | e4 <;> rw [e4]
     refine ⟨s',fun b e=>?_,fun e=>?_⟩
     · rw [List.find?_cons,hp] at e
       rw [eq]; exact f1 b e
     · rw [List.find?_cons,hp] at e
       rw [eq]; exact f2 e
theorem bg6 {t:σ→OutC σ Bool} {c:σ→FlC σ β} (R:Nat→σ→Prop) (S:σ→Prop) (st:∀ n s,R n s→(t s= .ok false s∧S s)∨(t s= .ok true s∧∃ m s2,m < n∧(c s= .nx s2∨c s= .ct s2)∧R m s2)) :
 ∀ (fuel n:Nat) (s:σ),R n s→n < fuel→∃ s',whC t c fuel s= .nx s'∧S s'
 | 0,n,s,h,hl=>absurd hl (Nat.not_lt_zero _)
 | fuel + 1,n,s,h,hl=>by
   unfold whC
   rcases st n s h with ⟨e,hs⟩ | ⟨e,m,s2,hm,eb,h2⟩
   · rw [e]
     exact ⟨s,rfl,hs⟩
   · rw [e]
     obtain ⟨s',e',hs⟩:=bg6 R S st fuel m s2 h2 (by omega)
     refine ⟨s',?_,hs⟩
     dsimp only
     rcases eb with eb | eb <;> (rw [eb]; exact e')
theorem aN8 {ti:α→Res Bool} {te:α→Res β} (p:α→Bool) (g:α→β):∀ l:List α,(∀ a∈l,ti a= .ok (p a))→(∀ a∈l,p a=true→te a= .ok (g a))→an9 ti te l= .ok ((l.filter p).map g)
 | [],_,_=>rfl
 | a :: l,h1,h2=>by
   have ih:=aN8 p g l (fun b hb=>h1 b (List.mem_cons_of_mem _ hb)) fun b hb=>h2 b (List.mem_cons_of_mem _ hb)
   unfold an9
   rw [h1 a List.mem_cons_self]
   show (if p a=true then _ else _)=_
   cases hp:p a with
   | true =>
     rw [if_pos rfl,h2 a List.mem_cons_self hp,ih,List.filter_cons,if_pos hp]
     rfl
   | false=>rw [if_neg Bool.false_ne_true,ih,List.filter_cons,if_neg (by rw [hp]; exact Bool.false_ne_true)]
theorem aW2 {src:σ→Res (List α)} {ti:α×σ→Res Bool} {te:α×σ→Res β} {s:σ} {l:List α} (p:α→Bool) (g:α→β) (hs:src s= .ok l) (hl:l.length < aa7) (h1:∀ a∈l,ti (a,s)= .ok (p a)) (h2:∀ a∈l,p a=true→te (a,s)= .ok (g a)) :
 ag0 src ti te s= .ok ((l.filter p).map g):=by
 unfold ag0
 rw [hs]
 show (if l.length < aa7 then _ else _)=_
 rw [if_pos hl]
 exact aN8 p g l h1 h2
theorem aj4 {src:σ→Res (List α)} {te:α×σ→Res β} {s:σ} {l:List α} (g:α→β) (hs:src s= .ok l) (hl:l.length < aa7) (h2:∀ a∈l,te (a,s)= .ok (g a)) :
 ag0 src (fun _=> .ok true) te s= .ok (l.map g):=by
 rw [aW2 (fun _=>true) g hs hl (fun _ _=>rfl) fun a ha _=>h2 a ha,List.filter_eq_self.mpr fun _ _=>rfl]
theorem aE4 (xs:List α) {i:Int} (h:0≤i):atI xs i=xs[i.toNat]?:=by
 unfold atI ixN
 rw [if_pos h]
 by_cases z:i < xs.length
 · rw [if_pos z]; rfl
 · rw [if_neg z,List.getElem?_eq_none (by omega)]; rfl
theorem aI7 (xs:List α):atI xs (-1)=xs.getLast?:=by
 unfold atI ixN
 rw [if_neg (by omega),List.getLast?_eq_getElem?]
 cases xs with
 | nil=>rfl
 | cons x r =>
   rw [if_pos (by simp only [List.length_cons]; omega)]
   show (x :: r)[(-1 + ((x :: r).length:Int)).toNat]?=_
   rw [show (-1 + ((x :: r).length:Int)).toNat=(x :: r).length - 1 by omega]
theorem bP4 {n:Nat} {i:Int} (h:0≤i) (h1:i < n):ixN n i=some i.toNat:=by unfold ixN; rw [if_pos h,if_pos h1]
theorem af0 (lo hi:Int):(rngI lo hi).length=(hi - lo).toNat:=by unfold rngI; simp
theorem am0 {lo hi x:Int}:x∈rngI lo hi↔lo≤x∧x < hi:=by
 unfold rngI
 rw [List.mem_map]
 constructor
 · rintro ⟨i,hi',rfl⟩
   have:=List.mem_range.mp hi'
   omega
 · rintro ⟨h1,h2⟩
   exact ⟨(x - lo).toNat,List.mem_range.mpr (by omega),by omega⟩
theorem aR1 {lo hi x:Int} {p r:List Int} (h:rngI lo hi=p ++ x :: r):x=lo + p.length∧lo≤x∧x < hi:=by
 have hm:x∈rngI lo hi:=by rw [h]; simp
 have hx:=am0.mp hm
 have e:(rngI lo hi)[p.length]?=some x:=by rw [h,List.getElem?_append_right (Nat.le_refl _),Nat.sub_self]; rfl
 unfold rngI at e
 rw [List.getElem?_map] at e
 have hl:p.length < (hi - lo).toNat:=by
  have:=af0 lo hi
  rw [h,List.length_append,List.length_cons] at this
  omega
 rw [List.getElem?_range hl] at e
 injection e with e
 exact ⟨e.symm,hx⟩
theorem be8 (lo hi:Int):(rngI lo hi).Nodup:=by
 unfold rngI
 unfold List.Nodup
 rw [List.pairwise_map]
 refine List.Pairwise.imp ?_ (List.nodup_range (n:=(hi - lo).toNat))
 intro a b h z
 exact h (by omega)
theorem bG1 {F:DI β} {k:List Int} {v:β} (h:F.get k=some v):(k,v)∈F:=by
 unfold DI.get at h
 obtain ⟨p,hp,rfl⟩:=Option.map_eq_some_iff.mp h
 have:=List.find?_some hp
 have e:p.1=k:=by simpa using this
 subst e
 exact List.mem_of_find?_eq_some hp
theorem aR3 {F:DI β} {k:List Int} {v:β}:(F.put k v).length≤F.length + 1:=by
 unfold DI.put
 split
 · rw [List.length_map]; omega
 · rw [List.length_append]; simp
noncomputable def DI.nd (F:DI β):Prop:=(F.map (·.1)).Nodup
end
end Cl
namespace L2
open PySem PySem.Spec PyProof.Rows
theorem aX4 {X:Cx} (K:PySem.W.Frag) (h:X.K=K):SlR X (rSlL K):=by subst h; exact bY5
end L2
namespace Mi
open PySem L2
noncomputable def bG6:D→D→Res D
 | .lst xs,.int k=>if 0≤k then .ok (.lst (xs.drop k.toNat)) else .bad
 | .scr xs,.int k=>if 0≤k then .ok (.lst (xs.drop k.toNat)) else .bad
 | _,_=> .bad
theorem ba7 {k:Int} (h:0≤k) (xs:List V):cutV xs (some k) none=xs.drop k.toNat:=by
 unfold cutV
 have e:HT.sIx xs.length 0 (some k)=min k.toNat xs.length:=by show (if k < 0 then _ else _)=_; rw [if_neg (by omega)]
 rw [e,HT.bC3]
 by_cases z:k.toNat≤xs.length
 · rw [Nat.min_eq_left z,List.take_of_length_le (by rw [List.length_drop]; omega)]
 · rw [Nat.min_eq_right (by omega),Nat.sub_self,List.take_zero,List.drop_eq_nil_of_le (by omega)]
section
variable {cm:Cm} {E:XK} {ms:List Md} {Kr:KT D V} {pr:Nat→Bool}
theorem bN9 {ta tb:TE} {ma mb:Env→Res D} (ha:PJ cm (KC cm .F) E ms ta ma) (hb:PJ cm (KR cm .X) E ms tb mb):PJ cm (KO cm (.ct .fz)) E ms (tSl (rSlL cm.K) ta (ck4 tb) bh3) (bn bG6 ma mb):=by
 intro B U As σ H ρ Q R P
 refine ha.bnd R P fun x v B1 U1 H1 N1 _ R1 e1 n1 d1 P1=>hb.bnd R1 P1 fun y u B2 U2 H2 N2 _ R2 e2 n2 d2 P2=>?_
 have d1:Cn cm B1 H1 x v:=d1
 have d2:Dn cm H2 y u:=d2
 cases y with
 | int k =>
   rw [Dn] at d2
   subst d2
   refine ⟨k,rfl,?_⟩
   cases x with
   | lst ds =>
     obtain ⟨a,xs,rfl,h1,h2⟩:=d1
     replace P2:Po cm (KO cm (.ct .fz)) E ms B2 U2 As σ H2 ρ (if 0≤k then .ok (.lst (ds.drop k.toNat)) else .bad) Q:=P2
     by_cases z:0≤k
     · rw [if_pos z] at P2
       refine ⟨a,xs,rfl,SqL.of (e2.h _ _ h1),fun p hp=>?_⟩
       rw [ba7 z]
       exact aw5 R2 P2 ((h2.mono e2.b).drop _) hp
     · rw [if_neg z] at P2; exact P2.elim
   | scr ds =>
     obtain ⟨a,xs,rfl,h1,h2⟩:=d1
     replace P2:Po cm (KO cm (.ct .fz)) E ms B2 U2 As σ H2 ρ (if 0≤k then .ok (.lst (ds.drop k.toNat)) else .bad) Q:=P2
     by_cases z:0≤k
     · rw [if_pos z] at P2
       refine ⟨a,xs,rfl,(h1.mono e2.h).sq,fun p hp=>?_⟩
       rw [ba7 z]
       exact aw5 R2 P2 ((h2.mono e2.b).drop _) hp
     · rw [if_neg z] at P2; exact P2.elim
   | _=>exact P2.elim
 | _=>cases x <;> exact P2.elim
open Classical in
end
end Mi
namespace Cl
open PySem L2 Mi
section
variable {σ α β γ δ:Type} {rep:σ→Mi.Env} {eR:β→D}
@[simp] noncomputable def br0 (xs:List α) (k:Int):Res (List α):=if 0≤k then .ok (xs.drop k.toNat) else .bad
theorem bO3 {e:α→D} (xs:List α) (k:Int):SimR (eL e) (bG6 (eL e xs) (.int k)) (br0 xs k):=by
 show SimR (eL e) (if 0≤k then .ok (.lst ((xs.map e).drop k.toNat)) else .bad) (if 0≤k then .ok (xs.drop k.toNat) else .bad)
 rw [← List.map_drop]
 exact SimR.ite rfl trivial
open Classical in
end
end Cl
namespace L2
open PySem PySem.Spec PyProof.Rows
noncomputable def rLtL (K:PySem.W.Frag):R2:=fun x y H Q=>∃ (p q:Addr) (xs ys:List Int),x= .ref p∧y= .ref q∧SqL K H p (xs.map V.int)∧SqL K H q (ys.map V.int)∧Q (.bl (HT.an4 xs ys)) H
theorem ca6 {X:Cx} (K:PySem.W.Frag) (hK:X.K=K) (hu:X.A.units + 100 < cLine):OpR X (compareOp .Lt) (rLtL K):=by
 subst hK
 intro pins s σ H x y v u Q I rx ry h
 obtain ⟨p,q,xs,ys,rfl,rfl,hp,hq,k⟩:=h
 have rx':v=Value.ref p:=rx
 have ry':u=Value.ref q:=ry
 subst rx' ry'
 exact (aM7 I hp hq (by omega)).2 X.prog X.w X.xe _ ⟨.bl _,H,I,rfl,k⟩
end L2
namespace Mi
open PySem L2
noncomputable def ltL:D→D→Res D
 | .lst xs,.lst ys=>(match ae4 xs,ae4 ys with
   | some a,some b=> .ok (.bl (HT.an4 a b))
   | _,_=> .bad)
 | _,_=> .bad
noncomputable def extF (xs:List D) (x:D):Option (D×List D):=match x with
 | .lst ys=>if xs.length + ys.length≤aa7 then some (.non,xs ++ ys) else none
 | _=>none
section
variable {cm:Cm} {E:XK} {ms:List Md} {K:PySem.W.Frag} {t:TE} {get:Env→Option D} {set:Env→D→Env}
theorem s_ltL:S2 cm (rLtL K) ltL:=by
 intro H x y v u hx hy
 cases x with
 | lst xs =>
   cases y with
   | lst ys =>
     show match (match ae4 xs,ae4 ys with | some a,some b=>Res.ok (D.bl (HT.an4 a b)) | _,_=> .bad) with | .ok d=>_ | .exc c=>_ | .bad=>_
     cases e1:ae4 xs with
     | none=>trivial
     | some a =>
       cases e2:ae4 ys with
       | none=>trivial
       | some b =>
         rw [Dn] at hx hy
         obtain ⟨p,zs,rfl,h1,h2⟩:=hx
         obtain ⟨q,ws,rfl,h3,h4⟩:=hy
         rw [ah0 e1 h2] at h1
         rw [ah0 e2 h4] at h3
         exact ⟨.bl _,fun _=>by rw [Dn],fun Q h=>⟨p,q,a,b,rfl,rfl,SqL.of h1,SqL.of h3,h⟩⟩
   | _=>trivial
 | _=>trivial
theorem bF0 {te:TE} {me:Env→Res D} (p:Pth cm ms t get set) (he:PJ cm (KR cm .F) E ms te me):MJ cm (KR cm .F) E ms (tBM K "list" bl6 t (ai4 te tNil)) (lst1 get set extF me) :=
 ce4 (f:=extF) p he fun B U H a ds xs x u d es Q bu uh h1 h2 hu ef k=>by
  cases x with
  | lst ys =>
    have hu:Dn cm B (.lst ys) u:=hu
    rw [Dn] at hu
    obtain ⟨b,zs,rfl,h3,h4⟩:=hu
    replace ef:(if ds.length + ys.length≤aa7 then some (D.non,ds ++ ys) else none)=some (d,es):=ef
    by_cases z:ds.length + ys.length≤aa7
    · rw [if_pos z] at ef
      cases ef
      exact ⟨a,b,xs,zs,rfl,rfl,h1,uh _ _ (bu _ _ h3),Nat.le_of_lt (am1 (by rw [← h2.len,← h4.len]; exact z)),k .non _ (by rw [Dn]) (h2.append h4)⟩
    · rw [if_neg z] at ef
      cases ef
  | _=>cases ef
end
end Mi
namespace Cl
open PySem L2 Mi
section
variable {σ α β γ δ:Type} {rep:σ→Mi.Env}
@[simp] noncomputable def ltLC (a b:List Int):Res Bool:= .ok (HT.an4 a b)
theorem o_ltL (a b:List Int):SimR D.bl (ltL (eL D.int a) (eL D.int b)) (ltLC a b):=by
 show (match ae4 (a.map D.int),ae4 (b.map D.int) with | some a,some b=>Res.ok (D.bl (HT.an4 a b)) | _,_=> .bad)= .ok (.bl (HT.an4 a b))
 rw [ag9,ag9]
@[simp] noncomputable def bQ2 (xs:List (List Unit)):Res (List (List (Option α))):= .ok (xs.map fun l=>l.map fun _=>none)
theorem bI9 {e:α→D} (xs:List (List Unit)):SimR (eL (eL (eO e))) (.ok (eL (eL eN) xs)) (bQ2 xs):=by
 show Res.ok (D.lst (xs.map (eL eN)))=Res.ok (D.lst ((xs.map fun l=>l.map fun _=>(none:Option α)).map (eL (eO e))))
 rw [List.map_map]
 congr 2
 refine List.map_congr_left fun l _=>?_
 show D.lst (l.map eN)=D.lst ((l.map fun _=>(none:Option α)).map (eO e))
 rw [List.map_map]; rfl
noncomputable def extC (xs ys:List α):Option (Unit×List α):=if xs.length + ys.length≤aa7 then some ((),xs ++ ys) else none
theorem f_ext {e:α→D}:SimF (δ':=Unit) e (eL e) eN extF extC:=fun xs ys=>by
 unfold extC
 by_cases h:xs.length + ys.length≤aa7
 · rw [if_pos h]
   show (if (xs.map e).length + (ys.map e).length≤aa7 then some (D.non,xs.map e ++ ys.map e) else none)=some (eN (),(xs ++ ys).map e)
   rw [List.length_map,List.length_map,if_pos h,List.map_append]; rfl
 · rw [if_neg h]; trivial
end
end Cl
set_option genInjectivity false
set_option genSizeOf false
open PySem L2 in
theorem L2.Room.mm {j k:Nat} {A:Around} (r:Room k A) (h:j≤k:=by decide):Room j A:=r.mono h
namespace K21
open PySem L2
noncomputable def top (i:Nat):Stmt:=PySem.Challenge.pw_heraldways_k21_rings_of_wishes.main.body.getD i (.Pass ⟨0,0,0,0⟩)
noncomputable abbrev s_a9:Stmt:=ah1 (top 11) 0
noncomputable abbrev s_c9:Stmt:=ah1 (top 11) 13
noncomputable abbrev s_k9:Stmt:=ah1 (top 11) 15
noncomputable abbrev s_l9:Stmt:=ah1 (top 11) 1
noncomputable abbrev s_r9:Stmt:=top 28
noncomputable abbrev s_t9:Stmt:=top 32
noncomputable abbrev s_w9:Stmt:=top 34
noncomputable abbrev s_x9:Stmt:=top 29
noncomputable abbrev s_n9:Stmt:=top 18
noncomputable abbrev s_z9:Stmt:=top 26
noncomputable abbrev bZ4:Stmt:=top 10
noncomputable abbrev bZ3:Stmt:=top 25
noncomputable abbrev bC2:Stmt:=top 23
noncomputable abbrev s_h9:Stmt:=ah1 (top 11) 16
noncomputable abbrev s_u9:Stmt:=top 30
noncomputable abbrev s_y9:Stmt:=top 17
noncomputable abbrev bZ5:Stmt:=top 15
noncomputable abbrev bk1:Stmt:=top 24
noncomputable abbrev s_b9:Stmt:=ah1 (top 11) 3
noncomputable abbrev s_e9:Stmt:=ah1 (top 11) 7
noncomputable abbrev s_f9:Stmt:=ah1 (top 11) 2
noncomputable abbrev s_i9:Stmt:=ah1 (top 11) 18
noncomputable abbrev s_j9:Stmt:=ah1 (top 11) 17
noncomputable abbrev s_v9:Stmt:=top 31
noncomputable abbrev s_d9:Stmt:=ah1 (top 11) 4
noncomputable abbrev s_g9:Stmt:=ah1 (top 11) 12
noncomputable abbrev s_m9:Stmt:=ah1 (top 11) 10
noncomputable abbrev bZ2:Stmt:=top 22
noncomputable abbrev s_s9:Stmt:=top 33
noncomputable abbrev bZ0:Stmt:=top 14
noncomputable abbrev s_o9:Stmt:=top 16
noncomputable abbrev s_p9:Stmt:=top 13
noncomputable abbrev bZ1:Stmt:=top 21
noncomputable abbrev s_q9:Stmt:=top 35
theorem sc_a9:FnScope ["self", "size"] ["self", "size"] (aa4 s_a9):=by constructor <;> first | rfl | decide +kernel
theorem sc_c9:FnScope ["self", "pairs", "a"] ["self", "pairs", "a"] (aa4 s_c9):=by constructor <;> first | rfl | decide +kernel
theorem sc_k9:FnScope ["self", "a", "houses"] ["self", "a", "houses"] (aa4 s_k9):=by constructor <;> first | rfl | decide +kernel
theorem sc_l9:FnScope ["self"] ["self"] (aa4 s_l9):=by constructor <;> first | rfl | decide +kernel
theorem sc_r9:FnScope ["script", "k"] ["script", "k"] (aa4 s_r9):=by constructor <;> first | rfl | decide +kernel
theorem bC0:FnScope ["cell", "many", "rest", "out"] ["cell", "many"] (aa4 s_t9):=by constructor <;> first | rfl | decide +kernel
theorem bY7:FnScope ["ring", "start", "table", "k"] ["ring", "start"] (aa4 s_w9):=by constructor <;> first | rfl | decide +kernel
theorem sc_x9:FnScope ["found"] ["found"] (aa4 s_x9):=by constructor <;> first | rfl | decide +kernel
theorem cl9:FnScope ["house", "standings", "best"] ["house", "standings"] (aa4 s_n9):=by constructor <;> first | rfl | decide +kernel
theorem sc_z9:FnScope ["table"] ["table"] (aa4 s_z9):=by constructor <;> first | rfl | decide +kernel
theorem cm3:FnScope ["houses", "count"] ["houses", "count"] (aa4 bZ4):=by constructor <;> first | rfl | decide +kernel
theorem bj6:FnScope ["next_houses", "house", "road", "next_house"] ["next_houses", "house"] (aa4 bZ3):=by constructor <;> first | rfl | decide +kernel
theorem bj5:FnScope ["rows", "ends", "longer", "row"] ["rows", "ends"] (aa4 bC2):=by constructor <;> first | rfl | decide +kernel
theorem sc_h9:FnScope ["self", "houses"] ["self", "houses"] (aa4 s_h9):=by constructor <;> first | rfl | decide +kernel
theorem cl7:FnScope ["found", "due", "house"] ["found", "due"] (aa4 s_u9):=by constructor <;> first | rfl | decide +kernel
theorem sc_y9:FnScope ["guild", "house", "road"] ["guild", "house", "road"] (aa4 s_y9):=by constructor <;> first | rfl | decide +kernel
theorem bK2:FnScope ["told", "count", "road"] ["told", "count"] (aa4 bZ5):=by constructor <;> first | rfl | decide +kernel
theorem cm1:FnScope ["next_houses"] ["next_houses"] (aa4 bk1):=by constructor <;> first | rfl | decide +kernel
theorem sc_b9:FnScope ["self", "a", "b"] ["self", "a", "b"] (aa4 s_b9):=by constructor <;> first | rfl | decide +kernel
theorem sc_e9:FnScope ["self", "a", "b"] ["self", "a", "b"] (aa4 s_e9):=by constructor <;> first | rfl | decide +kernel
theorem sc_f9:FnScope ["self", "a"] ["self", "a"] (aa4 s_f9):=by constructor <;> first | rfl | decide +kernel
theorem sc_i9:FnScope ["self", "road"] ["self", "road"] (aa4 s_i9):=by constructor <;> first | rfl | decide +kernel
theorem sc_j9:FnScope ["self", "a", "b"] ["self", "a", "b"] (aa4 s_j9):=by constructor <;> first | rfl | decide +kernel
theorem cl6:FnScope ["found", "due", "k"] ["found", "due"] (aa4 s_v9):=by constructor <;> first | rfl | decide +kernel
theorem sc_d9:FnScope ["self", "a", "b"] ["self", "a", "b"] (aa4 s_d9):=by constructor <;> first | rfl | decide +kernel
theorem cm0:FnScope ["self", "road", "wish_rank"] ["self", "road"] (aa4 s_g9):=by constructor <;> first | rfl | decide +kernel
theorem sc_m9:FnScope ["self", "road", "rank"] ["self", "road", "rank"] (aa4 s_m9):=by constructor <;> first | rfl | decide +kernel
theorem aX7:FnScope ["guild", "rows", "house"] ["guild"] (aa4 bZ2):=by constructor <;> first | rfl | decide +kernel
theorem bj4:FnScope ["ring", "cell", "many", "guild", "k", "far"] ["ring", "cell"] (aa4 s_s9):=by constructor <;> first | rfl | decide +kernel
theorem cm2:FnScope ["guild", "road"] ["guild", "road"] (aa4 bZ0):=by constructor <;> first | rfl | decide +kernel
theorem cl8:FnScope ["guild", "house", "told", "standings"] ["guild", "house", "told"] (aa4 s_o9):=by constructor <;> first | rfl | decide +kernel
theorem bY8:FnScope ["guild", "table", "house", "told"] ["guild", "table"] (aa4 s_p9):=by constructor <;> first | rfl | decide +kernel
theorem aX6:FnScope ["guild", "tables", "next_houses", "table"] ["guild"] (aa4 bZ1):=by constructor <;> first | rfl | decide +kernel
theorem aK3:FnScope ["script", "many", "ring", "found", "one", "other"] ["script"] (aa4 s_q9):=by constructor <;> first | rfl | decide +kernel
structure Adr where
 C_Guild:Addr
 f_a9:Addr
 d_a9:FuncData
 f_c9:Addr
 d_c9:FuncData
 f_k9:Addr
 d_k9:FuncData
 f_l9:Addr
 d_l9:FuncData
 f_r9:Addr
 d_r9:FuncData
 f_t9:Addr
 d_t9:FuncData
 f_w9:Addr
 d_w9:FuncData
 f_x9:Addr
 d_x9:FuncData
 f_n9:Addr
 d_n9:FuncData
 f_z9:Addr
 d_z9:FuncData
 f_bb9:Addr
 d_bb9:FuncData
 f_bc9:Addr
 d_bc9:FuncData
 f_be9:Addr
 d_be9:FuncData
 f_h9:Addr
 d_h9:FuncData
 f_u9:Addr
 d_u9:FuncData
 f_y9:Addr
 d_y9:FuncData
 f_ba9:Addr
 d_ba9:FuncData
 f_bh9:Addr
 d_bh9:FuncData
 f_b9:Addr
 d_b9:FuncData
 f_e9:Addr
 d_e9:FuncData
 f_f9:Addr
 d_f9:FuncData
 f_i9:Addr
 d_i9:FuncData
 f_j9:Addr
 d_j9:FuncData
 f_v9:Addr
 d_v9:FuncData
 f_d9:Addr
 d_d9:FuncData
 f_g9:Addr
 d_g9:FuncData
 f_m9:Addr
 d_m9:FuncData
 f_bd9:Addr
 d_bd9:FuncData
 f_s9:Addr
 d_s9:FuncData
 f_bg9:Addr
 d_bg9:FuncData
 f_o9:Addr
 d_o9:FuncData
 f_p9:Addr
 d_p9:FuncData
 f_bf9:Addr
 d_bf9:FuncData
 f_q9:Addr
 d_q9:FuncData
structure Txt (K:PySem.W.Frag) (mg:Str→Option Value) (a:Adr) (base:Heap):Prop where
 cl_Guild:Cls K a.C_Guild
 mgC_Guild:mg "Guild" = some (.ref a.C_Guild)
 mk_Guild:Mk K a.C_Guild a.f_a9
 n_house_count:NoAttr K a.C_Guild "house_count"
 n_ways:NoAttr K a.C_Guild "ways"
 n_likings:NoAttr K a.C_Guild "likings"
 n_shuns:NoAttr K a.C_Guild "shuns"
 n_wish_ranks:NoAttr K a.C_Guild "wish_ranks"
 F_a9:Fun K "__init__" "Guild.__init__" s_a9 a.f_a9 a.d_a9
 b_a9:Binds K a.d_a9 ["self", "size"] []
 F_c9:Fun K "houses_paired" "Guild.houses_paired" s_c9 a.f_c9 a.d_c9
 b_c9:Binds K a.d_c9 ["self", "pairs", "a"] []
 me_c9:Meth K a.C_Guild "houses_paired" a.f_c9
 F_k9:Fun K "shuns_one_of" "Guild.shuns_one_of" s_k9 a.f_k9 a.d_k9
 b_k9:Binds K a.d_k9 ["self", "a", "houses"] []
 me_k9:Meth K a.C_Guild "shuns_one_of" a.f_k9
 F_l9:Fun K "size" "Guild.size" s_l9 a.f_l9 a.d_l9
 b_l9:Binds K a.d_l9 ["self"] []
 me_l9:Meth K a.C_Guild "size" a.f_l9
 F_r9:Fun K "_law_cell_at" "_law_cell_at" s_r9 a.f_r9 a.d_r9
 b_r9:Binds K a.d_r9 ["script", "k"] []
 m_r9:mg "_law_cell_at" = some (.ref a.f_r9)
 kp_r9:PySem.W.keepIn K (.ref a.f_r9)=true
 F_t9:Fun K "_law_order" "_law_order" s_t9 a.f_t9 a.d_t9
 b_t9:Binds K a.d_t9 ["cell", "many"] []
 m_t9:mg "_law_order" = some (.ref a.f_t9)
 kp_t9:PySem.W.keepIn K (.ref a.f_t9)=true
 F_w9:Fun K "_law_table_of" "_law_table_of" s_w9 a.f_w9 a.d_w9
 b_w9:Binds K a.d_w9 ["ring", "start"] []
 m_w9:mg "_law_table_of" = some (.ref a.f_w9)
 kp_w9:PySem.W.keepIn K (.ref a.f_w9)=true
 F_x9:Fun K "_law_whole" "_law_whole" s_x9 a.f_x9 a.d_x9
 b_x9:Binds K a.d_x9 ["found"] []
 m_x9:mg "_law_whole" = some (.ref a.f_x9)
 kp_x9:PySem.W.keepIn K (.ref a.f_x9)=true
 F_n9:Fun K "best_road" "best_road" s_n9 a.f_n9 a.d_n9
 b_n9:Binds K a.d_n9 ["house", "standings"] []
 m_n9:mg "best_road" = some (.ref a.f_n9)
 kp_n9:PySem.W.keepIn K (.ref a.f_n9)=true
 F_z9:Fun K "next_houses_of" "next_houses_of" s_z9 a.f_z9 a.d_z9
 b_z9:Binds K a.d_z9 ["table"] []
 m_z9:mg "next_houses_of" = some (.ref a.f_z9)
 kp_z9:PySem.W.keepIn K (.ref a.f_z9)=true
 F_bb9:Fun K "require_within" "require_within" bZ4 a.f_bb9 a.d_bb9
 b_bb9:Binds K a.d_bb9 ["houses", "count"] []
 m_bb9:mg "require_within" = some (.ref a.f_bb9)
 kp_bb9:PySem.W.keepIn K (.ref a.f_bb9)=true
 F_bc9:Fun K "road_by" "road_by" bZ3 a.f_bc9 a.d_bc9
 b_bc9:Binds K a.d_bc9 ["next_houses", "house"] []
 m_bc9:mg "road_by" = some (.ref a.f_bc9)
 kp_bc9:PySem.W.keepIn K (.ref a.f_bc9)=true
 F_be9:Fun K "rows_with_ends" "rows_with_ends" bC2 a.f_be9 a.d_be9
 b_be9:Binds K a.d_be9 ["rows", "ends"] []
 m_be9:mg "rows_with_ends" = some (.ref a.f_be9)
 kp_be9:PySem.W.keepIn K (.ref a.f_be9)=true
 F_h9:Fun K "require_houses" "Guild.require_houses" s_h9 a.f_h9 a.d_h9
 b_h9:Binds K a.d_h9 ["self", "houses"] []
 me_h9:Meth K a.C_Guild "require_houses" a.f_h9
 F_u9:Fun K "_law_same_road" "_law_same_road" s_u9 a.f_u9 a.d_u9
 b_u9:Binds K a.d_u9 ["found", "due"] []
 m_u9:mg "_law_same_road" = some (.ref a.f_u9)
 kp_u9:PySem.W.keepIn K (.ref a.f_u9)=true
 F_y9:Fun K "may_take" "may_take" s_y9 a.f_y9 a.d_y9
 b_y9:Binds K a.d_y9 ["guild", "house", "road"] []
 m_y9:mg "may_take" = some (.ref a.f_y9)
 kp_y9:PySem.W.keepIn K (.ref a.f_y9)=true
 F_ba9:Fun K "require_told_houses" "require_told_houses" bZ5 a.f_ba9 a.d_ba9
 b_ba9:Binds K a.d_ba9 ["told", "count"] []
 m_ba9:mg "require_told_houses" = some (.ref a.f_ba9)
 kp_ba9:PySem.W.keepIn K (.ref a.f_ba9)=true
 F_bh9:Fun K "table_by" "table_by" bk1 a.f_bh9 a.d_bh9
 b_bh9:Binds K a.d_bh9 ["next_houses"] []
 m_bh9:mg "table_by" = some (.ref a.f_bh9)
 kp_bh9:PySem.W.keepIn K (.ref a.f_bh9)=true
 F_b9:Fun K "has_way" "Guild.has_way" s_b9 a.f_b9 a.d_b9
 b_b9:Binds K a.d_b9 ["self", "a", "b"] []
 me_b9:Meth K a.C_Guild "has_way" a.f_b9
 F_e9:Fun K "liking" "Guild.liking" s_e9 a.f_e9 a.d_e9
 b_e9:Binds K a.d_e9 ["self", "a", "b"] []
 me_e9:Meth K a.C_Guild "liking" a.f_e9
 F_f9:Fun K "neighbours" "Guild.neighbours" s_f9 a.f_f9 a.d_f9
 b_f9:Binds K a.d_f9 ["self", "a"] []
 me_f9:Meth K a.C_Guild "neighbours" a.f_f9
 F_i9:Fun K "require_long_road" "Guild.require_long_road" s_i9 a.f_i9 a.d_i9
 b_i9:Binds K a.d_i9 ["self", "road"] []
 me_i9:Meth K a.C_Guild "require_long_road" a.f_i9
 F_j9:Fun K "require_two_houses" "Guild.require_two_houses" s_j9 a.f_j9 a.d_j9
 b_j9:Binds K a.d_j9 ["self", "a", "b"] []
 me_j9:Meth K a.C_Guild "require_two_houses" a.f_j9
 F_v9:Fun K "_law_same_table" "_law_same_table" s_v9 a.f_v9 a.d_v9
 b_v9:Binds K a.d_v9 ["found", "due"] []
 m_v9:mg "_law_same_table" = some (.ref a.f_v9)
 kp_v9:PySem.W.keepIn K (.ref a.f_v9)=true
 F_d9:Fun K "lay_way" "Guild.lay_way" s_d9 a.f_d9 a.d_d9
 b_d9:Binds K a.d_d9 ["self", "a", "b"] []
 me_d9:Meth K a.C_Guild "lay_way" a.f_d9
 F_g9:Fun K "rank_of" "Guild.rank_of" s_g9 a.f_g9 a.d_g9
 b_g9:Binds K a.d_g9 ["self", "road"] []
 me_g9:Meth K a.C_Guild "rank_of" a.f_g9
 F_m9:Fun K "wish" "Guild.wish" s_m9 a.f_m9 a.d_m9
 b_m9:Binds K a.d_m9 ["self", "road", "rank"] []
 me_m9:Meth K a.C_Guild "wish" a.f_m9
 F_bd9:Fun K "rows_of_next_houses" "rows_of_next_houses" bZ2 a.f_bd9 a.d_bd9
 b_bd9:Binds K a.d_bd9 ["guild"] []
 m_bd9:mg "rows_of_next_houses" = some (.ref a.f_bd9)
 kp_bd9:PySem.W.keepIn K (.ref a.f_bd9)=true
 F_s9:Fun K "_law_guild_of" "_law_guild_of" s_s9 a.f_s9 a.d_s9
 b_s9:Binds K a.d_s9 ["ring", "cell"] []
 m_s9:mg "_law_guild_of" = some (.ref a.f_s9)
 kp_s9:PySem.W.keepIn K (.ref a.f_s9)=true
 F_bg9:Fun K "standing" "standing" bZ0 a.f_bg9 a.d_bg9
 b_bg9:Binds K a.d_bg9 ["guild", "road"] []
 m_bg9:mg "standing" = some (.ref a.f_bg9)
 kp_bg9:PySem.W.keepIn K (.ref a.f_bg9)=true
 F_o9:Fun K "choice_among" "choice_among" s_o9 a.f_o9 a.d_o9
 b_o9:Binds K a.d_o9 ["guild", "house", "told"] []
 m_o9:mg "choice_among" = some (.ref a.f_o9)
 kp_o9:PySem.W.keepIn K (.ref a.f_o9)=true
 F_p9:Fun K "first_unsettled" "first_unsettled" s_p9 a.f_p9 a.d_p9
 b_p9:Binds K a.d_p9 ["guild", "table"] []
 m_p9:mg "first_unsettled" = some (.ref a.f_p9)
 kp_p9:PySem.W.keepIn K (.ref a.f_p9)=true
 F_bf9:Fun K "settled_tables" "settled_tables" bZ1 a.f_bf9 a.d_bf9
 b_bf9:Binds K a.d_bf9 ["guild"] []
 m_bf9:mg "settled_tables" = some (.ref a.f_bf9)
 kp_bf9:PySem.W.keepIn K (.ref a.f_bf9)=true
 F_q9:Fun K "law" "law" s_q9 a.f_q9 a.d_q9
 b_q9:Binds K a.d_q9 ["script"] []
 m_q9:mg "law" = some (.ref a.f_q9)
 kp_q9:PySem.W.keepIn K (.ref a.f_q9)=true
 g_SEAT:∃ t,mg "SEAT" = some (.int 0 t)
 g_MOST_HOUSES:∃ t,mg "MOST_HOUSES" = some (.int 60 t)
 g_MOST_FOR_TABLES:∃ t,mg "MOST_FOR_TABLES" = some (.int 5 t)
 z_len:mg "len" = none
 z_range:mg "range" = none
 z_min:mg "min" = none
 z_max:mg "max" = none
 z_set:mg "set" = none
 z_list:mg "list" = none
 z_tuple:mg "tuple" = none
 z_isinstance:mg "isinstance" = none
 z_bool:mg "bool" = none
 z_int:mg "int" = none
 z_any:mg "any" = none
noncomputable def cmOf (a:Adr) (K:PySem.W.Frag):Mi.Cm:=⟨fun c=>match c with | 0=>a.C_Guild | _=>0,K,[]⟩
end K21
namespace K21
open PySem L2 Mi
noncomputable def aq5:List (Str×Sh):=[("ways",.ct .fz),("likings",.ct .fz),("shuns",.ct .fz),("wish_ranks",.ct .fz)]
noncomputable def ct9:List Md:=[.O (.ob aq5),.F]
noncomputable def mo_a9:List Md:=[]
noncomputable abbrev aQ5:Mi.Env→SO:=(fun _=> .bad)
noncomputable abbrev bX9:Mi.Env→SO:=(ifS (liP (orT (tst (bn ltI (vr 1) (cst (.int 1)))) (tst (bn gtI (vr 1) (cst (.int 60))))))
 aQ5
 af2)
noncomputable abbrev bX8:Mi.Env→SO:=(fldS 0 "house_count" 0 (liP (vr 1)))
noncomputable abbrev bX7:Mi.Env→SO:=(fldS 0 "ways" 0 (liP (cst (.dT [] []))))
noncomputable abbrev bX6:Mi.Env→SO:=(fldS 0 "likings" 0 (liP (cst (.dT [] []))))
noncomputable abbrev bX5:Mi.Env→SO:=(fldS 0 "shuns" 0 (liP (cst (.dT [] []))))
noncomputable abbrev bX4:Mi.Env→SO:=(fldS 0 "wish_ranks" 0 (liP (cst (.dT [] []))))
noncomputable def ce1:Mi.Env→SO:=(seqS bX9
 (seqS bX8
 (seqS bX7
 (seqS bX6
 (seqS bX5
 bX4)))))
noncomputable def m_a9:List D→Out D:=run 2 ce1
theorem bE8:ce1=(seqS (ifS (liP (orT (tst (bn ltI (vr 1) (cst (.int 1)))) (tst (bn gtI (vr 1) (cst (.int 60))))))
 (fun _=> .bad)
 af2)
 (seqS (fldS 0 "house_count" 0 (liP (vr 1)))
 (seqS (fldS 0 "ways" 0 (liP (cst (.dT [] []))))
 (seqS (fldS 0 "likings" 0 (liP (cst (.dT [] []))))
 (seqS (fldS 0 "shuns" 0 (liP (cst (.dT [] []))))
 (fldS 0 "wish_ranks" 0 (liP (cst (.dT [] []))))))))):=rfl
noncomputable def ct7:List Md:=[.R,.R,.F]
noncomputable def mo_c9:List Md:=[]
noncomputable abbrev bX1:Mi.Env→SO:=(retS (liP (comp (aJ7 (un (fldD 0 "house_count") (vr 0))) [1,2] (tst (bn (dinD false) (mkT (esC (vr 2) (esC (vr 0) esN))) (vr 1))) (vr 0))))
noncomputable def cd9:Mi.Env→SO:=bX1
noncomputable def m_c9:List D→Out D:=runO 3 cd9
noncomputable def cs9:List Md:=[.R,.F,.R]
noncomputable def mo_k9:List Md:=[]
noncomputable abbrev bV1:Mi.Env→SO:=(retS (liP (un anyD (comp (srcL (vr 2)) [1,0] (fun _=> .ok true) (bn (dinD false) (mkT (esC (vr 1) (esC (sc1 (vr 0)) esN))) (un (fldD 0 "shuns") (vr 2)))))))
noncomputable def cd1:Mi.Env→SO:=bV1
noncomputable def m_k9:List D→Out D:=run 3 cd1
noncomputable def cs8:List Md:=[.R]
noncomputable def mo_l9:List Md:=[]
noncomputable abbrev bV0:Mi.Env→SO:=(retS (liP (sc1 (un (fldD 0 "house_count") (vr 0)))))
noncomputable def cd0:Mi.Env→SO:=bV0
noncomputable def m_l9:List D→Out D:=run 1 cd0
noncomputable def cs2:List Md:=[.R,.F]
noncomputable def mo_r9:List Md:=[]
noncomputable abbrev aP2:Mi.Env→SO:=(retS (liP (sc1 (bn ixL (vr 0) (vr 1)))))
noncomputable abbrev bS9:Mi.Env→SO:=(ifS (liP (tst (bn ltI (vr 1) (un lenD (vr 0)))))
 aP2
 af2)
noncomputable abbrev bS8:Mi.Env→SO:=(retS (liP (cst (.int 0))))
noncomputable def cc4:Mi.Env→SO:=(seqS bS9
 bS8)
noncomputable def m_r9:List D→Out D:=run 2 cc4
noncomputable def cs0:List Md:=[.F,.F]
noncomputable def mo_t9:List Md:=[.O (.ct .fz),.O (.ct .fz)]
noncomputable abbrev bS3:Mi.Env→SO:=(setS 2 (liP (comp (srcR (cst (.int 1)) (bn addI (vr 1) (cst (.int 1)))) [] (fun _=> .ok true) (vr 0))))
noncomputable abbrev bS2:Mi.Env→SO:=(setS 3 (liP (mkL esN)))
noncomputable abbrev bi0:Mi.Env→SO:=(setS 0 (liP (bn modI (bn addI (bn mulI (vr 0) (cst (.int 48271))) (cst (.int 29))) (cst (.int 2147483647)))))
noncomputable abbrev bh9:Mi.Env→SO:=(ak5 (appM 3 (lst1 (aQ8 2) (aC5 2) popF (bn modI (bn bq4 (vr 0) (cst (.int 3))) (un lenD (vr 2))))))
noncomputable abbrev ce9:Mi.Env→SO:=(seqS bi0
 bh9)
noncomputable abbrev bS1:Mi.Env→SO:=(whS (liP (tst (bn gtI (un lenD (vr 2)) (cst (.int 0)))))
 ce9 100000)
noncomputable abbrev bS0:Mi.Env→SO:=(retS (mvS 3))
noncomputable def cc2:Mi.Env→SO:=(seqS bS3
 (seqS bS2
 (seqS bS1
 bS0)))
noncomputable def m_t9:List D→Out D:=runO 4 cc2
noncomputable def cr7:List Md:=[.F,.F]
noncomputable def mo_w9:List Md:=[.O (.ct .fz),.F]
noncomputable abbrev bR2:Mi.Env→SO:=(setS 2 (liP (bn catL (mkL (esC (mkL (esC (cst (.int 0)) esN)) esN)) (comp (srcL (vr 0)) [] (fun _=> .ok true) (cst .non)))))
noncomputable abbrev bh6:Mi.Env→SO:=(bF1 (aQ8 2) (aC5 2) (bn ixL (vr 0) (vr 3)) (liP (mkL (esC (bn ixL (vr 0) (vr 3)) (esC (cst (.int 0)) esN)))))
noncomputable abbrev aE9:Mi.Env→SO:=(bF1 (aQ8 2) (aC5 2) (bn ixL (vr 0) (vr 3)) (liP (mkL (esC (bn ixL (vr 0) (vr 3)) (esC (bn ixL (vr 0) (bn modI (bn addI (vr 3) (cst (.int 1))) (un lenD (vr 0)))) (esC (cst (.int 0)) esN))))))
noncomputable abbrev bh5:Mi.Env→SO:=(ifS (liP (tst (bn (eqS true) (bn modI (vr 3) (cst (.int 2))) (vr 1))))
 aE9
 af2)
noncomputable abbrev ce8:Mi.Env→SO:=(seqS bh6
 bh5)
noncomputable abbrev bR1:Mi.Env→SO:=(av9 (liP (aJ7 (un lenD (vr 0)))) (tgN 3)
 ce8)
noncomputable abbrev bR0:Mi.Env→SO:=(retS (mvS 2))
noncomputable def cb9:Mi.Env→SO:=(seqS bR2
 (seqS bR1
 bR0))
noncomputable def m_w9:List D→Out D:=runO 4 cb9
noncomputable def cr6:List Md:=[.F]
noncomputable def mo_x9:List Md:=[]
noncomputable abbrev bQ9:Mi.Env→SO:=(retS (liP (andD (bn isT (vr 0) (cst (.ty "int"))) (un notB (bn isT (vr 0) (cst (.ty "bool")))))))
noncomputable def cb8:Mi.Env→SO:=bQ9
noncomputable def m_x9:List D→Out D:=run 1 cb8
noncomputable def cs6:List Md:=[.F,.F]
noncomputable def mo_n9:List Md:=[.F]
noncomputable abbrev aP8:Mi.Env→SO:=(retS (liP (mkL (esC (cst (.int 0)) esN))))
noncomputable abbrev bU7:Mi.Env→SO:=(ifS (liP (tst (bn (eqS false) (vr 0) (cst (.int 0)))))
 aP8
 af2)
noncomputable abbrev bU6:Mi.Env→SO:=(setS 2 (liP (bn bn5 (vr 1) (cst .non))))
noncomputable abbrev aP7:Mi.Env→SO:=(retS (liP (cst .non)))
noncomputable abbrev bU5:Mi.Env→SO:=(ifS (liP (tst (bn (isNb false) (vr 2) (cst .non))))
 aP7
 af2)
noncomputable abbrev bU4:Mi.Env→SO:=(retS (liP (bn ixT (vr 2) (cst (.int 2)))))
noncomputable def cc8:Mi.Env→SO:=(seqS bU7
 (seqS bU6
 (seqS bU5
 bU4)))
noncomputable def m_n9:List D→Out D:=run 3 cc8
noncomputable def cr4:List Md:=[.F]
noncomputable def mo_z9:List Md:=[]
noncomputable abbrev bQ6:Mi.Env→SO:=(retS (liP (comp (srcL (vr 0)) [] (fun _=> .ok true) (iteD (orT (tst (bn (isNb false) (vr 0) (cst .non))) (tst (bn ltI (un lenD (vr 0)) (cst (.int 2))))) (cst .non) (bn ixL (vr 0) (cst (.int 1)))))))
noncomputable def cb6:Mi.Env→SO:=bQ6
noncomputable def m_z9:List D→Out D:=runO 1 cb6
noncomputable def bP1:List Md:=[.R,.F]
noncomputable def cu7:List Md:=[]
noncomputable abbrev aJ6:Mi.Env→SO:=(fun _=> .bad)
noncomputable abbrev bB4:Mi.Env→SO:=(ifS (liP (orT (tst (bn ltI (bn (extD ag4) (vr 0) (cst (.int 0))) (cst (.int 0)))) (tst (bn geI (bn (extD an3) (vr 0) (cst (.int 0))) (vr 1)))))
 aJ6
 af2)
noncomputable def bo3:Mi.Env→SO:=bB4
noncomputable def m_bb9:List D→Out D:=run 2 bo3
noncomputable def bP0:List Md:=[.F,.F]
noncomputable def cu6:List Md:=[.O (.ct .fz),.F]
noncomputable abbrev bB3:Mi.Env→SO:=(setS 2 (liP (mkL (esC (vr 1) esN))))
noncomputable abbrev bd5:Mi.Env→SO:=(setS 3 (liP (bn ixL (vr 0) (bn ixL (vr 2) (un negI (cst (.int 1)))))))
noncomputable abbrev aC2:Mi.Env→SO:=(retS (liP (cst .non)))
noncomputable abbrev bd4:Mi.Env→SO:=(ifS (liP (orT (tst (bn (isNb false) (vr 3) (cst .non))) (tst (bn inD (vr 3) (vr 2)))))
 aC2
 af2)
noncomputable abbrev bd3:Mi.Env→SO:=(ak5 (lst1 (aQ8 2) (aC5 2) appF (vr 3)))
noncomputable abbrev bF4:Mi.Env→SO:=(seqS bd5
 (seqS bd4
 bd3))
noncomputable abbrev bB2:Mi.Env→SO:=(whS (liP (tst (bn (eqS true) (bn ixL (vr 2) (un negI (cst (.int 1)))) (cst (.int 0)))))
 bF4 100000)
noncomputable abbrev bB1:Mi.Env→SO:=(retS (mvS 2))
noncomputable def bo2:Mi.Env→SO:=(seqS bB3
 (seqS bB2
 bB1))
noncomputable def m_bc9:List D→Out D:=run 4 bo2
noncomputable def bO8:List Md:=[.F,.F]
noncomputable def cu4:List Md:=[.O (.ct .fz),.F]
noncomputable abbrev bA7:Mi.Env→SO:=(setS 2 (liP (mkL esN)))
noncomputable abbrev bd1:Mi.Env→SO:=(ak5 (lst1 (aQ8 2) (aC5 2) extF (comp (srcL (vr 1)) [3] (fun _=> .ok true) (bn catL (vr 1) (mkL (esC (vr 0) esN))))))
noncomputable abbrev bA6:Mi.Env→SO:=(av9 (liP (srcL (vr 0))) (tgN 3)
 bd1)
noncomputable abbrev bA5:Mi.Env→SO:=(retS (mvS 2))
noncomputable def bo0:Mi.Env→SO:=(seqS bA7
 (seqS bA6
 bA5))
noncomputable def m_be9:List D→Out D:=runO 4 bo0
noncomputable def ct2:List Md:=[.R,.R]
noncomputable def mo_h9:List Md:=[]
noncomputable abbrev bV8:Mi.Env→SO:=(ak5 (liP (pc m_bb9 (esC (vr 1) (esC (sc1 (un (fldD 0 "house_count") (vr 0))) esN)))))
noncomputable def cd4:Mi.Env→SO:=bV8
noncomputable def m_h9:List D→Out D:=run 2 cd4
noncomputable def cr9:List Md:=[.F,.F]
noncomputable def mo_u9:List Md:=[.F]
noncomputable abbrev aP1:Mi.Env→SO:=(retS (liP (bn (isNb false) (vr 0) (cst .non))))
noncomputable abbrev bR9:Mi.Env→SO:=(ifS (liP (tst (bn (isNb false) (vr 1) (cst .non))))
 aP1
 af2)
noncomputable abbrev aP0:Mi.Env→SO:=(retS (liP (cst (.bl false))))
noncomputable abbrev bR8:Mi.Env→SO:=(ifS (liP (orT (notT (tst (bn isT (vr 0) (cst (.ty "list"))))) (tst (bn (eqS true) (un lenD (vr 0)) (un lenD (vr 1))))))
 aP0
 af2)
noncomputable abbrev aF1:Mi.Env→SO:=(retS (liP (cst (.bl false))))
noncomputable abbrev bh8:Mi.Env→SO:=(ifS (liP (notT (tst (pc m_x9 (esC (vr 2) esN)))))
 aF1
 af2)
noncomputable abbrev bR7:Mi.Env→SO:=(av9 (liP (srcL (vr 0))) (tgN 2)
 bh8)
noncomputable abbrev bR6:Mi.Env→SO:=(retS (liP (bn (eqD false) (vr 0) (vr 1))))
noncomputable def cc1:Mi.Env→SO:=(seqS bR9
 (seqS bR8
 (seqS bR7
 bR6)))
noncomputable def m_u9:List D→Out D:=run 3 cc1
noncomputable def cr5:List Md:=[.R,.F,.R]
noncomputable def mo_y9:List Md:=[]
noncomputable abbrev aO8:Mi.Env→SO:=(retS (liP (cst (.bl false))))
noncomputable abbrev bQ8:Mi.Env→SO:=(ifS (liP (orT (tst (bn (isNb false) (vr 2) (cst .non))) (orT (tst (bn (eqS false) (vr 1) (cst (.int 0)))) (tst (bn inD (vr 1) (vr 2))))))
 aO8
 af2)
noncomputable abbrev bQ7:Mi.Env→SO:=(retS (liP (un notB (pm 0 "shuns_one_of" m_k9 (vr 0) (esC (vr 1) (esC (vr 2) esN))))))
noncomputable def cb7:Mi.Env→SO:=(seqS bQ8
 bQ7)
noncomputable def m_y9:List D→Out D:=run 3 cb7
noncomputable def bP2:List Md:=[.R,.F]
noncomputable def cu8:List Md:=[.R]
noncomputable abbrev aC3:Mi.Env→SO:=(ak5 (liP (pc m_bb9 (esC (vr 2) (esC (vr 1) esN)))))
noncomputable abbrev bd6:Mi.Env→SO:=(ifS (liP (tst (bn (isNb true) (vr 2) (cst .non))))
 aC3
 af2)
noncomputable abbrev bB5:Mi.Env→SO:=(av9 (liP (srcL (vr 0))) (tgN 2)
 bd6)
noncomputable def bo4:Mi.Env→SO:=bB5
noncomputable def m_ba9:List D→Out D:=run 3 bo4
noncomputable def bO5:List Md:=[.F]
noncomputable def cu1:List Md:=[]
noncomputable abbrev bz9:Mi.Env→SO:=(retS (liP (comp (aJ7 (un lenD (vr 0))) [0] (fun _=> .ok true) (pc m_bc9 (esC (vr 1) (esC (vr 0) esN))))))
noncomputable def bn7:Mi.Env→SO:=bz9
noncomputable def m_bh9:List D→Out D:=runO 1 bn7
noncomputable def ct8:List Md:=[.R,.F,.F]
noncomputable def mo_b9:List Md:=[]
noncomputable abbrev bX3:Mi.Env→SO:=(ak5 (liP (pm 0 "require_houses" m_h9 (vr 0) (esC (mkL (esC (vr 1) (esC (vr 2) esN))) esN))))
noncomputable abbrev bX2:Mi.Env→SO:=(retS (liP (bn (dinD false) (mkT (esC (vr 1) (esC (vr 2) esN))) (un (fldD 0 "ways") (vr 0)))))
noncomputable def ce0:Mi.Env→SO:=(seqS bX3
 bX2)
noncomputable def m_b9:List D→Out D:=run 3 ce0
noncomputable def ct5:List Md:=[.R,.F,.F]
noncomputable def mo_e9:List Md:=[]
noncomputable abbrev bW6:Mi.Env→SO:=(ak5 (liP (pm 0 "require_houses" m_h9 (vr 0) (esC (mkL (esC (vr 1) (esC (vr 2) esN))) esN))))
noncomputable abbrev bW5:Mi.Env→SO:=(retS (liP (sc1 (cf7 (un (fldD 0 "likings") (vr 0)) (mkT (esC (vr 1) (esC (vr 2) esN))) (cst (.int 0))))))
noncomputable def cd7:Mi.Env→SO:=(seqS bW6
 bW5)
noncomputable def m_e9:List D→Out D:=run 3 cd7
noncomputable def ct4:List Md:=[.R,.F]
noncomputable def mo_f9:List Md:=[]
noncomputable abbrev bW4:Mi.Env→SO:=(ak5 (liP (pm 0 "require_houses" m_h9 (vr 0) (esC (mkL (esC (vr 1) esN)) esN))))
noncomputable abbrev bW3:Mi.Env→SO:=(retS (liP (pm 0 "houses_paired" m_c9 (vr 0) (esC (un (fldD 0 "ways") (vr 0)) (esC (vr 1) esN)))))
noncomputable def cd6:Mi.Env→SO:=(seqS bW4
 bW3)
noncomputable def m_f9:List D→Out D:=runO 2 cd6
noncomputable def ct1:List Md:=[.R,.R]
noncomputable def mo_i9:List Md:=[]
noncomputable abbrev bV7:Mi.Env→SO:=(ak5 (liP (pm 0 "require_houses" m_h9 (vr 0) (esC (vr 1) esN))))
noncomputable abbrev aQ2:Mi.Env→SO:=(fun _=> .bad)
noncomputable abbrev bV6:Mi.Env→SO:=(ifS (liP (tst (bn ltI (un lenD (vr 1)) (cst (.int 2)))))
 aQ2
 af2)
noncomputable abbrev aQ1:Mi.Env→SO:=(fun _=> .bad)
noncomputable abbrev bV5:Mi.Env→SO:=(ifS (liP (tst (bn (eqS true) (bn ixL (vr 1) (un negI (cst (.int 1)))) (cst (.int 0)))))
 aQ1
 af2)
noncomputable abbrev aQ0:Mi.Env→SO:=(fun _=> .bad)
noncomputable abbrev bV4:Mi.Env→SO:=(ifS (liP (tst (bn (eqS true) (un aM2 (vr 1)) (un lenD (vr 1)))))
 aQ0
 af2)
noncomputable def cd3:Mi.Env→SO:=(seqS bV7
 (seqS bV6
 (seqS bV5
 bV4)))
noncomputable def m_i9:List D→Out D:=run 2 cd3
noncomputable def ct0:List Md:=[.R,.F,.F]
noncomputable def mo_j9:List Md:=[]
noncomputable abbrev bV3:Mi.Env→SO:=(ak5 (liP (pm 0 "require_houses" m_h9 (vr 0) (esC (mkL (esC (vr 1) (esC (vr 2) esN))) esN))))
noncomputable abbrev aP9:Mi.Env→SO:=(fun _=> .bad)
noncomputable abbrev bV2:Mi.Env→SO:=(ifS (liP (tst (bn (eqS false) (vr 1) (vr 2))))
 aP9
 af2)
noncomputable def cd2:Mi.Env→SO:=(seqS bV3
 bV2)
noncomputable def m_j9:List D→Out D:=run 3 cd2
noncomputable def cr8:List Md:=[.F,.F]
noncomputable def mo_v9:List Md:=[.F]
noncomputable abbrev aO9:Mi.Env→SO:=(retS (liP (cst (.bl false))))
noncomputable abbrev bR5:Mi.Env→SO:=(ifS (liP (orT (notT (tst (bn isT (vr 0) (cst (.ty "list"))))) (tst (bn (eqS true) (un lenD (vr 0)) (un lenD (vr 1))))))
 aO9
 af2)
noncomputable abbrev aF0:Mi.Env→SO:=(retS (liP (cst (.bl false))))
noncomputable abbrev bh7:Mi.Env→SO:=(ifS (liP (notT (tst (pc m_u9 (esC (bn ixL (vr 0) (vr 2)) (esC (bn ixL (vr 1) (vr 2)) esN))))))
 aF0
 af2)
noncomputable abbrev bR4:Mi.Env→SO:=(av9 (liP (aJ7 (un lenD (vr 1)))) (tgN 2)
 bh7)
noncomputable abbrev bR3:Mi.Env→SO:=(retS (liP (cst (.bl true))))
noncomputable def cc0:Mi.Env→SO:=(seqS bR5
 (seqS bR4
 bR3))
noncomputable def m_v9:List D→Out D:=run 3 cc0
noncomputable def ct6:List Md:=[.O (.ob aq5),.F,.F]
noncomputable def mo_d9:List Md:=[]
noncomputable abbrev bX0:Mi.Env→SO:=(ak5 (liP (pm 0 "require_two_houses" m_j9 (vr 0) (esC (vr 1) (esC (vr 2) esN)))))
noncomputable abbrev aQ4:Mi.Env→SO:=(fun _=> .bad)
noncomputable abbrev bW9:Mi.Env→SO:=(ifS (liP (tst (bn (dinD false) (mkT (esC (vr 1) (esC (vr 2) esN))) (un (fldD 0 "ways") (vr 0)))))
 aQ4
 af2)
noncomputable abbrev bW8:Mi.Env→SO:=(br1 (getF 0 "ways" 0) (setF "ways" 0) (mkT (esC (vr 1) (esC (vr 2) esN))) (liP (cst (.bl true))))
noncomputable abbrev bW7:Mi.Env→SO:=(br1 (getF 0 "ways" 0) (setF "ways" 0) (mkT (esC (vr 2) (esC (vr 1) esN))) (liP (cst (.bl true))))
noncomputable def cd8:Mi.Env→SO:=(seqS bX0
 (seqS bW9
 (seqS bW8
 bW7)))
noncomputable def m_d9:List D→Out D:=run 3 cd8
noncomputable def ct3:List Md:=[.R,.R]
noncomputable def mo_g9:List Md:=[.F]
noncomputable abbrev bW2:Mi.Env→SO:=(ak5 (liP (pm 0 "require_long_road" m_i9 (vr 0) (esC (vr 1) esN))))
noncomputable abbrev bW1:Mi.Env→SO:=(setS 2 (liP (sc1 (cf8 (un (fldD 0 "wish_ranks") (vr 0)) (un tupL (chkS (vr 1)))))))
noncomputable abbrev aQ3:Mi.Env→SO:=(retS (liP (pm 0 "liking" m_e9 (vr 0) (esC (sc1 (bn ixL (vr 1) (cst (.int 0)))) (esC (sc1 (bn ixL (vr 1) (cst (.int 1)))) esN)))))
noncomputable abbrev bW0:Mi.Env→SO:=(ifS (liP (tst (bn (isNb false) (vr 2) (cst .non))))
 aQ3
 af2)
noncomputable abbrev bV9:Mi.Env→SO:=(retS (liP (vr 2)))
noncomputable def cd5:Mi.Env→SO:=(seqS bW2
 (seqS bW1
 (seqS bW0
 bV9)))
noncomputable def m_g9:List D→Out D:=run 3 cd5
noncomputable def cs7:List Md:=[.O (.ob aq5),.R,.F]
noncomputable def mo_m9:List Md:=[]
noncomputable abbrev bU9:Mi.Env→SO:=(ak5 (liP (pm 0 "require_long_road" m_i9 (vr 0) (esC (vr 1) esN))))
noncomputable abbrev bU8:Mi.Env→SO:=(br1 (getF 0 "wish_ranks" 0) (setF "wish_ranks" 0) (un tupL (chkS (vr 1))) (liP (vr 2)))
noncomputable def cc9:Mi.Env→SO:=(seqS bU9
 bU8)
noncomputable def m_m9:List D→Out D:=run 3 cc9
noncomputable def bO9:List Md:=[.R]
noncomputable def cu5:List Md:=[.F,.F]
noncomputable abbrev bB0:Mi.Env→SO:=(setS 1 (liP (mkL (esC (mkL (esC (cst .non) esN)) esN))))
noncomputable abbrev bd2:Mi.Env→SO:=(setS 1 (liP (pc m_be9 (esC (vr 1) (esC (bn catL (mkL (esC (cst .non) esN)) (pm 0 "neighbours" m_f9 (vr 0) (esC (vr 2) esN))) esN)))))
noncomputable abbrev bA9:Mi.Env→SO:=(av9 (liP (srcR (cst (.int 1)) (pm 0 "size" m_l9 (vr 0) esN))) (tgN 2)
 bd2)
noncomputable abbrev bA8:Mi.Env→SO:=(retS (liP (vr 1)))
noncomputable def bo1:Mi.Env→SO:=(seqS bB0
 (seqS bA9
 bA8))
noncomputable def m_bd9:List D→Out D:=run 3 bo1
noncomputable def cs1:List Md:=[.F,.F]
noncomputable def mo_s9:List Md:=[.F,.O (.ob aq5),.F,.F]
noncomputable abbrev bS7:Mi.Env→SO:=(setS 2 (liP (un lenD (vr 0))))
noncomputable abbrev bS6:Mi.Env→SO:=(setS 3 (liP (pk 0 m_a9 (esC (bn addI (cst (.int 1)) (vr 2)) esN))))
noncomputable abbrev bi4:Mi.Env→SO:=(setS 5 (liP (bn ixL (vr 0) (bn modI (bn addI (vr 4) (cst (.int 1))) (vr 2)))))
noncomputable abbrev bi3:Mi.Env→SO:=(ak5 (mm 0 "lay_way" [(.O 3),.F,.F] m_d9 (vr 3) (esC (bn ixL (vr 0) (vr 4)) (esC (cst (.int 0)) esN))))
noncomputable abbrev aF2:Mi.Env→SO:=(ak5 (mm 0 "lay_way" [(.O 3),.F,.F] m_d9 (vr 3) (esC (bn ixL (vr 0) (vr 4)) (esC (vr 5) esN))))
noncomputable abbrev bi2:Mi.Env→SO:=(ifS (liP (notT (tst (pm 0 "has_way" m_b9 (vr 3) (esC (bn ixL (vr 0) (vr 4)) (esC (vr 5) esN))))))
 aF2
 af2)
noncomputable abbrev bi1:Mi.Env→SO:=(ak5 (mm 0 "wish" [(.O 3),.F,.F] m_m9 (vr 3) (esC (mkL (esC (bn ixL (vr 0) (vr 4)) (esC (vr 5) (esC (cst (.int 0)) esN)))) (esC (bn addI (cst (.int 1)) (bn modI (bn addI (vr 1) (bn mulI (vr 4) (vr 4))) (bn powI (cst (.int 10)) (cst (.int 30))))) esN))))
noncomputable abbrev cf0:Mi.Env→SO:=(seqS bi4
 (seqS bi3
 (seqS bi2
 bi1)))
noncomputable abbrev bS5:Mi.Env→SO:=(av9 (liP (aJ7 (vr 2))) (tgN 4)
 cf0)
noncomputable abbrev bS4:Mi.Env→SO:=(retS (mvS 3))
noncomputable def cc3:Mi.Env→SO:=(seqS bS7
 (seqS bS6
 (seqS bS5
 bS4)))
noncomputable def m_s9:List D→Out D:=runO 6 cc3
noncomputable def bO6:List Md:=[.R,.F]
noncomputable def cu2:List Md:=[]
noncomputable abbrev bA0:Mi.Env→SO:=(retS (liP (mkT (esC (un negI (pm 0 "rank_of" m_g9 (vr 0) (esC (vr 1) esN))) (esC (un lenD (vr 1)) (esC (vr 1) esN))))))
noncomputable def bn8:Mi.Env→SO:=bA0
noncomputable def m_bg9:List D→Out D:=run 2 bn8
noncomputable def cs5:List Md:=[.R,.F,.R]
noncomputable def mo_o9:List Md:=[.F]
noncomputable abbrev bU3:Mi.Env→SO:=(setS 3 (liP (comp (srcL (vr 2)) [0,1] (tst (pc m_y9 (esC (vr 1) (esC (vr 2) (esC (vr 0) esN))))) (pc m_bg9 (esC (vr 1) (esC (bn catL (mkL (esC (vr 2) esN)) (chkS (vr 0))) esN))))))
noncomputable abbrev bU2:Mi.Env→SO:=(retS (liP (pc m_n9 (esC (vr 1) (esC (vr 3) esN)))))
noncomputable def cc7:Mi.Env→SO:=(seqS bU3
 bU2)
noncomputable def m_o9:List D→Out D:=run 4 cc7
noncomputable def cs4:List Md:=[.R,.R]
noncomputable def mo_p9:List Md:=[.F,.R]
noncomputable abbrev bU1:Mi.Env→SO:=(ak5 (liP (pc m_ba9 (esC (vr 1) (esC (pm 0 "size" m_l9 (vr 0) esN) esN)))))
noncomputable abbrev bi6:Mi.Env→SO:=(setS 3 (liP (comp (srcL (pm 0 "neighbours" m_f9 (vr 0) (esC (vr 2) esN))) [1] (fun _=> .ok true) (bn ixL (vr 1) (vr 0)))))
noncomputable abbrev aF3:Mi.Env→SO:=(retS (liP (vr 2)))
noncomputable abbrev bi5:Mi.Env→SO:=(ifS (liP (tst (bn (eqD true) (pc m_o9 (esC (vr 0) (esC (vr 2) (esC (vr 3) esN)))) (bn ixL (vr 1) (vr 2)))))
 aF3
 af2)
noncomputable abbrev cf1:Mi.Env→SO:=(seqS bi6
 bi5)
noncomputable abbrev bU0:Mi.Env→SO:=(av9 (liP (aJ7 (pm 0 "size" m_l9 (vr 0) esN))) (tgN 2)
 cf1)
noncomputable abbrev bT9:Mi.Env→SO:=(retS (liP (cst .non)))
noncomputable def cc6:Mi.Env→SO:=(seqS bU1
 (seqS bU0
 bT9))
noncomputable def m_p9:List D→Out D:=run 4 cc6
noncomputable def bO7:List Md:=[.R]
noncomputable def cu3:List Md:=[.O (.ct .fz),.F,.F]
noncomputable abbrev aJ5:Mi.Env→SO:=(fun _=> .bad)
noncomputable abbrev bA4:Mi.Env→SO:=(ifS (liP (tst (bn gtI (pm 0 "size" m_l9 (vr 0) esN) (cst (.int 5)))))
 aJ5
 af2)
noncomputable abbrev bA3:Mi.Env→SO:=(setS 1 (liP (mkL esN)))
noncomputable abbrev bd0:Mi.Env→SO:=(setS 3 (liP (pc m_bh9 (esC (vr 2) esN))))
noncomputable abbrev aC1:Mi.Env→SO:=(ak5 (lst1 (aQ8 1) (aC5 1) appF (vr 3)))
noncomputable abbrev bc9:Mi.Env→SO:=(ifS (liP (andT (tst (bn (eqD false) (pc m_z9 (esC (vr 3) esN)) (vr 2))) (tst (bn (isNb false) (pc m_p9 (esC (vr 0) (esC (vr 3) esN))) (cst .non)))))
 aC1
 af2)
noncomputable abbrev bF3:Mi.Env→SO:=(seqS bd0
 bc9)
noncomputable abbrev bA2:Mi.Env→SO:=(av9 (liP (srcL (pc m_bd9 (esC (vr 0) esN)))) (tgN 2)
 bF3)
noncomputable abbrev bA1:Mi.Env→SO:=(retS (mvS 1))
noncomputable def bn9:Mi.Env→SO:=(seqS bA4
 (seqS bA3
 (seqS bA2
 bA1)))
noncomputable def m_bf9:List D→Out D:=runO 4 bn9
noncomputable def cs3:List Md:=[.R]
noncomputable def mo_q9:List Md:=[.F,.F,.F,.F,.F]
noncomputable abbrev bT8:Mi.Env→SO:=(setS 1 (liP (bn addI (cst (.int 2)) (bn modI (pc m_r9 (esC (vr 0) (esC (cst (.int 0)) esN))) (cst (.int 3))))))
noncomputable abbrev bT7:Mi.Env→SO:=(setS 2 (liP (pc m_t9 (esC (pc m_r9 (esC (vr 0) (esC (cst (.int 1)) esN))) (esC (vr 1) esN)))))
noncomputable abbrev bT6:Mi.Env→SO:=(setS 3 (liP (pc m_bf9 (esC (pc m_s9 (esC (vr 2) (esC (pc m_r9 (esC (vr 0) (esC (cst (.int 2)) esN))) esN))) esN))))
noncomputable abbrev aP6:Mi.Env→SO:=(retS (liP (cst (.bl false))))
noncomputable abbrev bT5:Mi.Env→SO:=(ifS (liP (notT (tst (bn isT (vr 3) (cst (.ty "list"))))))
 aP6
 af2)
noncomputable abbrev aP5:Mi.Env→SO:=(retS (liP (bn (eqS false) (un lenD (vr 3)) (cst (.int 0)))))
noncomputable abbrev bT4:Mi.Env→SO:=(ifS (liP (tst (bn (eqS false) (vr 1) (cst (.int 3)))))
 aP5
 af2)
noncomputable abbrev bT3:Mi.Env→SO:=(setS 4 (liP (pc m_w9 (esC (vr 2) (esC (cst (.int 0)) esN)))))
noncomputable abbrev bT2:Mi.Env→SO:=(setS 5 (liP (pc m_w9 (esC (vr 2) (esC (cst (.int 1)) esN)))))
noncomputable abbrev aP4:Mi.Env→SO:=(setS 4 (liP (pc m_w9 (esC (vr 2) (esC (cst (.int 1)) esN)))))
noncomputable abbrev aP3:Mi.Env→SO:=(setS 5 (liP (pc m_w9 (esC (vr 2) (esC (cst (.int 0)) esN)))))
noncomputable abbrev bT1:Mi.Env→SO:=(ifS (liP (tst (bn ltL (comp (srcL (bn bG6 (vr 5) (cst (.int 1)))) [] (fun _=> .ok true) (bn ixL (vr 0) (cst (.int 1)))) (comp (srcL (bn bG6 (vr 4) (cst (.int 1)))) [] (fun _=> .ok true) (bn ixL (vr 0) (cst (.int 1)))))))
 (seqS aP4
 aP3)
 af2)
noncomputable abbrev bT0:Mi.Env→SO:=(retS (liP (andD (bn (eqS false) (un lenD (vr 3)) (cst (.int 2))) (andD (pc m_v9 (esC (bn ixL (vr 3) (cst (.int 0))) (esC (vr 4) esN))) (pc m_v9 (esC (bn ixL (vr 3) (cst (.int 1))) (esC (vr 5) esN)))))))
noncomputable def cc5:Mi.Env→SO:=(seqS bT8
 (seqS bT7
 (seqS bT6
 (seqS bT5
 (seqS bT4
 (seqS bT3
 (seqS bT2
 (seqS bT1
 bT0))))))))
noncomputable def m_q9:List D→Out D:=run 6 cc5
variable {P:Program} {w:World} {K:PySem.W.Frag} {mg:Str→Option Value} {base:Heap} {a:Adr}
theorem ok_a9 (T:Txt K mg a base):FnOk P w K mg base CX0 1 a.f_a9 a.d_a9 ["self", "size"] (spZ (cmOf a K) ct9 (KR (cmOf a K) .F) m_a9):=by
 obtain ⟨t_MOST_HOUSES,g_MOST_HOUSES⟩:=T.g_MOST_HOUSES
 refine T.F_a9.ok sc_a9 (fun _ _ _ _=>ab4) (fun _ _ _ _ _ _ _ _ hr h=>?_)
 refine ⟨_,(aa2 (ag7 (PW.pt (aK7 (ab8 bm7 (pv 1) ab2 (ac9 _)) (ax6 (ab8 ca7 (pv 1) (al5 rfl g_MOST_HOUSES (v:= .int 60) ⟨_,rfl⟩) (ac9 _))))) (aa3 aj2) ac5)
  (aa2 (aL0 (pv 0) (pv 1) rfl)
  (aa2 (aL0 (pv 0) aw4 rfl)
  (aa2 (aL0 (pv 0) aw4 rfl)
  (aa2 (aL0 (pv 0) aw4 rfl)
  (aa3 (aL0 (pv 0) aw4 rfl))))))),?_⟩
 refine ad0 (cm:=cmOf a K) (ms:=ct9) (more:=mo_a9) (body:=ce1) ?_ rfl rfl (fun _ _ _=>rnon) h
 exact (ab6 (s_if (upM (aK9 (pt_T (fx (p_op s_lt (fx (fF 1)) (fx pI)))) (pt_T (fx (p_op s_gt (fx (fF 1)) (fx pI)))))) am8 ag6)
  (ab6 (cm8 (c:=0) (i:=0) T.cl_Guild T.n_house_count rfl rfl (upM (fF 1)))
  (ab6 (aX9 (c:=0) (i:=0) T.cl_Guild T.n_ways rfl rfl (upM bD3))
  (ab6 (aX9 (c:=0) (i:=0) T.cl_Guild T.n_likings rfl rfl (upM bD3))
  (ab6 (aX9 (c:=0) (i:=0) T.cl_Guild T.n_shuns rfl rfl (upM bD3))
  (aX9 (c:=0) (i:=0) T.cl_Guild T.n_wish_ranks rfl rfl (upM bD3)))))))
theorem bI0:CompSc (aa4 s_c9) (Gd.as7 (Gd.bd7 (Gd.nth (ai3 s_c9) 0))) "b" ["pairs", "a"]:=by constructor <;> first | rfl | decide +kernel
theorem ok_c9 (T:Txt K mg a base):FnOk P w K mg base CX0 1 a.f_c9 a.d_c9 ["self", "pairs", "a"] (spZ (cmOf a K) ct7 (KO (cmOf a K) (.ct .fz)) m_c9):=by
 refine T.F_c9.ok sc_c9 (fun _ _ _ _=>ab4) (fun _ _ _ _ _ _ _ _ hr h=>?_)
 have hu:=aS6 hr
 refine ⟨_,(aa3 (ac1 (an1 rfl (ak0 rfl T.z_range (aa0 (ah9 K rfl (pv 0) rfl) aa1)) bI0 (ix:=[1,2]) rfl (fun _ _ _ _=>bl7 (bN2 (aY5 hu (au7 (aa0 (pv 2) (aa0 (pv 0) aa1))) (pv 1)))) (fun _ _ _ _=>(pv 0))))),?_⟩
 refine ai5 (cm:=cmOf a K) (ms:=ct7) (more:=mo_c9) (body:=cd9) ?_ rfl rfl h
 exact (ad8 (upM (aj3 (ix:=[1,2]) (i_r1 (ux (aL4 (c:=0) T.cl_Guild T.n_house_count (rc (fR 0))))) (by decide) (pt_B (fx (bD4 (fx (aL3 (ab0 (fF 2) (ab0 (fF 0) ad7)))) (rc (fR 1))))) (fF 0))))
theorem bH9:CompSc (aa4 s_k9) { kind:=PySem.ScopeKind.function,names:=[ (PySem.Str.ofString ".0",PySem.NameKind.local),(PySem.Str.ofString "b",PySem.NameKind.local),(PySem.Str.ofString "a",PySem.NameKind.free),(PySem.Str.ofString "self",PySem.NameKind.free)],isGenerator:=false,isCoroutine:=false,more:=[]:PySem.Scope } "b" ["a", "self"]:=by constructor <;> first | rfl | decide +kernel
theorem ok_k9 (T:Txt K mg a base):FnOk P w K mg base CX0 1 a.f_k9 a.d_k9 ["self", "a", "houses"] (spZ (cmOf a K) cs9 (KR (cmOf a K) .F) m_k9):=by
 refine T.F_k9.ok sc_k9 (fun _ _ _ _=>ab4) (fun _ _ _ _ _ _ _ _ hr h=>?_)
 have hu:=aS6 hr
 refine ⟨_,(aa3 (ac1 (ab9 (bx6 K rfl rfl) rfl T.z_any Gd.cz7 (aa0 (an1 rfl (ae9 K rfl (pv 2)) bH9 (ix:=[1,0]) rfl (fun _ _ _ _=>al4) (fun _ _ _ _=>(bN7 (aY5 hu (au7 (aa0 (pv 1) (aa0 (pv 0) aa1))) (ah9 K rfl (pv 2) rfl))))) aa1)))),?_⟩
 refine ad0 (cm:=cmOf a K) (ms:=cs9) (more:=mo_k9) (body:=cd1) ?_ rfl rfl (fun _ _ _=>rnon) h
 exact (ad8 (upM (al7 s_any (fx (oF (aY7 (ix:=[1,0]) (av1 (rc (fR 2))) (by decide) aq8 (bD4 (fx (aL3 (ab0 (fF 1) (ab0 (rS (k:= .X) (ux (fR 0))) ad7)))) (rc (aL4 (c:=0) T.cl_Guild T.n_shuns (rc (fR 2)))))))))))
theorem bD8 (T:Txt K mg a base):FnOk P w K mg base CX0 1 a.f_l9 a.d_l9 ["self"] (spZ (cmOf a K) cs8 (KR (cmOf a K) .F) m_l9):=by
 refine T.F_l9.ok sc_l9 (fun _ _ _ _=>ab4) (fun _ _ _ _ _ _ _ _ hr h=>?_)
 refine ⟨_,(aa3 (ac1 (ah9 K rfl (pv 0) rfl))),?_⟩
 refine ad0 (cm:=cmOf a K) (ms:=cs8) (more:=mo_l9) (body:=cd0) ?_ rfl rfl (fun _ _ _=>rnon) h
 exact (ad8 (upM (rS (k:= .X) (ux (aL4 (c:=0) T.cl_Guild T.n_house_count (rc (fR 0)))))))
theorem ca9 (T:Txt K mg a base):FnOk P w K mg base CX0 1 a.f_r9 a.d_r9 ["script", "k"] (spZ (cmOf a K) cs2 (KR (cmOf a K) .F) m_r9):=by
 refine T.F_r9.ok sc_r9 (fun _ _ _ _=>ab4) (fun _ _ _ _ _ _ _ _ hr h=>?_)
 refine ⟨_,(aa2 (ag7 (ab8 bm7 (pv 1) (ab9 (aa8 K rfl) rfl T.z_len Gd.ag1 (aa0 (pv 0) aa1)) (ac9 _)) (aa3 (ac1 (ag8 (ab7 K rfl) (pv 0) (pv 1) (fun _ _=>rfl)))) ac5)
  (aa3 (ac1 ab2))),?_⟩
 refine ad0 (cm:=cmOf a K) (ms:=cs2) (more:=mo_r9) (body:=cc4) ?_ rfl rfl (fun _ _ _=>rnon) h
 exact (ab6 (s_if (upM (pt_T (fx (p_op s_lt (fx (fF 1)) (fx (al7 am5 (ux (fR 0)))))))) (ad8 (upM (rS (k:= .X) (ux (ah6 (rc (fR 0)) (fx (fF 1))))))) ag6)
  (ad8 (upM pI)))
theorem bH4:CompSc (aa4 s_t9) (Gd.as7 (Gd.bd7 (Gd.nth (ai3 s_t9) 0))) "house" []:=by constructor <;> first | rfl | decide +kernel
theorem ok_t9 (T:Txt K mg a base):FnOk P w K mg base CX0 1 a.f_t9 a.d_t9 ["cell", "many"] (spZ (cmOf a K) cs0 (KO (cmOf a K) (.ct .fz)) m_t9):=by
 refine T.F_t9.ok bC0 (fun _ _ _ _=>ab4) (fun _ _ _ _ _ _ _ _ hr h=>?_)
 refine ⟨_,(aa2 (as5 (i:=2) rfl bC0.nd rfl (.inl rfl) (aL2 rfl T.z_range (aa0 ab2 (aa0 (ai8 au9 (pv 1) ab2) aa1))) bH4 (ix:=[]) rfl (fun _ _ _ _=>al4) (fun _ _ _ _=>(pv 0)))
  (aa2 (ae6 (i:=3) bC0.nd rfl (Or.inl rfl) (af6 aa1))
  (aa2 (aY3 PassesOwn.never (ab8 ca7 (ab9 (aa8 K rfl) rfl T.z_len Gd.ag1 (aa0 (pv 2) aa1)) ab2 (ac9 _)) (aa2 (ae6 (i:=0) bC0.nd rfl (Or.inl rfl) (ai8 ay1 (ai8 au9 (ai8 bO1 (pv 0) ab2) ab2) ab2))
  (aa3 (ae1 (bm3 PySem.F.plainAttrs_list PySem.F.slot_list_append PySem.F.type_list_append ar0 (pv 3) (aa0 (bm3 PySem.F.plainAttrs_list PySem.F.slot_list_pop PySem.F.type_list_pop bE6 (pv 2) (aa0 (ai8 ay1 (ai8 ca8 (pv 0) ab2) (ab9 (aa8 K rfl) rfl T.z_len Gd.ag1 (aa0 (pv 2) aa1))) aa1)) aa1))))))
  (aa3 (ac1 (pv 3)))))),?_⟩
 refine ai5 (cm:=cmOf a K) (ms:=cs0) (more:=mo_t9) (body:=cc2) ?_ rfl rfl h
 exact (ab6 (ax5 (i:=2) (upM (aj3 (ix:=[]) (i_r2 (fx pI) (fx (p_op aK5 (fx (fF 1)) (fx pI)))) (by decide) aq8 (fF 0))) rfl rfl)
  (ab6 (ax5 (i:=3) (upM (al6 ad7)) rfl rfl)
  (ab6 (bj7 100000 (upM (pt_T (fx (p_op s_gt (fx (al7 am5 (cx (fC 2)))) (fx pI))))) (ab6 (ah4 (i:=0) (upM (p_op aR0 (fx (p_op aK5 (fx (p_op cm5 (fx (fF 0)) (fx pI))) (fx pI))) (fx pI))) rfl rfl)
  (ag3 (bo5 (i:=3) rfl (ce3 (pthV (i:=2) rfl) (fx (p_op aR0 (fx (p_op cn0 (fx (fF 0)) (fx pI))) (fx (al7 am5 (cx (fC 2)))))))))))
  (ad8 (m_mv (i:=3) rfl)))))
theorem bH3:CompSc (aa4 s_w9) { kind:=PySem.ScopeKind.function,names:=[(PySem.Str.ofString ".0",PySem.NameKind.local),(PySem.Str.ofString "house",PySem.NameKind.local)],isGenerator:=false,isCoroutine:=false,more:=[]:PySem.Scope } "house" []:=by constructor <;> first | rfl | decide +kernel
theorem bD7 (T:Txt K mg a base):FnOk P w K mg base CX0 1 a.f_w9 a.d_w9 ["ring", "start"] (spZ (cmOf a K) cr7 (KO (cmOf a K) (.ct .fz)) m_w9):=by
 refine T.F_w9.ok bY7 (fun _ _ _ _=>ab4) (fun _ _ _ _ _ _ _ _ hr h=>?_)
 refine ⟨_,(aa2 (ae6 (i:=2) bY7.nd rfl (Or.inl rfl) (ai8 aY8 (af6 (aa0 (af6 (aa0 ab2 aa1)) aa1)) (an1 rfl (ae9 K rfl (pv 0)) bH3 (ix:=[]) rfl (fun _ _ _ _=>al4) (fun _ _ _ _=>ah5))))
  (aa2 (aq9 PassesOwn.never rfl (ak0 rfl T.z_range (aa0 (ab9 (aa8 K rfl) rfl T.z_len Gd.ag1 (aa0 (pv 0) aa1)) aa1)) (ai7 (i:=3) bY7.nd rfl (Or.inl rfl)) (aa2 (bN3 (af6 (aa0 (ag8 (ab7 K rfl) (pv 0) (pv 3) (fun _ _=>rfl)) (aa0 ab2 aa1))) (bN4 (pv 2) (ag8 (ab7 K rfl) (pv 0) (pv 3) (fun _ _=>rfl)) aX5))
  (aa3 (ag7 (ab8 be5 (ai8 ay1 (pv 3) ab2) (pv 1) (ac9 _)) (aa3 (bN3 (af6 (aa0 (ag8 (ab7 K rfl) (pv 0) (pv 3) (fun _ _=>rfl)) (aa0 (ag8 (ab7 K rfl) (pv 0) (ai8 ay1 (ai8 au9 (pv 3) ab2) (ab9 (aa8 K rfl) rfl T.z_len Gd.ag1 (aa0 (pv 0) aa1))) (fun _ _=>rfl)) (aa0 ab2 aa1)))) (bN4 (pv 2) (ag8 (ab7 K rfl) (pv 0) (pv 3) (fun _ _=>rfl)) aX5))) ac5))))
  (aa3 (ac1 (pv 2))))),?_⟩
 refine ai5 (cm:=cmOf a K) (ms:=cr7) (more:=mo_w9) (body:=cb9) ?_ rfl rfl h
 exact (ab6 (ax5 (i:=2) (upM (bD6 (oc (al6 (ab0 (oF (al6 (ab0 pI ad7))) ad7))) (oc (aj3 (ix:=[]) (av1 (rc (fF 0))) (by decide) aq8 pN)))) rfl rfl)
  (ab6 (aF6 (upM (i_r1 (fx (al7 am5 (fx (fF 0)))))) (.inl rfl) (tgF (i:=3) rfl rfl) (ab6 (bK3 (pthV (i:=2) rfl) (fx (ah6 (rc (fF 0)) (fx (fF 3)))) (upM (oF (al6 (ab0 (ah6 (rc (fF 0)) (fx (fF 3))) (ab0 pI ad7))))))
  (s_if (upM (pt_T (fx (p_op s_ne (fx (p_op aR0 (fx (fF 3)) (fx pI))) (fx (fF 1)))))) (bK3 (pthV (i:=2) rfl) (fx (ah6 (rc (fF 0)) (fx (fF 3)))) (upM (oF (al6 (ab0 (ah6 (rc (fF 0)) (fx (fF 3))) (ab0 (ah6 (rc (fF 0)) (fx (p_op aR0 (fx (p_op aK5 (fx (fF 3)) (fx pI))) (fx (al7 am5 (fx (fF 0))))))) (ab0 pI ad7))))))) ag6)))
  (ad8 (m_mv (i:=2) rfl))))
theorem ok_x9 (T:Txt K mg a base):FnOk P w K mg base CX0 1 a.f_x9 a.d_x9 ["found"] (spZ (cmOf a K) cr6 (KR (cmOf a K) .F) m_x9):=by
 refine T.F_x9.ok sc_x9 (fun _ _ _ _=>ab4) (fun _ _ _ _ _ _ _ _ hr h=>?_)
 refine ⟨_,(aa3 (ac1 (bm4 (ab9 (ao0 K rfl) rfl T.z_isinstance Gd.ag2 (aa0 (pv 0) (aa0 (ay0 rfl T.z_int Gd.cz6 (v:= .ty "int") rfl) aa1))) (bN5 (bN6 (ab9 (ao0 K rfl) rfl T.z_isinstance Gd.ag2 (aa0 (pv 0) (aa0 (ay0 rfl T.z_bool Gd.cj3 (v:= .ty "bool") rfl) aa1)))))))),?_⟩
 refine ad0 (cm:=cmOf a K) (ms:=cr6) (more:=mo_x9) (body:=cb8) ?_ rfl rfl (fun _ _ _=>rnon) h
 exact (ad8 (upM (ca3 (fx (bm6 bj8 (fx (fF 0)) (fx pT))) (co1 (fx (bm6 bj8 (fx (fF 0)) (fx pT)))))))
theorem ok_n9 (T:Txt K mg a base):FnOk P w K mg base CX0 1 a.f_n9 a.d_n9 ["house", "standings"] (spZ (cmOf a K) cs6 (KR (cmOf a K) .F) m_n9):=by
 obtain ⟨t_SEAT,g_SEAT⟩:=T.g_SEAT
 refine T.F_n9.ok cl9 (fun _ _ _ _=>ab4) (fun _ _ _ _ _ _ _ _ hr h=>?_)
 have cf5:=Mi.cf5 hr
 refine ⟨_,(aa2 (ag7 (ab8 be6 (pv 0) (al5 rfl g_SEAT (v:= .int 0) ⟨_,rfl⟩) (ac9 _)) (aa3 (ac1 (af6 (aa0 (al5 rfl g_SEAT (v:= .int 0) ⟨_,rfl⟩) aa1)))) ac5)
  (aa2 (ae6 (i:=2) cl9.nd rfl (Or.inl rfl) (ax9 (aW6 K rfl rfl cf5) rfl T.z_min Gd.bQ0 (aa0 (pv 1) aa1) (aR5 ah5 bm2)))
  (aa2 (ag7 (ab8 au8 (pv 2) ah5 (ac9 _)) (aa3 (ac1 ah5)) ac5)
  (aa3 (ac1 (ag8 (cf2 K rfl) (pv 2) ab2 (fun _ _=>rfl))))))),?_⟩
 refine ad0 (cm:=cmOf a K) (ms:=cs6) (more:=mo_n9) (body:=cc8) ?_ rfl rfl (fun _ _ _=>rnon) h
 exact (ab6 (s_if (upM (pt_T (fx (p_op s_eq (fx (fF 0)) (fx pI))))) (ad8 (upM (oF (al6 (ab0 pI ad7))))) ag6)
  (ab6 (ah4 (i:=2) (upM (co2 (rc (fF 1)) (fx pN))) rfl rfl)
  (ab6 (s_if (upM (pt_T (fx (p_op s_is (fx (fF 2)) (fx pN))))) (ad8 (upM pN)) ag6)
  (ad8 (upM (p_ixT (rc (fF 2)) (fx pI)))))))
theorem bH2:CompSc (aa4 s_z9) (Gd.as7 (Gd.bd7 (Gd.nth (ai3 s_z9) 0))) "road" []:=by constructor <;> first | rfl | decide +kernel
theorem ok_z9 (T:Txt K mg a base):FnOk P w K mg base CX0 1 a.f_z9 a.d_z9 ["table"] (spZ (cmOf a K) cr4 (KO (cmOf a K) (.ct .fz)) m_z9):=by
 refine T.F_z9.ok sc_z9 (fun _ _ _ _=>ab4) (fun _ _ _ _ _ _ _ _ hr h=>?_)
 refine ⟨_,(aa3 (ac1 (an1 rfl (ae9 K rfl (pv 0)) bH2 (ix:=[]) rfl (fun _ _ _ _=>al4) (fun _ _ _ _=>(bC9 (PW.pt (aK7 (ab8 au8 (pv 0) ah5 (ac9 _)) (ax6 (ab8 bm7 (ab9 (aa8 K rfl) rfl T.z_len Gd.ag1 (aa0 (pv 0) aa1)) ab2 (ac9 _))))) ah5 (ag8 (ab7 K rfl) (pv 0) ab2 (fun _ _=>rfl))))))),?_⟩
 refine ai5 (cm:=cmOf a K) (ms:=cr4) (more:=mo_z9) (body:=cb6) ?_ rfl rfl h
 exact (ad8 (upM (aj3 (ix:=[]) (av1 (rc (fF 0))) (by decide) aq8 (p_ite (aK9 (pt_T (fx (p_op s_is (fx (fF 0)) (fx pN)))) (pt_T (fx (p_op s_lt (fx (al7 am5 (fx (fF 0)))) (fx pI))))) pN (ah6 (rc (fF 0)) (fx pI))))))
theorem bO2 (T:Txt K mg a base):FnOk P w K mg base CX0 1 a.f_bb9 a.d_bb9 ["houses", "count"] (spZ (cmOf a K) bP1 (KR (cmOf a K) .F) m_bb9):=by
 obtain ⟨t_SEAT,g_SEAT⟩:=T.g_SEAT
 refine T.F_bb9.ok cm3 (fun _ _ _ _=>ab4) (fun _ _ _ _ _ _ _ _ hr h=>?_)
 refine ⟨_,(aa3 (ag7 (PW.pt (aK7 (ab8 bm7 (ax9 (bg1 K rfl rfl) rfl T.z_min Gd.bQ0 (aa0 (pv 0) aa1) (aR5 (al5 rfl g_SEAT (v:= .int 0) ⟨_,rfl⟩) bm2)) ab2 (ac9 _)) (ax6 (ab8 op_ge (ax9 (bg2 K rfl rfl) rfl T.z_max Gd.cz5 (aa0 (pv 0) aa1) (aR5 (al5 rfl g_SEAT (v:= .int 0) ⟨_,rfl⟩) bm2)) (pv 1) (ac9 _))))) (aa3 aj2) ac5)),?_⟩
 refine ad0 (cm:=cmOf a K) (ms:=bP1) (more:=cu7) (body:=bo3) ?_ rfl rfl (fun _ _ _=>rnon) h
 exact (s_if (upM (aK9 (pt_T (fx (p_op s_lt (fx (co3 (ux (fR 0)) (fx pI))) (fx pI)))) (pt_T (fx (p_op s_ge (fx (co4 (ux (fR 0)) (fx pI))) (fx (fF 1))))))) am8 ag6)
theorem cq1 (T:Txt K mg a base):FnOk P w K mg base CX0 1 a.f_bc9 a.d_bc9 ["next_houses", "house"] (spZ (cmOf a K) bP0 (KR (cmOf a K) .F) m_bc9):=by
 obtain ⟨t_SEAT,g_SEAT⟩:=T.g_SEAT
 refine T.F_bc9.ok bj6 (fun _ _ _ _=>ab4) (fun _ _ _ _ _ _ _ _ hr h=>?_)
 have hu65:=Mi.hu65 hr
 refine ⟨_,(aa2 (ae6 (i:=2) bj6.nd rfl (Or.inl rfl) (af6 (aa0 (pv 1) aa1)))
  (aa2 (aY3 PassesOwn.never (ab8 be5 (ag8 (ab7 K rfl) (pv 2) (bC8 aX1 ab2) (fun _ _=>rfl)) (al5 rfl g_SEAT (v:= .int 0) ⟨_,rfl⟩) (ac9 _)) (aa2 (ae6 (i:=3) bj6.nd rfl (Or.inl rfl) (ag8 (ab7 K rfl) (pv 0) (ag8 (ab7 K rfl) (pv 2) (bC8 aX1 ab2) (fun _ _=>rfl)) (fun _ _=>rfl)))
  (aa2 (ag7 (PW.pt (aK7 (ab8 au8 (pv 3) ah5 (ac9 _)) (ax6 (ab8 (bm8 K rfl hu65) (pv 3) (pv 2) (by with_unfolding_all rfl))))) (aa3 (ac1 ah5)) ac5)
  (aa3 (ae1 (bm3 PySem.F.plainAttrs_list PySem.F.slot_list_append PySem.F.type_list_append ar0 (pv 2) (aa0 (pv 3) aa1)))))))
  (aa3 (ac1 (pv 2))))),?_⟩
 refine ad0 (cm:=cmOf a K) (ms:=bP0) (more:=cu6) (body:=bo2) ?_ rfl rfl (fun _ _ _=>rnon) h
 exact (ab6 (ax5 (i:=2) (upM (al6 (ab0 (fF 1) ad7))) rfl rfl)
  (ab6 (bj7 100000 (upM (pt_T (fx (p_op s_ne (fx (ah6 (fC 2) (fx (p_un bC1 (fx pI))))) (fx pI))))) (ab6 (ah4 (i:=3) (upM (ah6 (rc (fF 0)) (fx (ah6 (fC 2) (fx (p_un bC1 (fx pI))))))) rfl rfl)
  (ab6 (s_if (upM (aK9 (pt_T (fx (p_op s_is (fx (fF 3)) (fx pN)))) (pt_T (fx (p_op cm7 (fx (fF 3)) (cx (fC 2))))))) (ad8 (upM pN)) ag6)
  (ag3 (aZ4 (pthV (i:=2) rfl) (fF 3))))))
  (ad8 (moF (m_mv (i:=2) rfl)))))
theorem bs1:CompSc (aa4 bC2) { kind:=PySem.ScopeKind.function,names:=[ (PySem.Str.ofString ".0",PySem.NameKind.local),(PySem.Str.ofString "end",PySem.NameKind.local),(PySem.Str.ofString "row",PySem.NameKind.free)],isGenerator:=false,isCoroutine:=false,more:=[]:PySem.Scope } "end" ["row"]:=by constructor <;> first | rfl | decide +kernel
theorem cp9 (T:Txt K mg a base):FnOk P w K mg base CX0 1 a.f_be9 a.d_be9 ["rows", "ends"] (spZ (cmOf a K) bO8 (KO (cmOf a K) (.ct .fz)) m_be9):=by
 refine T.F_be9.ok bj5 (fun _ _ _ _=>ab4) (fun _ _ _ _ _ _ _ _ hr h=>?_)
 refine ⟨_,(aa2 (ae6 (i:=2) bj5.nd rfl (Or.inl rfl) (af6 aa1))
  (aa2 (aq9 PassesOwn.never rfl (ae9 K rfl (pv 0)) (ai7 (i:=3) bj5.nd rfl (Or.inr rfl)) (aa3 (ae1 (bm3 PySem.F.plainAttrs_list PySem.F.slot_list_extend PySem.F.type_list_extend bn4 (pv 2) (aa0 (an1 rfl (ae9 K rfl (pv 1)) bs1 (ix:=[3]) rfl (fun _ _ _ _=>al4) (fun _ _ _ _=>(ai8 aY8 (pv 1) (af6 (aa0 (pv 0) aa1))))) aa1)))))
  (aa3 (ac1 (pv 2))))),?_⟩
 refine ai5 (cm:=cmOf a K) (ms:=bO8) (more:=cu4) (body:=bo0) ?_ rfl rfl h
 exact (ab6 (ax5 (i:=2) (upM (al6 ad7)) rfl rfl)
  (ab6 (aF6 (upM (aS5 (fF 0))) (.inl rfl) (tgF (i:=3) rfl rfl) (ag3 (bF0 (pthV (i:=2) rfl) (oF (aj3 (ix:=[3]) (av1 (rc (fF 1))) (by decide) aq8 (oF (bD6 (rc (fF 1)) (oc (al6 (ab0 (fF 0) ad7))))))))))
  (ad8 (m_mv (i:=2) rfl))))
theorem bn0 (T:Txt K mg a base):FnOk P w K mg base CX0 2 a.f_h9 a.d_h9 ["self", "houses"] (spZ (cmOf a K) ct2 (KR (cmOf a K) .F) m_h9):=by
 refine T.F_h9.ok sc_h9 (fun _ _ _ _=>ab4) (fun _ _ _ _ _ _ _ _ hr h=>?_)
 refine ⟨_,(aa3 (ae1 (ac6 (bO2 T) hr.mm rfl T.m_bb9 T.kp_bb9 T.b_bb9 .nil ad1 (aa0 (pv 1) (aa0 (ah9 K rfl (pv 0) rfl) aa1))))),?_⟩
 refine ad0 (cm:=cmOf a K) (ms:=ct2) (more:=mo_h9) (body:=cd4) ?_ rfl rfl (fun _ _ _=>rnon) h
 exact (ag3 (upM (an2 (aa5 (aU (fR 1)) (aa5 (aF (rS (k:= .X) (ux (aL4 (c:=0) T.cl_Guild T.n_house_count (rc (fR 0)))))) ad2)) rfl)))
theorem ok_u9 (T:Txt K mg a base):FnOk P w K mg base CX0 2 a.f_u9 a.d_u9 ["found", "due"] (spZ (cmOf a K) cr9 (KR (cmOf a K) .F) m_u9):=by
 refine T.F_u9.ok cl7 (fun _ _ _ _=>ab4) (fun _ _ _ _ _ _ _ _ hr h=>?_)
 have hu64:=hr.units
 refine ⟨_,(aa2 (ag7 (ab8 au8 (pv 1) ah5 (ac9 _)) (aa3 (ac1 (aF9 au8 (pv 0) ah5 (ac9 _)))) ac5)
  (aa2 (ag7 (PW.pt (aK7 (aD2 (ax7 (ab9 (ao0 K rfl) rfl T.z_isinstance Gd.ag2 (aa0 (pv 0) (aa0 (ay0 rfl T.z_list Gd.aW7 (v:= .ty "list") rfl) aa1))))) (ax6 (ab8 be5 (ab9 (aa8 K rfl) rfl T.z_len Gd.ag1 (aa0 (pv 0) aa1)) (ab9 (aa8 K rfl) rfl T.z_len Gd.ag1 (aa0 (pv 1) aa1)) (ac9 _))))) (aa3 (ac1 aG0)) ac5)
  (aa2 (aq9 PassesOwn.never rfl (ae9 K rfl (pv 0)) (ai7 (i:=2) cl7.nd rfl (Or.inl rfl)) (aa3 (ag7 (aD2 (ax7 (ac6 (ok_x9 T) hr.mm rfl T.m_x9 T.kp_x9 T.b_x9 .nil ad1 (aa0 (pv 2) aa1)))) (aa3 (ac1 aG0)) ac5)))
  (aa3 (ac1 (aF9 (bm9 K rfl hu64) (pv 0) (pv 1) (ac9 _))))))),?_⟩
 refine ad0 (cm:=cmOf a K) (ms:=cr9) (more:=mo_u9) (body:=cc1) ?_ rfl rfl (fun _ _ _=>rnon) h
 exact (ab6 (s_if (upM (pt_T (fx (p_op s_is (fx (fF 1)) (fx pN))))) (ad8 (upM (p_op s_is (fx (fF 0)) (fx pN)))) ag6)
  (ab6 (s_if (upM (aK9 (as4 (pt_B (fx (bm6 bj8 (fx (fF 0)) (fx pT))))) (pt_T (fx (p_op s_ne (fx (al7 am5 (fx (fF 0)))) (fx (al7 am5 (fx (fF 1))))))))) (ad8 (upM pB)) ag6)
  (ab6 (aF6 (upM (aS5 (fF 0))) (.inl rfl) (tgF (i:=2) rfl rfl) (s_if (upM (as4 (pt_B (fx (an2 (aa5 (aF (fF 2)) ad2) rfl))))) (ad8 (upM pB)) ag6))
  (ad8 (upM (p_op bj9 (fx (fF 0)) (fx (fF 1))))))))
theorem ok_y9 (T:Txt K mg a base):FnOk P w K mg base CX0 2 a.f_y9 a.d_y9 ["guild", "house", "road"] (spZ (cmOf a K) cr5 (KR (cmOf a K) .F) m_y9):=by
 obtain ⟨t_SEAT,g_SEAT⟩:=T.g_SEAT
 refine T.F_y9.ok sc_y9 (fun _ _ _ _=>ab4) (fun _ _ _ _ _ _ _ _ hr h=>?_)
 have hu65:=Mi.hu65 hr
 refine ⟨_,(aa2 (ag7 (PW.pt (aK7 (ab8 au8 (pv 2) ah5 (ac9 _)) (aK7 (ab8 be6 (pv 1) (al5 rfl g_SEAT (v:= .int 0) ⟨_,rfl⟩) (ac9 _)) (ax6 (ab8 (bm8 K rfl hu65) (pv 1) (pv 2) (by with_unfolding_all rfl)))))) (aa3 (ac1 aG0)) ac5)
  (aa3 (ac1 (bN6 (ae2 (pv 0) T.cl_Guild T.me_k9 (ok_k9 T) hr.mm T.b_k9 .nil ad1 (aa0 (pv 1) (aa0 (pv 2) aa1))))))),?_⟩
 refine ad0 (cm:=cmOf a K) (ms:=cr5) (more:=mo_y9) (body:=cb7) ?_ rfl rfl (fun _ _ _=>rnon) h
 exact (ab6 (s_if (upM (aK9 (pt_T (fx (p_op s_is (ux (fR 2)) (fx pN)))) (aK9 (pt_T (fx (p_op s_eq (fx (fF 1)) (fx pI)))) (pt_T (fx (p_op cm7 (fx (fF 1)) (ux (fR 2)))))))) (ad8 (upM pB)) ag6)
  (ad8 (upM (co1 (fx (ao8 (c:=0) (aU (fR 0)) (aa5 (aF (fF 1)) (aa5 (aU (fR 2)) ad2)) rfl))))))
theorem cq2 (T:Txt K mg a base):FnOk P w K mg base CX0 2 a.f_ba9 a.d_ba9 ["told", "count"] (spZ (cmOf a K) bP2 (KR (cmOf a K) .F) m_ba9):=by
 refine T.F_ba9.ok bK2 (fun _ _ _ _=>ab4) (fun _ _ _ _ _ _ _ _ hr h=>?_)
 refine ⟨_,(aa3 (aq9 PassesOwn.never rfl (ae9 K rfl (pv 0)) (ai7 (i:=2) bK2.nd rfl (Or.inl rfl)) (aa3 (ag7 (ab8 ca4 (pv 2) ah5 (ac9 _)) (aa3 (ae1 (ac6 (bO2 T) hr.mm rfl T.m_bb9 T.kp_bb9 T.b_bb9 .nil ad1 (aa0 (pv 2) (aa0 (pv 1) aa1))))) ac5)))),?_⟩
 refine ad0 (cm:=cmOf a K) (ms:=bP2) (more:=cu8) (body:=bo4) ?_ rfl rfl (fun _ _ _=>rnon) h
 exact (aF6 (upM (bp6 (fR 0))) (.inr rfl) (tgR (i:=2) rfl rfl) (s_if (upM (pt_T (fx (p_op cm6 (ux (fR 2)) (fx pN))))) (ag3 (upM (an2 (aa5 (aU (fR 2)) (aa5 (aF (fF 1)) ad2)) rfl))) ag6))
theorem bs0:CompSc (aa4 bk1) (Gd.as7 (Gd.bd7 (Gd.nth (ai3 bk1) 0))) "house" ["next_houses"]:=by constructor <;> first | rfl | decide +kernel
theorem cp6 (T:Txt K mg a base):FnOk P w K mg base CX0 2 a.f_bh9 a.d_bh9 ["next_houses"] (spZ (cmOf a K) bO5 (KO (cmOf a K) (.ct .fz)) m_bh9):=by
 refine T.F_bh9.ok cm1 (fun _ _ _ _=>ab4) (fun _ _ _ _ _ _ _ _ hr h=>?_)
 refine ⟨_,(aa3 (ac1 (an1 rfl (ak0 rfl T.z_range (aa0 (ab9 (aa8 K rfl) rfl T.z_len Gd.ag1 (aa0 (pv 0) aa1)) aa1)) bs0 (ix:=[0]) rfl (fun _ _ _ _=>al4) (fun _ _ _ _=>(ac6 (cq1 T) hr.mm rfl T.m_bc9 T.kp_bc9 T.b_bc9 .nil ad1 (aa0 (pv 1) (aa0 (pv 0) aa1))))))),?_⟩
 refine ai5 (cm:=cmOf a K) (ms:=bO5) (more:=cu1) (body:=bn7) ?_ rfl rfl h
 exact (ad8 (upM (aj3 (ix:=[0]) (i_r1 (fx (al7 am5 (fx (fF 0))))) (by decide) aq8 (an2 (aa5 (aF (fF 1)) (aa5 (aF (fF 0)) ad2)) rfl))))
theorem ok_b9 (T:Txt K mg a base):FnOk P w K mg base CX0 3 a.f_b9 a.d_b9 ["self", "a", "b"] (spZ (cmOf a K) ct8 (KR (cmOf a K) .F) m_b9):=by
 refine T.F_b9.ok sc_b9 (fun _ _ _ _=>ab4) (fun _ _ _ _ _ _ _ _ hr h=>?_)
 have hu:=aS6 hr
 refine ⟨_,(aa2 (ae1 (ae2 (pv 0) T.cl_Guild T.me_h9 (bn0 T) hr.mm T.b_h9 .nil ad1 (aa0 (af6 (aa0 (pv 1) (aa0 (pv 2) aa1))) aa1)))
  (aa3 (ac1 (bN7 (aY5 hu (au7 (aa0 (pv 1) (aa0 (pv 2) aa1))) (ah9 K rfl (pv 0) rfl)))))),?_⟩
 refine ad0 (cm:=cmOf a K) (ms:=ct8) (more:=mo_b9) (body:=ce0) ?_ rfl rfl (fun _ _ _=>rnon) h
 exact (ab6 (ag3 (upM (ao8 (c:=0) (aU (fR 0)) (aa5 (aF (oF (al6 (ab0 (fF 1) (ab0 (fF 2) ad7))))) ad2) rfl)))
  (ad8 (upM (bD4 (fx (aL3 (ab0 (fF 1) (ab0 (fF 2) ad7)))) (rc (aL4 (c:=0) T.cl_Guild T.n_ways (rc (fR 0))))))))
theorem ok_e9 (T:Txt K mg a base):FnOk P w K mg base CX0 3 a.f_e9 a.d_e9 ["self", "a", "b"] (spZ (cmOf a K) ct5 (KR (cmOf a K) .F) m_e9):=by
 refine T.F_e9.ok sc_e9 (fun _ _ _ _=>ab4) (fun _ _ _ _ _ _ _ _ hr h=>?_)
 have hu:=aS6 hr
 refine ⟨_,(aa2 (ae1 (ae2 (pv 0) T.cl_Guild T.me_h9 (bn0 T) hr.mm T.b_h9 .nil ad1 (aa0 (af6 (aa0 (pv 1) (aa0 (pv 2) aa1))) aa1)))
  (aa3 (ac1 (bD0 hu (ah9 K rfl (pv 0) rfl) (au7 (aa0 (pv 1) (aa0 (pv 2) aa1))) ab2 ⟨rfl,rfl,rfl,rfl⟩)))),?_⟩
 refine ad0 (cm:=cmOf a K) (ms:=ct5) (more:=mo_e9) (body:=cd7) ?_ rfl rfl (fun _ _ _=>rnon) h
 exact (ab6 (ag3 (upM (ao8 (c:=0) (aU (fR 0)) (aa5 (aF (oF (al6 (ab0 (fF 1) (ab0 (fF 2) ad7))))) ad2) rfl)))
  (ad8 (upM (rS (k:= .X) (ux (ca1 (rc (aL4 (c:=0) T.cl_Guild T.n_likings (rc (fR 0)))) (fx (aL3 (ab0 (fF 1) (ab0 (fF 2) ad7)))) (fu pI)))))))
theorem cp4 (T:Txt K mg a base):FnOk P w K mg base CX0 3 a.f_f9 a.d_f9 ["self", "a"] (spZ (cmOf a K) ct4 (KO (cmOf a K) (.ct .fz)) m_f9):=by
 refine T.F_f9.ok sc_f9 (fun _ _ _ _=>ab4) (fun _ _ _ _ _ _ _ _ hr h=>?_)
 refine ⟨_,(aa2 (ae1 (ae2 (pv 0) T.cl_Guild T.me_h9 (bn0 T) hr.mm T.b_h9 .nil ad1 (aa0 (af6 (aa0 (pv 1) aa1)) aa1)))
  (aa3 (ac1 (ae2 (pv 0) T.cl_Guild T.me_c9 (ok_c9 T) hr.mm T.b_c9 .nil ad1 (aa0 (ah9 K rfl (pv 0) rfl) (aa0 (pv 1) aa1)))))),?_⟩
 refine ai5 (cm:=cmOf a K) (ms:=ct4) (more:=mo_f9) (body:=cd6) ?_ rfl rfl h
 exact (ab6 (ag3 (upM (ao8 (c:=0) (aU (fR 0)) (aa5 (aF (oF (al6 (ab0 (fF 1) ad7)))) ad2) rfl)))
  (ad8 (upM (bm1 (c:=0) (aU (fR 0)) (aa5 (aU (aL4 (c:=0) T.cl_Guild T.n_ways (rc (fR 0)))) (aa5 (aF (fF 1)) ad2)) rfl))))
theorem cp3 (T:Txt K mg a base):FnOk P w K mg base CX0 3 a.f_i9 a.d_i9 ["self", "road"] (spZ (cmOf a K) ct1 (KR (cmOf a K) .F) m_i9):=by
 obtain ⟨t_SEAT,g_SEAT⟩:=T.g_SEAT
 refine T.F_i9.ok sc_i9 (fun _ _ _ _=>ab4) (fun _ _ _ _ _ _ _ _ hr h=>?_)
 refine ⟨_,(aa2 (ae1 (ae2 (pv 0) T.cl_Guild T.me_h9 (bn0 T) hr.mm T.b_h9 .nil ad1 (aa0 (pv 1) aa1)))
  (aa2 (ag7 (ab8 bm7 (ab9 (aa8 K rfl) rfl T.z_len Gd.ag1 (aa0 (pv 1) aa1)) ab2 (ac9 _)) (aa3 aj2) ac5)
  (aa2 (ag7 (ab8 be5 (ag8 (ab7 K rfl) (pv 1) (bC8 aX1 ab2) (fun _ _=>rfl)) (al5 rfl g_SEAT (v:= .int 0) ⟨_,rfl⟩) (ac9 _)) (aa3 aj2) ac5)
  (aa3 (ag7 (ab8 be5 (ab9 bx5 rfl T.z_len Gd.ag1 (aa0 (ax8 (bf9 K rfl rfl) rfl T.z_set Gd.cz4 (aa0 (pv 1) aa1)) aa1)) (ab9 (aa8 K rfl) rfl T.z_len Gd.ag1 (aa0 (pv 1) aa1)) (ac9 _)) (aa3 aj2) ac5))))),?_⟩
 refine ad0 (cm:=cmOf a K) (ms:=ct1) (more:=mo_i9) (body:=cd3) ?_ rfl rfl (fun _ _ _=>rnon) h
 exact (ab6 (ag3 (upM (ao8 (c:=0) (aU (fR 0)) (aa5 (aU (fR 1)) ad2) rfl)))
  (ab6 (s_if (upM (pt_T (fx (p_op s_lt (fx (al7 am5 (ux (fR 1)))) (fx pI))))) am8 ag6)
  (ab6 (s_if (upM (pt_T (fx (p_op s_ne (ux (ah6 (rc (fR 1)) (fx (p_un bC1 (fx pI))))) (fx pI))))) am8 ag6)
  (s_if (upM (pt_T (fx (p_op s_ne (fx (bD2 (ux (fR 1)))) (fx (al7 am5 (ux (fR 1)))))))) am8 ag6))))
theorem ok_j9 (T:Txt K mg a base):FnOk P w K mg base CX0 3 a.f_j9 a.d_j9 ["self", "a", "b"] (spZ (cmOf a K) ct0 (KR (cmOf a K) .F) m_j9):=by
 refine T.F_j9.ok sc_j9 (fun _ _ _ _=>ab4) (fun _ _ _ _ _ _ _ _ hr h=>?_)
 refine ⟨_,(aa2 (ae1 (ae2 (pv 0) T.cl_Guild T.me_h9 (bn0 T) hr.mm T.b_h9 .nil ad1 (aa0 (af6 (aa0 (pv 1) (aa0 (pv 2) aa1))) aa1)))
  (aa3 (ag7 (ab8 be6 (pv 1) (pv 2) (ac9 _)) (aa3 aj2) ac5))),?_⟩
 refine ad0 (cm:=cmOf a K) (ms:=ct0) (more:=mo_j9) (body:=cd2) ?_ rfl rfl (fun _ _ _=>rnon) h
 exact (ab6 (ag3 (upM (ao8 (c:=0) (aU (fR 0)) (aa5 (aF (oF (al6 (ab0 (fF 1) (ab0 (fF 2) ad7))))) ad2) rfl)))
  (s_if (upM (pt_T (fx (p_op s_eq (fx (fF 1)) (fx (fF 2)))))) am8 ag6))
theorem cp2 (T:Txt K mg a base):FnOk P w K mg base CX0 3 a.f_v9 a.d_v9 ["found", "due"] (spZ (cmOf a K) cr8 (KR (cmOf a K) .F) m_v9):=by
 refine T.F_v9.ok cl6 (fun _ _ _ _=>ab4) (fun _ _ _ _ _ _ _ _ hr h=>?_)
 refine ⟨_,(aa2 (ag7 (PW.pt (aK7 (aD2 (ax7 (ab9 (ao0 K rfl) rfl T.z_isinstance Gd.ag2 (aa0 (pv 0) (aa0 (ay0 rfl T.z_list Gd.aW7 (v:= .ty "list") rfl) aa1))))) (ax6 (ab8 be5 (ab9 (aa8 K rfl) rfl T.z_len Gd.ag1 (aa0 (pv 0) aa1)) (ab9 (aa8 K rfl) rfl T.z_len Gd.ag1 (aa0 (pv 1) aa1)) (ac9 _))))) (aa3 (ac1 aG0)) ac5)
  (aa2 (aq9 PassesOwn.never rfl (ak0 rfl T.z_range (aa0 (ab9 (aa8 K rfl) rfl T.z_len Gd.ag1 (aa0 (pv 1) aa1)) aa1)) (ai7 (i:=2) cl6.nd rfl (Or.inl rfl)) (aa3 (ag7 (aD2 (ax7 (ac6 (ok_u9 T) hr.mm rfl T.m_u9 T.kp_u9 T.b_u9 .nil ad1 (aa0 (ag8 (ab7 K rfl) (pv 0) (pv 2) (fun _ _=>rfl)) (aa0 (ag8 (ab7 K rfl) (pv 1) (pv 2) (fun _ _=>rfl)) aa1))))) (aa3 (ac1 aG0)) ac5)))
  (aa3 (ac1 aG0)))),?_⟩
 refine ad0 (cm:=cmOf a K) (ms:=cr8) (more:=mo_v9) (body:=cc0) ?_ rfl rfl (fun _ _ _=>rnon) h
 exact (ab6 (s_if (upM (aK9 (as4 (pt_B (fx (bm6 bj8 (fx (fF 0)) (fx pT))))) (pt_T (fx (p_op s_ne (fx (al7 am5 (fx (fF 0)))) (fx (al7 am5 (fx (fF 1))))))))) (ad8 (upM pB)) ag6)
  (ab6 (aF6 (upM (i_r1 (fx (al7 am5 (fx (fF 1)))))) (.inl rfl) (tgF (i:=2) rfl rfl) (s_if (upM (as4 (pt_B (fx (an2 (aa5 (aF (ah6 (rc (fF 0)) (fx (fF 2)))) (aa5 (aF (ah6 (rc (fF 1)) (fx (fF 2)))) ad2)) rfl))))) (ad8 (upM pB)) ag6))
  (ad8 (upM pB))))
theorem cp5 (T:Txt K mg a base):FnOk P w K mg base CX0 4 a.f_d9 a.d_d9 ["self", "a", "b"] (spZ (cmOf a K) ct6 (KR (cmOf a K) .F) m_d9):=by
 refine T.F_d9.ok sc_d9 (fun _ _ _ _=>ab4) (fun _ _ _ _ _ _ _ _ hr h=>?_)
 have hu:=aS6 hr
 refine ⟨_,(aa2 (ae1 (ae2 (pv 0) T.cl_Guild T.me_j9 (ok_j9 T) hr.mm T.b_j9 .nil ad1 (aa0 (pv 1) (aa0 (pv 2) aa1))))
  (aa2 (ag7 (bN2 (aY5 hu (au7 (aa0 (pv 1) (aa0 (pv 2) aa1))) (ah9 K rfl (pv 0) rfl))) (aa3 aj2) ac5)
  (aa2 (aR4 hu (ah9 K rfl (pv 0) rfl) (au7 (aa0 (pv 1) (aa0 (pv 2) aa1))) aG0 rfl)
  (aa3 (aR4 hu (ah9 K rfl (pv 0) rfl) (au7 (aa0 (pv 2) (aa0 (pv 1) aa1))) aG0 rfl))))),?_⟩
 refine ad0 (cm:=cmOf a K) (ms:=ct6) (more:=mo_d9) (body:=cd8) ?_ rfl rfl (fun _ _ _=>rnon) h
 exact (ab6 (ag3 (upM (ao8 (c:=0) (aX (fO 0)) (aa5 (aF (fF 1)) (aa5 (aF (fF 2)) ad2)) rfl)))
  (ab6 (s_if (upM (pt_B (fx (bD4 (fx (aL3 (ab0 (fF 1) (ab0 (fF 2) ad7)))) (co7 (c:=0) (i:=0) T.cl_Guild T.n_ways rfl rfl))))) am8 ag6)
  (ab6 (bk0 (pthF (c:=0) (i:=0) T.cl_Guild T.n_ways rfl rfl) (fx (aL3 (ab0 (fF 1) (ab0 (fF 2) ad7)))) (upM pB))
  (bk0 (pthF (c:=0) (i:=0) T.cl_Guild T.n_ways rfl rfl) (fx (aL3 (ab0 (fF 2) (ab0 (fF 1) ad7)))) (upM pB)))))
theorem ok_g9 (T:Txt K mg a base):FnOk P w K mg base CX0 4 a.f_g9 a.d_g9 ["self", "road"] (spZ (cmOf a K) ct3 (KR (cmOf a K) .F) m_g9):=by
 refine T.F_g9.ok cm0 (fun _ _ _ _=>ab4) (fun _ _ _ _ _ _ _ _ hr h=>?_)
 have hu:=aS6 hr
 refine ⟨_,(aa2 (ae1 (ae2 (pv 0) T.cl_Guild T.me_i9 (cp3 T) hr.mm T.b_i9 .nil ad1 (aa0 (pv 1) aa1)))
  (aa2 (ae6 (i:=2) cm0.nd rfl (Or.inl rfl) (bD1 hu (ah9 K rfl (pv 0) rfl) (ax8 (ap4 K rfl) rfl T.z_tuple Gd.bc4 (aa0 (pv 1) aa1)) ⟨rfl,rfl,rfl,rfl⟩))
  (aa2 (ag7 (ab8 au8 (pv 2) ah5 (ac9 _)) (aa3 (ac1 (ae2 (pv 0) T.cl_Guild T.me_e9 (ok_e9 T) hr.mm T.b_e9 .nil ad1 (aa0 (ag8 (ab7 K rfl) (pv 1) ab2 (fun _ _=>rfl)) (aa0 (ag8 (ab7 K rfl) (pv 1) ab2 (fun _ _=>rfl)) aa1))))) ac5)
  (aa3 (ac1 (pv 2)))))),?_⟩
 refine ad0 (cm:=cmOf a K) (ms:=ct3) (more:=mo_g9) (body:=cd5) ?_ rfl rfl (fun _ _ _=>rnon) h
 exact (ab6 (ag3 (upM (ao8 (c:=0) (aU (fR 0)) (aa5 (aU (fR 1)) ad2) rfl)))
  (ab6 (ah4 (i:=2) (upM (rS (k:= .X) (ux (ca2 (rc (aL4 (c:=0) T.cl_Guild T.n_wish_ranks (rc (fR 0)))) (fx (bm5 (cS (k':= .F) (rc (fR 1))))))))) rfl rfl)
  (ab6 (s_if (upM (pt_T (fx (p_op s_is (fx (fF 2)) (fx pN))))) (ad8 (upM (ao8 (c:=0) (aU (fR 0)) (aa5 (aF (rS (k:= .X) (ux (ah6 (rc (fR 1)) (fx pI))))) (aa5 (aF (rS (k:= .X) (ux (ah6 (rc (fR 1)) (fx pI))))) ad2)) rfl))) ag6)
  (ad8 (upM (fF 2))))))
theorem ok_m9 (T:Txt K mg a base):FnOk P w K mg base CX0 4 a.f_m9 a.d_m9 ["self", "road", "rank"] (spZ (cmOf a K) cs7 (KR (cmOf a K) .F) m_m9):=by
 refine T.F_m9.ok sc_m9 (fun _ _ _ _=>ab4) (fun _ _ _ _ _ _ _ _ hr h=>?_)
 have hu:=aS6 hr
 refine ⟨_,(aa2 (ae1 (ae2 (pv 0) T.cl_Guild T.me_i9 (cp3 T) hr.mm T.b_i9 .nil ad1 (aa0 (pv 1) aa1)))
  (aa3 (aR4 hu (ah9 K rfl (pv 0) rfl) (ax8 (ap4 K rfl) rfl T.z_tuple Gd.bc4 (aa0 (pv 1) aa1)) (pv 2) rfl))),?_⟩
 refine ad0 (cm:=cmOf a K) (ms:=cs7) (more:=mo_m9) (body:=cc9) ?_ rfl rfl (fun _ _ _=>rnon) h
 exact (ab6 (ag3 (upM (ao8 (c:=0) (aX (fO 0)) (aa5 (aU (fR 1)) ad2) rfl)))
  (bk0 (pthF (c:=0) (i:=0) T.cl_Guild T.n_wish_ranks rfl rfl) (fx (bm5 (cS (k':= .F) (rc (fR 1))))) (upM (fF 2))))
theorem cq0 (T:Txt K mg a base):FnOk P w K mg base CX0 4 a.f_bd9 a.d_bd9 ["guild"] (spZ (cmOf a K) bO9 (KR (cmOf a K) .F) m_bd9):=by
 refine T.F_bd9.ok aX7 (fun _ _ _ _=>ab4) (fun _ _ _ _ _ _ _ _ hr h=>?_)
 refine ⟨_,(aa2 (ae6 (i:=1) aX7.nd rfl (Or.inl rfl) (af6 (aa0 (af6 (aa0 ah5 aa1)) aa1)))
  (aa2 (aq9 PassesOwn.never rfl (aL2 rfl T.z_range (aa0 ab2 (aa0 (aw3 (pv 0) T.cl_Guild T.me_l9 (bD8 T) hr.mm T.b_l9 .nil ad1) aa1))) (ai7 (i:=2) aX7.nd rfl (Or.inl rfl)) (aa3 (ae6 (i:=1) aX7.nd rfl (Or.inl rfl) (ac6 (cp9 T) hr.mm rfl T.m_be9 T.kp_be9 T.b_be9 .nil ad1 (aa0 (pv 1) (aa0 (ai8 aY8 (af6 (aa0 ah5 aa1)) (ae2 (pv 0) T.cl_Guild T.me_f9 (cp4 T) hr.mm T.b_f9 .nil ad1 (aa0 (pv 2) aa1))) aa1))))))
  (aa3 (ac1 (pv 1))))),?_⟩
 refine ad0 (cm:=cmOf a K) (ms:=bO9) (more:=cu5) (body:=bo1) ?_ rfl rfl (fun _ _ _=>rnon) h
 exact (ab6 (ah4 (i:=1) (upM (oF (al6 (ab0 (oF (al6 (ab0 pN ad7))) ad7)))) rfl rfl)
  (ab6 (aF6 (upM (i_r2 (fx pI) (fx (ao8 (c:=0) (aU (fR 0)) ad2 rfl)))) (.inl rfl) (tgF (i:=2) rfl rfl) (ah4 (i:=1) (upM (oF (ao9 (aa5 (aF (fF 1)) (aa5 (aF (oF (bD6 (oc (al6 (ab0 pN ad7))) (oc (bm1 (c:=0) (aU (fR 0)) (aa5 (aF (fF 2)) ad2) rfl))))) ad2)) rfl))) rfl rfl))
  (ad8 (upM (fF 1)))))
theorem ok_s9 (T:Txt K mg a base):FnOk P w K mg base CX0 5 a.f_s9 a.d_s9 ["ring", "cell"] (spZ (cmOf a K) cs1 (KO (cmOf a K) (.ob aq5)) m_s9):=by
 refine T.F_s9.ok bj4 (fun _ _ _ _=>ab4) (fun _ _ _ _ _ _ _ _ hr h=>?_)
 refine ⟨_,(aa2 (ae6 (i:=2) bj4.nd rfl (Or.inl rfl) (ab9 (aa8 K rfl) rfl T.z_len Gd.ag1 (aa0 (pv 0) aa1)))
  (aa2 (ae6 (i:=3) bj4.nd rfl (Or.inl rfl) (ca0 T.mk_Guild (ok_a9 T) hr.mm rfl T.mgC_Guild T.b_a9 .nil ad1 (aa0 (ai8 au9 ab2 (pv 2)) aa1)))
  (aa2 (aq9 PassesOwn.never rfl (ak0 rfl T.z_range (aa0 (pv 2) aa1)) (ai7 (i:=4) bj4.nd rfl (Or.inl rfl)) (aa2 (ae6 (i:=5) bj4.nd rfl (Or.inl rfl) (ag8 (ab7 K rfl) (pv 0) (ai8 ay1 (ai8 au9 (pv 4) ab2) (pv 2)) (fun _ _=>rfl)))
  (aa2 (ae1 (ae2 (pv 3) T.cl_Guild T.me_d9 (cp5 T) hr.mm T.b_d9 .nil ad1 (aa0 (ag8 (ab7 K rfl) (pv 0) (pv 4) (fun _ _=>rfl)) (aa0 ab2 aa1))))
  (aa2 (ag7 (aD2 (ax7 (ae2 (pv 3) T.cl_Guild T.me_b9 (ok_b9 T) hr.mm T.b_b9 .nil ad1 (aa0 (ag8 (ab7 K rfl) (pv 0) (pv 4) (fun _ _=>rfl)) (aa0 (pv 5) aa1))))) (aa3 (ae1 (ae2 (pv 3) T.cl_Guild T.me_d9 (cp5 T) hr.mm T.b_d9 .nil ad1 (aa0 (ag8 (ab7 K rfl) (pv 0) (pv 4) (fun _ _=>rfl)) (aa0 (pv 5) aa1))))) ac5)
  (aa3 (ae1 (ae2 (pv 3) T.cl_Guild T.me_m9 (ok_m9 T) hr.mm T.b_m9 .nil ad1 (aa0 (af6 (aa0 (ag8 (ab7 K rfl) (pv 0) (pv 4) (fun _ _=>rfl)) (aa0 (pv 5) (aa0 ab2 aa1)))) (aa0 (ai8 au9 ab2 (ai8 ay1 (ai8 au9 (pv 1) (ai8 bO1 (pv 4) (pv 4))) (ai8 co8 ab2 ab2))) aa1)))))))))
  (aa3 (ac1 (pv 3)))))),?_⟩
 refine ai5 (cm:=cmOf a K) (ms:=cs1) (more:=mo_s9) (body:=cc3) ?_ rfl rfl h
 exact (ab6 (ah4 (i:=2) (upM (al7 am5 (fx (fF 0)))) rfl rfl)
  (ab6 (ax5 (i:=3) (upM (pmake (c:=0) (aa5 (aF (p_op aK5 (fx pI) (fx (fF 2)))) ad2) rfl)) rfl rfl)
  (ab6 (aF6 (upM (i_r1 (fx (fF 2)))) (.inl rfl) (tgF (i:=4) rfl rfl) (ab6 (ah4 (i:=5) (upM (ah6 (rc (fF 0)) (fx (p_op aR0 (fx (p_op aK5 (fx (fF 4)) (fx pI))) (fx (fF 2)))))) rfl rfl)
  (ab6 (ag3 (cb5 (c:=0) (aO (i:=3)) (aa5 (aF (ah6 (rc (fF 0)) (fx (fF 4)))) (aa5 (aF pI) ad2)) ⟨rfl,trivial,trivial,trivial⟩ (by decide) (by decide)))
  (ab6 (s_if (upM (as4 (pt_B (fx (ao8 (c:=0) (aX (fO 3)) (aa5 (aF (ah6 (rc (fF 0)) (fx (fF 4)))) (aa5 (aF (fF 5)) ad2)) rfl))))) (ag3 (cb5 (c:=0) (aO (i:=3)) (aa5 (aF (ah6 (rc (fF 0)) (fx (fF 4)))) (aa5 (aF (fF 5)) ad2)) ⟨rfl,trivial,trivial,trivial⟩ (by decide) (by decide))) ag6)
  (ag3 (cb5 (c:=0) (aO (i:=3)) (aa5 (aF (oF (al6 (ab0 (ah6 (rc (fF 0)) (fx (fF 4))) (ab0 (fF 5) (ab0 pI ad7)))))) (aa5 (aF (p_op aK5 (fx pI) (fx (p_op aR0 (fx (p_op aK5 (fx (fF 1)) (fx (p_op cm5 (fx (fF 4)) (fx (fF 4)))))) (fx (p_op s_pow (fx pI) (fx pI))))))) ad2)) ⟨rfl,trivial,trivial,trivial⟩ (by decide) (by decide)))))))
  (ad8 (m_mv (i:=3) rfl)))))
theorem cp7 (T:Txt K mg a base):FnOk P w K mg base CX0 5 a.f_bg9 a.d_bg9 ["guild", "road"] (spZ (cmOf a K) bO6 (KR (cmOf a K) .F) m_bg9):=by
 refine T.F_bg9.ok cm2 (fun _ _ _ _=>ab4) (fun _ _ _ _ _ _ _ _ hr h=>?_)
 refine ⟨_,(aa3 (ac1 (au7 (aa0 (bC8 aX1 (ae2 (pv 0) T.cl_Guild T.me_g9 (ok_g9 T) hr.mm T.b_g9 .nil ad1 (aa0 (pv 1) aa1))) (aa0 (ab9 (aa8 K rfl) rfl T.z_len Gd.ag1 (aa0 (pv 1) aa1)) (aa0 (pv 1) aa1)))))),?_⟩
 refine ad0 (cm:=cmOf a K) (ms:=bO6) (more:=cu2) (body:=bn8) ?_ rfl rfl (fun _ _ _=>rnon) h
 exact (ad8 (upM (aL3 (ab0 (p_un bC1 (fx (ao8 (c:=0) (aU (fR 0)) (aa5 (aF (fF 1)) ad2) rfl))) (ab0 (al7 am5 (fx (fF 1))) (ab0 (fF 1) ad7))))))
theorem bH8:CompSc (aa4 s_o9) (Gd.as7 (Gd.bd7 (Gd.nth (ai3 s_o9) 0))) "road" ["guild", "house"]:=by constructor <;> first | rfl | decide +kernel
theorem ok_o9 (T:Txt K mg a base):FnOk P w K mg base CX0 6 a.f_o9 a.d_o9 ["guild", "house", "told"] (spZ (cmOf a K) cs5 (KR (cmOf a K) .F) m_o9):=by
 refine T.F_o9.ok cl8 (fun _ _ _ _=>ab4) (fun _ _ _ _ _ _ _ _ hr h=>?_)
 refine ⟨_,(aa2 (as5 (i:=3) rfl cl8.nd rfl (.inl rfl) (ae9 K rfl (pv 2)) bH8 (ix:=[0,1]) rfl (fun _ _ _ _=>bl7 (ax7 (ac6 (ok_y9 T) hr.mm rfl T.m_y9 T.kp_y9 T.b_y9 .nil ad1 (aa0 (pv 1) (aa0 (pv 2) (aa0 (pv 0) aa1)))))) (fun _ _ _ _=>(ac6 (cp7 T) hr.mm rfl T.m_bg9 T.kp_bg9 T.b_bg9 .nil ad1 (aa0 (pv 1) (aa0 (ai8 aY8 (af6 (aa0 (pv 2) aa1)) (pv 0)) aa1)))))
  (aa3 (ac1 (ac6 (ok_n9 T) hr.mm rfl T.m_n9 T.kp_n9 T.b_n9 .nil ad1 (aa0 (pv 1) (aa0 (pv 3) aa1)))))),?_⟩
 refine ad0 (cm:=cmOf a K) (ms:=cs5) (more:=mo_o9) (body:=cc7) ?_ rfl rfl (fun _ _ _=>rnon) h
 exact (ab6 (ah4 (i:=3) (upM (oF (aY7 (ix:=[0,1]) (av1 (rc (fR 2))) (by decide) (pt_B (fx (an2 (aa5 (aU (fR 1)) (aa5 (aF (fF 2)) (aa5 (aU (fR 0)) ad2))) rfl))) (an2 (aa5 (aU (fR 1)) (aa5 (aF (oF (bD6 (oc (al6 (ab0 (fF 2) ad7))) (cS (k':= .F) (rc (fR 0)))))) ad2)) rfl)))) rfl rfl)
  (ad8 (upM (an2 (aa5 (aF (fF 1)) (aa5 (aF (fF 3)) ad2)) rfl))))
theorem bH7:CompSc (aa4 s_p9) (Gd.as7 (Gd.bd7 (Gd.nth (Gd.ck9 (Gd.nth (ai3 s_p9) 1)) 0))) "neighbour" ["table"]:=by constructor <;> first | rfl | decide +kernel
theorem ok_p9 (T:Txt K mg a base):FnOk P w K mg base CX0 7 a.f_p9 a.d_p9 ["guild", "table"] (spZ (cmOf a K) cs4 (KR (cmOf a K) .F) m_p9):=by
 refine T.F_p9.ok bY8 (fun _ _ _ _=>ab4) (fun _ _ _ _ _ _ _ _ hr h=>?_)
 have hu64:=hr.units
 refine ⟨_,(aa2 (ae1 (ac6 (cq2 T) hr.mm rfl T.m_ba9 T.kp_ba9 T.b_ba9 .nil ad1 (aa0 (pv 1) (aa0 (aw3 (pv 0) T.cl_Guild T.me_l9 (bD8 T) hr.mm T.b_l9 .nil ad1) aa1))))
  (aa2 (aq9 PassesOwn.never rfl (ak0 rfl T.z_range (aa0 (aw3 (pv 0) T.cl_Guild T.me_l9 (bD8 T) hr.mm T.b_l9 .nil ad1) aa1)) (ai7 (i:=2) bY8.nd rfl (Or.inl rfl)) (aa2 (as5 (i:=3) rfl bY8.nd rfl (.inl rfl) (ae9 K rfl (ae2 (pv 0) T.cl_Guild T.me_f9 (cp4 T) hr.mm T.b_f9 .nil ad1 (aa0 (pv 2) aa1))) bH7 (ix:=[1]) rfl (fun _ _ _ _=>al4) (fun _ _ _ _=>(ag8 (ab7 K rfl) (pv 1) (pv 0) (fun _ _=>rfl))))
  (aa3 (ag7 (ab8 (ca5 K rfl hu64) (ac6 (ok_o9 T) hr.mm rfl T.m_o9 T.kp_o9 T.b_o9 .nil ad1 (aa0 (pv 0) (aa0 (pv 2) (aa0 (pv 3) aa1)))) (ag8 (ab7 K rfl) (pv 1) (pv 2) (fun _ _=>rfl)) (ac9 _)) (aa3 (ac1 (pv 2))) ac5))))
  (aa3 (ac1 ah5)))),?_⟩
 refine ad0 (cm:=cmOf a K) (ms:=cs4) (more:=mo_p9) (body:=cc6) ?_ rfl rfl (fun _ _ _=>rnon) h
 exact (ab6 (ag3 (upM (an2 (aa5 (aU (fR 1)) (aa5 (aF (ao8 (c:=0) (aU (fR 0)) ad2 rfl)) ad2)) rfl)))
  (ab6 (aF6 (upM (i_r1 (fx (ao8 (c:=0) (aU (fR 0)) ad2 rfl)))) (.inl rfl) (tgF (i:=2) rfl rfl) (ab6 (cm4 (i:=3) (upM (bD5 (ix:=[1]) (av1 (oc (bm1 (c:=0) (aU (fR 0)) (aa5 (aF (fF 2)) ad2) rfl))) (by decide) aq8 (ah6 (rc (fR 1)) (fx (fF 0))))) rfl rfl)
  (s_if (upM (pt_T (fx (p_op bj9 (fx (an2 (aa5 (aU (fR 0)) (aa5 (aF (fF 2)) (aa5 (aU (fR 3)) ad2))) rfl)) (ux (ah6 (rc (fR 1)) (fx (fF 2)))))))) (ad8 (upM (fF 2))) ag6)))
  (ad8 (upM pN))))
theorem cp8 (T:Txt K mg a base):FnOk P w K mg base CX0 8 a.f_bf9 a.d_bf9 ["guild"] (spZ (cmOf a K) bO7 (KO (cmOf a K) (.ct .fz)) m_bf9):=by
 obtain ⟨t_MOST_FOR_TABLES,g_MOST_FOR_TABLES⟩:=T.g_MOST_FOR_TABLES
 refine T.F_bf9.ok aX6 (fun _ _ _ _=>ab4) (fun _ _ _ _ _ _ _ _ hr h=>?_)
 have hu64:=hr.units
 refine ⟨_,(aa2 (ag7 (ab8 ca7 (aw3 (pv 0) T.cl_Guild T.me_l9 (bD8 T) hr.mm T.b_l9 .nil ad1) (al5 rfl g_MOST_FOR_TABLES (v:= .int 5) ⟨_,rfl⟩) (ac9 _)) (aa3 aj2) ac5)
  (aa2 (ae6 (i:=1) aX6.nd rfl (Or.inl rfl) (af6 aa1))
  (aa2 (aq9 PassesOwn.never rfl (ae9 K rfl (ac6 (cq0 T) hr.mm rfl T.m_bd9 T.kp_bd9 T.b_bd9 .nil ad1 (aa0 (pv 0) aa1))) (ai7 (i:=2) aX6.nd rfl (Or.inl rfl)) (aa2 (ae6 (i:=3) aX6.nd rfl (Or.inl rfl) (ac6 (cp6 T) hr.mm rfl T.m_bh9 T.kp_bh9 T.b_bh9 .nil ad1 (aa0 (pv 2) aa1)))
  (aa3 (ag7 (PW.pt (cn5 (ab8 (bm9 K rfl hu64) (ac6 (ok_z9 T) hr.mm rfl T.m_z9 T.kp_z9 T.b_z9 .nil ad1 (aa0 (pv 3) aa1)) (pv 2) (ac9 _)) (bZ8 (ab8 au8 (ac6 (ok_p9 T) hr.mm rfl T.m_p9 T.kp_p9 T.b_p9 .nil ad1 (aa0 (pv 0) (aa0 (pv 3) aa1))) ah5 (ac9 _))))) (aa3 (ae1 (bm3 PySem.F.plainAttrs_list PySem.F.slot_list_append PySem.F.type_list_append ar0 (pv 1) (aa0 (pv 3) aa1)))) ac5))))
  (aa3 (ac1 (pv 1)))))),?_⟩
 refine ai5 (cm:=cmOf a K) (ms:=bO7) (more:=cu3) (body:=bn9) ?_ rfl rfl h
 exact (ab6 (s_if (upM (pt_T (fx (p_op s_gt (fx (ao8 (c:=0) (aU (fR 0)) ad2 rfl)) (fx pI))))) am8 ag6)
  (ab6 (ax5 (i:=1) (upM (al6 ad7)) rfl rfl)
  (ab6 (aF6 (upM (aS5 (an2 (aa5 (aU (fR 0)) ad2) rfl))) (.inl rfl) (tgF (i:=2) rfl rfl) (ab6 (ah4 (i:=3) (upM (oF (ao9 (aa5 (aF (fF 2)) ad2) rfl))) rfl rfl)
  (s_if (upM (cn6 (pt_T (fx (p_op bj9 (fx (oF (ao9 (aa5 (aF (fF 3)) ad2) rfl))) (fx (fF 2))))) (pt_T (fx (p_op s_is (fx (an2 (aa5 (aU (fR 0)) (aa5 (aF (fF 3)) ad2)) rfl)) (fx pN)))))) (ag3 (aZ4 (pthV (i:=1) rfl) (fF 3))) ag6)))
  (ad8 (m_mv (i:=1) rfl)))))
theorem bH6:CompSc (aa4 s_q9) { kind:=PySem.ScopeKind.function,names:=[(PySem.Str.ofString ".0",PySem.NameKind.local),(PySem.Str.ofString "road",PySem.NameKind.local)],isGenerator:=false,isCoroutine:=false,more:=[]:PySem.Scope } "road" []:=by constructor <;> first | rfl | decide +kernel
theorem bH5:CompSc (aa4 s_q9) { kind:=PySem.ScopeKind.function,names:=[(PySem.Str.ofString ".0",PySem.NameKind.local),(PySem.Str.ofString "road",PySem.NameKind.local)],isGenerator:=false,isCoroutine:=false,more:=[]:PySem.Scope } "road" []:=by constructor <;> first | rfl | decide +kernel
theorem ok_q9 (T:Txt K mg a base):FnOk P w K mg base CX0 9 a.f_q9 a.d_q9 ["script"] (spZ (cmOf a K) cs3 (KR (cmOf a K) .F) m_q9):=by
 refine T.F_q9.ok aK3 (fun _ _ _ _=>ab4) (fun _ _ _ _ _ _ _ _ hr h=>?_)
 have hu100:=hr.u100
 refine ⟨_,(aa2 (ae6 (i:=1) aK3.nd rfl (Or.inl rfl) (ai8 au9 ab2 (ai8 ay1 (ac6 (ca9 T) hr.mm rfl T.m_r9 T.kp_r9 T.b_r9 .nil ad1 (aa0 (pv 0) (aa0 ab2 aa1))) ab2)))
  (aa2 (ae6 (i:=2) aK3.nd rfl (Or.inl rfl) (ac6 (ok_t9 T) hr.mm rfl T.m_t9 T.kp_t9 T.b_t9 .nil ad1 (aa0 (ac6 (ca9 T) hr.mm rfl T.m_r9 T.kp_r9 T.b_r9 .nil ad1 (aa0 (pv 0) (aa0 ab2 aa1))) (aa0 (pv 1) aa1))))
  (aa2 (ae6 (i:=3) aK3.nd rfl (Or.inl rfl) (ac6 (cp8 T) hr.mm rfl T.m_bf9 T.kp_bf9 T.b_bf9 .nil ad1 (aa0 (ac6 (ok_s9 T) hr.mm rfl T.m_s9 T.kp_s9 T.b_s9 .nil ad1 (aa0 (pv 2) (aa0 (ac6 (ca9 T) hr.mm rfl T.m_r9 T.kp_r9 T.b_r9 .nil ad1 (aa0 (pv 0) (aa0 ab2 aa1))) aa1))) aa1)))
  (aa2 (ag7 (aD2 (ax7 (ab9 (ao0 K rfl) rfl T.z_isinstance Gd.ag2 (aa0 (pv 3) (aa0 (ay0 rfl T.z_list Gd.aW7 (v:= .ty "list") rfl) aa1))))) (aa3 (ac1 aG0)) ac5)
  (aa2 (ag7 (ab8 be6 (pv 1) ab2 (ac9 _)) (aa3 (ac1 (aF9 be6 (ab9 (aa8 K rfl) rfl T.z_len Gd.ag1 (aa0 (pv 3) aa1)) ab2 (ac9 _)))) ac5)
  (aa2 (ae6 (i:=4) aK3.nd rfl (Or.inl rfl) (ac6 (bD7 T) hr.mm rfl T.m_w9 T.kp_w9 T.b_w9 .nil ad1 (aa0 (pv 2) (aa0 ab2 aa1))))
  (aa2 (ae6 (i:=5) aK3.nd rfl (Or.inl rfl) (ac6 (bD7 T) hr.mm rfl T.m_w9 T.kp_w9 T.b_w9 .nil ad1 (aa0 (pv 2) (aa0 ab2 aa1))))
  (aa2 (ag7 (ab8 (ca6 K rfl hu100) (an1 rfl (ae9 K rfl (aY4 (aX4 K rfl) (pv 5) (bl9 ab2) bm0)) bH6 (ix:=[]) rfl (fun _ _ _ _=>al4) (fun _ _ _ _=>(ag8 (ab7 K rfl) (pv 0) ab2 (fun _ _=>rfl)))) (an1 rfl (ae9 K rfl (aY4 (aX4 K rfl) (pv 4) (bl9 ab2) bm0)) bH5 (ix:=[]) rfl (fun _ _ _ _=>al4) (fun _ _ _ _=>(ag8 (ab7 K rfl) (pv 0) ab2 (fun _ _=>rfl)))) (ac9 _)) (aa2 (ae6 (i:=4) aK3.nd rfl (Or.inl rfl) (ac6 (bD7 T) hr.mm rfl T.m_w9 T.kp_w9 T.b_w9 .nil ad1 (aa0 (pv 2) (aa0 ab2 aa1))))
  (aa3 (ae6 (i:=5) aK3.nd rfl (Or.inl rfl) (ac6 (bD7 T) hr.mm rfl T.m_w9 T.kp_w9 T.b_w9 .nil ad1 (aa0 (pv 2) (aa0 ab2 aa1)))))) ac5)
  (aa3 (ac1 (bm4 (aF9 be6 (ab9 (aa8 K rfl) rfl T.z_len Gd.ag1 (aa0 (pv 3) aa1)) ab2 (ac9 _)) (bm4 (ac6 (cp2 T) hr.mm rfl T.m_v9 T.kp_v9 T.b_v9 .nil ad1 (aa0 (ag8 (ab7 K rfl) (pv 3) ab2 (fun _ _=>rfl)) (aa0 (pv 4) aa1))) (bN5 (ac6 (cp2 T) hr.mm rfl T.m_v9 T.kp_v9 T.b_v9 .nil ad1 (aa0 (ag8 (ab7 K rfl) (pv 3) ab2 (fun _ _=>rfl)) (aa0 (pv 5) aa1)))))))))))))))),?_⟩
 refine ad0 (cm:=cmOf a K) (ms:=cs3) (more:=mo_q9) (body:=cc5) ?_ rfl rfl (fun _ _ _=>rnon) h
 exact (ab6 (ah4 (i:=1) (upM (p_op aK5 (fx pI) (fx (p_op aR0 (fx (an2 (aa5 (aU (fR 0)) (aa5 (aF pI) ad2)) rfl)) (fx pI))))) rfl rfl)
  (ab6 (ah4 (i:=2) (upM (oF (ao9 (aa5 (aF (an2 (aa5 (aU (fR 0)) (aa5 (aF pI) ad2)) rfl)) (aa5 (aF (fF 1)) ad2)) rfl))) rfl rfl)
  (ab6 (ah4 (i:=3) (upM (oF (ao9 (aa5 (aF (oF (ao9 (aa5 (aF (fF 2)) (aa5 (aF (an2 (aa5 (aU (fR 0)) (aa5 (aF pI) ad2)) rfl)) ad2)) rfl))) ad2) rfl))) rfl rfl)
  (ab6 (s_if (upM (as4 (pt_B (fx (bm6 bj8 (fx (fF 3)) (fx pT)))))) (ad8 (upM pB)) ag6)
  (ab6 (s_if (upM (pt_T (fx (p_op s_eq (fx (fF 1)) (fx pI))))) (ad8 (upM (p_op s_eq (fx (al7 am5 (fx (fF 3)))) (fx pI)))) ag6)
  (ab6 (ah4 (i:=4) (upM (oF (ao9 (aa5 (aF (fF 2)) (aa5 (aF pI) ad2)) rfl))) rfl rfl)
  (ab6 (ah4 (i:=5) (upM (oF (ao9 (aa5 (aF (fF 2)) (aa5 (aF pI) ad2)) rfl))) rfl rfl)
  (ab6 (s_if (upM (pt_T (fx (p_op s_ltL (fx (oF (aj3 (ix:=[]) (av1 (oc (bN9 (rc (fF 5)) (fx pI)))) (by decide) aq8 (ah6 (rc (fF 0)) (fx pI))))) (fx (oF (aj3 (ix:=[]) (av1 (oc (bN9 (rc (fF 4)) (fx pI)))) (by decide) aq8 (ah6 (rc (fF 0)) (fx pI))))))))) (ab6 (ah4 (i:=4) (upM (oF (ao9 (aa5 (aF (fF 2)) (aa5 (aF pI) ad2)) rfl))) rfl rfl)
  (ah4 (i:=5) (upM (oF (ao9 (aa5 (aF (fF 2)) (aa5 (aF pI) ad2)) rfl))) rfl rfl)) ag6)
  (ad8 (upM (ca3 (fx (p_op s_eq (fx (al7 am5 (fx (fF 3)))) (fx pI))) (ca3 (fx (an2 (aa5 (aF (ah6 (rc (fF 3)) (fx pI))) (aa5 (aF (fF 4)) ad2)) rfl)) (an2 (aa5 (aF (ah6 (rc (fF 3)) (fx pI))) (aa5 (aF (fF 5)) ad2)) rfl)))))))))))))
end K21
namespace K21
open PySem L2 Mi Cl
noncomputable section
structure GuildT where
 house_count:Int
 ways:(DI Bool)
 likings:(DI Int)
 shuns:(DI Bool)
 wish_ranks:(DI Int)
noncomputable def ab5:GuildT→D:=fun g=> .obj 0 ["house_count", "ways", "likings", "shuns", "wish_ranks"] [D.int g.house_count,(encD D.bl) g.ways,(encD D.int) g.likings,(encD D.bl) g.shuns,(encD D.int) g.wish_ranks]
theorem ae7 (g:GuildT):SimR D.int (fldD 0 "house_count" (ab5 g)) (.ok g.house_count):=rfl
theorem al8 (g:GuildT):SimR (encD D.bl) (fldD 0 "ways" (ab5 g)) (.ok g.ways):=rfl
theorem av7 (g:GuildT):SimR (encD D.int) (fldD 0 "likings" (ab5 g)) (.ok g.likings):=rfl
theorem aC8 (g:GuildT):SimR (encD D.bl) (fldD 0 "shuns" (ab5 g)) (.ok g.shuns):=rfl
theorem aR6 (g:GuildT):SimR (encD D.int) (fldD 0 "wish_ranks" (ab5 g)) (.ok g.wish_ranks):=rfl
noncomputable def mk_Guild (size:Int):Res GuildT:=if 1≤size∧size≤60 then .ok ⟨size,[],[],[],[]⟩ else .bad
theorem aG9 (size:Int):SimR ab5 (aL7 0 m_a9 [.int size]) (mk_Guild size):=by
 unfold mk_Guild
 by_cases h:1≤size∧size≤60
 · rw [if_pos h]
   have h1:¬ size < 1:=by omega
   have h2:¬ 60 < size:=by omega
   show aL7 0 m_a9 [.int size]=_
   unfold aL7 m_a9 Mi.run
   rw [bE8]
   simp [seqS,ifS,liP,orT,tst,bn,cst,rg,truB,h1,h2,af2,fldS,bC6,hasK,sc1,ad5]
   rfl
 · rw [if_neg h]; trivial
structure S_c9 where
 v28q:GuildT
 v20q:(DI Bool)
 v0q:Int
noncomputable def bM9:S_c9→Mi.Env:=fun s=>[some (ab5 s.v28q),some ((encD D.bl) s.v20q),some (D.int s.v0q)]
noncomputable abbrev Y_c9:=S_c9→FlC S_c9 (List Int)
noncomputable def bv9:Y_c9:=(retC (upC (ag0 (unC (rngC 0) (unC (fun g=> .ok g.house_count) (pC fun p=>p.v28q))) (bnC (dinC false) (unC aC7 (prC (pC fun p=>p.2.v0q) (pC fun p=>p.1))) (pC fun p=>p.2.v20q)) (pC fun p=>p.1))))
noncomputable def cj1:Y_c9:=bv9
noncomputable def C_c9 (a_self:GuildT) (a_pairs:(DI Bool)) (a_a:Int):OutC S_c9 (List Int):=runC none (cj1 ⟨a_self,a_pairs,a_a⟩)
theorem ct_c9:Cl.TJ bM9 (eL D.int) cd9 cj1:=(ac0 (aa6 (aj0 (at5 (ae3 ae7 xp)) (ac2 (ab1 (bE1 false) (ah2 aq3 (ap9 xp xp)) xp)) xp)))
theorem cf_c9 (a_self:GuildT) (a_pairs:(DI Bool)) (a_a:Int):SimO bM9 (eL D.int) (m_c9 [ab5 a_self,(encD D.bl) a_pairs,D.int a_a]) (C_c9 a_self a_pairs a_a):=ar6 ct_c9 rfl
structure S_k9 where
 v28q:GuildT
 v0q:Int
 v11q:(List Int)
noncomputable def bM1:S_k9→Mi.Env:=fun s=>[some (ab5 s.v28q),some (D.int s.v0q),some ((eL D.int) s.v11q)]
noncomputable abbrev Y_k9:=S_k9→FlC S_k9 Bool
noncomputable def bu3:Y_k9:=(retC (upC (unC anyC (ag0 (pC fun p=>p.v11q) (fun _=> .ok true) (bnC (dinC false) (unC aC7 (prC (pC fun p=>p.2.v0q) (pC fun p=>p.1))) (unC (fun g=> .ok g.shuns) (pC fun p=>p.2.v28q)))))))
noncomputable def ci3:Y_k9:=bu3
noncomputable def C_k9 (a_self:GuildT) (a_a:Int) (a_houses:(List Int)):OutC S_k9 Bool:=runC none (ci3 ⟨a_self,a_a,a_houses⟩)
theorem ct_k9:Cl.TJ bM1 D.bl cd1 ci3:=(ac0 (aa6 (ae3 o_any (aj0 (ai2 xp) ar7 (ab1 (bE1 false) (ah2 aq3 (ap9 xp (av2 (fun _=>rfl) xp))) (ae3 aC8 xp))))))
theorem cf_k9 (a_self:GuildT) (a_a:Int) (a_houses:(List Int)):SimO bM1 D.bl (m_k9 [ab5 a_self,D.int a_a,(eL D.int) a_houses]) (C_k9 a_self a_a a_houses):=ak4 ct_k9 rfl
structure S_l9 where
 v28q:GuildT
noncomputable def bM0:S_l9→Mi.Env:=fun s=>[some (ab5 s.v28q)]
noncomputable abbrev Y_l9:=S_l9→FlC S_l9 Int
noncomputable def bu2:Y_l9:=(retC (upC (unC (fun g=> .ok g.house_count) (pC fun p=>p.v28q))))
noncomputable def ci2:Y_l9:=bu2
noncomputable def C_l9 (a_self:GuildT):OutC S_l9 Int:=runC none (ci2 ⟨a_self⟩)
theorem ct_l9:Cl.TJ bM0 D.int cd0 ci2:=(ac0 (aa6 (av2 (fun _=>rfl) (ae3 ae7 xp))))
theorem bI3 (a_self:GuildT):SimO bM0 D.int (m_l9 [ab5 a_self]) (C_l9 a_self):=ak4 ct_l9 rfl
structure S_r9 where
 v27q:(List Int)
 v12q:Int
noncomputable def bL4:S_r9→Mi.Env:=fun s=>[some (eS s.v27q),some (D.int s.v12q)]
noncomputable abbrev Y_r9:=S_r9→FlC S_r9 Int
noncomputable def aA8:Y_r9:=(retC (upC (bnC ixC (pC fun p=>p.v27q) (pC fun p=>p.v12q))))
noncomputable def bt6:Y_r9:=(ifC (upC (bnC ltC (pC fun p=>p.v12q) (unC lenC (pC fun p=>p.v27q))))
 aA8
 ag5)
noncomputable def bt5:Y_r9:=(retC (upC (kC (0:Int))))
noncomputable def ch7:Y_r9:=(seqC bt6
 bt5)
noncomputable def C_r9 (a_script:(List Int)) (a_k:Int):OutC S_r9 Int:=runC none (ch7 ⟨a_script,a_k⟩)
theorem ct_r9:Cl.TJ bL4 D.int cc4 ch7:=(aa9 (ah3 (aa6 (ac2 (ab1 o_lt xp (ae3 cq9 xp))))
 (ac0 (aa6 (av2 (fun _=>rfl) (ab1 o_ixS xp xp))))
 ac8)
 (ac0 (aa6 xk)))
theorem cg9 (a_script:(List Int)) (a_k:Int):SimO bL4 D.int (m_r9 [eS a_script,D.int a_k]) (C_r9 a_script a_k):=ak4 ct_r9 rfl
structure S_t9 where
 v3q:Int
 v14q:Int
 v22q:Option (List Int)
 v19q:Option (List Int)
noncomputable def bL2:S_t9→Mi.Env:=fun s=>[some (D.int s.v3q),some (D.int s.v14q),s.v22q.map (eL D.int),s.v19q.map (eL D.int)]
noncomputable abbrev Y_t9:=S_t9→FlC S_t9 (List Int)
noncomputable def aU1:Y_t9:=(setC (fun a s=>{ s with v22q:=some a }) (upC (ag0 (bnC rngC (kC (1:Int)) (bnC addC (pC fun p=>p.v14q) (kC (1:Int)))) (fun _=> .ok true) (pC fun p=>p.1))))
noncomputable def aU0:Y_t9:=(setC (fun a s=>{ s with v19q:=some a }) (upC (mkC (nilC:_→Res (List Int)))))
noncomputable def aA5:Y_t9:=(setC (fun a s=>{ s with v3q:=a }) (upC (bnC modC (bnC addC (bnC mulC (pC fun p=>p.v3q) (kC (48271:Int))) (kC (29:Int))) (kC (2147483647:Int)))))
noncomputable def aN7:Y_t9:=(ak6 (apMC (fun s=>s.v19q) (fun s y=>{ s with v19q:=some y }) (l1C (fun s=>s.v22q) (fun s y=>{ s with v22q:=some y }) popC (bnC modC (bnC cw3 (pC fun p=>p.v3q) (kC (3:Int))) (unC lenC (vC fun p=>p.v22q))))))
noncomputable def aW5:Y_t9:=(seqC aA5
 aN7)
noncomputable def bt3:Y_t9:=(whC (upC (bnC gtC (unC lenC (vC fun p=>p.v22q)) (kC (0:Int))))
 aW5 100000)
noncomputable def bt2:Y_t9:=(retC (mvC (fun s=>s.v19q) (fun s=>{ s with v19q:=none })))
noncomputable def ch5:Y_t9:=(seqC aU1
 (seqC aU0
 (seqC bt3
 bt2)))
noncomputable def C_t9 (a_cell:Int) (a_many:Int):OutC S_t9 (List Int):=runC none (ch5 ⟨a_cell,a_many,none,none⟩)
theorem ct_t9:Cl.TJ bL2 (eL D.int) cc2 ch5:=(aa9 (xs (aa6 (aj0 (bq6 xk (ab1 aL5 xp xk)) ar7 xp)))
 (aa9 (xs (aa6 (af8 af7)))
 (aa9 (bz5 (aa6 (ac2 (ab1 o_gt (ae3 ah7 xv) xk)))
 (aa9 (xs (aa6 (ab1 aR7 (ab1 aL5 (ab1 cq6 xp xk) xk) xk)))
 (ae0 (cr2 (fun _=>rfl) (fun _ _=>rfl) (bE4 (fun _=>rfl) (fun _ _=>rfl) f_pop (ab1 aR7 (ab1 cr1 xp xk) (ae3 ah7 xv)))))) 100000)
 (ac0 (be9 (fun _=>rfl) (fun _=>rfl))))))
theorem cf_t9 (a_cell:Int) (a_many:Int):SimO bL2 (eL D.int) (m_t9 [D.int a_cell,D.int a_many]) (C_t9 a_cell a_many):=ar6 ct_t9 rfl
structure S_w9 where
 v23q:(List Int)
 v30q:Int
 v31q:Option (List (Option (List Int)))
 v12q:Option Int
noncomputable def bK9:S_w9→Mi.Env:=fun s=>[some ((eL D.int) s.v23q),some (D.int s.v30q),s.v31q.map (eL (eO (eL D.int))),s.v12q.map D.int]
noncomputable abbrev Y_w9:=S_w9→FlC S_w9 (List (Option (List Int)))
noncomputable def aT6:Y_w9:=(setC (fun a s=>{ s with v31q:=some a }) (upC (bnC catC (unC cj8 (mkC (af9 (mkC (af9 (kC (0:Int)) (nilC:_→Res (List Int)))) (nilC:_→Res (List (List Int)))))) (unC (cj9:List Unit→Res (List (Option (List Int)))) (ag0 (pC fun p=>p.v23q) (fun _=> .ok true) (kC ()))))))
noncomputable def aA1:Y_w9:=(ce7 (fun s=>s.v31q) (fun s y=>{ s with v31q:=some y }) (bnC ixC (pC fun p=>p.v23q) (vC fun p=>p.v12q)) (fun s=>bdO ((upC (mkC (af9 (bnC ixC (pC fun p=>p.v23q) (vC fun p=>p.v12q)) (af9 (kC (0:Int)) (nilC:_→Res (List Int)))))) s) fun a s=>bndO (aC4 a) s fun b=> .ok b s))
noncomputable def ar9:Y_w9:=(ce7 (fun s=>s.v31q) (fun s y=>{ s with v31q:=some y }) (bnC ixC (pC fun p=>p.v23q) (vC fun p=>p.v12q)) (fun s=>bdO ((upC (mkC (af9 (bnC ixC (pC fun p=>p.v23q) (vC fun p=>p.v12q)) (af9 (bnC ixC (pC fun p=>p.v23q) (bnC modC (bnC addC (vC fun p=>p.v12q) (kC (1:Int))) (unC lenC (pC fun p=>p.v23q)))) (af9 (kC (0:Int)) (nilC:_→Res (List Int))))))) s) fun a s=>bndO (aC4 a) s fun b=> .ok b s))
noncomputable def aA0:Y_w9:=(ifC (upC (bnC (eqC true) (bnC modC (vC fun p=>p.v12q) (kC (2:Int))) (pC fun p=>p.v30q)))
 ar9
 ag5)
noncomputable def aI3:Y_w9:=(seqC aA1
 aA0)
noncomputable def aT5:Y_w9:=(ay3 (unC (rngC 0) (unC lenC (pC fun p=>p.v23q))) (fun a s=>{ s with v12q:=some a })
 aI3)
noncomputable def bs5:Y_w9:=(retC (mvC (fun s=>s.v31q) (fun s=>{ s with v31q:=none })))
noncomputable def ch3:Y_w9:=(seqC aT6
 (seqC aT5
 bs5))
noncomputable def C_w9 (a_ring:(List Int)) (a_start:Int):OutC S_w9 (List (Option (List Int))):=runC none (ch3 ⟨a_ring,a_start,none,none⟩)
theorem ct_w9:Cl.TJ bK9 (eL (eO (eL D.int))) cb9 ch3:=(aa9 (xs (aa6 (ab1 bE2 (ah2 by3 (af8 (ad3 (af8 (ad3 xk af7)) af7))) (ah2 by4 (aj0 (ai2 xp) ar7 xk)))))
 (aa9 (ak9 (at5 (ae3 ah7 xp)) (fun _ _=>rfl)
 (aa9 (bh2 (fun _=>rfl) (fun _ _=>rfl) (ab1 ai0 xp xv) (ay2 aB8 (aa6 (af8 (ad3 (ab1 ai0 xp xv) (ad3 xk af7))))))
 (ah3 (aa6 (ac2 (ab1 (av8 true) (ab1 aR7 xv xk) xp)))
 (bh2 (fun _=>rfl) (fun _ _=>rfl) (ab1 ai0 xp xv) (ay2 aB8 (aa6 (af8 (ad3 (ab1 ai0 xp xv) (ad3 (ab1 ai0 xp (ab1 aR7 (ab1 aL5 xv xk) (ae3 ah7 xp))) (ad3 xk af7)))))))
 ac8)))
 (ac0 (be9 (fun _=>rfl) (fun _=>rfl)))))
theorem bI2 (a_ring:(List Int)) (a_start:Int):SimO bK9 (eL (eO (eL D.int))) (m_w9 [(eL D.int) a_ring,D.int a_start]) (C_w9 a_ring a_start):=ar6 ct_w9 rfl
structure S_x9 where
 v8q:Int
noncomputable def bK8:S_x9→Mi.Env:=fun s=>[some (D.int s.v8q)]
noncomputable abbrev Y_x9:=S_x9→FlC S_x9 Bool
noncomputable def bs4:Y_x9:=(retC (upC (andC (unC (cbC true) (pC fun p=>p.v8q)) (unC notC (unC (cbC false) (pC fun p=>p.v8q))))))
noncomputable def ch2:Y_x9:=bs4
noncomputable def C_x9 (a_found:Int):OutC S_x9 Bool:=runC none (ch2 ⟨a_found⟩)
theorem ct_x9:Cl.TJ bK8 D.bl cb8 ch2:=(ac0 (aa6 (bq8 (ba4 (e:=D.int) (n := "int") (b:=true) (fun _=>rfl) xp) (ae3 cq5 (ba4 (e:=D.int) (n := "bool") (b:=false) (fun _=>rfl) xp)))))
theorem cf_x9 (a_found:Int):SimO bK8 D.bl (m_x9 [D.int a_found]) (C_x9 a_found):=ak4 ct_x9 rfl
structure S_n9 where
 v10q:Int
 v29q:(List (Int×Int×(List Int)))
 v2q:Option (Option (Int×Int×(List Int)))
noncomputable def bL8:S_n9→Mi.Env:=fun s=>[some (D.int s.v10q),some ((eL (eT3 D.int D.int (eL D.int))) s.v29q),s.v2q.map (eO (eT3 D.int D.int (eL D.int)))]
noncomputable abbrev Y_n9:=S_n9→FlC S_n9 (Option (List Int))
noncomputable def aB3:Y_n9:=(retC (fun s=>bdO ((upC (mkC (af9 (kC (0:Int)) (nilC:_→Res (List Int))))) s) fun a s=>bndO (aC4 a) s fun b=> .ok b s))
noncomputable def aH8:Y_n9:=(ifC (upC (bnC (eqC false) (pC fun p=>p.v10q) (kC (0:Int))))
 aB3
 ag5)
noncomputable def aV7:Y_n9:=(setC (fun a s=>{ s with v2q:=some a }) (upC (unC cu9 (pC fun p=>p.v29q))))
noncomputable def aq0:Y_n9:=(retC (fun s=>bdO ((upC (kC ())) s) fun a s=>bndO ((aR8:Unit→Res (Option (List Int))) a) s fun b=> .ok b s))
noncomputable def aV6:Y_n9:=(ifC (upC (unC (isnC false nonO) (vC fun p=>p.v2q)))
 aq0
 ag5)
noncomputable def bt9:Y_n9:=(retC (fun s=>bdO ((upC (unC thrC (unC optC (vC fun p=>p.v2q)))) s) fun a s=>bndO (aC4 a) s fun b=> .ok b s))
noncomputable def ci0:Y_n9:=(seqC aH8
 (seqC aV7
 (seqC aV6
 bt9)))
noncomputable def C_n9 (a_house:Int) (a_standings:(List (Int×Int×(List Int)))):OutC S_n9 (Option (List Int)):=runC (some none) (ci0 ⟨a_house,a_standings,none⟩)
theorem ct_n9:Cl.TJ bL8 (eO (eL D.int)) cc8 ci0:=(aa9 (ah3 (aa6 (ac2 (ab1 (av8 false) xp xk)))
 (ac0 (ay2 aB8 (aa6 (af8 (ad3 xk af7)))))
 ac8)
 (aa9 (xs (aa6 (cg5 cq8 xp)))
 (aa9 (ah3 (aa6 (ac2 (ar8 (aG6 (fun _=>rfl)) xv)))
 (ac0 (ay2 aI8 (aa6 xk)))
 ac8)
 (ac0 (ay2 aB8 (aa6 (cg5 o_q2 (ah2 af3 xv))))))))
theorem cf_n9 (a_house:Int) (a_standings:(List (Int×Int×(List Int)))):SimO bL8 (eO (eL D.int)) (m_n9 [D.int a_house,(eL (eT3 D.int D.int (eL D.int))) a_standings]) (C_n9 a_house a_standings):=az5 (d:=none) rfl ct_n9 rfl
structure S_z9 where
 v31q:(List (Option (List Int)))
noncomputable def bK6:S_z9→Mi.Env:=fun s=>[some ((eL (eO (eL D.int))) s.v31q)]
noncomputable abbrev Y_z9:=S_z9→FlC S_z9 (List (Option Int))
noncomputable def bs2:Y_z9:=(retC (upC (ag0 (pC fun p=>p.v31q) (fun _=> .ok true) (iteC (orC (unC (isnC false nonO) (pC fun p=>p.1)) (bnC ltC (unC lenC (unC optC (pC fun p=>p.1))) (kC (2:Int)))) (unC (aR8:Unit→Res (Option Int)) (kC ())) (unC aC4 (bnC ixC (unC optC (pC fun p=>p.1)) (kC (1:Int))))))))
noncomputable def ch0:Y_z9:=bs2
noncomputable def C_z9 (a_table:(List (Option (List Int)))):OutC S_z9 (List (Option Int)):=runC none (ch0 ⟨a_table⟩)
theorem ct_z9:Cl.TJ bK6 (eL (eO D.int)) cb6 ch0:=(ac0 (aa6 (aj0 (ai2 xp) ar7 (cw8 (az7 (ac2 (ar8 (aG6 (fun _=>rfl)) xp)) (ac2 (ab1 o_lt (ae3 ah7 (ah2 af3 xp)) xk))) (ah2 aI8 xk) (ah2 aB8 (ab1 ai0 (ah2 af3 xp) xk))))))
theorem cf_z9 (a_table:(List (Option (List Int)))):SimO bK6 (eL (eO D.int)) (m_z9 [(eL (eO (eL D.int))) a_table]) (C_z9 a_table):=ar6 ct_z9 rfl
structure S_bb9 where
 v11q:(List Int)
 v4q:Int
noncomputable def bl4:S_bb9→Mi.Env:=fun s=>[some ((eL D.int) s.v11q),some (D.int s.v4q)]
noncomputable abbrev cA2:=S_bb9→FlC S_bb9 Unit
noncomputable def bb8:cA2:=(ifC (upC (orC (bnC ltC (bnC bP3 (pC fun p=>p.v11q) (kC (0:Int))) (kC (0:Int))) (bnC geC (bnC cu0 (pC fun p=>p.v11q) (kC (0:Int))) (pC fun p=>p.v4q))))
 badC
 ag5)
noncomputable def bx0:cA2:=bb8
noncomputable def bz2 (a_houses:(List Int)) (a_count:Int):OutC S_bb9 Unit:=runC (some ()) (bx0 ⟨a_houses,a_count⟩)
theorem cy0:Cl.TJ bl4 eN bo3 bx0:=(ah3 (aa6 (az7 (ac2 (ab1 o_lt (ab1 cb1 xp xk) xk)) (ac2 (ab1 o_ge (ab1 cq7 xp xk) xp))))
 ax2
 ac8)
theorem bP9 (a_houses:(List Int)) (a_count:Int):SimO bl4 eN (m_bb9 [(eL D.int) a_houses,D.int a_count]) (bz2 a_houses a_count):=az5 (d:=()) rfl cy0 rfl
structure S_bc9 where
 v16q:(List (Option Int))
 v10q:Int
 v24q:Option (List Int)
 v15q:Option (Option Int)
noncomputable def bl3:S_bc9→Mi.Env:=fun s=>[some ((eL (eO D.int)) s.v16q),some (D.int s.v10q),s.v24q.map (eL D.int),s.v15q.map (eO D.int)]
noncomputable abbrev aJ1:=S_bc9→FlC S_bc9 (Option (List Int))
noncomputable def aI2:aJ1:=(setC (fun a s=>{ s with v24q:=some a }) (upC (mkC (af9 (pC fun p=>p.v10q) (nilC:_→Res (List Int))))))
noncomputable def au0:aJ1:=(setC (fun a s=>{ s with v15q:=some a }) (upC (bnC ixC (pC fun p=>p.v16q) (bnC ixC (vC fun p=>p.v24q) (unC negC (kC (1:Int)))))))
noncomputable def aj7:aJ1:=(retC (fun s=>bdO ((upC (kC ())) s) fun a s=>bndO ((aR8:Unit→Res (Option (List Int))) a) s fun b=> .ok b s))
noncomputable def ao4:aJ1:=(ifC (upC (orC (unC (isnC false nonO) (vC fun p=>p.v15q)) (bnC (inC false) (unC optC (vC fun p=>p.v15q)) (vC fun p=>p.v24q))))
 aj7
 ag5)
noncomputable def aE2:aJ1:=(ak6 (l1C (fun s=>s.v24q) (fun s y=>{ s with v24q:=some y }) appC (unC optC (vC fun p=>p.v15q))))
noncomputable def ai6:aJ1:=(seqC au0
 (seqC ao4
 aE2))
noncomputable def bb7:aJ1:=(whC (upC (bnC (eqC true) (bnC ixC (vC fun p=>p.v24q) (unC negC (kC (1:Int)))) (kC (0:Int))))
 ai6 100000)
noncomputable def aw8:aJ1:=(retC (fun s=>bdO ((mvC (fun s=>s.v24q) (fun s=>{ s with v24q:=none })) s) fun a s=>bndO (aC4 a) s fun b=> .ok b s))
noncomputable def bw9:aJ1:=(seqC aI2
 (seqC bb7
 aw8))
noncomputable def bg4 (a_next_houses:(List (Option Int))) (a_house:Int):OutC S_bc9 (Option (List Int)):=runC (some none) (bw9 ⟨a_next_houses,a_house,none,none⟩)
theorem cx9:Cl.TJ bl3 (eO (eL D.int)) bo2 bw9:=(aa9 (xs (aa6 (af8 (ad3 xp af7))))
 (aa9 (bz5 (aa6 (ac2 (ab1 (av8 true) (ab1 ai0 xv (ae3 bD9 xk)) xk)))
 (aa9 (xs (aa6 (ab1 ai0 xp (ab1 ai0 xv (ae3 bD9 xk)))))
 (aa9 (ah3 (aa6 (az7 (ac2 (ar8 (aG6 (fun _=>rfl)) xv)) (ac2 (ab1 (cr0 bf7 (by decide)) (ah2 af3 xv) xv))))
 (ac0 (ay2 aI8 (aa6 xk)))
 ac8)
 (ae0 (bE4 (fun _=>rfl) (fun _ _=>rfl) cg1 (ah2 af3 xv))))) 100000)
 (ac0 (ay2 aB8 (be9 (fun _=>rfl) (fun _=>rfl))))))
theorem cz1 (a_next_houses:(List (Option Int))) (a_house:Int):SimO bl3 (eO (eL D.int)) (m_bc9 [(eL (eO D.int)) a_next_houses,D.int a_house]) (bg4 a_next_houses a_house):=az5 (d:=none) rfl cx9 rfl
structure S_be9 where
 v26q:(List (List (Option Int)))
 v6q:(List (Option Int))
 v13q:Option (List (List (Option Int)))
 v25q:Option (List (Option Int))
noncomputable def bl1:S_be9→Mi.Env:=fun s=>[some ((eL (eL (eO D.int))) s.v26q),some ((eL (eO D.int)) s.v6q),s.v13q.map (eL (eL (eO D.int))),s.v25q.map (eL (eO D.int))]
noncomputable abbrev by8:=S_be9→FlC S_be9 (List (List (Option Int)))
noncomputable def bb3:by8:=(setC (fun a s=>{ s with v13q:=some a }) (upC (mkC (nilC:_→Res (List (List (Option Int)))))))
noncomputable def at8:by8:=(ak6 (l1C (fun s=>s.v13q) (fun s y=>{ s with v13q:=some y }) extC (ag0 (pC fun p=>p.v6q) (fun _=> .ok true) (bnC catC (vC fun p=>p.2.v25q) (mkC (af9 (pC fun p=>p.1) (nilC:_→Res (List (Option Int)))))))))
noncomputable def bb2:by8:=(ay3 (pC fun p=>p.v26q) (fun a s=>{ s with v25q:=some a })
 at8)
noncomputable def bb1:by8:=(retC (mvC (fun s=>s.v13q) (fun s=>{ s with v13q:=none })))
noncomputable def bw7:by8:=(seqC bb3
 (seqC bb2
 bb1))
noncomputable def bJ4 (a_rows:(List (List (Option Int)))) (a_ends:(List (Option Int))):OutC S_be9 (List (List (Option Int))):=runC none (bw7 ⟨a_rows,a_ends,none,none⟩)
theorem cx7:Cl.TJ bl1 (eL (eL (eO D.int))) bo0 bw7:=(aa9 (xs (aa6 (af8 af7)))
 (aa9 (ak9 (ai2 xp) (fun _ _=>rfl)
 (ae0 (bE4 (fun _=>rfl) (fun _ _=>rfl) f_ext (aj0 (ai2 xp) ar7 (ab1 bE2 xv (af8 (ad3 xp af7)))))))
 (ac0 (be9 (fun _=>rfl) (fun _=>rfl)))))
theorem cy9 (a_rows:(List (List (Option Int)))) (a_ends:(List (Option Int))):SimO bl1 (eL (eL (eO D.int))) (m_be9 [(eL (eL (eO D.int))) a_rows,(eL (eO D.int)) a_ends]) (bJ4 a_rows a_ends):=ar6 cx7 rfl
structure S_h9 where
 v28q:GuildT
 v11q:(List Int)
noncomputable def bM4:S_h9→Mi.Env:=fun s=>[some (ab5 s.v28q),some ((eL D.int) s.v11q)]
noncomputable abbrev Y_h9:=S_h9→FlC S_h9 Unit
noncomputable def bv0:Y_h9:=(ak6 (upC (pc2C bz2 (pC fun p=>p.v11q) (unC (fun g=> .ok g.house_count) (pC fun p=>p.v28q)))))
noncomputable def ci6:Y_h9:=bv0
noncomputable def C_h9 (a_self:GuildT) (a_houses:(List Int)):OutC S_h9 Unit:=runC (some ()) (ci6 ⟨a_self,a_houses⟩)
theorem ct_h9:Cl.TJ bM4 eN cd4 ci6:=(ae0 (aa6 (af4 (fun a0 a1=>bP9 a0 a1) xp (av2 (fun _=>rfl) (ae3 ae7 xp)))))
theorem bw3 (a_self:GuildT) (a_houses:(List Int)):SimO bM4 eN (m_h9 [ab5 a_self,(eL D.int) a_houses]) (C_h9 a_self a_houses):=az5 (d:=()) rfl ct_h9 rfl
structure S_u9 where
 v8q:(Option (List Int))
 v5q:(Option (List Int))
 v10q:Option Int
noncomputable def bL1:S_u9→Mi.Env:=fun s=>[some ((eO (eL D.int)) s.v8q),some ((eO (eL D.int)) s.v5q),s.v10q.map D.int]
noncomputable abbrev Y_u9:=S_u9→FlC S_u9 Bool
noncomputable def aA4:Y_u9:=(retC (upC (unC (isnC false nonO) (pC fun p=>p.v8q))))
noncomputable def aT9:Y_u9:=(ifC (upC (unC (isnC false nonO) (pC fun p=>p.v5q)))
 aA4
 ag5)
noncomputable def aT8:Y_u9:=(retC (upC (kC false)))
noncomputable def bt1:Y_u9:=(ifC (upC (orC (unC notC (unC (oisC false true) (pC fun p=>p.v8q))) (bnC (eqC true) (unC lenC (unC optC (pC fun p=>p.v8q))) (unC lenC (unC optC (pC fun p=>p.v5q))))))
 aT8
 ag5)
noncomputable def aH6:Y_u9:=(retC (upC (kC false)))
noncomputable def aA3:Y_u9:=(ifC (upC (unC notC (pc1C C_x9 (vC fun p=>p.v10q))))
 aH6
 ag5)
noncomputable def bt0:Y_u9:=(ay3 (unC optC (pC fun p=>p.v8q)) (fun a s=>{ s with v10q:=some a })
 aA3)
noncomputable def bs9:Y_u9:=(retC (upC (bnC (eqC false) (pC fun p=>p.v8q) (pC fun p=>p.v5q))))
noncomputable def bI5:Y_u9:=(seqC aT9
 (seqC bt1
 (seqC bt0
 bs9)))
noncomputable def C_u9 (a_found:(Option (List Int))) (a_due:(Option (List Int))):OutC S_u9 Bool:=runC none (bI5 ⟨a_found,a_due,none⟩)
theorem ct_u9:Cl.TJ bL1 D.bl cc1 bI5:=(aa9 (ah3 (aa6 (ac2 (ar8 (aG6 (fun _=>rfl)) xp)))
 (ac0 (aa6 (ar8 (aG6 (fun _=>rfl)) xp)))
 ac8)
 (aa9 (ah3 (aa6 (az7 (at6 (ac2 (cg5 (cq3 (e:=(eL D.int)) rfl (fun _=>rfl)) xp))) (ac2 (ab1 (av8 true) (ae3 ah7 (ah2 af3 xp)) (ae3 ah7 (ah2 af3 xp))))))
 (ac0 (aa6 xk))
 ac8)
 (aa9 (ak9 (ai2 (ah2 af3 xp)) (fun _ _=>rfl)
 (ah3 (aa6 (at6 (ac2 (aN2 (fun a0=>cf_x9 a0) xv))))
 (ac0 (aa6 xk))
 ac8))
 (ac0 (aa6 (ab1 (cb2 (cg8 (bH0 bf7) (ba6 _)) (by decide) false) xp xp))))))
theorem cf_u9 (a_found:(Option (List Int))) (a_due:(Option (List Int))):SimO bL1 D.bl (m_u9 [(eO (eL D.int)) a_found,(eO (eL D.int)) a_due]) (C_u9 a_found a_due):=ak4 ct_u9 rfl
structure S_y9 where
 v9q:GuildT
 v10q:Int
 v24q:(Option (List Int))
noncomputable def bK7:S_y9→Mi.Env:=fun s=>[some (ab5 s.v9q),some (D.int s.v10q),some ((eO (eL D.int)) s.v24q)]
noncomputable abbrev Y_y9:=S_y9→FlC S_y9 Bool
noncomputable def aj1:Y_y9:=(retC (upC (kC false)))
noncomputable def az9:Y_y9:=(ifC (upC (orC (unC (isnC false nonO) (pC fun p=>p.v24q)) (orC (bnC (eqC false) (pC fun p=>p.v10q) (kC (0:Int))) (bnC (inC false) (pC fun p=>p.v10q) (unC optC (pC fun p=>p.v24q))))))
 aj1
 ag5)
noncomputable def bs3:Y_y9:=(retC (upC (unC notC (pc3C C_k9 (pC fun p=>p.v9q) (pC fun p=>p.v10q) (unC optC (pC fun p=>p.v24q))))))
noncomputable def ch1:Y_y9:=(seqC az9
 bs3)
noncomputable def C_y9 (a_guild:GuildT) (a_house:Int) (a_road:(Option (List Int))):OutC S_y9 Bool:=runC none (ch1 ⟨a_guild,a_house,a_road⟩)
theorem ct_y9:Cl.TJ bK7 D.bl cb7 ch1:=(aa9 (ah3 (aa6 (az7 (ac2 (ar8 (aG6 (fun _=>rfl)) xp)) (az7 (ac2 (ab1 (av8 false) xp xk)) (ac2 (ab1 (cr0 bf7 (by decide)) xp (ah2 af3 xp))))))
 (ac0 (aa6 xk))
 ac8)
 (ac0 (aa6 (ae3 cq5 (aN1 (fun _=>rfl) (fun a0 a1 a2=>cf_k9 a0 a1 a2) xp xp (ah2 af3 xp))))))
theorem cf_y9 (a_guild:GuildT) (a_house:Int) (a_road:(Option (List Int))):SimO bK7 D.bl (m_y9 [ab5 a_guild,D.int a_house,(eO (eL D.int)) a_road]) (C_y9 a_guild a_house a_road):=ak4 ct_y9 rfl
structure S_ba9 where
 v33q:(List (Option (List Int)))
 v4q:Int
 v24q:Option (Option (List Int))
noncomputable def bl5:S_ba9→Mi.Env:=fun s=>[some ((eL (eO (eL D.int))) s.v33q),some (D.int s.v4q),s.v24q.map (eO (eL D.int))]
noncomputable abbrev bJ1:=S_ba9→FlC S_ba9 Unit
noncomputable def ap2:bJ1:=(ak6 (upC (pc2C bz2 (unC optC (vC fun p=>p.v24q)) (pC fun p=>p.v4q))))
noncomputable def ao5:bJ1:=(ifC (upC (unC (isnC true nonO) (vC fun p=>p.v24q)))
 ap2
 ag5)
noncomputable def bb9:bJ1:=(ay3 (pC fun p=>p.v33q) (fun a s=>{ s with v24q:=some a })
 ao5)
noncomputable def bx1:bJ1:=bb9
noncomputable def bJ5 (a_told:(List (Option (List Int)))) (a_count:Int):OutC S_ba9 Unit:=runC (some ()) (bx1 ⟨a_told,a_count,none⟩)
theorem cy1:Cl.TJ bl5 eN bo4 bx1:=(ak9 (ai2 xp) (fun _ _=>rfl)
 (ah3 (aa6 (ac2 (ar8 (aG6 (fun _=>rfl)) xv)))
 (ae0 (aa6 (af4 (fun a0 a1=>bP9 a0 a1) (ah2 af3 xv) xp)))
 ac8))
theorem cz2 (a_told:(List (Option (List Int)))) (a_count:Int):SimO bl5 eN (m_ba9 [(eL (eO (eL D.int))) a_told,D.int a_count]) (bJ5 a_told a_count):=az5 (d:=()) rfl cy1 rfl
structure S_bh9 where
 v16q:(List (Option Int))
noncomputable def bk8:S_bh9→Mi.Env:=fun s=>[some ((eL (eO D.int)) s.v16q)]
noncomputable abbrev cA0:=S_bh9→FlC S_bh9 (List (Option (List Int)))
noncomputable def ba8:cA0:=(retC (upC (ag0 (unC (rngC 0) (unC lenC (pC fun p=>p.v16q))) (fun _=> .ok true) (pc2C bg4 (pC fun p=>p.2.v16q) (pC fun p=>p.1)))))
noncomputable def bw4:cA0:=ba8
noncomputable def bJ2 (a_next_houses:(List (Option Int))):OutC S_bh9 (List (Option (List Int))):=runC none (bw4 ⟨a_next_houses⟩)
theorem cx4:Cl.TJ bk8 (eL (eO (eL D.int))) bn7 bw4:=(ac0 (aa6 (aj0 (at5 (ae3 ah7 xp)) ar7 (af4 (fun a0 a1=>cz1 a0 a1) xp xp))))
theorem cy6 (a_next_houses:(List (Option Int))):SimO bk8 (eL (eO (eL D.int))) (m_bh9 [(eL (eO D.int)) a_next_houses]) (bJ2 a_next_houses):=ar6 cx4 rfl
structure S_b9 where
 v28q:GuildT
 v0q:Int
 v1q:Int
noncomputable def bN0:S_b9→Mi.Env:=fun s=>[some (ab5 s.v28q),some (D.int s.v0q),some (D.int s.v1q)]
noncomputable abbrev Y_b9:=S_b9→FlC S_b9 Bool
noncomputable def bw1:Y_b9:=(ak6 (upC (pc2C C_h9 (pC fun p=>p.v28q) (mkC (af9 (pC fun p=>p.v0q) (af9 (pC fun p=>p.v1q) (nilC:_→Res (List Int))))))))
noncomputable def bw0:Y_b9:=(retC (upC (bnC (dinC false) (unC aC7 (prC (pC fun p=>p.v0q) (pC fun p=>p.v1q))) (unC (fun g=> .ok g.ways) (pC fun p=>p.v28q)))))
noncomputable def cj2:Y_b9:=(seqC bw1
 bw0)
noncomputable def C_b9 (a_self:GuildT) (a_a:Int) (a_b:Int):OutC S_b9 Bool:=runC none (cj2 ⟨a_self,a_a,a_b⟩)
theorem ct_b9:Cl.TJ bN0 D.bl ce0 cj2:=(aa9 (ae0 (aa6 (ap0 (fun _=>rfl) (fun a0 a1=>bw3 a0 a1) xp (af8 (ad3 xp (ad3 xp af7))))))
 (ac0 (aa6 (ab1 (bE1 false) (ah2 aq3 (ap9 xp xp)) (ae3 al8 xp)))))
theorem cf_b9 (a_self:GuildT) (a_a:Int) (a_b:Int):SimO bN0 D.bl (m_b9 [ab5 a_self,D.int a_a,D.int a_b]) (C_b9 a_self a_a a_b):=ak4 ct_b9 rfl
structure S_e9 where
 v28q:GuildT
 v0q:Int
 v1q:Int
noncomputable def bM7:S_e9→Mi.Env:=fun s=>[some (ab5 s.v28q),some (D.int s.v0q),some (D.int s.v1q)]
noncomputable abbrev Y_e9:=S_e9→FlC S_e9 Int
noncomputable def bv4:Y_e9:=(ak6 (upC (pc2C C_h9 (pC fun p=>p.v28q) (mkC (af9 (pC fun p=>p.v0q) (af9 (pC fun p=>p.v1q) (nilC:_→Res (List Int))))))))
noncomputable def bv3:Y_e9:=(retC (upC (cw1 (unC (fun g=> .ok g.likings) (pC fun p=>p.v28q)) (unC aC7 (prC (pC fun p=>p.v0q) (pC fun p=>p.v1q))) (kC (0:Int)))))
noncomputable def ci9:Y_e9:=(seqC bv4
 bv3)
noncomputable def C_e9 (a_self:GuildT) (a_a:Int) (a_b:Int):OutC S_e9 Int:=runC none (ci9 ⟨a_self,a_a,a_b⟩)
theorem ct_e9:Cl.TJ bM7 D.int cd7 ci9:=(aa9 (ae0 (aa6 (ap0 (fun _=>rfl) (fun a0 a1=>bw3 a0 a1) xp (af8 (ad3 xp (ad3 xp af7))))))
 (ac0 (aa6 (av2 (fun _=>rfl) (cg3 (ae3 av7 xp) (ah2 aq3 (ap9 xp xp)) xk)))))
theorem cf_e9 (a_self:GuildT) (a_a:Int) (a_b:Int):SimO bM7 D.int (m_e9 [ab5 a_self,D.int a_a,D.int a_b]) (C_e9 a_self a_a a_b):=ak4 ct_e9 rfl
structure S_f9 where
 v28q:GuildT
 v0q:Int
noncomputable def bM6:S_f9→Mi.Env:=fun s=>[some (ab5 s.v28q),some (D.int s.v0q)]
noncomputable abbrev Y_f9:=S_f9→FlC S_f9 (List Int)
noncomputable def bv2:Y_f9:=(ak6 (upC (pc2C C_h9 (pC fun p=>p.v28q) (mkC (af9 (pC fun p=>p.v0q) (nilC:_→Res (List Int)))))))
noncomputable def bv1:Y_f9:=(retC (upC (pc3C C_c9 (pC fun p=>p.v28q) (unC (fun g=> .ok g.ways) (pC fun p=>p.v28q)) (pC fun p=>p.v0q))))
noncomputable def ci8:Y_f9:=(seqC bv2
 bv1)
noncomputable def C_f9 (a_self:GuildT) (a_a:Int):OutC S_f9 (List Int):=runC none (ci8 ⟨a_self,a_a⟩)
theorem ct_f9:Cl.TJ bM6 (eL D.int) cd6 ci8:=(aa9 (ae0 (aa6 (ap0 (fun _=>rfl) (fun a0 a1=>bw3 a0 a1) xp (af8 (ad3 xp af7)))))
 (ac0 (aa6 (aN1 (fun _=>rfl) (fun a0 a1 a2=>cf_c9 a0 a1 a2) xp (ae3 al8 xp) xp))))
theorem cy4 (a_self:GuildT) (a_a:Int):SimO bM6 (eL D.int) (m_f9 [ab5 a_self,D.int a_a]) (C_f9 a_self a_a):=ar6 ct_f9 rfl
structure S_i9 where
 v28q:GuildT
 v24q:(List Int)
noncomputable def bM3:S_i9→Mi.Env:=fun s=>[some (ab5 s.v28q),some ((eL D.int) s.v24q)]
noncomputable abbrev Y_i9:=S_i9→FlC S_i9 Unit
noncomputable def bu9:Y_i9:=(ak6 (upC (pc2C C_h9 (pC fun p=>p.v28q) (pC fun p=>p.v24q))))
noncomputable def bu8:Y_i9:=(ifC (upC (bnC ltC (unC lenC (pC fun p=>p.v24q)) (kC (2:Int))))
 badC
 ag5)
noncomputable def bu7:Y_i9:=(ifC (upC (bnC (eqC true) (bnC ixC (pC fun p=>p.v24q) (unC negC (kC (1:Int)))) (kC (0:Int))))
 badC
 ag5)
noncomputable def bu6:Y_i9:=(ifC (upC (bnC (eqC true) (unC aS1 (pC fun p=>p.v24q)) (unC lenC (pC fun p=>p.v24q))))
 badC
 ag5)
noncomputable def ci5:Y_i9:=(seqC bu9
 (seqC bu8
 (seqC bu7
 bu6)))
noncomputable def C_i9 (a_self:GuildT) (a_road:(List Int)):OutC S_i9 Unit:=runC (some ()) (ci5 ⟨a_self,a_road⟩)
theorem ct_i9:Cl.TJ bM3 eN cd3 ci5:=(aa9 (ae0 (aa6 (ap0 (fun _=>rfl) (fun a0 a1=>bw3 a0 a1) xp xp)))
 (aa9 (ah3 (aa6 (ac2 (ab1 o_lt (ae3 ah7 xp) xk)))
 ax2
 ac8)
 (aa9 (ah3 (aa6 (ac2 (ab1 (av8 true) (ab1 ai0 xp (ae3 bD9 xk)) xk)))
 ax2
 ac8)
 (ah3 (aa6 (ac2 (ab1 (av8 true) (ae3 bE0 xp) (ae3 ah7 xp))))
 ax2
 ac8))))
theorem cy3 (a_self:GuildT) (a_road:(List Int)):SimO bM3 eN (m_i9 [ab5 a_self,(eL D.int) a_road]) (C_i9 a_self a_road):=az5 (d:=()) rfl ct_i9 rfl
structure S_j9 where
 v28q:GuildT
 v0q:Int
 v1q:Int
noncomputable def bM2:S_j9→Mi.Env:=fun s=>[some (ab5 s.v28q),some (D.int s.v0q),some (D.int s.v1q)]
noncomputable abbrev Y_j9:=S_j9→FlC S_j9 Unit
noncomputable def bu5:Y_j9:=(ak6 (upC (pc2C C_h9 (pC fun p=>p.v28q) (mkC (af9 (pC fun p=>p.v0q) (af9 (pC fun p=>p.v1q) (nilC:_→Res (List Int))))))))
noncomputable def bu4:Y_j9:=(ifC (upC (bnC (eqC false) (pC fun p=>p.v0q) (pC fun p=>p.v1q)))
 badC
 ag5)
noncomputable def ci4:Y_j9:=(seqC bu5
 bu4)
noncomputable def C_j9 (a_self:GuildT) (a_a:Int) (a_b:Int):OutC S_j9 Unit:=runC (some ()) (ci4 ⟨a_self,a_a,a_b⟩)
theorem ct_j9:Cl.TJ bM2 eN cd2 ci4:=(aa9 (ae0 (aa6 (ap0 (fun _=>rfl) (fun a0 a1=>bw3 a0 a1) xp (af8 (ad3 xp (ad3 xp af7))))))
 (ah3 (aa6 (ac2 (ab1 (av8 false) xp xp)))
 ax2
 ac8))
theorem cf_j9 (a_self:GuildT) (a_a:Int) (a_b:Int):SimO bM2 eN (m_j9 [ab5 a_self,D.int a_a,D.int a_b]) (C_j9 a_self a_a a_b):=az5 (d:=()) rfl ct_j9 rfl
structure S_v9 where
 v8q:(List (Option (List Int)))
 v5q:(List (Option (List Int)))
 v12q:Option Int
noncomputable def bL0:S_v9→Mi.Env:=fun s=>[some ((eL (eO (eL D.int))) s.v8q),some ((eL (eO (eL D.int))) s.v5q),s.v12q.map D.int]
noncomputable abbrev Y_v9:=S_v9→FlC S_v9 Bool
noncomputable def aT7:Y_v9:=(retC (upC (kC false)))
noncomputable def bs8:Y_v9:=(ifC (upC (orC (unC notC (unC (cbC true) (pC fun p=>p.v8q))) (bnC (eqC true) (unC lenC (pC fun p=>p.v8q)) (unC lenC (pC fun p=>p.v5q)))))
 aT7
 ag5)
noncomputable def aH5:Y_v9:=(retC (upC (kC false)))
noncomputable def aA2:Y_v9:=(ifC (upC (unC notC (pc2C C_u9 (bnC ixC (pC fun p=>p.v8q) (vC fun p=>p.v12q)) (bnC ixC (pC fun p=>p.v5q) (vC fun p=>p.v12q)))))
 aH5
 ag5)
noncomputable def bs7:Y_v9:=(ay3 (unC (rngC 0) (unC lenC (pC fun p=>p.v5q))) (fun a s=>{ s with v12q:=some a })
 aA2)
noncomputable def bs6:Y_v9:=(retC (upC (kC true)))
noncomputable def ch4:Y_v9:=(seqC bs8
 (seqC bs7
 bs6))
noncomputable def C_v9 (a_found:(List (Option (List Int)))) (a_due:(List (Option (List Int)))):OutC S_v9 Bool:=runC none (ch4 ⟨a_found,a_due,none⟩)
theorem ct_v9:Cl.TJ bL0 D.bl cc0 ch4:=(aa9 (ah3 (aa6 (az7 (at6 (ac2 (ba4 (e:=(eL (eO (eL D.int)))) (n := "list") (b:=true) (fun _=>rfl) xp))) (ac2 (ab1 (av8 true) (ae3 ah7 xp) (ae3 ah7 xp)))))
 (ac0 (aa6 xk))
 ac8)
 (aa9 (ak9 (at5 (ae3 ah7 xp)) (fun _ _=>rfl)
 (ah3 (aa6 (at6 (ac2 (af4 (fun a0 a1=>cf_u9 a0 a1) (ab1 ai0 xp xv) (ab1 ai0 xp xv)))))
 (ac0 (aa6 xk))
 ac8))
 (ac0 (aa6 xk))))
theorem cy2 (a_found:(List (Option (List Int)))) (a_due:(List (Option (List Int)))):SimO bL0 D.bl (m_v9 [(eL (eO (eL D.int))) a_found,(eL (eO (eL D.int))) a_due]) (C_v9 a_found a_due):=ak4 ct_v9 rfl
structure S_d9 where
 v28q:GuildT
 v0q:Int
 v1q:Int
noncomputable def bM8:S_d9→Mi.Env:=fun s=>[some (ab5 s.v28q),some (D.int s.v0q),some (D.int s.v1q)]
noncomputable abbrev Y_d9:=S_d9→FlC S_d9 Unit
noncomputable def bv8:Y_d9:=(ak6 (upC (pc3C C_j9 (pC fun p=>p.v28q) (pC fun p=>p.v0q) (pC fun p=>p.v1q))))
noncomputable def bv7:Y_d9:=(ifC (upC (bnC (dinC false) (unC aC7 (prC (pC fun p=>p.v0q) (pC fun p=>p.v1q))) (unC (fun g=> .ok g.ways) (pC fun p=>p.v28q))))
 badC
 ag5)
noncomputable def bv6:Y_d9:=(bG8 (fun s=>some s.v28q.ways) (fun s y=>{ s with v28q:={ s.v28q with ways:=y } }) (unC aC7 (prC (pC fun p=>p.v0q) (pC fun p=>p.v1q))) (upC (kC true)))
noncomputable def bv5:Y_d9:=(bG8 (fun s=>some s.v28q.ways) (fun s y=>{ s with v28q:={ s.v28q with ways:=y } }) (unC aC7 (prC (pC fun p=>p.v1q) (pC fun p=>p.v0q))) (upC (kC true)))
noncomputable def cj0:Y_d9:=(seqC bv8
 (seqC bv7
 (seqC bv6
 bv5)))
noncomputable def C_d9 (a_self:GuildT) (a_a:Int) (a_b:Int):OutC S_d9 Unit:=runC (some ()) (cj0 ⟨a_self,a_a,a_b⟩)
theorem ct_d9:Cl.TJ bM8 eN cd8 cj0:=(aa9 (ae0 (aa6 (aN1 (fun _=>rfl) (fun a0 a1 a2=>cf_j9 a0 a1 a2) xp xp xp)))
 (aa9 (ah3 (aa6 (ac2 (ab1 (bE1 false) (ah2 aq3 (ap9 xp xp)) (ae3 al8 xp))))
 ax2
 ac8)
 (aa9 (aO6 (fun _=>rfl) (fun _ _=>rfl) (ah2 aq3 (ap9 xp xp)) (aa6 xk))
 (aO6 (fun _=>rfl) (fun _ _=>rfl) (ah2 aq3 (ap9 xp xp)) (aa6 xk)))))
theorem cy5 (a_self:GuildT) (a_a:Int) (a_b:Int):SimO bM8 eN (m_d9 [ab5 a_self,D.int a_a,D.int a_b]) (C_d9 a_self a_a a_b):=az5 (d:=()) rfl ct_d9 rfl
structure S_g9 where
 v28q:GuildT
 v24q:(List Int)
 v34q:Option (Option Int)
noncomputable def bM5:S_g9→Mi.Env:=fun s=>[some (ab5 s.v28q),some ((eL D.int) s.v24q),s.v34q.map (eO D.int)]
noncomputable abbrev Y_g9:=S_g9→FlC S_g9 Int
noncomputable def aW1:Y_g9:=(ak6 (upC (pc2C C_i9 (pC fun p=>p.v28q) (pC fun p=>p.v24q))))
noncomputable def aW0:Y_g9:=(setC (fun a s=>{ s with v34q:=some a }) (upC (bnC dg1C (unC (fun g=> .ok g.wish_ranks) (pC fun p=>p.v28q)) (unC idC (pC fun p=>p.v24q)))))
noncomputable def aq1:Y_g9:=(retC (upC (pc3C C_e9 (pC fun p=>p.v28q) (bnC ixC (pC fun p=>p.v24q) (kC (0:Int))) (bnC ixC (pC fun p=>p.v24q) (kC (1:Int))))))
noncomputable def aV9:Y_g9:=(ifC (upC (unC (isnC false nonO) (vC fun p=>p.v34q)))
 aq1
 ag5)
noncomputable def aV8:Y_g9:=(retC (fun s=>bdO ((upC (vC fun p=>p.v34q)) s) fun a s=>bndO (optC a) s fun b=> .ok b s))
noncomputable def ci7:Y_g9:=(seqC aW1
 (seqC aW0
 (seqC aV9
 aV8)))
noncomputable def C_g9 (a_self:GuildT) (a_road:(List Int)):OutC S_g9 Int:=runC none (ci7 ⟨a_self,a_road,none⟩)
theorem ct_g9:Cl.TJ bM5 D.int cd5 ci7:=(aa9 (ae0 (aa6 (ap0 (fun _=>rfl) (fun a0 a1=>cy3 a0 a1) xp xp)))
 (aa9 (xs (aa6 (av2 (bF8 (fun _=>rfl)) (cg4 (ae3 aR6 xp) (ae3 cq4 (bq7 (bj3 (fun _=>rfl)) xp))))))
 (aa9 (ah3 (aa6 (ac2 (ar8 (aG6 (fun _=>rfl)) xv)))
 (ac0 (aa6 (aN1 (fun _=>rfl) (fun a0 a1 a2=>cf_e9 a0 a1 a2) xp (av2 (fun _=>rfl) (ab1 ai0 xp xk)) (av2 (fun _=>rfl) (ab1 ai0 xp xk)))))
 ac8)
 (ac0 (ay2 af3 (aa6 xv))))))
theorem cf_g9 (a_self:GuildT) (a_road:(List Int)):SimO bM5 D.int (m_g9 [ab5 a_self,(eL D.int) a_road]) (C_g9 a_self a_road):=ak4 ct_g9 rfl
structure S_m9 where
 v28q:GuildT
 v24q:(List Int)
 v21q:Int
noncomputable def bL9:S_m9→Mi.Env:=fun s=>[some (ab5 s.v28q),some ((eL D.int) s.v24q),some (D.int s.v21q)]
noncomputable abbrev Y_m9:=S_m9→FlC S_m9 Unit
noncomputable def bu1:Y_m9:=(ak6 (upC (pc2C C_i9 (pC fun p=>p.v28q) (pC fun p=>p.v24q))))
noncomputable def bu0:Y_m9:=(bG8 (fun s=>some s.v28q.wish_ranks) (fun s y=>{ s with v28q:={ s.v28q with wish_ranks:=y } }) (unC idC (pC fun p=>p.v24q)) (upC (pC fun p=>p.v21q)))
noncomputable def ci1:Y_m9:=(seqC bu1
 bu0)
noncomputable def C_m9 (a_self:GuildT) (a_road:(List Int)) (a_rank:Int):OutC S_m9 Unit:=runC (some ()) (ci1 ⟨a_self,a_road,a_rank⟩)
theorem ct_m9:Cl.TJ bL9 eN cc9 ci1:=(aa9 (ae0 (aa6 (ap0 (fun _=>rfl) (fun a0 a1=>cy3 a0 a1) xp xp)))
 (aO6 (fun _=>rfl) (fun _ _=>rfl) (ae3 cq4 (bq7 (bj3 (fun _=>rfl)) xp)) (aa6 xp)))
theorem cf_m9 (a_self:GuildT) (a_road:(List Int)) (a_rank:Int):SimO bL9 eN (m_m9 [ab5 a_self,(eL D.int) a_road,D.int a_rank]) (C_m9 a_self a_road a_rank):=az5 (d:=()) rfl ct_m9 rfl
structure S_bd9 where
 v9q:GuildT
 v26q:Option (List (List (Option Int)))
 v10q:Option Int
noncomputable def bl2:S_bd9→Mi.Env:=fun s=>[some (ab5 s.v9q),s.v26q.map (eL (eL (eO D.int))),s.v10q.map D.int]
noncomputable abbrev by9:=S_bd9→FlC S_bd9 (List (List (Option Int)))
noncomputable def bb6:by9:=(setC (fun a s=>{ s with v26q:=some a }) (fun s=>bdO ((upC (mkC (af9 (mkC (af9 (kC ()) (nilC:_→Res (List Unit)))) (nilC:_→Res (List (List Unit)))))) s) fun a s=>bndO ((bQ2:List (List Unit)→Res (List (List (Option Int)))) a) s fun b=> .ok b s))
noncomputable def at9:by9:=(setC (fun a s=>{ s with v26q:=some a }) (upC (pc2C bJ4 (vC fun p=>p.v26q) (bnC catC (unC (cj9:List Unit→Res (List (Option Int))) (mkC (af9 (kC ()) (nilC:_→Res (List Unit))))) (unC cj8 (pc2C C_f9 (pC fun p=>p.v9q) (vC fun p=>p.v10q)))))))
noncomputable def bb5:by9:=(ay3 (bnC rngC (kC (1:Int)) (pc1C C_l9 (pC fun p=>p.v9q))) (fun a s=>{ s with v10q:=some a })
 at9)
noncomputable def bb4:by9:=(retC (upC (vC fun p=>p.v26q)))
noncomputable def bw8:by9:=(seqC bb6
 (seqC bb5
 bb4))
noncomputable def bz1 (a_guild:GuildT):OutC S_bd9 (List (List (Option Int))):=runC none (bw8 ⟨a_guild,none,none⟩)
theorem cx8:Cl.TJ bl2 (eL (eL (eO D.int))) bo1 bw8:=(aa9 (xs (ay2 bI9 (aa6 (af8 (ad3 (af8 (ad3 xk af7)) af7)))))
 (aa9 (ak9 (bq6 xk (ba3 (fun _=>rfl) (fun a0=>bI3 a0) xp)) (fun _ _=>rfl)
 (xs (aa6 (af4 (fun a0 a1=>cy9 a0 a1) xv (ab1 bE2 (ah2 by4 (af8 (ad3 xk af7))) (ah2 by3 (ap0 (fun _=>rfl) (fun a0 a1=>cy4 a0 a1) xp xv)))))))
 (ac0 (aa6 xv))))
theorem cz0 (a_guild:GuildT):SimO bl2 (eL (eL (eO D.int))) (m_bd9 [ab5 a_guild]) (bz1 a_guild):=ak4 cx8 rfl
structure S_s9 where
 v23q:(List Int)
 v3q:Int
 v14q:Option Int
 v9q:Option GuildT
 v12q:Option Int
 v7q:Option Int
noncomputable def bL3:S_s9→Mi.Env:=fun s=>[some ((eL D.int) s.v23q),some (D.int s.v3q),s.v14q.map D.int,s.v9q.map ab5,s.v12q.map D.int,s.v7q.map D.int]
noncomputable abbrev Y_s9:=S_s9→FlC S_s9 GuildT
noncomputable def aU4:Y_s9:=(setC (fun a s=>{ s with v14q:=some a }) (upC (unC lenC (pC fun p=>p.v23q))))
noncomputable def aU3:Y_s9:=(setC (fun a s=>{ s with v9q:=some a }) (upC (pk1C mk_Guild (bnC addC (kC (1:Int)) (vC fun p=>p.v14q)))))
noncomputable def aA7:Y_s9:=(setC (fun a s=>{ s with v7q:=some a }) (upC (bnC ixC (pC fun p=>p.v23q) (bnC modC (bnC addC (vC fun p=>p.v12q) (kC (1:Int))) (vC fun p=>p.v14q)))))
noncomputable def aA6:Y_s9:=(ak6 (mc3C C_d9 (fun s' s=>{ s with v9q:=some s'.v28q }) (vC fun p=>p.v9q) (bnC ixC (pC fun p=>p.v23q) (vC fun p=>p.v12q)) (kC (0:Int))))
noncomputable def as2:Y_s9:=(ak6 (mc3C C_d9 (fun s' s=>{ s with v9q:=some s'.v28q }) (vC fun p=>p.v9q) (bnC ixC (pC fun p=>p.v23q) (vC fun p=>p.v12q)) (vC fun p=>p.v7q)))
noncomputable def as3:Y_s9:=(ifC (upC (unC notC (pc3C C_b9 (vC fun p=>p.v9q) (bnC ixC (pC fun p=>p.v23q) (vC fun p=>p.v12q)) (vC fun p=>p.v7q))))
 as2
 ag5)
noncomputable def as0:Y_s9:=(ak6 (mc3C C_m9 (fun s' s=>{ s with v9q:=some s'.v28q }) (vC fun p=>p.v9q) (mkC (af9 (bnC ixC (pC fun p=>p.v23q) (vC fun p=>p.v12q)) (af9 (vC fun p=>p.v7q) (af9 (kC (0:Int)) (nilC:_→Res (List Int)))))) (bnC addC (kC (1:Int)) (bnC modC (bnC addC (pC fun p=>p.v3q) (bnC mulC (vC fun p=>p.v12q) (vC fun p=>p.v12q))) (bnC powC (kC (10:Int)) (kC (30:Int)))))))
noncomputable def aI4:Y_s9:=(seqC aA7
 (seqC aA6
 (seqC as3
 as0)))
noncomputable def aU2:Y_s9:=(ay3 (unC (rngC 0) (vC fun p=>p.v14q)) (fun a s=>{ s with v12q:=some a })
 aI4)
noncomputable def bt4:Y_s9:=(retC (mvC (fun s=>s.v9q) (fun s=>{ s with v9q:=none })))
noncomputable def ch6:Y_s9:=(seqC aU4
 (seqC aU3
 (seqC aU2
 bt4)))
noncomputable def C_s9 (a_ring:(List Int)) (a_cell:Int):OutC S_s9 GuildT:=runC none (ch6 ⟨a_ring,a_cell,none,none,none,none⟩)
theorem ct_s9:Cl.TJ bL3 ab5 cc3 ch6:=(aa9 (xs (aa6 (ae3 ah7 xp)))
 (aa9 (xs (aa6 (cw6 aG9 (ab1 aL5 xk xv))))
 (aa9 (ak9 (at5 xv) (fun _ _=>rfl)
 (aa9 (xs (aa6 (ab1 ai0 xp (ab1 aR7 (ab1 aL5 xv xk) xv))))
 (aa9 (ae0 (bn3 (fun _=>rfl) (fun _ _=>rfl) (fun a0 a1 a2=>cy5 a0 a1 a2) xv (ab1 ai0 xp xv) xk))
 (aa9 (ah3 (aa6 (at6 (ac2 (aN1 (fun _=>rfl) (fun a0 a1 a2=>cf_b9 a0 a1 a2) xv (ab1 ai0 xp xv) xv))))
 (ae0 (bn3 (fun _=>rfl) (fun _ _=>rfl) (fun a0 a1 a2=>cy5 a0 a1 a2) xv (ab1 ai0 xp xv) xv))
 ac8)
 (ae0 (bn3 (fun _=>rfl) (fun _ _=>rfl) (fun a0 a1 a2=>cf_m9 a0 a1 a2) xv (af8 (ad3 (ab1 ai0 xp xv) (ad3 xv (ad3 xk af7)))) (ab1 aL5 xk (ab1 aR7 (ab1 aL5 xp (ab1 cq6 xv xv)) (ab1 o_pow xk xk)))))))))
 (ac0 (be9 (fun _=>rfl) (fun _=>rfl))))))
theorem cf_s9 (a_ring:(List Int)) (a_cell:Int):SimO bL3 ab5 (m_s9 [(eL D.int) a_ring,D.int a_cell]) (C_s9 a_ring a_cell):=ar6 ct_s9 rfl
structure S_bg9 where
 v9q:GuildT
 v24q:(List Int)
noncomputable def bk9:S_bg9→Mi.Env:=fun s=>[some (ab5 s.v9q),some ((eL D.int) s.v24q)]
noncomputable abbrev cA1:=S_bg9→FlC S_bg9 (Int×Int×(List Int))
noncomputable def ba9:cA1:=(retC (upC (prC (unC negC (pc2C C_g9 (pC fun p=>p.v9q) (pC fun p=>p.v24q))) (prC (unC lenC (pC fun p=>p.v24q)) (pC fun p=>p.v24q)))))
noncomputable def bw5:cA1:=ba9
noncomputable def bz0 (a_guild:GuildT) (a_road:(List Int)):OutC S_bg9 (Int×Int×(List Int)):=runC none (bw5 ⟨a_guild,a_road⟩)
theorem cx5:Cl.TJ bk9 (eT3 D.int D.int (eL D.int)) bn8 bw5:=(ac0 (aa6 (cg2 (ae3 bD9 (ap0 (fun _=>rfl) (fun a0 a1=>cf_g9 a0 a1) xp xp)) (ae3 ah7 xp) xp)))
theorem cy7 (a_guild:GuildT) (a_road:(List Int)):SimO bk9 (eT3 D.int D.int (eL D.int)) (m_bg9 [ab5 a_guild,(eL D.int) a_road]) (bz0 a_guild a_road):=ak4 cx5 rfl
structure S_o9 where
 v9q:GuildT
 v10q:Int
 v33q:(List (Option (List Int)))
 v29q:Option (List (Int×Int×(List Int)))
noncomputable def bL7:S_o9→Mi.Env:=fun s=>[some (ab5 s.v9q),some (D.int s.v10q),some ((eL (eO (eL D.int))) s.v33q),s.v29q.map (eL (eT3 D.int D.int (eL D.int)))]
noncomputable abbrev Y_o9:=S_o9→FlC S_o9 (Option (List Int))
noncomputable def bt8:Y_o9:=(setC (fun a s=>{ s with v29q:=some a }) (upC (ag0 (pC fun p=>p.v33q) (pc3C C_y9 (pC fun p=>p.2.v9q) (pC fun p=>p.2.v10q) (pC fun p=>p.1)) (pc2C bz0 (pC fun p=>p.2.v9q) (bnC catC (mkC (af9 (pC fun p=>p.2.v10q) (nilC:_→Res (List Int)))) (unC optC (pC fun p=>p.1)))))))
noncomputable def aV5:Y_o9:=(retC (upC (pc2C C_n9 (pC fun p=>p.v10q) (vC fun p=>p.v29q))))
noncomputable def ch9:Y_o9:=(seqC bt8
 aV5)
noncomputable def C_o9 (a_guild:GuildT) (a_house:Int) (a_told:(List (Option (List Int)))):OutC S_o9 (Option (List Int)):=runC (some none) (ch9 ⟨a_guild,a_house,a_told,none⟩)
theorem ct_o9:Cl.TJ bL7 (eO (eL D.int)) cc7 ch9:=(aa9 (xs (aa6 (aj0 (ai2 xp) (ac2 (bP6 (fun a0 a1 a2=>cf_y9 a0 a1 a2) xp xp xp)) (af4 (fun a0 a1=>cy7 a0 a1) xp (ab1 bE2 (af8 (ad3 xp af7)) (ah2 af3 (bq7 (cl5 (bj3 (fun _=>rfl))) xp)))))))
 (ac0 (aa6 (af4 (fun a0 a1=>cf_n9 a0 a1) xp xv))))
theorem cf_o9 (a_guild:GuildT) (a_house:Int) (a_told:(List (Option (List Int)))):SimO bL7 (eO (eL D.int)) (m_o9 [ab5 a_guild,D.int a_house,(eL (eO (eL D.int))) a_told]) (C_o9 a_guild a_house a_told):=az5 (d:=none) rfl ct_o9 rfl
structure S_p9 where
 v9q:GuildT
 v31q:(List (Option (List Int)))
 v10q:Option Int
 v33q:Option (List (Option (List Int)))
noncomputable def bL6:S_p9→Mi.Env:=fun s=>[some (ab5 s.v9q),some ((eL (eO (eL D.int))) s.v31q),s.v10q.map D.int,s.v33q.map (eL (eO (eL D.int)))]
noncomputable abbrev Y_p9:=S_p9→FlC S_p9 (Option Int)
noncomputable def aV4:Y_p9:=(ak6 (upC (pc2C bJ5 (pC fun p=>p.v31q) (pc1C C_l9 (pC fun p=>p.v9q)))))
noncomputable def an7:Y_p9:=(setC (fun a s=>{ s with v33q:=some a }) (upC (ag0 (pc2C C_f9 (pC fun p=>p.v9q) (vC fun p=>p.v10q)) (fun _=> .ok true) (bnC ixC (pC fun p=>p.2.v31q) (pC fun p=>p.1)))))
noncomputable def am3:Y_p9:=(retC (fun s=>bdO ((upC (vC fun p=>p.v10q)) s) fun a s=>bndO (aC4 a) s fun b=> .ok b s))
noncomputable def an6:Y_p9:=(ifC (upC (bnC (eqC true) (pc3C C_o9 (pC fun p=>p.v9q) (vC fun p=>p.v10q) (vC fun p=>p.v33q)) (bnC ixC (pC fun p=>p.v31q) (vC fun p=>p.v10q))))
 am3
 ag5)
noncomputable def bw2:Y_p9:=(seqC an7
 an6)
noncomputable def aV3:Y_p9:=(ay3 (unC (rngC 0) (pc1C C_l9 (pC fun p=>p.v9q))) (fun a s=>{ s with v10q:=some a })
 bw2)
noncomputable def bt7:Y_p9:=(retC (fun s=>bdO ((upC (kC ())) s) fun a s=>bndO ((aR8:Unit→Res (Option Int)) a) s fun b=> .ok b s))
noncomputable def ch8:Y_p9:=(seqC aV4
 (seqC aV3
 bt7))
noncomputable def C_p9 (a_guild:GuildT) (a_table:(List (Option (List Int)))):OutC S_p9 (Option Int):=runC (some none) (ch8 ⟨a_guild,a_table,none,none⟩)
theorem ct_p9:Cl.TJ bL6 (eO D.int) cc6 ch8:=(aa9 (ae0 (aa6 (af4 (fun a0 a1=>cz2 a0 a1) xp (ba3 (fun _=>rfl) (fun a0=>bI3 a0) xp))))
 (aa9 (ak9 (at5 (ba3 (fun _=>rfl) (fun a0=>bI3 a0) xp)) (fun _ _=>rfl)
 (aa9 (xs (aa6 (aj0 (ai2 (ap0 (fun _=>rfl) (fun a0 a1=>cy4 a0 a1) xp xv)) ar7 (ab1 ai0 xp xp))))
 (ah3 (aa6 (ac2 (ab1 (cb2 (cg8 (bH0 bf7) (ba6 _)) (by decide) true) (bP6 (fun a0 a1 a2=>cf_o9 a0 a1 a2) xp xv xv) (ab1 ai0 xp xv))))
 (ac0 (ay2 aB8 (aa6 xv)))
 ac8)))
 (ac0 (ay2 aI8 (aa6 xk)))))
theorem cf_p9 (a_guild:GuildT) (a_table:(List (Option (List Int)))):SimO bL6 (eO D.int) (m_p9 [ab5 a_guild,(eL (eO (eL D.int))) a_table]) (C_p9 a_guild a_table):=az5 (d:=none) rfl ct_p9 rfl
structure S_bf9 where
 v9q:GuildT
 v32q:Option (List (List (Option (List Int))))
 v16q:Option (List (Option Int))
 v31q:Option (List (Option (List Int)))
noncomputable def bl0:S_bf9→Mi.Env:=fun s=>[some (ab5 s.v9q),s.v32q.map (eL (eL (eO (eL D.int)))),s.v16q.map (eL (eO D.int)),s.v31q.map (eL (eO (eL D.int)))]
noncomputable abbrev aJ0:=S_bf9→FlC S_bf9 (List (List (Option (List Int))))
noncomputable def aI1:aJ0:=(ifC (upC (bnC gtC (pc1C C_l9 (pC fun p=>p.v9q)) (kC (5:Int))))
 badC
 ag5)
noncomputable def aI0:aJ0:=(setC (fun a s=>{ s with v32q:=some a }) (upC (mkC (nilC:_→Res (List (List (Option (List Int))))))))
noncomputable def at7:aJ0:=(setC (fun a s=>{ s with v31q:=some a }) (upC (pc1C bJ2 (vC fun p=>p.v16q))))
noncomputable def ap1:aJ0:=(ak6 (l1C (fun s=>s.v32q) (fun s y=>{ s with v32q:=some y }) appC (vC fun p=>p.v31q)))
noncomputable def ao3:aJ0:=(ifC (upC (andC (bnC (eqC false) (pc1C C_z9 (vC fun p=>p.v31q)) (vC fun p=>p.v16q)) (unC (isnC false nonO) (pc2C C_p9 (pC fun p=>p.v9q) (vC fun p=>p.v31q)))))
 ap1
 ag5)
noncomputable def aw9:aJ0:=(seqC at7
 ao3)
noncomputable def aH9:aJ0:=(ay3 (pc1C bz1 (pC fun p=>p.v9q)) (fun a s=>{ s with v16q:=some a })
 aw9)
noncomputable def bb0:aJ0:=(retC (mvC (fun s=>s.v32q) (fun s=>{ s with v32q:=none })))
noncomputable def bw6:aJ0:=(seqC aI1
 (seqC aI0
 (seqC aH9
 bb0)))
noncomputable def bJ3 (a_guild:GuildT):OutC S_bf9 (List (List (Option (List Int)))):=runC none (bw6 ⟨a_guild,none,none,none⟩)
theorem cx6:Cl.TJ bl0 (eL (eL (eO (eL D.int)))) bn9 bw6:=(aa9 (ah3 (aa6 (ac2 (ab1 o_gt (ba3 (fun _=>rfl) (fun a0=>bI3 a0) xp) xk)))
 ax2
 ac8)
 (aa9 (xs (aa6 (af8 af7)))
 (aa9 (ak9 (ai2 (aN2 (fun a0=>cz0 a0) xp)) (fun _ _=>rfl)
 (aa9 (xs (aa6 (aN2 (fun a0=>cy6 a0) xv)))
 (ah3 (aa6 (cg6 (ac2 (ab1 (cb2 (bH0 (cg8 bf7 bH1)) (by decide) false) (aN2 (fun a0=>cf_z9 a0) xv) xv)) (ac2 (ar8 (aG6 (fun _=>rfl)) (af4 (fun a0 a1=>cf_p9 a0 a1) xp xv)))))
 (ae0 (bE4 (fun _=>rfl) (fun _ _=>rfl) cg1 xv))
 ac8)))
 (ac0 (be9 (fun _=>rfl) (fun _=>rfl))))))
theorem cy8 (a_guild:GuildT):SimO bl0 (eL (eL (eO (eL D.int)))) (m_bf9 [ab5 a_guild]) (bJ3 a_guild):=ar6 cx6 rfl
structure S_q9 where
 v27q:(List Int)
 v14q:Option Int
 v23q:Option (List Int)
 v8q:Option (List (List (Option (List Int))))
 v17q:Option (List (Option (List Int)))
 v18q:Option (List (Option (List Int)))
noncomputable def bL5:S_q9→Mi.Env:=fun s=>[some (eS s.v27q),s.v14q.map D.int,s.v23q.map (eL D.int),s.v8q.map (eL (eL (eO (eL D.int)))),s.v17q.map (eL (eO (eL D.int))),s.v18q.map (eL (eO (eL D.int)))]
noncomputable abbrev Y_q9:=S_q9→FlC S_q9 Bool
noncomputable def aV2:Y_q9:=(setC (fun a s=>{ s with v14q:=some a }) (upC (bnC addC (kC (2:Int)) (bnC modC (pc2C C_r9 (pC fun p=>p.v27q) (kC (0:Int))) (kC (3:Int))))))
noncomputable def aV1:Y_q9:=(setC (fun a s=>{ s with v23q:=some a }) (upC (pc2C C_t9 (pc2C C_r9 (pC fun p=>p.v27q) (kC (1:Int))) (vC fun p=>p.v14q))))
noncomputable def aV0:Y_q9:=(setC (fun a s=>{ s with v8q:=some a }) (upC (pc1C bJ3 (pc2C C_s9 (vC fun p=>p.v23q) (pc2C C_r9 (pC fun p=>p.v27q) (kC (2:Int)))))))
noncomputable def aU8:Y_q9:=(retC (upC (kC false)))
noncomputable def aU9:Y_q9:=(ifC (upC (unC notC (unC (cbC true) (vC fun p=>p.v8q))))
 aU8
 ag5)
noncomputable def aB1:Y_q9:=(retC (upC (bnC (eqC false) (unC lenC (vC fun p=>p.v8q)) (kC (0:Int)))))
noncomputable def aB2:Y_q9:=(ifC (upC (bnC (eqC false) (vC fun p=>p.v14q) (kC (3:Int))))
 aB1
 ag5)
noncomputable def aU7:Y_q9:=(setC (fun a s=>{ s with v17q:=some a }) (upC (pc2C C_w9 (vC fun p=>p.v23q) (kC (0:Int)))))
noncomputable def aU6:Y_q9:=(setC (fun a s=>{ s with v18q:=some a }) (upC (pc2C C_w9 (vC fun p=>p.v23q) (kC (1:Int)))))
noncomputable def aB0:Y_q9:=(setC (fun a s=>{ s with v17q:=some a }) (upC (pc2C C_w9 (vC fun p=>p.v23q) (kC (1:Int)))))
noncomputable def aA9:Y_q9:=(setC (fun a s=>{ s with v18q:=some a }) (upC (pc2C C_w9 (vC fun p=>p.v23q) (kC (0:Int)))))
noncomputable def aH7:Y_q9:=(ifC (upC (bnC ltLC (ag0 (bnC br0 (vC fun p=>p.v18q) (kC (1:Int))) (fun _=> .ok true) (bnC ixC (unC optC (pC fun p=>p.1)) (kC (1:Int)))) (ag0 (bnC br0 (vC fun p=>p.v17q) (kC (1:Int))) (fun _=> .ok true) (bnC ixC (unC optC (pC fun p=>p.1)) (kC (1:Int))))))
 (seqC aB0
 aA9)
 ag5)
noncomputable def aU5:Y_q9:=(retC (upC (andC (bnC (eqC false) (unC lenC (vC fun p=>p.v8q)) (kC (2:Int))) (andC (pc2C C_v9 (bnC ixC (vC fun p=>p.v8q) (kC (0:Int))) (vC fun p=>p.v17q)) (pc2C C_v9 (bnC ixC (vC fun p=>p.v8q) (kC (1:Int))) (vC fun p=>p.v18q))))))
noncomputable def bI6:Y_q9:=(seqC aV2
 (seqC aV1
 (seqC aV0
 (seqC aU9
 (seqC aB2
 (seqC aU7
 (seqC aU6
 (seqC aH7
 aU5))))))))
noncomputable def C_q9 (a_script:(List Int)):OutC S_q9 Bool:=runC none (bI6 ⟨a_script,none,none,none,none,none⟩)
theorem ct_q9:Cl.TJ bL5 D.bl cc5 bI6:=(aa9 (xs (aa6 (ab1 aL5 xk (ab1 aR7 (af4 (fun a0 a1=>cg9 a0 a1) xp xk) xk))))
 (aa9 (xs (aa6 (af4 (fun a0 a1=>cf_t9 a0 a1) (af4 (fun a0 a1=>cg9 a0 a1) xp xk) xv)))
 (aa9 (xs (aa6 (aN2 (fun a0=>cy8 a0) (af4 (fun a0 a1=>cf_s9 a0 a1) xv (af4 (fun a0 a1=>cg9 a0 a1) xp xk)))))
 (aa9 (ah3 (aa6 (at6 (ac2 (ba4 (e:=(eL (eL (eO (eL D.int))))) (n := "list") (b:=true) (fun _=>rfl) xv))))
 (ac0 (aa6 xk))
 ac8)
 (aa9 (ah3 (aa6 (ac2 (ab1 (av8 false) xv xk)))
 (ac0 (aa6 (ab1 (av8 false) (ae3 ah7 xv) xk)))
 ac8)
 (aa9 (xs (aa6 (af4 (fun a0 a1=>bI2 a0 a1) xv xk)))
 (aa9 (xs (aa6 (af4 (fun a0 a1=>bI2 a0 a1) xv xk)))
 (aa9 (ah3 (aa6 (ac2 (ab1 o_ltL (aj0 (ai2 (ab1 bO3 xv xk)) ar7 (ab1 ai0 (ah2 af3 xp) xk)) (aj0 (ai2 (ab1 bO3 xv xk)) ar7 (ab1 ai0 (ah2 af3 xp) xk)))))
 (aa9 (xs (aa6 (af4 (fun a0 a1=>bI2 a0 a1) xv xk)))
 (xs (aa6 (af4 (fun a0 a1=>bI2 a0 a1) xv xk))))
 ac8)
 (ac0 (aa6 (bq8 (ab1 (av8 false) (ae3 ah7 xv) xk) (bq8 (af4 (fun a0 a1=>cy2 a0 a1) (ab1 ai0 xv xk) xv) (af4 (fun a0 a1=>cy2 a0 a1) (ab1 ai0 xv xk) xv)))))))))))))
theorem cf_q9 (a_script:(List Int)):SimO bL5 D.bl (m_q9 [eS a_script]) (C_q9 a_script):=ak4 ct_q9 rfl
end
noncomputable def ap3 (ns:List Int) (k:Int):Int:=(ns[k.toNat]?).getD 0
theorem aQ7 (ns:List Int) (k:Int) (hk:0≤k):(C_r9 ns k).res= .ok (ap3 ns k):=by
 unfold C_r9 ch7 bt6 bt5 aA8 ap3
 by_cases h:k < ns.length
 · obtain ⟨v,e⟩:∃ v,ns[k.toNat]?=some v:=⟨_,List.getElem?_eq_getElem (by omega)⟩
   simp [h,aE4 ns hk,e]
 · have e:ns[k.toNat]?=none:=List.getElem?_eq_none (by omega)
   simp [h,e]
theorem an8 {α:Type}:∀ {l:List α} {j:Nat} (h:j < l.length),(l[j] :: l.eraseIdx j).Perm l
 | x :: l,0,h=>List.Perm.refl _
 | x :: l,j + 1,h=>by
   have ih:=an8 (l:=l) (j:=j) (by simpa using h)
   rw [List.eraseIdx_cons_succ,List.getElem_cons_succ]
   exact (List.Perm.swap x _ _).trans (ih.cons x)
structure RoadOk (sz:Int) (r:List Int):Prop where
 two:2≤r.length
 last:r.getLast?=some 0
 nd:r.Nodup
 all:∀ x∈r,0≤x∧x < sz
theorem cn7 {α:Type} {l:List α} {i:Int} (h0:0≤i) (h1:i < l.length) (h2:l.length≤20000):∃ (h:i.toNat < l.length),popC l i=some (l[i.toNat],l.eraseIdx i.toNat):=by
 have h:i.toNat < l.length:=by omega
 refine ⟨h,?_⟩
 unfold popC
 rw [if_pos ⟨h0,h1,by unfold aa7; omega⟩,List.getElem?_eq_getElem h]
 rfl
theorem by6 {α:Type} {l:List α} {x:α} (h:l.length < aa7):appC l x=some ((),l ++ [x]):=by unfold appC; rw [if_pos h]
theorem bc2 {α:Type} {l m:List α} (h:l.length + m.length≤aa7):catC l m= .ok (l ++ m):=by unfold catC; rw [if_pos h]
theorem al9:∀ (n:Nat) (l:List Int),l.Nodup→(∀ x∈l,0≤x∧x < n)→l.length≤n:=by
 intro n
 induction n with
 | zero =>
   intro l nd al
   cases l with
   | nil=>exact Nat.le_refl _
   | cons x l=>have:=al x List.mem_cons_self; omega
 | succ n ih =>
   intro l nd al
   have h2:=ih (l.erase n) (nd.erase _) fun x hx=>by
    have hm:=(nd.mem_erase_iff).mp hx
    have:=al x hm.2
    have hne:=hm.1
    omega
   rw [List.length_erase] at h2
   split at h2 <;> omega
theorem RoadOk.len {sz:Int} {r:List Int} (h:RoadOk sz r):(r.length:Int)≤sz:=by
 have:=al9 sz.toNat r h.nd fun x hx=>by have:=h.all x hx; omega
 obtain ⟨x,hx⟩:=List.exists_mem_of_ne_nil r (fun z=>by have:=h.two; rw [z] at this; simp at this)
 have:=h.all x hx
 omega
theorem be7 {α:Type} {l:List α} {a:α} (h:l.Nodup) (ha:a∉l):(l ++ [a]).Nodup :=
 List.nodup_append.mpr ⟨h,by simp,fun x hx y hy=>by rw [List.mem_singleton.mp hy]; rintro rfl; exact ha hx⟩
theorem bF2 (l:List Int) (m:Int):0≤ag4 l m↔0≤m∧∀ x∈l,0≤x:=by
 obtain ⟨h1,h2,h3⟩:=ap7 l m
 constructor
 · intro h
   exact ⟨by omega,fun x hx=>by have:=h3 x hx; omega⟩
 · rintro ⟨a,b⟩
   rcases h1 with z | z
   · omega
   · exact b _ z
theorem aJ8 (hs:List Int) (n:Int) (h:∀ x∈hs,0≤x∧x < n) (h0:0 < n):(bz2 hs n).res= .ok ():=by
 unfold bz2 bx0
 first | unfold bb8 | skip
 cases hs with
 | nil =>
   have q:¬ n≤0:=by omega
   simp [q]
 | cons a l =>
   have q1:0≤ag4 l a:=(bF2 l a).mpr ⟨(h a List.mem_cons_self).1,fun x hx=>(h x (List.mem_cons_of_mem _ hx)).1⟩
   have q2:an3 l a < n:=by
    obtain ⟨z | z,_⟩:=as6 l a
    · rw [z]; exact (h a List.mem_cons_self).2
    · exact (h _ (List.mem_cons_of_mem _ z)).2
   have q3:¬ ag4 l a < 0:=by omega
   have q4:¬ n≤an3 l a:=by omega
   simp [q3,q4]
theorem aK1 (g:GuildT) (hs:List Int) (h:∀ x∈hs,0≤x∧x < g.house_count) (h0:0 < g.house_count):(C_h9 g hs).res= .ok ():=by
 have e:=aJ8 hs g.house_count h h0
 unfold C_h9 ci6
 first | unfold bv0 | skip
 simp [e]
theorem in1 {a n:Int} (ha:0≤a∧a < n):∀ x∈[a],0≤x∧x < n:=fun x hx=>by rw [List.mem_singleton.mp hx]; exact ha
theorem in2 {a b n:Int} (ha:0≤a∧a < n) (hb:0≤b∧b < n):∀ x∈[a,b],0≤x∧x < n:=fun x hx=>by
 rcases List.mem_cons.mp hx with z | z
 · rw [z]; exact ha
 · rw [List.mem_singleton.mp z]; exact hb
theorem cl1 (g:GuildT) (a b:Int) (ha:0≤a∧a < g.house_count) (hb:0≤b∧b < g.house_count) (hne:a≠b):(C_j9 g a b).res= .ok ():=by
 have e:=aK1 g [a,b] (in2 ha hb) (by omega)
 unfold C_j9 ci4
 simp [bu5,bu4,e,hne,aa7]
theorem bj0 (g:GuildT) (a b:Int) (ha:0≤a∧a < g.house_count) (hb:0≤b∧b < g.house_count):(C_e9 g a b).res= .ok ((g.likings.get [a,b]).getD 0):=by
 have e:=aK1 g [a,b] (in2 ha hb) (by omega)
 unfold C_e9 ci9
 simp [bv4,bv3,e,aa7]
theorem bi9 (g:GuildT) (r:List Int) (hr:RoadOk g.house_count r) (h1:g.house_count≤1000):(C_i9 g r).res= .ok ():=by
 have ln:=hr.len
 have two:=hr.two
 have e:=aK1 g r hr.all (by omega)
 have e2:¬ (r.length:Int) < 2:=by omega
 have e4:r.length < 4000:=by omega
 have e3:=hr.last
 unfold C_i9 ci5
 simp [bu9,bu8,bu7,bu6,e,e2,e4,Cl.aI7,e3,bG9 hr.nd]
noncomputable def aK6 (L Q:DI Int) (r:List Int):Int:=(Q.get r).getD (match r with | a :: b :: _=>(L.get [a,b]).getD 0 | _=>0)
noncomputable def ai1 (L Q:DI Int) (r:List Int):Int×Int×List Int:=(0 - aK6 L Q r,(r.length:Int),r)
theorem at0 {α:Type} (a b:α) (t:List α):atI (a :: b :: t) 0=some a:=by rw [aE4 _ (by omega)]; rfl
theorem at1 {α:Type} (a b:α) (t:List α):atI (a :: b :: t) 1=some b:=by rw [aE4 _ (by omega)]; rfl
theorem bY3 (g:GuildT) (r:List Int) (hr:RoadOk g.house_count r) (h1:g.house_count≤1000):(C_g9 g r).res= .ok (aK6 g.likings g.wish_ranks r):=by
 have e:=bi9 g r hr h1
 obtain ⟨a,b,t,rfl⟩:∃ a b t,r=a :: b :: t:=by
  match r,hr.two with
  | a :: b :: t,_=>exact ⟨a,b,t,rfl⟩
 have ha:=hr.all a (by simp)
 have hb:=hr.all b (by simp)
 have hk:=bj0 g a b ha hb
 unfold C_g9 ci7 aK6
 cases q:g.wish_ranks.get (a :: b :: t) with
 | none=>simp [aW1,aW0,aV9,aq1,aV8,e,q,at0,at1,hk]
 | some v=>simp [aW1,aW0,aV9,aq1,aV8,e,q]
theorem cl4 (g:GuildT) (r:List Int) (hr:RoadOk g.house_count r) (h1:g.house_count≤1000):(bz0 g r).res= .ok (ai1 g.likings g.wish_ranks r):=by
 have e:=bY3 g r hr h1
 unfold bz0 bw5 ai1
 first | unfold ba9 | skip
 simp [e,Int.zero_sub]
theorem aQ6 (g:GuildT):(C_l9 g).res= .ok g.house_count:=by
 unfold C_l9 ci2
 first | unfold bu2 | skip
 simp
theorem bY0 (g:GuildT) (r:List Int) (v:Int) (hr:RoadOk g.house_count r) (h1:g.house_count≤1000) (hl:g.wish_ranks.length < aa7):C_m9 g r v= .ok () ⟨{ g with wish_ranks:=g.wish_ranks.put r v },r,v⟩:=by
 have e:=bi9 g r hr h1
 unfold C_m9 ci1
 simp [bu1,bu0,e,hl]
theorem bK1 (g:GuildT) (a b:Int) (ha:0≤a∧a < g.house_count) (hb:0≤b∧b < g.house_count) (hne:a≠b) (hw:g.ways.get [a,b]=none) (hl:g.ways.length + 1 < aa7):C_d9 g a b= .ok () ⟨{ g with ways:=(g.ways.put [a,b] true).put [b,a] true },a,b⟩:=by
 have e:=cl1 g a b ha hb hne
 have l1:g.ways.length < aa7:=by omega
 have l2:(g.ways.put [a,b] true).length < aa7:=Nat.lt_of_le_of_lt aR3 hl
 unfold C_d9 cj0
 simp [bv8,bv7,bv6,bv5,e,hw,l1,l2]
structure GuildIs (g:GuildT) (sz:Int) (ways:List (Int×Int)) (fond dear:DI Int) (shy:List (Int×Int)):Prop where
 count:g.house_count=sz
 way:∀ x y,(g.ways.get [x,y]).isSome=true↔(x,y)∈ways∨(y,x)∈ways
 lik:∀ k,g.likings.get k=fond.get k
 wsh:∀ k,g.wish_ranks.get k=dear.get k
 shn:∀ x y,(g.shuns.get [x,y]).isSome=true↔(x,y)∈shy
theorem aS7 {β:Type} {F:DI β} {k:List Int} (hk:k∉F.map (·.1)):F.get k=none:=by
 cases q:F.get k with
 | none=>rfl
 | some v=>exact absurd (List.mem_map.mpr ⟨(k,v),bG1 q,rfl⟩) hk
structure PathOk (sz:Int) (r:List Int):Prop where
 ne:r≠[]
 last:r.getLast?=some 0
 nd:r.Nodup
 all:∀ x∈r,0≤x∧x < sz
theorem PathOk.len {sz:Int} {r:List Int} (p:PathOk sz r):(r.length:Int)≤sz:=by
 have:=al9 sz.toNat r p.nd fun x hx=>by have:=p.all x hx; omega
 obtain ⟨x,hx⟩:=List.exists_mem_of_ne_nil r p.ne
 have:=p.all x hx
 omega
theorem PathOk.road {sz h:Int} {r:List Int} (p:PathOk sz r) (hh:0≤h∧h < sz) (hn:h∉r):RoadOk sz (h :: r):=by
 obtain ⟨q,t,rfl⟩:∃ q t,r=q :: t:=by
  cases r with
  | nil=>exact absurd rfl p.ne
  | cons q t=>exact ⟨q,t,rfl⟩
 refine ⟨by simp,?_,List.nodup_cons.mpr ⟨hn,p.nd⟩,fun x hx=>?_⟩
 · rw [List.getLast?_cons_cons]; exact p.last
 · rcases List.mem_cons.mp hx with z | z
   · rw [z]; exact hh
   · exact p.all x z
noncomputable def mayB (sh:Int→Bool) (h:Int) (r:List Int):Bool:=!decide (h∈r) && !r.any sh
noncomputable def aX2 (sh:Int→Bool) (h:Int) (o:Option (List Int)):Option (List Int):=match o with
 | none=>none
 | some r=>if mayB sh h r=true then some (h :: r) else none
noncomputable def aE7 (sh:Int→Bool) (h:Int) (told:List (Option (List Int))):List (List Int):=told.filterMap (aX2 sh h)
noncomputable def au2 (L Q:DI Int) (sh:Int→Bool) (h:Int) (told:List (Option (List Int))):Option (List Int):=if h=0 then some [0] else (minK ((aE7 sh h told).map (ai1 L Q))).map (·.2.2)
noncomputable def shG (g:GuildT) (h b:Int):Bool:=(g.shuns.get [h,b]).isSome
theorem aE5 {α:Type} (f:α→Bool):∀ l:List α,(l.map f).any id=l.any f
 | []=>rfl
 | a :: l=>by rw [List.map_cons,List.any_cons,List.any_cons,aE5 f l]; rfl
theorem bB7 (g:GuildT) (a:Int) (hs:List Int) (h:hs.length < aa7):(C_k9 g a hs).res= .ok (hs.any (shG g a)):=by
 have e:∀ s:S_k9,s=⟨g,a,hs⟩→ag0 (pC fun p=>p.v11q) (fun _=> .ok true) (bnC (dinC false) (unC aC7 (prC (pC fun p=>p.2.v0q) (pC fun p=>p.1))) (unC (fun g=> .ok g.shuns) (pC fun p=>p.2.v28q))) s= .ok (hs.map (shG g a)):=by
  rintro s rfl
  exact aj4 (l:=hs) (shG g a) rfl h fun b _=>by simp [shG]
 unfold C_k9 ci3 bu3
 simp only [retC,upC,unC]
 rw [e _ rfl]
 simp [aE5]
noncomputable def mayO (sh:Int→Bool) (h:Int) (o:Option (List Int)):Bool:=match o with
 | none=>false
 | some r=>decide (h≠0) && mayB sh h r
theorem cl2 (g:GuildT) (h:Int) (o:Option (List Int)) (hl:∀ r,o=some r→r.length < aa7):(C_y9 g h o).res= .ok (mayO (shG g h) h o):=by
 unfold C_y9 ch1 mayO
 cases o with
 | none=>simp [az9,aj1]
 | some r =>
   by_cases h0:h=0
   · simp [az9,aj1,h0]
   · by_cases hm:h∈r
     · simp [az9,aj1,h0,hm,mayB]
     · simp [az9,aj1,bs3,h0,hm,mayB,bB7 g h r (hl r rfl)]
theorem ax4 (h:Int) (ks:List (Int×Int×List Int)):(C_n9 h ks).res= .ok (if h=0 then some [0] else (minK ks).map (·.2.2)):=by
 unfold C_n9 ci0
 by_cases h0:h=0
 · simp [aH8,aB3,h0,aa7]
 · cases q:minK ks with
   | none=>simp [aH8,aV7,aV6,aq0,h0,q]
   | some k=>simp [aH8,aV7,aV6,aq0,bt9,h0,q]
theorem an5 (L Q:DI Int) (sh:Int→Bool) (h:Int):∀ told:List (Option (List Int)),((told.filter fun o=>match o with | none=>false | some r=>mayB sh h r).map fun o=>match o with | none=>ai1 L Q [] | some r=>ai1 L Q (h :: r))=(aE7 sh h told).map (ai1 L Q)
 | []=>rfl
 | none :: told=>by
   rw [show aE7 sh h (none :: told)=aE7 sh h told from rfl,← an5 L Q sh h told]
   rfl
 | some r :: told=>by
   have:=an5 L Q sh h told
   cases q:mayB sh h r with
   | false=>simpa [aE7,aX2,q] using this
   | true=>simpa [aE7,aX2,q] using this
theorem bj1 (g:GuildT) (h:Int) (told:List (Option (List Int))) (hh:0≤h∧h < g.house_count) (h1:g.house_count≤1000) (ht:∀ r,some r∈told→PathOk g.house_count r) (hl:told.length < aa7) :
 (C_o9 g h told).res= .ok (au2 g.likings g.wish_ranks (shG g h) h told):=by
 have e:∀ s:S_o9,s=⟨g,h,told,none⟩→ag0 (pC fun p=>p.v33q) (pc3C C_y9 (pC fun p=>p.2.v9q) (pC fun p=>p.2.v10q) (pC fun p=>p.1)) (pc2C bz0 (pC fun p=>p.2.v9q) (bnC catC (mkC (af9 (pC fun p=>p.2.v10q) (nilC:_→Res (List Int)))) (unC optC (pC fun p=>p.1)))) s
  = .ok ((told.filter (mayO (shG g h) h)).map fun o=>match o with | none=>ai1 g.likings g.wish_ranks [] | some r=>ai1 g.likings g.wish_ranks (h :: r)):=by
  rintro s rfl
  refine aW2 (l:=told) _ _ rfl hl (fun o ho=>?_) fun o ho hp=>?_
  · have:=cl2 g h o (fun r e=>by have:=(ht r (e ▸ ho)).len; unfold aa7; omega)
    simp [this]
  · cases o with
    | none=>cases hp
    | some r =>
      have hp:(decide (h≠0) && mayB (shG g h) h r)=true:=hp
      have p:=ht r ho
      have ln:=p.len
      have hn:h∉r:=by
       unfold mayB at hp
       simp at hp
       exact hp.2.1
      have st:=cl4 g (h :: r) (p.road hh hn) h1
      have ct:=bc2 (l:=[h]) (m:=r) (by simp only [List.length_cons,List.length_nil]; unfold aa7; omega)
      simp only [pc2C,pC,bnC,mkC,af9,nilC,unC,optC,Res.bind,List.length_cons,List.length_nil]
      rw [if_pos (by decide)]
      simp only [Res.bind,ct]
      exact st
 unfold C_o9 ch9
 simp only [seqC,bt8,setC,upC]
 rw [e _ rfl]
 unfold au2
 by_cases h0:h=0
 · have:=ax4 h ((told.filter (mayO (shG g h) h)).map fun o=>match o with | none=>ai1 g.likings g.wish_ranks [] | some r=>ai1 g.likings g.wish_ranks (h :: r))
   rw [if_pos h0] at this
   rw [if_pos h0]
   simp only [aV5,retC,upC,pc2C,pC,vC,bdS,Res.bind,this,runC,bK5]
 · have:=ax4 h ((told.filter (mayO (shG g h) h)).map fun o=>match o with | none=>ai1 g.likings g.wish_ranks [] | some r=>ai1 g.likings g.wish_ranks (h :: r))
   rw [if_neg h0] at this
   rw [if_neg h0]
   simp only [aV5,retC,upC,pc2C,pC,vC,bdS,Res.bind,this,runC,bK5]
   have q:mayO (shG g h) h=fun o=>match o with | none=>false | some r=>mayB (shG g h) h r:=by
    funext o
    cases o with
    | none=>rfl
    | some r=>simp [mayO,h0]
   rw [q,an5]
theorem bn6 {sh:Int→Bool} {h:Int} {p:List (Option (List Int))} {b:List Int} (hb:b∈aE7 sh h p):∃ r,some r∈p∧b=h :: r∧mayB sh h r=true:=by
 obtain ⟨o,ho,e⟩:=List.mem_filterMap.mp hb
 cases o with
 | none=>cases e
 | some r =>
   unfold aX2 at e
   dsimp only at e
   by_cases q:mayB sh h r=true
   · rw [if_pos q] at e; cases e; exact ⟨r,ho,rfl,q⟩
   · rw [if_neg q] at e; cases e
noncomputable def ab3 (sz:Int) (P:DI Bool) (a:Int):List Int:=(rngI 0 sz).filter fun b=>(P.get [a,b]).isSome
theorem bi7 (g:GuildT) (P:DI Bool) (a:Int) (h0:0≤g.house_count) (h1:g.house_count≤1000):(C_c9 g P a).res= .ok (ab3 g.house_count P a):=by
 have e:∀ s:S_c9,s=⟨g,P,a⟩→ag0 (unC (rngC 0) (unC (fun g=> .ok g.house_count) (pC fun p=>p.v28q))) (bnC (dinC false) (unC aC7 (prC (pC fun p=>p.2.v0q) (pC fun p=>p.1))) (pC fun p=>p.2.v20q)) (pC fun p=>p.1) s= .ok (ab3 g.house_count P a):=by
  rintro s rfl
  rw [aW2 (l:=rngI 0 g.house_count) (fun b=>(P.get [a,b]).isSome) (fun x=>x) (by simp [al3 (lo:=0) (hi:=g.house_count) (by omega) (by omega) (by omega) (by omega)]) (by rw [af0]; unfold aa7; omega) (fun b _=>by simp) (fun b _ _=>by simp)]
  simp [ab3]
 unfold C_c9 cj1 bv9
 simp only [retC,upC]
 rw [e _ rfl]
 rfl
theorem aq4 (g:GuildT) (a:Int) (ha:0≤a∧a < g.house_count) (h1:g.house_count≤1000):(C_f9 g a).res= .ok (ab3 g.house_count g.ways a):=by
 have e:=aK1 g [a] (in1 ha) (by omega)
 have e2:=bi7 g g.ways a (by omega) h1
 unfold C_f9 ci8
 simp [bv2,bv1,e,e2,aa7]
theorem aF4 (told:List (Option (List Int))) (n:Int) (h0:0 < n) (ht:∀ r,some r∈told→PathOk n r):(bJ5 told n).res= .ok ():=by
 obtain ⟨s',e,x,rfl⟩:=aH2 (u:=fun a s=>{ s with v24q:=some a }) (c:=ao5) (fun s:S_ba9=>∃ x,s=⟨told,n,x⟩) told ⟨told,n,none⟩ ⟨none,rfl⟩ (by
  rintro o s ho ⟨x,rfl⟩
  cases o with
  | none=>exact ⟨_,.inl (by simp [ao5]; rfl),_,rfl⟩
  | some r =>
    have:=aJ8 r n (ht r ho).all h0
    exact ⟨_,.inl (by simp [ao5,ap2,this]; rfl),_,rfl⟩)
 unfold bJ5 bx1 bb9
 simp [e]
noncomputable def az6 (T:List (Option (List Int))) (h:Int):Option (List Int):=T.getD h.toNat none
noncomputable def am7 (T:List (Option (List Int))) (bs:List Int):List (Option (List Int)):=bs.map (az6 T)
theorem at_T {T:List (Option (List Int))} {b:Int} (h0:0≤b) (h1:b < T.length):atI T b=some (az6 T b):=by
 rw [aE4 T h0,List.getElem?_eq_getElem (by omega)]
 unfold az6
 rw [List.getD_eq_getElem?_getD,List.getElem?_eq_getElem (by omega)]
 rfl
theorem bq5 {T:List (Option (List Int))} {b:Int} {r:List Int} (h:az6 T b=some r):some r∈T:=by
 unfold az6 at h
 rw [List.getD_eq_getElem?_getD] at h
 cases q:T[b.toNat]? with
 | none=>rw [q] at h; cases h
 | some o=>rw [q] at h; have h:o=some r:=h; subst h; exact List.mem_of_getElem? q
theorem bc7 {T:List (Option (List Int))} {bs:List Int} {r:List Int} (h:some r∈am7 T bs):some r∈T:=by
 obtain ⟨b,_,e⟩:=List.mem_map.mp h
 exact bq5 e
structure TableOk (sz:Int) (T:List (Option (List Int))):Prop where
 len:(T.length:Int)=sz
 all:∀ r,some r∈T→PathOk sz r
noncomputable def aH4 (best:Int→List (Option (List Int))→Option (List Int)) (ties:Int→List Int) (T:List (Option (List Int))):Option Int:=(rngI 0 T.length).find? fun h=>decide (best h (am7 T (ties h))≠az6 T h)
theorem aD3 {sz:Int} {P:DI Bool} {a b:Int} (h:b∈ab3 sz P a):0≤b∧b < sz:=am0.mp (List.mem_filter.mp h).1
theorem aD7 {sz:Int} {P:DI Bool} {a:Int} (h1:sz≤1000):(ab3 sz P a).length < aa7:=by
 have:=List.length_filter_le (fun b=>(P.get [a,b]).isSome) (rngI 0 sz)
 rw [af0] at this
 unfold aa7
 unfold ab3
 omega
theorem bh1 {σ:Type} {src:σ→Res (List Int)} {tab:σ→List (Option (List Int))} {s:σ} {bs:List Int} (hs:src s= .ok bs) (hb:∀ b∈bs,0≤b∧b < (tab s).length) (hl:bs.length < aa7) :
 ag0 src (fun _=> .ok true) (bnC ixC (pC fun p=>tab p.2) (pC fun p=>p.1)) s= .ok (am7 (tab s) bs) :=
 aj4 (l:=bs) (az6 (tab s)) hs hl fun b hb'=>by simp [at_T (hb b hb').1 (hb b hb').2]
theorem aJ9 (g:GuildT) (T:List (Option (List Int))) (hT:TableOk g.house_count T) (h0:0 < g.house_count) (h1:g.house_count≤1000) :
 (C_p9 g T).res= .ok (aH4 (fun h=>au2 g.likings g.wish_ranks (shG g h) h) (ab3 g.house_count g.ways) T):=by
 have er:=aF4 T g.house_count h0 hT.all
 have es:=aQ6 g
 have hlen:=hT.len
 obtain ⟨s',f1,f2⟩:=aM9 (u:=fun a s=>{ s with v10q:=some a }) (c:=bw2) (fun s:S_p9=>∃ x y,s=⟨g,T,x,y⟩) (fun h=>decide (au2 g.likings g.wish_ranks (shG g h) h (am7 T (ab3 g.house_count g.ways h))≠az6 T h)) (fun h=>some h) (rngI 0 T.length) ⟨g,T,none,none⟩ ⟨none,none,rfl⟩ (by
  rintro h s hh ⟨x,y,rfl⟩
  have hh':=am0.mp hh
  have en:=aq4 g h (by omega) h1
  have e1:an7 ⟨g,T,some h,y⟩= .nx ⟨g,T,some h,some (am7 T (ab3 g.house_count g.ways h))⟩:=by
   unfold an7 setC upC
   rw [bh1 (bs:=ab3 g.house_count g.ways h) (tab:=fun p:S_p9=>p.v31q) (by simp [en]) (fun b hb=>by have:=aD3 hb; show 0≤b∧b < (T.length:Int); omega) (aD7 h1)]
   rfl
  have ec:=bj1 g h (am7 T (ab3 g.house_count g.ways h)) (by omega) h1 (fun r hr=>hT.all r (bc7 hr)) (by unfold am7; rw [List.length_map]; exact aD7 h1)
  have ea:=at_T (T:=T) (b:=h) hh'.1 hh'.2
  refine ⟨⟨g,T,some h,some (am7 T (ab3 g.house_count g.ways h))⟩,fun hp=>?_,fun hp=>⟨.inl ?_,_,_,rfl⟩⟩
  · have hp:au2 g.likings g.wish_ranks (shG g h) h (am7 T (ab3 g.house_count g.ways h))≠az6 T h:=by simpa using hp
    show seqC an7 an6 ⟨g,T,some h,y⟩=_
    simp only [seqC,e1]
    simp [an6,am3,ec,ea,hp]
  · have hp:au2 g.likings g.wish_ranks (shG g h) h (am7 T (ab3 g.house_count g.ways h))=az6 T h:=by simpa using hp
    show seqC an7 an6 ⟨g,T,some h,y⟩=_
    simp only [seqC,e1]
    simp [an6,am3,ec,ea,hp])
 have e0:aV4 ⟨g,T,none,none⟩= .nx ⟨g,T,none,none⟩:=by simp [aV4,es,er]
 have rc:=al3 (lo:=0) (hi:=g.house_count) (by omega) (by omega) (by omega) (by omega)
 rw [← hlen] at rc
 have rc2:rngC 0 g.house_count= .ok (rngI 0 T.length):=by rw [← hlen]; exact rc
 unfold C_p9 ch8 aH4
 simp only [seqC,e0]
 cases q:(rngI 0 T.length).find? (fun h=>decide (au2 g.likings g.wish_ranks (shG g h) h (am7 T (ab3 g.house_count g.ways h))≠az6 T h)) with
 | some h =>
   have e:=f1 h q
   simp [aV3,es,rc2,e]
 | none =>
   obtain ⟨e,x,y,rfl⟩:=f2 q
   simp [aV3,bt7,es,rc2,e]
theorem bB6 (x:Int):(C_x9 x).res= .ok true:=by
 unfold C_x9 ch2 bs4
 simp
theorem GuildIs.lay {g:GuildT} {sz:Int} {W:List (Int×Int)} {L Q:DI Int} {shy:List (Int×Int)} (G:GuildIs g sz W L Q shy) (a b:Int):GuildIs { g with ways:=(g.ways.put [a,b] true).put [b,a] true } sz (W ++ [(min a b,max a b)]) L Q shy:=by
 refine ⟨G.count,fun x y=>?_,G.lik,G.wsh,G.shn⟩
 show (((g.ways.put [a,b] true).put [b,a] true).get [x,y]).isSome=true↔_
 rw [bq1,bq1,List.mem_append,List.mem_append,List.mem_singleton,List.mem_singleton]
 by_cases z1:[x,y]=[b,a]
 · rw [if_pos z1]; injection z1 with z1 z2; injection z2 with z2; subst z1 z2
   simp only [Option.isSome_some,true_iff]
   by_cases q:x≤y
   · exact .inl (.inr (by rw [show min y x=x by omega,show max y x=y by omega]))
   · exact .inr (.inr (by rw [show min y x=y by omega,show max y x=x by omega]))
 · rw [if_neg z1]
   by_cases z2:[x,y]=[a,b]
   · rw [if_pos z2]; injection z2 with z2 z3; injection z3 with z3; subst z2 z3
     simp only [Option.isSome_some,true_iff]
     by_cases q:x≤y
     · exact .inl (.inr (by rw [show min x y=x by omega,show max x y=y by omega]))
     · exact .inr (.inr (by rw [show min x y=y by omega,show max x y=x by omega]))
   · rw [if_neg z2,G.way]
     constructor
     · rintro (z | z)
       · exact .inl (.inl z)
       · exact .inr (.inl z)
     · have no:∀ u v:Int,(u,v)=(min a b,max a b)→[u,v]=[a,b]∨[u,v]=[b,a]:=fun u v e=>by
        injection e with e1 e2
        by_cases q:a≤b
        · exact .inl (by rw [e1,e2,show min a b=a by omega,show max a b=b by omega])
        · exact .inr (by rw [e1,e2,show min a b=b by omega,show max a b=a by omega])
       have sw:∀ {u v p q:Int},[u,v]=[p,q]→[v,u]=[q,p]:=fun e=>by injection e with e1 e2; injection e2 with e2; rw [e1,e2]
       rintro ((z | z) | (z | z))
       · exact .inl z
       · rcases no _ _ z with w | w
         · exact absurd w z2
         · exact absurd w z1
       · exact .inr z
       · rcases no _ _ z with w | w
         · exact absurd (sw w) z1
         · exact absurd (sw w) z2
noncomputable def am6 (ring:List Int) (k:Nat):Int:=ring.getD ((k + 1) % ring.length) 0
noncomputable def lay2 (W:DI Bool) (a b:Int):DI Bool:=(W.put [a,b] true).put [b,a] true
noncomputable def ak7 (ring:List Int) (W:DI Bool) (k:Nat):DI Bool :=
 if ((lay2 W (ring.getD k 0) 0).get [ring.getD k 0,am6 ring k]).isSome=true then lay2 W (ring.getD k 0) 0 else lay2 (lay2 W (ring.getD k 0) 0) (ring.getD k 0) (am6 ring k)
noncomputable def ak8 (ring:List Int):Nat→DI Bool
 | 0=>[]
 | k + 1=>ak7 ring (ak8 ring k) k
noncomputable def bQ3 (ring:List Int):Bool:=(List.range ring.length).all fun k=>((ak8 ring k).get [ring.getD k 0,0]).isNone
noncomputable def ap5 (n:Int) (W:DI Bool):Nat→List (List (Option Int))
 | 0=>[[none]]
 | k + 1=>(ap5 n W k).flatMap fun row=>(none :: (ab3 n W (k + 1)).map some).map fun e=>row ++ [e]
noncomputable def rdF (nh:List (Option Int)):Nat→List Int→Int→Option (List Int)
 | 0,_,_=>none
 | k + 1,g,x=>if x=0 then some g else match nh.getD x.toNat none with
   | none=>none
   | some y=>if y∈g then none else rdF nh k (g ++ [y]) y
noncomputable def tabF (nh:List (Option Int)):List (Option (List Int)):=(rngI 0 nh.length).map fun h=>rdF nh nh.length [h] h
noncomputable def nxt (o:Option (List Int)):Option Int:=match o with
 | some (_ :: y :: _)=>some y
 | _=>none
noncomputable def badF (n:Int) (W:DI Bool) (Q:DI Int) (T:List (Option (List Int))):Option Int:=aH4 (fun h=>au2 [] Q (fun _=>false) h) (ab3 n W) T
noncomputable def setF (n:Int) (W:DI Bool) (Q:DI Int):List (List (Option (List Int))):=((ap5 n W (n - 1).toNat).filter fun nh=>decide ((tabF nh).map nxt=nh) && (badF n W Q (tabF nh)).isNone).map tabF
noncomputable def ad6 (ring:List Int) (x:Nat→Int) (m:Nat):DI Int:=(List.range m).map fun k=>([ring.getD k 0,am6 ring k,0],x k)
noncomputable def bI4 (ring:List Int) (st:Int) (k:Nat):List Int:=if (k:Int) % 2=st then [ring.getD k 0,0] else [ring.getD k 0,am6 ring k,0]
noncomputable def aj8 (ring:List Int) (st:Int) (m:Nat):List (Option (List Int)):=(List.range m).foldl (fun T k=>T.set (ring.getD k 0).toNat (some (bI4 ring st k))) (some [0] :: List.replicate ring.length none)
noncomputable def nxs (T:List (Option (List Int))):List Int:=(T.drop 1).map fun o=>(nxt o).getD 0
noncomputable def all2 (T:List (Option (List Int))):Bool:=(T.drop 1).all fun o=>(nxt o).isSome
noncomputable def chk (ring:List Int):Bool:=bQ3 ring && all2 (aj8 ring 0 ring.length) && all2 (aj8 ring 1 ring.length) && (if ring.length=3 then decide (setF (1 + ring.length) (ak8 ring ring.length) (ad6 ring (fun _=>1) ring.length)=[])
 else decide (setF (1 + ring.length) (ak8 ring ring.length) (ad6 ring (fun _=>1) ring.length)=if HT.an4 (nxs (aj8 ring 1 ring.length)) (nxs (aj8 ring 0 ring.length))=true then [aj8 ring 1 ring.length,aj8 ring 0 ring.length] else [aj8 ring 0 ring.length,aj8 ring 1 ring.length]))
theorem chk2:∀ a∈[(1:Int),2],∀ b∈[(1:Int),2],[a,b].Nodup→chk [a,b]=true:=by decide +kernel
theorem chk3:∀ a∈[(1:Int),2,3],∀ b∈[(1:Int),2,3],∀ c∈[(1:Int),2,3],[a,b,c].Nodup→chk [a,b,c]=true:=by decide +kernel
theorem chk4:∀ a∈[(1:Int),2,3,4],∀ b∈[(1:Int),2,3,4],∀ c∈[(1:Int),2,3,4],∀ d∈[(1:Int),2,3,4],[a,b,c,d].Nodup→chk [a,b,c,d]=true:=by decide +kernel
structure RingOk (ring:List Int):Prop where
 nd:ring.Nodup
 all:∀ x∈ring,1≤x∧x≤ring.length
 two:2≤ring.length
 four:ring.length≤4
theorem bI1 {ring:List Int} (h:RingOk ring):chk ring=true:=by
 have h2:=h.two
 have h4:=h.four
 match ring,h,h2,h4 with
 | [a,b],h,_,_ =>
   have ha:=h.all a (by simp)
   have hb:=h.all b (by simp)
   refine chk2 a ?_ b ?_ h.nd
   · simp at ha ⊢; omega
   · simp at hb ⊢; omega
 | [a,b,c],h,_,_ =>
   have ha:=h.all a (by simp)
   have hb:=h.all b (by simp)
   have hc:=h.all c (by simp)
   refine chk3 a ?_ b ?_ c ?_ h.nd
   · simp at ha ⊢; omega
   · simp at hb ⊢; omega
   · simp at hc ⊢; omega
 | [a,b,c,d],h,_,_ =>
   have ha:=h.all a (by simp)
   have hb:=h.all b (by simp)
   have hc:=h.all c (by simp)
   have hd:=h.all d (by simp)
   refine chk4 a ?_ b ?_ c ?_ d ?_ h.nd
   · simp at ha ⊢; omega
   · simp at hb ⊢; omega
   · simp at hc ⊢; omega
   · simp at hd ⊢; omega
 | _ :: _ :: _ :: _ :: _ :: _,_,_,h4=>exact absurd h4 (by simp)
theorem bB8 (c m:Int) (h0:2≤m) (h1:m≤4):∃ ring,(C_t9 c m).res= .ok ring∧RingOk ring∧(ring.length:Int)=m:=by
 have hc:ag0 (bnC rngC (kC (1:Int)) (bnC addC (pC fun p=>p.v14q) (kC (1:Int)))) (fun _=> .ok true) (pC fun p=>p.1) (⟨c,m,none,none⟩:S_t9)= .ok (rngI 1 (m + 1)):=by
  rw [aj4 (l:=rngI 1 (m + 1)) (fun x=>x) (by simp [al3 (lo:=1) (hi:=m + 1) (by omega) (by omega) (by omega) (by omega)]) (by rw [af0]; unfold aa7; omega) (fun a _=>by simp)]
  simp
 have lenR:(rngI 1 (m + 1)).length=m.toNat:=by rw [af0]; omega
 have wh:=bg6 (t:=upC (bnC gtC (unC lenC (vC fun p=>p.v22q)) (kC (0:Int)))) (c:=aW5)
  (fun n (s:S_t9)=>∃ c' rest out,s=⟨c',m,some rest,some out⟩∧rest.length=n∧(out ++ rest).Perm (rngI 1 (m + 1)))
  (fun s=>∃ c' out,s=⟨c',m,some [],some out⟩∧out.Perm (rngI 1 (m + 1))) (by
    rintro n s ⟨c',rest,out,rfl,rfl,pm⟩
    have ln:out.length + rest.length=m.toNat:=by rw [← List.length_append,pm.length_eq,lenR]
    by_cases hm:0 < rest.length
    · generalize hcv:(c' * 48271 + 29) % 2147483647=cv
      have j0:0≤cv / 3 % (rest.length:Int):=Int.emod_nonneg _ (by omega)
      have j1:cv / 3 % (rest.length:Int) < rest.length:=Int.emod_lt_of_pos _ (by omega)
      obtain ⟨jl,hp⟩:=cn7 j0 j1 (by omega)
      have hz:(0:Int) < rest.length:=by omega
      generalize (cv / 3 % (rest.length:Int)).toNat=j at jl hp
      have ha:=by6 (l:=out) (x:=rest[j]) (by unfold aa7; omega)
      have e1:aA5 ⟨c',m,some rest,some out⟩= .nx ⟨cv,m,some rest,some out⟩:=by simp [aA5,hcv]
      refine .inr ⟨by simp [hm],(rest.eraseIdx j).length,⟨cv,m,some (rest.eraseIdx j),some (out ++ [rest[j]])⟩,by rw [List.length_eraseIdx,if_pos jl]; omega,.inl ?_,cv,rest.eraseIdx j,out ++ [rest[j]],rfl,rfl,?_⟩
      · unfold aW5 seqC
        rw [e1]
        simp [aN7,hm,hp,ha]
      · refine List.Perm.trans ?_ pm
        have:(rest[j] :: rest.eraseIdx j).Perm rest:=an8 jl
        simpa using (List.Perm.append_left out this)
    · have e0:rest=[]:=List.length_eq_zero_iff.mp (by omega)
      subst e0
      exact .inl ⟨by simp,c',out,rfl,by simpa using pm⟩)
 obtain ⟨s',e,c',out,rfl,pm⟩:=wh 100000 (rngI 1 (m + 1)).length ⟨c,m,some (rngI 1 (m + 1)),some []⟩ ⟨c,rngI 1 (m + 1),[],rfl,rfl,by simp⟩ (by rw [lenR]; omega)
 have le:(out.length:Int)=m:=by rw [pm.length_eq,lenR]; omega
 refine ⟨out,?_,⟨pm.nodup_iff.mpr (be8 1 (m + 1)),fun x hx=>?_,by omega,by omega⟩,le⟩
 · have e1:aU1 ⟨c,m,none,none⟩= .nx ⟨c,m,some (rngI 1 (m + 1)),none⟩:=by
    unfold aU1 setC upC
    rw [hc]; rfl
   have e2:aU0 ⟨c,m,some (rngI 1 (m + 1)),none⟩= .nx ⟨c,m,some (rngI 1 (m + 1)),some []⟩:=by simp [aU0,aa7]
   have e3:bt3 ⟨c,m,some (rngI 1 (m + 1)),some []⟩=_:=e
   unfold C_t9 ch5
   simp only [seqC,e1,e2,e3]
   simp [bt2]
 · have:=am0.mp (pm.mem_iff.mp hx)
   omega
theorem cl3 (g:GuildT) (a b:Int) (ha:0≤a∧a < g.house_count) (hb:0≤b∧b < g.house_count):(C_b9 g a b).res= .ok (g.ways.get [a,b]).isSome:=by
 have e:=aK1 g [a,b] (in2 ha hb) (by omega)
 unfold C_b9 cj2
 simp [bw1,bw0,e,aa7]
theorem aI6 {ring:List Int} {i:Int} (h0:0≤i) (h1:i < ring.length):atI ring i=some (ring.getD i.toNat 0):=by
 rw [aE4 ring h0,List.getD_eq_getElem?_getD,List.getElem?_eq_getElem (by omega)]
 rfl
theorem aH0 {ring:List Int} {k:Nat} (h:k < ring.length):ring.getD k 0∈ring:=by
 rw [List.getD_eq_getElem?_getD,List.getElem?_eq_getElem h]
 exact List.getElem_mem h
theorem aH1 {ring:List Int} (nd:ring.Nodup) {i j:Nat} (hi:i < ring.length) (hj:j < ring.length) (h:ring.getD i 0=ring.getD j 0):i=j:=by
 rw [List.getD_eq_getElem?_getD,List.getD_eq_getElem?_getD,List.getElem?_eq_getElem hi,List.getElem?_eq_getElem hj] at h
 exact (List.getElem_inj nd).mp h
theorem aG5 (W:DI Bool) (a b:Int):(lay2 W a b).length≤W.length + 2:=by
 have h1:=aR3 (F:=W) (k:=[a,b]) (v:=true)
 have h2:=aR3 (F:=W.put [a,b] true) (k:=[b,a]) (v:=true)
 unfold lay2
 omega
theorem bg7 (ring:List Int):∀ k,(ak8 ring k).length≤4 * k
 | 0=>by simp [ak8]
 | k + 1=>by
   have ih:=bg7 ring k
   have h1:=aG5 (ak8 ring k) (ring.getD k 0) 0
   have h2:=aG5 (lay2 (ak8 ring k) (ring.getD k 0) 0) (ring.getD k 0) (am6 ring k)
   show (ak7 ring (ak8 ring k) k).length≤_
   unfold ak7
   split <;> omega
theorem bg5 (ring:List Int) (nd:ring.Nodup) (x:Nat→Int) {k:Nat} (hk:k < ring.length):(ad6 ring x k).put [ring.getD k 0,am6 ring k,0] (x k)=ad6 ring x (k + 1):=by
 have hn:(ad6 ring x k).get [ring.getD k 0,am6 ring k,0]=none:=by
  refine aS7 fun hm=>?_
  obtain ⟨p,hp,e⟩:=List.mem_map.mp hm
  obtain ⟨j,hj,rfl⟩:=List.mem_map.mp hp
  have hj:=List.mem_range.mp hj
  have e:[ring.getD j 0,am6 ring j,0]=[ring.getD k 0,am6 ring k,0]:=e
  injection e with e1 _
  have:=aH1 nd (by omega) hk e1
  omega
 unfold DI.put
 rw [hn,if_neg (by simp)]
 unfold ad6
 rw [List.range_succ,List.map_append]
 rfl
theorem bk3 {ring:List Int} {c M k A Fr:Int} {m:Option Int} {g g':GuildT} (hM:powC 10 30= .ok M) (hM0:0 < M) (ea:atI ring k=some A) (nm:-18446744073709551616 < k∧k < 18446744073709551616)
 (y:C_m9 g [A,Fr,0] (1 + (c + k * k) % M)= .ok () ⟨g',[A,Fr,0],1 + (c + k * k) % M⟩):as0 ⟨ring,c,m,some g,some k,some Fr⟩= .nx ⟨ring,c,m,some g',some k,some Fr⟩:=by
 simp [as0,ea,aa7,nm,y,hM,hM0,-powC]
theorem bk4 {ring:List Int} (h:RingOk ring) (hw:bQ3 ring=true) (c M:Int) (hM:powC 10 30= .ok M) (hM0:0 < M) (x:Nat→Int) (hx:(fun k:Nat=>1 + (c + (k:Int) * k) % M)=x) {n:Nat} (kl:n < ring.length) (ff:Option Int) :
 aI4 ⟨ring,c,some (ring.length:Int),some ⟨1 + ring.length,ak8 ring n,[],[],ad6 ring x n⟩,some (n:Int),ff⟩= .nx ⟨ring,c,some (ring.length:Int),some ⟨1 + ring.length,ak8 ring (n + 1),[],[],ad6 ring x (n + 1)⟩,some (n:Int),some (am6 ring n)⟩:=by
 have h2:=h.two
 have h4:=h.four
 have nf:(n + 1) % ring.length < ring.length:=Nat.mod_lt _ (by omega)
 have em:((n:Int) + 1) % (ring.length:Int)=(((n + 1) % ring.length:Nat):Int):=by simp
 have ef:atI ring (((n:Int) + 1) % (ring.length:Int))=some (am6 ring n):=by rw [em,aI6 (by omega) (by omega)]; rfl
 have ea:atI ring (n:Int)=some (ring.getD n 0):=by rw [aI6 (by omega) (by omega)]; rfl
 have ra:=h.all _ (aH0 kl)
 have rf:=h.all (am6 ring n) (aH0 nf)
 have hne:ring.getD n 0≠am6 ring n:=fun z=>by
  have:=aH1 h.nd kl nf z
  rcases Nat.lt_or_ge (n + 1) ring.length with q | q
  · rw [Nat.mod_eq_of_lt q] at this; omega
  · have e0:(n + 1) % ring.length=0:=by rw [show n + 1=ring.length by omega,Nat.mod_self]
    omega
 have g0:(ak8 ring n).get [ring.getD n 0,0]=none:=by
  have:=List.all_eq_true.mp hw n (List.mem_range.mpr kl)
  simpa using this
 have wl:=bg7 ring n
 generalize hW:ak8 ring n=W at g0 wl
 generalize hA:ring.getD n 0=A at ea ra hne g0
 generalize hF:am6 ring n=Fr at ef rf hne
 have hm0:0 < ring.length:=by omega
 have l1:=aG5 W A 0
 have s1:aA7 ⟨ring,c,some (ring.length:Int),some ⟨1 + ring.length,W,[],[],ad6 ring x n⟩,some (n:Int),ff⟩= .nx ⟨ring,c,some (ring.length:Int),some ⟨1 + ring.length,W,[],[],ad6 ring x n⟩,some (n:Int),some Fr⟩:=by simp [aA7,hm0,ef]
 have y1:=bK1 ⟨1 + ring.length,W,[],[],ad6 ring x n⟩ A 0 (by show 0≤A∧A < 1 + _; omega) (by show (0:Int)≤0∧0 < 1 + _; omega) (by omega) g0 (by show W.length + 1 < _; unfold aa7; omega)
 have s2:aA6 ⟨ring,c,some (ring.length:Int),some ⟨1 + ring.length,W,[],[],ad6 ring x n⟩,some (n:Int),some Fr⟩= .nx ⟨ring,c,some (ring.length:Int),some ⟨1 + ring.length,lay2 W A 0,[],[],ad6 ring x n⟩,some (n:Int),some Fr⟩:=by simp [aA6,ea,y1,lay2]
 have y2:=cl3 ⟨1 + ring.length,lay2 W A 0,[],[],ad6 ring x n⟩ A Fr (by show 0≤A∧A < 1 + _; omega) (by show 0≤Fr∧Fr < 1 + _; omega)
 have s3:as3 ⟨ring,c,some (ring.length:Int),some ⟨1 + ring.length,lay2 W A 0,[],[],ad6 ring x n⟩,some (n:Int),some Fr⟩= .nx ⟨ring,c,some (ring.length:Int),some ⟨1 + ring.length,ak7 ring W n,[],[],ad6 ring x n⟩,some (n:Int),some Fr⟩:=by
  unfold ak7
  rw [hA,hF]
  by_cases q:((lay2 W A 0).get [A,Fr]).isSome=true
  · rw [if_pos q]
    simp [as3,ea,y2,q]
  · rw [if_neg q]
    have q':(lay2 W A 0).get [A,Fr]=none:=by
     cases z:(lay2 W A 0).get [A,Fr] with
     | none=>rfl
     | some v=>rw [z] at q; exact absurd rfl q
    have y3:=bK1 ⟨1 + ring.length,lay2 W A 0,[],[],ad6 ring x n⟩ A Fr (by show 0≤A∧A < 1 + _; omega) (by show 0≤Fr∧Fr < 1 + _; omega) hne q' (by show (lay2 W A 0).length + 1 < _; unfold aa7; omega)
    have q2:((lay2 W A 0).get [A,Fr]).isSome=false:=by rw [q']; rfl
    simp [as3,as2,ea,y2,q2,y3]
    rfl
 have ew:=bg5 ring h.nd x kl
 rw [hA,hF] at ew
 have wlen:(ad6 ring x n).length=n:=by unfold ad6; simp
 have y4:=bY0 ⟨1 + ring.length,ak7 ring W n,[],[],ad6 ring x n⟩ [A,Fr,0] (x n) ⟨by simp,rfl,by simp; omega,fun z hz=>by
  show 0≤z∧z < 1 + (ring.length:Int)
  simp at hz
  omega⟩ (by show 1 + (ring.length:Int)≤1000; omega) (by show (ad6 ring x n).length < _; rw [wlen]; unfold aa7; omega)
 have xn:1 + (c + (n:Int) * n) % M=x n:=by rw [← hx]
 have nm:-18446744073709551616 < (n:Int)∧(n:Int) < 18446744073709551616:=by omega
 have s4:as0 ⟨ring,c,some (ring.length:Int),some ⟨1 + ring.length,ak7 ring W n,[],[],ad6 ring x n⟩,some (n:Int),some Fr⟩= .nx ⟨ring,c,some (ring.length:Int),some ⟨1 + ring.length,ak7 ring W n,[],[],ad6 ring x (n + 1)⟩,some (n:Int),some Fr⟩:=by
  rw [← xn] at y4 ew
  rw [← ew]
  exact bk3 hM hM0 ea nm y4
 have hs:ak8 ring (n + 1)=ak7 ring W n:=by rw [← hW]; rfl
 rw [hs]
 unfold aI4 seqC
 rw [s1]; dsimp only
 rw [s2]; dsimp only
 rw [s3]; dsimp only
 exact s4
theorem be0 {ring:List Int} (h:RingOk ring) (hw:bQ3 ring=true) (c:Int):∃ x:Nat→Int,(∀ k,0 < x k)∧(C_s9 ring c).res= .ok ⟨1 + ring.length,ak8 ring ring.length,[],[],ad6 ring x ring.length⟩:=by
 have h2:=h.two
 have h4:=h.four
 obtain ⟨M,hM0,hM⟩:∃ M:Int,0 < M∧powC 10 30= .ok M:=⟨10 ^ 30,Int.pow_pos (by decide),by unfold powC; rw [if_pos (by decide)]; rfl⟩
 refine ⟨fun k=>1 + (c + (k:Int) * k) % M,fun k=>?_,?_⟩
 · have:=Int.emod_nonneg (c + (k:Int) * k) (show M≠0 by omega)
   show (0:Int) < 1 + _
   omega
 generalize hx:(fun k:Nat=>1 + (c + (k:Int) * k) % M)=x
 have hlR:=af0 0 (ring.length:Int)
 obtain ⟨s',e,kk,ff,rfl⟩:=ar5 (u:=fun a s=>{ s with v12q:=some a }) (c:=aI4) (fun p (s:S_s9)=>∃ kk ff,s=⟨ring,c,some (ring.length:Int),some ⟨1 + ring.length,ak8 ring p.length,[],[],ad6 ring x p.length⟩,kk,ff⟩)
  (rngI 0 ring.length) ⟨ring,c,some (ring.length:Int),some ⟨1 + ring.length,[],[],[],[]⟩,none,none⟩ ⟨none,none,rfl⟩ (by
    rintro p k r s he ⟨kk,ff,rfl⟩
    obtain ⟨ke,k0,k1⟩:=aR1 he
    have ke:k=(p.length:Int):=by omega
    subst ke
    exact ⟨_,.inl (bk4 h hw c M hM hM0 x hx (by omega) ff),_,_,by rw [List.length_append,List.length_singleton]⟩)
 have em:(rngI 0 (ring.length:Int)).length=ring.length:=by omega
 rw [em] at e
 have hm:mk_Guild (1 + (ring.length:Int))= .ok ⟨1 + ring.length,[],[],[],[]⟩:=by unfold mk_Guild; rw [if_pos (by omega)]
 have e1:aU4 ⟨ring,c,none,none,none,none⟩= .nx ⟨ring,c,some (ring.length:Int),none,none,none⟩:=by simp [aU4]
 have e2:aU3 ⟨ring,c,some (ring.length:Int),none,none,none⟩= .nx ⟨ring,c,some (ring.length:Int),some ⟨1 + ring.length,[],[],[],[]⟩,none,none⟩:=by simp [aU3,hm]
 have e3:aU2 ⟨ring,c,some (ring.length:Int),some ⟨1 + ring.length,[],[],[],[]⟩,none,none⟩= .nx ⟨ring,c,some (ring.length:Int),some ⟨1 + ring.length,ak8 ring ring.length,[],[],ad6 ring x ring.length⟩,kk,ff⟩:=by
  unfold aU2
  rw [← e]
  simp [al3 (lo:=0) (hi:=(ring.length:Int)) (by omega) (by omega) (by omega) (by omega)]
 unfold C_s9 ch6
 simp only [seqC,e1,e2,e3]
 simp [bt4]
theorem aH3 {α β:Type} (f:α→List β) (n:Nat):∀ l:List α,(∀ a∈l,(f a).length≤n)→(l.flatMap f).length≤l.length * n
 | [],_=>by simp
 | a :: l,h=>by
   rw [List.flatMap_cons,List.length_append,List.length_cons,Nat.add_mul,Nat.one_mul]
   have:=aH3 f n l fun b hb=>h b (List.mem_cons_of_mem _ hb)
   have:=h a List.mem_cons_self
   omega
theorem bY4 (rows:List (List (Option Int))) (ends:List (Option Int)) (h1:rows.length * ends.length≤5000) (h2:ends.length≤10) (h3:∀ r∈rows,r.length≤10):(bJ4 rows ends).res= .ok (rows.flatMap fun row=>ends.map fun e=>row ++ [e]):=by
 obtain ⟨s',e,x,rfl⟩:=ar5 (u:=fun a s=>{ s with v25q:=some a }) (c:=at8) (fun p (s:S_be9)=>∃ x,s=⟨rows,ends,some (p.flatMap fun row=>ends.map fun e=>row ++ [e]),x⟩) rows ⟨rows,ends,some [],none⟩ ⟨none,rfl⟩ (by
  rintro p row r s he ⟨x,rfl⟩
  have hr:row.length≤10:=h3 row (by rw [he]; simp)
  have hc:ag0 (pC fun p=>p.v6q) (fun _=> .ok true) (bnC catC (vC fun p=>p.2.v25q) (mkC (af9 (pC fun p=>p.1) (nilC:_→Res (List (Option Int)))))) (⟨rows,ends,some (p.flatMap fun row=>ends.map fun e=>row ++ [e]),some row⟩:S_be9)= .ok (ends.map fun e=>row ++ [e]) :=
   aj4 (src:=pC fun p:S_be9=>p.v6q) (te:=bnC catC (vC fun p:Option Int×S_be9=>p.2.v25q) (mkC (af9 (pC fun p=>p.1) (nilC:_→Res (List (Option Int)))))) (l:=ends) (fun e=>row ++ [e]) (by simp) (by unfold aa7; omega) (fun o _=>by
    have hcat:=bc2 (l:=row) (m:=[o]) (by simp only [List.length_singleton]; unfold aa7; omega)
    simp [aa7,hcat,-catC])
  have hp:p.length + 1≤rows.length:=by rw [he]; simp
  have hl:=aH3 (fun row:List (Option Int)=>ends.map fun e=>row ++ [e]) ends.length p fun a _=>by simp
  have hm:(p.length + 1) * ends.length≤rows.length * ends.length:=Nat.mul_le_mul_right _ hp
  rw [Nat.add_mul,Nat.one_mul] at hm
  have hx:extC (p.flatMap fun row=>ends.map fun e=>row ++ [e]) (ends.map fun e=>row ++ [e])=some ((),(p.flatMap fun row=>ends.map fun e=>row ++ [e]) ++ ends.map fun e=>row ++ [e]):=by
   unfold extC
   rw [if_pos (by rw [List.length_map]; unfold aa7; omega)]
  refine ⟨⟨rows,ends,some ((p ++ [row]).flatMap fun row=>ends.map fun e=>row ++ [e]),some row⟩,.inl ?_,some row,rfl⟩
  rw [List.flatMap_append,List.flatMap_singleton]
  unfold at8
  simp only [ak6,l1C,hc]
  simp [hx])
 unfold bJ4 bw7 bb3 bb2 bb1
 simp [aa7,e]
theorem aF7 (n:Int) (W:DI Bool) (hn:n≤5):∀ k:Nat,(ap5 n W k).length≤6 ^ k∧∀ r∈ap5 n W k,r.length=k + 1∧∀ y,some y∈r→0≤y∧y < n
 | 0=>⟨by simp [ap5],fun r hr=>by
   rw [List.mem_singleton.mp hr]
   exact ⟨rfl,fun y hy=>by simp at hy⟩⟩
 | k + 1=>by
   obtain ⟨h1,h2⟩:=aF7 n W hn k
   have hp:(ab3 n W ((k:Int) + 1)).length≤5:=by
    unfold ab3
    have:=List.length_filter_le (fun b=>(W.get [(k:Int) + 1,b]).isSome) (rngI 0 n)
    rw [af0] at this
    omega
   constructor
   · have:=aH3 (fun row:List (Option Int)=>(none :: (ab3 n W ((k:Int) + 1)).map some).map fun e=>row ++ [e]) 6 (ap5 n W k) fun a _=>by simp; omega
     have hm:=Nat.mul_le_mul_right 6 h1
     rw [Nat.pow_succ]
     exact Nat.le_trans this hm
   · intro r hr
     obtain ⟨row,hrow,hr⟩:=List.mem_flatMap.mp hr
     obtain ⟨o,ho,rfl⟩:=List.mem_map.mp hr
     obtain ⟨q1,q2⟩:=h2 row hrow
     refine ⟨by rw [List.length_append,q1]; rfl,fun y hy=>?_⟩
     rcases List.mem_append.mp hy with z | z
     · exact q2 y z
     · have z:=List.mem_singleton.mp z
       subst z
       rcases List.mem_cons.mp ho with z | z
       · cases z
       · obtain ⟨b,hb,e⟩:=List.mem_map.mp z
         cases e
         exact aD3 hb
theorem bY2 (g:GuildT) (h0:1≤g.house_count) (h1:g.house_count≤5):(bz1 g).res= .ok (ap5 g.house_count g.ways (g.house_count - 1).toNat):=by
 have es:=aQ6 g
 obtain ⟨s',e,x,rfl⟩:=ar5 (u:=fun a s=>{ s with v10q:=some a }) (c:=at9) (fun p (s:S_bd9)=>∃ x,s=⟨g,some (ap5 g.house_count g.ways p.length),x⟩) (rngI 1 g.house_count) ⟨g,some [[none]],none⟩ ⟨none,rfl⟩ (by
  rintro p k r s he ⟨x,rfl⟩
  obtain ⟨ke,k0,k1⟩:=aR1 he
  have en:=aq4 g k (by omega) (by omega)
  obtain ⟨l1,l2⟩:=aF7 g.house_count g.ways h1 p.length
  have hk:p.length≤3:=by omega
  have l3:(6:Nat) ^ p.length≤6 ^ 3:=Nat.pow_le_pow_right (by decide) hk
  have hp:(ab3 g.house_count g.ways k).length≤5:=by
   unfold ab3
   have:=List.length_filter_le (fun b=>(g.ways.get [k,b]).isSome) (rngI 0 g.house_count)
   rw [af0] at this
   omega
  have hcat:=bc2 (l:=[(none:Option Int)]) (m:=(ab3 g.house_count g.ways k).map some) (by simp only [List.length_singleton,List.length_map]; unfold aa7; omega)
  have ee:=bY4 (ap5 g.house_count g.ways p.length) (none :: (ab3 g.house_count g.ways k).map some) (by
   have:(ap5 g.house_count g.ways p.length).length * (none :: (ab3 g.house_count g.ways k).map some).length≤216 * 6:=Nat.mul_le_mul (by omega) (by simp; omega)
   omega) (by simp; omega) (fun r hr=>by have:=(l2 r hr).1; omega)
  have kk:k=(p.length:Int) + 1:=by omega
  refine ⟨⟨g,some (ap5 g.house_count g.ways (p ++ [k]).length),some k⟩,.inl ?_,some k,rfl⟩
  have er:ap5 g.house_count g.ways (p ++ [k]).length=(ap5 g.house_count g.ways p.length).flatMap fun row=>(none :: (ab3 g.house_count g.ways k).map some).map fun e=>row ++ [e]:=by
   rw [List.length_append,List.length_singleton,kk]
   rfl
  rw [er]
  have hcat':catC [(none:Option Int)] ((ab3 g.house_count g.ways k).map some)= .ok (none :: (ab3 g.house_count g.ways k).map some):=hcat
  simp [at9,en,aa7,hcat',ee,-catC])
 have hl:=af0 1 g.house_count
 rw [hl] at e
 unfold bz1 bw8 bb6 bb5 bb4
 simp [aa7,es,al3 (lo:=1) (hi:=g.house_count) (by omega) (by omega) (by omega) (by omega),e]
noncomputable abbrev tR:S_bc9→OutC S_bc9 Bool:=upC (bnC (eqC true) (bnC ixC (vC fun p=>p.v24q) (unC negC (kC (1:Int)))) (kC (0:Int)))
theorem aS3 (g:List Int) (x:Int):atI (g ++ [x]) (-1)=some x:=L2.aI7 g x
theorem at_nh {nh:List (Option Int)} {x:Int} (h0:0≤x) (h1:x < nh.length):atI nh x=some (nh.getD x.toNat none):=by
 rw [aE4 nh h0,List.getD_eq_getElem?_getD,List.getElem?_eq_getElem (by omega)]
 rfl
theorem cr3 {nh:List (Option Int)} {x y:Int} (h:nh.getD x.toNat none=some y):some y∈nh:=by
 rw [List.getD_eq_getElem?_getD] at h
 cases q:nh[x.toNat]? with
 | none=>rw [q] at h; cases h
 | some o=>rw [q] at h; have h:o=some y:=h; subst h; exact List.mem_of_getElem? q
theorem cb4 {n x b:Int} {g:List Int} (nd:(g ++ [x]).Nodup) (al:∀ y∈g ++ [x],0≤y∧y < n) (hb:b∉g ++ [x]) (h0:0≤b) (h1:b < n):(g ++ [x] ++ [b]).Nodup∧∀ y∈g ++ [x] ++ [b],0≤y∧y < n :=
 ⟨be7 nd hb,fun y hy=>by
  rcases List.mem_append.mp hy with z | z
  · exact al y z
  · rw [List.mem_singleton.mp z]; exact ⟨h0,h1⟩⟩
theorem bZ7 {n:Int} {nh:List (Option Int)} (hl0:(nh.length:Int)=n) (hr:∀ y,some y∈nh→0≤y∧y < n) (hn:n≤1000) (h:Int):∀ (k:Nat) (g:List Int) (x:Int) (o:Option (Option Int)) (F:Nat),(g ++ [x]).Nodup→(∀ y∈g ++ [x],0≤y∧y < n)→n.toNat + 1≤k + (g ++ [x]).length→k < F →
 (∃ s',seqC (whC tR ai6 F) aw8 ⟨nh,h,some (g ++ [x]),o⟩= .rt (rdF nh k (g ++ [x]) x) s')∧∀ r,rdF nh k (g ++ [x]) x=some r→PathOk n r:=by
 intro k
 induction k with
 | zero =>
   intro g x o F nd al hl hF
   have:=al9 n.toNat _ nd fun y hy=>by have:=al y hy; omega
   omega
 | succ k ih =>
   intro g x o F nd al hl hF
   obtain ⟨F,rfl⟩:∃ F',F=F' + 1:=⟨F - 1,by omega⟩
   have hxr:=al x (by simp)
   have hlen:=al9 n.toNat _ nd fun y hy=>by have:=al y hy; omega
   unfold rdF
   by_cases hx:x=0
   · subst hx
     rw [if_pos rfl]
     have e:whC tR ai6 (F + 1) ⟨nh,h,some (g ++ [0]),o⟩= .nx ⟨nh,h,some (g ++ [0]),o⟩:=by
      unfold whC
      simp [tR,aS3]
     refine ⟨⟨⟨nh,h,none,o⟩,by simp [e,aw8]⟩,fun r hr=>?_⟩
     cases hr
     exact ⟨by simp,List.getLast?_concat ..,nd,al⟩
   · have et:tR ⟨nh,h,some (g ++ [x]),o⟩= .ok true ⟨nh,h,some (g ++ [x]),o⟩:=by simp [tR,aS3,hx]
     have ea:au0 ⟨nh,h,some (g ++ [x]),o⟩= .nx ⟨nh,h,some (g ++ [x]),some (nh.getD x.toNat none)⟩:=by
      simp [au0,aS3,at_nh (nh:=nh) hxr.1 (by omega)]
     rw [if_neg hx]
     cases en:nh.getD x.toNat none with
     | none =>
       refine ⟨⟨⟨nh,h,some (g ++ [x]),some none⟩,?_⟩,fun r hr=>(nomatch hr)⟩
       have eb:ai6 ⟨nh,h,some (g ++ [x]),o⟩= .rt none ⟨nh,h,some (g ++ [x]),some none⟩:=by
        unfold ai6 seqC
        rw [ea,en]
        simp [ao4,aj7]
       unfold seqC whC
       rw [et]
       dsimp only
       rw [eb]
     | some b =>
       obtain ⟨b0,b1⟩:=hr b (cr3 en)
       dsimp only
       by_cases hb:b∈g ++ [x]
       · rw [if_pos hb]
         refine ⟨⟨⟨nh,h,some (g ++ [x]),some (some b)⟩,?_⟩,fun r hr=>(nomatch hr)⟩
         have eb:ai6 ⟨nh,h,some (g ++ [x]),o⟩= .rt none ⟨nh,h,some (g ++ [x]),some (some b)⟩:=by
          unfold ai6 seqC
          rw [ea,en]
          have hb':b∈g∨b=x:=by simpa using hb
          simp [ao4,aj7,hb']
         unfold seqC whC
         rw [et]
         dsimp only
         rw [eb]
       · rw [if_neg hb]
         obtain ⟨nd2,al2⟩:=cb4 nd al hb b0 b1
         obtain ⟨⟨s',e'⟩,hp⟩:=ih (g ++ [x]) b (some (some b)) F nd2 al2 (by rw [List.length_append (as:=g ++ [x]),List.length_singleton]; omega) (by omega)
         refine ⟨⟨s',?_⟩,hp⟩
         have hz:appC (g ++ [x]) b=some ((),g ++ [x] ++ [b]):=by6 (by unfold aa7; omega)
         have hb':¬ (b∈g∨b=x):=fun z=>hb (by rcases z with z | z; exact List.mem_append_left _ z; simp [z])
         have eb:ai6 ⟨nh,h,some (g ++ [x]),o⟩= .nx ⟨nh,h,some (g ++ [x] ++ [b]),some (some b)⟩:=by
          unfold ai6 seqC
          rw [ea,en]
          simp [ao4,aE2,hb',hz,-List.append_assoc]
         rw [← e']
         unfold seqC
         rw [whC,et]
         dsimp only
         rw [eb]
theorem aK0 {n h:Int} {nh:List (Option Int)} (hl:(nh.length:Int)=n) (hr:∀ y,some y∈nh→0≤y∧y < n) (hn:n≤1000) (h0:0≤h) (h1:h < n):(bg4 nh h).res= .ok (rdF nh nh.length [h] h)∧∀ r,rdF nh nh.length [h] h=some r→PathOk n r:=by
 have en:n.toNat=nh.length:=by omega
 obtain ⟨⟨s',e⟩,hp⟩:=bZ7 hl hr hn h nh.length [] h none 100000 (by simp) (fun y hy=>by simp at hy; omega) (by simp; omega) (by omega)
 refine ⟨?_,hp⟩
 have c1:aI2 ⟨nh,h,none,none⟩= .nx ⟨nh,h,some [h],none⟩:=by simp [aI2,aa7]
 have c4:seqC bb7 aw8 ⟨nh,h,some [h],none⟩=_:=e
 have nxs:∀ {a b:S_bc9→FlC S_bc9 (Option (List Int))} {s s':S_bc9},a s= .nx s'→seqC a b s=b s':=fun h=>by unfold seqC; rw [h]
 unfold bg4 bw9
 rw [nxs c1,c4]
 rfl
theorem bd8 {n:Int} {nh:List (Option Int)} (hl:(nh.length:Int)=n) (hr:∀ y,some y∈nh→0≤y∧y < n) (hn:n≤1000):(bJ2 nh).res= .ok (tabF nh)∧TableOk n (tabF nh):=by
 constructor
 · have hc:ag0 (unC (rngC 0) (unC lenC (pC fun p=>p.v16q))) (fun _=> .ok true) (pc2C bg4 (pC fun p=>p.2.v16q) (pC fun p=>p.1)) (⟨nh⟩:S_bh9)= .ok (tabF nh) :=
    aj4 (src:=unC (rngC 0) (unC lenC (pC fun p:S_bh9=>p.v16q))) (te:=pc2C bg4 (pC fun p:Int×S_bh9=>p.2.v16q) (pC fun p=>p.1)) (l:=rngI 0 nh.length) (fun h=>rdF nh nh.length [h] h) (by simp [al3 (lo:=0) (hi:=(nh.length:Int)) (by omega) (by omega) (by omega) (by omega)]) (by rw [af0]; unfold aa7; omega) (fun h hh=>by
     have hh:=am0.mp hh
     have e:=(aK0 hl hr hn hh.1 (by omega)).1
     simp [e])
   unfold bJ2 bw4
   first | unfold ba8 | skip
   simp only [retC,upC]
   rw [hc]
   rfl
 · refine ⟨by unfold tabF; rw [List.length_map,af0]; omega,fun r hm=>?_⟩
   obtain ⟨h,hh,e⟩:=List.mem_map.mp hm
   have hh:=am0.mp hh
   exact (aK0 hl hr hn hh.1 (by omega)).2 r e
theorem bi8 (T:List (Option (List Int))) (hl:T.length < aa7):(C_z9 T).res= .ok (T.map nxt):=by
 have hc:ag0 (pC fun p=>p.v31q) (fun _=> .ok true) (iteC (orC (unC (isnC false nonO) (pC fun p=>p.1)) (bnC ltC (unC lenC (unC optC (pC fun p=>p.1))) (kC (2:Int)))) (unC (aR8:Unit→Res (Option Int)) (kC ())) (unC aC4 (bnC ixC (unC optC (pC fun p=>p.1)) (kC (1:Int))))) (⟨T⟩:S_z9)= .ok (T.map nxt) :=
  aj4 (src:=pC fun p:S_z9=>p.v31q) (te:=iteC (orC (unC (isnC false nonO) (pC fun p:Option (List Int)×S_z9=>p.1)) (bnC ltC (unC lenC (unC optC (pC fun p=>p.1))) (kC (2:Int)))) (unC (aR8:Unit→Res (Option Int)) (kC ())) (unC aC4 (bnC ixC (unC optC (pC fun p=>p.1)) (kC (1:Int))))) (l:=T) nxt (by simp) hl (fun o _=>by
   match o with
   | none=>simp [nxt]
   | some []=>simp [nxt]
   | some [a]=>simp [nxt]
   | some (a :: b :: t) =>
     have q:¬ ((t.length:Int) + 1 + 1 < 2):=by omega
     simp [nxt,at1,q])
 unfold C_z9 ch0
 first | unfold bs2 | skip
 simp only [retC,upC]
 rw [hc]
 rfl
theorem bd9 (n:Int) (W:DI Bool) (Q:DI Int) (h0:1≤n) (h1:n≤5):(bJ3 ⟨n,W,[],[],Q⟩).res= .ok (setF n W Q):=by
 have es:=aQ6 ⟨n,W,[],[],Q⟩
 have er:=bY2 ⟨n,W,[],[],Q⟩ h0 h1
 have hk:(n - 1).toNat≤4:=by omega
 obtain ⟨l1,l2⟩:=aF7 n W h1 (n - 1).toNat
 have l3:(6:Nat) ^ (n - 1).toNat≤6 ^ 4:=Nat.pow_le_pow_right (by decide) hk
 have er:(bz1 ⟨n,W,[],[],Q⟩).res= .ok (ap5 n W (n - 1).toNat):=er
 unfold setF
 generalize hrows:ap5 n W (n - 1).toNat=rows at er l1 l2
 obtain ⟨s',e,x,y,rfl⟩:=ar5 (u:=fun a s=>{ s with v16q:=some a }) (c:=aw9) (fun p (s:S_bf9)=>∃ x y,s=⟨⟨n,W,[],[],Q⟩,some ((p.filter fun nh=>decide ((tabF nh).map nxt=nh) && (badF n W Q (tabF nh)).isNone).map tabF),x,y⟩)
  rows ⟨⟨n,W,[],[],Q⟩,some [],none,none⟩ ⟨none,none,rfl⟩ (by
   rintro p nh r s he ⟨x,y,rfl⟩
   have hm:nh∈rows:=by rw [he]; simp
   obtain ⟨m1,m2⟩:=l2 nh hm
   obtain ⟨et,tOk⟩:=bd8 (n:=n) (nh:=nh) (by rw [m1]; omega) m2 (by omega)
   have tl:=tOk.len
   have en:=bi8 (tabF nh) (by unfold aa7; omega)
   have eu:(C_p9 ⟨n,W,[],[],Q⟩ (tabF nh)).res= .ok (badF n W Q (tabF nh)):=aJ9 ⟨n,W,[],[],Q⟩ (tabF nh) tOk (by show 0 < n; omega) (by show n≤1000; omega)
   have s1:∀ tb,at7 ⟨⟨n,W,[],[],Q⟩,tb,some nh,y⟩= .nx ⟨⟨n,W,[],[],Q⟩,tb,some nh,some (tabF nh)⟩:=fun tb=>by simp [at7,et]
   have hp:p.length + 1≤rows.length:=by rw [he]; simp
   have hpl:((p.filter fun nh=>decide ((tabF nh).map nxt=nh) && (badF n W Q (tabF nh)).isNone).map tabF).length < aa7:=by
    rw [List.length_map]
    have:=List.length_filter_le (fun nh=>decide ((tabF nh).map nxt=nh) && (badF n W Q (tabF nh)).isNone) p
    unfold aa7
    omega
   rw [List.filter_append,List.map_append]
   generalize (p.filter fun nh=>decide ((tabF nh).map nxt=nh) && (badF n W Q (tabF nh)).isNone).map tabF=L at hpl
   by_cases q:(decide ((tabF nh).map nxt=nh) && (badF n W Q (tabF nh)).isNone)=true
   · refine ⟨⟨⟨n,W,[],[],Q⟩,some (L ++ [tabF nh]),some nh,some (tabF nh)⟩,.inl ?_,some nh,some (tabF nh),?_⟩
     · rw [Bool.and_eq_true,decide_eq_true_iff] at q
       have q2:badF n W Q (tabF nh)=none:=by
        cases z:badF n W Q (tabF nh) with
        | none=>rfl
        | some v=>rw [z] at q; cases q.2
       unfold aw9 seqC
       rw [s1]
       simp [ao3,ap1,en,eu,q.1,q2,by6 hpl]
     · rw [List.filter_cons_of_pos (by exact q),List.filter_nil]
       rfl
   · refine ⟨⟨⟨n,W,[],[],Q⟩,some L,some nh,some (tabF nh)⟩,.inl ?_,some nh,some (tabF nh),?_⟩
     · unfold aw9 seqC
       rw [s1]
       by_cases z:(tabF nh).map nxt=nh
       · have q2:¬ (badF n W Q (tabF nh)).isNone=true:=fun w=>q (by rw [w,decide_eq_true z]; rfl)
         cases zz:badF n W Q (tabF nh) with
         | none=>rw [zz] at q2; exact absurd rfl q2
         | some v =>
           rw [zz] at eu
           simp [ao3,en,eu,z]
       · simp [ao3,en,z]
     · rw [List.filter_cons_of_neg (by exact q),List.filter_nil]
       simp)
 have hz:¬ 5 < n:=by omega
 unfold bJ3 bw6
 have c1:aI1 ⟨⟨n,W,[],[],Q⟩,none,none,none⟩= .nx ⟨⟨n,W,[],[],Q⟩,none,none,none⟩:=by simp [aI1,es,hz]
 have c2:aI0 ⟨⟨n,W,[],[],Q⟩,none,none,none⟩= .nx ⟨⟨n,W,[],[],Q⟩,some [],none,none⟩:=by simp [aI0,aa7]
 have c3:aH9 ⟨⟨n,W,[],[],Q⟩,some [],none,none⟩= .nx ⟨⟨n,W,[],[],Q⟩,some ((rows.filter fun nh=>decide ((tabF nh).map nxt=nh) && (badF n W Q (tabF nh)).isNone).map tabF),x,y⟩:=by
  unfold aH9
  rw [← e]
  simp [er]
 simp only [seqC,c1,c2,c3]
 simp [bb0]
noncomputable def idxF (ring:List Int) (m:Nat) (r:List Int):Option Nat:=(List.range m).find? fun k=>decide ([ring.getD k 0,am6 ring k,0]=r)
theorem bz3 (ring:List Int) (x:Nat→Int) (m:Nat) (r:List Int):(ad6 ring x m).get r=(idxF ring m r).map x:=by
 unfold ad6 DI.get idxF
 rw [List.find?_map,Option.map_map]
 rfl
theorem ba1 {ring:List Int} {m k:Nat} {r:List Int} (h:idxF ring m r=some k):[ring.getD k 0,am6 ring k,0]=r∧k < m:=by
 unfold idxF at h
 exact ⟨by simpa using List.find?_some h,List.mem_range.mp (List.mem_of_find?_eq_some h)⟩
theorem aq6 (ring:List Int) (x:Nat→Int) (m:Nat) (r:List Int):aK6 [] (ad6 ring x m) r=((idxF ring m r).map x).getD 0:=by
 unfold aK6
 rw [bz3]
 cases idxF ring m r with
 | some k=>rfl
 | none =>
   match r with
   | []=>rfl
   | [_]=>rfl
   | _ :: _ :: _=>rfl
theorem ce5 {ring:List Int} (nd:ring.Nodup) {x y:Nat→Int} (hx:∀ k,0 < x k) (hy:∀ k,0 < y k) {h:Int} {t1 t2:List Int}:ah8 (ai1 [] (ad6 ring x ring.length) (h :: t1)) (ai1 [] (ad6 ring x ring.length) (h :: t2))=ah8 (ai1 [] (ad6 ring y ring.length) (h :: t1)) (ai1 [] (ad6 ring y ring.length) (h :: t2)):=by
 unfold ai1 ah8 HT.bo9
 dsimp only
 rw [aq6,aq6,aq6,aq6]
 cases e1:idxF ring ring.length (h :: t1) with
 | none =>
   cases e2:idxF ring ring.length (h :: t2) with
   | none=>rfl
   | some k =>
     have a:=hx k
     have b:=hy k
     simp only [Option.map_none,Option.map_some,Option.getD_none,Option.getD_some]
     rw [if_neg (show ¬ (0:Int) - 0=0 - x k by omega),if_neg (show ¬ (0:Int) - 0=0 - y k by omega),decide_eq_false (show ¬ (0:Int) - 0 < 0 - x k by omega),decide_eq_false (show ¬ (0:Int) - 0 < 0 - y k by omega)]
 | some j =>
   have a:=hx j
   have b:=hy j
   cases e2:idxF ring ring.length (h :: t2) with
   | none =>
     simp only [Option.map_none,Option.map_some,Option.getD_none,Option.getD_some]
     rw [if_neg (show ¬ (0:Int) - x j=0 - 0 by omega),if_neg (show ¬ (0:Int) - y j=0 - 0 by omega),decide_eq_true (show (0:Int) - x j < 0 - 0 by omega),decide_eq_true (show (0:Int) - y j < 0 - 0 by omega)]
   | some k =>
     obtain ⟨q1,l1⟩:=ba1 e1
     obtain ⟨q2,l2⟩:=ba1 e2
     have q1':=q1
     have q2':=q2
     injection q1' with z1 _
     injection q2' with z2 _
     have:j=k:=aH1 nd l1 l2 (z1.trans z2.symm)
     subst this
     simp only [Option.map_some,Option.getD_some,if_true]
theorem aw6 (f:List Int→Int×Int×List Int):∀ (t:List (List Int)) (b:List Int),(t.map f).foldl (fun b x=>if ah8 x b=true then x else b) (f b)=f (t.foldl (fun b r=>if ah8 (f r) (f b)=true then r else b) b)
 | [],b=>rfl
 | r :: t,b=>by
   rw [List.map_cons,List.foldl_cons,List.foldl_cons]
   by_cases q:ah8 (f r) (f b)=true
   · rw [if_pos q,if_pos q]; exact aw6 f t r
   · rw [if_neg q,if_neg q]; exact aw6 f t b
theorem az4 {f g:List Int→Int×Int×List Int} {h:Int} (hs:∀ t1 t2,ah8 (f (h :: t1)) (f (h :: t2))=ah8 (g (h :: t1)) (g (h :: t2))):∀ (t:List (List Int)) (b:List Int),(∀ r∈t,∃ u,r=h :: u)→(∃ u,b=h :: u) →
 t.foldl (fun b r=>if ah8 (f r) (f b)=true then r else b) b=t.foldl (fun b r=>if ah8 (g r) (g b)=true then r else b) b
 | [],b,_,_=>rfl
 | r :: t,b,ht,hb=>by
   rw [List.foldl_cons,List.foldl_cons]
   obtain ⟨u,rfl⟩:=ht r List.mem_cons_self
   obtain ⟨v,rfl⟩:=hb
   rw [hs u v]
   by_cases q:ah8 (g (h :: u)) (g (h :: v))=true
   · rw [if_pos q]; exact az4 hs t _ (fun r hr=>ht r (List.mem_cons_of_mem _ hr)) ⟨u,rfl⟩
   · rw [if_neg q]; exact az4 hs t _ (fun r hr=>ht r (List.mem_cons_of_mem _ hr)) ⟨v,rfl⟩
theorem by0 {ring:List Int} (nd:ring.Nodup) {x y:Nat→Int} (hx:∀ k,0 < x k) (hy:∀ k,0 < y k) (sh:Int→Bool) (h:Int) (told:List (Option (List Int))):au2 [] (ad6 ring x ring.length) sh h told=au2 [] (ad6 ring y ring.length) sh h told:=by
 unfold au2
 by_cases q:h=0
 · rw [if_pos q,if_pos q]
 · rw [if_neg q,if_neg q]
   have hm:∀ r∈aE7 sh h told,∃ u,r=h :: u:=fun r hr=>by
    obtain ⟨u,_,e,_⟩:=bn6 hr
    exact ⟨u,e⟩
   cases e:aE7 sh h told with
   | nil=>rfl
   | cons b t =>
     rw [e] at hm
     show Option.map _ (some ((t.map _).foldl _ _))=Option.map _ (some ((t.map _).foldl _ _))
     rw [aw6,aw6,az4 (fun t1 t2=>ce5 nd hx hy (t1:=t1) (t2:=t2)) t b (fun r hr=>hm r (List.mem_cons_of_mem _ hr)) (hm b List.mem_cons_self)]
     rfl
theorem bB9 {ring:List Int} (nd:ring.Nodup) {x y:Nat→Int} (hx:∀ k,0 < x k) (hy:∀ k,0 < y k) (n:Int) (W:DI Bool):setF n W (ad6 ring x ring.length)=setF n W (ad6 ring y ring.length):=by
 unfold setF badF
 have e:(fun h=>au2 [] (ad6 ring x ring.length) (fun _=>false) h)=fun h=>au2 [] (ad6 ring y ring.length) (fun _=>false) h:=funext fun h=>funext fun told=>by0 nd hx hy _ h told
 rw [e]
theorem aE8 (ring:List Int) (st:Int):∀ m,(aj8 ring st m).length=ring.length + 1
 | 0=>by simp [aj8]
 | m + 1=>by
   have ih:=aE8 ring st m
   unfold aj8 at ih ⊢
   rw [List.range_succ,List.foldl_append,List.foldl_cons,List.foldl_nil,List.length_set]
   exact ih
theorem bz6 (ring:List Int) (st:Int) (m:Nat):aj8 ring st (m + 1)=(aj8 ring st m).set (ring.getD m 0).toNat (some (bI4 ring st m)):=by
 unfold aj8
 rw [List.range_succ,List.foldl_append]
 rfl
theorem bz7 {ring:List Int} (h:RingOk ring) (st k A Fr:Int) (n:Nat) (T:List (Option (List Int))) (hk:k=n) (ea:atI ring k=some A) (ef:atI ring ((k + 1) % (ring.length:Int))=some Fr) (hA0:0≤A) (hA1:A < T.length) (eA:ring.getD n 0=A) (eF:am6 ring n=Fr) :
 aI3 ⟨ring,st,some T,some k⟩= .nx ⟨ring,st,some (T.set A.toNat (some (bI4 ring st n))),some k⟩:=by
 have hm0:(0:Int) < (ring.length:Int):=by have:=h.two; omega
 have hi:=bP4 hA0 hA1
 have s1:aA1 ⟨ring,st,some T,some k⟩= .nx ⟨ring,st,some (T.set A.toNat (some [A,0])),some k⟩:=by
  simp [aA1,ea,aa7,hi]
 have hA2:A < (T.set A.toNat (some [A,0])).length:=by rw [List.length_set]; exact hA1
 have hi2:=bP4 hA0 hA2
 rw [List.length_set] at hi2
 unfold aI3 seqC
 rw [s1]
 dsimp only
 unfold bI4
 rw [eA,eF]
 subst hk
 by_cases q:(n:Int) % 2=st
 · rw [if_pos q]
   simp [aA0,q]
 · rw [if_neg q]
   have hm0':0 < ring.length:=by omega
   simp [aA0,ar9,q,ea,ef,aa7,hi2,hm0']
theorem aD1 {ring:List Int} (h:RingOk ring) (st:Int):(C_w9 ring st).res= .ok (aj8 ring st ring.length):=by
 have h2:=h.two
 have h4:=h.four
 obtain ⟨s',e,kk,rfl⟩:=ar5 (u:=fun a s=>{ s with v12q:=some a }) (c:=aI3) (fun p (s:S_w9)=>∃ kk,s=⟨ring,st,some (aj8 ring st p.length),kk⟩) (rngI 0 ring.length) ⟨ring,st,some (some [0] :: List.replicate ring.length none),none⟩ ⟨none,rfl⟩ (by
  rintro p k r s he ⟨kk,rfl⟩
  obtain ⟨ke,k0,k1⟩:=aR1 he
  have ke:k=(p.length:Int):=by omega
  have kl:p.length < ring.length:=by omega
  have nf:(p.length + 1) % ring.length < ring.length:=Nat.mod_lt _ (by omega)
  have em:(k + 1) % (ring.length:Int)=(((p.length + 1) % ring.length:Nat):Int):=by rw [ke]; simp
  have ef:atI ring ((k + 1) % (ring.length:Int))=some (am6 ring p.length):=by rw [em,aI6 (by omega) (by omega)]; rfl
  have ea:atI ring k=some (ring.getD p.length 0):=by rw [ke,aI6 (by omega) (by omega)]; rfl
  have ra:=h.all _ (aH0 kl)
  have tl:=aE8 ring st p.length
  exact ⟨_,.inl (bz7 h st k _ _ p.length (aj8 ring st p.length) ke ea ef (by omega) (by omega) rfl rfl),some k,by rw [List.length_append,List.length_singleton,bz6]⟩)
 have hl:=af0 0 (ring.length:Int)
 have em:(rngI 0 (ring.length:Int)).length=ring.length:=by omega
 rw [em] at e
 have hc:ag0 (pC fun p=>p.v23q) (fun _=> .ok true) (kC ()) (⟨ring,st,none,none⟩:S_w9)= .ok (ring.map fun _=>()) :=
  aj4 (src:=pC fun p:S_w9=>p.v23q) (te:=kC ()) (l:=ring) (fun _=>()) (by simp) (by unfold aa7; omega) (fun _ _=>by simp)
 have hcat:=bc2 (l:=[some [(0:Int)]]) (m:=List.replicate ring.length (none:Option (List Int))) (by simp only [List.length_singleton,List.length_replicate]; unfold aa7; omega)
 have hcat:catC [some [(0:Int)]] (List.replicate ring.length none)= .ok (some [0] :: List.replicate ring.length none):=hcat
 have e1:aT6 ⟨ring,st,none,none⟩= .nx ⟨ring,st,some (some [0] :: List.replicate ring.length none),none⟩:=by
  unfold aT6
  simp only [setC,upC,bnC,unC,hc]
  simp [aa7,List.map_const',hcat,-catC]
 have e2:aT5 ⟨ring,st,some (some [0] :: List.replicate ring.length none),none⟩= .nx ⟨ring,st,some (aj8 ring st ring.length),kk⟩:=by
  unfold aT5
  rw [← e]
  simp [al3 (lo:=0) (hi:=(ring.length:Int)) (by omega) (by omega) (by omega) (by omega)]
 unfold C_w9 ch3
 simp only [seqC,e1,e2]
 simp [bs5]
theorem bY1 (o:Option (List Int)):(C_u9 o o).res= .ok true:=by
 cases o with
 | none =>
   unfold C_u9 bI5 aT9 aA4
   simp
 | some f =>
   obtain ⟨s',e,x,rfl⟩:=aH2 (u:=fun a s=>{ s with v10q:=some a }) (c:=aA3) (fun s:S_u9=>∃ x,s=⟨some f,some f,x⟩) f ⟨some f,some f,none⟩ ⟨none,rfl⟩ (by
    rintro o s ho ⟨x,rfl⟩
    exact ⟨_,.inl (by simp [aA3,bB6]; rfl),_,rfl⟩)
   unfold C_u9 bI5 aT9 bt1 bt0 bs9
   simp [e]
theorem au5 (T:List (Option (List Int))) (hl:T.length≤1000):(C_v9 T T).res= .ok true:=by
 obtain ⟨s',e,x,rfl⟩:=aH2 (u:=fun a s=>{ s with v12q:=some a }) (c:=aA2) (fun s:S_v9=>∃ x,s=⟨T,T,x⟩) (rngI 0 T.length) ⟨T,T,none⟩ ⟨none,rfl⟩ (by
  rintro k s hk ⟨x,rfl⟩
  have hk:=am0.mp hk
  exact ⟨_,.inl (by simp [aA2,at_T (T:=T) hk.1 hk.2,bY1]; rfl),_,rfl⟩)
 unfold C_v9 ch4 bs8 bs7 bs6
 simp [al3 (lo:=0) (hi:=(T.length:Int)) (by omega) (by omega) (by omega) (by omega),e]
theorem bn2 {σ:Type} {T:List (Option (List Int))} (h:all2 T=true) (hl:T.length < aa7) (src:σ→Res (List (Option (List Int)))) (s:σ) (hs:src s= .ok (T.drop 1)):ag0 src (fun _=> .ok true) (bnC ixC (unC optC (pC fun p=>p.1)) (kC (1:Int))) s= .ok (nxs T) :=
 aj4 (te:=bnC ixC (unC optC (pC fun p:Option (List Int)×σ=>p.1)) (kC (1:Int))) (l:=T.drop 1) (fun o=>(nxt o).getD 0) hs (by rw [List.length_drop]; omega) (fun o ho=>by
  have:=List.all_eq_true.mp h o ho
  match o,this with
  | some (a :: b :: t),_=>simp [nxt,at1])
theorem bf8 (ns:List Int):∃ s,C_q9 ns= .ok true s:=by
 have k0:=aQ7 ns 0 (by decide)
 have k1:=aQ7 ns 1 (by decide)
 have k2:=aQ7 ns 2 (by decide)
 have m3:=Int.emod_nonneg (ap3 ns 0) (show (3:Int)≠0 by decide)
 have m3':=Int.emod_lt_of_pos (ap3 ns 0) (show (0:Int) < 3 by decide)
 obtain ⟨ring,er,hR,rl⟩:=bB8 (ap3 ns 1) (2 + ap3 ns 0 % 3) (by omega) (by omega)
 have e1:aV2 ⟨ns,none,none,none,none,none⟩= .nx ⟨ns,some (2 + ap3 ns 0 % 3),none,none,none,none⟩:=by simp [aV2,k0]
 have e2:aV1 ⟨ns,some (2 + ap3 ns 0 % 3),none,none,none,none⟩= .nx ⟨ns,some (2 + ap3 ns 0 % 3),some ring,none,none,none⟩:=by simp [aV1,k1,er]
 rw [← rl] at e1 e2
 have hc:=bI1 hR
 unfold chk at hc
 rw [Bool.and_eq_true,Bool.and_eq_true,Bool.and_eq_true] at hc
 obtain ⟨⟨⟨c1,c2⟩,c3⟩,c4⟩:=hc
 obtain ⟨x,hx,eg⟩:=be0 hR c1 (ap3 ns 2)
 have h2:=hR.two
 have h4:=hR.four
 have es:=bd9 (1 + ring.length) (ak8 ring ring.length) (ad6 ring x ring.length) (by omega) (by omega)
 rw [bB9 hR.nd hx (fun _=>(by decide:(0:Int) < 1))] at es
 generalize setF (1 + ring.length) (ak8 ring ring.length) (ad6 ring (fun _=>1) ring.length)=found at es c4
 have e3:aV0 ⟨ns,some (ring.length:Int),some ring,none,none,none⟩= .nx ⟨ns,some (ring.length:Int),some ring,some found,none,none⟩:=by simp [aV0,k2,eg,es]
 have e4:aU9 ⟨ns,some (ring.length:Int),some ring,some found,none,none⟩= .nx ⟨ns,some (ring.length:Int),some ring,some found,none,none⟩:=by simp [aU9]
 have nxs':∀ {a b:S_q9→FlC S_q9 Bool} {s s':S_q9},a s= .nx s'→seqC a b s=b s':=fun h=>by unfold seqC; rw [h]
 by_cases q:ring.length=3
 · rw [if_pos q,decide_eq_true_iff] at c4
   subst c4
   have e5:aB2 ⟨ns,some (ring.length:Int),some ring,some [],none,none⟩= .rt true ⟨ns,some (ring.length:Int),some ring,some [],none,none⟩:=by simp [aB2,aB1,q]
   refine ⟨⟨ns,some (ring.length:Int),some ring,some [],none,none⟩,?_⟩
   unfold C_q9 bI6
   rw [nxs' e1,nxs' e2,nxs' e3,nxs' e4]
   unfold seqC
   rw [e5]
   rfl
 · rw [if_neg q,decide_eq_true_iff] at c4
   have q':¬ (ring.length:Int)=3:=by omega
   have t0:=aD1 hR 0
   have t1:=aD1 hR 1
   have l0:=aE8 ring 0 ring.length
   have l1:=aE8 ring 1 ring.length
   generalize aj8 ring 0 ring.length=T0 at t0 l0 c2 c4
   generalize aj8 ring 1 ring.length=T1 at t1 l1 c3 c4
   have e5:aB2 ⟨ns,some (ring.length:Int),some ring,some found,none,none⟩= .nx ⟨ns,some (ring.length:Int),some ring,some found,none,none⟩:=by simp [aB2,q,q']
   have e6:aU7 ⟨ns,some (ring.length:Int),some ring,some found,none,none⟩= .nx ⟨ns,some (ring.length:Int),some ring,some found,some T0,none⟩:=by simp [aU7,t0]
   have e7:aU6 ⟨ns,some (ring.length:Int),some ring,some found,some T0,none⟩= .nx ⟨ns,some (ring.length:Int),some ring,some found,some T0,some T1⟩:=by simp [aU6,t1]
   have n1:=bn2 (σ:=S_q9) c3 (by unfold aa7; omega) (bnC br0 (vC fun p=>p.v18q) (kC (1:Int))) ⟨ns,some (ring.length:Int),some ring,some found,some T0,some T1⟩ (by simp)
   have n0:=bn2 (σ:=S_q9) c2 (by unfold aa7; omega) (bnC br0 (vC fun p=>p.v17q) (kC (1:Int))) ⟨ns,some (ring.length:Int),some ring,some found,some T0,some T1⟩ (by simp)
   obtain ⟨U0,U1,e8,ef,u0,u1⟩:∃ U0 U1,aH7 ⟨ns,some (ring.length:Int),some ring,some found,some T0,some T1⟩= .nx ⟨ns,some (ring.length:Int),some ring,some found,some U0,some U1⟩∧found=[U0,U1]∧U0.length≤1000∧U1.length≤1000:=by
    by_cases z:HT.an4 (nxs T1) (nxs T0)=true
    · rw [if_pos z] at c4
      refine ⟨T1,T0,?_,c4,by omega,by omega⟩
      unfold aH7 aB0 aA9
      simp only [ifC,upC,bnC]
      rw [show ag0 _ _ _ _=_ from n1,show ag0 _ _ _ _=_ from n0]
      simp [z,t0,t1]
    · rw [if_neg z] at c4
      refine ⟨T0,T1,?_,c4,by omega,by omega⟩
      unfold aH7
      simp only [ifC,upC,bnC]
      rw [show ag0 _ _ _ _=_ from n1,show ag0 _ _ _ _=_ from n0]
      simp [z]
   subst ef
   have s0:=au5 U0 u0
   have s1:=au5 U1 u1
   have e9:aU5 ⟨ns,some (ring.length:Int),some ring,some [U0,U1],some U0,some U1⟩= .rt true ⟨ns,some (ring.length:Int),some ring,some [U0,U1],some U0,some U1⟩:=by simp [aU5,at0,at1,s0,s1]
   refine ⟨⟨ns,some (ring.length:Int),some ring,some [U0,U1],some U0,some U1⟩,?_⟩
   unfold C_q9 bI6
   rw [nxs' e1,nxs' e2,nxs' e3,nxs' e4,nxs' e5,nxs' e6,nxs' e7,nxs' e8,e9]
   rfl
theorem bF5 (ns:List Int) (hl:ns.length≤63):∃ ρ,m_q9 [.scr (ns.map D.int)]= .ok (.bl true) ρ:=by
 obtain ⟨s,e⟩:=bf8 ns
 have:=cf_q9 ns
 rw [e] at this
 exact ⟨_,this⟩
end K21
namespace K21
open PySem L2
theorem funO {K:PySem.W.Frag} {x q:Str} {st s2:Stmt} {f:Addr} (h:HD.fnO K f q=HD.fnE x q st) (e:st=s2):∃ d,Fun K x q s2 f d:=by
 subst e
 have hk:=HD.fn_keep h
 obtain ⟨oc,od,kV,doc,pm,an,cdv,ct,osl,l,c⟩:=HD.fn_of h
 have e1:HD.dA st=az8 st:=by cases st <;> rfl
 have e2:HD.dB st=ai3 st:=by cases st <;> rfl
 have e3:HD.dS st=aa4 st:=by cases st <;> rfl
 rw [e1,e2,e3] at l
 exact ⟨_,cw2 l c hk⟩
noncomputable def tns:Tns:=[]
theorem cz8 {w:World} {K:PySem.W.Frag} {h:Heap} {mg:Str→Option Value} {T:Tbs} {fa:Addr} (X:K.In h) (G:h.Ns mainGlobals mg) (hfa:mg "law" = some (.ref fa)) (TO:TabsOf mg h tns T) (y:HD.obK nsL msL fsL csL dsL esL ksL K=xpL PySem.Challenge.pw_heraldways_k21_rings_of_wishes):∃ fd:FuncData,(∀ (s:Shared) (v:Value),BindsTo s fd ⟨[v],[]⟩ [("script",v)])∧∀ base:Heap,K.In base→base.Ns mainGlobals mg→(∀ c P,PySem.W.CodeHd h c P→PySem.W.CodeHd base c P)→FnOk PySem.Challenge.rw_heraldways_k21_rings_of_wishes.prog w K mg base CX0 9 fa fd ["script"] (Mi.spT K T):=by
 have y1:=congrArg (·.1) y
 have y2:=congrArg (·.2.1) y
 have y3:=congrArg (·.2.2.1) y
 have y4:=congrArg (·.2.2.2.1) y
 have y5:=congrArg (·.2.2.2.2.1) y
 have y6:=congrArg (·.2.2.2.2.2) y
 clear y
 have e:=hfa.symm.trans (PySem.W.mg_of X G (HD.nth y1 21 rfl rfl))
 cases e
 obtain ⟨d_a9,F_a9⟩:=funO (s2:=s_a9) (HD.nth y4 0 rfl rfl) rfl
 obtain ⟨d_c9,F_c9⟩:=funO (s2:=s_c9) (HD.nth y4 1 rfl rfl) rfl
 obtain ⟨d_k9,F_k9⟩:=funO (s2:=s_k9) (HD.nth y4 2 rfl rfl) rfl
 obtain ⟨d_l9,F_l9⟩:=funO (s2:=s_l9) (HD.nth y4 3 rfl rfl) rfl
 obtain ⟨d_r9,F_r9⟩:=funO (s2:=s_r9) (HD.nth y4 4 rfl rfl) rfl
 obtain ⟨d_t9,F_t9⟩:=funO (s2:=s_t9) (HD.nth y4 5 rfl rfl) rfl
 obtain ⟨d_w9,F_w9⟩:=funO (s2:=s_w9) (HD.nth y4 6 rfl rfl) rfl
 obtain ⟨d_x9,F_x9⟩:=funO (s2:=s_x9) (HD.nth y4 7 rfl rfl) rfl
 obtain ⟨d_n9,F_n9⟩:=funO (s2:=s_n9) (HD.nth y4 8 rfl rfl) rfl
 obtain ⟨d_z9,F_z9⟩:=funO (s2:=s_z9) (HD.nth y4 9 rfl rfl) rfl
 obtain ⟨d_bb9,F_bb9⟩:=funO (s2:=bZ4) (HD.nth y4 10 rfl rfl) rfl
 obtain ⟨d_bc9,F_bc9⟩:=funO (s2:=bZ3) (HD.nth y4 11 rfl rfl) rfl
 obtain ⟨d_be9,F_be9⟩:=funO (s2:=bC2) (HD.nth y4 12 rfl rfl) rfl
 obtain ⟨d_h9,F_h9⟩:=funO (s2:=s_h9) (HD.nth y4 13 rfl rfl) rfl
 obtain ⟨d_u9,F_u9⟩:=funO (s2:=s_u9) (HD.nth y4 14 rfl rfl) rfl
 obtain ⟨d_y9,F_y9⟩:=funO (s2:=s_y9) (HD.nth y4 15 rfl rfl) rfl
 obtain ⟨d_ba9,F_ba9⟩:=funO (s2:=bZ5) (HD.nth y4 16 rfl rfl) rfl
 obtain ⟨d_bh9,F_bh9⟩:=funO (s2:=bk1) (HD.nth y4 17 rfl rfl) rfl
 obtain ⟨d_b9,F_b9⟩:=funO (s2:=s_b9) (HD.nth y4 18 rfl rfl) rfl
 obtain ⟨d_e9,F_e9⟩:=funO (s2:=s_e9) (HD.nth y4 19 rfl rfl) rfl
 obtain ⟨d_f9,F_f9⟩:=funO (s2:=s_f9) (HD.nth y4 20 rfl rfl) rfl
 obtain ⟨d_i9,F_i9⟩:=funO (s2:=s_i9) (HD.nth y4 21 rfl rfl) rfl
 obtain ⟨d_j9,F_j9⟩:=funO (s2:=s_j9) (HD.nth y4 22 rfl rfl) rfl
 obtain ⟨d_v9,F_v9⟩:=funO (s2:=s_v9) (HD.nth y4 23 rfl rfl) rfl
 obtain ⟨d_d9,F_d9⟩:=funO (s2:=s_d9) (HD.nth y4 24 rfl rfl) rfl
 obtain ⟨d_g9,F_g9⟩:=funO (s2:=s_g9) (HD.nth y4 25 rfl rfl) rfl
 obtain ⟨d_m9,F_m9⟩:=funO (s2:=s_m9) (HD.nth y4 26 rfl rfl) rfl
 obtain ⟨d_bd9,F_bd9⟩:=funO (s2:=bZ2) (HD.nth y4 27 rfl rfl) rfl
 obtain ⟨d_s9,F_s9⟩:=funO (s2:=s_s9) (HD.nth y4 28 rfl rfl) rfl
 obtain ⟨d_bg9,F_bg9⟩:=funO (s2:=bZ0) (HD.nth y4 29 rfl rfl) rfl
 obtain ⟨d_o9,F_o9⟩:=funO (s2:=s_o9) (HD.nth y4 30 rfl rfl) rfl
 obtain ⟨d_p9,F_p9⟩:=funO (s2:=s_p9) (HD.nth y4 31 rfl rfl) rfl
 obtain ⟨d_bf9,F_bf9⟩:=funO (s2:=bZ1) (HD.nth y4 32 rfl rfl) rfl
 obtain ⟨d_q9,F_q9⟩:=funO (s2:=s_q9) (HD.nth y4 33 rfl rfl) rfl
 have b_a9:=F_a9.binds (ps:=["self", "size"]) fun _ _ _ _ _ _=>L2.am2 fun _ _=>rfl
 have b_c9:=F_c9.binds (ps:=["self", "pairs", "a"]) fun _ _ _ _ _ _=>L2.aG4 fun _ _ _=>rfl
 have b_k9:=F_k9.binds (ps:=["self", "a", "houses"]) fun _ _ _ _ _ _=>L2.aG4 fun _ _ _=>rfl
 have b_l9:=F_l9.binds (ps:=["self"]) fun _ _ _ _ _ _=>L2.aM1 fun _=>rfl
 have b_r9:=F_r9.binds (ps:=["script", "k"]) fun _ _ _ _ _ _=>L2.am2 fun _ _=>rfl
 have b_t9:=F_t9.binds (ps:=["cell", "many"]) fun _ _ _ _ _ _=>L2.am2 fun _ _=>rfl
 have b_w9:=F_w9.binds (ps:=["ring", "start"]) fun _ _ _ _ _ _=>L2.am2 fun _ _=>rfl
 have b_x9:=F_x9.binds (ps:=["found"]) fun _ _ _ _ _ _=>L2.aM1 fun _=>rfl
 have b_n9:=F_n9.binds (ps:=["house", "standings"]) fun _ _ _ _ _ _=>L2.am2 fun _ _=>rfl
 have b_z9:=F_z9.binds (ps:=["table"]) fun _ _ _ _ _ _=>L2.aM1 fun _=>rfl
 have b_bb9:=F_bb9.binds (ps:=["houses", "count"]) fun _ _ _ _ _ _=>L2.am2 fun _ _=>rfl
 have b_bc9:=F_bc9.binds (ps:=["next_houses", "house"]) fun _ _ _ _ _ _=>L2.am2 fun _ _=>rfl
 have b_be9:=F_be9.binds (ps:=["rows", "ends"]) fun _ _ _ _ _ _=>L2.am2 fun _ _=>rfl
 have b_h9:=F_h9.binds (ps:=["self", "houses"]) fun _ _ _ _ _ _=>L2.am2 fun _ _=>rfl
 have b_u9:=F_u9.binds (ps:=["found", "due"]) fun _ _ _ _ _ _=>L2.am2 fun _ _=>rfl
 have b_y9:=F_y9.binds (ps:=["guild", "house", "road"]) fun _ _ _ _ _ _=>L2.aG4 fun _ _ _=>rfl
 have b_ba9:=F_ba9.binds (ps:=["told", "count"]) fun _ _ _ _ _ _=>L2.am2 fun _ _=>rfl
 have b_bh9:=F_bh9.binds (ps:=["next_houses"]) fun _ _ _ _ _ _=>L2.aM1 fun _=>rfl
 have b_b9:=F_b9.binds (ps:=["self", "a", "b"]) fun _ _ _ _ _ _=>L2.aG4 fun _ _ _=>rfl
 have b_e9:=F_e9.binds (ps:=["self", "a", "b"]) fun _ _ _ _ _ _=>L2.aG4 fun _ _ _=>rfl
 have b_f9:=F_f9.binds (ps:=["self", "a"]) fun _ _ _ _ _ _=>L2.am2 fun _ _=>rfl
 have b_i9:=F_i9.binds (ps:=["self", "road"]) fun _ _ _ _ _ _=>L2.am2 fun _ _=>rfl
 have b_j9:=F_j9.binds (ps:=["self", "a", "b"]) fun _ _ _ _ _ _=>L2.aG4 fun _ _ _=>rfl
 have b_v9:=F_v9.binds (ps:=["found", "due"]) fun _ _ _ _ _ _=>L2.am2 fun _ _=>rfl
 have b_d9:=F_d9.binds (ps:=["self", "a", "b"]) fun _ _ _ _ _ _=>L2.aG4 fun _ _ _=>rfl
 have b_g9:=F_g9.binds (ps:=["self", "road"]) fun _ _ _ _ _ _=>L2.am2 fun _ _=>rfl
 have b_m9:=F_m9.binds (ps:=["self", "road", "rank"]) fun _ _ _ _ _ _=>L2.aG4 fun _ _ _=>rfl
 have b_bd9:=F_bd9.binds (ps:=["guild"]) fun _ _ _ _ _ _=>L2.aM1 fun _=>rfl
 have b_s9:=F_s9.binds (ps:=["ring", "cell"]) fun _ _ _ _ _ _=>L2.am2 fun _ _=>rfl
 have b_bg9:=F_bg9.binds (ps:=["guild", "road"]) fun _ _ _ _ _ _=>L2.am2 fun _ _=>rfl
 have b_o9:=F_o9.binds (ps:=["guild", "house", "told"]) fun _ _ _ _ _ _=>L2.aG4 fun _ _ _=>rfl
 have b_p9:=F_p9.binds (ps:=["guild", "table"]) fun _ _ _ _ _ _=>L2.am2 fun _ _=>rfl
 have b_bf9:=F_bf9.binds (ps:=["guild"]) fun _ _ _ _ _ _=>L2.aM1 fun _=>rfl
 have b_q9:=F_q9.binds (ps:=["script"]) fun _ _ _ _ _ _=>L2.aM1 fun _=>rfl
 obtain ⟨pg_Guild,hd_Guild,po_Guild,mk_Guild,kc_Guild⟩:=HD.cls_of (HD.nth y3 13 rfl rfl)
 have hb:∀ (s:Shared) (v:Value),BindsTo s d_q9 ⟨[v],[]⟩ [("script",v)]:=by
  obtain ⟨oc,od,kV,doc,pm,an,cdv,ct,osl,rfl,lk,hcd⟩:=F_q9.ex
  exact fun s v=> .of_eq rfl
 refine ⟨d_q9,hb,fun base _ _ tr=>?_⟩
 have T0:Txt K mg ⟨228,103,d_a9,192,d_c9,204,d_k9,110,d_l9,313,d_r9,339,d_t9,351,d_w9,320,d_x9,270,d_n9,306,d_z9,89,d_bb9,301,d_bc9,289,d_be9,211,d_h9,327,d_u9,263,d_y9,251,d_ba9,294,d_bh9,124,d_b9,152,d_e9,117,d_f9,225,d_i9,218,d_j9,334,d_v9,131,d_d9,187,d_g9,173,d_m9,284,d_bd9,346,d_s9,244,d_bg9,256,d_o9,237,d_p9,277,d_bf9,356,d_q9⟩ base:={
  cl_Guild:=⟨pg_Guild,hd_Guild,po_Guild,HD.nth y2 13 rfl rfl⟩
  mgC_Guild:=PySem.W.mg_of X G (HD.nth y1 0 rfl rfl)
  mk_Guild:=⟨mk_Guild,HD.nth y2 0 rfl rfl,HD.nth y3 0 rfl rfl,kc_Guild⟩
  n_house_count:=HD.nth y2 14 rfl rfl
  n_ways:=HD.nth y2 15 rfl rfl
  n_likings:=HD.nth y2 16 rfl rfl
  n_shuns:=HD.nth y2 17 rfl rfl
  n_wish_ranks:=HD.nth y2 18 rfl rfl
  F_a9:=F_a9
  b_a9:=b_a9
  F_c9:=F_c9
  b_c9:=b_c9
  me_c9:=⟨HD.nth y2 1 rfl rfl,HD.nth y3 1 rfl rfl,F_c9.kp⟩
  F_k9:=F_k9
  b_k9:=b_k9
  me_k9:=⟨HD.nth y2 2 rfl rfl,HD.nth y3 2 rfl rfl,F_k9.kp⟩
  F_l9:=F_l9
  b_l9:=b_l9
  me_l9:=⟨HD.nth y2 3 rfl rfl,HD.nth y3 3 rfl rfl,F_l9.kp⟩
  F_r9:=F_r9
  b_r9:=b_r9
  m_r9:=PySem.W.mg_of X G (HD.nth y1 1 rfl rfl)
  kp_r9:=F_r9.kp
  F_t9:=F_t9
  b_t9:=b_t9
  m_t9:=PySem.W.mg_of X G (HD.nth y1 2 rfl rfl)
  kp_t9:=F_t9.kp
  F_w9:=F_w9
  b_w9:=b_w9
  m_w9:=PySem.W.mg_of X G (HD.nth y1 3 rfl rfl)
  kp_w9:=F_w9.kp
  F_x9:=F_x9
  b_x9:=b_x9
  m_x9:=PySem.W.mg_of X G (HD.nth y1 4 rfl rfl)
  kp_x9:=F_x9.kp
  F_n9:=F_n9
  b_n9:=b_n9
  m_n9:=PySem.W.mg_of X G (HD.nth y1 5 rfl rfl)
  kp_n9:=F_n9.kp
  F_z9:=F_z9
  b_z9:=b_z9
  m_z9:=PySem.W.mg_of X G (HD.nth y1 6 rfl rfl)
  kp_z9:=F_z9.kp
  F_bb9:=F_bb9
  b_bb9:=b_bb9
  m_bb9:=PySem.W.mg_of X G (HD.nth y1 7 rfl rfl)
  kp_bb9:=F_bb9.kp
  F_bc9:=F_bc9
  b_bc9:=b_bc9
  m_bc9:=PySem.W.mg_of X G (HD.nth y1 8 rfl rfl)
  kp_bc9:=F_bc9.kp
  F_be9:=F_be9
  b_be9:=b_be9
  m_be9:=PySem.W.mg_of X G (HD.nth y1 9 rfl rfl)
  kp_be9:=F_be9.kp
  F_h9:=F_h9
  b_h9:=b_h9
  me_h9:=⟨HD.nth y2 4 rfl rfl,HD.nth y3 4 rfl rfl,F_h9.kp⟩
  F_u9:=F_u9
  b_u9:=b_u9
  m_u9:=PySem.W.mg_of X G (HD.nth y1 10 rfl rfl)
  kp_u9:=F_u9.kp
  F_y9:=F_y9
  b_y9:=b_y9
  m_y9:=PySem.W.mg_of X G (HD.nth y1 11 rfl rfl)
  kp_y9:=F_y9.kp
  F_ba9:=F_ba9
  b_ba9:=b_ba9
  m_ba9:=PySem.W.mg_of X G (HD.nth y1 12 rfl rfl)
  kp_ba9:=F_ba9.kp
  F_bh9:=F_bh9
  b_bh9:=b_bh9
  m_bh9:=PySem.W.mg_of X G (HD.nth y1 13 rfl rfl)
  kp_bh9:=F_bh9.kp
  F_b9:=F_b9
  b_b9:=b_b9
  me_b9:=⟨HD.nth y2 5 rfl rfl,HD.nth y3 5 rfl rfl,F_b9.kp⟩
  F_e9:=F_e9
  b_e9:=b_e9
  me_e9:=⟨HD.nth y2 6 rfl rfl,HD.nth y3 6 rfl rfl,F_e9.kp⟩
  F_f9:=F_f9
  b_f9:=b_f9
  me_f9:=⟨HD.nth y2 7 rfl rfl,HD.nth y3 7 rfl rfl,F_f9.kp⟩
  F_i9:=F_i9
  b_i9:=b_i9
  me_i9:=⟨HD.nth y2 8 rfl rfl,HD.nth y3 8 rfl rfl,F_i9.kp⟩
  F_j9:=F_j9
  b_j9:=b_j9
  me_j9:=⟨HD.nth y2 9 rfl rfl,HD.nth y3 9 rfl rfl,F_j9.kp⟩
  F_v9:=F_v9
  b_v9:=b_v9
  m_v9:=PySem.W.mg_of X G (HD.nth y1 14 rfl rfl)
  kp_v9:=F_v9.kp
  F_d9:=F_d9
  b_d9:=b_d9
  me_d9:=⟨HD.nth y2 10 rfl rfl,HD.nth y3 10 rfl rfl,F_d9.kp⟩
  F_g9:=F_g9
  b_g9:=b_g9
  me_g9:=⟨HD.nth y2 11 rfl rfl,HD.nth y3 11 rfl rfl,F_g9.kp⟩
  F_m9:=F_m9
  b_m9:=b_m9
  me_m9:=⟨HD.nth y2 12 rfl rfl,HD.nth y3 12 rfl rfl,F_m9.kp⟩
  F_bd9:=F_bd9
  b_bd9:=b_bd9
  m_bd9:=PySem.W.mg_of X G (HD.nth y1 15 rfl rfl)
  kp_bd9:=F_bd9.kp
  F_s9:=F_s9
  b_s9:=b_s9
  m_s9:=PySem.W.mg_of X G (HD.nth y1 16 rfl rfl)
  kp_s9:=F_s9.kp
  F_bg9:=F_bg9
  b_bg9:=b_bg9
  m_bg9:=PySem.W.mg_of X G (HD.nth y1 17 rfl rfl)
  kp_bg9:=F_bg9.kp
  F_o9:=F_o9
  b_o9:=b_o9
  m_o9:=PySem.W.mg_of X G (HD.nth y1 18 rfl rfl)
  kp_o9:=F_o9.kp
  F_p9:=F_p9
  b_p9:=b_p9
  m_p9:=PySem.W.mg_of X G (HD.nth y1 19 rfl rfl)
  kp_p9:=F_p9.kp
  F_bf9:=F_bf9
  b_bf9:=b_bf9
  m_bf9:=PySem.W.mg_of X G (HD.nth y1 20 rfl rfl)
  kp_bf9:=F_bf9.kp
  F_q9:=F_q9
  b_q9:=b_q9
  m_q9:=PySem.W.mg_of X G (HD.nth y1 21 rfl rfl)
  kp_q9:=F_q9.kp
  g_SEAT:=⟨_,PySem.W.mg_of X G (HD.nth y1 22 rfl rfl)⟩
  g_MOST_HOUSES:=⟨_,PySem.W.mg_of X G (HD.nth y1 23 rfl rfl)⟩
  g_MOST_FOR_TABLES:=⟨_,PySem.W.mg_of X G (HD.nth y1 24 rfl rfl)⟩
  z_len:=PySem.W.mg_none_of X G (HD.nth y1 25 rfl rfl)
  z_range:=PySem.W.mg_none_of X G (HD.nth y1 26 rfl rfl)
  z_min:=PySem.W.mg_none_of X G (HD.nth y1 27 rfl rfl)
  z_max:=PySem.W.mg_none_of X G (HD.nth y1 28 rfl rfl)
  z_set:=PySem.W.mg_none_of X G (HD.nth y1 29 rfl rfl)
  z_list:=PySem.W.mg_none_of X G (HD.nth y1 30 rfl rfl)
  z_tuple:=PySem.W.mg_none_of X G (HD.nth y1 31 rfl rfl)
  z_isinstance:=PySem.W.mg_none_of X G (HD.nth y1 32 rfl rfl)
  z_bool:=PySem.W.mg_none_of X G (HD.nth y1 33 rfl rfl)
  z_int:=PySem.W.mg_none_of X G (HD.nth y1 34 rfl rfl)
  z_any:=PySem.W.mg_none_of X G (HD.nth y1 35 rfl rfl)
 }
 refine (ok_q9 T0).imp fun vs H Q E hs=>?_
 obtain ⟨a,xs,hv,hq,hl,ht,hk⟩:=hs
 refine Mi.cv2 bF5 hv hq hl (fun p hp=>?_) hk
 cases hp
theorem walk {K:PySem.W.Frag} {q:Program} {loose:List Str} {XP:(Str→Option Value)→Heap→Prop} {d:DefRec} (hdf:d.params.defaults=[]) (hnm:d.name = "law") (y:HD.obK nsL msL fsL csL dsL esL ksL K=xpL PySem.Challenge.pw_heraldways_k21_rings_of_wishes):PySem.W.WalkO q loose XP (fun _ h=>K.In h) PySem.Challenge.rw_heraldways_k21_rings_of_wishes.row.toRowW d [] (fun f vs=>PySem.call f vs) :=
 L2.bQ4 (l:=PySem.Challenge.rw_heraldways_k21_rings_of_wishes) (K:=fun _=>K) (n:=63) (k:=9) (x := "script") (CX:=fun _=>CX0) (sp:=fun _ T=>Mi.spT K T) tns rfl (by decide) hdf ⟨rfl,by decide,by decide⟩ (fun _ _ Y=>Y) (fun _ h=>absurd rfl h) (fun _ h=>(nomatch h)) (by unfold Tns.ok tns; decide) (fun w mg fa h T X G hfa TO=>cz8 X G (hnm ▸ hfa) TO y) (fun w T H a ns hl hO hS=>⟨a,ns,rfl,Mi.cl0 hO hS,hl,Mi.tb_of hO,fun _=>rfl⟩) fun _ _ _ _ _ z=>z
end K21
open PySem PySem.W PyProof.Rows
set_option maxRecDepth 100000 in
set_option maxHeartbeats 0 in
theorem PySem.Challenge.cw_heraldways_k21_rings_of_wishes_holds : PySem.Challenge.rw_heraldways_k21_rings_of_wishes.Holds := by
 refine K21.hd0 fun said=>?_
 refine holds_openX (q:=K21.qP PySem.Challenge.pw_heraldways_k21_rings_of_wishes) (loose:=[]) (Xt:=fun s=>xlAt (K21.qP PySem.Challenge.pw_heraldways_k21_rings_of_wishes) [] s && recOk (RowW.records PySem.Challenge.rw_heraldways_k21_rings_of_wishes.row.toRowW) s) (XP:=XL (K21.qP PySem.Challenge.pw_heraldways_k21_rings_of_wishes) []) (Yf:=HD.ob 357 K21.nsL K21.msL K21.fsL K21.csL K21.dsL K21.esL K21.ksL) (Ya:=fun _=>K21.xpL PySem.Challenge.pw_heraldways_k21_rings_of_wishes) (N:=5228) (fun w=>HD.two (K21.left1 w) (K21.left2 w)) (fun s e=>xl_of s (Bool.and_eq_true_iff.mp e).1) XL.keeps (by rfl) (by rfl) (by rfl) (fun s e=>recFacts_of (Bool.and_eq_true_iff.mp e).2) (by rfl) said (by decide +kernel) ⟨rfl,rfl,rfl,rfl,rfl,by decide +kernel⟩ ?hw (HD.walkX fun K y=>K21.walk rfl rfl y)
 case hw=>w_witness2
