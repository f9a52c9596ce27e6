import PyProof.Rows.All
import Wide.All
import OpenK.AllK
import Wide.FinOn
import Lean
import PyProof.EqAt
import PyProof.EqKinds
import PyProof.TupleCall
import KE.KLam
import KE.KMinKey
import KE.KDictList
import PySem.Challenge.RW_heraldways_k01_ways_laid
set_option Elab.async false
set_option linter.all false
set_option maxRecDepth 100000
namespace HD
open PySem PySem.W PyProof.Rows
noncomputable def top (p:Program) (i:Nat):Stmt:=p.main.body.getD i (.Pass ⟨0,0,0,0⟩)
noncomputable def iC (s:Stmt) (j:Nat):Stmt:=match s with
 | .ClassDef _ _ _ body _ _ _ _ _ _ _=>body.getD j (.Pass ⟨0,0,0,0⟩)
 | _=> .Pass ⟨0,0,0,0⟩
noncomputable def dA (s:Stmt):Arguments:=match s with
 | .FunctionDef _ a _ _ _ _ _ _ _ _=>a
 | _=>{ posonlyargs:=[],args:=[],vararg:=none,kwonlyargs:=[],kw_defaults:=[],kwarg:=none,defaults:=[] }
noncomputable def dB (s:Stmt):List Stmt:=match s with
 | .FunctionDef _ _ b _ _ _ _ _ _ _=>b
 | _=>[]
noncomputable def dS (s:Stmt):Scope:=match s with
 | .FunctionDef _ _ _ _ _ _ sc _ _ _=>sc
 | _=>{ kind:= .function,names:=[],isGenerator:=false,isCoroutine:=false }
noncomputable def frag (as:List Addr) (h:Heap):Frag:=as.filterMap fun a=>(h.get? a).map fun o=>(a,o)
theorem bD5 (as:List Addr) (h:Heap):(frag as h).In h:=by
 intro a o e
 induction as with
 | nil=>cases e
 | cons b as ih =>
   unfold frag at e
   rw [List.filterMap_cons] at e
   cases q:h.get? b with
   | none =>
     rw [q] at e
     exact ih e
   | some x =>
     rw [q] at e
     replace e:List.lookup a ((b,x) :: frag as h)=some o:=e
     rw [List.lookup_cons] at e
     by_cases z:a=b
     · subst z
       rw [beq_self_eq_true a] at e
       cases e
       exact q
     · rw [beq_eq_false_iff_ne.mpr z] at e
       exact ih e
noncomputable abbrev FnO:=Str×Str×Arguments×FuncBody×Scope×Addr×List (Str×Addr)×Value×Addr×Bool
noncomputable def fnO (K:Frag) (f:Addr) (q:Str):Option FnO:=match K.lookup f with
 | some ⟨_,_,.func fd,_⟩=>some (fd.name,fd.qualname,fd.params,fd.body,fd.scope,fd.globals,fd.closure,fd.defaults,fd.builtins,codeIn K fd.code q)
 | _=>none
noncomputable def fnE (x q:Str) (st:Stmt):Option FnO:=some (x,q,dA st,.stmts (dB st),dS st,mainGlobals,[],.none,builtinsNs,true)
theorem fn_of {K:Frag} {f:Addr} {x q:Str} {st:Stmt} (h:fnO K f q=fnE x q st):∃ (oc:Value) (od:Option Addr) (kV doc pm:Value) (an:Option Addr) (cdv ct:Value) (osl:Array (Option Value)),
 K.lookup f=some ⟨oc,od,.func (fnOf x q (dA st) (dB st) (dS st) .none kV doc pm an cdv ct),osl⟩∧codeIn K cdv q=true:=by
 unfold fnO at h
 split at h
 · next oc od fd osl e =>
   obtain ⟨n,qn,pr,bd,sc,gl,cl,df,kd,dc,pm,an,cd,ct,bi⟩:=fd
   unfold fnE at h
   simp only [Option.some.injEq,Prod.mk.injEq] at h
   obtain ⟨rfl,rfl,rfl,rfl,rfl,rfl,rfl,rfl,rfl,hc⟩:=h
   exact ⟨oc,od,kd,dc,pm,an,cd,ct,osl,e,hc⟩
 · exact nomatch h
theorem fn_keep {K:Frag} {f:Addr} {x q:Str} {st:Stmt} (h:fnO K f q=fnE x q st):keepIn K (.ref f)=true:=by
 obtain ⟨oc,od,kV,doc,pm,an,cdv,ct,osl,e,_⟩:=fn_of h
 show (match K.lookup f with | some ⟨_,_,.func _,_⟩=>true | some ⟨_,_,.cls _,_⟩=>specialIn K (.ref f) "__call__" == some (some (.builtin "type.__call__")) | _=>false)=true
 rw [e]
noncomputable def mroK (K:Frag) (C:Addr):List Value:=match K.lookup C with
 | some ⟨_,_,.cls cd,_⟩=>cd.mro
 | _=>[]
noncomputable def excK (K:Frag) (C:Addr):Bool:=excIn K C [.type "ValueError",.type "Exception",.type "BaseException",.type "object"] "ValueError.__new__"
noncomputable def excAt (K:Frag) (D:Addr):Bool:=findIn K (.ref D) "__getattribute__" == some (some (.builtin "BaseException.__getattribute__")) && (findIn K (.ref D) "__getattr__" == some none && (findIn K (.ref D) "__class__" == some (some (.builtin "object.__class__")) &&
 (specialIn K (.builtin "object.__class__") "__get__" == some (some (.builtin "getset_descriptor.__get__")) && (takesIn K (.builtin "object.__class__") == some true && (mroIn K D (.type "object") == some true && (mroIn K D (.type "BaseException") == some true && (clsIn K D).isSome))))))
noncomputable abbrev Ob:=List (Option (Option Value))×List (Option (Option Value))×List Bool×List (Option FnO)×List (Bool×List Value)×List (Option Bool)
noncomputable def cls (K:Frag) (C:Addr):Bool:=plainGet K C Str.empty && (hasDictIn K C && (plainOver K C && (makesIn K C && keepIn K (.ref C))))
noncomputable def obK (ns:List Str) (ms:List (Addr×Str)) (fs cs:List Addr) (ds:List (Addr×Str)) (es:List Addr) (ks:List (Addr×Value)) (K:Frag):Ob :=
 (ns.map (nsIn K mainGlobals),ms.map (fun p=>findIn K (.ref p.1) p.2),(fs.map fun f=>isFn K (.ref f)) ++ cs.map (cls K),ds.map (fun p=>fnO K p.1 p.2),es.map (fun C=>(excK K C && excAt K C,mroK K C)),ks.map fun p=>kitOne K (.ref p.1) p.2)
noncomputable def ob (n:Nat) (ns:List Str) (ms:List (Addr×Str)) (fs cs:List Addr) (ds:List (Addr×Str)) (es:List Addr) (ks:List (Addr×Value)) (s:Shared):Ob:=obK ns ms fs cs ds es ks (frag (List.range n) s.heap)
theorem two {α β γ:Type} {o:Option α} {f:α→β} {g:α→γ} {a:β} {b:γ} (h1:o.map f=some a) (h2:o.map g=some b):o.map (fun s=>(f s,g s))=some (a,b):=by
 cases o with
 | none=>cases h1
 | some s=>cases h1; cases h2; rfl
theorem nth {α:Type} {l m:List α} (h:l=m) (i:Nat) {a b:α} (ha:l[i]?=some a) (hb:m[i]?=some b):a=b:=by
 subst h
 rw [ha] at hb
 exact Option.some.inj hb
theorem cls_of {K:Frag} {C:Addr} (h:cls K C=true):plainGet K C Str.empty=true∧hasDictIn K C=true∧plainOver K C=true∧makesIn K C=true∧keepIn K (.ref C)=true:=by
 unfold cls at h
 simpa only [Bool.and_eq_true] using h
theorem walkX {q:Program} {loose:List Str} {XP:(Str→Option Value)→Heap→Prop} {n:Nat} {ns:List Str} {ms:List (Addr×Str)} {fs cs:List Addr} {ds:List (Addr×Str)} {es:List Addr} {ks:List (Addr×Value)} {E:Ob} {r:RowW} {d:DefRec} {kwd:List (Str×Expr)} {run:Value→List Value→Sem Value}
 (W:∀ K:Frag,obK ns ms fs cs ds es ks K=E→WalkO q loose XP (fun _ h=>K.In h) r d kwd run):WalkX q loose XP (ob n ns ms fs cs ds es ks) (fun _=>E) r d kwd run :=
 fun w s0 s1 mg mb G y a o pm cd doc dV kV h1 h2 h3 h4 h5 h6 args vals as1 L b1 b2 b3 b4 b5=>W _ y w s0 s1 mg mb G ((bD5 _ _).keeps L.keeps) a o pm cd doc dV kV h1 h2 h3 h4 h5 h6 args vals as1 b1 b2 b3 b4 b5
end HD
set_option maxHeartbeats 4000000
namespace K01
open PySem PySem.W PyProof.Rows
theorem hd0 (h:PySem.Challenge.rw_heraldways_k01_ways_laid.row.wellSaid=true→PySem.Challenge.rw_heraldways_k01_ways_laid.row.Holds):PySem.Challenge.rw_heraldways_k01_ways_laid.Holds:=by
 w_on; o_law; exact h (by assumption)
noncomputable abbrev qP (p:Program):Program:=view p [0,2,3,4,5,7,8,9,10,12,13,14,15,16,17,18,19,20,21]
noncomputable def nsL:List Str := "Guild" :: "_law_cell_at" :: "_law_due" :: "_law_marks" :: "_law_ties" :: "_law_whole" :: "require_within" :: "_law_no_guild" :: "_law_ties_told" :: "_law_did" :: "_law_end" :: "law" :: "SEAT" :: "MOST_HOUSES" :: "len" :: "range" :: "min" :: "max" :: "list" :: "isinstance" :: "bool" :: "int" :: "ValueError" :: "GuildError" :: "NoHouse" :: "NoWay" :: "WayThere" :: []
noncomputable def msL:List (Addr×Str):=(218, "__init__") :: (218, "houses_paired") :: (218, "size") :: (218, "require_houses") :: (218, "has_way") :: (218, "neighbours") :: (218, "require_two_houses") :: (218, "lay_way") :: (218, "lift_way") :: (218, "__setattr__") :: (218, "house_count") :: (218, "ways") :: (218, "likings") :: (218, "shuns") :: (218, "wish_ranks") :: []
noncomputable def fsL:List Addr:=[91,180,98,201,112,105,208,119,126]
noncomputable def csL:List Addr:=[218]
noncomputable def dsL:List (Addr×Str):=(91, "Guild.__init__") :: (180, "Guild.houses_paired") :: (98, "Guild.size") :: (229, "_law_cell_at") :: (248, "_law_due") :: (262, "_law_marks") :: (241, "_law_ties") :: (236, "_law_whole") :: (77, "require_within") :: (201, "Guild.require_houses") :: (112, "Guild.has_way") :: (105, "Guild.neighbours") :: (208, "Guild.require_two_houses") :: (283, "_law_no_guild") :: (119, "Guild.lay_way") :: (126, "Guild.lift_way") :: (269, "_law_ties_told") :: (255, "_law_did") :: (276, "_law_end") :: (290, "law") :: []
noncomputable def esL:List Addr:=[31,44,56,68]
noncomputable def ksL:List (Addr×Value):=(44,.ref 31) :: (31,.ref 44) :: (31,.ref 68) :: (31,.ref 56) :: (31,.type "ValueError") :: (44,.ref 44) :: (44,.ref 68) :: (44,.ref 56) :: (44,.type "ValueError") :: (56,.ref 44) :: (56,.ref 68) :: (56,.ref 56) :: (56,.type "ValueError") :: (68,.ref 44) :: (68,.ref 68) :: (68,.ref 56) :: (68,.type "ValueError") :: []
noncomputable def xpL (p:Program):HD.Ob:=(some (some (.ref 218)) :: some (some (.ref 229)) :: some (some (.ref 248)) :: some (some (.ref 262)) :: some (some (.ref 241)) :: some (some (.ref 236)) :: some (some (.ref 77)) :: some (some (.ref 283)) :: some (some (.ref 269)) :: some (some (.ref 255)) :: some (some (.ref 276)) :: some (some (.ref 290)) :: some (some (.int 0 264)) :: some (some (.int 60 266)) :: some none :: some none :: some none :: some none :: some none :: some none :: some none :: some none :: some none :: some (some (.ref 31)) :: some (some (.ref 44)) :: some (some (.ref 56)) :: some (some (.ref 68)) :: [],some (some (.ref 91)) :: some (some (.ref 180)) :: some (some (.ref 98)) :: some (some (.ref 201)) :: some (some (.ref 112)) :: some (some (.ref 105)) :: some (some (.ref 208)) :: some (some (.ref 119)) :: some (some (.ref 126)) :: some (some (.builtin "object.__setattr__")) :: some none :: some none :: some none :: some none :: some none :: [],true :: true :: true :: true :: true :: true :: true :: true :: true :: true :: [],HD.fnE "__init__" "Guild.__init__" (HD.iC (HD.top p 10) 0) :: HD.fnE "houses_paired" "Guild.houses_paired" (HD.iC (HD.top p 10) 13) :: HD.fnE "size" "Guild.size" (HD.iC (HD.top p 10) 1) :: HD.fnE "_law_cell_at" "_law_cell_at" (HD.top p 12) :: HD.fnE "_law_due" "_law_due" (HD.top p 15) :: HD.fnE "_law_marks" "_law_marks" (HD.top p 17) :: HD.fnE "_law_ties" "_law_ties" (HD.top p 14) :: HD.fnE "_law_whole" "_law_whole" (HD.top p 13) :: HD.fnE "require_within" "require_within" (HD.top p 9) :: HD.fnE "require_houses" "Guild.require_houses" (HD.iC (HD.top p 10) 16) :: HD.fnE "has_way" "Guild.has_way" (HD.iC (HD.top p 10) 3) :: HD.fnE "neighbours" "Guild.neighbours" (HD.iC (HD.top p 10) 2) :: HD.fnE "require_two_houses" "Guild.require_two_houses" (HD.iC (HD.top p 10) 17) :: HD.fnE "_law_no_guild" "_law_no_guild" (HD.top p 20) :: HD.fnE "lay_way" "Guild.lay_way" (HD.iC (HD.top p 10) 4) :: HD.fnE "lift_way" "Guild.lift_way" (HD.iC (HD.top p 10) 5) :: HD.fnE "_law_ties_told" "_law_ties_told" (HD.top p 18) :: HD.fnE "_law_did" "_law_did" (HD.top p 16) :: HD.fnE "_law_end" "_law_end" (HD.top p 19) :: HD.fnE "law" "law" (HD.top p 21) :: [],(true,[.ref 31,.type "ValueError",.type "Exception",.type "BaseException",.type "object"]) :: (true,[.ref 44,.ref 31,.type "ValueError",.type "Exception",.type "BaseException",.type "object"]) :: (true,[.ref 56,.ref 31,.type "ValueError",.type "Exception",.type "BaseException",.type "object"]) :: (true,[.ref 68,.ref 31,.type "ValueError",.type "Exception",.type "BaseException",.type "object"]) :: [],some true :: some false :: some false :: some false :: some true :: some true :: some false :: some false :: some true :: some false :: some false :: some true :: some true :: some false :: some true :: some false :: some true :: [])
theorem left1 (w:World):(openEnds treeTable PySem.Challenge.pw_heraldways_k01_ways_laid w 4240).map (openSeen (qP PySem.Challenge.pw_heraldways_k01_ways_laid) [] (importedModules PySem.Challenge.pw_heraldways_k01_ways_laid.main.body) (fun s=>xlAt (qP PySem.Challenge.pw_heraldways_k01_ways_laid) [] s && recOk (RowW.records PySem.Challenge.rw_heraldways_k01_ways_laid.row.toRowW) s) true)=some (openGood (qP PySem.Challenge.pw_heraldways_k01_ways_laid) []):=by
 rw [Fast.te14364793385576792824,Fast.te4187177175401517315,Fast.te5923862056798008813,Fast.te12184672648857772865]
 kernel_rfl
theorem left2 (w:World):(openEnds treeTable PySem.Challenge.pw_heraldways_k01_ways_laid w 4240).map (HD.ob 291 nsL msL fsL csL dsL esL ksL)=some (xpL PySem.Challenge.pw_heraldways_k01_ways_laid):=by
 rw [Fast.te14364793385576792824,Fast.te12184672648857772865]
 kernel_rfl
end K01
namespace L2
open PySem PySem.Spec PyProof.Rows
noncomputable abbrev Key:=Sum Int Str
noncomputable def aS2:Key→Value→Bool
 | .inl k,v=>Value.isInt k v
 | .inr x,v=>Value.isStrOf x v
noncomputable def keyH (w:World):Key→Int
 | .inl k=>hashInt k
 | .inr x=>hashStr w x
theorem ad1:∀ {k:Key} {v:Value},aS2 k v=true→(∃ i t,k=Sum.inl i∧v=Value.int i t)∨(∃ x t,k=Sum.inr x∧v=Value.str x t)
 | .inl i,v,h=>by
   obtain ⟨t,e⟩:=Value.isInt_shape (k:=i) (v:=v) h
   exact .inl ⟨i,t,rfl,e⟩
 | .inr x,v,h=>by
   obtain ⟨t,e⟩:=Value.isStrOf_shape (x:=x) (v:=v) h
   exact .inr ⟨x,t,rfl,e⟩
theorem aZ4 (i:Int) (t:Tok):aS2 (.inl i) (.int i t)=true:=by simp [aS2,Value.isInt]
theorem aZ3 (x:Str) (t:Tok):aS2 (.inr x) (.str x t)=true:=by simp [aS2,Value.isStrOf]
theorem bO0 (a b:Int):decide ((Sum.inl a:Key)=Sum.inl b)=(a == b):=by
 by_cases e:a=b
 · subst e; simp
 · have h:¬ (Sum.inl a:Key)=Sum.inl b:=fun q=>e (Sum.inl.inj q)
   rw [decide_eq_false h]
   exact (beq_eq_false_iff_ne.mpr e).symm
theorem bN7 (a b:Str):decide ((Sum.inr a:Key)=Sum.inr b)=decide (a=b):=by
 by_cases e:a=b
 · subst e; simp
 · have h:¬ (Sum.inr a:Key)=Sum.inr b:=fun q=>e (Sum.inr.inj q)
   rw [decide_eq_false h,decide_eq_false e]
theorem bN9 (a:Int) (b:Str):decide ((Sum.inl a:Key)=Sum.inr b)=false:=decide_eq_false (fun q=>nomatch q)
theorem bN8 (a:Str) (b:Int):decide ((Sum.inr a:Key)=Sum.inl b)=false:=decide_eq_false (fun q=>nomatch q)
noncomputable def ac6 (prog:Program) (w:World):PySem.KeyKind prog w Key where
 is:=aS2
 hash:=keyH w
 inj:=fun v a b ha hb=>by
  rcases ad1 ha with ⟨i,t,rfl,rfl⟩ | ⟨x,t,rfl,rfl⟩
  · rcases ad1 hb with ⟨j,u,rfl,e⟩ | ⟨y,u,rfl,e⟩
    · injection e with e1 _; rw [e1]
    · exact nomatch e
  · rcases ad1 hb with ⟨j,u,rfl,e⟩ | ⟨y,u,rfl,e⟩
    · exact nomatch e
    · injection e with e1 _; rw [e1]
 byValue:=fun k v h=>by
  rcases ad1 h with ⟨i,t,rfl,rfl⟩ | ⟨x,t,rfl,rfl⟩ <;> rfl
 pyHash:=fun hv h=>by
  rcases ad1 hv with ⟨i,t,rfl,rfl⟩ | ⟨x,t,rfl,rfl⟩
  · exact wpAny_pyHash_int h
  · exact wpAny_pyHash_str h
 eqBool:=fun hu hv h=>by
  rcases ad1 hu with ⟨i,t,rfl,rfl⟩ | ⟨x,t,rfl,rfl⟩
  · rcases ad1 hv with ⟨j,u,rfl,rfl⟩ | ⟨y,u,rfl,rfl⟩
    · rw [bO0] at h; exact wpAny_eqBool_int h
    · rw [bN9] at h; exact SeqAt.EqAt.int_str i t y u _ _ _ _ h
  · rcases ad1 hv with ⟨j,u,rfl,rfl⟩ | ⟨y,u,rfl,rfl⟩
    · rw [bN8] at h; exact SeqAt.EqAt.str_int x t j u _ _ _ _ h
    · rw [bN7] at h; exact wpAny_eqBool_str h
 «strs»:=fun k x t v h=>by
  rcases ad1 h with ⟨i,u,rfl,e⟩ | ⟨y,u,rfl,e⟩
  · exact nomatch e
  · injection e with e1 _
    subst e1
    cases v <;> rfl
theorem aI5 (prog:Program) (w:World) (i:Int) (t:Tok):(ac6 prog w).is (.inl i) (.int i t)=true:=aZ4 i t
theorem aI4 (prog:Program) (w:World) (x:Str) (t:Tok):(ac6 prog w).is (.inr x) (.str x t)=true:=aZ3 x t
inductive V where
 | non | bl (b:Bool) | int (i:Int) | str (x:Str) | byt (b:Array UInt8) | flt (b:UInt64) | ref (a:Addr) | ty (n:String)
 deriving DecidableEq
noncomputable def RelV:V→Value→Prop
 | .non,u=>u=Value.none
 | .bl b,u=>u=Value.bool b
 | .int i,u=>∃ t,u=Value.int i t
 | .str x,u=>∃ t,u=Value.str x t
 | .byt b,u=>∃ t,u=Value.bytes b t
 | .flt b,u=>∃ t,u=Value.float b t
 | .ref a,u=>u=Value.ref a
 | .ty n,u=>u=Value.type n
noncomputable abbrev Vals:List V→List Value→Prop:=Paired RelV
theorem Vals.length {xs:List V} {us:List Value} (r:Vals xs us):xs.length=us.length:=Paired.length r
theorem Vals.get:∀ {xs:List V} {us:List Value} {i:Nat} {x:V},Vals xs us→xs[i]?=some x→∃ u,us[i]?=some u∧RelV x u
 | _,_,_,_,.nil,e=>by simp at e
 | _,_,0,_,.cons r _,e=>by simp at e; subst e; exact ⟨_,rfl,r⟩
 | _,_,i + 1,x,.cons _ t,e=>by
   obtain ⟨u,h1,h2⟩:=Vals.get (i:=i) (x:=x) t (by simpa using e)
   exact ⟨u,by simpa using h1,h2⟩
theorem Vals.set {x:V} {u:Value} (r:RelV x u):∀ {xs:List V} {us:List Value} (i:Nat),Vals xs us→Vals (xs.set i x) (us.set i u)
 | _,_,_,.nil=> .nil
 | _,_,0,.cons _ t=> .cons r t
 | _,_,i + 1,.cons q t=> .cons q (Vals.set r i t)
theorem Vals.append:∀ {xs ys:List V} {us ws:List Value},Vals xs us→Vals ys ws→Vals (xs ++ ys) (us ++ ws)
 | _,_,_,_,.nil,s=>s
 | _,_,_,_,.cons r t,s=> .cons r (Vals.append t s)
theorem Vals.take:∀ {xs:List V} {us:List Value} (n:Nat),Vals xs us→Vals (xs.take n) (us.take n)
 | _,_,0,_=> .nil
 | _,_,_ + 1,.nil=> .nil
 | _,_,n + 1,.cons r t=> .cons r (Vals.take n t)
theorem Vals.drop:∀ {xs:List V} {us:List Value} (n:Nat),Vals xs us→Vals (xs.drop n) (us.drop n)
 | _,_,0,r=>r
 | _,_,_ + 1,.nil=> .nil
 | _,_,n + 1,.cons _ t=>Vals.drop n t
theorem Vals.none_of:∀ {xs:List V} {us:List Value} {i:Nat},Vals xs us→xs[i]?=none→us[i]?=none:=fun {xs us i} r e=>by
 have h1:=r.length
 have h2:xs.length≤i:=List.getElem?_eq_none_iff.mp e
 exact List.getElem?_eq_none_iff.mpr (by omega)
noncomputable def RelO:Option V→Option Value→Prop
 | some v,some u=>RelV v u
 | none,none=>True
 | _,_=>False
noncomputable def KV {κ:Type}:List (κ×V)→List (κ×Value)→Prop:=Paired fun (p:κ×V) (q:κ×Value)=>p.1=q.1∧RelV p.2 q.2
noncomputable def kV:Key→V
 | .inl i=> .int i
 | .inr x=> .str x
inductive HO where
 /-- a list -/
 | lst (xs:List V)
 /-- a tuple (never changes) -/
 | tup (xs:List V)
 /-- a dict whose keys are ints and texts; one whose keys are tuples of ints and texts (the empty one is both) -/
 | dK (kvs:List (Key×V)) | dT (kvs:List (List Key×V))
 /-- a set of ints: its members,its size -/
 | set (S:Int→Bool) (n:Nat)
 /-- an instance of the class at C,its dict at dx,its attributes -/
 | ins (C dx:Addr) (fs:List (Str×V))
 /-- the dict of the instance at x -/
 | own (x:Addr)
 /-- the dict of an exception -/
 | xd (fs:List (Str×V))
 /-- a bound method,f of x -/
 | met (f x:Addr)
 /-- a range object lo,lo + 1,.. below hi -/
 | rng (lo hi:Int)
 /-- a thing that is known to the object (the script; a dict while a loop walks it): read,never written while it is so -/
 | frz (o:Obj) (u:HO)
 /-- a code object's table: at each of these places nothing,or a code of that name -/
 | tbl (l:List (Pos×Str))
 /-- any other thing,by what is true of its one object (a def of one's own: SetO a S n:=HO.ext fun h=> ..) -/
 | ext (φ:Heap→Prop)
noncomputable abbrev Hp:=Addr→Option HO
noncomputable def upd (H:Hp) (a:Addr) (o:HO):Hp:=fun b=>if b=a then some o else H b
theorem ac1 {H:Hp} {a:Addr} {o:HO}:upd H a o a=some o:=by unfold upd; rw [if_pos rfl]
theorem ab5 {H:Hp} {a b:Addr} {o:HO} (h:b≠a):upd H a o b=H b:=by unfold upd; rw [if_neg h]
theorem bi7 {H:Hp} {a b:Addr} {o u:HO} (h:H a=some o) (h':H b=some u) (d:o≠u):a≠b:=by
 intro e; subst e; rw [h] at h'; exact d (Option.some.inj h')
theorem ab3 {H:Hp} {a b:Addr} {o:HO} (h:H a=some o) (h':H b=none):a≠b:=by
 intro e; subst e; rw [h] at h'; cases h'
section
variable (P:Program) (w:World)
noncomputable def ObjOk (H:Hp) (h:Heap) (a:Addr):HO→Prop
 | .lst xs=>xs.length≤sizeLine∧∃ (its:List Value) (n:Nat),Vals xs its∧h.get? a=some { cls:= .type "list",data:= .seq its.toArray n }
 | .tup xs=>xs.length≤sizeLine∧∃ its:List Value,Vals xs its∧IsTup h a its.toArray
 | .dK kvs=>kvs.length≤sizeLine∧(a == sysModules)=false∧∃ vs,KV kvs vs∧h.DictOf (ac6 P w) a vs
 | .dT kvs=>kvs.length≤sizeLine∧(a == sysModules)=false∧∃ xs:List (List Key×Addr×Value),
    Paired (fun (p:List Key×V) (q:List Key×Addr×Value)=>p.1=q.1∧H q.2.1=some (.tup (p.1.map kV))∧RelV p.2 q.2.2) kvs xs ∧
    ∃ o es ep,h.get? a=some o∧o.ExactDict∧o.data= .dict es ep∧es.toList=xs.map (entryOfKey (tupleKind (ac6 P w)))∧(xs.map (·.1)).Nodup
 | .set S n=>h.SetOf (intKind P w) a S n
 | .ins C dx fs=>H dx=some (.own a)∧fs.length≤1000∧dx≠a∧h.get? a=some (PySem.W.instObj C dx) ∧
    ∃ mA,h.Ns1 dx mA∧(∀ f,RelO (fs.lookup f) (mA f))∧PySem.Within mA (fs.map (·.1))
 | .own _=>∃ o,h.get? a=some o
 | .xd fs=>∃ mA,h.Ns1 a mA∧∀ f,RelO (fs.lookup f) (mA f)
 | .rng lo hi=>∃ t u v,h.get? a=some { cls:= .type "range",data:= .fields #[.int lo t,.int hi u,.int 1 v] }
 | .frz o u=>h.get? a=some o∧ObjOk H h a u
 | .tbl l=>(∀ y∈l,∀ z∈l,y.1.line=z.1.line→y.1.col=z.1.col→y.2=z.2)∧∃ ps:Array Value,h.get? a=some { cls:= .none,data:= .fields ps }∧TriplesOk ps.toList∧∀ x∈l,codeAmong x.1 ps.toList=none∨∃ c,codeAmong x.1 ps.toList=some (.ref c)∧H c=some (.own a)∧h.CodeRec (.ref c) x.2
 | .met f x=>h.get? a=some (PySem.W.methodObj (.ref f) (.ref x))
 | .ext φ=>φ h∧(∃ o,h.get? a=some o)∧∀ h1 h2:Heap,φ h1→(∀ o,h1.get? a=some o→h2.get? a=some o)→φ h2
noncomputable def HOk (H:Hp) (h:Heap):Prop:=∀ a o,H a=some o→ObjOk P w H h a o
end
section
variable {P:Program} {w:World} {H H':Hp} {h h':Heap} {a:Addr} {o:HO}
theorem ObjOk.lt (x:ObjOk P w H h a o):a < h.objs.size:=by
 cases o with
 | lst xs=>obtain ⟨_,_,_,_,e⟩:=x; exact Heap.lt_size e
 | tup xs=>obtain ⟨_,_,_,p⟩:=x; exact p.lt
 | dK kvs=>obtain ⟨_,_,_,_,o,_,_,e,_⟩:=x; exact Heap.lt_size e
 | dT kvs=>obtain ⟨_,_,_,_,o,_,_,e,_⟩:=x; exact Heap.lt_size e
 | set S n=>obtain ⟨o,_,_,_,e,_⟩:=x; exact Heap.lt_size e
 | ins C dx fs=>obtain ⟨_,_,_,e,_⟩:=x; exact Heap.lt_size e
 | own y=>obtain ⟨_,e⟩:=x; exact Heap.lt_size e
 | xd fs=>obtain ⟨_,⟨_,_,_,e,_⟩,_⟩:=x; exact Heap.lt_size e
 | rng lo hi=>obtain ⟨_,_,_,e⟩:=x; exact Heap.lt_size e
 | frz ob u=>obtain ⟨e,_⟩:=x; exact Heap.lt_size e
 | tbl l=>obtain ⟨_,_,e,_⟩:=x; exact Heap.lt_size e
 | met f y=>exact Heap.lt_size (show h.get? a=some _ from x)
 | ext φ=>obtain ⟨_,⟨_,e⟩,_⟩:=x; exact Heap.lt_size e
theorem Paired.mapP {α β:Type} {F G:α→β→Prop}:∀ {l₁:List α} {l₂:List β},Paired F l₁ l₂→(∀ a b,F a b→G a b)→Paired G l₁ l₂
 | _,_,.nil,_=> .nil
 | _,_,.cons r t,f=> .cons (f _ _ r) (Paired.mapP t f)
theorem ObjOk.stay (x:ObjOk P w H h a o) (k:∀ b u,(b=a∨H b=some (.own a))→h.get? b=some u→h'.get? b=some u)
 (ho:∀ b,H b=some (.own a)→H' b=some (.own a)) (ht:∀ b xs,H b=some (.tup xs)→H' b=some (.tup xs)):ObjOk P w H' h' a o:=by
 induction o with
 | lst xs=>obtain ⟨z,its,n,r,e⟩:=x; exact ⟨z,its,n,r,k _ _ (.inl rfl) e⟩
 | tup xs=>obtain ⟨z,its,r,ob,e,c⟩:=x; exact ⟨z,its,r,ob,k _ _ (.inl rfl) e,c⟩
 | dK kvs=>obtain ⟨z,y,vs,r,ob,es,ep,e,c⟩:=x; exact ⟨z,y,vs,r,ob,es,ep,k _ _ (.inl rfl) e,c⟩
 | dT kvs =>
   obtain ⟨z,y,xs,r,ob,es,ep,e,c⟩:=x
   exact ⟨z,y,xs,Paired.mapP r fun p q z=>⟨z.1,ht _ _ z.2.1,z.2.2⟩,ob,es,ep,k _ _ (.inl rfl) e,c⟩
 | set S n=>obtain ⟨ob,es,ep,t,e,c⟩:=x; exact ⟨ob,es,ep,t,k _ _ (.inl rfl) e,c⟩
 | ins C dx fs =>
   obtain ⟨d,z,ne,e,mA,⟨od,es,ep,e2,c⟩,r⟩:=x
   exact ⟨ho _ d,z,ne,k _ _ (.inl rfl) e,mA,⟨od,es,ep,k _ _ (.inr d) e2,c⟩,r⟩
 | own y=>obtain ⟨ob,e⟩:=x; exact ⟨ob,k _ _ (.inl rfl) e⟩
 | xd fs=>obtain ⟨mA,⟨od,es,ep,e,c⟩,r⟩:=x; exact ⟨mA,⟨od,es,ep,k _ _ (.inl rfl) e,c⟩,r⟩
 | rng lo hi=>obtain ⟨t,u,v,e⟩:=x; exact ⟨t,u,v,k _ _ (.inl rfl) e⟩
 | frz ob u ih=>obtain ⟨e,q⟩:=x; exact ⟨k _ _ (.inl rfl) e,ih q⟩
 | tbl l =>
   obtain ⟨cl,ps,e,t,q⟩:=x
   refine ⟨cl,ps,k _ _ (.inl rfl) e,t,fun y hy=>?_⟩
   rcases q y hy with z | ⟨c,z,hc,⟨c',o,vs,tt,ec,g,r⟩⟩
   · exact .inl z
   · cases ec
     exact .inr ⟨c,z,ho _ hc,⟨c,o,vs,tt,rfl,k _ _ (.inr hc) g,r⟩⟩
 | met f y =>
   have e:h.get? a=some (PySem.W.methodObj (.ref f) (.ref y)):=x
   show h'.get? a=some (PySem.W.methodObj (.ref f) (.ref y))
   exact k a _ (.inl rfl) e
 | ext φ=>obtain ⟨p,⟨o,e⟩,st⟩:=x; exact ⟨st _ _ p fun o q=>k _ _ (.inl rfl) q,⟨o,k _ _ (.inl rfl) e⟩,st⟩
theorem HOk.lt (x:HOk P w H h) (e:H a=some o):a < h.objs.size:=(x a o e).lt
theorem HOk.fresh (x:HOk P w H h) (e:h.objs.size≤a):H a=none:=by
 cases q:H a with
 | none=>rfl
 | some u=>exact absurd (Nat.lt_of_lt_of_le (x.lt q) e) (Nat.lt_irrefl _)
theorem HOk.kept (x:HOk P w H h) (k:∀ b u,h.get? b=some u→h'.get? b=some u):HOk P w H h':=fun a o e =>
 (x a o e).stay (fun b u _ q=>k b u q) (fun _ q=>q) fun _ _ q=>q
theorem HOk.laid (x:HOk P w H h) (k:∀ b u,h.get? b=some u→h'.get? b=some u) (hp:h.objs.size≤a) (new:ObjOk P w (upd H a o) h' a o):HOk P w (upd H a o) h':=fun b u e=>by
 have hn:=x.fresh hp
 by_cases hb:b=a
 · subst hb; rw [ac1] at e; cases e; exact new
 · rw [ab5 hb] at e
   exact (x b u e).stay (fun c v _ q=>k c v q) (fun c q=>by rw [ab5 (ab3 q hn)]; exact q) fun c xs q=>by rw [ab5 (ab3 q hn)]; exact q
end
noncomputable def Rd (H:Hp) (a:Addr) (u:HO):Prop:=H a=some u∨∃ o,H a=some (.frz o u)
theorem Rd.of {H:Hp} {a:Addr} {u:HO} (h:H a=some u):Rd H a u:= .inl h
theorem Rd.ok {P:Program} {w:World} {H:Hp} {h:Heap} {a:Addr} {u:HO} (r:Rd H a u) (x:HOk P w H h):ObjOk P w H h a u:=by
 rcases r with r | ⟨o,r⟩
 · exact x a u r
 · obtain ⟨_,q⟩:=x a _ r
   exact q
noncomputable def Mut:Option HO→Prop
 | some (.lst _)=>True
 | some (.dK _)=>True
 | some (.dT _)=>True
 | some (.set _ _)=>True
 | some (.ins _ _ _)=>True
 | some (.ext _)=>True
 | _=>False
section
variable {P:Program} {w:World} {H:Hp} {h h':Heap} {x e:Addr} {o':HO}
theorem HOk.write (ok:HOk P w H h) (mu:Mut (H x)) (he:e=x∨H e=some (.own x)) (k:∀ b u,b≠e→h.get? b=some u→h'.get? b=some u) (heo:∃ u,h'.get? e=some u)
 (new:ObjOk P w (upd H x o') h' x o'):HOk P w (upd H x o') h':=fun b u q=>by
 have nown:∀ c y,H c=some (.own y)→c≠x:=fun c y r z=>by subst z; rw [r] at mu; exact mu
 have ntup:∀ c xs,H c=some (.tup xs)→c≠x:=fun c xs r z=>by subst z; rw [r] at mu; exact mu
 by_cases hb:b=x
 · subst hb; rw [ac1] at q; cases q; exact new
 · rw [ab5 hb] at q
   by_cases hbe:b=e
   · have q':H b=some (.own x):=by
      rcases he with z | z
      · exact absurd (hbe.trans z) hb
      · rw [hbe]; exact z
     rw [q] at q'; cases q'
     obtain ⟨v,hv⟩:=heo
     exact ⟨v,by rw [hbe]; exact hv⟩
   · refine (ok b u q).stay (fun c v hc r=>k c v ?_ r) (fun c r=>by rw [ab5 (nown c b r)]; exact r) fun c xs r=>by rw [ab5 (ntup c xs r)]; exact r
     rcases hc with rfl | hc
     · exact hbe
     · rintro rfl
       rcases he with z | z
       · exact nown c b hc z
       · rw [hc] at z; cases z; exact hb rfl
end
structure Un (fs ex:List Addr) (H H':Hp) (h h':Heap):Prop where
 keep:∀ b o,h.get? b=some o→H b=none→b∉fs→b∉ex→h'.get? b=some o
 slot:∀ b o,h.get? b=some o→H b=none→b∈fs→b∉ex→∃ sl,h'.get? b=some { o with slots:=sl }
 free:∀ b o,h.get? b=some o→H b=none→b∉ex→H' b=none
 there:∀ b o,h.get? b=some o→b∉ex→∃ o',h'.get? b=some o'
 tups:∀ b xs,H b=some (.tup xs)→H' b=some (.tup xs)
 frzs:∀ b o u,H b=some (.frz o u)→H' b=some (.frz o u)
 tbls:∀ b l,H b=some (.tbl l)→H' b=some (.tbl l)∧∀ c o,H c=some (.own b)→h.get? c=some o→H' c=some (.own b)∧h'.get? c=some o
section
variable {fs fs' ex ex':List Addr} {H H1 H2:Hp} {h h1 h2 h':Heap} {a x e:Addr} {o:HO}
theorem Un.any (u:Un fs ex H H1 h h1) {b:Addr} {ob:Obj} (q:h.get? b=some ob) (n:H b=none) (hx:b∉ex):∃ sl,h1.get? b=some { ob with slots:=sl }:=by
 by_cases hb:b∈fs
 · exact u.slot b ob q n hb hx
 · exact ⟨ob.slots,u.keep b ob q n hb hx⟩
theorem Un.trans (a:Un fs ex H H1 h h1) (b:Un fs ex H1 H2 h1 h2):Un fs ex H H2 h h2 where
 keep:=fun c ob q n hc hx=>b.keep c ob (a.keep c ob q n hc hx) (a.free c ob q n hx) hc hx
 slot:=fun c ob q n hc hx=>by
  obtain ⟨sl,e1⟩:=a.slot c ob q n hc hx
  obtain ⟨sl',e2⟩:=b.slot c _ e1 (a.free c ob q n hx) hc hx
  exact ⟨sl',e2⟩
 free:=fun c ob q n hx=>by
  obtain ⟨o',e1⟩:=a.there c ob q hx
  exact b.free c o' e1 (a.free c ob q n hx) hx
 there:=fun c ob q hx=>by
  obtain ⟨o',e1⟩:=a.there c ob q hx
  exact b.there c o' e1 hx
 tups:=fun c xs q=>b.tups c xs (a.tups c xs q)
 frzs:=fun c ob xs q=>b.frzs c ob xs (a.frzs c ob xs q)
 tbls:=fun c xs q=>⟨(b.tbls c xs (a.tbls c xs q).1).1,fun d o e1 e2=>let ⟨f1,f2⟩:=(a.tbls c xs q).2 d o e1 e2; (b.tbls c xs (a.tbls c xs q).1).2 d o f1 f2⟩
theorem Un.kept (k:∀ b u,h.get? b=some u→h'.get? b=some u):Un fs ex H H h h' :=
 ⟨fun b ob q _ _ _=>k b ob q,fun b ob q _ _ _=>⟨ob.slots,k b ob q⟩,fun _ _ _ n _=>n,fun b ob q _=>⟨ob,k b ob q⟩,fun _ _ q=>q,fun _ _ _ q=>q,fun _ _ q=>⟨q,fun c o e1 e2=>⟨e1,k c o e2⟩⟩⟩
theorem Un.refl:Un fs ex H H h h:=Un.kept fun _ _ q=>q
theorem Un.laid (k:∀ b u,h.get? b=some u→h'.get? b=some u) (hp:h.objs.size≤a) (hn:H a=none):Un fs ex H (upd H a o) h h' where
 keep:=fun b u q _ _ _=>k b u q
 slot:=fun b u q _ _ _=>⟨u.slots,k b u q⟩
 free:=fun b u q n _=>by rw [ab5 (Nat.ne_of_lt (Nat.lt_of_lt_of_le (Heap.lt_size q) hp))]; exact n
 there:=fun b u q _=>⟨u,k b u q⟩
 tups:=fun b xs q=>by rw [ab5 (ab3 q hn)]; exact q
 frzs:=fun b u xs q=>by rw [ab5 (ab3 q hn)]; exact q
 tbls:=fun b xs q=>⟨by rw [ab5 (ab3 q hn)]; exact q,fun c o e1 e2=>⟨by rw [ab5 (ab3 e1 hn)]; exact e1,k c o e2⟩⟩
theorem Un.write (mu:Mut (H x)) (he:e=x∨H e=some (.own x)) (k:∀ b u,b≠e→h.get? b=some u→h'.get? b=some u) (heo:∃ u,h'.get? e=some u):Un fs ex H (upd H x o) h h':=by
 have hx:∀ b,H b=none→b≠x:=fun b n z=>by subst z; rw [n] at mu; exact mu
 have hb:∀ b,H b=none→b≠e:=fun b n z=>by
  subst z
  rcases he with r | r
  · exact hx b n r
  · rw [n] at r; cases r
 have hm:∀ b u,H b=some u→¬ Mut (some u)→b≠x:=fun b u q nm z=>by subst z; rw [q] at mu; exact nm mu
 refine ⟨fun b u q n _ _=>k b u (hb b n) q,fun b u q n _ _=>⟨u.slots,k b u (hb b n) q⟩,fun b u q n _=>by rw [ab5 (hx b n)]; exact n,fun b u q _=>?_,
  fun b xs q=>by rw [ab5 (hm b _ q fun z=>z)]; exact q,fun b u xs q=>by rw [ab5 (hm b _ q fun z=>z)]; exact q,fun b ps q=>⟨by rw [ab5 (hm b _ q fun z=>z)]; exact q,fun c o e1 e2=>⟨by rw [ab5 (hm c _ e1 fun z=>z)]; exact e1,k c o (fun z=>by
   rcases he with r | r
   · exact hm c _ e1 (fun z=>z) (z.trans r)
   · rw [← z,e1] at r; cases r; rw [q] at mu; exact mu) e2⟩⟩⟩
 by_cases hbe:b=e
 · subst hbe; exact heo
 · exact ⟨u,k b u hbe q⟩
theorem Un.mono (u:Un fs ex H H1 h h1) (hs:∀ b∈fs,b∈fs') (hx:∀ b∈ex,b∈ex'):Un fs' ex' H H1 h h1 :=
 ⟨fun b ob q n hb he=>u.keep b ob q n (fun z=>hb (hs b z)) fun z=>he (hx b z),fun _ _ q n _ he=>u.any q n fun z=>he (hx _ z),fun b ob q n he=>u.free b ob q n fun z=>he (hx b z),fun b ob q he=>u.there b ob q fun z=>he (hx b z),u.tups,u.frzs,u.tbls⟩
end
noncomputable def trk (h:Heap) (H:Hp):List Addr:=(List.range h.objs.size).filter fun a=>(H a).isSome
noncomputable def hidT (h:Heap) (H:Hp):Heap:=PySem.W.hideAll h (trk h H)
theorem aZ9 (h:Heap) (H:Hp):(hidT h H).objs.size=h.objs.size:=PySem.W.hideAll_size _ _
theorem bk3 {h:Heap} {H:Hp} {b:Addr} {o:Obj} (e:h.get? b=some o) (n:H b=none):(hidT h H).get? b=some o :=
 PySem.W.hideAll_get _ e fun hm=>by
  have q:(H b).isSome=true:=(List.mem_filter.mp hm).2
  rw [n] at q; simp at q
theorem bz8 {h:Heap} {H:Hp} {b:Addr} {o:Obj} (e:(hidT h H).get? b=some o):h.get? b=some o∧H b=none:=by
 have e':h.get? b=some o:=PySem.W.of_hideAll (trk h H) e
 refine ⟨e',?_⟩
 cases q:H b with
 | none=>rfl
 | some x =>
   have hm:b∈trk h H:=List.mem_filter.mpr ⟨List.mem_range.mpr (Heap.lt_size e'),by simp [q]⟩
   have z:(hidT h H).get? b=none:=PySem.W.hideAll_none (trk h H) hm
   rw [z] at e; cases e
noncomputable def bG2 (g h:Heap) (L:Addr):List (Addr×Obj):=(List.range h.objs.size).filterMap fun a=>if a=L∨(g.get? a).isSome=true then none else (h.get? a).map fun o=>(a,o)
noncomputable def rest (g h:Heap) (L d:Addr):List (Addr×Obj):=(bG2 g h L).filter fun p=>decide (p.1≠d)
structure Mod (K:PySem.W.Frag) (mg:Str→Option Value) (base:Heap):Prop where
 kin:K.In base
 glob:base.Ns mainGlobals mg
 blt:∃ mb,base.Ns builtinsNs mb∧∀ x:Str,x ≠ "__name__" → mb x=bootBuiltins x
 nolimit:base.NoLimit
 bmod:∃ bm o,mg "__builtins__" = some (.ref bm)∧bm≠builtinsNs∧base.get? bm=some o∧o.cls= .type "module" ∧ o.dict=some builtinsNs∧o.data= .plain
structure Cx where
 prog:Program
 w:World
 K:PySem.W.Frag
 mg:Str→Option Value
 base:Heap
 A:Around
 N:List Str
 s₀:Shared
 H₀:Hp
 env:Env
 outer:List Env
 stack:List Env
 ex:List Addr
 fn:Str→Bool
 calm:Bool
 pn:List (Addr×Obj)
 xe:Value→Shared→Prop
noncomputable def frs (l:List Env):List Addr:=l.filterMap (·.frame)
noncomputable abbrev Cx.fs (X:Cx):List Addr:=frs X.outer
noncomputable def Vis (sc:Scope) (x:Str):Prop:=sc.names.lookup x=some .local∨sc.names.lookup x=some .cell∨sc.names.lookup x=some .free
noncomputable def Loc (sc:Scope) (x:Str):Prop:=sc.names.lookup x=some .local∨sc.names.lookup x=some .cell
noncomputable def Look (env:Env) (h:Heap) (m:Str→Option Value) (x:Str) (u:Value):Prop :=
 (env.kindOf x=some .local∧m x=some u)∨((env.kindOf x=some .cell∨env.kindOf x=some .free)∧∃ c,env.cells.lookup x=some c∧h.IsCell c (some u))
structure Cx.Ok (X:Cx):Prop where
 mod:Mod X.K X.mg X.base
 kind:X.env.scope.kind= .function
 glob:X.env.globals=mainGlobals
 blt:X.env.builtins=builtinsNs
 above:X.s₀.heap.objs.size≤X.env.locals
 inj:∀ x y c,X.env.cells.lookup x=some c→X.env.cells.lookup y=some c→x=y
 has:∀ x,(X.env.kindOf x=some .cell∨X.env.kindOf x=some .free)→∃ c,X.env.cells.lookup x=some c
 cab:∀ x c,X.fn x=true→X.env.cells.lookup x=some c→X.s₀.heap.objs.size≤c
 hd:X.calm=true→X.A.handled=none
 frames:X.A.frames=some X.stack
 stk:X.stack=X.outer∨(X.stack=X.env :: X.outer∧X.env.frame=some X.env.locals)
 exf:∀ b∈X.ex,b≠X.env.locals∧∀ x c,X.env.cells.lookup x=some c→c≠b
 bs:∀ b o,X.base.get? b=some o→X.s₀.heap.get? b=some o∧X.H₀ b=none
 bsz:X.base.objs.size≤X.s₀.heap.objs.size
 noex:∀ b o,X.base.get? b=some o→b∉X.ex
 exfs:∀ b∈X.ex,b∉X.fs
 funs:X.s₀.heap.FunFrames X.base X.outer
 frf:∀ b∈X.fs,X.H₀ b=none
structure Inv (X:Cx) (pins:List (Addr×Obj)) (σ:List (Option V)) (H:Hp) (s:Shared):Prop where
 ok:X.Ok
 os:s.os=X.s₀.os
 bare:AllBare s.gens
 base:Un X.fs X.ex X.H₀ H X.s₀.heap s.heap
 loc:∃ m,s.heap.Ns X.env.locals m∧∀ (i:Nat) (x:Str) (v:V),X.N[i]?=some x→σ[i]?=some (some v)→Vis X.env.scope x→∃ u,RelV v u∧Look X.env s.heap m x u
 cell:∀ x c,X.env.cells.lookup x=some c→∃ v,s.heap.IsCell c v
 free:H X.env.locals=none
 freeC:∀ x c,X.env.cells.lookup x=some c→H c=none
 pin:∀ p∈X.pn ++ pins,s.heap.get? p.1=some p.2∧H p.1=none∧p.1≠X.env.locals∧p.1∉X.fs∧∀ v,p.2.data≠ .cell v
 hok:HOk X.prog X.w H s.heap
 len:σ.length=X.N.length
section
variable {X:Cx} {pins:List (Addr×Obj)} {σ:List (Option V)} {H H':Hp} {s:Shared} {h':Heap}
theorem Cx.Ok.nofr (ok:X.Ok) {b:Addr} {o:Obj} (e:X.base.get? b=some o):b∉X.fs:=fun hb=>by
 have:=(ok.funs.mem hb).1
 rw [e] at this; cases this
theorem Inv.bs (I:Inv X pins σ H s):∀ b o,X.base.get? b=some o→s.heap.get? b=some o∧H b=none:=fun b o e =>
 ⟨I.base.keep b o (I.ok.bs b o e).1 (I.ok.bs b o e).2 (I.ok.nofr e) (I.ok.noex b o e),I.base.free b o (I.ok.bs b o e).1 (I.ok.bs b o e).2 (I.ok.noex b o e)⟩
theorem Inv.bk (I:Inv X pins σ H s):∀ b o,X.base.get? b=some o→s.heap.get? b=some o:=fun b o e=>(I.bs b o e).1
theorem Inv.mod (I:Inv X pins σ H s):Mod X.K X.mg X.base:=I.ok.mod
theorem Inv.kIn (I:Inv X pins σ H s):X.K.In s.heap:=I.ok.mod.kin.keeps I.bk
theorem Inv.nolimit (I:Inv X pins σ H s):s.heap.NoLimit:=I.ok.mod.nolimit.keeps I.bk
theorem Inv.fr (I:Inv X pins σ H s):∃ m,Fr X.base X.env.locals s.heap m :=
 let ⟨m,hn,_⟩:=I.loc
 ⟨m,hn,I.bk,Nat.le_trans I.ok.bsz I.ok.above⟩
theorem Inv.lt (I:Inv X pins σ H s):X.env.locals < s.heap.objs.size:=let ⟨_,hn,_⟩:=I.loc; hn.lt
theorem Inv.sz (I:Inv X pins σ H s):X.s₀.heap.objs.size≤s.heap.objs.size:=Nat.le_trans I.ok.above (Nat.le_of_lt I.lt)
theorem Inv.nofs (I:Inv X pins σ H s) {a:Addr} (h:s.heap.objs.size≤a):a∉X.fs:=fun hb=>by
 obtain ⟨_,o,ho,_⟩:=I.ok.funs.mem hb
 exact absurd (Nat.lt_of_lt_of_le (Heap.lt_size ho) (Nat.le_trans I.sz h)) (Nat.lt_irrefl _)
theorem Inv.cne (I:Inv X pins σ H s):∀ x c,X.env.cells.lookup x=some c→c≠X.env.locals:=fun x c e z=>by
 obtain ⟨v,o,ho,hd⟩:=I.cell x c e
 obtain ⟨m,⟨o',es,ep,ho',hd',_⟩,_⟩:=I.loc
 rw [z,ho'] at ho; cases ho; rw [hd'] at hd; cases hd
theorem Inv.funs (I:Inv X pins σ H s):s.heap.FunFrames X.base X.outer:=by
 have all:∀ (l:List Env),(∀ b∈frs l,b∈X.fs)→X.s₀.heap.FunFrames X.base l→s.heap.FunFrames X.base l:=by
  intro l
  induction l with
  | nil=>intro _ _; trivial
  | cons env r ih =>
    intro hs hl
    obtain ⟨hk,⟨L,o,hf,hn,ho,hd⟩,hr⟩:=hl
    have hL:L∈X.fs:=hs L (by unfold frs; rw [List.filterMap_cons,hf]; exact List.mem_cons_self)
    obtain ⟨sl,e⟩:=I.base.slot L o ho (I.ok.frf L hL) hL fun z=>I.ok.exfs L z hL
    exact ⟨hk,⟨L,_,hf,hn,e,hd⟩,ih (fun b hb=>hs b (by unfold frs; rw [List.filterMap_cons,hf]; exact List.mem_cons_of_mem _ hb)) hr⟩
 exact all X.outer (fun _ hb=>hb) I.ok.funs
theorem Inv.stack (I:Inv X pins σ H s):s.heap.FunFrames X.base X.stack:=by
 rcases I.ok.stk with e | ⟨e,hf⟩
 · rw [e]; exact I.funs
 · rw [e]
   obtain ⟨m,hn,_⟩:=I.loc
   refine .cons (by rw [I.ok.kind]; decide) hf hn ?_ I.funs
   exact Heap.get?_none_of_le (Nat.le_trans I.ok.bsz I.ok.above)
theorem Inv.stkSub (I:Inv X pins σ H s):∀ b∈frs X.stack,b∈X.env.locals :: X.fs:=fun b hb=>by
 rcases I.ok.stk with e | ⟨e,hf⟩
 · rw [e] at hb; exact List.mem_cons_of_mem _ hb
 · rw [e] at hb
   unfold frs at hb
   rw [List.filterMap_cons,hf] at hb
   exact hb
theorem Inv.stkFree (I:Inv X pins σ H s):∀ b∈frs X.stack,H b=none:=fun b hb=>by
 rcases List.mem_cons.mp (I.stkSub b hb) with e | hb
 · rw [e]; exact I.free
 · obtain ⟨_,o,ho,_⟩:=I.ok.funs.mem hb
   exact I.base.free b o ho (I.ok.frf b hb) fun z=>I.ok.exfs b z hb
theorem Inv.step {g':Array GenState} {t':Nat} {d':Drawn} {ch:List Addr} (I:Inv X pins σ H s)
 (hch:∀ b∈ch,(b∈X.ex∨X.s₀.heap.objs.size≤b)∧b≠X.env.locals∧(∀ x c,X.env.cells.lookup x=some c→c≠b)∧∀ p∈X.pn ++ pins,p.1≠b)
 (keep:∀ b o,b≠X.env.locals→b∉X.fs→b∉ch→s.heap.get? b=some o→H b=none→h'.get? b=some o)
 (slot:∀ b o,b≠X.env.locals→b∈X.fs→b∉ch→s.heap.get? b=some o→H b=none→∃ sl,h'.get? b=some { o with slots:=sl }) (free:∀ b o,b∉ch→s.heap.get? b=some o→H b=none→H' b=none)
 (there:∀ b o,b∉ch→s.heap.get? b=some o→∃ o',h'.get? b=some o')
 (tups:∀ b xs,H b=some (.tup xs)→H' b=some (.tup xs)) (frzs:∀ b o u,H b=some (.frz o u)→H' b=some (.frz o u)) (tbls:∀ b l,H b=some (.tbl l)→H' b=some (.tbl l)∧∀ c o,H c=some (.own b)→s.heap.get? c=some o→H' c=some (.own b)∧h'.get? c=some o)
 (ns:∀ m,s.heap.Ns X.env.locals m→h'.Ns X.env.locals m) (hok:HOk X.prog X.w H' h') (hg:AllBare g') :
 Inv X pins σ H' { s with heap:=h',gens:=g',drawn:=d',toks:=t' }:=by
 have neL:∀ b o,X.s₀.heap.get? b=some o→b≠X.env.locals:=fun b o e=>Nat.ne_of_lt (Nat.lt_of_lt_of_le (Heap.lt_size e) I.ok.above)
 have neC:∀ b o,X.s₀.heap.get? b=some o→b∉X.ex→b∉ch:=fun b o e hx hb=>by
  rcases (hch b hb).1 with z | z
  · exact hx z
  · exact absurd (Nat.lt_of_lt_of_le (Heap.lt_size e) z) (Nat.lt_irrefl _)
 have cellK:∀ x c,X.env.cells.lookup x=some c→∀ v,s.heap.IsCell c v→h'.IsCell c v:=fun x c e v ⟨o,ho,hd⟩=>by
  have nch:c∉ch:=fun z=>(hch c z).2.2.1 x c e rfl
  by_cases hc:c∈X.fs
  · obtain ⟨sl,q⟩:=slot c o (I.cne x c e) hc nch ho (I.freeC x c e)
    exact ⟨_,q,hd⟩
  · exact ⟨o,keep c o (I.cne x c e) hc nch ho (I.freeC x c e),hd⟩
 refine ⟨I.ok,I.os,hg,⟨fun b o e n hb hx=>?_,fun b o e n hb hx=>?_,fun b o e n hx=>?_,fun b o e hx=>?_,fun b xs e=>tups b xs (I.base.tups b xs e),fun b o xs e=>frzs b o xs (I.base.frzs b o xs e),fun b ps e=>⟨(tbls b ps (I.base.tbls b ps e).1).1,fun c o e1 e2=>let ⟨f1,f2⟩:=(I.base.tbls b ps e).2 c o e1 e2; (tbls b ps (I.base.tbls b ps e).1).2 c o f1 f2⟩⟩,?_,fun x c e=>?_,?_,fun x c e=>?_,fun p hp=>?_,hok,I.len⟩
 · exact keep b o (neL b o e) hb (neC b o e hx) (I.base.keep b o e n hb hx) (I.base.free b o e n hx)
 · obtain ⟨sl,e1⟩:=I.base.slot b o e n hb hx
   obtain ⟨sl',e2⟩:=slot b _ (neL b o e) hb (neC b o e hx) e1 (I.base.free b o e n hx)
   exact ⟨sl',e2⟩
 · obtain ⟨o',e1⟩:=I.base.there b o e hx
   exact free b o' (neC b o e hx) e1 (I.base.free b o e n hx)
 · obtain ⟨o',e1⟩:=I.base.there b o e hx
   exact there b o' (neC b o e hx) e1
 · obtain ⟨m,hn,hl⟩:=I.loc
   refine ⟨m,ns m hn,fun i x v e1 e2 e3=>?_⟩
   obtain ⟨u,r,l⟩:=hl i x v e1 e2 e3
   refine ⟨u,r,?_⟩
   rcases l with l | ⟨k,c,e,z⟩
   · exact .inl l
   · exact .inr ⟨k,c,e,cellK x c e _ z⟩
 · obtain ⟨v,z⟩:=I.cell x c e
   exact ⟨v,cellK x c e v z⟩
 · obtain ⟨m,⟨o,_,_,ho,_⟩,_⟩:=I.loc
   exact free _ o (fun z=>(hch _ z).2.1 rfl) ho I.free
 · obtain ⟨v,o,ho,hd⟩:=I.cell x c e
   exact free c o (fun z=>(hch c z).2.2.1 x c e rfl) ho (I.freeC x c e)
 · obtain ⟨e,n,ne,nf,d⟩:=I.pin p hp
   have nch:p.1∉ch:=fun z=>(hch p.1 z).2.2.2 p hp rfl
   exact ⟨keep p.1 p.2 ne nf nch e n,free p.1 p.2 nch e n,ne,nf,d⟩
theorem Inv.un {t':Nat} (I:Inv X pins σ H s) (u:Un X.fs [] H H' s.heap h') (hok:HOk X.prog X.w H' h'):Inv X pins σ H' { s with heap:=h',toks:=t' }:=by
 obtain ⟨m,⟨o,es,ep,ho,r⟩,_⟩:=id I.loc
 obtain ⟨sl,hL⟩:=u.any ho I.free (by simp)
 exact I.step (g':=s.gens) (d':=s.drawn) (ch:=[]) (fun _ z=>nomatch z) (fun b o _ hb _ e n=>u.keep b o e n hb (by simp)) (fun b o _ hb _ e n=>u.slot b o e n hb (by simp)) (fun b o _ e n=>u.free b o e n (by simp)) (fun b o _ e=>u.there b o e (by simp)) u.tups u.frzs u.tbls (fun m' hm=>by
  obtain ⟨o',es',ep',ho',r'⟩:=hm
  rw [ho] at ho'; cases ho'
  exact ⟨_,es',ep',hL,r'⟩) hok I.bare
theorem Inv.call {g':Array GenState} {t':Nat} {d':Drawn} {ch:List Addr} (I:Inv X pins σ H s) (u:Un (frs X.stack) ch H H' s.heap h') (hok:HOk X.prog X.w H' h') (hg:AllBare g')
 (hch:∀ b∈ch,(b∈X.ex∨X.s₀.heap.objs.size≤b)∧b≠X.env.locals∧(∀ x c,X.env.cells.lookup x=some c→c≠b)∧∀ p∈X.pn ++ pins,p.1≠b) :
 Inv X pins σ H' { s with heap:=h',gens:=g',drawn:=d',toks:=t' }:=by
 obtain ⟨m,⟨o,es,ep,ho,r⟩,_⟩:=id I.loc
 obtain ⟨sl,hL⟩:=u.any ho I.free fun z=>(hch _ z).2.1 rfl
 exact I.step (ch:=ch) hch (fun b o hL hb hc e n=>u.keep b o e n (fun z=>(List.mem_cons.mp (I.stkSub b z)).elim hL hb) hc) (fun b o _ _ hc e n=>u.any e n hc) (fun b o hc e n=>u.free b o e n hc) (fun b o hc e=>u.there b o e hc) u.tups u.frzs u.tbls (fun m' hm=>by
  obtain ⟨o',es',ep',ho',r'⟩:=hm
  rw [ho] at ho'; cases ho'
  exact ⟨_,es',ep',hL,r'⟩) hok hg
theorem Inv.turned {t':Nat} {it:Addr} (I:Inv X pins σ H s) (k:∀ b o,b≠it→s.heap.get? b=some o→h'.get? b=some o) (hn:H it=none) (hL:it≠X.env.locals)
 (h1:it∈X.ex∨X.s₀.heap.objs.size≤it) (h2:∀ x c,X.env.cells.lookup x=some c→c≠it) (h3:∀ p∈X.pn ++ pins,p.1≠it):Inv X pins σ H { s with heap:=h',toks:=t' }:=by
 have nit:∀ b u,H b=some u→b≠it:=fun b u e z=>by rw [z,hn] at e; cases e
 refine I.step (g':=s.gens) (d':=s.drawn) (ch:=[it]) (fun b hb=>?_) (fun b o _ _ hc e _=>k b o (fun z=>hc (by simp [z])) e) (fun b o _ _ hc e _=>⟨o.slots,k b o (fun z=>hc (by simp [z])) e⟩) (fun _ _ _ _ n=>n)
  (fun b o hc e=>⟨o,k b o (fun z=>hc (by simp [z])) e⟩) (fun _ _ e=>e) (fun _ _ _ e=>e) (fun _ _ e=>⟨e,fun c o e1 e2=>⟨e1,k c o (ab3 e1 hn) e2⟩⟩) (fun m hm=>?_) (fun b u e=>?_) I.bare
 · have e:b=it:=by simpa using hb
   subst e
   exact ⟨h1,hL,h2,h3⟩
 · obtain ⟨o,es,ep,ho,r⟩:=hm
   exact ⟨o,es,ep,k _ o (Ne.symm hL) ho,r⟩
 · refine (I.hok b u e).stay (fun c v hc q=>k c v ?_ q) (fun _ q=>q) fun _ _ q=>q
   rcases hc with z | z
   · rw [z]; exact nit b u e
   · exact nit c _ z
theorem Inv.tok (I:Inv X pins σ H s) (t:Nat):Inv X pins σ H { s with toks:=t }:=I.un (h':=s.heap) (t':=t) Un.refl I.hok
theorem Inv.kept {t':Nat} (I:Inv X pins σ H s) (k:∀ b u,s.heap.get? b=some u→h'.get? b=some u):Inv X pins σ H { s with heap:=h',toks:=t' }:=I.un (Un.kept k) (I.hok.kept k)
theorem Inv.laid {a:Addr} {o:HO} {t':Nat} (I:Inv X pins σ H s) (k:∀ b u,s.heap.get? b=some u→h'.get? b=some u) (hp:s.heap.objs.size≤a) (new:ObjOk X.prog X.w (upd H a o) h' a o) :
 Inv X pins σ (upd H a o) { s with heap:=h',toks:=t' }:=I.un (Un.laid k hp (I.hok.fresh hp)) (I.hok.laid k hp new)
theorem Inv.write {x e:Addr} {o:HO} {t':Nat} (I:Inv X pins σ H s) (mu:Mut (H x)) (he:e=x∨H e=some (.own x)) (k:∀ b u,b≠e→s.heap.get? b=some u→h'.get? b=some u) (heo:∃ u,h'.get? e=some u)
 (new:ObjOk X.prog X.w (upd H x o) h' x o):Inv X pins σ (upd H x o) { s with heap:=h',toks:=t' }:=I.un (Un.write mu he k heo) (I.hok.write mu he k heo new)
theorem Inv.weak {σ':List (Option V)} (I:Inv X pins σ H s) (hl:σ'.length=σ.length) (w:∀ (i:Nat) v,σ'[i]?=some (some v)→σ[i]?=some (some v)):Inv X pins σ' H s :=
 ⟨I.ok,I.os,I.bare,I.base,let ⟨m,hn,hl'⟩:=I.loc; ⟨m,hn,fun i x v e1 e2 e3=>hl' i x v e1 (w i v e2) e3⟩,I.cell,I.free,I.freeC,I.pin,I.hok,hl.trans I.len⟩
theorem Inv.pins_of {pins':List (Addr×Obj)} (I:Inv X pins σ H s) (h:∀ p∈pins',s.heap.get? p.1=some p.2∧H p.1=none∧p.1≠X.env.locals∧p.1∉X.fs∧∀ v,p.2.data≠ .cell v):Inv X pins' σ H s :=
 ⟨I.ok,I.os,I.bare,I.base,I.loc,I.cell,I.free,I.freeC,fun p hp=>(List.mem_append.mp hp).elim (fun z=>I.pin p (List.mem_append_left _ z)) (h p),I.hok,I.len⟩
theorem az0 {N:List Str} (hN:N.Nodup) {i j:Nat} {x:Str} (a:N[i]?=some x) (b:N[j]?=some x):i=j:=by
 obtain ⟨h1,e1⟩:=List.getElem?_eq_some_iff.mp a
 obtain ⟨h2,e2⟩:=List.getElem?_eq_some_iff.mp b
 exact (List.getElem_inj hN).mp (e1.trans e2.symm)
theorem aT7 {M:Model} {A:Around} {E:Value→Shared→Prop} {i:Nat} {x:Str} {v:V} {u:Value} {Q:Unit→Shared→Prop} (I:Inv X pins σ H s) (hN:X.N.Nodup) (hi:X.N[i]?=some x) (hx:Loc X.env.scope x) (r:RelV v u)
 (h:∀ s',Inv X pins (σ.set i (some v)) H s'→(∃ a,Heap.SameBut a s.heap s'.heap∧(a=X.env.locals∨X.env.cells.lookup x=some a))→Q () s') (hf:X.fn x=true∨X.env.scope.names.lookup x=some .local:=by first | exact .inl rfl | exact .inr rfl | assumption):wpAny M A (storeName X.env x u) Q E s:=by
 obtain ⟨m,hn,hl⟩:=id I.loc
 have hcls:(X.env.scope.kind == .class || (X.env.scope.kind == .module && X.env.locals != X.env.globals))=false:=by rw [I.ok.kind]; rfl
 have hiσ:i < σ.length:=by rw [I.len]; exact (List.getElem?_eq_some_iff.mp hi).1
 have cne:=I.cne
 have tracked:∀ {a:Addr} {h':Heap},(∃ o,s.heap.get? a=some o∧H a=none)→Heap.SameBut a s.heap h'→HOk X.prog X.w H h':=fun {a h'} ha hs b ob e=>by
  obtain ⟨_,_,hfree⟩:=ha
  refine (I.hok b ob e).stay (fun c w' hc q=>(hs.2 c ?_).trans q) (fun _ q=>q) fun _ _ q=>q
  rintro rfl
  rcases hc with rfl | hc
  · rw [hfree] at e; cases e
  · rw [hfree] at hc; cases hc
 rcases hx with hk | hk
 · refine wpAny_storeName_local hk hn (fun h' hn' hs=>?_) hcls
   obtain ⟨oL,_,_,hoL,_⟩:=id hn
   refine h _ ⟨I.ok,I.os,I.bare,⟨fun b o e n hb hx=>?_,fun b o e n hb hx=>?_,I.base.free,fun b o e hx=>?_,I.base.tups,I.base.frzs,fun b l q=>⟨(I.base.tbls b l q).1,fun c o e1 e2=>let ⟨f1,f2⟩:=(I.base.tbls b l q).2 c o e1 e2; ⟨f1,(hs.2 c (ab3 f1 I.free)).trans f2⟩⟩⟩,⟨_,hn',fun j y v' e1 e2 e3=>?_⟩,fun y c e=>?_,I.free,I.freeC,fun p hp=>?_,tracked ⟨oL,hoL,I.free⟩ hs,by simpa using I.len⟩ ⟨_,hs,.inl rfl⟩
   · exact (hs.2 b (Nat.ne_of_lt (Nat.lt_of_lt_of_le (Heap.lt_size e) I.ok.above))).trans (I.base.keep b o e n hb hx)
   · obtain ⟨sl,e1⟩:=I.base.slot b o e n hb hx
     exact ⟨sl,(hs.2 b (Nat.ne_of_lt (Nat.lt_of_lt_of_le (Heap.lt_size e) I.ok.above))).trans e1⟩
   · obtain ⟨o',e1⟩:=I.base.there b o e hx
     exact ⟨o',(hs.2 b (Nat.ne_of_lt (Nat.lt_of_lt_of_le (Heap.lt_size e) I.ok.above))).trans e1⟩
   · by_cases hj:j=i
     · subst hj
       rw [hi] at e1; cases e1
       rw [List.getElem?_set_self hiσ] at e2
       cases e2
       exact ⟨u,r,.inl ⟨hk,by simp⟩⟩
     · rw [List.getElem?_set_ne (Ne.symm hj)] at e2
       obtain ⟨u',r',q⟩:=hl j y v' e1 e2 e3
       refine ⟨u',r',?_⟩
       rcases q with ⟨k,e⟩ | ⟨k,c,e,z⟩
       · refine .inl ⟨k,?_⟩
         have:y≠x:=fun e=>hj (az0 hN e1 (e ▸ hi))
         simp [this,e]
       · exact .inr ⟨k,c,e,z.sameBut hs (cne y c e)⟩
   · obtain ⟨w',z⟩:=I.cell y c e
     exact ⟨w',z.sameBut hs (cne y c e)⟩
   · obtain ⟨e,n,ne,nf,d⟩:=I.pin p hp
     exact ⟨(hs.2 p.1 ne).trans e,n,ne,nf,d⟩
 · have hfn:X.fn x=true:=by
    rcases hf with z | z
    · exact z
    · rw [z] at hk; cases hk
   obtain ⟨c,hc⟩:=I.ok.has x (.inl hk)
   obtain ⟨w',z⟩:=I.cell x c hc
   refine wpAny_storeName_cell I.ok.kind hk hc z (fun h' hc' hs=>?_)
   obtain ⟨oc,hoc,hocd⟩:=id z
   refine h { s with heap:=h' } ⟨I.ok,I.os,I.bare,⟨fun b o e n hb hx=>?_,fun b o e n hb hx=>?_,I.base.free,fun b o e hx=>?_,I.base.tups,I.base.frzs,fun b l q=>⟨(I.base.tbls b l q).1,fun c' o e1 e2=>let ⟨f1,f2⟩:=(I.base.tbls b l q).2 c' o e1 e2; ⟨f1,(hs.2 c' (ab3 f1 (I.freeC x c hc))).trans f2⟩⟩⟩,⟨m,hn.sameBut hs (Ne.symm (cne x c hc)),fun j y v' e1 e2 e3=>?_⟩,fun y c' e=>?_,I.free,I.freeC,fun p hp=>?_,tracked ⟨oc,hoc,I.freeC x c hc⟩ hs,by simpa using I.len⟩ ⟨c,hs,.inr hc⟩
   · exact (hs.2 b (Nat.ne_of_lt (Nat.lt_of_lt_of_le (Heap.lt_size e) (I.ok.cab x c hfn hc)))).trans (I.base.keep b o e n hb hx)
   · obtain ⟨sl,e1⟩:=I.base.slot b o e n hb hx
     exact ⟨sl,(hs.2 b (Nat.ne_of_lt (Nat.lt_of_lt_of_le (Heap.lt_size e) (I.ok.cab x c hfn hc)))).trans e1⟩
   · obtain ⟨o',e1⟩:=I.base.there b o e hx
     exact ⟨o',(hs.2 b (Nat.ne_of_lt (Nat.lt_of_lt_of_le (Heap.lt_size e) (I.ok.cab x c hfn hc)))).trans e1⟩
   · by_cases hj:j=i
     · subst hj
       rw [hi] at e1; cases e1
       rw [List.getElem?_set_self hiσ] at e2
       cases e2
       exact ⟨u,r,.inr ⟨.inl hk,c,hc,hc'⟩⟩
     · rw [List.getElem?_set_ne (Ne.symm hj)] at e2
       obtain ⟨u',r',q⟩:=hl j y v' e1 e2 e3
       refine ⟨u',r',?_⟩
       rcases q with q | ⟨k,c',e,z'⟩
       · exact .inl q
       · refine .inr ⟨k,c',e,z'.sameBut hs ?_⟩
         rintro rfl
         exact hj (az0 hN e1 (I.ok.inj _ _ _ e hc ▸ hi))
   · by_cases hcc:c'=c
     · subst hcc; exact ⟨_,hc'⟩
     · obtain ⟨w2,z2⟩:=I.cell y c' e
       exact ⟨w2,z2.sameBut hs hcc⟩
   · obtain ⟨e,n,ne,nf,d⟩:=I.pin p hp
     refine ⟨(hs.2 p.1 ?_).trans e,n,ne,nf,d⟩
     intro q
     rw [q,hoc] at e
     have q':oc=p.2:=Option.some.inj e
     exact d w' (by rw [← q']; exact hocd)
theorem ax2 {M:Model} {A:Around} {E:Value→Shared→Prop} {i:Nat} {x:Str} {v:V} {u:Value} {Q:Unit→Shared→Prop} (I:Inv X pins σ H s) (hN:X.N.Nodup) (hi:X.N[i]?=some x) (hx:Loc X.env.scope x) (r:RelV v u)
 (h:∀ s',Inv X pins (σ.set i (some v)) H s'→Q () s') (hf:X.fn x=true∨X.env.scope.names.lookup x=some .local:=by first | exact .inl rfl | exact .inr rfl | assumption):wpAny M A (storeName X.env x u) Q E s :=
 aT7 I hN hi hx r (fun s' I' _=>h s' I') hf
theorem Inv.call' {s':Shared} {ch:List Addr} (I:Inv X pins σ H s) (ho:s'.os=s.os) (u:Un (frs X.stack) ch H H' s.heap s'.heap) (hok:HOk X.prog X.w H' s'.heap) (hg:AllBare s'.gens)
 (hch:∀ b∈ch,(b∈X.ex∨X.s₀.heap.objs.size≤b)∧b≠X.env.locals∧(∀ x c,X.env.cells.lookup x=some c→c≠b)∧∀ p∈X.pn ++ pins,p.1≠b):Inv X pins σ H' s':=by
 obtain ⟨h',g',d',t',o'⟩:=s'
 have e:o'=s.os:=ho
 subst e
 exact I.call (g':=g') (t':=t') (d':=d') u hok hg hch
end
noncomputable abbrev XK:=Value→Option Addr→Hp→Prop
noncomputable abbrev St:=List (Option V)
noncomputable abbrev VK:=V→Hp→Prop
noncomputable abbrev TE:=St→Hp→VK→Prop
noncomputable abbrev TT:=St→Hp→(Bool→Hp→Prop)→Prop
noncomputable abbrev TA:=St→Hp→(List V→Hp→Prop)→Prop
structure Ends where
 nx:St→Hp→Prop
 rt:VK
 bk:St→Hp→Prop:=fun _ _=>False
 ct:St→Hp→Prop:=fun _ _=>False
noncomputable abbrev TS:=Ends→St→Hp→Prop
noncomputable def EP (X:Cx) (pins:List (Addr×Obj)) (σ:St) (Q:VK) (u:Value) (s':Shared):Prop:=∃ v H',Inv X pins σ H' s'∧RelV v u∧Q v H'
noncomputable def TP (X:Cx) (pins:List (Addr×Obj)) (σ:St) (Q:Bool→Hp→Prop) (b:Bool) (s':Shared):Prop:=∃ H',Inv X pins σ H' s'∧Q b H'
noncomputable def AP (X:Cx) (pins:List (Addr×Obj)) (σ:St) (Q:List V→Hp→Prop) (us:List Value) (s':Shared):Prop:=∃ vs H',Inv X pins σ H' s'∧Vals vs us∧Q vs H'
noncomputable def SP (X:Cx) (pins:List (Addr×Obj)) (D:Ends) (f:Flow) (s':Shared):Prop :=
 match f with
 | .next=>∃ σ' H',Inv X pins σ' H' s'∧D.nx σ' H'
 | .brk=>∃ σ' H',Inv X pins σ' H' s'∧D.bk σ' H'
 | .cont=>∃ σ' H',Inv X pins σ' H' s'∧D.ct σ' H'
 | .ret u=>∃ v σ' H',Inv X pins σ' H' s'∧RelV v u∧D.rt v H'
noncomputable def PE (X:Cx) (e:Expr) (t:TE):Prop :=
 ∀ (pins:List (Addr×Obj)) (s:Shared) (σ:St) (H:Hp) (Q:VK),Inv X pins σ H s→t σ H Q→wpAny (model X.prog X.w) X.A (eval e X.env) (EP X pins σ Q) X.xe s
noncomputable def PT (X:Cx) (e:Expr) (t:TT):Prop :=
 ∀ (pins:List (Addr×Obj)) (s:Shared) (σ:St) (H:Hp) (Q:Bool→Hp→Prop),Inv X pins σ H s→t σ H Q→wpAny (model X.prog X.w) X.A (isTrue e X.env (eval e X.env)) (TP X pins σ Q) X.xe s
noncomputable def PW (X:Cx) (e:Expr) (t:TT):Prop :=
 ∀ (whole:Sem Value) (pins:List (Addr×Obj)) (s:Shared) (σ:St) (H:Hp) (Q:Bool→Hp→Prop),Inv X pins σ H s→t σ H Q→wpAny (model X.prog X.w) X.A (isTrue e X.env whole) (TP X pins σ Q) X.xe s
theorem PW.pt {X:Cx} {e:Expr} {t:TT} (h:PW X e t):PT X e t:=h _
noncomputable def PA (X:Cx) (es:List Expr) (t:TA):Prop :=
 ∀ (pos:Pos) (pins:List (Addr×Obj)) (s:Shared) (σ:St) (H:Hp) (Q:List V→Hp→Prop),Inv X pins σ H s→t σ H Q→wpAny (model X.prog X.w) X.A (spliced (backTo pos (starEach es X.env))) (AP X pins σ Q) X.xe s
noncomputable def PS (X:Cx) (st:Stmt) (t:TS):Prop :=
 ∀ (pins:List (Addr×Obj)) (s:Shared) (σ:St) (H:Hp) (D:Ends),Inv X pins σ H s→t D σ H→wpAny (model X.prog X.w) X.A (exec st X.env) (SP X pins D) X.xe s
noncomputable def PSs (X:Cx) (st:List Stmt) (t:TS):Prop :=
 ∀ (pins:List (Addr×Obj)) (s:Shared) (σ:St) (H:Hp) (D:Ends),Inv X pins σ H s→t D σ H→wpAny (model X.prog X.w) X.A (execs st X.env) (SP X pins D) X.xe s
theorem thn {α:Type} {t:Sem α} {Q Q':α→Shared→Prop} {M:Model} {A:Around} {E:Value→Shared→Prop} {s:Shared} (h:wpAny M A t Q E s) (hQ:∀ a s,Q a s→Q' a s):wpAny M A t Q' E s:=wpAny_mono h hQ fun _ _ x=>x
section
variable {X:Cx}
noncomputable def tVar (i:Nat):TE:=fun σ H Q=>∃ v,σ[i]?=some (some v)∧Q v H
noncomputable def tC (v:V):TE:=fun _ H Q=>Q v H
theorem bI7 {i:Nat} {x:Str} {pos:Pos} (hN:X.N[i]?=some x) (hv:Vis X.env.scope x) (hd:(x == ("__debug__" : Str))=false:=by decide) (hcd:(x == ("__classdict__" : Str))=false:=by decide):PE X (.Name x pos) (tVar i):=by
 intro pins s σ H Q I h
 obtain ⟨v,e,h⟩:=h
 obtain ⟨m,hn,hl⟩:=I.loc
 obtain ⟨u,r,l⟩:=hl i x v hN e hv
 have fin:EP X pins σ Q u s:=⟨v,H,I,r,h⟩
 rcases l with ⟨hk,hm⟩ | ⟨hk,c,hc,hcell⟩
 · exact wpAny_Name (wpAny_loadName_local I.ok.kind hk hn hm fin) hd
 · rcases hk with hk | hk
   · exact wpAny_Name (wpAny_loadName_cell I.ok.kind hk hc hcell fin) hd
   · exact wpAny_Name (wpAny_loadName_free I.ok.kind hk hc hcell fin hcd) hd
theorem ab1 {i j pos}:PE X (.Constant (.int i) j pos) (tC (.int i)):=fun _ _ _ H _ I h=>wpAny_Constant_int ⟨.int i,H,I.tok _,⟨_,rfl⟩,h⟩
theorem am2 {b j pos}:PE X (.Constant (.bool b) j pos) (tC (.bl b)):=fun _ _ _ H _ I h=>Constant_bool ⟨.bl b,H,I,rfl,h⟩
theorem af4 {x j pos}:PE X (.Constant (.str x) j pos) (tC (.str x)):=fun _ _ _ H _ I h=>Calls.Constant_str ⟨.str x,H,I.tok _,⟨_,rfl⟩,h⟩
noncomputable def Gl (X:Cx) (x:Str):Prop:=X.env.kindOf x=some .globalImplicit
theorem ao1 {E:Value→Shared→Prop} {pins:List (Addr×Obj)} {s:Shared} {σ:St} {H:Hp} {x:Str} {u:Value} {pos:Pos} {Q:Value→Shared→Prop} (I:Inv X pins σ H s) (hg:Gl X x) (hm:X.mg x=some u) (h:Q u s)
 (hd:(x == ("__debug__" : Str))=false:=by decide):wpAny (model X.prog X.w) X.A (eval (.Name x pos) X.env) Q E s :=
 Calls.Name_function_global I.ok.kind hg (Calls.loadGlobal_global (by rw [I.ok.glob]; exact I.mod.glob.keeps I.bk) hm h) hd
theorem aO9 {E:Value→Shared→Prop} {pins:List (Addr×Obj)} {s:Shared} {σ:St} {H:Hp} {x:Str} {u:Value} {pos:Pos} {Q:Value→Shared→Prop} (I:Inv X pins σ H s) (hg:Gl X x) (hm:X.mg x=none) (hv:bootBuiltins x=some u) (h:Q u s)
 (hn:x ≠ "__name__" := by decide) (hd:(x == ("__debug__" : Str))=false:=by decide):wpAny (model X.prog X.w) X.A (eval (.Name x pos) X.env) Q E s:=by
 obtain ⟨mb,h1,h2⟩:=I.mod.blt
 exact Calls.Name_function_global I.ok.kind hg (Calls.loadGlobal_builtin (by rw [I.ok.glob]; exact I.mod.glob.keeps I.bk) hm (by rw [I.ok.blt]; exact h1.keeps I.bk) ((h2 x hn).trans hv) h) hd
theorem al1 {x:Str} {v:V} {u:Value} {pos:Pos} (hg:Gl X x) (hm:X.mg x=some u) (r:RelV v u) (hd:(x == ("__debug__" : Str))=false:=by decide):PE X (.Name x pos) (tC v) :=
 fun _ _ _ H _ I h=>ao1 I hg hm ⟨v,H,I,r,h⟩ hd
theorem ar1 {x:Str} {v:V} {u:Value} {pos:Pos} (hg:Gl X x) (hm:X.mg x=none) (hv:bootBuiltins x=some u) (r:RelV v u) (hn:x ≠ "__name__" := by decide) (hd:(x == ("__debug__" : Str))=false:=by decide):PE X (.Name x pos) (tC v) :=
 fun _ _ _ H _ I h=>aO9 I hg hm hv ⟨v,H,I,r,h⟩ hn hd
variable {a b:Expr} {ta tb:TE} {pos:Pos}
noncomputable def PC (X:Cx) (op:CmpOp) (a b:Expr) (t:TE):Prop :=
 ∀ (pins:List (Addr×Obj)) (s:Shared) (σ:St) (H:Hp) (Q:VK),Inv X pins σ H s→t σ H Q →
  wpAny (model X.prog X.w) X.A (eval a X.env) (fun v s₁=>wpAny (model X.prog X.w) X.A (eval b X.env) (fun u s₂=>wpAny (model X.prog X.w) X.A (compareOp op v u) (EP X pins σ Q) X.xe s₂) X.xe s₁) X.xe s
theorem aO2 (b:Expr) {op:CmpOp} (h:op≠ .In) (h2:op≠ .NotIn):behindInMarks op b=false:=by
 have e1:(op == CmpOp.In)=false:=by cases op <;> first | rfl | exact absurd rfl h
 have e2:(op == CmpOp.NotIn)=false:=by cases op <;> first | rfl | exact absurd rfl h2
 cases b <;> simp [behindInMarks,e1,e2]
noncomputable def tB (t:TE):TT:=fun σ H Q=>t σ H fun x H1=>∃ c,x= .bl c∧Q c H1
theorem bJ0 {op:CmpOp} {t:TE} (h:PC X op a b t) (h1:behindInMarks op b=false:=by first | exact aO2 _ (by decide) (by decide) | rfl):PE X (.Compare a [op] [b] pos) t:=fun pins s σ H Q I hw=>wpAny_Compare1 (h pins s σ H Q I hw) h1
theorem aX1 {op:CmpOp} {t:TE} (h:PC X op a b t) (h1:behindInMarks op b=false:=by first | exact aO2 _ (by decide) (by decide) | rfl):PT X (.Compare a [op] [b] pos) (tB t):=by
 intro pins s σ H Q I hw
 refine wpAny_isTrue_Compare1 (thn (h pins s σ H _ I hw) fun v s1 h1=>thn h1 fun u s2 h2=>thn h2 fun c s3 ⟨x,H1,I1,r1,q1⟩=>?_) h1
 obtain ⟨d,rfl,q⟩:=q1
 cases r1
 exact wpAny_truthy_bool ⟨H1,I1,q⟩
theorem ak9 {e:Expr} {t:TE} (h:PE X e t) (he:∀ whole,isTrue e X.env whole=(do let v ← whole; standAt e.pos; holding [v] (truthy v)):=by intro _; rfl):PT X e (tB t):=by
 intro pins s σ H Q I hw
 refine isTrue_plain (thn (h pins s σ H _ I hw) fun v s1 ⟨x,H1,I1,r1,q1⟩=>?_) (he _)
 obtain ⟨d,rfl,q⟩:=q1
 cases r1
 exact wpAny_truthy_bool ⟨H1,I1,q⟩
variable {tA tB':TT} {rest:List Expr}
noncomputable def tAnd (t u:TT):TT:=fun σ H Q=>t σ H fun c H1=>if c=true then u σ H1 Q else Q false H1
noncomputable def tOr (t u:TT):TT:=fun σ H Q=>t σ H fun c H1=>if c=true then Q true H1 else u σ H1 Q
noncomputable def tNot (t:TT):TT:=fun σ H Q=>t σ H fun c H1=>Q (!c) H1
theorem ay7 (ha:PT X a tA):PW X (.BoolOp .And [a] pos) tA:=by
 intro wh pins s σ H Q I h
 refine isTrue_and (thn (ha pins s σ H Q I h) fun c s1 e=>?_)
 cases c with
 | true=>exact isTrue_and_nil e
 | false=>exact e
theorem aq7 (ha:PT X a tA):PW X (.BoolOp .Or [a] pos) tA:=by
 intro wh pins s σ H Q I h
 refine isTrue_or (thn (ha pins s σ H Q I h) fun c s1 e=>?_)
 cases c with
 | false=>exact isTrue_or_nil e
 | true=>exact e
theorem aN0 (ha:PT X a tA) (hb:PW X (.BoolOp .And (b :: rest) pos) tB'):PW X (.BoolOp .And (a :: b :: rest) pos) (tAnd tA tB'):=by
 intro wh pins s σ H Q I h
 refine isTrue_and (thn (ha pins s σ H _ I h) fun c s1 ⟨H1,I1,q1⟩=>?_)
 cases c with
 | true=>exact hb wh pins s1 σ H1 Q I1 q1
 | false=>exact ⟨H1,I1,q1⟩
theorem aC9 (ha:PT X a tA) (hb:PW X (.BoolOp .Or (b :: rest) pos) tB'):PW X (.BoolOp .Or (a :: b :: rest) pos) (tOr tA tB'):=by
 intro wh pins s σ H Q I h
 refine isTrue_or (thn (ha pins s σ H _ I h) fun c s1 ⟨H1,I1,q1⟩=>?_)
 cases c with
 | true=>exact ⟨H1,I1,q1⟩
 | false=>exact hb wh pins s1 σ H1 Q I1 q1
theorem al9 (ha:PT X a tA):PT X (.UnaryOp .Not a pos) (tNot tA):=by
 intro pins s σ H Q I h
 exact isTrue_not (ha pins s σ H (fun c H1=>Q (!c) H1) I h)
noncomputable def bG9 (ta tb:TE):TE:=fun σ H Q=>ta σ H fun x H1=>∃ c,x= .bl c∧if c=true then tb σ H1 Q else Q (.bl false) H1
noncomputable def bG7 (ta:TE):TE:=fun σ H Q=>ta σ H fun x H1=>∃ c,x= .bl c∧Q (.bl (!c)) H1
theorem aX5 {op} {t:TE} (h:PE X a t):PE X (.BoolOp op [a] pos) t:=fun pins s σ H Q I hw=>BoolOp_one (h pins s σ H Q I hw)
theorem aN7 (ha:PE X a ta) (hb:PE X (.BoolOp .And (b :: rest) pos) tb):PE X (.BoolOp .And (a :: b :: rest) pos) (bG9 ta tb):=by
 intro pins s σ H Q I h
 refine BoolOp_and (thn (ha pins s σ H _ I h) fun v s1 ⟨x,H1,I1,r1,q1⟩=>?_)
 obtain ⟨c,rfl,q1⟩:=q1
 cases r1
 refine wpAny_truthy_bool ?_
 cases c with
 | true=>exact hb pins s1 σ H1 Q I1 q1
 | false=>exact ⟨.bl false,H1,I1,rfl,q1⟩
theorem bI8 (ha:PE X a ta):PE X (.UnaryOp .Not a pos) (bG7 ta):=by
 intro pins s σ H Q I h
 refine UnaryOp_ (thn (ha pins s σ H _ I h) fun v s1 ⟨x,H1,I1,r1,q1⟩=>?_)
 obtain ⟨c,rfl,q1⟩:=q1
 cases r1
 exact not_of (wpAny_truthy_bool ⟨.bl (!c),H1,I1,rfl,q1⟩)
end
noncomputable def SqL (K:PySem.W.Frag) (H:Hp) (a:Addr) (xs:List V):Prop :=
 Rd H a (.lst xs) ∨
  ∃ (o:Obj) (its:Array Value) (n:Nat),K.lookup a=some o∧o.cls= .type "list" ∧ o.dict=none∧o.data= .seq its n∧its.size≤sizeLine∧Vals xs its.toList
noncomputable def SqT (K:PySem.W.Frag) (H:Hp) (a:Addr) (xs:List V):Prop :=
 Rd H a (.tup xs) ∨
  ∃ (o:Obj) (its:Array Value) (n:Nat),K.lookup a=some o∧o.cls= .type "tuple" ∧ o.data= .seq its n∧its.size≤sizeLine∧Vals xs its.toList
noncomputable def absV:Value→Option V
 | .none=>some .non
 | .bool b=>some (.bl b)
 | .int i _=>some (.int i)
 | .str x _=>some (.str x)
 | .bytes b _=>some (.byt b)
 | .float b _=>some (.flt b)
 | .ref a=>some (.ref a)
 | .type n=>some (.ty n)
 | _=>none
theorem RelV.abs {x:V} {u:Value} (r:RelV x u):absV u=some x:=by
 cases x with
 | non=>cases r; rfl
 | bl _=>cases r; rfl
 | int _=>obtain ⟨t,rfl⟩:=r; rfl
 | str _=>obtain ⟨t,rfl⟩:=r; rfl
 | byt _=>obtain ⟨t,rfl⟩:=r; rfl
 | flt _=>obtain ⟨t,rfl⟩:=r; rfl
 | ref _=>cases r; rfl
 | ty _=>cases r; rfl
theorem RelV.inj {x y:V} {u:Value} (r:RelV x u) (q:RelV y u):x=y:=Option.some.inj (r.abs.symm.trans q.abs)
theorem Vals.inj:∀ {xs ys:List V} {us:List Value},Vals xs us→Vals ys us→xs=ys
 | _,_,_,.nil,.nil=>rfl
 | _,_,_,.cons r t,.cons r' t'=>by rw [r.inj r',Vals.inj t t']
section
variable {X:Cx} {pins:List (Addr×Obj)} {σ:St} {H:Hp} {s:Shared} {a:Addr} {xs ys:List V}
theorem SqL.of {K:PySem.W.Frag} (h:H a=some (.lst xs)):SqL K H a xs:= .inl (.inl h)
theorem SqT.of {K:PySem.W.Frag} (h:H a=some (.tup xs)):SqT K H a xs:= .inl (.inl h)
theorem Inv.list (I:Inv X pins σ H s) (h:SqL X.K H a xs):∃ its:List Value,Vals xs its∧PlainL s.heap a its.toArray∧xs.length≤sizeLine:=by
 rcases h with h | ⟨o,its,n,hk,hc,hd,hs,hz,r⟩
 · obtain ⟨z,its,n,r,e⟩:=h.ok I.hok
   exact ⟨its,r,⟨_,n,e,rfl,rfl,rfl⟩,z⟩
 · refine ⟨its.toList,r,⟨o,n,I.kIn a o hk,hc,hd,by simpa using hs⟩,?_⟩
   have e:=r.length
   simp only [Array.length_toList] at e
   omega
theorem Inv.tuple (I:Inv X pins σ H s) (h:SqT X.K H a xs):∃ its:List Value,Vals xs its∧IsTup s.heap a its.toArray∧xs.length≤sizeLine:=by
 rcases h with h | ⟨o,its,n,hk,hc,hs,hz,r⟩
 · obtain ⟨z,its,r,p⟩:=h.ok I.hok
   exact ⟨its,r,p,z⟩
 · refine ⟨its.toList,r,⟨o,I.kIn a o hk,hc,n,by simpa using hs⟩,?_⟩
   have e:=r.length
   simp only [Array.length_toList] at e
   omega
theorem Inv.list_inj (I:Inv X pins σ H s) (h:SqL X.K H a xs) (h':SqL X.K H a ys):xs=ys:=by
 obtain ⟨its,r,⟨o,n,e,_,_,d⟩,_⟩:=I.list h
 obtain ⟨its',r',⟨o',n',e',_,_,d'⟩,_⟩:=I.list h'
 rw [e] at e'; cases e'
 rw [d] at d'
 injection d' with d1 _
 have:its=its':=by simpa using congrArg Array.toList d1
 subst this
 exact r.inj r'
end
noncomputable abbrev Cx.wish (X:Cx) (E:Value→Shared→Prop):Cx:={ X with xe:=E }
noncomputable abbrev Cx.nox (X:Cx):Cx:=X.wish fun _ _=>False
theorem Cx.Ok.wish {X:Cx} (ok:X.Ok) (E:Value→Shared→Prop):(X.wish E).Ok :=
 ⟨ok.mod,ok.kind,ok.glob,ok.blt,ok.above,ok.inj,ok.has,ok.cab,ok.hd,ok.frames,ok.stk,ok.exf,ok.bs,ok.bsz,ok.noex,ok.exfs,ok.funs,ok.frf⟩
theorem Cx.Ok.unwish {X:Cx} {E:Value→Shared→Prop} (ok:(X.wish E).Ok):X.Ok :=
 ⟨ok.mod,ok.kind,ok.glob,ok.blt,ok.above,ok.inj,ok.has,ok.cab,ok.hd,ok.frames,ok.stk,ok.exf,ok.bs,ok.bsz,ok.noex,ok.exfs,ok.funs,ok.frf⟩
section
variable {X:Cx} {pins:List (Addr×Obj)} {σ:St} {H:Hp} {s:Shared} {E:Value→Shared→Prop}
theorem Inv.wish (I:Inv X pins σ H s) (E:Value→Shared→Prop):Inv (X.wish E) pins σ H s:=⟨I.ok.wish E,I.os,I.bare,I.base,I.loc,I.cell,I.free,I.freeC,I.pin,I.hok,I.len⟩
theorem Inv.unwish (I:Inv (X.wish E) pins σ H s):Inv X pins σ H s:=⟨I.ok.unwish,I.os,I.bare,I.base,I.loc,I.cell,I.free,I.freeC,I.pin,I.hok,I.len⟩
theorem SP.unwish {D:Ends} {f:Flow} {s':Shared} (h:SP (X.wish E) pins D f s'):SP X pins D f s':=by
 cases f with
 | next=>obtain ⟨σ',H',I,q⟩:=h; exact ⟨σ',H',I.unwish,q⟩
 | brk=>obtain ⟨σ',H',I,q⟩:=h; exact ⟨σ',H',I.unwish,q⟩
 | cont=>obtain ⟨σ',H',I,q⟩:=h; exact ⟨σ',H',I.unwish,q⟩
 | ret u=>obtain ⟨v,σ',H',I,r,q⟩:=h; exact ⟨v,σ',H',I.unwish,r,q⟩
theorem PE.nox {e:Expr} {t:TE} (h:PE X.nox e t):PE X e t:=fun pins s σ H Q I hw =>
 wpAny_mono (h pins s σ H Q (I.wish _) hw) (fun _ _ ⟨v,H',I',r,q⟩=>⟨v,H',I'.unwish,r,q⟩) fun _ _ z=>False.elim z
theorem PT.nox {e:Expr} {t:TT} (h:PT X.nox e t):PT X e t:=fun pins s σ H Q I hw =>
 wpAny_mono (h pins s σ H Q (I.wish _) hw) (fun _ _ ⟨H',I',q⟩=>⟨H',I'.unwish,q⟩) fun _ _ z=>False.elim z
theorem PSs.nox {st:List Stmt} {t:TS} (h:PSs X.nox st t):PSs X st t:=fun pins s σ H D I hw =>
 wpAny_mono (h pins s σ H D (I.wish _) hw) (fun _ _ q=>q.unwish) fun _ _ z=>False.elim z
end
section
variable {X:Cx} {st:Stmt} {rest:List Stmt} {t u:TS} {e:Expr} {te:TE} {pos:Pos}
noncomputable def bG8:TS:=fun D σ H=>D.nx σ H
noncomputable def tSeq (t u:TS):TS:=fun D σ H=>t { D with nx:=u D } σ H
theorem ac3:PSs X [] bG8:=fun _ _ σ H _ I h=>wpAny_execs_nil ⟨σ,H,I,h⟩
theorem aa2 (h1:PS X st t) (h2:PSs X rest u):PSs X (st :: rest) (tSeq t u):=by
 intro pins s σ H D I h
 refine wpAny_execs_cons (thn (h1 pins s σ H { D with nx:=u D } I h) fun f s1 q=>?_)
 cases f with
 | next =>
   obtain ⟨σ',H',I',q⟩:=q
   exact h2 pins s1 σ' H' D I' q
 | ret v=>exact q
 | brk=>exact q
 | cont=>exact q
theorem aa4 (h1:PS X st t):PSs X [st] t:=by
 intro pins s σ H D I h
 refine wpAny_execs_cons (thn (h1 pins s σ H D I h) fun f s1 q=>?_)
 cases f with
 | next=>exact wpAny_execs_nil q
 | ret v=>exact q
 | brk=>exact q
 | cont=>exact q
theorem Inv.quiet {pins:List (Addr×Obj)} {σ:St} {H:Hp} {s:Shared} (I:Inv X pins σ H s):interactive X.env=false:=by simp [interactive,I.ok.kind]
noncomputable def bg1 (te:TE):TS:=fun D σ H=>te σ H fun _ H1=>D.nx σ H1
theorem af3 (he:PE X e te) (hs:swapsWith e none pos.line X.env=pure false:=by rfl):PS X (.Expr e pos) (bg1 te):=by
 intro pins s σ H D I h
 exact wpAny_Expr_any (thn (he pins s σ H _ I h) fun v s1 ⟨x,H1,I1,r1,q1⟩=>⟨σ,H1,I1,q1⟩) I.quiet hs
noncomputable def tRet (te:TE):TS:=fun D σ H=>te σ H D.rt
theorem ac8 (he:PE X e te):PS X (.Return (some e) pos) (tRet te):=by
 intro pins s σ H D I h
 exact wpAny_Return_some (thn (he pins s σ H _ I h) fun v s1 ⟨x,H1,I1,r1,q1⟩=>⟨x,σ,H1,I1,r1,q1⟩)
noncomputable def tIfS (c:TT) (t u:TS):TS:=fun D σ H=>c σ H fun b H1=>if b=true then t D σ H1 else u D σ H1
theorem ag0 {c:Expr} {a b:List Stmt} {tc:TT} (hc:PT X c tc) (ha:PSs X a t) (hb:PSs X b u):PS X (.If c a b pos) (tIfS tc t u):=by
 intro pins s σ H D I h
 refine wpAny_If (thn (hc pins s σ H _ I h) fun d s1 ⟨H1,I1,q1⟩=>?_)
 cases d with
 | true=>exact ha pins s1 σ H1 D I1 q1
 | false=>exact hb pins s1 σ H1 D I1 q1
end
noncomputable abbrev TG:=V→St→Hp→(St→Hp→Prop)→Prop
noncomputable def PG (X:Cx) (target:Expr) (t:TG):Prop :=
 ∀ (pins:List (Addr×Obj)) (s:Shared) (σ:St) (H:Hp) (v:V) (u:Value) (Q:St→Hp→Prop),Inv X pins σ H s→RelV v u→t v σ H Q →
  wpAny (model X.prog X.w) X.A (assign target X.env u) (fun _ s'=>∃ σ' H',Inv X pins σ' H' s'∧Q σ' H') X.xe s
section
variable {X:Cx} {pos:Pos}
noncomputable def as6 (i:Nat):TG:=fun v σ H Q=>Q (σ.set i (some v)) H
theorem ar0 {i:Nat} {x:Str} (hN:X.N.Nodup) (hi:X.N[i]?=some x) (hx:Loc X.env.scope x) (hf:X.fn x=true∨X.env.scope.names.lookup x=some .local:=by first | exact .inl rfl | exact .inr rfl | assumption):PG X (.Name x pos) (as6 i):=by
 intro pins s σ H v u Q I r h
 exact wpAny_assign_Name (ax2 I hN hi hx r (fun s' I'=>⟨_,H,I',h⟩) hf)
noncomputable def tAsg (te:TE) (g:TG):TS:=fun D σ H=>te σ H fun x H1=>g x σ H1 D.nx
theorem ae1 {i:Nat} {x:Str} {e:Expr} {te:TE} {pos':Pos} (hN:X.N.Nodup) (hi:X.N[i]?=some x) (hx:Loc X.env.scope x) (he:PE X e te) (hs:swapsWith e (some (.Name x pos')) pos.line X.env=pure false:=by rfl) (hf:X.fn x=true∨X.env.scope.names.lookup x=some .local:=by first | exact .inl rfl | exact .inr rfl | assumption) :
 PS X (.Assign [.Name x pos'] e pos) (tAsg te (as6 i)):=by
 intro pins s σ H D I h
 refine wpAny_Assign_Name (thn (he pins s σ H _ I h) fun v s1 ⟨y,H1,I1,r1,q1⟩=>?_) hs
 exact ax2 I1 hN hi hx r1 (fun s2 I2=>⟨_,H1,I2,q1⟩) hf
end
structure It where
 go:Nat→Hp→Prop
 yld:Nat→Hp→V→Hp→Prop
 stop:Nat→Hp→Prop
noncomputable def FpOk (X:Cx) (pins:List (Addr×Obj)) (H:Hp) (b:Addr):Prop :=
 H b=none∧b≠X.env.locals∧b∉X.fs∧(b∈X.ex∨X.s₀.heap.objs.size≤b)∧(∀ x c,X.env.cells.lookup x=some c→c≠b)∧∀ p∈X.pn ++ pins,p.1≠b
theorem Inv.fpOk {X:Cx} {pins:List (Addr×Obj)} {σ:St} {H H':Hp} {s:Shared} {b:Addr} (I:Inv X pins σ H s) (hb:s.heap.objs.size≤b) (hn:H' b=none):FpOk X pins H' b:=by
 refine ⟨hn,Nat.ne_of_gt (Nat.lt_of_lt_of_le I.lt hb),I.nofs hb,.inr (Nat.le_trans I.sz hb),fun x c e z=>?_,fun p hp z=>?_⟩
 · obtain ⟨v,q⟩:=I.cell x c e
   exact absurd (Nat.lt_of_lt_of_le q.lt (by rw [z]; exact hb)) (Nat.lt_irrefl _)
 · exact absurd (Nat.lt_of_lt_of_le (Heap.lt_size (I.pin p hp).1) (by rw [z]; exact hb)) (Nat.lt_irrefl _)
structure Turn (P:Program) (w:World) (K:PySem.W.Frag) (tg:Expr) (J:It) (fp:List Addr) (it:Addr) (tn:Nat→Heap→Prop):Prop where
 mem:it∈fp
 obj:∀ i h,tn i h→∀ b∈fp,∃ o,h.get? b=some o∧∀ v,o.data≠ .cell v
 keep:∀ i h h',tn i h→(∀ b∈fp,∀ o,h.get? b=some o→h'.get? b=some o)→tn i h'
 item:∀ (X:Cx),X.prog=P→X.w=w→X.K=K→X.calm=true→∀ (i:Nat) (pins:List (Addr×Obj)) (s:Shared) (σ:St) (H:Hp) (E:Value→Shared→Prop),Inv X pins σ H s→(∀ b∈fp,FpOk X pins H b)→tn i s.heap→J.go i H →
  wpAny (model P w) X.A (pyNext (.ref it)) (fun r s1=>∃ u,r=some u ∧
   wpAny (model P w) X.A (letOwnedTupleGo tg (.ref it) u) (fun _ s2=>∃ x H',Inv X pins σ H' s2∧RelV x u∧J.yld i H x H'∧tn (i + 1) s2.heap∧∀ b∈fp,H' b=none) E s1) E s
 done:∀ (X:Cx),X.prog=P→X.w=w→X.K=K→X.calm=true→∀ (i:Nat) (pins:List (Addr×Obj)) (s:Shared) (σ:St) (H:Hp) (E:Value→Shared→Prop),Inv X pins σ H s→(∀ b∈fp,FpOk X pins H b)→tn i s.heap→J.stop i H →
  wpAny (model P w) X.A (pyNext (.ref it)) (fun r s1=>r=none∧Inv X pins σ H s1) E s
 self:∀ (A:Around) (i:Nat) (s:Shared) (Q:Value→Shared→Prop) (E:Value→Shared→Prop),tn i s.heap→Q (.ref it) s→wpAny (model P w) A (pyIter (.ref it)) Q E s
noncomputable abbrev TI:=St→Hp→(It→Hp→Prop)→Prop
noncomputable def PIE (X:Cx) (pins:List (Addr×Obj)) (σ:St) (tg:Expr) (R:It→Hp→Prop) (itv:Value) (s2:Shared):Prop :=
 ∃ (it:Addr) (fp:List Addr) (tn:Nat→Heap→Prop) (J:It) (H':Hp),itv= .ref it∧Inv X pins σ H' s2∧Turn X.prog X.w X.K tg J fp it tn∧tn 0 s2.heap∧(∀ b∈fp,FpOk X pins H' b)∧R J H'
noncomputable def PI (X:Cx) (tg iter:Expr) (wi:TI):Prop :=
 ∀ (pins:List (Addr×Obj)) (s:Shared) (σ:St) (H:Hp) (R:It→Hp→Prop),Inv X pins σ H s→wi σ H R →
  wpAny (model X.prog X.w) X.A (eval iter X.env) (fun v s1=>wpAny (model X.prog X.w) X.A (pyIter v) (PIE X pins σ tg R) X.xe s1) X.xe s
theorem bO4 {M:Model} {A:Around} {E:Value→Shared→Prop} {s:Shared} {tg:Expr} {it:Addr} {u:Value} {o:Obj} {n:String} {vs:Array Value} {Q:Unit→Shared→Prop} (ho:s.heap.get? it=some o) (hc:o.cls= .type n) (hd:o.data= .fields vs)
 (hn:["enumerate", "zip", "dict_itemiterator", "dict_reverseitemiterator", "odict_iterator", "itertools.zip_longest", "itertools.pairwise"].contains n=false) (hQ:Q () s):wpAny M A (letOwnedTupleGo tg (.ref it) u) Q E s:=by
 unfold letOwnedTupleGo
 cases tg <;> first
  | exact wpAny_pure hQ
  | (cases u <;> first
      | exact wpAny_pure hQ
      | (refine wpAny_bind (wpAny_load ho ?_)
         rw [hc,hd]
         show wpAny M A (if (["enumerate", "zip", "dict_itemiterator", "dict_reverseitemiterator", "odict_iterator", "itertools.zip_longest", "itertools.pairwise"].contains n && vs[0]? == some (rawInt _))=true then _ else _) Q E s
         rw [if_neg (by intro h; rw [hn,Bool.false_and] at h; cases h)]
         exact wpAny_pure hQ))
noncomputable def Itl (K:PySem.W.Frag) (a:Addr):It :=
 ⟨fun i H=>∃ xs x,SqL K H a xs∧xs[i]?=some x,fun i H x H'=>H'=H∧∀ xs,SqL K H a xs→xs[i]?=some x,fun i H=>∃ xs,SqL K H a xs∧xs.length≤i⟩
noncomputable def Itr (lo:Int) (n:Nat):It:=⟨fun i _=>i < n,fun i H x H'=>H'=H∧x= .int (lo + i),fun i _=>n≤i⟩
theorem aT2 {P:Program} {w:World} {K:PySem.W.Frag} {tg:Expr} (a it:Addr):Turn P w K tg (Itl K a) [it] it (fun i h=>h.IsListIter it a i) where
 mem:=by simp
 obj:=fun i h st b hb=>by
  have e:b=it:=by simpa using hb
  subst e
  obtain ⟨o,e,c,d⟩:=st
  exact ⟨o,e,fun v z=>by rw [d] at z; cases z⟩
 keep:=fun i h h' st k=>st.at fun o e=>k it (by simp) o e
 item:=by
  intro X hP hw hK hc i pins s σ H E I hf st hg
  subst hP hw hK
  obtain ⟨xs,x,hq,hx⟩:=hg
  obtain ⟨its,rv,p,hz⟩:=I.list hq
  obtain ⟨u,hu,ru⟩:=rv.get hx
  obtain ⟨f0,f1,f2,f3,f4,f5⟩:=hf it (by simp)
  refine wpAny_pyNext_list_item st p.isList (x:=u) (by simpa using hu) fun h' st' sb=>?_
  have I1:Inv X pins σ H { s with heap:=h' }:=I.turned (t':=s.toks) (fun b o hb e=>(sb.2 b hb).trans e) f0 f1 f3 f4 f5
  obtain ⟨o,e,c,d⟩:=id st'
  exact ⟨u,rfl,bO4 (s:={ s with heap:=h' }) e c d (by decide) ⟨x,H,I1,ru,⟨rfl,fun ys hy=>by rw [I.list_inj hy hq]; exact hx⟩,st',fun b hb=>(hf b hb).1⟩⟩
 done:=by
  intro X hP hw hK hc i pins s σ H E I hf st hg
  subst hP hw hK
  obtain ⟨xs,hq,hx⟩:=hg
  obtain ⟨its,rv,p,hz⟩:=I.list hq
  obtain ⟨f0,f1,f2,f3,f4,f5⟩:=hf it (by simp)
  have hl:=rv.length
  exact wpAny_pyNext_list_end (I.ok.hd hc) st p.isList (by simp; omega) fun h' eb=>⟨rfl,I.turned (t':=s.toks) (fun b o hb e=>eb b o hb e) f0 f1 f3 f4 f5⟩
 self:=fun _ _ _ _ _ st h=>wpAny_pyIter_listiter st h
theorem aQ7 {P:Program} {w:World} {K:PySem.W.Frag} {tg:Expr} (it:Addr) (lo:Int) (n:Nat):Turn P w K tg (Itr lo n) [it] it (fun i h=>IsRangeIter h it (lo + (i:Nat) * 1) ((n:Int) - (i:Nat)) 1) where
 mem:=by simp
 obj:=fun i h st b hb=>by
  have e:b=it:=by simpa using hb
  subst e
  exact ⟨_,st,fun v z=>by
   have z':Data.fields _=Data.cell v:=z
   cases z'⟩
 keep:=fun i h h' st k=>k it (by simp) _ st
 item:=by
  intro X hP hw hK hc i pins s σ H E I hf st hg
  subst hP hw hK
  obtain ⟨f0,f1,f2,f3,f4,f5⟩:=hf it (by simp)
  have W:=Walks.range (prog:=X.prog) (w:=X.w) (I.ok.hd hc) it lo 1 n
  refine W.item i s _ _ hg st fun v h' tk hv st' kk=>?_
  obtain ⟨t,rfl⟩:=hv
  have I1:Inv X pins σ H { s with heap:=h',toks:=tk }:=I.turned (fun b o hb e=>kk b o (by simpa using hb) e) f0 f1 f3 f4 f5
  refine ⟨_,rfl,bO4 (s:={ s with heap:=h',toks:=tk }) (n := "range_iterator") st' rfl rfl (by decide) ⟨.int (lo + i),H,I1,⟨t,?_⟩,⟨rfl,rfl⟩,st',fun b hb=>(hf b hb).1⟩⟩
  rw [Int.mul_one]
 done:=by
  intro X hP hw hK hc i pins s σ H E I hf st hg
  subst hP hw hK
  obtain ⟨f0,f1,f2,f3,f4,f5⟩:=hf it (by simp)
  exact wpAny_pyNext_range_end (I.ok.hd hc) st (by have:n≤i:=hg; omega) fun h' eb=>⟨rfl,I.turned (t':=s.toks) (fun b o hb e=>eb b o hb e) f0 f1 f3 f4 f5⟩
 self:=fun _ _ _ _ _ st h=>wpAny_pyIter_rangeiter st h
section
variable {X:Cx} {tg:Expr}
noncomputable def aZ8 (K:PySem.W.Frag) (tl:TE):TI:=fun σ H R=>tl σ H fun x H1=>∃ a,x= .ref a∧(∃ xs,SqL K H1 a xs)∧R (Itl K a) H1
theorem bz0 {l:Expr} {tl:TE} (hl:PE X l tl):PI X tg l (aZ8 X.K tl):=by
 intro pins s σ H R I h
 refine thn (hl pins s σ H _ I h) fun v s1 ⟨x,H1,I1,r1,q1⟩=>?_
 obtain ⟨a,e,⟨xs,hq⟩,q⟩:=q1
 subst e
 cases r1
 obtain ⟨its,rv,p,hz⟩:=I1.list hq
 refine wpAny_pyIter_list p.isList ?_
 refine ⟨s1.heap.objs.size,[s1.heap.objs.size],_,_,H1,rfl,I1.kept (t':=s1.toks) fun b o e=>Heap.get?_push_of_some _ e,aT2 a _,⟨_,Heap.get?_push_size _ rfl,rfl,rfl⟩,fun b hb=>?_,q⟩
 have e:b=s1.heap.objs.size:=by simpa using hb
 subst e
 exact I1.fpOk (Nat.le_refl _) (I1.hok.fresh (Nat.le_refl _))
theorem bh5 {pins:List (Addr×Obj)} {σ:St} {H:Hp} {s:Shared} {R:It→Hp→Prop} {E:Value→Shared→Prop} {lo hi:Int} {t u v:Tok} {tk:Nat} (I:Inv X pins σ H s) (h1:-(2 ^ 62)≤lo) (h2:lo < 2 ^ 62) (h3:-(2 ^ 62)≤hi) (h4:hi < 2 ^ 62)
 (q:R (Itr lo (hi - lo).toNat) H):wpAny (model X.prog X.w) X.A (pyIter (.ref s.heap.objs.size)) (PIE X pins σ tg R) E { s with heap:=s.heap.push { cls:= .type "range",data:= .fields #[.int lo t,.int hi u,.int 1 v] },toks:=tk }:=by
 refine wpAny_pyIter_range (IsRange.new ..) (small_one h1 h2 h3 h4) ?_
 have I1:Inv X pins σ H { s with heap:=s.heap.push { cls:= .type "range",data:= .fields #[.int lo t,.int hi u,.int 1 v] },toks:=tk }:=I.kept fun b o e=>Heap.get?_push_of_some _ e
 refine ⟨(s.heap.push { cls:= .type "range",data:= .fields #[.int lo t,.int hi u,.int 1 v] }).objs.size,[(s.heap.push { cls:= .type "range",data:= .fields #[.int lo t,.int hi u,.int 1 v] }).objs.size],_,_,H,rfl,
  I1.kept (t':=tk) fun b o e=>Heap.get?_push_of_some _ e,aQ7 _ lo (hi - lo).toNat,?_,fun b hb=>?_,q⟩
 · have e1:lo + ((0:Nat):Int) * 1=lo:=by simp
   have e2:(((hi - lo).toNat:Nat):Int) - ((0:Nat):Int)=Builtin.Range.rangeSize lo hi 1:=by rw [rangeSize_one]; split <;> omega
   show IsRangeIter _ _ (lo + ((0:Nat):Int) * 1) ((((hi - lo).toNat:Nat):Int) - ((0:Nat):Int)) 1
   rw [e1,e2]
   exact Heap.get?_push_size _ rfl
 · have e:b=(s.heap.push { cls:= .type "range",data:= .fields #[.int lo t,.int hi u,.int 1 v] }).objs.size:=by simpa using hb
   subst e
   exact I1.fpOk (Nat.le_refl _) (I1.hok.fresh (Nat.le_refl _))
noncomputable def bO2 (ta:TA):TI:=fun σ H R=>ta σ H fun vs H1=>∃ j:Int,vs=[.int j]∧-(2 ^ 62)≤j∧j < 2 ^ 62∧R (Itr 0 j.toNat) H1
theorem aq9 {a:Expr} {ta:TA} {p pos:Pos} (hg:Gl X "range") (hm:X.mg "range" = none) (ha:PA X [a] ta) (hs:starEach [a] X.env=[(false,eval a X.env)]:=by rfl):PI X tg (.Call (.Name "range" p) [a] [] pos) (bO2 ta):=by
 intro pins s σ H R I h
 refine Call_ (aO9 I hg hm boot_range (PyProof.Rows.callWith_type1 (thn (ha pos pins s σ H _ I h) fun us s1 ⟨vs,H1,I1,r1,q1⟩=>?_) hs rfl))
 obtain ⟨j,e,q1,q2,q⟩:=q1
 subst e
 cases r1 with
 | cons r rr =>
   cases rr
   obtain ⟨t,rfl⟩:=r
   exact call_range_1 (bh5 I1 (by omega) (by omega) q1 q2 (by simpa using q))
noncomputable def tFor (wi:TI) (g:TG) (tb:TS):TS:=fun D σ H=>wi σ H fun J H1=>∃ W:Nat→Nat→St→Hp→Prop,(∃ m,W 0 m σ H1)∧∀ i m σ H,W i m σ H →
 (J.stop i H∧D.nx σ H)∨(J.go i H∧∃ N:St→Hp→Prop,(∀ σ' H',N σ' H'→∃ m',m' < m∧W (i + 1) m' σ' H')∧∀ x H',J.yld i H x H'→g x σ H' fun σ2 H2=>tb { D with nx:=N,ct:=N,bk:=D.nx } σ2 H2)
noncomputable def aD3 (fp:List Addr) (h:Heap):List (Addr×Obj):=fp.filterMap fun b=>(h.get? b).map fun o=>(b,o)
theorem ak0 {fp:List Addr} {h:Heap} {b:Addr} {o:Obj} (hb:b∈fp) (e:h.get? b=some o):(b,o)∈aD3 fp h:=List.mem_filterMap.mpr ⟨b,hb,by rw [e]; rfl⟩
theorem aY3 {fp:List Addr} {h:Heap} {p:Addr×Obj} (hp:p∈aD3 fp h):p.1∈fp∧h.get? p.1=some p.2:=by
 obtain ⟨b,hb,e⟩:=List.mem_filterMap.mp hp
 cases q:h.get? b with
 | none=>rw [q] at e; cases e
 | some o =>
   rw [q] at e
   have e':(b,o)=p:=Option.some.inj e
   subst e'
   exact ⟨hb,q⟩
theorem Inv.pinned {pins:List (Addr×Obj)} {σ:St} {H:Hp} {s:Shared} {fp:List Addr} (I:Inv X pins σ H s) (hf:∀ b∈fp,FpOk X pins H b) (ho:∀ b∈fp,∃ o,s.heap.get? b=some o∧∀ v,o.data≠ .cell v):Inv X (pins ++ aD3 fp s.heap) σ H s :=
 I.pins_of fun p hp=>(List.mem_append.mp hp).elim (fun z=>I.pin p (List.mem_append_right _ z)) fun z=>by
  obtain ⟨hb,e⟩:=aY3 z
  obtain ⟨f0,f1,f2,_⟩:=hf p.1 hb
  obtain ⟨o,e',d⟩:=ho p.1 hb
  rw [e] at e'; cases e'
  exact ⟨e,f0,f1,f2,d⟩
theorem Inv.unpinned {pins pl:List (Addr×Obj)} {σ:St} {H:Hp} {s:Shared} (I:Inv X (pins ++ pl) σ H s):Inv X pins σ H s:=I.pins_of fun p hp=>I.pin p (List.mem_append_right _ (List.mem_append_left _ hp))
theorem aN5 {iter:Expr} {body:List Stmt} {wi:TI} {g:TG} {tb:TS} {pos:Pos} (hp:PassesOwn (model X.prog X.w) X.A X.env X.xe) (hc:X.calm=true) (hi:PI X tg iter wi) (hg:PG X tg g) (hb:PSs X body tb)
 (hs:∀ x,foldedSetIterable iter X.env x=pure x:=by intro _; rfl):PS X (.For tg iter body [] pos) (tFor wi g tb):=by
 intro pins s σ H D I h
 refine wpAny_For (thn (hi pins s σ H _ I h) fun v s1 h1=>thn h1 fun itv s2 h2=>?_) hs
 obtain ⟨it,fp,tn,J,H2,e,I2,T,st2,f2,W,⟨m0,w0⟩,turn⟩:=h2
 subst e
 -- what stays true of the iterator's objects through the loop
 have stat:∀ {H':Hp},(∀ b∈fp,H' b=none)→∀ b∈fp,FpOk X pins H' b:=fun hn b hb=>⟨hn b hb,(f2 b hb).2⟩
 refine codeAny_forLoop_any (fun n s'=>∃ i σ' H',Inv X pins σ' H' s'∧tn i s'.heap∧(∀ b∈fp,H' b=none)∧W i n σ' H') ?_ m0 ⟨0,σ,H2,I2,st2,fun b hb=>(f2 b hb).1,w0⟩
 rintro n s3 ⟨i,σ3,H3,I3,st3,fr3,w3⟩
 rcases turn i n σ3 H3 w3 with ⟨stop,qn⟩ | ⟨go,N,hN,step⟩
 · refine wpAny_passesOwn hp (thn (T.done X rfl rfl rfl hc i pins s3 σ3 H3 X.xe I3 (stat fr3) st3 stop) fun r s4 ⟨hr,I4⟩=>?_)
   subst hr
   exact wpAny_execs_nil ⟨σ3,H3,I4,qn⟩
 · refine wpAny_passesOwn hp (thn (T.item X rfl rfl rfl hc i pins s3 σ3 H3 X.xe I3 (stat fr3) st3 go) fun r s4 ⟨u,hr,h4⟩=>?_)
   subst hr
   refine wpAny_passesOwn hp (thn h4 fun _ s5 ⟨x,H5,I5,r5,y5,st5,fr5⟩=>?_)
   have I5':=I5.pinned (stat fr5) (T.obj _ _ st5)
   refine wpAny_passesOwn hp (thn (hg _ s5 σ3 H5 x u _ I5' r5 (step x H5 y5)) fun _ s6 ⟨σ6,H6,I6,q6⟩=>?_)
   refine wpAny_passesOwn hp (thn (hb _ s6 σ6 H6 _ I6 q6) fun f s7 q7=>?_)
   have again:∀ {σ7:St} {H7:Hp},Inv X (pins ++ aD3 fp s5.heap) σ7 H7 s7→N σ7 H7→∃ m,m < n∧∃ i σ' H',Inv X pins σ' H' s7∧tn i s7.heap∧(∀ b∈fp,H' b=none)∧W i m σ' H':=fun {σ7 H7} I7 n7=>by
    obtain ⟨m',hm,w7⟩:=hN σ7 H7 n7
    refine ⟨m',hm,i + 1,σ7,H7,I7.unpinned,T.keep _ _ _ st5 fun b hb o e=>(I7.pin (b,o) (List.mem_append_right _ (List.mem_append_right _ (ak0 hb e)))).1,fun b hb=>?_,w7⟩
    obtain ⟨o,e,d⟩:=T.obj _ _ st5 b hb
    exact (I7.pin (b,o) (List.mem_append_right _ (List.mem_append_right _ (ak0 hb e)))).2.1
   cases f with
   | next=>obtain ⟨σ7,H7,I7,n7⟩:=q7; exact again I7 n7
   | cont=>obtain ⟨σ7,H7,I7,n7⟩:=q7; exact again I7 n7
   | brk=>obtain ⟨σ7,H7,I7,q7⟩:=q7; exact ⟨σ7,H7,I7.unpinned,q7⟩
   | ret v=>obtain ⟨x7,σ7,H7,I7,r7,q7⟩:=q7; exact ⟨x7,σ7,H7,I7.unpinned,r7,q7⟩
end
noncomputable abbrev R2:=V→V→Hp→VK→Prop
noncomputable def OpR (X:Cx) (f:Value→Value→Sem Value) (r:R2):Prop :=
 ∀ (pins:List (Addr×Obj)) (s:Shared) (σ:St) (H:Hp) (x y:V) (v u:Value) (Q:VK),Inv X pins σ H s→RelV x v→RelV y u→r x y H Q →
  wpAny (model X.prog X.w) X.A (f v u) (EP X pins σ Q) X.xe s
noncomputable def aG0 (X:Cx) (f:Value) (r:List V→Hp→VK→Prop):Prop :=
 ∀ (pins:List (Addr×Obj)) (s:Shared) (σ:St) (H:Hp) (xs:List V) (us:List Value) (Q:VK),Inv X pins σ H s→Vals xs us→r xs H Q →
  wpAny (model X.prog X.w) X.A (call f us) (EP X pins σ Q) X.xe s
noncomputable def tOp (r:R2) (ta tb:TE):TE:=fun σ H Q=>ta σ H fun x H1=>tb σ H1 fun y H2=>r x y H2 Q
noncomputable def tUn (r:V→Hp→VK→Prop) (ta:TE):TE:=fun σ H Q=>ta σ H fun x H1=>r x H1 Q
noncomputable def rI (C:Int→Int→Prop) (g:Int→Int→V):R2:=fun x y H Q=>∃ i j,x= .int i∧y= .int j∧C i j∧Q (g i j) H
noncomputable def rI0 (g:Int→Int→V):R2:=fun x y H Q=>∃ i j,x= .int i∧y= .int j∧Q (g i j) H
section
variable {X:Cx} {a b c:Expr} {ta tb tc:TE} {pos:Pos}
theorem binT (ha:PE X a ta) (hb:PE X b tb) {pins:List (Addr×Obj)} {s:Shared} {σ:St} {H:Hp} {R:V→V→Hp→Prop} (I:Inv X pins σ H s)
 (h:ta σ H fun x H1=>tb σ H1 fun y H2=>R x y H2) {Q:Value→Shared→Prop} {f:Value→Value→Sem Value}
 (hf:∀ v u s2 x y H2,Inv X pins σ H2 s2→RelV x v→RelV y u→R x y H2→wpAny (model X.prog X.w) X.A (f v u) Q X.xe s2) :
 wpAny (model X.prog X.w) X.A (eval a X.env) (fun v s₁=>wpAny (model X.prog X.w) X.A (eval b X.env) (fun u s₂=>wpAny (model X.prog X.w) X.A (f v u) Q X.xe s₂) X.xe s₁) X.xe s:=by
 refine thn (ha pins s σ H _ I h) fun v s1 ⟨x,H1,I1,r1,q1⟩=>?_
 refine thn (hb pins s1 σ H1 _ I1 q1) fun u s2 ⟨y,H2,I2,r2,q2⟩=>?_
 exact hf v u s2 x y H2 I2 r1 r2 q2
theorem ad7 {op:Operator} {r:R2} (ho:OpR X (binaryOp op) r) (ha:PE X a ta) (hb:PE X b tb):PE X (.BinOp a op b pos) (tOp r ta tb):=by
 intro pins s σ H Q I h
 exact wpAny_BinOp (binT ha hb I h fun v u s2 x y H2 I2 rx ry q=>ho pins s2 σ H2 x y v u Q I2 rx ry q)
theorem opI {f:Value→Value→Sem Value} {C:Int→Int→Prop} {g:Int→Int→Int}
 (rule:∀ (i j:Int) (t u:Tok) (s:Shared) (Q:Value→Shared→Prop) (E:Value→Shared→Prop),C i j→Q (.int (g i j) s.toks) { s with toks:=s.toks + 1 }→wpAny (model X.prog X.w) X.A (f (.int i t) (.int j u)) Q E s) :
 OpR X f (rI C fun i j=> .int (g i j)):=by
 intro pins s σ H x y v u Q I rx ry h
 obtain ⟨i,j,rfl,rfl,hc,q⟩:=h
 obtain ⟨t,rfl⟩:=rx
 obtain ⟨t',rfl⟩:=ry
 exact rule i j t t' s _ _ hc ⟨.int (g i j),H,I.tok _,⟨_,rfl⟩,q⟩
theorem opI0 {f:Value→Value→Sem Value} {g:Int→Int→Int}
 (rule:∀ (i j:Int) (t u:Tok) (s:Shared) (Q:Value→Shared→Prop) (E:Value→Shared→Prop),Q (.int (g i j) s.toks) { s with toks:=s.toks + 1 }→wpAny (model X.prog X.w) X.A (f (.int i t) (.int j u)) Q E s) :
 OpR X f (rI0 fun i j=> .int (g i j)):=by
 intro pins s σ H x y v u Q I rx ry h
 obtain ⟨i,j,rfl,rfl,q⟩:=h
 obtain ⟨t,rfl⟩:=rx
 obtain ⟨t',rfl⟩:=ry
 exact rule i j t t' s _ _ ⟨.int (g i j),H,I.tok _,⟨_,rfl⟩,q⟩
theorem opB0 {f:Value→Value→Sem Value} {g:Int→Int→Bool}
 (rule:∀ (i j:Int) (t u:Tok) (s:Shared) (Q:Value→Shared→Prop) (E:Value→Shared→Prop),Q (.bool (g i j)) s→wpAny (model X.prog X.w) X.A (f (.int i t) (.int j u)) Q E s) :
 OpR X f (rI0 fun i j=> .bl (g i j)):=by
 intro pins s σ H x y v u Q I rx ry h
 obtain ⟨i,j,rfl,rfl,q⟩:=h
 obtain ⟨t,rfl⟩:=rx
 obtain ⟨t',rfl⟩:=ry
 exact rule i j t t' s _ _ ⟨.bl (g i j),H,I,rfl,q⟩
noncomputable def CDiv (i j:Int):Prop:=0 < j∧j < 1073741824
noncomputable def CPow (i j:Int):Prop:=0≤j∧j≤1000000∧i.natAbs < 2 ^ 64
noncomputable def CMul (i j:Int):Prop:=(-(2 ^ 64) < i∧i < 2 ^ 64)∨(-(2 ^ 64) < j∧j < 2 ^ 64)
theorem CMul.ok {i j:Int} (h:CMul i j):IntMulOk i j:=by
 rcases h with ⟨h1,h2⟩ | ⟨h1,h2⟩
 · exact .of_left (intBits_le_64 h1 h2)
 · exact .of_right (intBits_le_64 h1 h2)
theorem ar4:OpR X (binaryOp .Add) (rI0 fun i j=> .int (i + j)):=opI0 fun _ _ _ _ _ _ _ q=>add_int q
theorem aO0:OpR X (binaryOp .Sub) (rI0 fun i j=> .int (i - j)):=opI0 fun _ _ _ _ _ _ _ q=>sub_int q
theorem bK0:OpR X (binaryOp .Mult) (rI CMul fun i j=> .int (i * j)):=opI fun _ _ _ _ _ _ _ hc q=>mul_int q hc.ok
theorem ar3:OpR X (binaryOp .FloorDiv) (rI CDiv fun i j=> .int (i / j)):=opI fun i j _ _ _ _ _ hc q=>by
 have h1:(0:Int) < j:=hc.1
 have h2:j < 1073741824:=hc.2
 exact floordiv_int (by omega) (by rw [Int.fdiv_eq_ediv_of_nonneg i (by omega)]; exact q) (.inl (PyProof.noPylong_small (by omega)))
theorem ai0:OpR X (binaryOp .Mod) (rI (fun _ j=>0 < j) fun i j=> .int (i % j)):=opI fun i j _ _ _ _ _ hc q=>by
 have h1:(0:Int) < j:=hc
 exact mod_int' (by omega) (by rw [Int.fmod_eq_emod_of_nonneg i (by omega)]; exact q)
theorem bp6:OpR X (binaryOp .Pow) (rI CPow fun i j=> .int (i ^ j.toNat)):=opI fun _ _ _ _ _ _ _ hc q=>pow_int_small hc.1 hc.2.1 hc.2.2 q
end
noncomputable def scal:V→V→Bool
 | .non,.non=>true | .non,.int _=>true | .int _,.non=>true | .non,.bl _=>true | .bl _,.non=>true | .non,.str _=>true | .str _,.non=>true
 | .int _,.int _=>true | .bl _,.bl _=>true | .str _,.str _=>true | .byt _,.byt _=>true
 | .int _,.str _=>true | .str _,.int _=>true | .bl _,.str _=>true | .str _,.bl _=>true
 | _,_=>false
noncomputable def rEq:R2:=fun x y H Q=>scal x y=true∧Q (.bl (decide (x=y))) H
noncomputable def rNe:R2:=fun x y H Q=>scal x y=true∧Q (.bl (!decide (x=y))) H
theorem bc1 {i j:Int}:decide (V.int i=V.int j)=(i == j):=by
 rw [Bool.eq_iff_iff]
 simp
theorem bq9 {i j:Bool}:decide (V.bl i=V.bl j)=(i == j):=by
 rw [Bool.eq_iff_iff]
 simp
theorem bc0 {i j:Str}:decide (V.str i=V.str j)=(i == j):=by
 rw [Bool.eq_iff_iff]
 simp
theorem bc2 {i j:Array UInt8}:decide (V.byt i=V.byt j)=(i.toList == j.toList):=by
 rw [Bool.eq_iff_iff]
 cases i
 cases j
 simp
section
variable {X:Cx} {a b c:Expr} {ta tb tc:TE} {pos:Pos}
theorem ac2 {pins:List (Addr×Obj)} {σ:St} {H:Hp} {s:Shared} {Q:VK} {k k':Bool} (I:Inv X pins σ H s) (q:Q (.bl k) H) (e:k=k'):EP X pins σ Q (.bool k') s:=by
 subst e
 exact ⟨.bl k,H,I,rfl,q⟩
theorem al2:OpR X (compareOp .Eq) rEq:=by
 intro pins s σ H x y v u Q I rx ry h
 obtain ⟨hs,q⟩:=h
 cases x with
 | non =>
   cases rx
   cases y with
   | non=>cases ry; exact PySem.EqNone.eq_none_none (ac2 I q (by simp))
   | bl j=>cases ry; exact PySem.EqNone.eq_none_bool (ac2 I q (by simp))
   | int j=>obtain ⟨t',rfl⟩:=ry; exact PySem.EqNone.eq_none_int (ac2 I q (by simp))
   | str j=>obtain ⟨t',rfl⟩:=ry; exact PySem.EqNone.eq_none_str (ac2 I q (by simp))
   | _=>exact absurd (show false=true from hs) Bool.false_ne_true
 | bl i =>
   cases rx
   cases y with
   | non=>cases ry; exact PySem.EqNone.eq_bool_none (ac2 I q (by simp))
   | bl j=>cases ry; exact eq_bool (ac2 I q bq9)
   | str j=>obtain ⟨t',rfl⟩:=ry; exact PySem.EqMixed.eq_bool_str (ac2 I q (by simp))
   | _=>exact absurd (show false=true from hs) Bool.false_ne_true
 | int i =>
   obtain ⟨t,rfl⟩:=rx
   cases y with
   | non=>cases ry; exact PySem.EqNone.eq_int_none (ac2 I q (by simp))
   | int j=>obtain ⟨t',rfl⟩:=ry; exact eq_int (ac2 I q bc1)
   | str j=>obtain ⟨t',rfl⟩:=ry; exact PySem.EqMixed.eq_int_str (ac2 I q (by simp))
   | _=>exact absurd (show false=true from hs) Bool.false_ne_true
 | str i =>
   obtain ⟨t,rfl⟩:=rx
   cases y with
   | non=>cases ry; exact PySem.EqNone.eq_str_none (ac2 I q (by simp))
   | bl j=>cases ry; exact PySem.EqMixed.eq_str_bool (ac2 I q (by simp))
   | int j=>obtain ⟨t',rfl⟩:=ry; exact PySem.EqMixed.eq_str_int (ac2 I q (by simp))
   | str j=>obtain ⟨t',rfl⟩:=ry; exact eq_str (ac2 I q bc0)
   | _=>exact absurd (show false=true from hs) Bool.false_ne_true
 | byt i =>
   obtain ⟨t,rfl⟩:=rx
   cases y with
   | byt j=>obtain ⟨t',rfl⟩:=ry; exact PySem.W.eq_bytes (ac2 I q bc2)
   | _=>exact absurd (show false=true from hs) Bool.false_ne_true
 | _=>cases y <;> exact absurd (show false=true from hs) Bool.false_ne_true
theorem bJ9:OpR X (compareOp .NotEq) rNe:=by
 intro pins s σ H x y v u Q I rx ry h
 obtain ⟨hs,q⟩:=h
 cases x with
 | non =>
   cases rx
   cases y with
   | non=>cases ry; exact PySem.EqNone.ne_none_none (ac2 I q (by simp))
   | bl j=>cases ry; exact PySem.EqNone.ne_none_bool (ac2 I q (by simp))
   | int j=>obtain ⟨t',rfl⟩:=ry; exact PySem.EqNone.ne_none_int (ac2 I q (by simp))
   | str j=>obtain ⟨t',rfl⟩:=ry; exact PySem.EqNone.ne_none_str (ac2 I q (by simp))
   | _=>exact absurd (show false=true from hs) Bool.false_ne_true
 | bl i =>
   cases rx
   cases y with
   | non=>cases ry; exact PySem.EqNone.ne_bool_none (ac2 I q (by simp))
   | bl j=>cases ry; exact ne_bool (ac2 I q (congrArg not bq9))
   | str j=>obtain ⟨t',rfl⟩:=ry; exact PySem.EqMixed.ne_bool_str (ac2 I q (by simp))
   | _=>exact absurd (show false=true from hs) Bool.false_ne_true
 | int i =>
   obtain ⟨t,rfl⟩:=rx
   cases y with
   | non=>cases ry; exact PySem.EqNone.ne_int_none (ac2 I q (by simp))
   | int j=>obtain ⟨t',rfl⟩:=ry; exact ne_int (ac2 I q (congrArg not bc1))
   | str j=>obtain ⟨t',rfl⟩:=ry; exact PySem.EqMixed.ne_int_str (ac2 I q (by simp))
   | _=>exact absurd (show false=true from hs) Bool.false_ne_true
 | str i =>
   obtain ⟨t,rfl⟩:=rx
   cases y with
   | non=>cases ry; exact PySem.EqNone.ne_str_none (ac2 I q (by simp))
   | bl j=>cases ry; exact PySem.EqMixed.ne_str_bool (ac2 I q (by simp))
   | int j=>obtain ⟨t',rfl⟩:=ry; exact PySem.EqMixed.ne_str_int (ac2 I q (by simp))
   | str j=>obtain ⟨t',rfl⟩:=ry; exact ne_str (ac2 I q (congrArg not bc0))
   | _=>exact absurd (show false=true from hs) Bool.false_ne_true
 | byt i =>
   obtain ⟨t,rfl⟩:=rx
   cases y with
   | byt j=>obtain ⟨t',rfl⟩:=ry; exact PySem.W.ne_bytes (ac2 I q (congrArg not bc2))
   | _=>exact absurd (show false=true from hs) Bool.false_ne_true
 | _=>cases y <;> exact absurd (show false=true from hs) Bool.false_ne_true
theorem aY1:OpR X (compareOp .Lt) (rI0 fun i j=> .bl (decide (i < j))):=opB0 fun _ _ _ _ _ _ _ q=>lt_int q
theorem op_gt:OpR X (compareOp .Gt) (rI0 fun i j=> .bl (decide (j < i))):=opB0 fun _ _ _ _ _ _ _ q=>gt_int q
theorem bz6:OpR X (compareOp .GtE) (rI0 fun i j=> .bl (decide (j≤i))):=opB0 fun _ _ _ _ _ _ _ q=>ge_int q
theorem ac4 (b:Expr) {op:CmpOp} (h:op≠ .In:=by decide) (h2:op≠ .NotIn:=by decide):behindInMarks op b=false:=by
 have e1:(op == CmpOp.In)=false:=by cases op <;> first | rfl | exact absurd rfl h
 have e2:(op == CmpOp.NotIn)=false:=by cases op <;> first | rfl | exact absurd rfl h2
 cases b <;> simp [behindInMarks,e1,e2]
theorem aj0 {op:CmpOp} {r:R2} (ho:OpR X (compareOp op) r) (ha:PE X a ta) (hb:PE X b tb) (hm:behindInMarks op b=false):PE X (.Compare a [op] [b] pos) (tOp r ta tb):=by
 intro pins s σ H Q I h
 exact wpAny_Compare1 (binT ha hb I h fun v u s2 x y H2 I2 rx ry q=>ho pins s2 σ H2 x y v u Q I2 rx ry q) hm
noncomputable def br4 (t:TE):TT:=fun σ H Q=>t σ H fun x H'=>∃ k,x= .bl k∧Q k H'
theorem ab8 {op:CmpOp} {r:R2} (ho:OpR X (compareOp op) r) (ha:PE X a ta) (hb:PE X b tb) (hm:behindInMarks op b=false):PT X (.Compare a [op] [b] pos) (br4 (tOp r ta tb)):=by
 intro pins s σ H Q I h
 refine wpAny_isTrue_Compare1 (thn (ha pins s σ H _ I h) fun v s1 ⟨x,H1,I1,r1,q1⟩=>thn (hb pins s1 σ H1 _ I1 q1) fun u s2 ⟨y,H2,I2,r2,q2⟩ =>
  thn (ho pins s2 σ H2 x y v u _ I2 r1 r2 q2) fun c s3 ⟨z,H3,I3,r3,k,e,q3⟩=>?_) hm
 subst e
 cases r3
 exact wpAny_truthy_bool ⟨H3,I3,q3⟩
theorem bq2:(sizeLine:Nat) < 2 ^ 63:=by rw [sizeLine_eq]; decide
theorem vals1 {x:V} {us:List Value} (r:Vals [x] us):∃ u,us=[u]∧RelV x u:=by
 cases r with
 | cons r1 r2=>cases r2; exact ⟨_,rfl,r1⟩
theorem bf7 {x y:V} {us:List Value} (r:Vals [x,y] us):∃ u w',us=[u,w']∧RelV x u∧RelV y w':=by
 cases r with
 | cons r1 r2 =>
   cases r2 with
   | cons r3 r4=>cases r4; exact ⟨_,_,rfl,r1,r3⟩
theorem ah1 (hc:X.calm=true):aG0 X (.builtin "max") (fun xs H Q=>∃ i j,xs=[.int i,.int j]∧Q (.int (if j > i then j else i)) H):=by
 intro pins s σ H xs us Q I r h
 obtain ⟨i,j,rfl,q⟩:=h
 obtain ⟨u,w',rfl,⟨t,rfl⟩,⟨t',rfl⟩⟩:=bf7 r
 refine max_two_ints (I.ok.hd hc) fun h' tk k=>⟨_,H,I.kept k,?_,q⟩
 by_cases hj:j > i
 · rw [if_pos hj,if_pos hj]; exact ⟨_,rfl⟩
 · rw [if_neg hj,if_neg hj]; exact ⟨_,rfl⟩
theorem ah0 (hc:X.calm=true):aG0 X (.builtin "min") (fun xs H Q=>∃ i j,xs=[.int i,.int j]∧Q (.int (if j < i then j else i)) H):=by
 intro pins s σ H xs us Q I r h
 obtain ⟨i,j,rfl,q⟩:=h
 obtain ⟨u,w',rfl,⟨t,rfl⟩,⟨t',rfl⟩⟩:=bf7 r
 refine min_two_ints (I.ok.hd hc) fun h' tk k=>⟨_,H,I.kept k,?_,q⟩
 by_cases hj:j < i
 · rw [if_pos hj,if_pos hj]; exact ⟨_,rfl⟩
 · rw [if_neg hj,if_neg hj]; exact ⟨_,rfl⟩
end
structure ObjM (h:Heap) (x dx C:Addr) (mA:Str→Option Value):Prop where
 obj:h.get? x=some (PySem.W.instObj C dx)
 ns:h.Ns1 dx mA
 ne:dx≠x
theorem aY8 {h:Heap} {dx:Addr} {mA:Str→Option Value} (n:h.Ns1 dx mA):∃ od,h.get? dx=some od∧∀ name,PySem.W.lookIn name od=some (mA name):=by
 obtain ⟨o,es,ep,ho,hd,hk,_,hm⟩:=n
 refine ⟨o,ho,fun name=>?_⟩
 have e:=hm name
 unfold nsFind findBy at e
 rw [← Array.find?_toList] at e
 unfold PySem.W.lookIn
 rw [hd]
 dsimp only
 split
 · rename_i y q
   rw [q] at e
   exact congrArg some e
 · rename_i q
   rw [q] at e
   have a:es.toList.any (·.refKey)=false:=by
    rw [List.any_eq_false]
    intro y hy
    obtain ⟨z,t,hkey⟩:=hk y (Array.mem_toList_iff.mp hy)
    simp [DictEntry.refKey,hkey]
   have a':¬ es.toList.any (·.refKey)=true:=by rw [a]; exact Bool.false_ne_true
   rw [if_neg a']
   exact congrArg some e
theorem ObjM.look {h:Heap} {x dx C:Addr} {mA:Str→Option Value} (I:ObjM h x dx C mA):∃ od,PySem.W.InstAt h x (PySem.W.instObj C dx) C (some od)∧∀ name,PySem.W.lookIn name od=some (mA name) :=
 let ⟨od,ho,hl⟩:=aY8 I.ns
 ⟨od,⟨I.obj,rfl,rfl,ho⟩,hl⟩
section
variable {prog:Program} {w:World} {A:Around} {E:Value→Shared→Prop} {s:Shared} {K:PySem.W.Frag} {x dx C f:Addr} {mA:Str→Option Value} {name:Str} {v:Value}
theorem bD3 {expr:Bool} {Q:Value→Shared→Prop} (X:K.In s.heap) (I:ObjM s.heap x dx C mA) (hg:PySem.W.plainGet K C name=true) (hh:PySem.W.hasDictIn K C=true)
 (ha:PySem.W.findIn K (.ref C) name=some none) (hv:mA name=some v) (hv':PySem.W.handedIn v=true) (h:Q v { s with toks:=s.toks + 1 }) :
 wpAny (model prog w) A (getAttr (.ref x) name expr) Q E s:=by
 obtain ⟨od,J,hl⟩:=I.look
 exact PySem.W.get_value X J (PySem.W.plainGet_of hg).1 (PySem.W.findObj_own hh ha rfl (by rw [hl,hv])) hv' h
theorem bk5 {pl:Sem Bool} {Q:Value×List Value→Shared→Prop} (X:K.In s.heap) (I:ObjM s.heap x dx C mA) (hg:PySem.W.plainGet K C name=true)
 (hf:PySem.W.findIn K (.ref C) name=some (some (.ref f))) (ht:PySem.W.isFn K (.ref f)=true) (hv:mA name=none) (h:Q (.ref f,[.ref x]) s) :
 wpAny (model prog w) A (getMethod (.ref x) name pl) Q E s:=by
 obtain ⟨od,J,hl⟩:=I.look
 exact PySem.W.method_fn X J (PySem.W.plainGet_of hg).1 (PySem.W.plainGet_of hg).2 hf (beq_iff_eq.mp ht) (by show (PySem.W.lookIn name od).map (·.isSome)=some false; rw [hl,hv]; rfl) h
theorem by2 {ns:List Str} {Q:Unit→Shared→Prop} (X:K.In s.heap) (I:ObjM s.heap x dx C mA)
 (hs:PySem.W.findIn K (.ref C) "__setattr__" = some (some (.builtin "object.__setattr__"))) (hp:PySem.W.plainOver K C=true) (ht:PySem.W.takerIn K C name=some none) (hh:PySem.W.hasDictIn K C=true)
 (hw:PySem.Within mA ns) (hsz:ns.length≤sizeLine)
 (h:∀ h',ObjM h' x dx C (fun y=>if y=name then some v else mA y)→Heap.SameBut dx s.heap h'→Q () { s with heap:=h',toks:=s.toks + 2 }) :
 wpAny (model prog w) A (setAttr (.ref x) name v) Q E s:=by
 obtain ⟨od,J,hl⟩:=I.look
 refine PySem.W.set_plain X J hs (PySem.W.osa_open (s:={ s with toks:=s.toks + 1 }) (r:=none) X J hp ht fun b=>?_)
 obtain ⟨cd,hc,hd'⟩:=PySem.W.any_some hh
 have hx:s.heap.get? x=some ⟨.ref C,some dx,.plain,#[]⟩:=I.obj
 refine wpAny_bind (wpAny_pure (wpAny_bind (wpAny_bind (wpAny_loadPart hx (wpAny_bind (PySem.W.Looks.here (s:={ s with toks:=s.toks + 1 }) (PySem.W.looks_clsIn X hc) ?_))))))
 rw [hd']
 refine wpAny_pure (a:=some dx) (wpAny_bind (wpAny_pure (wpAny_bind ?_)))
 refine wpAny_nsSet1 (s:={ s with toks:=s.toks + 1 }) I.ns fun h' hn2 hs2=>?_
 obtain ⟨oD,esD,epD,hoD,hdD,hcD⟩:=hn2.count (PySem.Within.cons name v hw)
 refine wpAny_bind (wpAny_lookBehind hoD (by rw [hdD]; exact pastItsLine_dict (Nat.le_trans hcD (by rw [List.length_cons]; omega))) ?_)
 exact wpAny_pure (h _ ⟨(hs2.2 _ (Ne.symm I.ne)).trans I.obj,hn2,I.ne⟩ hs2)
theorem aO5 {R:Result→Shared→Prop} {vs:List Value} {kw:List (Str×Value)} (X:K.In s.heap) (hm:PySem.W.makesIn K C=true)
 (hi:PySem.W.findIn K (.ref C) "__init__" = some (some (.ref f))) (hf:PySem.W.typeIn K (.ref f)=some (.type "function"))
 (h:codeAny (model prog w) (A.under (.builtin "type.__call__" ⟨.ref C :: vs,kw⟩)) (.call (.ref f) ⟨.ref (s.heap.objs.size + 1) :: vs,kw⟩) (PySem.W.InitBack (s.heap.objs.size + 1) R)
   { s with heap:=(s.heap.push PySem.W.emptyDict).push (PySem.W.instObj C s.heap.objs.size) }) :
 codeAny (model prog w) A (.call (.ref C) ⟨vs,kw⟩) R s:=by
 obtain ⟨hh,g,d,t,os⟩:=s
 exact PySem.W.make_core (PySem.W.makes_of X hm) (PySem.W.looks_findIn X hi) (fun self=>PySem.W.bind_fn X self hf) (.inl rfl) h
end
noncomputable def putF (f:Str) (v:V):List (Str×V)→List (Str×V)
 | []=>[(f,v)]
 | (g,x) :: r=>if g=f then (g,v) :: r else (g,x) :: putF f v r
theorem ar8 (f g:Str) (v:V):∀ fs:List (Str×V),(putF f v fs).lookup g=if g=f then some v else fs.lookup g
 | []=>by
   show List.lookup g [(f,v)]=_
   by_cases h:g=f
   · have hb:(g == f)=true:=beq_iff_eq.mpr h
     simp only [List.lookup,hb,if_pos h]
   · have hb:(g == f)=false:=beq_eq_false_iff_ne.mpr h
     simp only [List.lookup,hb,if_neg h]
 | (k,x) :: r=>by
   have ih:=ar8 f g v r
   rw [show putF f v ((k,x) :: r)=(if k=f then (k,v) :: r else (k,x) :: putF f v r) from rfl]
   by_cases hk:k=f
   · rw [if_pos hk]
     by_cases h:g=k
     · have hb:(g == k)=true:=beq_iff_eq.mpr h
       simp only [List.lookup,hb,if_pos (h.trans hk)]
     · have hb:(g == k)=false:=beq_eq_false_iff_ne.mpr h
       simp only [List.lookup,hb,if_neg (fun e:g=f=>h (e.trans hk.symm))]
   · rw [if_neg hk]
     by_cases h:g=k
     · have hb:(g == k)=true:=beq_iff_eq.mpr h
       simp only [List.lookup,hb,if_neg (fun e:g=f=>hk (h.symm.trans e))]
     · have hb:(g == k)=false:=beq_eq_false_iff_ne.mpr h
       simp only [List.lookup,hb]
       exact ih
theorem as3 (f:Str) (v:V):∀ fs:List (Str×V),f∈(putF f v fs).map (·.1)∧∀ g,g∈fs.map (·.1)→g∈(putF f v fs).map (·.1)
 | []=>⟨by simp [putF],fun g h=>by simp at h⟩
 | (k,x) :: r=>by
   obtain ⟨i1,i2⟩:=as3 f v r
   rw [show putF f v ((k,x) :: r)=(if k=f then (k,v) :: r else (k,x) :: putF f v r) from rfl]
   by_cases hk:k=f
   · rw [if_pos hk]
     subst hk
     exact ⟨by simp,fun g h=>by simpa using h⟩
   · rw [if_neg hk]
     refine ⟨?_,fun g h=>?_⟩
     · rw [List.map_cons]
       exact List.mem_cons_of_mem _ i1
     · rw [List.map_cons] at h ⊢
       rcases List.mem_cons.mp h with e | e
       · exact List.mem_cons.mpr (.inl e)
       · exact List.mem_cons_of_mem _ (i2 g e)
theorem as2 (f:Str) (v:V):∀ fs:List (Str×V),(putF f v fs).length≤fs.length + 1
 | []=>by simp [putF]
 | (k,x) :: r=>by
   have ih:=as2 f v r
   rw [show putF f v ((k,x) :: r)=(if k=f then (k,v) :: r else (k,x) :: putF f v r) from rfl]
   by_cases hk:k=f
   · rw [if_pos hk,List.length_cons,List.length_cons]; omega
   · rw [if_neg hk,List.length_cons,List.length_cons]; omega
theorem RelO.some_of {v:V} {o:Option Value} (r:RelO (some v) o):∃ u,o=some u∧RelV v u:=by
 cases o with
 | none=>exact (show False from r).elim
 | some u=>exact ⟨u,rfl,r⟩
theorem RelO.none_of {o:Option Value} (r:RelO none o):o=none:=by
 cases o with
 | none=>rfl
 | some u=>exact (show False from r).elim
theorem ba1 {v:V} {u:Value} (r:RelV v u):PySem.W.handedIn u=true:=by
 cases v with
 | non=>cases (show u=Value.none from r); rfl
 | bl b=>cases (show u=Value.bool b from r); rfl
 | int i=>obtain ⟨t,e⟩:=(show ∃ t,u=Value.int i t from r); cases e; rfl
 | str x=>obtain ⟨t,e⟩:=(show ∃ t,u=Value.str x t from r); cases e; rfl
 | byt b=>obtain ⟨t,e⟩:=(show ∃ t,u=Value.bytes b t from r); cases e; rfl
 | flt b=>obtain ⟨t,e⟩:=(show ∃ t,u=Value.float b t from r); cases e; rfl
 | ref a=>cases (show u=Value.ref a from r); rfl
 | ty n=>cases (show u=Value.type n from r); rfl
section
variable {P:Program} {w:World} {H H':Hp} {h h':Heap} {a C dx:Addr} {fs fs':List (Str×V)}
theorem az7 (hok:HOk P w H h) (e:H a=some (.ins C dx fs)):∃ mA,ObjM h a dx C mA∧(∀ f,RelO (fs.lookup f) (mA f))∧PySem.Within mA (fs.map (·.1))∧fs.length≤1000∧H dx=some (.own a):=by
 obtain ⟨d,z,ne,ob,mA,n,r,q⟩:=(show ObjOk P w H h a (.ins C dx fs) from hok a _ e)
 exact ⟨mA,⟨ob,n,ne⟩,r,q,z,d⟩
end
structure Cls (K:PySem.W.Frag) (C:Addr):Prop where
 pg:PySem.W.plainGet K C Str.empty=true
 hd:PySem.W.hasDictIn K C=true
 po:PySem.W.plainOver K C=true
 sa:PySem.W.findIn K (.ref C) "__setattr__" = some (some (.builtin "object.__setattr__"))
theorem Cls.get {K:PySem.W.Frag} {C:Addr} (c:Cls K C) (f:Str):PySem.W.plainGet K C f=true:=c.pg
noncomputable def NoAttr (K:PySem.W.Frag) (C:Addr) (f:Str):Prop:=PySem.W.findIn K (.ref C) f=some none
theorem NoAttr.taker {K:PySem.W.Frag} {C:Addr} {f:Str} (n:NoAttr K C f):PySem.W.takerIn K C f=some none:=by
 unfold PySem.W.takerIn
 rw [show PySem.W.findIn K (.ref C) f=some none from n]
 rfl
structure Meth (K:PySem.W.Frag) (C:Addr) (m:Str) (f:Addr):Prop where
 at_:PySem.W.findIn K (.ref C) m=some (some (.ref f))
 fn:PySem.W.isFn K (.ref f)=true
 kp:PySem.W.keepIn K (.ref f)=true
section
variable {X:Cx} {pins:List (Addr×Obj)} {σ:St} {H:Hp} {s:Shared} {a C dx:Addr} {fs:List (Str×V)} {f:Str} {v:V} {A:Around} {E:Value→Shared→Prop}
theorem aS3 {b:Bool} {Q:Value→Shared→Prop} (I:Inv X pins σ H s) (e:H a=some (.ins C dx fs)) (c:Cls X.K C) (n:NoAttr X.K C f) (l:fs.lookup f=some v)
 (h:∀ u s',Inv X pins σ H s'→RelV v u→Q u s'):wpAny (model X.prog X.w) A (getAttr (.ref a) f b) Q E s:=by
 obtain ⟨mA,O,r,_,_,_⟩:=az7 I.hok e
 obtain ⟨u,hu,ru⟩:=RelO.some_of (v:=v) (o:=mA f) (by rw [← l]; exact r f)
 exact bD3 I.kIn O (c.get f) c.hd n hu (ba1 ru) (h u _ (I.tok _) ru)
theorem ao3 {m:Str} {g:Addr} {pl:Sem Bool} {Q:Value×List Value→Shared→Prop} (I:Inv X pins σ H s) (e:H a=some (.ins C dx fs)) (c:Cls X.K C) (k:Meth X.K C m g) (l:fs.lookup m=none)
 (h:Q (.ref g,[.ref a]) s):wpAny (model X.prog X.w) A (getMethod (.ref a) m pl) Q E s:=by
 obtain ⟨mA,O,r,_,_,_⟩:=az7 I.hok e
 have hn:mA m=none:=RelO.none_of (by rw [← l]; exact r m)
 exact bk5 I.kIn O (c.get m) k.at_ k.fn hn h
theorem aR0 {y:V} {u:Value} {Q:Unit→Shared→Prop} (I:Inv X pins σ H s) (e:H a=some (.ins C dx fs)) (c:Cls X.K C) (n:NoAttr X.K C f) (hl:fs.length < 1000) (ry:RelV y u)
 (h:∀ s',Inv X pins σ (upd H a (.ins C dx (putF f y fs))) s'→Q () s'):wpAny (model X.prog X.w) A (setAttr (.ref a) f u) Q E s:=by
 obtain ⟨mA,O,r,wi,_,ho⟩:=az7 I.hok e
 have hz:(fs.map (·.1)).length≤sizeLine:=by rw [List.length_map,sizeLine_eq]; omega
 refine by2 I.kIn O c.sa c.po n.taker c.hd wi hz fun h' O' sb=>h _ ?_
 have hd:∃ o,h'.get? dx=some o:=let ⟨o,_,_,e',_⟩:=O'.ns; ⟨o,e'⟩
 refine I.write (x:=a) (e:=dx) (by rw [e]; exact True.intro) (.inr ho) (fun b q hb z=>(sb.2 b hb).trans z) hd ?_
 refine ⟨by rw [ab5 O.ne]; exact ho,?_,O.ne,O'.obj,_,O'.ns,fun g=>?_,fun g hg=>?_⟩
 · have:=as2 f y fs; omega
 · show RelO ((putF f y fs).lookup g) (if g=f then some u else mA g)
   rw [ar8]
   by_cases q:g=f
   · rw [if_pos q,if_pos q]; exact ry
   · rw [if_neg q,if_neg q]; exact r g
 · by_cases q:g=f
   · rw [q]; exact (as3 f y fs).1
   · refine (as3 f y fs).2 g (wi g fun z=>hg ?_)
     show (if g=f then some u else mA g)=none
     rw [if_neg q]; exact z
theorem Inv.made (I:Inv X pins σ H s):Inv X pins σ (upd (upd H s.heap.objs.size (.own (s.heap.objs.size + 1))) (s.heap.objs.size + 1) (.ins C s.heap.objs.size []))
 { s with heap:=(s.heap.push PySem.W.emptyDict).push (PySem.W.instObj C s.heap.objs.size) }:=by
 have e1:(s.heap.push PySem.W.emptyDict).get? s.heap.objs.size=some PySem.W.emptyDict:=Heap.get?_push_size s.heap rfl
 have e2:((s.heap.push PySem.W.emptyDict).push (PySem.W.instObj C s.heap.objs.size)).get? (s.heap.objs.size + 1)=some (PySem.W.instObj C s.heap.objs.size):=by
  have:=Heap.get?_push_size (s.heap.push PySem.W.emptyDict) (o:=PySem.W.instObj C s.heap.objs.size) rfl
  rwa [Heap.size_push] at this
 have e3:(s.heap.push PySem.W.emptyDict).Ns s.heap.objs.size (fun _=>none):=⟨PySem.W.emptyDict,#[],_,e1,rfl,(fun e he=>absurd he (by simp)),fun _=>rfl⟩
 have I1:=I.laid (a:=s.heap.objs.size) (o:= .own (s.heap.objs.size + 1)) (h':=s.heap.push PySem.W.emptyDict) (t':=s.toks) (fun b u q=>Heap.get?_push_of_some _ q) (Nat.le_refl _) ⟨_,e1⟩
 refine I1.laid (a:=s.heap.objs.size + 1) (o:= .ins C s.heap.objs.size []) (t':=s.toks) (fun b u q=>Heap.get?_push_of_some _ q) (Nat.le_of_eq (Heap.size_push _ _)) ?_
 have ne:s.heap.objs.size≠s.heap.objs.size + 1:=Nat.ne_of_lt (Nat.lt_succ_self _)
 refine ⟨by rw [ab5 ne,ac1],Nat.zero_le _,ne,e2,fun _=>none,(Heap.Ns1.of_empty e3).at fun o q=>Heap.get?_push_of_some _ q,fun _=>True.intro,fun y hy=>absurd rfl hy⟩
theorem bF8 {prog:Program} {w:World} {env:Env} {e:Expr} {f:Str} {pos:Pos} {s:Shared} {Q:Value→Shared→Prop} (hb:attributeBase e f env (eval e env)=eval e env)
 (h:wpAny (model prog w) A (eval e env) (fun o s₁=>wpAny (model prog w) A (getAttr o f true) Q E s₁) E s):wpAny (model prog w) A (eval (.Attribute e f pos) env) Q E s :=
 Attribute_any_ h (by rw [arm_eval_Attribute,hb])
end
noncomputable def tFld (K:PySem.W.Frag) (ta:TE) (f:Str):TE:=fun σ H Q=>ta σ H fun x H1=>∃ a C dx fs v,x= .ref a∧H1 a=some (.ins C dx fs)∧Cls K C∧NoAttr K C f∧fs.lookup f=some v∧Q v H1
noncomputable def sFld (K:PySem.W.Frag) (ta tv:TE) (f:Str):TS:=fun D σ H=>tv σ H fun y H1=>ta σ H1 fun x H2=>∃ a C dx fs,x= .ref a∧H2 a=some (.ins C dx fs)∧Cls K C∧NoAttr K C f∧fs.length < 1000 ∧
 D.nx σ (upd H2 a (.ins C dx (putF f y fs)))
section
variable {X:Cx} {o e value:Expr} {f:Str} {pos pos' tpos:Pos} {ta tv:TE}
theorem bI9 (he:PE X e ta) (hb:attributeBase e f X.env (eval e X.env)=eval e X.env):PE X (.Attribute e f pos) (tFld X.K ta f):=by
 intro pins s σ H Q I h
 refine bF8 hb (thn (he pins s σ H _ I h) fun u s1 ⟨x,H1,I1,rx,a,C,dx,fs,v,ex,ea,c,n,l,q⟩=>?_)
 subst ex
 obtain rfl:u=Value.ref a:=rx
 exact aS3 I1 ea c n l fun u' s2 I2 ru=>⟨v,H1,I2,ru,q⟩
theorem aD2 (ha:PE X o ta) (hv:PE X value tv) (hs:swapsWith value (some (.Attribute o f pos')) pos.line X.env=pure false):PS X (.Assign [.Attribute o f pos'] value pos) (sFld X.K ta tv f):=by
 intro pins s σ H D I h
 refine plainObj_wpAny_Assign_Attribute (thn (hv pins s σ H _ I h) fun u s1 ⟨y,H1,I1,ry,q⟩=>thn (ha pins s1 σ H1 _ I1 q) fun ov s2 ⟨x,H2,I2,rx,a,C,dx,fs,ex,ea,c,n,l,q2⟩=>?_) hs
 subst ex
 obtain rfl:ov=Value.ref a:=rx
 exact aR0 I2 ea c n l ry fun s3 I3=>⟨σ,_,I3,q2⟩
end
section
variable {X:Cx} {pins:List (Addr×Obj)} {σ:St} {H:Hp} {s:Shared} {A:Around} {E:Value→Shared→Prop} {Q:Value→Shared→Prop} {c:Value} {b:Bool}
inductive TyOf (K:PySem.W.Frag) (H:Hp):V→Value→Prop where
 | non:TyOf K H .non (.type "NoneType")
 | bl (x:Bool):TyOf K H (.bl x) (.type "bool")
 | int (i:Int):TyOf K H (.int i) (.type "int")
 | str (x:Str):TyOf K H (.str x) (.type "str")
 | flt (x:UInt64):TyOf K H (.flt x) (.type "float")
 | lst {a:Addr} {xs:List V} (e:H a=some (.lst xs)):TyOf K H (.ref a) (.type "list")
 | frz {a:Addr} {o:Obj} {xs:List V} (e:H a=some (.frz o (.lst xs))):TyOf K H (.ref a) (.type "list")
 | tup {a:Addr} {xs:List V} (e:H a=some (.tup xs)):TyOf K H (.ref a) (.type "tuple")
 | dK {a:Addr} {kvs:List (Key×V)} (e:H a=some (.dK kvs)):TyOf K H (.ref a) (.type "dict")
 | dT {a:Addr} {kvs:List (List Key×V)} (e:H a=some (.dT kvs)):TyOf K H (.ref a) (.type "dict")
 | ins {a C dx:Addr} {fs:List (Str×V)} (e:H a=some (.ins C dx fs)) (cl:Cls K C) (ha:PySem.W.findIn K (.ref C) "__class__" = some (some (.builtin "object.__class__")))
    (hn:PySem.W.specialIn K (.builtin "object.__class__") "__get__" = some (some (.builtin "getset_descriptor.__get__"))) (htk:PySem.W.takesIn K (.builtin "object.__class__")=some true)
    (hm:PySem.W.mroIn K C (.type "object")=some true):TyOf K H (.ref a) (.ref C)
theorem aZ5 {x:V} {u t:Value} (I:Inv X pins σ H s) (rx:RelV x u) (ty:TyOf X.K H x t) (e:PySem.W.kitOne X.K t c=some b) (h:∀ tk,Q (.bool b) { s with toks:=tk }) :
 wpAny (model X.prog X.w) A (call (.builtin "isinstance") [u,c]) Q E s:=by
 cases ty with
 | non=>cases (show u=Value.none from rx); exact PySem.W.kia_one PySem.W.kitx_none I.kIn True.intro e (fun z=>nomatch z) h
 | bl y=>cases (show u=Value.bool y from rx); exact PySem.W.kia_one PySem.W.kitx_bool I.kIn True.intro e (fun z=>nomatch z) h
 | int i=>obtain ⟨t,q⟩:=(show ∃ t,u=Value.int i t from rx); cases q; exact PySem.W.kia_one PySem.W.kitx_int I.kIn True.intro e (fun z=>nomatch z) h
 | str y=>obtain ⟨t,q⟩:=(show ∃ t,u=Value.str y t from rx); cases q; exact PySem.W.kia_one PySem.W.kitx_str I.kIn True.intro e (fun z=>nomatch z) h
 | flt y=>obtain ⟨t,q⟩:=(show ∃ t,u=Value.float y t from rx); cases q; exact PySem.W.kia_one PySem.W.kitx_float I.kIn True.intro e (fun z=>nomatch z) h
 | @lst a xs ea =>
   cases (show u=Value.ref a from rx)
   obtain ⟨_,_,n,_,h1⟩:=(show ObjOk X.prog X.w H s.heap a (.lst xs) from I.hok a _ ea)
   exact PySem.W.kia_one PySem.W.kitx_list I.kIn ⟨_,h1,rfl⟩ e (fun z=>nomatch z) h
 | @frz a ob xs ea =>
   cases (show u=Value.ref a from rx)
   obtain ⟨_,_,_,n,_,h1⟩:=(show ObjOk X.prog X.w H s.heap a (.frz ob (.lst xs)) from I.hok a _ ea)
   exact PySem.W.kia_one PySem.W.kitx_list I.kIn ⟨_,h1,rfl⟩ e (fun z=>nomatch z) h
 | @tup a xs ea =>
   cases (show u=Value.ref a from rx)
   obtain ⟨_,_,_,p⟩:=(show ObjOk X.prog X.w H s.heap a (.tup xs) from I.hok a _ ea)
   obtain ⟨o,h1,h2,_⟩:=p
   exact PySem.W.kia_one PySem.W.kitx_tuple I.kIn ⟨o,h1,h2⟩ e (fun z=>nomatch z) h
 | @dK a kvs ea =>
   cases (show u=Value.ref a from rx)
   obtain ⟨_,_,vs,_,p⟩:=(show ObjOk X.prog X.w H s.heap a (.dK kvs) from I.hok a _ ea)
   obtain ⟨o,es,ep,h1,h2,_⟩:=p
   exact PySem.W.kia_one PySem.W.kitx_dict I.kIn ⟨o,h1,h2.1⟩ e (fun z=>nomatch z) h
 | @dT a kvs ea =>
   cases (show u=Value.ref a from rx)
   obtain ⟨_,_,xs,_,o,es,ep,h1,h2,_⟩:=(show ObjOk X.prog X.w H s.heap a (.dT kvs) from I.hok a _ ea)
   exact PySem.W.kia_one PySem.W.kitx_dict I.kIn ⟨o,h1,h2.1⟩ e (fun z=>nomatch z) h
 | @ins a C dx fs ea cl ha hn htk hm =>
   cases (show u=Value.ref a from rx)
   obtain ⟨mA,O,_⟩:=az7 I.hok ea
   obtain ⟨od,J,_⟩:=O.look
   exact PySem.W.kia_one (PySem.W.kitx_own (cl.get _) cl.hd ha hn htk hm) I.kIn J e (fun z=>nomatch z) h
end
structure Room (k:Nat) (A:Around):Prop where
 hd:A.handled=none
 dp:A.depth + 3 * k + 5 < recursionLimit
 un:A.units + 16 * k + 200 < cLine
theorem Room.mono {j k:Nat} {A:Around} (r:Room k A) (h:j≤k):Room j A:=⟨r.hd,by have:=r.dp; omega,by have:=r.un; omega⟩
theorem Room.deeper {k:Nat} {A:Around} (r:Room (k + 1) A) (env:Env):Room k (A.deeper env) :=
 ⟨r.hd,by have:=r.dp; show A.depth + 1 + 3 * k + 5 < _; omega,by have:=r.un; show A.units + 3 + 16 * k + 200 < _; omega⟩
theorem Room.in1 {k:Nat} {A:Around} (r:Room (k + 1) A):Room k A.in1 :=
 ⟨r.hd,by have:=r.dp; show A.depth + 3 * k + 5 < _; omega,by have:=r.un; show A.units + 1 + 16 * k + 200 < _; omega⟩
theorem aR8 {A:Around} {C:Addr} {us:List Value} {kw:List (Str×Value)}:(A.under (.builtin "type.__call__" ⟨.ref C :: us,kw⟩)).depth=A.depth + 1:=by
 first | rfl | simp [Around.under,Code.weight,Code.isCreation,Code.isGuard,Code.isCaller,Code.frames,Code.isFrame,guardIds]
theorem aR7 {A:Around} {C:Addr} {us:List Value} {kw:List (Str×Value)}:(A.under (.builtin "type.__call__" ⟨.ref C :: us,kw⟩)).units=A.units + 1:=by
 first | rfl | simp [Around.under,Code.cUnits,Code.frames,Code.isFrame]
theorem Room.make {k:Nat} {A:Around} (r:Room (k + 1) A) (C:Addr) (us:List Value) (kw:List (Str×Value)):Room k (A.under (.builtin "type.__call__" ⟨.ref C :: us,kw⟩)) :=
 ⟨r.hd,by have:=r.dp; rw [aR8]; omega,by have:=r.un; rw [aR7]; omega⟩
theorem Room.depth {k:Nat} {A:Around} (r:Room k A):A.depth < recursionLimit:=by have:=r.dp; omega
theorem Room.units {k:Nat} {A:Around} (r:Room k A):A.units + 64 < cLine:=by have:=r.un; omega
noncomputable def tNil:TA:=fun _ H Q=>Q [] H
noncomputable def ag4 (ta:TE) (tr:TA):TA:=fun σ H Q=>ta σ H fun x H1=>tr σ H1 fun xs H2=>Q (x :: xs) H2
section
variable {X:Cx} {e:Expr} {es:List Expr} {te:TE} {t:TA} {pos:Pos}
theorem aa1:PA X [] tNil:=fun _ _ _ _ H Q I h=>Calls.spliced_nil ⟨[],H,I,.nil,h⟩
theorem aa0 (ha:PE X e te) (hr:PA X es t) (hs:starEach (e :: es) X.env=(false,eval e X.env) :: starEach es X.env:=by rfl):PA X (e :: es) (ag4 te t):=by
 intro pos pins s σ H Q I h
 rw [hs]
 show wpAny _ _ (spliced ((false,eval e X.env) :: backTo pos (starEach es X.env))) _ _ s
 refine Calls.spliced_cons (thn (ha pins s σ H _ I h) fun u s1 ⟨x,H1,I1,r1,q1⟩=>?_)
 exact thn (hr pos pins s1 σ H1 _ I1 q1) fun us s2 ⟨xs,H2,I2,r2,q2⟩=>⟨x :: xs,H2,I2,.cons r1 r2,q2⟩
noncomputable def tTup (t:TA):TE:=fun σ H Q=>t σ H fun xs H1=>xs.length≤sizeLine∧∀ p,H1 p=none→Q (.ref p) (upd H1 p (.tup xs))
noncomputable def tLst (t:TA):TE:=fun σ H Q=>t σ H fun xs H1=>xs.length≤sizeLine∧∀ p,H1 p=none→Q (.ref p) (upd H1 p (.lst xs))
theorem ag6 {x1} (h:PA X es t):PE X (.Tuple es x1 pos) (tTup t):=by
 intro pins s σ H Q I hq
 refine wpAny_Tuple_spliced (thn (h pos pins s σ H _ I hq) fun us s1 ⟨xs,H1,I1,r,z,q⟩=>⟨by rw [← r.length]; exact z,?_⟩)
 have hf:H1 s1.heap.objs.size=none:=I1.hok.fresh (Nat.le_refl _)
 refine ⟨.ref s1.heap.objs.size,upd H1 s1.heap.objs.size (.tup xs),I1.laid (t':=s1.toks) (fun b u e=>Heap.get?_push_of_some _ e) (Nat.le_refl _) ?_,rfl,q _ hf⟩
 exact ⟨z,us,r,⟨_,Heap.get?_push_size _ rfl,rfl,_,rfl⟩⟩
theorem am1 (h:PA X es t):PE X (.List es pos) (tLst t):=by
 intro pins s σ H Q I hq
 refine wpAny_List_spliced (thn (h pos pins s σ H _ I hq) fun us s1 ⟨xs,H1,I1,r,z,q⟩=>⟨by rw [← r.length]; exact z,?_⟩)
 have hf:H1 s1.heap.objs.size=none:=I1.hok.fresh (Nat.le_refl _)
 refine ⟨.ref s1.heap.objs.size,upd H1 s1.heap.objs.size (.lst xs),I1.laid (t':=s1.toks) (fun b u e=>Heap.get?_push_of_some _ e) (Nat.le_refl _) ?_,rfl,q _ hf⟩
 exact ⟨z,us,0,r,Heap.get?_push_size _ rfl⟩
end
noncomputable abbrev Sp:=List V→Hp→VK→XK→Prop
noncomputable abbrev CXT:=List Env→Hp→Shared→XK→Value→Shared→Prop
structure Env0 (P:Program) (w:World) (K:PySem.W.Frag) (mg:Str→Option Value) (base:Heap) (A:Around) (outer:List Env) (s:Shared) (H:Hp):Prop where
 frames:A.frames=some outer
 mod:Mod K mg base
 bs:∀ b o,base.get? b=some o→s.heap.get? b=some o∧H b=none
 bsz:base.objs.size≤s.heap.objs.size
 funs:s.heap.FunFrames base outer
 frf:∀ b∈frs outer,H b=none
 hok:HOk P w H s.heap
 bare:AllBare s.gens
noncomputable def CE (outer:List Env) (P:Program) (w:World) (H:Hp) (s:Shared) (Q:VK) (u:Value) (s':Shared):Prop :=
 ∃ v H',s'.os=s.os∧AllBare s'.gens∧Un (frs outer) [] H H' s.heap s'.heap∧HOk P w H' s'.heap∧RelV v u∧Q v H'
noncomputable def CR (CX:CXT) (outer:List Env) (P:Program) (w:World) (H:Hp) (s:Shared) (Q:VK) (E:XK) (r:Result) (s':Shared):Prop :=
 match r with
 | .ok (.ret u)=>CE outer P w H s Q u s'
 | .ok _=>False
 | .error e=>CX outer H s E e s'
structure FnOk (P:Program) (w:World) (K:PySem.W.Frag) (mg:Str→Option Value) (base:Heap) (CX:CXT) (k:Nat) (f:Addr) (fd:FuncData) (ps:List Str) (sp:Sp):Prop where
 len:∀ vs H Q E,sp vs H Q E→vs.length=ps.length
 run:∀ (A:Around) (outer:List Env) (s:Shared) (H:Hp) (args:Args) (us:List Value) (vs:List V) (Q:VK) (E:XK),Room k A→Env0 P w K mg base A outer s H→BindsTo s fd args (ps.zip us)→Vals vs us→sp vs H Q E →
  codeAny (model P w) A (.call (.ref f) args) (CR CX outer P w H s Q E) s
theorem FnOk.mono {P:Program} {w:World} {K:PySem.W.Frag} {mg:Str→Option Value} {base:Heap} {CX:CXT} {j k:Nat} {f:Addr} {fd:FuncData} {ps:List Str} {sp:Sp} (F:FnOk P w K mg base CX j f fd ps sp) (h:j≤k) :
 FnOk P w K mg base CX k f fd ps sp:=⟨F.len,fun A outer s H args us vs Q E hr=>F.run A outer s H args us vs Q E (hr.mono h)⟩
theorem FnOk.imp {P:Program} {w:World} {K:PySem.W.Frag} {mg:Str→Option Value} {base:Heap} {CX:CXT} {k:Nat} {f:Addr} {fd:FuncData} {ps:List Str} {sp sp':Sp} (F:FnOk P w K mg base CX k f fd ps sp)
 (h:∀ vs H Q E,sp' vs H Q E→sp vs H Q E):FnOk P w K mg base CX k f fd ps sp' :=
 ⟨fun vs H Q E q=>F.len vs H Q E (h _ _ _ _ q),fun A outer s H args us vs Q E hr he hb hv hs=>F.run A outer s H args us vs Q E hr he hb hv (h _ _ _ _ hs)⟩
theorem Env0.make {P:Program} {w:World} {K:PySem.W.Frag} {mg:Str→Option Value} {base:Heap} {A:Around} {outer:List Env} {s:Shared} {H:Hp} (e:Env0 P w K mg base A outer s H) (C:Addr) (us:List Value) (kw:List (Str×Value)) :
 Env0 P w K mg base (A.under (.builtin "type.__call__" ⟨.ref C :: us,kw⟩)) outer s H:=⟨by first | exact e.frames | (simpa [Around.under,Code.envs,Code.isFrame,pushEnvs] using e.frames),e.mod,e.bs,e.bsz,e.funs,e.frf,e.hok,e.bare⟩
theorem Env0.in1 {P:Program} {w:World} {K:PySem.W.Frag} {mg:Str→Option Value} {base:Heap} {A:Around} {outer:List Env} {s:Shared} {H:Hp} (e:Env0 P w K mg base A outer s H) :
 Env0 P w K mg base A.in1 outer s H:=⟨e.frames,e.mod,e.bs,e.bsz,e.funs,e.frf,e.hok,e.bare⟩
section
variable {X:Cx} {pins:List (Addr×Obj)} {σ:St} {H:Hp} {s s':Shared}
theorem Inv.env0 (I:Inv X pins σ H s):Env0 X.prog X.w X.K X.mg X.base X.A X.stack s H :=
 ⟨I.ok.frames,I.ok.mod,I.bs,Nat.le_trans I.ok.bsz I.sz,I.stack,I.stkFree,I.hok,I.bare⟩
theorem Inv.after {Q:VK} {u:Value} (I:Inv X pins σ H s) (h:CE X.stack X.prog X.w H s Q u s'):EP X pins σ Q u s':=by
 obtain ⟨v,H',os,bare,un,hok,r,q⟩:=h
 obtain ⟨hh,g,d,t,os'⟩:=s'
 obtain rfl:os'=s.os:=os
 exact ⟨v,H',I.call (h':=hh) (g':=g) (d':=d) (t':=t) (ch:=[]) un hok bare (fun b z=>absurd z (by simp)),r,q⟩
end
noncomputable def aQ8 (sp:Sp) (dvs:List V) (E:XK) (t:TA):TE:=fun σ H Q=>t σ H fun vs H1=>sp (vs ++ dvs) H1 Q E
noncomputable def aC4 (C:Addr) (m:Str) (sp:Sp) (dvs:List V) (E:XK) (ta:TE) (t:TA):TE:=fun σ H Q=>ta σ H fun x H1=>∃ a dx fs,x= .ref a∧H1 a=some (.ins C dx fs)∧fs.lookup m=none ∧
 t σ H1 fun vs H2=>sp (x :: (vs ++ dvs)) H2 Q E
noncomputable def bg0 (C:Addr) (sp:Sp) (dvs:List V) (E:XK) (t:TA):TE:=fun σ H Q=>t σ H fun vs H1=>∀ x dx,H1 x=none→H1 dx=none→dx≠x →
 sp (.ref x :: (vs ++ dvs)) (upd (upd H1 dx (.own x)) x (.ins C dx [])) (fun v H2=>v= .non∧Q (.ref x) H2) E
noncomputable def Binds (K:PySem.W.Frag) (fd:FuncData) (ps:List Str) (ds:List Value):Prop :=
 ∀ (s:Shared) (us:List Value),K.In s.heap→(us ++ ds).length=ps.length→BindsTo s fd ⟨us,[]⟩ (ps.zip (us ++ ds))
theorem Binds.all {K:PySem.W.Frag} {fd:FuncData} {ps:List Str} (h:∀ us:List Value,us.length=ps.length→bindArgs fd ⟨us,[]⟩=pure (ps.zip us)):Binds K fd ps []:=fun s us _ hl=>by
 rw [List.append_nil] at hl ⊢
 exact .of_eq (h us hl)
noncomputable def ap3 (CX:CXT) (X:Cx) (E:XK):Prop:=∀ (pins:List (Addr×Obj)) (σ:St) (H:Hp) (s:Shared) (e:Value) (s':Shared),Inv X pins σ H s→CX X.stack H s E e s'→X.xe e s'
section
variable {X:Cx} {CX:CXT} {k:Nat} {f C:Addr} {fd:FuncData} {ps:List Str} {sp:Sp} {dvs:List V} {ds:List Value} {E:XK} {x m:Str} {p pos apos:Pos} {e o:Expr} {es:List Expr} {ta:TE} {t:TA}
theorem aW1 {pins:List (Addr×Obj)} {σ:St} {H:Hp} {s:Shared} {Q:VK} {us:List Value} {vs:List V} (F:FnOk X.prog X.w X.K X.mg X.base CX k f fd ps sp) (hr:Room k X.A) (hb:Binds X.K fd ps ds) (hd:Vals dvs ds) (hx:ap3 CX X E)
 (I:Inv X pins σ H s) (r:Vals vs us) (h:sp (vs ++ dvs) H Q E):wpAny (model X.prog X.w) X.A (call (.ref f) us) (EP X pins σ Q) X.xe s:=by
 have r2:Vals (vs ++ dvs) (us ++ ds):=r.append hd
 have hl:(us ++ ds).length=ps.length:=by rw [← r2.length]; exact F.len _ _ _ _ h
 refine wpAny_call (codeAny_mono (F.run X.A X.stack s H ⟨us,[]⟩ (us ++ ds) (vs ++ dvs) Q E hr I.env0 (hb s us I.kIn hl) r2 h) fun r s' hq=>?_)
 cases r with
 | error e=>exact hx pins σ H s e s' I hq
 | ok fl =>
   cases fl with
   | ret u=>exact I.after hq
   | next=>exact False.elim hq
   | brk=>exact False.elim hq
   | cont=>exact False.elim hq
theorem ae2 (F:FnOk X.prog X.w X.K X.mg X.base CX k f fd ps sp) (hr:Room k X.A) (hg:Gl X x) (hm:X.mg x=some (.ref f)) (hk:PySem.W.keepIn X.K (.ref f)=true) (hb:Binds X.K fd ps ds) (hd:Vals dvs ds) (hx:ap3 CX X E)
 (ha:PA X (e :: es) t) (hdb:(x == ("__debug__" : Str))=false:=by decide) (he:starEach (e :: es) X.env=(false,eval e X.env) :: starEach es X.env:=by rfl) (hpl:(backTo pos (starEach es X.env)).any (·.1)=false:=by rfl) :
 PE X (.Call (.Name x p) (e :: es) [] pos) (aQ8 sp dvs E t):=by
 intro pins s σ H Q I h
 refine wpAny_Call_Name_kw (ao1 I hg hm ?_ hdb)
 refine PySem.W.callWith_K (h₀:=X.base) I.ok.mod.kin hk (thn (ha pos pins s σ H _ I h) fun us s1 ⟨vs,H1,I1,r,q⟩=>⟨I1.kIn,?_⟩) he hpl
 exact aW1 F hr hb hd hx I1 r q
theorem ah4 {pl:Sem Bool} (he:PE X o ta) (c:Cls X.K C) (hm:Meth X.K C m f) (F:FnOk X.prog X.w X.K X.mg X.base CX k f fd ps sp) (hr:Room k X.A) (hb:Binds X.K fd ps ds) (hd:Vals dvs ds) (hx:ap3 CX X E) (ha:PA X (e :: es) t)
 (hst:starEach (e :: es) X.env=(false,eval e X.env) :: starEach es X.env:=by rfl) (hpl:(backTo pos (starEach es X.env)).any (·.1)=false:=by rfl)
 (ht:eval (.Call (.Attribute o m apos) (e :: es) [] pos) X.env=(do
   let ov ← eval o X.env
   standAt apos.atName
   let (f,first) ← holding [ov] (getMethod ov m pl)
   callWith pos f first (backTo pos (starEach (e :: es) X.env)) (backToKw pos (keywordEach [] X.env))):=by rfl) :
 PE X (.Call (.Attribute o m apos) (e :: es) [] pos) (aC4 C m sp dvs E ta t):=by
 intro pins s σ H Q I h
 refine PySem.W.methodCall_KW (pl:=pl) (thn (he pins s σ H _ I h) fun u s1 ⟨x,H1,I1,rx,a,dx,fs,ex,ea,l,q⟩=>?_) ht
 subst ex
 obtain rfl:u=Value.ref a:=rx
 refine ao3 I1 ea c hm l ?_
 refine PySem.W.callWith_K (first:=[.ref a]) (h₀:=X.base) I.ok.mod.kin hm.kp (thn (ha pos pins s1 σ H1 _ I1 q) fun us s2 ⟨vs,H2,I2,r,q2⟩=>⟨I2.kIn,?_⟩) hst hpl
 exact aW1 (us:= .ref a :: us) (vs:= .ref a :: vs) F hr hb hd hx I2 (.cons rfl r) q2
theorem bh9 {pl:Sem Bool} (he:PE X o ta) (c:Cls X.K C) (hm:Meth X.K C m f) (F:FnOk X.prog X.w X.K X.mg X.base CX k f fd ps sp) (hr:Room k X.A) (hb:Binds X.K fd ps ds) (hd:Vals dvs ds) (hx:ap3 CX X E)
 (ht:eval (.Call (.Attribute o m apos) [] [] pos) X.env=(do
   let ov ← eval o X.env
   standAt apos.atName
   let (f,first) ← holding [ov] (getMethod ov m pl)
   callWith pos f first (backTo pos (starEach [] X.env)) (backToKw pos (keywordEach [] X.env))):=by rfl) :
 PE X (.Call (.Attribute o m apos) [] [] pos) (aC4 C m sp dvs E ta tNil):=by
 intro pins s σ H Q I h
 refine PySem.W.methodCall_KW (pl:=pl) (thn (he pins s σ H _ I h) fun u s1 ⟨x,H1,I1,rx,a,dx,fs,ex,ea,l,q⟩=>?_) ht
 subst ex
 obtain rfl:u=Value.ref a:=rx
 refine ao3 I1 ea c hm l ?_
 exact PySem.W.callWith_K0 (first:=[.ref a]) I1.kIn hm.kp (aW1 (us:=[.ref a]) (vs:=[.ref a]) F hr hb hd hx I1 (.cons rfl .nil) q)
structure Mk (K:PySem.W.Frag) (C f:Addr):Prop where
 makes:PySem.W.makesIn K C=true
 init:PySem.W.findIn K (.ref C) "__init__" = some (some (.ref f))
 fn:PySem.W.isFn K (.ref f)=true
 kp:PySem.W.keepIn K (.ref C)=true
theorem bh4 {pins:List (Addr×Obj)} {σ:St} {H:Hp} {s:Shared} {Q:VK} {us:List Value} {vs:List V} (M:Mk X.K C f) (F:FnOk X.prog X.w X.K X.mg X.base CX k f fd ps sp) (hr:Room (k + 1) X.A) (hb:Binds X.K fd ps ds) (hd:Vals dvs ds)
 (hx:ap3 CX X E) (I:Inv X pins σ H s) (r:Vals vs us)
 (h:∀ x dx,H x=none→H dx=none→dx≠x→sp (.ref x :: (vs ++ dvs)) (upd (upd H dx (.own x)) x (.ins C dx [])) (fun v H2=>v= .non∧Q (.ref x) H2) E) :
 wpAny (model X.prog X.w) X.A (call (.ref C) us) (EP X pins σ Q) X.xe s:=by
 have hq:=h (s.heap.objs.size + 1) s.heap.objs.size (I.hok.fresh (Nat.le_succ _)) (I.hok.fresh (Nat.le_refl _)) (Nat.ne_of_lt (Nat.lt_succ_self _))
 have I2:=Inv.made (C:=C) I
 have r2:Vals (V.ref (s.heap.objs.size + 1) :: (vs ++ dvs)) (Value.ref (s.heap.objs.size + 1) :: (us ++ ds)):= .cons rfl (r.append hd)
 have hl:(Value.ref (s.heap.objs.size + 1) :: us ++ ds).length=ps.length:=by
  have e:=r2.length
  rw [F.len _ _ _ _ hq] at e
  exact e.symm
 refine wpAny_call (aO5 (f:=f) I.kIn M.makes M.init (beq_iff_eq.mp M.fn) (codeAny_mono (F.run _ X.stack _ _ ⟨Value.ref (s.heap.objs.size + 1) :: us,[]⟩ (Value.ref (s.heap.objs.size + 1) :: (us ++ ds)) _ _ E (hr.make C us [])
  (I2.env0.make C us []) (hb _ (Value.ref (s.heap.objs.size + 1) :: us) I2.kIn hl) r2 hq) fun r s' hq'=>?_))
 cases r with
 | error e=>exact hx pins σ _ _ e s' I2 hq'
 | ok fl =>
   cases fl with
   | ret u =>
     obtain ⟨v,H',I3,rv,ev,q3⟩:=I2.after hq'
     subst ev
     exact ⟨rv,⟨V.ref (s.heap.objs.size + 1),H',I3,rfl,q3⟩⟩
   | next=>exact False.elim hq'
   | brk=>exact False.elim hq'
   | cont=>exact False.elim hq'
theorem bz1 (M:Mk X.K C f) (F:FnOk X.prog X.w X.K X.mg X.base CX k f fd ps sp) (hr:Room (k + 1) X.A) (hg:Gl X x) (hm:X.mg x=some (.ref C)) (hb:Binds X.K fd ps ds) (hd:Vals dvs ds) (hx:ap3 CX X E)
 (ha:PA X (e :: es) t) (hdb:(x == ("__debug__" : Str))=false:=by decide) (he:starEach (e :: es) X.env=(false,eval e X.env) :: starEach es X.env:=by rfl) (hpl:(backTo pos (starEach es X.env)).any (·.1)=false:=by rfl) :
 PE X (.Call (.Name x p) (e :: es) [] pos) (bg0 C sp dvs E t):=by
 intro pins s σ H Q I h
 refine wpAny_Call_Name_kw (ao1 I hg hm ?_ hdb)
 refine PySem.W.callWith_K (h₀:=X.base) I.ok.mod.kin M.kp (thn (ha pos pins s σ H _ I h) fun us s1 ⟨vs,H1,I1,r,q⟩=>⟨I1.kIn,?_⟩) he hpl
 exact bh4 M F hr hb hd hx I1 r q
end
noncomputable def PK (X:Cx) (kws:List Keyword) (t:TA):Prop :=
 ∀ (pos:Pos) (pins:List (Addr×Obj)) (s:Shared) (σ:St) (H:Hp) (Q:List V→Hp→Prop),Inv X pins σ H s→t σ H Q→wpAny (model X.prog X.w) X.A (evalAll ((backToKw pos (keywordEach kws X.env)).map (·.2))) (AP X pins σ Q) X.xe s
section
variable {X:Cx} {CX:CXT} {k:Nat} {f C:Addr} {fd:FuncData} {ps ks:List Str} {sp:Sp} {E:XK} {x m:Str} {p pos apos kpos:Pos} {e o:Expr} {es:List Expr} {kws:List Keyword} {te ta:TE} {t tk:TA} {nm:Option Str}
theorem bp2:PK X [] tNil:=fun _ _ _ _ H Q I h=>wpAny_evalAll_nil ⟨[],H,I,.nil,h⟩
theorem aX4 (ha:PE X e te) (hr:PK X kws t):PK X (⟨nm,e,kpos⟩ :: kws) (ag4 te t):=by
 intro pos pins s σ H Q I h
 show wpAny _ _ (evalAll ((do let v ← eval e X.env; standAt pos; pure v) :: (backToKw pos (keywordEach kws X.env)).map (·.2))) _ _ s
 refine wpAny_evalAll_cons (wpAny_bind (thn (ha pins s σ H _ I h) fun u s1 ⟨x,H1,I1,r1,q1⟩=>wpAny_bind (wpAny_standAt (wpAny_pure ?_))))
 exact thn (hr pos pins s1 σ H1 _ I1 q1) fun us s2 ⟨xs,H2,I2,r2,q2⟩=>⟨x :: xs,H2,I2,.cons r1 r2,q2⟩
variable {g:List Value→List Value→List Value} {gV:List V→List V→List V}
end
structure FnScope (N P:List Str) (sc:Scope):Prop where
 kind:sc.kind= .function
 co:sc.isCoroutine=false
 gen:sc.isGenerator=false
 nd:N.Nodup
 pre:N.take P.length=P
 par:∀ x∈P,sc.names.lookup x=some .local∨sc.names.lookup x=some .cell
 nofree:∀ y∈sc.names,y.2≠ .free
theorem aF6 {kindOf:Str→Option NameKind} {x:Str}:∀ {binds:List (Str×Value)} {m:Str→Option Value},(∀ v,(x,v)∉binds)→bindL kindOf binds m x=m x
 | [],_,_=>rfl
 | (n,v) :: r,m,h=>by
   unfold bindL
   rw [aF6 fun w hw=>h w (List.mem_cons_of_mem _ hw)]
   split
   · have:x≠n:=by rintro rfl; exact h v List.mem_cons_self
     simp [this]
   · rfl
theorem aF8 {kindOf:Str→Option NameKind} {x:Str}:∀ {binds:List (Str×Value)} {m:Str→Option Value},(∀ v,(x,v)∉binds)→bindC kindOf binds m x=m x
 | [],_,_=>rfl
 | (n,v) :: r,m,h=>by
   unfold bindC
   rw [aF8 fun w hw=>h w (List.mem_cons_of_mem _ hw)]
   split
   · rfl
   · have:x≠n:=by rintro rfl; exact h v List.mem_cons_self
     simp [this]
theorem aF7 {kindOf:Str→Option NameKind} {x:Str} {v:Value}:∀ {P:List Str} {vs:List Value} {i:Nat} {m:Str→Option Value},P.Nodup→P[i]?=some x→vs[i]?=some v→kindOf x=some .local →
 bindL kindOf (P.zip vs) m x=some v
 | [],_,_,_,_,h,_,_=>by simp at h
 | _ :: _,[],_,_,_,_,h,_=>by simp at h
 | p :: P,w :: vs,0,m,nd,h1,h2,hk=>by
   simp at h1 h2; subst h1; subst h2
   show bindL kindOf ((p,w) :: P.zip vs) m p=_
   unfold bindL
   rw [aF6 fun v hv=>(List.nodup_cons.mp nd).1 (List.of_mem_zip hv).1,if_pos hk]
   simp
 | p :: P,w :: vs,i + 1,m,nd,h1,h2,hk=>by
   show bindL kindOf ((p,w) :: P.zip vs) m x=_
   unfold bindL
   exact aF7 (i:=i) (List.nodup_cons.mp nd).2 (by simpa using h1) (by simpa using h2) hk
theorem aF9 {kindOf:Str→Option NameKind} {x:Str} {v:Value}:∀ {P:List Str} {vs:List Value} {i:Nat} {m:Str→Option Value},P.Nodup→P[i]?=some x→vs[i]?=some v→kindOf x≠some .local →
 bindC kindOf (P.zip vs) m x=some v
 | [],_,_,_,_,h,_,_=>by simp at h
 | _ :: _,[],_,_,_,_,h,_=>by simp at h
 | p :: P,w :: vs,0,m,nd,h1,h2,hk=>by
   simp at h1 h2; subst h1; subst h2
   show bindC kindOf ((p,w) :: P.zip vs) m p=_
   unfold bindC
   rw [aF8 fun v hv=>(List.nodup_cons.mp nd).1 (List.of_mem_zip hv).1,if_neg hk]
   simp
 | p :: P,w :: vs,i + 1,m,nd,h1,h2,hk=>by
   show bindC kindOf ((p,w) :: P.zip vs) m x=_
   unfold bindC
   exact aF9 (i:=i) (List.nodup_cons.mp nd).2 (by simpa using h1) (by simpa using h2) hk
noncomputable def an7 (N:List Str) (vs:List V):St:=vs.map some ++ List.replicate (N.length - vs.length) none
noncomputable def cxOf (CX:CXT) (P:Program) (w:World) (K:PySem.W.Frag) (mg:Str→Option Value) (base:Heap) (N:List Str) (qual:Str) (scope:Scope) (f:Addr) (cd:Value) (A:Around) (outer:List Env) (s:Shared) (H:Hp) (E:XK):Cx where
 prog:=P
 w:=w
 K:=K
 mg:=mg
 base:=base
 A:=A.deeper (envOfC qual scope s.heap.objs.size f cd)
 N:=N
 s₀:=s
 H₀:=H
 env:=envOfC qual scope s.heap.objs.size f cd
 outer:=outer
 stack:=envOfC qual scope s.heap.objs.size f cd :: outer
 ex:=[]
 calm:=true
 fn:=fun _=>true
 pn:=[]
 xe:=fun e s'=>wpAny (model P w) (A.deeper (envOfC qual scope s.heap.objs.size f cd)) (leaving (envOfC qual scope s.heap.objs.size f cd) e) (fun _ s''=>CX outer H s E e s'') (fun e' s''=>CX outer H s E e' s'') s'
theorem aQ3 {sc:Scope} {n:Nat} {x:Str} (h:sc.names.lookup x=some .cell):∃ c,(cellsFrom n sc.names []).lookup x=some c:=by
 have q:=PySem.W.cellsFrom_some sc.names n [] (.inl h)
 exact Option.isSome_iff_exists.mp q
theorem aZ6 {CX:CXT} {P:Program} {w:World} {K:PySem.W.Frag} {mg:Str→Option Value} {base:Heap} {N ps:List Str} {qual:Str} {scope:Scope} {f:Addr} {cd:Value} {A:Around} {outer:List Env} {s s1:Shared} {H:Hp} {E:XK} {us:List Value} {vs:List V}
 (S:FnScope N ps scope) (hd:A.handled=none) (e0:Env0 P w K mg base A outer s H) (hl:vs.length=ps.length) (r:Vals vs us)
 (x:InCallC s s.heap.objs.size (bindL (envOfC qual scope s.heap.objs.size f cd).kindOf (ps.zip us) fun _=>none) (cellsFrom (s.heap.objs.size + 1) scope.names []) (bindC (envOfC qual scope s.heap.objs.size f cd).kindOf (ps.zip us) fun _=>none) s1) :
 Inv (cxOf CX P w K mg base N qual scope f cd A outer s H E) [] (an7 N vs) H s1:=by
 have hpl:ps.length≤N.length:=by have:=congrArg List.length S.pre; rw [List.length_take] at this; omega
 obtain ⟨h1,tk,rfl,hk⟩:=x.done
 have noA:∀ b:Addr,b∉(cxOf CX P w K mg base N qual scope f cd A outer s H E).ex:=fun b z=>absurd (show b∈([]:List Addr) from z) (by simp)
 refine ⟨⟨e0.mod,S.kind,rfl,rfl,Nat.le_refl _,fun y z c h1 h2=>?_,fun y hy=>?_,fun y c _ h=>?_,fun _=>hd,Around.frames_deeper e0.frames,.inr ⟨rfl,rfl⟩,fun b z=>absurd z (noA b),e0.bs,e0.bsz,fun b _ _=>noA b,fun b z=>absurd z (noA b),e0.funs,e0.frf⟩,
  rfl,e0.bare,Un.kept hk,⟨_,x.toInCall.ns,fun i y v h1 h2 h3=>?_⟩,fun y c h=>⟨_,x.cell y c h⟩,e0.hok.fresh (Nat.le_refl _),fun y c h=>?_,fun p hp=>absurd (show p∈([]:List (Addr×Obj)) from hp) (by simp),e0.hok.kept hk,?_⟩
 · exact name_of_addr x.apart (PySem.mem_of_lookup h1) (PySem.mem_of_lookup h2)
 · have hy:scope.names.lookup y=some .cell∨scope.names.lookup y=some .free:=hy
   rcases hy with hy | hy
   · exact aQ3 hy
   · exact absurd rfl (S.nofree _ (PySem.mem_of_lookup hy))
 · exact Nat.le_of_lt (x.above y c (PySem.mem_of_lookup h))
 · have hi:i < vs.length:=by
    unfold an7 at h2
    by_cases hi:i < vs.length
    · exact hi
    · rw [List.getElem?_append_right (by simpa using hi)] at h2
      rw [List.getElem?_replicate] at h2
      split at h2 <;> cases h2
   have ha:vs[i]?=some v:=by
    unfold an7 at h2
    rw [List.getElem?_append_left (by simpa using hi),List.getElem?_map] at h2
    cases e:vs[i]? with
    | none=>rw [e] at h2; cases h2
    | some a=>rw [e] at h2; cases h2; rfl
   obtain ⟨u,hu,rv⟩:=r.get ha
   have hp:ps[i]?=some y:=by
    rw [← S.pre,List.getElem?_take_of_lt (by omega)]; exact h1
   have ndP:ps.Nodup:=by rw [← S.pre]; exact S.nd.sublist (List.take_sublist _ _)
   refine ⟨u,rv,?_⟩
   rcases S.par y (List.mem_of_getElem? hp) with k | k
   · exact .inl ⟨k,aF7 ndP hp hu k⟩
   · obtain ⟨c,e⟩:=aQ3 (n:=s.heap.objs.size + 1) k
     refine .inr ⟨.inl k,c,e,?_⟩
     have q:=x.cell y c e
     rw [aF9 ndP hp hu (by show scope.names.lookup y≠_; rw [k]; decide)] at q
     exact q
 · exact e0.hok.fresh (Nat.le_of_lt (x.above y c (PySem.mem_of_lookup h)))
 · unfold an7
   show _=N.length
   rw [List.length_append,List.length_map,List.length_replicate]
   omega
theorem fn_of {CX:CXT} {P:Program} {w:World} {K:PySem.W.Frag} {mg:Str→Option Value} {base:Heap} {k:Nat} {f:Addr} {name qual:Str} {params:Arguments} {body:List Stmt} {scope:Scope} {dV kV doc pm cdv ct oc:Value} {an od:Option Addr}
 {osl:Array (Option Value)} {N ps:List Str} {sp:Sp} (lk:K.lookup f=some ⟨oc,od,.func (PySem.W.fnOf name qual params body scope dV kV doc pm an cdv ct),osl⟩) (hcd:PySem.W.codeIn K cdv qual=true) (S:FnScope N ps scope)
 (len:∀ vs H Q E,sp vs H Q E→vs.length=ps.length)
 (hbody:∀ (A:Around) (outer:List Env) (s:Shared) (H:Hp) (vs:List V) (Q:VK) (E:XK),Room k (A.deeper (envOfC qual scope s.heap.objs.size f cdv))→sp vs H Q E →
   ∃ t,PSs (cxOf CX P w K mg base N qual scope f cdv A outer s H E) body t∧t { nx:=fun _ H'=>Q .non H',rt:=Q } (an7 N vs) H) :
 FnOk P w K mg base CX (k + 1) f (PySem.W.fnOf name qual params body scope dV kV doc pm an cdv ct) ps sp:=by
 refine ⟨len,fun A outer s H args us vs Q E hr e0 hb r hsp=>?_⟩
 have hl:=len _ _ _ _ hsp
 have KX:K.In s.heap:=e0.mod.kin.keeps fun b o e=>(e0.bs b o e).1
 have lim:s.heap.NoLimit:=e0.mod.nolimit.keeps fun b o e=>(e0.bs b o e).1
 have hkind:∀ y∈ps.zip us,scope.names.lookup y.1=some .local∨(scope.names.lookup y.1=some .cell∧((cellsFrom (s.heap.objs.size + 1) scope.names []).lookup y.1).isSome=true):=fun ⟨n,v⟩ hy=>by
  rcases S.par n (List.of_mem_zip hy).1 with q | q
  · exact .inl q
  · exact .inr ⟨q,PySem.W.cellsFrom_some _ _ _ (.inl q)⟩
 refine codeAny_call_function hr.depth (KX _ _ lk) rfl S.co S.gen rfl (PySem.W.codeRec_of KX hcd) (hb _ _ _ _ ?_)
 refine wpAny_newFunctionEnv_cells S.kind hkind fun env he s1 x=>?_
 subst he
 refine ⟨lim.keeps x.toInCall.keep,codeAny_func ?_⟩
 obtain ⟨t,ht,hq⟩:=hbody A outer s H vs Q E (hr.deeper _) hsp
 have I:Inv (cxOf CX P w K mg base N qual scope f cdv A outer s H E) [] (an7 N vs) H s1:=aZ6 S hr.hd e0 hl r x
 refine wpAny_mono (ht [] s1 (an7 N vs) H _ I hq) (fun fl s' hs=>?_) fun e s' hs=>hs
 have fin:∀ {σ':St} {H':Hp} {v:V} {u:Value},Inv (cxOf CX P w K mg base N qual scope f cdv A outer s H E) [] σ' H' s'→RelV v u→Q v H'→CE outer P w H s Q u s' :=
  fun {σ' H' v u} J rv q=>⟨v,H',J.os,J.bare,J.base,J.hok,rv,q⟩
 cases fl with
 | ret u =>
   obtain ⟨v,σ',H',J,rv,q⟩:=hs
   exact fin J rv q
 | next =>
   obtain ⟨σ',H',J,q⟩:=hs
   exact fin (v:=V.non) (u:=Value.none) J rfl q
 | brk =>
   obtain ⟨_,_,_,q⟩:=hs
   exact False.elim q
 | cont =>
   obtain ⟨_,_,_,q⟩:=hs
   exact False.elim q
section
variable {X:Cx} {x:Str} {p pos:Pos} {e:Expr} {es:List Expr} {t:TA} {id T:String} {r:List V→Hp→VK→Prop}
noncomputable def tCB (r:List V→Hp→VK→Prop) (t:TA):TE:=fun σ H Q=>t σ H fun vs H1=>r vs H1 Q
theorem ab4 (hc:aG0 X (.builtin id) r) (hg:Gl X x) (hm:X.mg x=none) (hv:bootBuiltins x=some (.builtin id)) (ha:PA X (e :: es) t) (hn:x ≠ "__name__" := by decide) (hdb:(x == ("__debug__" : Str))=false:=by decide)
 (he:starEach (e :: es) X.env=(false,eval e X.env) :: starEach es X.env:=by rfl) (hpl:(backTo pos (starEach es X.env)).any (·.1)=false:=by rfl):PE X (.Call (.Name x p) (e :: es) [] pos) (tCB r t):=by
 intro pins s σ H Q I h
 refine wpAny_Call_Name_kw (aO9 I hg hm hv ?_ hn hdb)
 exact PyProof.Rows.callWith_builtin1 (thn (ha pos pins s σ H _ I h) fun us s1 ⟨vs,H1,I1,r1,q1⟩=>hc pins s1 σ H1 vs us Q I1 r1 q1) he hpl
end
section
variable {κ:Type} [DecidableEq κ]
noncomputable def valV (kvs:List (κ×V)) (k:κ):Option V:=(kvs.find? fun kv=>decide (kv.1=k)).map (·.2)
noncomputable def putK (kvs:List (κ×V)) (k:κ) (v:V):List (κ×V) :=
 if (kvs.any fun kv=>decide (kv.1=k))=true then kvs.map (fun kv=>if kv.1=k then (kv.1,v) else kv) else kvs ++ [(k,v)]
noncomputable def aw4 (kvs:List (κ×V)) (k:κ):List (κ×V):=kvs.filter fun kv=>decide (kv.1≠k)
theorem bf8 {k:κ}:valV ([]:List (κ×V)) k=none:=rfl
theorem ap8 {p:κ×V} {r:List (κ×V)} {k:κ} (e:p.1=k):valV (p :: r) k=some p.2:=by simp [valV,List.find?_cons,e]
theorem ap9 {p:κ×V} {r:List (κ×V)} {k:κ} (e:¬ p.1=k):valV (p :: r) k=valV r k:=by simp [valV,List.find?_cons,e]
theorem aM5 (k:κ):∀ kvs:List (κ×V),(kvs.any fun kv=>decide (kv.1=k))=(valV kvs k).isSome
 | []=>rfl
 | p :: r=>by
   rw [List.any_cons]
   by_cases e:p.1=k
   · simp only [ap8 e,decide_eq_true e,Bool.true_or,Option.isSome_some]
   · rw [ap9 e,decide_eq_false e,Bool.false_or]; exact aM5 k r
theorem as0 (kvs:List (κ×V)) (k:κ) (v:V):(putK kvs k v).length≤kvs.length + 1:=by
 unfold putK
 split
 · rw [List.length_map]; omega
 · rw [List.length_append,List.length_cons,List.length_nil]; omega
theorem RelO.isSome_eq {o:Option V} {u:Option Value} (r:RelO o u):o.isSome=u.isSome:=by
 cases o with
 | none=>cases u with
   | none=>rfl
   | some _=>exact (show False from r).elim
 | some _=>cases u with
   | none=>exact (show False from r).elim
   | some _=>rfl
theorem RelO.getD {o:Option V} {u:Option Value} {d:V} {d':Value} (r:RelO o u) (rd:RelV d d'):RelV (o.getD d) (u.getD d'):=by
 cases o with
 | none=>cases u with
   | none=>exact rd
   | some _=>exact (show False from r).elim
 | some _=>cases u with
   | none=>exact (show False from r).elim
   | some _=>exact r
theorem KV.val {kvs:List (κ×V)} {vs:List (κ×Value)} (r:KV kvs vs) (k:κ):RelO (valV kvs k) (valueAt vs k):=by
 unfold KV at r
 induction r with
 | nil=>exact True.intro
 | @cons p q ps qs h t ih =>
   obtain ⟨h1,h2⟩:=h
   by_cases e:p.1=k
   · have e':q.1=k:=h1.symm.trans e
     have b:valueAt (q :: qs) k=some q.2:=by simp [valueAt,List.find?_cons,e']
     rw [ap8 e,b]; exact h2
   · have e':¬ q.1=k:=fun z=>e (h1.trans z)
     have b:valueAt (q :: qs) k=valueAt qs k:=by simp [valueAt,List.find?_cons,e']
     rw [ap9 e,b]; exact ih
theorem KV.any {kvs:List (κ×V)} {vs:List (κ×Value)} (r:KV kvs vs) (k:κ):(kvs.any fun kv=>decide (kv.1=k))=vs.any fun kv=>decide (kv.1=k):=by
 unfold KV at r
 induction r with
 | nil=>rfl
 | cons h t ih=>rw [List.any_cons,List.any_cons,ih,h.1]
theorem KV.repl {kvs:List (κ×V)} {vs:List (κ×Value)} (r:KV kvs vs) (k:κ) {y:V} {u:Value} (ry:RelV y u) :
 KV (kvs.map fun kv=>if kv.1=k then (kv.1,y) else kv) (vs.map fun kv=>if kv.1=k then (kv.1,u) else kv):=by
 unfold KV at r ⊢
 induction r with
 | nil=>exact .nil
 | @cons p q ps qs h t ih =>
   rw [List.map_cons,List.map_cons]
   refine .cons ?_ ih
   obtain ⟨h1,h2⟩:=h
   by_cases e:p.1=k
   · rw [if_pos e,if_pos (h1.symm.trans e)]; exact ⟨h1,ry⟩
   · rw [if_neg e,if_neg (fun z=>e (h1.trans z))]; exact ⟨h1,h2⟩
theorem KV.put {kvs:List (κ×V)} {vs:List (κ×Value)} (r:KV kvs vs) (k:κ) {y:V} {u:Value} (ry:RelV y u):KV (putK kvs k y) (stored vs k u):=by
 unfold putK stored
 rw [r.any k]
 by_cases e:(vs.any fun kv=>decide (kv.1=k))=true
 · rw [if_pos e,if_pos e]; exact r.repl k ry
 · rw [if_neg e,if_neg e]; exact Paired.snoc r ⟨rfl,ry⟩
theorem KV.drop {kvs:List (κ×V)} {vs:List (κ×Value)} (r:KV kvs vs) (k:κ):KV (aw4 kvs k) (without vs k):=by
 unfold KV at r ⊢
 unfold aw4 without
 induction r with
 | nil=>exact .nil
 | @cons p q ps qs h t ih =>
   obtain ⟨h1,h2⟩:=h
   rw [List.filter_cons,List.filter_cons]
   by_cases e:p.1=k
   · have a:¬ decide (p.1≠k)=true:=by simp [e]
     have b:¬ decide (q.1≠k)=true:=by simp [h1.symm.trans e]
     rw [if_neg a,if_neg b]; exact ih
   · have e':¬ q.1=k:=fun z=>e (h1.trans z)
     have a:decide (p.1≠k)=true:=by simp [e]
     have b:decide (q.1≠k)=true:=by simp [e']
     rw [if_pos a,if_pos b]; exact .cons ⟨h1,h2⟩ ih
theorem KV.length {kvs:List (κ×V)} {vs:List (κ×Value)} (r:KV kvs vs):kvs.length=vs.length:=Paired.length r
theorem bl0 (kvs:List (κ×V)) (k:κ):(aw4 kvs k).length≤kvs.length:=List.length_filter_le _ _
end
theorem bj8 {P:Program} {w:World} {k:Key} {u:Value} (r:RelV (kV k) u):(ac6 P w).is k u=true:=by
 cases k with
 | inl i=>obtain ⟨t,e⟩:=(show ∃ t,u=Value.int i t from r); subst e; exact aI5 P w i t
 | inr x=>obtain ⟨t,e⟩:=(show ∃ t,u=Value.str x t from r); subst e; exact aI4 P w x t
theorem aE2 {P:Program} {w:World}:∀ {ks:List Key} {us:List Value},Vals (ks.map kV) us→ItemsAre (ac6 P w) ks us
 | [],_,r=>by rw [List.map_nil] at r; cases r; exact .nil
 | k :: ks,_,r=>by
   rw [List.map_cons] at r
   cases r with
   | cons h t=>exact .cons (bj8 h) (aE2 t)
noncomputable abbrev KT (H:Hp):List (List Key×V)→List (List Key×Addr×Value)→Prop:=Paired fun p q=>p.1=q.1∧H q.2.1=some (.tup (p.1.map kV))∧RelV p.2 q.2.2
theorem KT.val {H:Hp} {kvs:List (List Key×V)} {xs:List (List Key×Addr×Value)} (r:KT H kvs xs) (k:List Key):RelO (valV kvs k) ((atKey xs k).map (·.2)):=by
 induction r with
 | nil=>exact True.intro
 | @cons p q ps qs h t ih =>
   obtain ⟨h1,_,h2⟩:=h
   by_cases e:p.1=k
   · have e':q.1=k:=h1.symm.trans e
     have b:atKey (q :: qs) k=some q.2:=by simp [atKey,List.find?_cons,e']
     rw [ap8 e,b]; exact h2
   · have e':¬ q.1=k:=fun z=>e (h1.trans z)
     have b:atKey (q :: qs) k=atKey qs k:=by simp [atKey,List.find?_cons,e']
     rw [ap9 e,b]; exact ih
theorem KT.repl {H:Hp} {kvs:List (List Key×V)} {xs:List (List Key×Addr×Value)} (r:KT H kvs xs) (k:List Key) {y:V} {u:Value} (ry:RelV y u) :
 KT H (kvs.map fun kv=>if kv.1=k then (kv.1,y) else kv) (xs.map (putAt k u)):=by
 induction r with
 | nil=>exact .nil
 | @cons p q ps qs h t ih =>
   rw [List.map_cons,List.map_cons]
   refine .cons ?_ ih
   obtain ⟨h1,h2,h3⟩:=h
   unfold putAt
   by_cases e:p.1=k
   · rw [if_pos e,if_pos (h1.symm.trans e)]; exact ⟨h1,h2,ry⟩
   · rw [if_neg e,if_neg (fun z=>e (h1.trans z))]; exact ⟨h1,h2,h3⟩
theorem KT.put {H:Hp} {kvs:List (List Key×V)} {xs:List (List Key×Addr×Value)} (r:KT H kvs xs) (k:List Key) {b:Addr} {y:V} {u:Value} (hb:H b=some (.tup (k.map kV))) (ry:RelV y u) :
 KT H (putK kvs k y) (storedH xs k b u):=by
 have e:(kvs.any fun kv=>decide (kv.1=k))=(atKey xs k).isSome:=by
  rw [aM5,(r.val k).isSome_eq,Option.isSome_map]
 unfold putK storedH
 rw [e]
 by_cases q:(atKey xs k).isSome=true
 · rw [if_pos q,if_pos q]; exact r.repl k ry
 · rw [if_neg q,if_neg q]; exact Paired.snoc r ⟨rfl,hb,ry⟩
theorem KT.keeps {H H':Hp} {kvs:List (List Key×V)} {xs:List (List Key×Addr×Value)} (r:KT H kvs xs) (ht:∀ b ys,H b=some (.tup ys)→H' b=some (.tup ys)):KT H' kvs xs :=
 Paired.mapP r fun _ _ z=>⟨z.1,ht _ _ z.2.1,z.2.2⟩
section
variable {P:Program} {w:World} {H:Hp} {h:Heap} {a:Addr}
theorem bI5 {u:HO} (ok:HOk P w H h) (e:Rd H a u):ObjOk P w H h a u:=e.ok ok
theorem bl6 {kvs:List (Key×V)} (ok:HOk P w H h) (e:Rd H a (.dK kvs)):kvs.length≤sizeLine∧(a == sysModules)=false∧∃ vs,KV kvs vs∧h.DictOf (ac6 P w) a vs :=
 show ObjOk P w H h a (.dK kvs) from bI5 ok e
theorem dk_of {kvs:List (Key×V)} (ok:HOk P w H h) (e:H a=some (.dK kvs)):kvs.length≤sizeLine∧(a == sysModules)=false∧∃ vs,KV kvs vs∧h.DictOf (ac6 P w) a vs:=bl6 ok (.inl e)
theorem aw8 {ks:List Key} (ok:HOk P w H h) (e:H a=some (.tup (ks.map kV))):(tupleKind (ac6 P w)).is h ks a:=by
 obtain ⟨_,its,r,o,h1,h2,n,h3⟩:=(show ObjOk P w H h a (.tup (ks.map kV)) from ok a _ e)
 exact ⟨o,its.toArray,n,h1,h2,h3,by simpa using aE2 r⟩
theorem bk8 {kvs:List (List Key×V)} (ok:HOk P w H h) (e:Rd H a (.dT kvs)):kvs.length≤sizeLine∧(a == sysModules)=false ∧
 ∃ xs,KT H kvs xs∧h.DictOfH (tupleKind (ac6 P w)) a xs:=by
 obtain ⟨z,y,xs,r,o,es,ep,h1,h2,h3,h4,h5⟩:=(show ObjOk P w H h a (.dT kvs) from bI5 ok e)
 refine ⟨z,y,xs,r,o,es,ep,h1,h2,h3,h4,fun x hx=>?_,h5⟩
 have all:∀ {l:List (List Key×V)} {m:List (List Key×Addr×Value)},KT H l m→∀ x∈m,(tupleKind (ac6 P w)).is h x.1 x.2.1:=by
  intro l m q
  induction q with
  | nil=>intro x hx; exact nomatch hx
  | @cons p q ps qs hq t ih =>
    intro x hx
    rcases List.mem_cons.mp hx with e | hx
    · subst e
      exact aw8 ok (by rw [← hq.1]; exact hq.2.1)
    · exact ih x hx
 exact all r x hx
theorem bP5 {kvs:List (List Key×V)} (ok:HOk P w H h) (e:H a=some (.dT kvs)):kvs.length≤sizeLine∧(a == sysModules)=false ∧
 ∃ xs,KT H kvs xs∧h.DictOfH (tupleKind (ac6 P w)) a xs:=bk8 ok (.inl e)
end
noncomputable def DGet (H:Hp) (a:Addr) (y:V) (r:Option V):Prop :=
 (∃ kvs k,Rd H a (.dK kvs)∧y=kV k∧r=valV kvs k)∨∃ kvs k b,Rd H a (.dT kvs)∧y= .ref b∧H b=some (.tup (k.map kV))∧r=valV kvs k
noncomputable def DPut (H:Hp) (a:Addr) (y v:V) (H':Hp):Prop :=
 (∃ kvs k,H a=some (.dK kvs)∧y=kV k∧kvs.length < sizeLine∧H'=upd H a (.dK (putK kvs k v))) ∨
 ∃ kvs k b,H a=some (.dT kvs)∧y= .ref b∧H b=some (.tup (k.map kV))∧kvs.length < sizeLine∧H'=upd H a (.dT (putK kvs k v))
theorem DGet.k {H:Hp} {a:Addr} {kvs:List (Key×V)} {k:Key} (e:H a=some (.dK kvs)):DGet H a (kV k) (valV kvs k):= .inl ⟨kvs,k,.inl e,rfl,rfl⟩
theorem DGet.t {H:Hp} {a b:Addr} {kvs:List (List Key×V)} {k:List Key} (e:H a=some (.dT kvs)) (eb:H b=some (.tup (k.map kV))):DGet H a (.ref b) (valV kvs k):= .inr ⟨kvs,k,b,.inl e,rfl,eb,rfl⟩
theorem DPut.k {H:Hp} {a:Addr} {kvs:List (Key×V)} {k:Key} {v:V} (e:H a=some (.dK kvs)) (hl:kvs.length < sizeLine):DPut H a (kV k) v (upd H a (.dK (putK kvs k v))):= .inl ⟨kvs,k,e,rfl,hl,rfl⟩
theorem DPut.t {H:Hp} {a b:Addr} {kvs:List (List Key×V)} {k:List Key} {v:V} (e:H a=some (.dT kvs)) (eb:H b=some (.tup (k.map kV))) (hl:kvs.length < sizeLine) :
 DPut H a (.ref b) v (upd H a (.dT (putK kvs k v))):= .inr ⟨kvs,k,b,e,rfl,eb,hl,rfl⟩
section
variable {X:Cx} {pins:List (Addr×Obj)} {σ:St} {H:Hp} {s:Shared} {a:Addr} {y v:V} {u r:Value} {o:Option V} {A:Around} {E:Value→Shared→Prop}
theorem Inv.big (I:Inv X pins σ H s):sysModules < s.heap.objs.size:=by
 have h:mainGlobals < s.heap.objs.size:=(I.mod.glob.keeps I.bk).lt
 exact Nat.lt_trans (by decide) h
theorem d_in {Q:Value→Shared→Prop} (hu:A.units + 1 < cLine) (I:Inv X pins σ H s) (g:DGet H a y o) (ry:RelV y u) (h:∀ s',Inv X pins σ H s'→Q (.bool o.isSome) s') :
 wpAny (model X.prog X.w) A (compareOp .In u (.ref a)) Q E s:=by
 rcases g with ⟨kvs,k,e,ey,l⟩ | ⟨kvs,k,b,e,ey,eb,l⟩
 · subst ey
   obtain ⟨z,hd,vs,rel,dd⟩:=bl6 I.hok e
   refine wpAny_in_of (bj8 ry) hd dd.mapOf ?_
   rw [← (rel.val k).isSome_eq,← l]
   exact h _ (I.tok _)
 · subst ey
   cases (show u=Value.ref b from ry)
   obtain ⟨z,hd,xs,rel,dd⟩:=bk8 I.hok e
   refine wpAny_in_heap (tupleKind_room_in1 hu) (aw8 I.hok eb) hd dd ?_
   have q:=(rel.val k).isSome_eq
   rw [Option.isSome_map] at q
   rw [← q,← l]
   exact h _ (I.tok _)
theorem bE1 {Q:Value→Shared→Prop} (hu:A.units + 1 < cLine) (I:Inv X pins σ H s) (g:DGet H a y o) (ry:RelV y u) (h:∀ s',Inv X pins σ H s'→Q (.bool (!o.isSome)) s') :
 wpAny (model X.prog X.w) A (compareOp .NotIn u (.ref a)) Q E s:=by
 rcases g with ⟨kvs,k,e,ey,l⟩ | ⟨kvs,k,b,e,ey,eb,l⟩
 · subst ey
   obtain ⟨z,hd,vs,rel,dd⟩:=bl6 I.hok e
   refine wpAny_notIn_of (bj8 ry) hd dd.mapOf ?_
   rw [← (rel.val k).isSome_eq,← l]
   exact h _ (I.tok _)
 · subst ey
   cases (show u=Value.ref b from ry)
   obtain ⟨z,hd,xs,rel,dd⟩:=bk8 I.hok e
   refine wpAny_notIn_heap (tupleKind_room_in1 hu) (aw8 I.hok eb) hd dd ?_
   have q:=(rel.val k).isSome_eq
   rw [Option.isSome_map] at q
   rw [← q,← l]
   exact h _ (I.tok _)
theorem aJ4 {h':Heap} {t':Nat} {ob:HO} (I:Inv X pins σ H s) (mu:Mut (H a)) (hs:Heap.SameBut a s.heap h') (he:∃ q,h'.get? a=some q) (new:ObjOk X.prog X.w (upd H a ob) h' a ob) :
 Inv X pins σ (upd H a ob) { s with heap:=h',toks:=t' } :=
 I.write (x:=a) (e:=a) mu (.inl rfl) (fun b q hb z=>(hs.2 b hb).trans z) he new
theorem bP7 {P:Program} {w:World} {H':Hp} {h':Heap} {kvs:List (Key×V)} {vs:List (Key×Value)} (z:kvs.length≤sizeLine) (hd:(a == sysModules)=false) (rel:KV kvs vs) (dd:h'.DictOf (ac6 P w) a vs) :
 ObjOk P w H' h' a (.dK kvs):=⟨z,hd,vs,rel,dd⟩
theorem bc3 {H':Hp} {Q:Unit→Shared→Prop} (hu:A.units + 1 < cLine) (I:Inv X pins σ H s) (g:DPut H a y v H') (ry:RelV y u) (rv:RelV v r) (h:∀ s',Inv X pins σ H' s'→Q () s') :
 wpAny (model X.prog X.w) A (setItem (.ref a) u r) Q E s:=by
 rcases g with ⟨kvs,k,e,ey,l,eH⟩ | ⟨kvs,k,b,e,ey,eb,l,eH⟩
 · subst ey eH
   obtain ⟨z,hd,vs,rel,dd⟩:=dk_of I.hok e
   have hz:vs.length≤sizeLine:=by rw [← rel.length]; exact z
   have hl:(putK kvs k v).length≤sizeLine:=by have:=as0 kvs k v; omega
   refine wpAny_setItem_pairs (hsz:=hz) (bj8 ry) dd fun h' dd' hs=>h _ ?_
   have he:∃ q,h'.get? a=some q:=let ⟨q,_,_,hq,_⟩:=dd'; ⟨q,hq⟩
   exact aJ4 I (by rw [e]; exact True.intro) hs he (bP7 hl hd (rel.put k rv) dd')
 · subst ey eH
   cases (show u=Value.ref b from ry)
   obtain ⟨z,hd,xs,rel,dd⟩:=bP5 I.hok e
   have hz:xs.length≤sizeLine:=by rw [← Paired.length rel]; exact z
   have hl:(putK kvs k v).length≤sizeLine:=by have:=as0 kvs k v; omega
   refine wpAny_setItem_heap (hsz:=hz) (tupleKind_room_in1 hu) (aw8 I.hok eb) dd fun h' dd' hs=>h _ ?_
   obtain ⟨q,es,ep,hq,h2,h3,h4,_,h5⟩:=dd'
   refine aJ4 I (by rw [e]; exact True.intro) hs ⟨q,hq⟩ ⟨hl,hd,_,(rel.put k eb rv).keeps fun c ys ec=>?_,q,es,ep,hq,h2,h3,h4,h5⟩
   rw [ab5 (bi7 ec e (fun z=>nomatch z))]
   exact ec
end
noncomputable def tDIn (ty td:TE):TE:=fun σ H Q=>ty σ H fun y H1=>td σ H1 fun x H2=>∃ a o,x= .ref a∧DGet H2 a y o∧Q (.bl o.isSome) H2
noncomputable def aT6 (ty td:TE):TE:=fun σ H Q=>ty σ H fun y H1=>td σ H1 fun x H2=>∃ a o,x= .ref a∧DGet H2 a y o∧Q (.bl (!o.isSome)) H2
noncomputable def bI4 (td ty tv:TE):TS:=fun D σ H=>tv σ H fun v H1=>td σ H1 fun x H2=>ty σ H2 fun y H3=>∃ a H4,x= .ref a∧DPut H3 a y v H4∧D.nx σ H4
section
variable {X:Cx} {o i e value:Expr} {pos pos' tpos:Pos} {td ty tv:TE}
theorem aX9 (hu:X.A.units + 1 < cLine) (hi:PE X i ty) (ho:PE X o td):PC X .In i o (tDIn ty td):=by
 intro pins s σ H Q I h
 refine thn (hi pins s σ H _ I h) fun iv s1 ⟨y,H1,I1,ry,q1⟩=>thn (ho pins s1 σ H1 _ I1 q1) fun u s2 ⟨x,H2,I2,rx,a,ov,ex,g,q2⟩=>?_
 subst ex
 obtain rfl:u=Value.ref a:=rx
 exact d_in hu I2 g ry fun s3 I3=>⟨.bl ov.isSome,H2,I3,rfl,q2⟩
theorem aX8 (hu:X.A.units + 1 < cLine) (hi:PE X i ty) (ho:PE X o td):PC X .NotIn i o (aT6 ty td):=by
 intro pins s σ H Q I h
 refine thn (hi pins s σ H _ I h) fun iv s1 ⟨y,H1,I1,ry,q1⟩=>thn (ho pins s1 σ H1 _ I1 q1) fun u s2 ⟨x,H2,I2,rx,a,ov,ex,g,q2⟩=>?_
 subst ex
 obtain rfl:u=Value.ref a:=rx
 exact bE1 hu I2 g ry fun s3 I3=>⟨.bl (!ov.isSome),H2,I3,rfl,q2⟩
theorem aX2 (hu:X.A.units + 1 < cLine) (ho:PE X o td) (hi:PE X i ty) (hv:PE X value tv) (hs:swapsWith value (some (.Subscript o i pos')) pos.line X.env=pure false) :
 PS X (.Assign [.Subscript o i pos'] value pos) (bI4 td ty tv):=by
 intro pins s σ H D I h
 refine wpAny_Assign_Subscript (thn (hv pins s σ H _ I h) fun r s1 ⟨v,H1,I1,rv,q1⟩=>thn (ho pins s1 σ H1 _ I1 q1) fun u s2 ⟨x,H2,I2,rx,q2⟩=>thn (hi pins s2 σ H2 _ I2 q2) fun iv s3 ⟨y,H3,I3,ry,a,H4,ex,g,q3⟩=>?_) hs
 subst ex
 obtain rfl:u=Value.ref a:=rx
 exact bc3 hu I3 g ry rv fun s4 I4=>⟨σ,H4,I4,q3⟩
end
theorem bk9 {P:Program} {w:World} {H:Hp} (h:Heap) (hb:sysModules < h.objs.size):ObjOk P w H (h.push { cls:= .type "dict",data:= .dict #[] }) h.objs.size (.dT []) :=
 ⟨Nat.zero_le _,beq_eq_false_iff_ne.mpr (Ne.symm (Nat.ne_of_lt hb)),[],.nil,_,#[],0,Heap.get?_push_size _ rfl,⟨rfl,rfl,rfl⟩,rfl,rfl,List.nodup_nil⟩
noncomputable def bn0:TE:=fun _ H Q=>∀ p,H p=none→Q (.ref p) (upd H p (.dT []))
section
variable {X:Cx} {pos:Pos}
theorem aq1:PE X (.Dict [] [] pos) bn0:=fun pins s σ H Q I h =>
 wpAny_Dict_empty ⟨.ref s.heap.objs.size,_,I.laid (a:=s.heap.objs.size) (o:= .dT []) (t':=s.toks) (fun _ _ q=>Heap.get?_push_of_some _ q) (Nat.le_refl _) (bk9 s.heap I.big),rfl,h _ (I.hok.fresh (Nat.le_refl _))⟩
end
structure M1 (X:Cx) (o:Expr) (m:Str) (apos:Pos) (e:Expr) (cpos:Pos):Prop where
 base:attributeBase o m X.env (eval o X.env)=eval o X.env
 few:((backTo cpos (starEach [e] X.env)).all (fun x=>!x.1) && (backToKw cpos (keywordEach [] X.env)).all (fun x=>x.1.isSome)
  && decide (([e]:List Expr).length + ([]:List Keyword).length + (if ([]:List Keyword).isEmpty then 0 else 1) < 30))=true
 line:(apos.endLine == cpos.line)=true
 trees:backTo cpos (starEach [e] X.env)=[(false,eval e X.env)]
noncomputable def IsD (H:Hp) (a:Addr):Prop:=(∃ kvs,Rd H a (.dK kvs))∨∃ kvs,Rd H a (.dT kvs)
theorem bO1 {X:Cx} {pins:List (Addr×Obj)} {σ:St} {H:Hp} {s:Shared} {a:Addr} (I:Inv X pins σ H s) (d:IsD H a) :
 s.TypeIs (.ref a) "dict" ∧ (∀ b,Value.ref a= .ref b→∃ ob,s.heap.get? b=some ob∧ob.dict=none)∧(a == sysModules)=false:=by
 rcases d with ⟨kvs,e⟩ | ⟨kvs,e⟩
 · obtain ⟨_,hd,vs,_,dd⟩:=bl6 I.hok e
   refine ⟨dd.typeIs,fun b q=>?_,hd⟩
   cases q
   obtain ⟨ob,_,_,h1,h2,_⟩:=dd
   exact ⟨ob,h1,h2.2.1⟩
 · obtain ⟨_,hd,xs,_,dd⟩:=bk8 I.hok e
   refine ⟨dd.typeIs,fun b q=>?_,hd⟩
   cases q
   obtain ⟨ob,_,_,h1,h2,_⟩:=dd
   exact ⟨ob,h1,h2.2.1⟩
end L2
namespace HT
open PySem PyProof.Rows
section
variable {prog:Program} {w:World} {A:Around} {E:Value→Shared→Prop} {s:Shared}
noncomputable def sIx (n d:Nat):Option Int→Nat
 | none=>d
 | some v=>if v < 0 then (v + (n:Int)).toNat else min v.toNat n
theorem bh3 (n d:Nat):sIx n d none=d:=rfl
end
end HT
namespace L2
open PySem PySem.Spec PyProof.Rows
noncomputable abbrev TO:=St→Hp→(Option Int→Hp→Prop)→Prop
noncomputable def PO (X:Cx) (e:Option Expr) (t:TO):Prop :=
 ∀ (pins:List (Addr×Obj)) (s:Shared) (σ:St) (H:Hp) (Q:Option Int→Hp→Prop),Inv X pins σ H s→t σ H Q →
  wpAny (model X.prog X.w) X.A (evalPart e X.env) (fun u s'=>∃ o H',Inv X pins σ H' s'∧IsPart u o∧Q o H') X.xe s
noncomputable def aT5:TO:=fun _ H Q=>Q none H
noncomputable def bG6 (t:TE):TO:=fun σ H Q=>t σ H fun x H1=>∃ i,x= .int i∧Q (some i) H1
section
variable {X:Cx} {e:Expr} {te:TE} {lo hi:Option Expr} {tl th:TO} {pos p2:Pos}
theorem by9:PO X none aT5:=by
 intro pins s σ H Q I h
 rw [evalPart_none]
 exact wpAny_pure ⟨none,H,I,.none,h⟩
theorem by8 (h:PE X e te):PO X (some e) (bG6 te):=by
 intro pins s σ H Q I hw
 rw [evalPart_some]
 refine thn (h pins s σ H _ I hw) fun u s1 ⟨x,H1,I1,r1,q1⟩=>?_
 obtain ⟨i,rfl,q⟩:=q1
 obtain ⟨t,rfl⟩:=r1
 exact ⟨some i,H1,I1,.int i t,q⟩
noncomputable def SlR (X:Cx) (r:V→Option Int→Option Int→Hp→VK→Prop):Prop :=
 ∀ (pins:List (Addr×Obj)) (s:Shared) (σ:St) (H:Hp) (x:V) (v vl vu:Value) (lo hi:Option Int) (sl:Addr) (Q:VK),Inv X pins σ H s→RelV x v→s.heap.IsSliceOf sl vl vu .none→IsPart vl lo→IsPart vu hi→r x lo hi H Q →
  ∃ T id,typeLookup (.type T) "__getitem__" = pure (some (.builtin id))∧s.TypeIs v T∧wpAny (model X.prog X.w) X.A (getItem v (.ref sl)) (EP X pins σ Q) X.xe s
noncomputable def tSl (r:V→Option Int→Option Int→Hp→VK→Prop) (te:TE) (tl th:TO):TE:=fun σ H Q=>te σ H fun x H1=>tl σ H1 fun l H2=>th σ H2 fun u H3=>r x l u H3 Q
theorem bh8 {r:V→Option Int→Option Int→Hp→VK→Prop} (hr:SlR X r) (he:PE X e te) (hl:PO X lo tl) (hu:PO X hi th):PE X (.Subscript e (.Slice lo hi none p2) pos) (tSl r te tl th):=by
 intro pins s σ H Q I h
 refine Subscript_ (thn (he pins s σ H _ I h) fun v s1 ⟨x,H1,I1,r1,q1⟩=>?_)
 refine wpAny_Slice (thn (hl pins s1 σ H1 _ I1 q1) fun vl s2 ⟨l,H2,I2,pl,q2⟩=>thn (hu pins s2 σ H2 _ I2 q2) fun vu s3 ⟨u,H3,I3,pu,q3⟩=>?_)
 rw [evalPart_none]
 refine wpAny_pure ?_
 have I4:Inv X pins σ H3 { s3 with heap:=s3.heap.push { cls:= .type "slice",data:= .fields #[vl,vu,.none] } }:=I3.kept (t':=s3.toks) fun b ob q=>Heap.get?_push_of_some _ q
 obtain ⟨T,id,hT,ht,hg⟩:=hr pins { s3 with heap:=s3.heap.push { cls:= .type "slice",data:= .fields #[vl,vu,.none] } } σ H3 x v vl vu l u s3.heap.objs.size Q I4 r1 (Heap.IsSliceOf.new ..) pl pu q3
 show wpAny (model X.prog X.w) X.A (subscriptTail e (.Slice lo hi none p2) v (.ref s3.heap.objs.size)) (EP X pins σ Q) X.xe { s3 with heap:=s3.heap.push { cls:= .type "slice",data:= .fields #[vl,vu,.none] } }
 exact tail_any (ops:=[.ref s3.heap.objs.size,v]) ht hT hg (by with_unfolding_all rfl)
noncomputable def cutV (xs:List V) (lo hi:Option Int):List V:=(xs.drop (HT.sIx xs.length 0 lo)).take (HT.sIx xs.length xs.length hi - HT.sIx xs.length 0 lo)
theorem aJ5 (xs:List V) (lo hi:Option Int):(cutV xs lo hi).length≤xs.length:=by
 unfold cutV
 rw [List.length_take,List.length_drop]
 omega
end
noncomputable def ixN (n:Nat) (i:Int):Option Nat:=if 0≤i then (if i < n then some i.toNat else none) else if -(n:Int)≤i then some (i + n).toNat else none
noncomputable def atI {α:Type} (xs:List α) (i:Int):Option α:=(ixN xs.length i).bind fun j=>xs[j]?
theorem bD0 {n:Nat} {i:Int} {j:Nat} (h:ixN n i=some j):seqIndex? i n=some j∧j < n∧-(n:Int)≤i∧i < n:=by
 unfold ixN at h
 by_cases h0:0≤i
 · rw [if_pos h0] at h
   by_cases h1:i < n
   · rw [if_pos h1] at h
     have e:i.toNat=j:=Option.some.inj h
     exact ⟨by rw [seqIndex_of h0 h1,e],by omega,by omega,h1⟩
   · rw [if_neg h1] at h; cases h
 · rw [if_neg h0] at h
   by_cases h1:-(n:Int)≤i
   · rw [if_pos h1] at h
     have e:(i + n).toNat=j:=Option.some.inj h
     exact ⟨by rw [seqIndex_neg (by omega) h1,e],by omega,h1,by omega⟩
   · rw [if_neg h1] at h; cases h
theorem bG0 {α:Type} {xs:List α} {i:Int} {v:α} (h:atI xs i=some v):∃ j,seqIndex? i xs.length=some j∧xs[j]?=some v∧j < xs.length∧-(xs.length:Int)≤i∧i < xs.length:=by
 unfold atI at h
 cases e:ixN xs.length i with
 | none=>rw [e] at h; cases h
 | some j =>
   rw [e] at h
   obtain ⟨h1,h2,h3,h4⟩:=bD0 e
   exact ⟨j,h1,h,h2,h3,h4⟩
noncomputable def bG3 (b:Expr):Prop:=∀ o i,subscripted b false o i=operate [o,i] (getItem o i)
noncomputable def IxR (X:Cx) (r:R2):Prop :=
 ∀ (value slice:Expr) (pins:List (Addr×Obj)) (s:Shared) (σ:St) (H:Hp) (x y:V) (v u:Value) (Q:VK),Inv X pins σ H s→RelV x v→RelV y u→r x y H Q →
  subscripted slice false v u=operate [v,u] (getItem v u)→wpAny (model X.prog X.w) X.A (subscriptTail value slice v u) (EP X pins σ Q) X.xe s
noncomputable def MtR (X:Cx) (id:String) (r:V→List V→Hp→VK→Prop):Prop :=
 ∀ (pins:List (Addr×Obj)) (s:Shared) (σ:St) (H:Hp) (x:V) (xs:List V) (v:Value) (us:List Value) (Q:VK),Inv X pins σ H s→RelV x v→Vals xs us→r x xs H Q →
  wpAny (model X.prog X.w) X.A (call (.builtin id) (v :: us)) (EP X pins σ Q) X.xe s
section
variable {X:Cx} {a b:Expr} {ta tb:TE} {pos:Pos}
theorem pe_ix {r:R2} (hr:IxR X r) (ha:PE X a ta) (hb:PE X b tb) (hs:bG3 b):PE X (.Subscript a b pos) (tOp r ta tb):=by
 intro pins s σ H Q I h
 exact Subscript_ (binT ha hb I h fun v u s2 x y H2 I2 rx ry q=>hr a b pins s2 σ H2 x y v u Q I2 rx ry q (hs _ _))
noncomputable def rIxL (K:PySem.W.Frag):R2:=fun x y H Q=>∃ p xs i v,x= .ref p∧y= .int i∧SqL K H p xs∧atI xs i=some v∧Q v H
theorem bC9:IxR X (rIxL X.K):=by
 intro value slice pins s σ H x y v u Q I rx ry h hs
 obtain ⟨p,xs,i,z,rfl,rfl,hq,he,q⟩:=h
 cases rx
 obtain ⟨t,rfl⟩:=ry
 obtain ⟨its,r,pl,hz⟩:=I.list hq
 obtain ⟨j,h1,h2,h3,h4,h5⟩:=bG0 he
 obtain ⟨w,ew,rw'⟩:=r.get h2
 have hl:=r.length
 have hn:=bq2
 have fin:EP X pins σ Q w s:=⟨z,H,I,rw',q⟩
 by_cases h0:0≤i
 · have hj:i.toNat=j:=by
    rw [seqIndex_of h0 h5] at h1
    exact Option.some.inj h1
   exact item_listR pl.isList h0 (by omega) (by rw [hj]; simpa using ew) fin hs
 · have hj:(i + (its.toArray.size:Int)).toNat=j:=by
    rw [seqIndex_neg (by omega) h4] at h1
    rw [List.size_toArray,← hl]
    exact Option.some.inj h1
   exact subscriptTail_builtinR (x:=w) pl.isList.typeIs slot_list_getitem.lookup
    (wpAny_getItem_list_neg (Q:=fun r s'=>r=w∧EP X pins σ Q r s') pl.isList (by omega) (by rw [List.size_toArray] <;> omega) (by omega) (by rw [hj]; simpa using ew) ⟨rfl,fin⟩) hs
theorem Inv.lst {pins:List (Addr×Obj)} {σ:St} {H:Hp} {s:Shared} {p:Addr} {xs:List V} (I:Inv X pins σ H s) (h:H p=some (.lst xs)) :
 ∃ (its:List Value) (n:Nat),Vals xs its∧s.heap.get? p=some { cls:= .type "list",data:= .seq its.toArray n }∧xs.length≤sizeLine:=by
 obtain ⟨z,its,n,r,e⟩:=I.hok p _ h
 exact ⟨its,n,r,e,z⟩
theorem aC5 (lo hi:Option Int) (n:Nat):(sliceBounds lo hi none n).1=((HT.sIx n 0 lo:Nat):Int)∧(sliceBounds lo hi none n).2.1=((HT.sIx n n hi:Nat):Int)∧(sliceBounds lo hi none n).2.2=1:=by
 refine ⟨?_,?_,rfl⟩
 · cases lo with
   | none=>simp [sliceBounds,HT.sIx]
   | some i =>
     simp only [sliceBounds,HT.sIx,Option.getD_none,show (1:Int) > 0 by decide,if_true]
     by_cases h:i < 0
     · simp only [h,if_true] <;> omega
     · simp only [h,if_false] <;> omega
 · cases hi with
   | none=>simp [sliceBounds,HT.sIx]
   | some i =>
     simp only [sliceBounds,HT.sIx,Option.getD_none,show (1:Int) > 0 by decide,if_true]
     by_cases h:i < 0
     · simp only [h,if_true] <;> omega
     · simp only [h,if_false] <;> omega
theorem ay4 (its:List Value) (lo hi:Option Int):slicePick its.toArray lo hi none=((its.drop (HT.sIx its.length 0 lo)).take (HT.sIx its.length its.length hi - HT.sIx its.length 0 lo)).toArray:=by
 obtain ⟨h1,h2,h3⟩:=aC5 lo hi its.toArray.size
 unfold slicePick
 rw [h1,h2,h3]
 simp only [sliceRange_one,pick_run,List.size_toArray] <;> rfl
noncomputable def rSlL (K:PySem.W.Frag):V→Option Int→Option Int→Hp→VK→Prop:=fun x lo hi H Q=>∃ a xs,x= .ref a∧SqL K H a xs∧∀ p,H p=none→Q (.ref p) (upd H p (.lst (cutV xs lo hi)))
theorem by1:SlR X (rSlL X.K):=by
 intro pins s σ H x v vl vu lo hi sl Q I rx hs pl pu h
 obtain ⟨a,xs,rfl,hx,q⟩:=h
 cases rx
 obtain ⟨its,r,ht,hz⟩:=I.list hx
 have hlen:=r.length
 refine ⟨"list",_,slot_list_getitem.lookup,ht.isList.typeIs,?_⟩
 refine wpAny_getItem_list_slice ht.isList hs pl pu .none (by simp) ?_ (by rw [List.size_toArray] <;> omega)
 rw [ay4,← hlen]
 refine ⟨.ref s.heap.objs.size,_,I.laid (t':=s.toks) (o:= .lst (cutV xs lo hi)) (fun b ob q=>Heap.get?_push_of_some _ q) (Nat.le_refl _) ?_,rfl,q _ (I.hok.fresh (Nat.le_refl _))⟩
 exact ⟨Nat.le_trans (aJ5 xs lo hi) hz,_,0,(r.drop (HT.sIx xs.length 0 lo)).take (HT.sIx xs.length xs.length hi - HT.sIx xs.length 0 lo),Heap.get?_push_size _ rfl⟩
theorem aF5:aG0 X (.builtin "len") (fun xs H Q=>∃ p ys,xs=[.ref p]∧(SqL X.K H p ys∨SqT X.K H p ys)∧Q (.int ys.length) H):=by
 intro pins s σ H xs us Q I r h
 obtain ⟨p,ys,rfl,hq,q⟩:=h
 obtain ⟨u,rfl,rx⟩:=vals1 r
 cases rx
 have hn:=bq2
 rcases hq with hq | hq
 · obtain ⟨its,r',pl,hz⟩:=I.list hq
   have hlen:=r'.length
   exact Calls.call_len_list pl.isList (by simp only [List.size_toArray] <;> omega) ⟨.int ys.length,H,I.tok _,⟨s.toks + 1,by rw [List.size_toArray,hlen]⟩,q⟩
 · obtain ⟨its,r',pl,hz⟩:=I.tuple hq
   have hlen:=r'.length
   exact len_tuple pl (by simp only [List.size_toArray] <;> omega) ⟨.int ys.length,H,I.tok _,⟨s.toks + 1,by rw [List.size_toArray,hlen]⟩,q⟩
noncomputable def tyV (K:PySem.W.Frag) (T:String) (x:V) (H:Hp):Prop:=match x with
 | .str _=>T = "str"
 | .int _=>T = "int"
 | .ref p=>(T = "list" ∧ ∃ xs,SqL K H p xs)∨(T = "tuple" ∧ ∃ o,K.lookup p=some o∧o.cls= .type "tuple" ∧ o.dict=none) ∨
    (T = "dict" ∧ ((∃ kvs,H p=some (.dK kvs))∨∃ kvs,H p=some (.dT kvs)))∨(T = "set" ∧ ∃ S n,H p=some (.set S n))
 | _=>False
theorem bG4 {pins:List (Addr×Obj)} {σ:St} {H:Hp} {s:Shared} {T:String} {x:V} {v:Value} (I:Inv X pins σ H s) (r:RelV x v) (ty:tyV X.K T x H) :
 s.TypeIs v T∧∀ a,v= .ref a→∃ ob,s.heap.get? a=some ob∧ob.dict=none:=by
 cases x with
 | str z =>
   obtain ⟨t,rfl⟩:=r
   cases (show T = "str" from ty)
   exact ⟨typeIs_str s z t,fun _ e=>nomatch e⟩
 | int i =>
   obtain ⟨t,rfl⟩:=r
   cases (show T = "int" from ty)
   exact ⟨typeIs_int s i t,fun _ e=>nomatch e⟩
 | ref p =>
   cases r
   rcases ty with ⟨rfl,xs,hq⟩ | ⟨rfl,o,hk,hc,hd⟩ | ⟨rfl,hk⟩ | ⟨rfl,S,n,hk⟩
   · obtain ⟨its,_,pl,_⟩:=I.list hq
     refine ⟨pl.isList.typeIs,fun a e=>?_⟩
     cases e
     obtain ⟨o,n,e,c,hd,_⟩:=pl
     exact ⟨o,e,hd⟩
   · refine ⟨⟨o,I.kIn p o hk,hc⟩,fun a e=>?_⟩
     cases e
     exact ⟨o,I.kIn _ o hk,hd⟩
   · have z:∃ o,s.heap.get? p=some o∧o.ExactDict:=by
      rcases hk with ⟨kvs,hk⟩ | ⟨kvs,hk⟩
      · obtain ⟨_,_,_,_,o,_,_,e,ex,_⟩:=I.hok p _ hk
        exact ⟨o,e,ex⟩
      · obtain ⟨_,_,_,_,o,_,_,e,ex,_⟩:=I.hok p _ hk
        exact ⟨o,e,ex⟩
     obtain ⟨o,e,ex⟩:=z
     refine ⟨⟨o,e,ex.1⟩,fun a e2=>?_⟩
     cases e2
     exact ⟨o,e,ex.2.1⟩
   · obtain ⟨o,_,_,_,e,ex,_⟩:=I.hok p _ hk
     refine ⟨⟨o,e,ex.1⟩,fun a e2=>?_⟩
     cases e2
     exact ⟨o,e,ex.2.1⟩
 | _=>exact False.elim ty
noncomputable def tBM (K:PySem.W.Frag) (T:String) (r:V→List V→Hp→VK→Prop) (to:TE) (t:TA):TE:=fun σ H Q=>to σ H fun x H1=>tyV K T x H1∧t σ H1 fun xs H2=>r x xs H2 Q
variable {o e:Expr} {es:List Expr} {to:TE} {t:TA} {name:Str} {apos cpos:Pos} {T id:String} {r:V→List V→Hp→VK→Prop}
theorem bz2 (pa:PlainAttrs T) (slot:Slot T name id) (hty:typeOf (.builtin id)=pure (.type "method_descriptor")) (hm:MtR X id r) (ho:PE X o to) (ha:PA X (e :: es) t)
 (hbase:attributeBase o name X.env (eval o X.env)=eval o X.env:=by rfl)
 (hfew:((backTo cpos (starEach (e :: es) X.env)).all (fun x=>!x.1) && (backToKw cpos (keywordEach [] X.env)).all (fun x=>x.1.isSome)
   && decide ((e :: es).length + ([]:List Keyword).length + (if ([]:List Keyword).isEmpty then 0 else 1) < 30))=true:=by rfl)
 (hline:(apos.endLine == cpos.line)=true:=by rfl) (hs:starEach (e :: es) X.env=(false,eval e X.env) :: starEach es X.env:=by rfl) (hplain:(backTo cpos (starEach es X.env)).any (·.1)=false:=by rfl) :
 PE X (.Call (.Attribute o name apos) (e :: es) [] cpos) (tBM X.K T r to t):=by
 intro pins s σ H Q I h
 refine wpAny_Call_method_late hbase hfew hline rfl (thn (ho pins s σ H _ I h) fun v s1 ⟨x,H1,I1,r1,ty,q1⟩=>?_)
 obtain ⟨h1,h2⟩:=bG4 I1 r1 ty
 refine ⟨T,id,pa,slot,hty,h1,h2,?_⟩
 have hA:=ha cpos pins s1 σ H1 _ I1 q1
 rw [hs] at hA ⊢
 refine Calls.callWith_builtin (by show (false || (backTo cpos (starEach es X.env)).any (·.1))=false; rw [hplain] <;> rfl) (Calls.evalArgs_plain ?_)
 exact thn hA fun us s2 ⟨vs,H2,I2,r2,q2⟩=>hm pins s2 σ H2 x vs v us Q I2 r1 r2 q2
end
noncomputable def MtM (X:Cx) (id:String) (r:V→List V→Hp→VK→Prop):Prop :=
 ∀ (pins:List (Addr×Obj)) (s:Shared) (σ:St) (H:Hp) (x:V) (xs:List V) (v:Value) (us:List Value) (Q:VK),Inv X pins σ H s→RelV x v→Vals xs us→r x xs H Q →
  wpAny (model X.prog X.w) X.A (call (.builtin id) (v :: us)) (EP X pins σ Q) X.xe s
theorem Vals.one:∀ {x:V} {us:List Value},Vals [x] us→∃ u,us=[u]∧RelV x u
 | _,_,.cons r .nil=>⟨_,rfl,r⟩
theorem Vals.two:∀ {x y:V} {us:List Value},Vals [x,y] us→∃ u v,us=[u,v]∧RelV x u∧RelV y v
 | _,_,_,.cons r (.cons q .nil)=>⟨_,_,rfl,r,q⟩
theorem Vals.eraseIdx:∀ {xs:List V} {us:List Value} (i:Nat),Vals xs us→Vals (xs.eraseIdx i) (us.eraseIdx i)
 | _,_,_,.nil=> .nil
 | _,_,0,.cons _ t=>t
 | _,_,i + 1,.cons r t=> .cons r (Vals.eraseIdx i t)
theorem aE0 {α:Type}:∀ (l:List α) (i:Nat),(l.eraseIdx i).length≤l.length
 | [],_=>Nat.le_refl _
 | _ :: _,0=>Nat.le_succ _
 | _ :: r,i + 1=>Nat.succ_le_succ (aE0 r i)
section
variable {X:Cx} {pins:List (Addr×Obj)} {σ:St} {H:Hp} {s:Shared} {l b:Addr} {xs ys zs:List V}
theorem Inv.lset {its its':List Value} {n:Nat} {f:Array Value→Array Value} {t':Nat} (I:Inv X pins σ H s) (hH:H l=some (.lst xs))
 (e:s.heap.get? l=some { cls:= .type "list",data:= .seq its.toArray n }) (hf:f its.toArray=its'.toArray) (hv:Vals ys its') (hz:ys.length≤sizeLine) :
 Inv X pins σ (upd H l (.lst ys)) { s with heap:=s.heap.update l (Obj.mapSeq f),toks:=t' }:=by
 have q:=PySem.IsL.update e f
 rw [hf] at q
 refine I.write (x:=l) (e:=l) (by rw [hH]; exact trivial) (.inl rfl) (fun b' u hb hu=>(Heap.get?_update_other s.heap (Obj.mapSeq f) (Ne.symm hb)).trans hu) ⟨_,q⟩ ?_
 exact ⟨hz,its',_,hv,q⟩
theorem Inv.fresh (I:Inv X pins σ H s):H s.heap.objs.size=none:=I.hok.fresh (Nat.le_refl _)
theorem Inv.lstM (I:Inv X pins σ H s) (hH:H l=some (.lst xs)):xs.length≤sizeLine∧∃ (its:List Value) (n:Nat),Vals xs its∧xs.length=its.length∧s.heap.get? l=some { cls:= .type "list",data:= .seq its.toArray n }:=by
 obtain ⟨z,its,n,r,e⟩:=I.hok l _ hH
 exact ⟨z,its,n,r,r.length,e⟩
end
section
variable {X:Cx}
noncomputable def aW9:V→List V→Hp→VK→Prop:=fun x vs H Q=>∃ l xs y,x= .ref l∧vs=[y]∧H l=some (.lst xs)∧xs.length < sizeLine∧Q .non (upd H l (.lst (xs ++ [y])))
theorem ar6:MtM X "list.append" aW9:=by
 intro pins s σ H x vs v us Q I rx rv h
 obtain ⟨l,xs,y,rfl,rfl,hH,hz,q⟩:=h
 cases rx
 obtain ⟨u,rfl,ru⟩:=rv.one
 obtain ⟨z,its,n,r,hl,e⟩:=I.lstM hH
 refine call_meets F.slot_list_append ⟨_,e,rfl⟩ F.entry_list_append (F.args_list_append_2 _ _) (PySem.list_append l its.toArray n u (by rw [List.size_toArray]; omega)) ⟨e,?_⟩
 refine ⟨.non,_,I.lset (its':=its ++ [u]) hH e (by simp) (r.append (.cons ru .nil)) ?_,rfl,q⟩
 rw [List.length_append,List.length_singleton]
 omega
end
end L2
namespace Att
open PySem PySem.W PySem.Calls PyProof.Rows
theorem as5 {P:Params} {h:Heap}:∀ (ns:List Int) (vs:List Value),WellAll P h vs (ns.map WData.int)→IntsAre vs ns:=by
 intro ns
 induction ns with
 | nil =>
   intro vs w
   rw [List.map_nil] at w
   cases w
   exact .nil
 | cons n ns ih =>
   intro vs w
   rw [List.map_cons] at w
   cases w with
   | cons a b =>
     cases a
     exact .cons _ _ (ih _ b)
theorem aV7 {l:OpenLaw} {n:Nat} (hn:l.most=some n) {P:Params} {h:Heap} {args:List WData} {vals:List Value}
 (hpre:l.row.toRowW.claim.pre args=true) (hwl:WellAll P h vals args) :
 ∃ a vs ns,vals=[Value.ref a]∧args=[WData.list (ns.map WData.int)]∧h.get? a=some { cls:= .type "list",data:= .seq vs.toArray }∧IntsAre vs ns∧ns.length≤n:=by
 have hsh:WShape.hasAll [] args [.list .int]=true:=(pre_splitW hpre).1
 have hc:l.pre.holds [] { args:=args }=true:=(pre_splitW hpre).2
 obtain ⟨d,r,rfl,h1,h2⟩:=hasAllW_cons hsh
 obtain rfl:=hasAllW_nil h2
 obtain ⟨xs,rfl,h3⟩:=hasW_list h1
 obtain ⟨ns,rfl⟩:=items_int h3
 have hlen:ns.length≤n:=by
  unfold OpenLaw.pre at hc
  have h4:(WTm.not (.lt (.lit (.int (n:Int))) (.len (.arg 0)))).holds [] { args:=[.list (ns.map .int)] }=true:=by
   have h4:=(holds_andW hc).1
   rw [hn] at h4
   exact h4
  have h5:=condW_of h4 (w_not (w_lt w_lit (w_len_list (w_arg rfl))))
  rw [List.length_map] at h5
  refine Nat.le_of_not_lt fun q=>?_
  have q':(n:Int) < ((ns.length:Nat):Int):=by omega
  first
   | (rw [decide_eq_true q'] at h5; exact absurd h5 (by decide))
   | (simp at h5; omega)
 cases hwl with
 | cons w1 w2 =>
   cases w2
   cases w1 with
   | list ho hall=>exact ⟨_,_,ns,rfl,rfl,ho,as5 ns _ hall,hlen⟩
theorem aX3 (l:OpenLaw) (args:List WData):l.row.toRowW.claim.post args (.bool true) args=true :=
 postW_of (r:=l.row.toRowW) (X:=(true == true))
  (show WShape.has [] (.bool true) .bool=true by first | rfl | decide | simp [WShape.has,WShape.arms,WShape.armsAll])
  (show (WTm.eq .res (.lit (.bool true))).value [] { args:=args,res:=some (.bool true),after:=args }=some (.bool (true == true)) from w_eq_bool (w_res rfl) w_lit) rfl
theorem aM3 {l:OpenLaw} {n:Nat} {q:Program} {loose:List Str} {XP:(Str→Option Value)→Heap→Prop} {YP:World→Heap→Prop} {d:DefRec}
 (hn:l.most=some n) (hdf:d.params.defaults=[])
 (call:∀ (w:World) (s₀ s₁:Shared) (mg mb:Str→Option Value) (fa:Addr) (o:Obj) (pm cd doc:Value) (a:Addr) (vs:List Value) (ns:List Int),
   Ground q loose [] XP w s₀ mg mb s₁.heap→YP w s₁.heap →
   s₁.heap.get? fa=some o→o.data= .func (docDef d.name d.params d.body d.scope pm cd doc)→s₁.heap.CodeRec cd d.name→mg d.name=some (.ref fa) →
   s₁.heap.get? a=some { cls:= .type "list",data:= .seq vs.toArray }→IntsAre vs ns→ns.length≤n→s₁.gens=#[] →
   codeAny (model l.prog w) callerA (.call (.ref fa) ⟨[.ref a],[]⟩) (fun r s'=>r= .ok (.ret (.bool true))∧OldK s₁.heap s'.heap∧s'.os=s₁.os∧AllBare s'.gens) s₁) :
 WalkO q loose XP YP l.row.toRowW d [] (fun f vs=>PySem.call f vs):=by
 intro w s₀ s₁ mg mb G Y fa o pm cd doc dV kV ho hd hcd hD hmg hg args vals as hpre hlay hrd hwl hlo
 obtain rfl:dV= .none:=Dflts.none hD hdf
 obtain rfl:kV= .none:=Dflts.noKw hD
 obtain ⟨a,vs,ns,rfl,rfl,hobj,hints,hlen⟩:=aV7 hn hpre hwl
 refine enter_call (codeAny_mono (call w s₀ s₁ mg mb fa o pm cd doc a vs ns G Y ho (fd_plain hd) hcd hmg hobj hints hlen hg) fun r s' hq=>?_)
 obtain ⟨rfl,h2,h3,h4⟩:=hq
 exact ⟨.inl ⟨.bool true,.bool true,[],rfl,fun _=>rfl,.bool true,aX3 l _,fun _=>⟨List.Pairwise.nil,fun _ hm=>(nomatch hm)⟩⟩,h2,h3,h4⟩
end Att
namespace L2
open PySem PySem.Spec PyProof.Rows
theorem aC2:∀ {vs:List Value} {ns:List Int},IntsAre vs ns→Vals (ns.map V.int) vs
 | _,_,.nil=> .nil
 | _,_,.cons n t h=> .cons ⟨t,rfl⟩ (aC2 h)
noncomputable abbrev Tbs:=List (Addr×Pos×Str)
noncomputable def Tbs.at (T:Tbs) (b:Addr):List (Pos×Str):=(T.filter fun p=>p.1 == b).map (·.2)
noncomputable def Tbs.ok (T:Tbs):Prop:=∀ y∈T,∀ z∈T,y.2.1.line=z.2.1.line→y.2.1.col=z.2.1.col→y.2.2=z.2.2
theorem Tbs.mem {T:Tbs} {b:Addr} {y:Pos×Str}:y∈T.at b↔(b,y)∈T:=by
 unfold Tbs.at
 simp only [List.mem_map,List.mem_filter,beq_iff_eq]
 constructor
 · rintro ⟨⟨c,x⟩,⟨h1,h2⟩,h3⟩
   dsimp only at h2 h3
   subst h2 h3
   exact h1
 · intro h
   exact ⟨(b,y),⟨h,rfl⟩,rfl⟩
noncomputable def Only (T:Tbs) (H:Hp):Prop:=(∀ p∈T,H p.1=some (.tbl (T.at p.1)))∧∀ b,H b=none∨(∃ o xs,H b=some (.frz o (.lst xs)))∨H b=some (.tbl (T.at b))
theorem bj7 {P:Program} {w:World} {K:PySem.W.Frag} {mg mb:Str→Option Value} {CX:CXT} {k:Nat} {fa a:Addr} {fd:FuncData} {x:Str} {sp:Sp} {s₁:Shared} {vs:List Value} {ns:List Int} {T:Tbs}
 (KX:K.In s₁.heap) (hns:s₁.heap.Ns mainGlobals mg) (hb:s₁.heap.Ns builtinsNs mb) (hbb:∀ x:Str,x ≠ "__name__" → mb x=bootBuiltins x) (hlim:s₁.heap.NoLimit) (hg:s₁.gens=#[])
 (hbm:∃ bm ob,mg "__builtins__" = some (.ref bm)∧bm≠builtinsNs∧s₁.heap.get? bm=some ob∧ob.cls= .type "module" ∧ ob.dict=some builtinsNs∧ob.data= .plain)
 (hT:∀ p∈T,∃ c,PySem.W.CodeHd s₁.heap c p.1∧s₁.heap.get? p.1=some (PySem.W.tabObj #[])) (hTK:∀ p∈T,K.lookup p.1=none) (hTo:T.ok)
 (ha:s₁.heap.get? a=some { cls:= .type "list",data:= .seq vs.toArray }) (hi:IntsAre vs ns) (hl:ns.length≤sizeLine) (hr:Room k callerA)
 (F:∀ base:Heap,K.In base→base.Ns mainGlobals mg→(∀ c P,PySem.W.CodeHd s₁.heap c P→PySem.W.CodeHd base c P)→FnOk P w K mg base CX k fa fd [x] sp) (hbind:∀ (s:Shared) (u:Value),BindsTo s fd ⟨[u],[]⟩ [(x,u)])
 (hsp:∀ H:Hp,Only T H→SqL K H a (ns.map V.int)→sp [.ref a] H (fun v _=>v= .bl true) fun _ _ _=>False)
 (hCX:∀ H e s',CX [] H s₁ (fun _ _ _=>False) e s'→False) :
 codeAny (model P w) callerA (.call (.ref fa) ⟨[.ref a],[]⟩) (fun r s'=>r= .ok (.ret (.bool true))∧OldK s₁.heap s'.heap∧s'.os=s₁.os∧AllBare s'.gens) s₁:=by
 have rv:=aC2 hi
 have lenV:=hi.length
 -- from an abstract heap in which nothing but the script and the tables may be tracked
 have core:∀ H:Hp,Only T H→SqL K H a (ns.map V.int)→HOk P w H s₁.heap→(∀ b,H b≠none→b=a∨∃ p∈T,p.1=b)→(H a≠none→K.lookup a=none) →
  codeAny (model P w) callerA (.call (.ref fa) ⟨[.ref a],[]⟩) (fun r s'=>r= .ok (.ret (.bool true))∧OldK s₁.heap s'.heap∧s'.os=s₁.os∧AllBare s'.gens) s₁:=by
  intro H hO hS hok hA hK
  have base_of:∀ {b:Addr} {o:Obj},s₁.heap.get? b=some o→H b=none→(hidT s₁.heap H).get? b=some o:=fun e n=>bk3 e n
  have noB:∀ {b:Addr} {o:Obj},s₁.heap.get? b=some o→o≠{ cls:= .type "list",data:= .seq vs.toArray }→o≠PySem.W.tabObj #[]→H b=none:=fun {b o} e d1 d2=>by
   cases q:H b with
   | none=>rfl
   | some u =>
     rcases hA b (by rw [q]; simp) with e' | ⟨p,hp,e'⟩
     · subst e'
       rw [ha] at e
       exact absurd (Option.some.inj e).symm d1
     · subst e'
       obtain ⟨_,_,e2⟩:=hT p hp
       rw [e2] at e
       exact absurd (Option.some.inj e).symm d2
  have noA:∀ {b:Addr} {o:Obj} {es:Array DictEntry} {ep:Nat},s₁.heap.get? b=some o→o.data= .dict es ep→H b=none:=fun {b o es ep} e d =>
   noB e (fun z=>by rw [z] at d; cases d) (fun z=>by rw [z] at d; cases d)
  have nsK:∀ {b:Addr} {m:Str→Option Value},s₁.heap.Ns b m→(hidT s₁.heap H).Ns b m:=fun {b m} ⟨o,es,ep,e,d,r⟩=>⟨o,es,ep,base_of e (noA e d),d,r⟩
  have hKb:K.In (hidT s₁.heap H):=fun b o e=>base_of (KX b o e) (by
   cases q:H b with
   | none=>rfl
   | some u =>
     rcases hA b (by rw [q]; simp) with e' | ⟨p,hp,e'⟩
     · subst e'
       rw [hK (by rw [q]; simp)] at e; cases e
     · subst e'
       rw [hTK p hp] at e; cases e)
  have hbm':∃ bm ob,mg "__builtins__" = some (.ref bm)∧bm≠builtinsNs∧(hidT s₁.heap H).get? bm=some ob∧ob.cls= .type "module" ∧ ob.dict=some builtinsNs∧ob.data= .plain:=by
   obtain ⟨bm,ob,h1,h2,h3,h4,h5,h6⟩:=hbm
   exact ⟨bm,ob,h1,h2,base_of h3 (noB h3 (fun z=>by rw [z] at h6; cases h6) fun z=>by rw [z] at h6; cases h6),h4,h5,h6⟩
  have hcd:∀ c P,PySem.W.CodeHd s₁.heap c P→PySem.W.CodeHd (hidT s₁.heap H) c P:=fun c P h=>by
   obtain ⟨o,vs',file,tf,flags,tg,inF,text,tt,e,hc,r⟩:=h
   exact ⟨o,vs',file,tf,flags,tg,inF,text,tt,base_of e (noB e (fun z=>by rw [z] at hc; simp at hc) fun z=>by rw [z] at hc; simp at hc),hc,r⟩
  have hM:Mod K mg (hidT s₁.heap H):=⟨hKb,nsK hns,⟨mb,nsK hb,hbb⟩,(let ⟨mc,h1,h2⟩:=hlim; ⟨mc,nsK h1,h2⟩),hbm'⟩
  have e0:Env0 P w K mg (hidT s₁.heap H) callerA [] s₁ H:=⟨rfl,hM,fun b o e=>bz8 e,Nat.le_of_eq (aZ9 _ _),trivial,fun b hb=>absurd (show b∈([]:List Addr) from hb) (by simp),hok,.of_eq hg⟩
  refine codeAny_mono ((F _ hKb (nsK hns) hcd).run callerA [] s₁ H ⟨[.ref a],[]⟩ [.ref a] [.ref a] _ _ hr e0 (hbind s₁ (.ref a)) (.cons rfl .nil) (hsp H hO hS)) fun r s' h=>?_
  cases r with
  | error e=>exact (hCX H e s' h).elim
  | ok fl =>
    cases fl with
    | next=>exact False.elim h
    | brk=>exact False.elim h
    | cont=>exact False.elim h
    | ret u =>
      obtain ⟨v,H',os,bare,un,hok',r',q⟩:=h
      have q':v= .bl true:=q
      subst q'
      obtain rfl:u=Value.bool true:=r'
      refine ⟨rfl,⟨fun b o e=>?_,fun b o e=>un.there b o e (by simp)⟩,os,bare⟩
      cases q:H b with
      | none=>exact .inl (un.keep b o e q (by intro z; exact absurd (show b∈([]:List Addr) from z) (by simp)) (by simp))
      | some u =>
        rcases hO.2 b with z | ⟨ob,xs,z⟩ | z
        · rw [q] at z; cases z
        · have z2:=un.frzs b ob _ z
          obtain ⟨e1,_⟩:=hok b _ z
          obtain ⟨e2,_⟩:=hok' b _ z2
          rw [e] at e1; cases e1
          exact .inl e2
        · have z2:=(un.tbls b _ z).1
          obtain ⟨_,ps,e2,_⟩:=hok' b _ z2
          have hb':∃ p∈T,p.1=b:=by
           rcases hA b (by rw [q]; simp) with e' | e'
           · subst e'
             obtain ⟨_,ps',e3,_⟩:=hok b _ z
             rw [ha] at e3; cases e3
           · exact e'
          obtain ⟨p,hp,e'⟩:=hb'
          obtain ⟨c,hc,e3⟩:=hT p hp
          rw [e'] at e3 hc
          rw [e] at e3
          cases e3
          refine .inr (.inl ⟨(hc.tab (ps:=#[]) e).isCodeTable,rfl,#[],ps,rfl,?_⟩)
          rw [e2]; simp
 have tabOk:∀ (H:Hp) (b:Addr),(∃ p∈T,p.1=b)→ObjOk P w H s₁.heap b (.tbl (T.at b)):=fun H b ⟨p,hp,e⟩=>by
  obtain ⟨c,hc,e3⟩:=hT p hp
  rw [e] at e3
  exact ⟨fun y hy z hz h1 h2=>hTo _ (Tbs.mem.mp hy) _ (Tbs.mem.mp hz) h1 h2,#[],e3,trivial,fun y hy=> .inl rfl⟩
 have hne:∀ p∈T,p.1≠a:=fun p hp z=>by
  obtain ⟨c,hc,e3⟩:=hT p hp
  rw [z,ha] at e3
  cases e3
 cases hk:K.lookup a with
 | some o =>
   -- the script is one of the module's own objects
   have e:=KX a o hk
   rw [ha] at e
   cases e
   have hTa:¬ ∃ p∈T,p.1=a:=fun ⟨p,hp,z⟩=>hne p hp z
   have dec:∀ b,Decidable (∃ p∈T,p.1=b):=fun b=>Classical.propDecidable _
   refine core (fun b=>if ∃ p∈T,p.1=b then some (.tbl (T.at b)) else none) ⟨fun p hp=>if_pos ⟨p,hp,rfl⟩,fun b=>?_⟩ (.inr ⟨_,vs.toArray,_,hk,rfl,rfl,rfl,by rw [List.size_toArray,lenV]; exact hl,by simpa using rv⟩) (fun b u z=>?_) (fun b z=>?_) fun z=>absurd (if_neg hTa) z
   · by_cases h:∃ p∈T,p.1=b
     · exact .inr (.inr (if_pos h))
     · exact .inl (if_neg h)
   · by_cases h:∃ p∈T,p.1=b
     · have z':=(if_pos h).symm.trans z
       cases z'
       exact tabOk _ b h
     · have z':=(if_neg h).symm.trans z
       cases z'
   · by_cases h:∃ p∈T,p.1=b
     · exact .inr h
     · exact absurd (if_neg h) z
 | none =>
   have dec:∀ b,Decidable (∃ p∈T,p.1=b):=fun b=>Classical.propDecidable _
   have hTa:∀ {b},(∃ p∈T,p.1=b)→b≠a:=fun ⟨p,hp,z⟩ e=>hne p hp (z.trans e)
   refine core (fun b=>if b=a then some (.frz { cls:= .type "list",data:= .seq vs.toArray } (.lst (ns.map V.int))) else if ∃ p∈T,p.1=b then some (.tbl (T.at b)) else none) ⟨fun p hp=>(if_neg (hne p hp)).trans (if_pos ⟨p,hp,rfl⟩),fun b=>?_⟩ (.inl (.inr ⟨{ cls:= .type "list",data:= .seq vs.toArray },if_pos rfl⟩)) (fun b u z=>?_) (fun b z=>?_) fun _=>hk
   · by_cases hb:b=a
     · exact .inr (.inl ⟨_,_,if_pos hb⟩)
     · by_cases h:∃ p∈T,p.1=b
       · exact .inr (.inr ((if_neg hb).trans (if_pos h)))
       · exact .inl ((if_neg hb).trans (if_neg h))
   · by_cases hb:b=a
     · have z':=(if_pos hb).symm.trans z
       cases z'
       subst hb
       exact ⟨ha,by rw [List.length_map]; exact hl,vs,_,rv,ha⟩
     · by_cases h:∃ p∈T,p.1=b
       · have z':=((if_neg hb).trans (if_pos h)).symm.trans z
         cases z'
         exact tabOk _ b h
       · have z':=((if_neg hb).trans (if_neg h)).symm.trans z
         cases z'
   · by_cases hb:b=a
     · exact .inl hb
     · by_cases h:∃ p∈T,p.1=b
       · exact .inr h
       · exact absurd ((if_neg hb).trans (if_neg h)) z
noncomputable abbrev Tns:=List (Str×Pos×Str)
structure TabsOf (mg:Str→Option Value) (h:Heap) (N:Tns) (T:Tbs):Prop where
 all:∀ n∈N,∃ P,(P,n.2)∈T∧∃ a o fd c,mg n.1=some (.ref a)∧h.get? a=some o∧o.data= .func fd∧fd.code= .ref c∧PySem.W.CodeHd h c P
theorem aC3 {p:Program} {loose:List Str} {mean:ExcName→Option Value} {mg mb:Str→Option Value} {h:Heap} (Tp:PyProof.Rows.Top p loose mean mg mb h):∀ (N:Tns),(∀ n∈N,n.1∈(PyProof.Rows.recsOf p).map (·.name)) →
 ∃ T:Tbs,TabsOf mg h N T∧(∀ q∈T,∃ c,PySem.W.CodeHd h c q.1∧h.get? q.1=some (PySem.W.tabObj #[]))∧∀ q∈T,∃ n∈N,n.2=q.2
 | [],_=>⟨[],⟨fun _ h=>nomatch h⟩,fun _ h=>(nomatch h),fun _ h=>(nomatch h)⟩
 | n :: N,hN=>by
   obtain ⟨T,h1,h2,h3⟩:=aC3 Tp N fun m hm=>hN m (List.mem_cons_of_mem _ hm)
   obtain ⟨d,hd,e⟩:=List.mem_map.mp (hN n List.mem_cons_self)
   obtain ⟨a,o,fd,c,P,e1,e2,e3,e4,e5,e6⟩:=Tp.tab d hd
   have hc:=PySem.W.CodeHd.of e5 e6
   refine ⟨(P,n.2) :: T,⟨fun m hm=>?_⟩,fun q hq=>?_,fun q hq=>?_⟩
   · rcases List.mem_cons.mp hm with z | z
     · subst z
       exact ⟨P,List.mem_cons_self,a,o,fd,c,by rw [← e]; exact e1,e2,e3,e4,hc⟩
     · obtain ⟨P',m1,r⟩:=h1.all m z
       exact ⟨P',List.mem_cons_of_mem _ m1,r⟩
   · rcases List.mem_cons.mp hq with z | z
     · subst z
       exact ⟨c,hc,e6.2⟩
     · exact h2 q z
   · rcases List.mem_cons.mp hq with z | z
     · subst z
       exact ⟨n,List.mem_cons_self,rfl⟩
     · obtain ⟨m,hm,e⟩:=h3 q z
       exact ⟨m,List.mem_cons_of_mem _ hm,e⟩
noncomputable def Tns.ok (N:Tns):Prop:=∀ y∈N,∀ z∈N,y.2.1.line=z.2.1.line→y.2.1.col=z.2.1.col→y.2.2=z.2.2
noncomputable def bp8 (K:PySem.W.Frag):Bool:=K.all fun p=>match p.2.cls,p.2.data with
 | .none,.fields vs=>!vs.isEmpty
 | _,_=>true
theorem aw6 {α:Type}:∀ {K:List (Nat×α)} {b:Nat} {o:α},K.lookup b=some o→(b,o)∈K
 | (c,x) :: r,b,o,h=>by
   rw [List.lookup_cons] at h
   by_cases z:b=c
   · subst z
     rw [beq_self_eq_true] at h
     cases h
     exact List.mem_cons_self
   · rw [beq_false_of_ne z] at h
     exact List.mem_cons_of_mem _ (aw6 h)
theorem az1 {K:PySem.W.Frag} {h:Heap} {b:Addr} (X:K.In h) (hn:bp8 K=true) (e:h.get? b=some (PySem.W.tabObj #[])):K.lookup b=none:=by
 cases q:K.lookup b with
 | none=>rfl
 | some o =>
   have e2:=X b o q
   rw [e] at e2
   cases e2
   have:=List.all_eq_true.mp hn (b,PySem.W.tabObj #[]) (aw6 q)
   cases this
theorem br1 {l:PySem.W.OpenLaw} {n k:Nat} {q:Program} {loose:List Str} {XP:(Str→Option Value)→Heap→Prop} {YP:World→Heap→Prop} {d:DefRec} {K:Params→PySem.W.Frag} {CX:World→CXT} {sp:World→Tbs→Sp} {x:Str} (N:Tns)
 (hn:l.most=some n) (hn2:n≤sizeLine) (hdf:d.params.defaults=[]) (hr:Room k callerA)
 (hY:∀ (w:World) (h:Heap),YP w h→(K w.params).In h) (hK:∀ w:World,N≠[]→bp8 (K w.params)=true) (hN:∀ n∈N,n.1∈(PyProof.Rows.recsOf q).map (·.name)) (hNo:Tns.ok N)
 (F:∀ (w:World) (mg:Str→Option Value) (fa:Addr) (h:Heap) (T:Tbs),(K w.params).In h→h.Ns mainGlobals mg→mg d.name=some (.ref fa)→TabsOf mg h N T →
   ∃ fd:FuncData,(∀ (s:Shared) (u:Value),BindsTo s fd ⟨[u],[]⟩ [(x,u)]) ∧
    ∀ base:Heap,(K w.params).In base→base.Ns mainGlobals mg→(∀ c P,PySem.W.CodeHd h c P→PySem.W.CodeHd base c P)→FnOk l.prog w (K w.params) mg base (CX w) k fa fd [x] (sp w T))
 (hsp:∀ (w:World) (T:Tbs) (H:Hp) (a:Addr) (ns:List Int),ns.length≤n→Only T H→SqL (K w.params) H a (ns.map V.int)→sp w T [.ref a] H (fun v _=>v= .bl true) fun _ _ _=>False)
 (hCX:∀ (w:World) (H:Hp) (s:Shared) (e:Value) (s':Shared),CX w [] H s (fun _ _ _=>False) e s'→False) :
 PySem.W.WalkO q loose XP YP l.row.toRowW d [] (fun f vs=>PySem.call f vs):=by
 refine Att.aM3 hn hdf fun w s₀ s₁ mg mb fa o pm cd doc a vs ns G Y ho hd hcd hmg hobj hints hlen hg=>?_
 have KX:=hY w _ Y
 obtain ⟨T,hT1,hT2,hT3⟩:=aC3 G.T N hN
 obtain ⟨fd,hb,hF⟩:=F w mg fa _ T KX G.T.g hmg hT1
 refine bj7 (T:=T) KX G.T.g G.T.b G.T.builtins G.T.nolimit hg G.T.bmain hT2 (fun p hp=>?_) (fun y hy z hz h1 h2=>?_) hobj hints (Nat.le_trans hlen hn2) hr hF hb (fun H hO hS=>hsp w T H a ns hlen hO hS) fun H e s'=>hCX w H s₁ e s'
 · obtain ⟨c,_,e⟩:=hT2 p hp
   obtain ⟨m,hm,_⟩:=hT3 p hp
   exact az1 KX (hK w (fun z=>by rw [z] at hm; cases hm)) e
 · obtain ⟨m1,hm1,e1⟩:=hT3 y hy
   obtain ⟨m2,hm2,e2⟩:=hT3 z hz
   rw [← e1,← e2]
   exact hNo m1 hm1 m2 hm2 (by rw [e1]; exact h1 |>.trans (by rw [e2])) (by rw [e1]; exact h2 |>.trans (by rw [e2]))
noncomputable def ah6 (s:Stmt) (j:Nat):Stmt:=match s with
 | .ClassDef _ _ _ body _ _ _ _ _ _ _=>body.getD j (.Pass ⟨0,0,0,0⟩)
 | _=> .Pass ⟨0,0,0,0⟩
noncomputable def at3 (s:Stmt):Arguments:=match s with
 | .FunctionDef _ a _ _ _ _ _ _ _ _=>a
 | _=>{ posonlyargs:=[],args:=[],vararg:=none,kwonlyargs:=[],kw_defaults:=[],kwarg:=none,defaults:=[] }
noncomputable def ah8 (s:Stmt):List Stmt:=match s with
 | .FunctionDef _ _ b _ _ _ _ _ _ _=>b
 | _=>[]
noncomputable def aa6 (s:Stmt):Scope:=match s with
 | .FunctionDef _ _ _ _ _ _ sc _ _ _=>sc
 | _=>{ kind:= .function,names:=[],isGenerator:=false,isCoroutine:=false }
noncomputable abbrev CX0:CXT:=fun _ _ _ _ _ _=>False
noncomputable abbrev E0:XK:=fun _ _ _=>False
structure Fun (K:PySem.W.Frag) (x qual:Str) (st:Stmt) (f:Addr) (fd:FuncData):Prop where
 ex:∃ (oc:Value) (od:Option Addr) (kV doc pm:Value) (an:Option Addr) (cdv ct:Value) (osl:Array (Option Value)),
  fd=PySem.W.fnOf x qual (at3 st) (ah8 st) (aa6 st) .none kV doc pm an cdv ct∧K.lookup f=some ⟨oc,od,.func fd,osl⟩∧PySem.W.codeIn K cdv qual=true
 kp:PySem.W.keepIn K (.ref f)=true
section
variable {P:Program} {w:World} {K:PySem.W.Frag} {mg:Str→Option Value} {base:Heap}
theorem Fun.ok {x qual:Str} {st:Stmt} {f:Addr} {fd:FuncData} {N ps:List Str} {k:Nat} {sp:Sp} (F:Fun K x qual st f fd) (S:FnScope N ps (aa6 st)) (len:∀ vs H Q E,sp vs H Q E→vs.length=ps.length)
 (hbody:∀ (cdv:Value) (A:Around) (outer:List Env) (s:Shared) (H:Hp) (vs:List V) (Q:VK) (E:XK),Room k (A.deeper (envOfC qual (aa6 st) s.heap.objs.size f cdv))→sp vs H Q E →
   ∃ t,PSs (cxOf CX0 P w K mg base N qual (aa6 st) f cdv A outer s H E).nox (ah8 st) t∧t { nx:=fun _ H'=>Q .non H',rt:=Q } (an7 N vs) H):FnOk P w K mg base CX0 (k + 1) f fd ps sp:=by
 obtain ⟨oc,od,kV,doc,pm,an,cdv,ct,osl,rfl,lk,hcd⟩:=F.ex
 refine fn_of lk hcd S len fun A outer s H vs Q E hr hsp=>?_
 obtain ⟨t,h,q⟩:=hbody cdv A outer s H vs Q E hr hsp
 exact ⟨t,h.nox,q⟩
theorem Fun.binds {x qual:Str} {st:Stmt} {f:Addr} {fd:FuncData} {ps:List Str} (F:Fun K x qual st f fd)
 (h:∀ (kV doc pm:Value) (an:Option Addr) (cdv ct:Value) (us:List Value),us.length=ps.length→bindArgs (PySem.W.fnOf x qual (at3 st) (ah8 st) (aa6 st) .none kV doc pm an cdv ct) ⟨us,[]⟩=pure (ps.zip us)):Binds K fd ps []:=by
 obtain ⟨oc,od,kV,doc,pm,an,cdv,ct,osl,rfl,lk,hcd⟩:=F.ex
 exact .all (h kV doc pm an cdv ct)
theorem bO5 {x qual:Str} {st:Stmt} {f:Addr} {oc:Value} {od an:Option Addr} {osl:Array (Option Value)} {kV doc pm cdv ct:Value} (l:K.lookup f=some ⟨oc,od,.func (PySem.W.fnOf x qual (at3 st) (ah8 st) (aa6 st) .none kV doc pm an cdv ct),osl⟩)
 (c:PySem.W.codeIn K cdv qual=true) (k:PySem.W.keepIn K (.ref f)=true):Fun K x qual st f (PySem.W.fnOf x qual (at3 st) (ah8 st) (aa6 st) .none kV doc pm an cdv ct):=⟨⟨oc,od,kV,doc,pm,an,cdv,ct,osl,rfl,l,c⟩,k⟩
end
theorem bk2 {A:Around} {k:Nat} (hr:Room k A):A.units + 1 < cLine:=Nat.lt_of_le_of_lt (Nat.add_le_add_left (by decide:1≤64) _) hr.units
theorem aV6 {n:Nat} (h:n≤1000):n < sizeLine:=Nat.lt_of_le_of_lt h (by decide)
section
variable {X:Cx}
theorem pv (i:Nat) {x:Str} {pos:Pos} (hN:X.N[i]?=some x:=by rfl) (hv:Vis X.env.scope x:=by first | exact Or.inl rfl | exact Or.inr (Or.inl rfl) | exact Or.inr (Or.inr rfl)) (hd:(x == ("__debug__" : Str))=false:=by decide)
 (hcd:(x == ("__classdict__" : Str))=false:=by decide):PE X (.Name x pos) (tVar i):=bI7 hN hv hd hcd
end
noncomputable def Same (H H':Hp):Prop:=∀ b o,H b=some o→H' b=some o
theorem Same.refl (H:Hp):Same H H:=fun _ _ h=>h
theorem Same.trans {H H1 H2:Hp} (a:Same H H1) (b:Same H1 H2):Same H H2:=fun c o h=>b c o (a c o h)
theorem Same.free {H H':Hp} (e:Same H H') {l:Addr} (h:H' l=Option.none):H l=Option.none:=by
 cases q:H l with
 | none=>rfl
 | some o =>
   rw [e l o q] at h
   cases h
theorem Same.seq {K:PySem.W.Frag} {H H':Hp} {a:Addr} {xs:List V} (e:Same H H') (h:SqL K H a xs):SqL K H' a xs:=by
 rcases h with (h | ⟨o,h⟩) | h
 · exact .inl (.inl (e _ _ h))
 · exact .inl (.inr ⟨o,e _ _ h⟩)
 · exact .inr h
noncomputable def ae9 (env:Env):List (Str×NameKind)→List (Str×Addr)→List (Str×Addr)
 | [],acc=>acc
 | (n,k) :: r,acc=>if (k == NameKind.free)=true then ae9 env r ((n,(env.cells.lookup n).getD 0) :: acc) else ae9 env r acc
theorem ak4 {env:Env} {y:Str} {c:Addr}:∀ {l:List (Str×NameKind)} {acc:List (Str×Addr)},(∀ z∈l,z.2= .free→∃ c,env.cells.lookup z.1=some c)→(ae9 env l acc).lookup y=some c →
 acc.lookup y=some c∨env.cells.lookup y=some c
 | [],acc,_,h=> .inl h
 | (n,k) :: r,acc,hh,h=>by
   unfold ae9 at h
   split at h
   · rename_i hk
     rcases ak4 (fun z hz=>hh z (List.mem_cons_of_mem _ hz)) h with e | e
     · by_cases q:(y == n)=true
       · have e':y=n:=by simpa using q
         subst e'
         obtain ⟨c',hc⟩:=hh (y,k) List.mem_cons_self (by simpa using hk)
         dsimp only at hc
         rw [List.lookup_cons,beq_self_eq_true,hc] at e
         exact .inr (hc.trans e)
       · rw [Bool.not_eq_true] at q
         rw [List.lookup_cons,q] at e
         exact .inl e
     · exact .inr e
   · exact ak4 (fun z hz=>hh z (List.mem_cons_of_mem _ hz)) h
theorem ak5 {env:Env} {y:Str}:∀ {l:List (Str×NameKind)} {acc:List (Str×Addr)},((y,NameKind.free)∈l∨∃ c,acc.lookup y=some c)→∃ c,(ae9 env l acc).lookup y=some c
 | [],acc,h=>by
   rcases h with h | h
   · cases h
   · exact h
 | (n,k) :: r,acc,h=>by
   unfold ae9
   split
   · rename_i hk
     refine ak5 ?_
     by_cases q:(y == n)=true
     · exact .inr ⟨_,by rw [List.lookup_cons,q]⟩
     · rw [Bool.not_eq_true] at q
       rcases h with h | ⟨c,h⟩
       · rcases List.mem_cons.mp h with e | e
         · cases e
           rw [beq_self_eq_true] at q
           cases q
         · exact .inl e
       · exact .inr ⟨c,by rw [List.lookup_cons,q]; exact h⟩
   · rename_i hk
     refine ak5 ?_
     rcases h with h | h
     · rcases List.mem_cons.mp h with e | e
       · cases e
         exact absurd (by rfl) hk
       · exact .inl e
     · exact .inr h
theorem al0 {scope:Scope} {env:Env} {y:Str} {k:NameKind} (h:(relabel scope env).names.lookup y=some k):∃ k',(y,k')∈scope.names∧(k'=k∨(k'= .free∧k= .cell)):=by
 obtain ⟨⟨n,k0⟩,hm,e⟩:=List.mem_map.mp (PySem.mem_of_lookup h)
 dsimp only at e
 split at e
 · rename_i hc
   simp only [Bool.and_eq_true,beq_iff_eq] at hc
   cases e
   exact ⟨k0,hm,.inr ⟨hc.1.1,rfl⟩⟩
 · cases e
   exact ⟨_,hm,.inl rfl⟩
structure CompSc (osc sc:Scope) (x:Str) (cs:List Str):Prop where
 kind:sc.kind= .function
 cell:∀ y∈sc.names,y.2≠ .cell
 loc:∀ y∈sc.names,y.2= .local→sc.names.lookup y.1=some .local
 var:sc.names.lookup x=some .local
 cap:∀ y∈cs,(osc.names.lookup y=some .cell∨osc.names.lookup y=some .free)∧sc.names.lookup y=some .free
 free:∀ y∈sc.names,y.2= .free→osc.names.lookup y.1=some .cell∨osc.names.lookup y.1=some .free
 nd:(x :: cs).Nodup
noncomputable def ax0 (X:Cx) (scope:Scope) (cl:List (Str×Addr)) (C:Addr) (N:List Str) (fp:List Addr) (s₀:Shared) (H₀:Hp):Cx where
 prog:=X.prog
 w:=X.w
 K:=X.K
 mg:=X.mg
 base:=X.base
 A:=X.A
 N:=N
 s₀:=s₀
 H₀:=H₀
 env:=compEnvC scope cl C X.env
 outer:=X.stack
 stack:=X.stack
 ex:=fp
 fn:=fun _=>false
 calm:=X.calm
 pn:=[]
 xe:=fun _ _=>False
noncomputable def capV (σ:St) (ix:List Nat):St:=ix.map fun j=>(σ[j]?).join
section
variable {X:Cx} {pins:List (Addr×Obj)} {σ:St} {H:Hp} {s:Shared} {scope:Scope} {x:Str} {cs:List Str} {ix:List Nat} {fp:List Addr}
theorem aQ2 (I:Inv X pins σ H s) (hsc:CompSc X.env.scope scope x cs):∀ y∈scope.names,y.2= .free→∃ c,X.env.cells.lookup y.1=some c:=fun y hy hk=>I.ok.has _ (hsc.free y hy hk)
theorem bk1 {h₁:Heap} {t₁:Nat} {m0:Str→Option Value} (I:Inv X pins σ H s) (hsc:CompSc X.env.scope scope x cs) (hix:ix.map (fun i=>X.N[i]?)=cs.map some) (hf:∀ b∈fp,FpOk X pins H b)
 (hlt:∀ b∈fp,b < s.heap.objs.size) (hn:h₁.Ns s.heap.objs.size m0) (hk:∀ b o,s.heap.get? b=some o→h₁.get? b=some o) :
 Inv (ax0 X scope (ae9 X.env scope.names []) s.heap.objs.size (x :: cs) fp s H) [] (none :: capV σ ix) H { s with heap:=h₁,toks:=t₁ }:=by
 have cin:=aQ2 I hsc
 have old:∀ y c,(ae9 X.env scope.names []).lookup y=some c→X.env.cells.lookup y=some c:=fun y c e=>by
  rcases ak4 cin e with z | z
  · cases z
  · exact z
 have lenix:ix.length=cs.length:=by
  have:=congrArg List.length hix
  rwa [List.length_map,List.length_map] at this
 refine ⟨⟨I.ok.mod,hsc.kind,I.ok.glob,I.ok.blt,Nat.le_refl _,fun y z c h1 h2=>I.ok.inj y z c (old y c h1) (old z c h2),fun y hy=>?_,fun y c h=>(nomatch h),I.ok.hd,I.ok.frames,.inl rfl,fun b hb=>⟨Nat.ne_of_lt (hlt b hb),fun y c e=>(hf b hb).2.2.2.2.1 y c (old y c e)⟩,
  I.bs,Nat.le_trans I.ok.bsz I.sz,fun b o e hb=>?_,fun b hb hb'=>?_,I.stack,I.stkFree⟩,rfl,I.bare,Un.kept hk,⟨m0,hn,fun i y v h1 h2 h3=>?_⟩,fun y c e=>?_,I.hok.fresh (Nat.le_refl _),fun y c e=>I.freeC y c (old y c e),fun p hp=>absurd (show p∈([]:List (Addr×Obj)) from hp) (by simp),I.hok.kept hk,?_⟩
 · have hy':(relabel scope X.env).names.lookup y=some .cell∨(relabel scope X.env).names.lookup y=some .free:=hy
   have:(y,NameKind.free)∈scope.names:=by
    rcases hy' with q | q
    · obtain ⟨k',hm,e | ⟨e,_⟩⟩:=al0 q
      · subst e
        exact absurd rfl (hsc.cell _ hm)
      · subst e
        exact hm
    · obtain ⟨k',hm,e | ⟨_,e⟩⟩:=al0 q
      · subst e
        exact hm
      · cases e
   exact ak5 (.inl this)
 · rcases (hf b hb).2.2.2.1 with z | z
   · exact I.ok.noex b o e z
   · exact absurd (Nat.lt_of_lt_of_le (Heap.lt_size e) (Nat.le_trans I.ok.bsz z)) (Nat.lt_irrefl _)
 · rcases List.mem_cons.mp (I.stkSub b hb') with z | z
   · exact (hf b hb).2.1 z
   · exact (hf b hb).2.2.1 z
 · -- a captured name
   cases i with
   | zero =>
     have:(none :: capV σ ix:St)[0]?=some none:=rfl
     rw [this] at h2
     cases h2
   | succ j =>
     have h1':cs[j]?=some y:=h1
     have h2':(capV σ ix)[j]?=some (some v):=h2
     unfold capV at h2'
     rw [List.getElem?_map] at h2'
     cases ej:ix[j]? with
     | none=>rw [ej] at h2'; cases h2'
     | some k =>
       rw [ej] at h2'
       have h4:(σ[k]?).join=some v:=Option.some.inj h2'
       have h5:σ[k]?=some (some v):=by
        cases e:σ[k]? with
        | none=>rw [e] at h4; cases h4
        | some w=>rw [e] at h4; exact congrArg some h4
       have h6:X.N[k]?=some y:=by
        have q:=congrArg (fun l=>l[j]?) hix
        simp only [List.getElem?_map,ej,h1',Option.map_some] at q
        exact Option.some.inj q
       obtain ⟨c1,c2⟩:=hsc.cap y (List.mem_of_getElem? h1')
       obtain ⟨m,hn',hl⟩:=I.loc
       obtain ⟨u,r,l⟩:=hl k y v h6 h5 (c1.elim (fun z=> .inr (.inl z)) fun z=> .inr (.inr z))
       refine ⟨u,r,?_⟩
       rcases l with ⟨l,_⟩ | ⟨_,c,ec,hc⟩
       · have l':X.env.scope.names.lookup y=some .local:=l
         rcases c1 with z | z <;> (rw [z] at l'; cases l')
       · obtain ⟨c',ec'⟩:=ak5 (env:=X.env) (y:=y) (l:=scope.names) (acc:=[]) (.inl (PySem.mem_of_lookup c2))
         have e':=old y c' ec'
         rw [ec] at e'
         cases e'
         refine .inr ⟨?_,c,ec',?_⟩
         · rcases h3 with z | z | z
           · have z':(relabel scope X.env).names.lookup y=some .local:=z
             obtain ⟨k',hm,e | ⟨_,e⟩⟩:=al0 z'
             · subst e
               have:=hsc.loc _ hm rfl
               dsimp only at this
               rw [c2] at this
               cases this
             · cases e
           · exact .inl z
           · exact .inr z
         · obtain ⟨o,ho,hd⟩:=hc
           exact ⟨o,hk c o ho,hd⟩
 · obtain ⟨v,o,ho,hd⟩:=I.cell y c (old y c e)
   exact ⟨v,o,hk c o ho,hd⟩
 · show (none :: capV σ ix:St).length=(x :: cs).length
   rw [List.length_cons,List.length_cons,capV,List.length_map,lenix]
end
noncomputable def PTs (X:Cx) (ifs:List Expr) (t:TT):Prop :=
 ∀ (pins:List (Addr×Obj)) (s:Shared) (σ:St) (H:Hp) (Q:Bool→Hp→Prop),Inv X pins σ H s→t σ H Q →
  wpAny (model X.prog X.w) X.A (forIn ifs true fun c r=>if r=true then do let ok ← isTrue c X.env (eval c X.env); pure (ForInStep.yield ok) else pure (ForInStep.yield r)) (TP X pins σ Q) X.xe s
theorem aX0 {X:Cx} {c:Expr} {t:TT} (h:PT X c t):PTs X [c] t:=fun pins s σ H Q I hq=>wpAny_tests_one (h pins s σ H Q I hq)
section
variable {prog:Program} {w:World} {A:Around} {R:Result→Shared→Prop} {s:Shared}
theorem aM0 {elt target iter:Expr} {ifs:List Expr} {scope:Scope} {pos:Pos} {it acc:Value} {env:Env} (I:Nat→Shared→Prop)
 (turn:∀ n s,I n s→wpAny (model prog w) A (pyNext it) (fun r s₁=>match r with
   | none=>R (.ok .next) s₁
   | some v=>wpAny (model prog w) A (letOwnedTupleGo target it v) (fun _ s₁=>wpAny (model prog w) A (assign target env v) (fun _ s₂ =>
      wpAny (model prog w) A (forIn ifs true fun c r=>if r=true then do let ok ← isTrue c env (eval c env); pure (ForInStep.yield ok) else pure (ForInStep.yield r)) (fun ok s₃ =>
       if ok=true then wpAny (model prog w) A (eval elt env) (fun x s₄ =>
        wpAny (model prog w) A (call (.builtin "list.append") [acc,x]) (fun _ s₅=>∃ m,m < n∧I m s₅) (fun _ _=>False) s₄) (fun _ _=>False) s₃
       else ∃ m,m < n∧I m s₃) (fun _ _=>False) s₂) (fun _ _=>False) s₁) (fun _ _=>False) s₁) (fun _ _=>False) s)
 (n:Nat) (h:I n s):codeAny (model prog w) A (.compLoop (.ListComp elt [⟨target,iter,ifs,0⟩] scope pos) 0 it acc env) R s:=by
 refine codeAny_loop rfl I (fun n s hI=>?_) n h
 have up:∀ {α:Type} {t:Sem α} {Q:α→Shared→Prop} {E:Value→Shared→Prop} {s:Shared},wpAny (model prog w) A t Q (fun _ _=>False) s→wpAny (model prog w) A t Q E s:=fun h=>wpAny_mono h (fun _ _ z=>z) fun _ _ z=>z.elim
 show wpAny _ A ((compTurn (.ListComp elt [⟨target,iter,ifs,0⟩] scope pos) 0 it acc env).onRaise _) _ _ s
 refine wpAny_noted (up ?_)
 rw [compTurn_list]
 refine wpAny_bind (wpAny_standAt (wpAny_bind (thn (turn n s hI) fun r s₁ h₁=>?_)))
 cases r with
 | none=>exact wpAny_pure h₁
 | some v =>
   refine wpAny_bind (thn h₁ fun _ s₁' h₁'=>wpAny_bind (thn h₁' fun _ s₂ h₂=>wpAny_bind (thn h₂ fun ok s₃ h₃=>?_)))
   cases ok with
   | false=>exact wpAny_pure ⟨rfl,h₃⟩
   | true=>exact wpAny_bind (wpAny_bind (thn h₃ fun x s₄ h₄=>wpAny_bind (thn h₄ fun _ s₅ h₅=>wpAny_pure (wpAny_pure ⟨rfl,h₅⟩))))
end
noncomputable def bQ7 (J:It) (τ:V→St) (ti:TT) (te:TE) (p:Addr) (H1:Hp) (Q:VK):Prop :=
 ∃ W:Nat→Nat→List V→Hp→Prop,(∃ m,W 0 m [] (upd H1 p (.lst [])))∧∀ i m ys H2,W i m ys H2→H2 p=some (.lst ys)∧ys.length < sizeLine ∧
  ((J.stop i H2∧Q (.ref p) H2)∨(J.go i H2∧∀ v H3,J.yld i H2 v H3→ti (τ v) H3 fun b H4=>if b=true then te (τ v) H4 fun y H5=>H5 p=some (.lst ys)∧∃ m',m' < m∧W (i + 1) m' (ys ++ [y]) (upd H5 p (.lst (ys ++ [y])))
    else ∃ m',m' < m∧W (i + 1) m' ys H4))
noncomputable def br5 (wi:TI) (ix:List Nat) (ti:TT) (te:TE):TE:=fun σ H Q=>wi σ H fun J H1=>∀ p,H1 p=none→bQ7 J (fun v=>some v :: capV σ ix) ti te p H1 Q
section
variable {X:Cx} {pins:List (Addr×Obj)} {σ:St} {H:Hp} {s:Shared} {scope:Scope} {x:Str} {px pos:Pos} {cs:List Str} {ix:List Nat} {fp:List Addr} {elt iter:Expr} {ifs:List Expr} {ti:TT} {te:TE}
theorem aS6 {J:It} {it:Addr} {tn:Nat→Heap→Prop} {Qe:VK} {RR:Value→Addr→Result→Shared→Prop} {E:Value→Shared→Prop} (hcalm:X.calm=true) (I2:Inv X pins σ H s) (hsc:CompSc X.env.scope scope x cs) (hix:ix.map (fun i=>X.N[i]?)=cs.map some)
 (T:Turn X.prog X.w X.K (.Name x px) J fp it tn) (st0:tn 0 s.heap) (hf:∀ b∈fp,FpOk X pins H b)
 (hti:∀ C fp s₀ H₀,PTs (ax0 X scope (ae9 X.env scope.names []) C (x :: cs) fp s₀ H₀) ifs ti) (hte:∀ C fp s₀ H₀,PE (ax0 X scope (ae9 X.env scope.names []) C (x :: cs) fp s₀ H₀) elt te)
 (hW:∀ p,H p=none→bQ7 J (fun v=>some v :: capV σ ix) ti te p H Qe)
 (hRR:∀ p C H' s',Inv X pins σ H' s'→FpOk X pins H' C→(∃ m,s'.heap.Ns C m)→Qe (.ref p) H'→RR (.ref p) C (.ok .next) s') :
 wpAny (model X.prog X.w) X.A (newList []) (fun acc s₃=>wpAny (model X.prog X.w) X.A (newFunctionEnv scope X.env.globals (ae9 X.env scope.names []) [] X.env.qual none .none (some X.env)) (fun cenv s₄ =>
  codeAny (model X.prog X.w) X.A (.compStart (.ListComp elt [⟨.Name x px,iter,ifs,0⟩] scope pos) 0 (.ref it) acc { cenv with scope:=relabel scope X.env }) (RR acc cenv.locals) s₄) E s₃) E s:=by
 refine wpAny_newObj_type (wpAny_newFunctionEnv hsc.cell (by intro y hy; simp at hy) (fun h₁ hns₁ hsb₁=>?_) hsc.kind)
 dsimp only at hns₁ hsb₁ ⊢
 have hD:H s.heap.objs.size=none:=I2.hok.fresh (Nat.le_refl _)
 have I3:Inv X pins σ (upd H s.heap.objs.size (.lst [])) { s with heap:=s.heap.push { cls:= .type "list",dict:=none,data:= .seq ([]:List Value).toArray } } :=
  I2.laid (t':=s.toks) (fun b u e=>Heap.get?_push_of_some _ e) (Nat.le_refl _) ⟨Nat.zero_le _,[],0,.nil,Heap.get?_push_size _ rfl⟩
 obtain ⟨W,⟨m0,w0⟩,turn⟩:=hW _ hD
 have hlt0:∀ b∈fp,b < s.heap.objs.size:=fun b hb=>by
  obtain ⟨o,e,_⟩:=T.obj 0 _ st0 b hb
  exact Heap.lt_size e
 have hlt:∀ b∈fp,b < (s.heap.push { cls:= .type "list",dict:=none,data:= .seq ([]:List Value).toArray }).objs.size:=fun b hb=>by
  rw [Heap.size_push]
  exact Nat.lt_succ_of_lt (hlt0 b hb)
 have hf3:∀ b∈fp,FpOk X pins (upd H s.heap.objs.size (.lst [])) b:=fun b hb=>⟨by rw [ab5 (Nat.ne_of_lt (hlt0 b hb))]; exact (hf b hb).1,(hf b hb).2⟩
 have kept:∀ b o,(s.heap.push { cls:= .type "list",dict:=none,data:= .seq ([]:List Value).toArray }).get? b=some o→h₁.get? b=some o:=fun b o e =>
  hsb₁.extBut b o (Nat.ne_of_lt (Heap.lt_size e)) (Heap.get?_push_of_some _ e)
 have kept0:∀ b o,s.heap.get? b=some o→h₁.get? b=some o:=fun b o e=>kept b o (Heap.get?_push_of_some _ e)
 have I4:=bk1 (t₁:=s.toks + ([]:List (Str×Value)).length) I3 hsc hix hf3 hlt hns₁ kept
 have st4:tn 0 h₁:=T.keep 0 _ _ st0 fun b _ o e=>kept0 b o e
 have loop:codeAny (model X.prog X.w) X.A (.compLoop (.ListComp elt [⟨.Name x px,iter,ifs,0⟩] scope pos) 0 (.ref it) (.ref s.heap.objs.size) (compEnvC scope (ae9 X.env scope.names []) (s.heap.push { cls:= .type "list",dict:=none,data:= .seq ([]:List Value).toArray }).objs.size X.env))
  (RR (.ref s.heap.objs.size) (s.heap.push { cls:= .type "list",dict:=none,data:= .seq ([]:List Value).toArray }).objs.size) { s with heap:=h₁,toks:=s.toks + ([]:List (Str×Value)).length }:=by
  generalize hY:ax0 X scope (ae9 X.env scope.names []) (s.heap.push { cls:= .type "list",dict:=none,data:= .seq ([]:List Value).toArray }).objs.size (x :: cs) fp { s with heap:=s.heap.push { cls:= .type "list",dict:=none,data:= .seq ([]:List Value).toArray } } (upd H s.heap.objs.size (.lst []))=Y at I4
  have hti':PTs Y ifs ti:=by rw [← hY]; exact hti _ _ _ _
  have hte':PE Y elt te:=by rw [← hY]; exact hte _ _ _ _
  have hcY:Y.calm=true:=by rw [← hY]; exact hcalm
  have hg:PG Y (.Name x px) (as6 0):=by
   rw [← hY]
   exact ar0 hsc.nd rfl (.inl (lookup_relabel_local hsc.var)) (.inr (lookup_relabel_local hsc.var))
  have f4:∀ {H':Hp},(∀ b∈fp,H' b=none)→∀ b∈fp,FpOk Y [] H' b:=fun {H'} hn b hb=>by
   rw [← hY]
   refine ⟨hn b hb,Nat.ne_of_lt (hlt b hb),fun z=>?_,.inl hb,fun y c e z=>?_,fun p hp=>absurd (show p∈([]:List (Addr×Obj)) from hp) (by simp)⟩
   · rcases List.mem_cons.mp (I3.stkSub b z) with q | q
     · exact (hf b hb).2.1 q
     · exact (hf b hb).2.2.1 q
   · rcases ak4 (aQ2 I2 hsc) e with q | q
     · cases q
     · exact (hf b hb).2.2.2.2.1 y c q z
  have fin:∀ {vo:Option V} {H':Hp} {s':Shared},Inv Y [] (vo :: capV σ ix) H' s'→Qe (.ref s.heap.objs.size) H'→RR (.ref s.heap.objs.size) (s.heap.push { cls:= .type "list",dict:=none,data:= .seq ([]:List Value).toArray }).objs.size (.ok .next) s':=fun {vo H' s'} J q=>by
   rw [← hY] at J
   have Ix:Inv X pins σ H' s':=I3.call' (ch:=fp) J.os J.base J.hok J.bare fun b hb=>⟨(hf b hb).2.2.2.1,(hf b hb).2.1,(hf b hb).2.2.2.2.1,(hf b hb).2.2.2.2.2⟩
   refine hRR _ _ H' s' Ix (I3.fpOk (Nat.le_refl _) J.free) ?_ q
   obtain ⟨m,hm,_⟩:=J.loc
   exact ⟨m,hm⟩
  have eY:compEnvC scope (ae9 X.env scope.names []) (s.heap.push { cls:= .type "list",dict:=none,data:= .seq ([]:List Value).toArray }).objs.size X.env=Y.env:=by rw [← hY]; rfl
  have eP:X.prog=Y.prog:=by rw [← hY]; rfl
  have eW:X.w=Y.w:=by rw [← hY]; rfl
  have eK:X.K=Y.K:=by rw [← hY]; rfl
  have eA:X.A=Y.A:=by rw [← hY]; rfl
  have eX:Y.xe=fun _ _=>False:=by rw [← hY]; rfl
  rw [eP,eW,eK] at T
  rw [eY,eP,eW,eA]
  refine aM0 (fun n s'=>∃ i ys vo H',Inv Y [] (vo :: capV σ ix) H' s'∧tn i s'.heap∧(∀ b∈fp,H' b=none)∧W i n ys H') ?_ m0 ⟨0,[],none,_,I4,st4,fun b hb=>(hf3 b hb).1,w0⟩
  rintro n s' ⟨i,ys,vo,H',I',st',fr',w'⟩
  obtain ⟨hp,hlen,ways⟩:=turn i n ys H' w'
  rcases ways with ⟨stop,q⟩ | ⟨go,step⟩
  · refine thn (T.done Y rfl rfl rfl hcY i [] s' (vo :: capV σ ix) H' (fun _ _=>False) I' (f4 fr') st' stop) fun r s1 ⟨hr,I1⟩=>?_
    subst hr
    exact fin I1 q
  · refine thn (T.item Y rfl rfl rfl hcY i [] s' (vo :: capV σ ix) H' (fun _ _=>False) I' (f4 fr') st' go) fun r s1 ⟨u,hr,h4⟩=>?_
    subst hr
    refine thn h4 fun _ s2 ⟨v,H2,J2,r2,y2,st2,fr2⟩=>?_
    have J2p:=J2.pinned (f4 fr2) (T.obj _ _ st2)
    have again:∀ {σ':St} {H7:Hp} {s7:Shared},Inv Y ([] ++ aD3 fp s2.heap) σ' H7 s7→tn (i + 1) s7.heap∧∀ b∈fp,H7 b=none:=fun {σ' H7 s7} I7=>by
     refine ⟨T.keep _ _ _ st2 fun b hb o e=>(I7.pin (b,o) (List.mem_append_right _ (List.mem_append_right _ (ak0 hb e)))).1,fun b hb=>?_⟩
     obtain ⟨o,e,d⟩:=T.obj _ _ st2 b hb
     exact (I7.pin (b,o) (List.mem_append_right _ (List.mem_append_right _ (ak0 hb e)))).2.1
    have hga:=hg _ s2 (vo :: capV σ ix) H2 v u (fun σ' H'=>σ'=some v :: capV σ ix∧H'=H2) J2p r2 ⟨rfl,rfl⟩
    rw [eX] at hga
    refine thn hga fun _ s3 ⟨σ3,H3,J3,e3,e3'⟩=>?_
    subst e3 e3'
    have htt:=hti' _ s3 _ H3 _ J3 (step v H3 y2)
    rw [eX] at htt
    refine thn htt fun b s4 ⟨H4,J4,q4⟩=>?_
    cases b with
    | false =>
      rw [if_neg Bool.false_ne_true] at q4 ⊢
      obtain ⟨m',hm,w4⟩:=q4
      exact ⟨m',hm,i + 1,ys,some v,H4,J4.unpinned,(again J4).1,(again J4).2,w4⟩
    | true =>
      rw [if_pos rfl] at q4 ⊢
      have hee:=hte' _ s4 _ H4 _ J4 q4
      rw [eX] at hee
      refine thn hee fun y s5 ⟨yv,H5,J5,r5,hp5,m',hm,w5⟩=>?_
      have hap:=ar6 (X:=Y) _ s5 _ H5 (.ref s.heap.objs.size) [yv] (.ref s.heap.objs.size) [y] (fun _ H6=>H6=upd H5 s.heap.objs.size (.lst (ys ++ [yv]))) J5 rfl (.cons r5 .nil) ⟨_,ys,yv,rfl,rfl,hp5,hlen,rfl⟩
      rw [eX] at hap
      refine thn hap fun _ s6 ⟨_,H6,J6,_,e6⟩=>?_
      subst e6
      exact ⟨m',hm,i + 1,ys ++ [yv],some v,_,J6.unpinned,(again J6).1,(again J6).2,w5⟩
 exact codeAny_compStart_list loop (T.self _ 0 _ _ _ st4 loop)
theorem aX6 {wi:TI} (hcalm:X.calm=true) (hi:PI X (.Name x px) iter wi) (hsc:CompSc X.env.scope scope x cs) (hix:ix.map (fun i=>X.N[i]?)=cs.map some)
 (hti:∀ C fp s₀ H₀,PTs (ax0 X scope (ae9 X.env scope.names []) C (x :: cs) fp s₀ H₀) ifs ti) (hte:∀ C fp s₀ H₀,PE (ax0 X scope (ae9 X.env scope.names []) C (x :: cs) fp s₀ H₀) elt te)
 (hcl:closureFor scope X.env=pure (ae9 X.env scope.names []):=by rfl) (hs:∀ x,foldedSetIterable iter X.env x=pure x:=by intro _; rfl) :
 PE X (.ListComp elt [⟨.Name x px,iter,ifs,0⟩] scope pos) (br5 wi ix ti te):=by
 intro pins s σ H Q I h
 rw [eval_ListComp]
 refine wpAny_comprehension_free (use:=none) rfl hs hcl hsc.kind hsc.loc (thn (hi pins s σ H _ I h) fun v s1 h1=>thn h1 fun itv s2 h2=>?_)
 obtain ⟨it,fp,tn,J,H2,e,I2,T,st2,f2,hW⟩:=h2
 subst e
 refine aS6 (RR:=fun acc C=>compPost (model X.prog X.w) X.A X.xe none (EP X pins σ Q) acc C) hcalm I2 hsc hix T st2 f2 hti hte hW ?_
 rintro p C H' s' I' ⟨f0,f1,_,f3,f4,f5⟩ ⟨m,hm⟩ q
 exact ⟨m,hm,fun h' hs'=>⟨.ref p,H',I'.turned (t':=s'.toks) (fun b o hb e=>hs'.extBut b o hb e) f0 f1 f3 f4 f5,rfl,q⟩⟩
end
mutual
noncomputable def Den (K:PySem.W.Frag) (H:Hp):PyData→V→Prop
 | .none,v=>v= .non
 | .bool b,v=>v= .bl b
 | .int i,v=>v= .int i
 | .str x,v=>v= .str x
 | .list ds,v=>∃ a xs,v= .ref a∧SqL K H a xs∧Dens K H ds xs
 | .tuple ds,v=>∃ a xs,v= .ref a∧SqT K H a xs∧Dens K H ds xs
 | .dict _,_=>False
noncomputable def Dens (K:PySem.W.Frag) (H:Hp):List PyData→List V→Prop
 | [],xs=>xs=[]
 | d :: ds,xs=>∃ x r,xs=x :: r∧Den K H d x∧Dens K H ds r
end
section
variable {X:Cx} {pins:List (Addr×Obj)} {σ:St} {H:Hp} {s:Shared}
mutual
theorem den_reads (I:Inv X pins σ H s):∀ (d:PyData) {v:V} {u:Value},Den X.K H d v→RelV v u→∃ as,Reads s.heap u d as
 | .none,v,u,h,r=>by
   rw [Den] at h
   subst h
   have r':u=Value.none:=r
   subst r'
   exact ⟨_,.none⟩
 | .bool b,v,u,h,r=>by
   rw [Den] at h
   subst h
   have r':u=Value.bool b:=r
   subst r'
   exact ⟨_,.bool b⟩
 | .int i,v,u,h,r=>by
   rw [Den] at h
   subst h
   obtain ⟨t,r'⟩:=(show ∃ t,u=Value.int i t from r)
   subst r'
   exact ⟨_,.int i t⟩
 | .str x,v,u,h,r=>by
   rw [Den] at h
   subst h
   obtain ⟨t,r'⟩:=(show ∃ t,u=Value.str x t from r)
   subst r'
   exact ⟨_,.str x t⟩
 | .list ds,v,u,h,r=>by
   rw [Den] at h
   obtain ⟨a,xs,rfl,hq,hd⟩:=h
   have r':u=Value.ref a:=r
   subst r'
   obtain ⟨its,rv,p,hz⟩:=I.list hq
   obtain ⟨as,ra⟩:=dens_reads I ds hd rv
   obtain ⟨o,ho,hc,n,hdat⟩:=p.isList
   exact ⟨_,.list ho hc hdat (by simpa using ra)⟩
 | .tuple ds,v,u,h,r=>by
   rw [Den] at h
   obtain ⟨a,xs,rfl,hq,hd⟩:=h
   have r':u=Value.ref a:=r
   subst r'
   obtain ⟨its,rv,p,hz⟩:=I.tuple hq
   obtain ⟨as,ra⟩:=dens_reads I ds hd rv
   obtain ⟨o,ho,hc,n,hdat⟩:=p
   exact ⟨_,.tuple ho hc hdat (by simpa using ra)⟩
 | .dict _,v,u,h,r=>by
   rw [Den] at h
   exact h.elim
theorem dens_reads (I:Inv X pins σ H s):∀ (ds:List PyData) {xs:List V} {us:List Value},Dens X.K H ds xs→Vals xs us→∃ as,ReadsAll s.heap us ds as
 | [],xs,us,h,r=>by
   rw [Dens] at h
   subst h
   cases r
   exact ⟨_,.nil⟩
 | d :: ds,xs,us,h,r=>by
   rw [Dens] at h
   obtain ⟨x,t,rfl,hx,ht⟩:=h
   cases r with
   | cons r1 r2 =>
     obtain ⟨as,ra⟩:=den_reads I d hx r1
     obtain ⟨bs,rb⟩:=dens_reads I ds ht r2
     exact ⟨_,.cons ra rb⟩
end
end
section
variable {X:Cx}
noncomputable def rEqD (K:PySem.W.Frag) (neg:Bool):R2:=fun x y H Q=>∃ d e,Den K H d x∧Den K H e y∧SeqAt.shaped d=true∧SeqAt.shaped e=true∧Q (.bl (if neg then !PyData.eqv d e else PyData.eqv d e)) H
theorem bK2 (hu:X.A.units + 64 < cLine):OpR X (compareOp .Eq) (rEqD X.K false):=by
 intro pins s σ H x y v u Q I rx ry h
 obtain ⟨d,e,hd,he,sd,se,q⟩:=h
 obtain ⟨as,ra⟩:=den_reads I d hd rx
 obtain ⟨bs,rb⟩:=den_reads I e he ry
 exact eq_dataH ra rb sd se hu ⟨.bl _,H,I,rfl,q⟩
theorem bJ8 (hu:X.A.units + 64 < cLine):OpR X (compareOp .NotEq) (rEqD X.K true):=by
 intro pins s σ H x y v u Q I rx ry h
 obtain ⟨d,e,hd,he,sd,se,q⟩:=h
 obtain ⟨as,ra⟩:=den_reads I d hd rx
 obtain ⟨bs,rb⟩:=den_reads I e he ry
 exact ne_dataH ra rb sd se hu ⟨.bl _,H,I,rfl,q⟩
theorem bK1 (hu:X.A.units + 65 < cLine):OpR X (compareOp .In) (fun x y H Q=>∃ d xs,Den X.K H d x∧Den X.K H (.list xs) y∧SeqAt.shaped d=true∧SeqAt.shaped (.list xs)=true∧(∀ z∈xs,SeqAt.noMix z d=true)∧Q (.bl (decide (countIn d xs≠0))) H):=by
 intro pins s σ H x y v u Q I rx ry h
 obtain ⟨d,xs,hd,he,sd,se,nm,q⟩:=h
 obtain ⟨as,ra⟩:=den_reads I d hd rx
 obtain ⟨bs,rb⟩:=den_reads I _ he ry
 exact in_list_dataH rb ra se sd hu nm ⟨.bl _,H,I,rfl,q⟩
end
section
variable {X:Cx}
theorem bm4:aG0 X (.builtin "isinstance") (fun xs H Q=>∃ x c t b,xs=[x,.ty c]∧TyOf X.K H x t∧PySem.W.kitOne X.K t (.type c)=some b∧Q (.bl b) H):=by
 intro pins s σ H xs us Q I r h
 obtain ⟨x,c,t,b,rfl,ty,e,q⟩:=h
 obtain ⟨u,w',rfl,r1,r2⟩:=bf7 r
 have r3:w'=Value.type c:=r2
 subst r3
 exact aZ5 I r1 ty e fun tk=>⟨.bl b,H,I.tok tk,rfl,q⟩
end
section
variable {prog:Program} {w:World} {A:Around} {R:Result→Shared→Prop} {I:Addr} {fp wr:List Addr} {n:Nat} {P:Nat→Value→Prop} {St:Nat→Heap→Prop}
theorem aJ2 (W:Walks prog w A.in1 I fp wr n P St) (kw:List (Str×Value)) (bt:Nat→Nat→Bool) (cmp:CmpOf prog w A.in1 .Lt P bt) (S:Addr) (nS:S∉fp):∀ (k j:Nat) (s:Shared) (vb:Value) (c:Nat),
 n - (j + 1)=k→j + 1≤n→St (j + 1) s.heap→P (argBest bt j) vb→s.heap.get? S=some { cls:= .type "list",dict:=none,data:= .seq #[vb,vb] c,slots:=#[] } →
 (∀ v h' tk,P (argBest bt (n - 1)) v→(∀ b o,b∉wr→b≠S→s.heap.get? b=some o→h'.get? b=some o)→R (.ok (.ret v)) { s with heap:=h',toks:=tk }) →
 codeAny (model prog w) A (.builtin "min.loop" ⟨[.ref I,.none,.ref S],kw⟩) R s:=by
 have nW:S∉wr:=fun z=>nS (W.sub _ z)
 have nm:(toString "min" ++ toString ".loop" : String) = "min.loop" := by decide
 intro k
 induction k with
 | zero =>
   intro j s vb c e1 e2 st pb oS fin
   refine codeAny_builtin PySem.F.entry_min_loop ?_
   rw [Around.under_plainId PySem.F.plain_min_loop _]
   refine wpAny_bind (m:=seqItems? (.ref S)) (wpAny_seqItems oS rfl ?_)
   refine wpAny_bind (m:=tryCatch (pyNext (.ref I)) _) (wpAny_tryCatch (W.done s _ _ ((show j + 1=n by omega) ▸ st) fun h' tk kp=>?_))
   refine wpAny_bind (m:=updateSeq S (fun _=>#[])) ?_
   refine wpAny_updateSeq (kp S _ nW oS) rfl (wpAny_bind (wpAny_letGo (wpAny_pure ?_)))
   exact fin vb _ tk (by rw [show n - 1=j by omega]; exact pb) fun b o hw hS e=>(Heap.get?_update_other _ _ (Ne.symm hS)).trans (kp b o hw e)
 | succ k ih =>
   intro j s vb c e1 e2 st pb oS fin
   have lt:j + 1 < n:=by omega
   refine codeAny_builtin PySem.F.entry_min_loop ?_
   rw [Around.under_plainId PySem.F.plain_min_loop _]
   refine wpAny_bind (m:=seqItems? (.ref S)) (wpAny_seqItems oS rfl ?_)
   refine wpAny_bind (m:=tryCatch (pyNext (.ref I)) _) (wpAny_tryCatch (W.item (j + 1) s _ _ lt st fun v h' tk pv st' kp=>?_))
   have oS':=kp S _ nW oS
   refine wpAny_bind (m:=tryCatch (holding [v,v] (richCompare .Lt v vb >>= _)) _) (wpAny_tryCatch (wpAny_holding (wpAny_bind (cmp (j + 1) (argBest bt j) v vb _ _ _ pv pb ?_))))
   refine wpAny_bind (wpAny_holding (wpAny_truthy_bool (wpAny_bind (wpAny_letGo (wpAny_pure ?_)))))
   cases eb:bt (j + 1) (argBest bt j) with
   | true =>
     rw [if_pos rfl]
     refine wpAny_bind ?_
     refine wpAny_updateSeq oS' rfl (wpAny_bind (wpAny_letGo ?_))
     rw [nm]
     refine wpAny_pure ⟨plainId_quiet PySem.F.plain_min_loop _,ih (j + 1) _ v _ (by omega) lt (W.frame _ _ _ st' fun b hb o e=>?_) (by simp only [argBest,eb,if_true]; exact pv) (Heap.get?_update_self _ oS' rfl) fun v' h'' tk'' pv' kp''=>?_⟩
     · exact (Heap.get?_update_other _ _ (fun z:S=b=>nS (by rw [z]; exact hb))).trans e
     · exact fin v' h'' tk'' pv' fun b o hw hS e=>kp'' b o hw hS ((Heap.get?_update_other _ _ (Ne.symm hS)).trans (kp b o hw e))
   | false =>
     rw [if_neg Bool.false_ne_true]
     refine wpAny_bind (wpAny_letGo ?_)
     rw [nm]
     exact wpAny_pure ⟨plainId_quiet PySem.F.plain_min_loop _,ih (j + 1) _ vb c (by omega) lt st' (by simp only [argBest,eb,Bool.false_eq_true,if_false]; exact pb) oS' fun v' h'' tk'' pv' kp''=>fin v' h'' tk'' pv' fun b o hw hS e=>kp'' b o hw hS (kp b o hw e)⟩
end
theorem bf5 (a d:Value):argsOk "min" ⟨[a],[(Str.ofString "default",d)]⟩:=by unfold argsOk; kernel_rfl
section
variable {prog:Program} {w:World} {A:Around} {E:Value→Shared→Prop} {s:Shared}
theorem be9 {x d:Value} {Q:Value→Shared→Prop}
 (h:wpAny (model prog w) A.in1 (pyIter x) (fun it s₂=>∃ I fp wr n P St bt,it= .ref I∧Walks prog w A.in1 I fp wr n P St∧St 0 s₂.heap∧(∀ b∈fp,b < s₂.heap.objs.size)∧CmpOf prog w A.in1 .Lt P bt ∧
   (n=0→∀ h' tk,(∀ b o,b∉wr→s₂.heap.get? b=some o→h'.get? b=some o)→Q d { s₂ with heap:=h',toks:=tk }) ∧
   (0 < n→∀ v h' tk,P (argBest bt (n - 1)) v→(∀ b o,b∉wr→s₂.heap.get? b=some o→h'.get? b=some o)→Q v { s₂ with heap:=h',toks:=tk })) E s) :
 wpAny (model prog w) A (call (.builtin "min") [x] [(Str.ofString "default",d)]) Q E s:=by
 have nm:(toString "min" ++ toString ".loop" : String) = "min.loop" := by decide
 refine kmk_tree PySem.F.kind_min PySem.F.plain_min PySem.F.entry_min (bf5 _ _) ?_
 refine wpAny_bind (m:=Builtin.Builtins.bindParams "min" ["key", "default"] 0 ⟨[],[(Str.ofString "default",d)]⟩) (wpAny_of_eq (show _=pure [none,some d] from rfl) ?_)
 refine wpAny_bind (wpAny_pure (wpAny_bind (wpAny_mono h (fun it s₂ h₂=>?_) fun _ _ e=>e)))
 obtain ⟨I,fp,wr,n,P,St,bt,rfl,W,st,lts,cmp,q0,q1⟩:=h₂
 refine wpAny_bind (wpAny_newObj_type ?_)
 have nS:s₂.heap.objs.size∉fp:=fun z=>Nat.lt_irrefl _ (lts _ z)
 have nW:s₂.heap.objs.size∉wr:=fun z=>nS (W.sub _ z)
 rw [nm]
 have st1:=W.frame _ _ (s₂.heap.push { cls:= .type "list",dict:=none,data:= .seq ([]:List Value).toArray }) st fun b _ o e=>Heap.get?_push_of_some _ e
 have oS:(s₂.heap.push { cls:= .type "list",dict:=none,data:= .seq ([]:List Value).toArray }).get? s₂.heap.objs.size=some { cls:= .type "list",dict:=none,data:= .seq ([]:List Value).toArray }:=Heap.get?_push_size _ rfl
 refine wpAny_pure ⟨plainId_quiet PySem.F.plain_min_loop _,codeAny_builtin PySem.F.entry_min_loop ?_⟩
 rw [Around.under_plainId PySem.F.plain_min_loop _]
 refine wpAny_bind (m:=seqItems? (.ref s₂.heap.objs.size)) (wpAny_seqItems oS rfl ?_)
 by_cases hn:n=0
 · refine wpAny_bind (m:=tryCatch (pyNext (.ref I)) _) (wpAny_tryCatch (W.done _ _ _ (hn ▸ st1) fun h' tk kp=>?_))
   refine wpAny_bind (m:=rule _) (wpAny_rule (wpAny_pure ?_))
   exact q0 hn h' tk fun b o hw e=>kp b o hw (Heap.get?_push_of_some _ e)
 · have lt:0 < n:=Nat.pos_of_ne_zero hn
   refine wpAny_bind (m:=tryCatch (pyNext (.ref I)) _) (wpAny_tryCatch (W.item 0 _ _ _ lt st1 fun v h' tk pv st' kp=>?_))
   have oS':=kp _ _ nW oS
   refine wpAny_bind (m:=updateSeq s₂.heap.objs.size (fun _=>#[v,v])) ?_
   refine wpAny_updateSeq oS' rfl ?_
   rw [nm]
   refine wpAny_pure ⟨plainId_quiet PySem.F.plain_min_loop _,aJ2 W _ bt cmp _ nS _ 0 _ v _ rfl lt (W.frame _ _ _ st' fun b hb o e=>?_) pv (Heap.get?_update_self _ oS' rfl) fun v' h'' tk'' pv' kp''=>?_⟩
   · exact (Heap.get?_update_other _ _ (fun z:s₂.heap.objs.size=b=>nS (by rw [z]; exact hb))).trans e
   · exact q1 lt v' h'' tk'' pv' fun b o hw e=>kp'' b o hw (Nat.ne_of_lt (Heap.lt_size e)) ((Heap.get?_update_other _ _ (Nat.ne_of_gt (Heap.lt_size e))).trans (kp b o hw (Heap.get?_push_of_some _ e)))
end
section
variable {prog:Program} {w:World} {A:Around} {R:Result→Shared→Prop} {I:Addr} {fp wr:List Addr} {n:Nat} {P:Nat→Value→Prop} {St:Nat→Heap→Prop}
theorem aJ3 (W:Walks prog w A.in1 I fp wr n P St) (kw:List (Str×Value)) (bt:Nat→Nat→Bool) (cmp:CmpOf prog w A.in1 .Gt P bt) (S:Addr) (nS:S∉fp):∀ (k j:Nat) (s:Shared) (vb:Value) (c:Nat),
 n - (j + 1)=k→j + 1≤n→St (j + 1) s.heap→P (argBest bt j) vb→s.heap.get? S=some { cls:= .type "list",dict:=none,data:= .seq #[vb,vb] c,slots:=#[] } →
 (∀ v h' tk,P (argBest bt (n - 1)) v→(∀ b o,b∉wr→b≠S→s.heap.get? b=some o→h'.get? b=some o)→R (.ok (.ret v)) { s with heap:=h',toks:=tk }) →
 codeAny (model prog w) A (.builtin "max.loop" ⟨[.ref I,.none,.ref S],kw⟩) R s:=by
 have nW:S∉wr:=fun z=>nS (W.sub _ z)
 have nm:(toString "max" ++ toString ".loop" : String) = "max.loop" := by decide
 intro k
 induction k with
 | zero =>
   intro j s vb c e1 e2 st pb oS fin
   refine codeAny_builtin PySem.F.entry_max_loop ?_
   rw [Around.under_plainId PySem.F.plain_max_loop _]
   refine wpAny_bind (m:=seqItems? (.ref S)) (wpAny_seqItems oS rfl ?_)
   refine wpAny_bind (m:=tryCatch (pyNext (.ref I)) _) (wpAny_tryCatch (W.done s _ _ ((show j + 1=n by omega) ▸ st) fun h' tk kp=>?_))
   refine wpAny_bind (m:=updateSeq S (fun _=>#[])) ?_
   refine wpAny_updateSeq (kp S _ nW oS) rfl (wpAny_bind (wpAny_letGo (wpAny_pure ?_)))
   exact fin vb _ tk (by rw [show n - 1=j by omega]; exact pb) fun b o hw hS e=>(Heap.get?_update_other _ _ (Ne.symm hS)).trans (kp b o hw e)
 | succ k ih =>
   intro j s vb c e1 e2 st pb oS fin
   have lt:j + 1 < n:=by omega
   refine codeAny_builtin PySem.F.entry_max_loop ?_
   rw [Around.under_plainId PySem.F.plain_max_loop _]
   refine wpAny_bind (m:=seqItems? (.ref S)) (wpAny_seqItems oS rfl ?_)
   refine wpAny_bind (m:=tryCatch (pyNext (.ref I)) _) (wpAny_tryCatch (W.item (j + 1) s _ _ lt st fun v h' tk pv st' kp=>?_))
   have oS':=kp S _ nW oS
   refine wpAny_bind (m:=tryCatch (holding [v,v] (richCompare .Gt v vb >>= _)) _) (wpAny_tryCatch (wpAny_holding (wpAny_bind (cmp (j + 1) (argBest bt j) v vb _ _ _ pv pb ?_))))
   refine wpAny_bind (wpAny_holding (wpAny_truthy_bool (wpAny_bind (wpAny_letGo (wpAny_pure ?_)))))
   cases eb:bt (j + 1) (argBest bt j) with
   | true =>
     rw [if_pos rfl]
     refine wpAny_bind ?_
     refine wpAny_updateSeq oS' rfl (wpAny_bind (wpAny_letGo ?_))
     rw [nm]
     refine wpAny_pure ⟨plainId_quiet PySem.F.plain_max_loop _,ih (j + 1) _ v _ (by omega) lt (W.frame _ _ _ st' fun b hb o e=>?_) (by simp only [argBest,eb,if_true]; exact pv) (Heap.get?_update_self _ oS' rfl) fun v' h'' tk'' pv' kp''=>?_⟩
     · exact (Heap.get?_update_other _ _ (fun z:S=b=>nS (by rw [z]; exact hb))).trans e
     · exact fin v' h'' tk'' pv' fun b o hw hS e=>kp'' b o hw hS ((Heap.get?_update_other _ _ (Ne.symm hS)).trans (kp b o hw e))
   | false =>
     rw [if_neg Bool.false_ne_true]
     refine wpAny_bind (wpAny_letGo ?_)
     rw [nm]
     exact wpAny_pure ⟨plainId_quiet PySem.F.plain_max_loop _,ih (j + 1) _ vb c (by omega) lt st' (by simp only [argBest,eb,Bool.false_eq_true,if_false]; exact pb) oS' fun v' h'' tk'' pv' kp''=>fin v' h'' tk'' pv' fun b o hw hS e=>kp'' b o hw hS (kp b o hw e)⟩
end
theorem bf6 (a d:Value):argsOk "max" ⟨[a],[(Str.ofString "default",d)]⟩:=by unfold argsOk; kernel_rfl
section
variable {prog:Program} {w:World} {A:Around} {E:Value→Shared→Prop} {s:Shared}
theorem bf0 {x d:Value} {Q:Value→Shared→Prop}
 (h:wpAny (model prog w) A.in1 (pyIter x) (fun it s₂=>∃ I fp wr n P St bt,it= .ref I∧Walks prog w A.in1 I fp wr n P St∧St 0 s₂.heap∧(∀ b∈fp,b < s₂.heap.objs.size)∧CmpOf prog w A.in1 .Gt P bt ∧
   (n=0→∀ h' tk,(∀ b o,b∉wr→s₂.heap.get? b=some o→h'.get? b=some o)→Q d { s₂ with heap:=h',toks:=tk }) ∧
   (0 < n→∀ v h' tk,P (argBest bt (n - 1)) v→(∀ b o,b∉wr→s₂.heap.get? b=some o→h'.get? b=some o)→Q v { s₂ with heap:=h',toks:=tk })) E s) :
 wpAny (model prog w) A (call (.builtin "max") [x] [(Str.ofString "default",d)]) Q E s:=by
 have nm:(toString "max" ++ toString ".loop" : String) = "max.loop" := by decide
 refine kmk_tree PySem.F.kind_max PySem.F.plain_max PySem.F.entry_max (bf6 _ _) ?_
 refine wpAny_bind (m:=Builtin.Builtins.bindParams "max" ["key", "default"] 0 ⟨[],[(Str.ofString "default",d)]⟩) (wpAny_of_eq (show _=pure [none,some d] from rfl) ?_)
 refine wpAny_bind (wpAny_pure (wpAny_bind (wpAny_mono h (fun it s₂ h₂=>?_) fun _ _ e=>e)))
 obtain ⟨I,fp,wr,n,P,St,bt,rfl,W,st,lts,cmp,q0,q1⟩:=h₂
 refine wpAny_bind (wpAny_newObj_type ?_)
 have nS:s₂.heap.objs.size∉fp:=fun z=>Nat.lt_irrefl _ (lts _ z)
 have nW:s₂.heap.objs.size∉wr:=fun z=>nS (W.sub _ z)
 rw [nm]
 have st1:=W.frame _ _ (s₂.heap.push { cls:= .type "list",dict:=none,data:= .seq ([]:List Value).toArray }) st fun b _ o e=>Heap.get?_push_of_some _ e
 have oS:(s₂.heap.push { cls:= .type "list",dict:=none,data:= .seq ([]:List Value).toArray }).get? s₂.heap.objs.size=some { cls:= .type "list",dict:=none,data:= .seq ([]:List Value).toArray }:=Heap.get?_push_size _ rfl
 refine wpAny_pure ⟨plainId_quiet PySem.F.plain_max_loop _,codeAny_builtin PySem.F.entry_max_loop ?_⟩
 rw [Around.under_plainId PySem.F.plain_max_loop _]
 refine wpAny_bind (m:=seqItems? (.ref s₂.heap.objs.size)) (wpAny_seqItems oS rfl ?_)
 by_cases hn:n=0
 · refine wpAny_bind (m:=tryCatch (pyNext (.ref I)) _) (wpAny_tryCatch (W.done _ _ _ (hn ▸ st1) fun h' tk kp=>?_))
   refine wpAny_bind (m:=rule _) (wpAny_rule (wpAny_pure ?_))
   exact q0 hn h' tk fun b o hw e=>kp b o hw (Heap.get?_push_of_some _ e)
 · have lt:0 < n:=Nat.pos_of_ne_zero hn
   refine wpAny_bind (m:=tryCatch (pyNext (.ref I)) _) (wpAny_tryCatch (W.item 0 _ _ _ lt st1 fun v h' tk pv st' kp=>?_))
   have oS':=kp _ _ nW oS
   refine wpAny_bind (m:=updateSeq s₂.heap.objs.size (fun _=>#[v,v])) ?_
   refine wpAny_updateSeq oS' rfl ?_
   rw [nm]
   refine wpAny_pure ⟨plainId_quiet PySem.F.plain_max_loop _,aJ3 W _ bt cmp _ nS _ 0 _ v _ rfl lt (W.frame _ _ _ st' fun b hb o e=>?_) pv (Heap.get?_update_self _ oS' rfl) fun v' h'' tk'' pv' kp''=>?_⟩
   · exact (Heap.get?_update_other _ _ (fun z:s₂.heap.objs.size=b=>nS (by rw [z]; exact hb))).trans e
   · exact q1 lt v' h'' tk'' pv' fun b o hw e=>kp'' b o hw (Nat.ne_of_lt (Heap.lt_size e)) ((Heap.get?_update_other _ _ (Nat.ne_of_gt (Heap.lt_size e))).trans (kp b o hw (Heap.get?_push_of_some _ e)))
end
noncomputable def aG1 (X:Cx) (f:Value) (ks:List Str) (r:List V→List V→Hp→VK→Prop):Prop :=
 ∀ (pins:List (Addr×Obj)) (s:Shared) (σ:St) (H:Hp) (xs zs:List V) (us ws:List Value) (Q:VK),Inv X pins σ H s→Vals xs us→Vals zs ws→r xs zs H Q →
  wpAny (model X.prog X.w) X.A (call f us (ks.zip ws)) (EP X pins σ Q) X.xe s
noncomputable def tCBK (r:List V→List V→Hp→VK→Prop) (t tk:TA):TE:=fun σ H Q=>t σ H fun vs H1=>tk σ H1 fun zs H2=>r vs zs H2 Q
section
variable {X:Cx} {x:Str} {p pos:Pos} {e:Expr} {es:List Expr} {kws:List Keyword} {t tk:TA} {id:String} {ks:List Str} {r:List V→List V→Hp→VK→Prop}
theorem aD4 (hc:aG1 X (.builtin id) ks r) (hg:Gl X x) (hm:X.mg x=none) (hv:bootBuiltins x=some (.builtin id)) (ha:PA X (e :: es) t) (hk:PK X kws tk)
 (hks:(backToKw pos (keywordEach kws X.env)).filterMap (·.1)=ks:=by rfl) (hn:x ≠ "__name__" := by decide) (hdb:(x == ("__debug__" : Str))=false:=by decide)
 (he:backTo pos (starEach (e :: es) X.env)=(false,eval e X.env) :: backTo pos (starEach es X.env):=by rfl) (hpl:(backTo pos (starEach (e :: es) X.env)).any (·.1)=false:=by rfl)
 (hall:(backToKw pos (keywordEach kws X.env)).all (·.1.isSome)=true:=by rfl) (hkn:(backToKw pos (keywordEach kws X.env)).any (·.1.isNone)=false:=by rfl) :
 PE X (.Call (.Name x p) (e :: es) kws pos) (tCBK r t tk):=by
 intro pins s σ H Q I h
 refine wpAny_Call_Name_kw (aO9 I hg hm hv ?_ hn hdb)
 refine PyProof.Rows.callWith_kw (thn (ha pos pins s σ H _ I h) fun us s1 ⟨vs,H1,I1,r1,q1⟩=>thn (hk pos pins s1 σ H1 _ I1 q1) fun ws s2 ⟨zs,H2,I2,r2,q2⟩=>?_) he hpl hall hkn
 rw [hks]
 exact hc pins s2 σ H2 vs zs us ws Q I2 r1 r2 q2
end
theorem af2:∀ {ns:List Int} {us:List Value} {i:Nat} {u:Value},Vals (ns.map V.int) us→us[i]?=some u→∃ t,u= .int (ns.getD i 0) t
 | [],us,i,u,r,e=>by
   cases r
   cases e
 | n :: ns,us,i,u,r,e=>by
   rw [List.map_cons] at r
   cases r with
   | cons r1 r2 =>
     cases i with
     | zero =>
       cases e
       exact r1
     | succ i =>
       show ∃ t,u= .int (ns.getD i 0) t
       exact af2 (ns:=ns) (i:=i) r2 (by simpa using e)
theorem bf1 {X:Cx} (hc:X.calm=true):aG1 X (.builtin "min") ["default"] (fun xs zs H Q=>∃ p ns d,xs=[.ref p]∧zs=[d]∧SqL X.K H p (ns.map V.int)∧(ns=[]→Q d H)∧∀ m∈ns,(∀ x∈ns,m≤x)→Q (.int m) H):=by
 intro pins s σ H xs zs us ws Q I r rz h
 obtain ⟨p,ns,d,rfl,rfl,hq,q0,q1⟩:=h
 obtain ⟨u,rfl,ru⟩:=Vals.one r
 have ru':u=Value.ref p:=ru
 subst ru'
 obtain ⟨dv,rfl,rd⟩:=Vals.one rz
 obtain ⟨its,rv,pl,hz⟩:=I.list hq
 have ln:ns.length=its.length:=by rw [← rv.length,List.length_map]
 obtain ⟨ol,hol,hcl,hdl⟩:=id pl.isList
 have hlt:p < s.heap.objs.size:=Heap.lt_size hol
 refine be9 (wpAny_pyIter_list pl.isList ⟨s.heap.objs.size,_,_,_,_,_,_,rfl,Walks.list (A:=X.A.in1) (I.ok.hd hc) _ p (Nat.ne_of_lt hlt) its.toArray,⟨⟨_,Heap.get?_push_size _ rfl,rfl,rfl⟩,⟨ol,Heap.get?_push_of_some _ hol,hcl,hdl⟩⟩,fun b hb=>?_,CmpOf.ints_lt (fun i=>ns.getD i 0) (fun i v e=>af2 rv (by simpa using e)),fun e h' tk kp=>?_,fun e v h' tk pv kp=>?_⟩)
 · rw [Heap.size_push]
   rcases List.mem_cons.mp hb with z | z
   · rw [z]; exact Nat.lt_succ_self _
   · have z':b=p:=by simpa using z
     rw [z']; exact Nat.lt_succ_of_lt hlt
 · have en:ns=[]:=List.length_eq_zero_iff.mp (by rw [ln]; simpa using e)
   refine ⟨d,H,I.kept fun b o q=>kp b o (fun z=>?_) (Heap.get?_push_of_some _ q),rd,q0 en⟩
   have z':b=s.heap.objs.size:=by simpa using z
   exact absurd (Heap.lt_size q) (by rw [z']; exact Nat.lt_irrefl _)
 · have e':0 < its.length:=by simpa using e
   have e1:its.toArray.size - 1=ns.length - 1:=by rw [List.size_toArray,ln]
   rw [e1] at pv
   obtain ⟨b1,b2⟩:=argBest_lt (fun i=>ns.getD i 0) (ns.length - 1)
   rw [List.getElem?_toArray] at pv
   obtain ⟨t,rfl⟩:=af2 rv pv
   have up:∀ i,i < ns.length→ns.getD i 0∈ns:=fun i hi=>by
    rw [List.getD_eq_getElem?_getD,List.getElem?_eq_getElem hi]
    exact List.getElem_mem hi
   refine ⟨.int _,H,I.kept fun b o q=>kp b o (fun z=>?_) (Heap.get?_push_of_some _ q),⟨t,rfl⟩,q1 _ (up _ (by omega)) fun x hx=>?_⟩
   · have z':b=s.heap.objs.size:=by simpa using z
     exact absurd (Heap.lt_size q) (by rw [z']; exact Nat.lt_irrefl _)
   · obtain ⟨j,hj,rfl⟩:=List.getElem_of_mem hx
     have:=b2 j (by omega)
     rwa [show ns.getD j 0=ns[j] by rw [List.getD_eq_getElem?_getD,List.getElem?_eq_getElem hj]; rfl] at this
theorem bf2 {X:Cx} (hc:X.calm=true):aG1 X (.builtin "max") ["default"] (fun xs zs H Q=>∃ p ns d,xs=[.ref p]∧zs=[d]∧SqL X.K H p (ns.map V.int)∧(ns=[]→Q d H)∧∀ m∈ns,(∀ x∈ns,x≤m)→Q (.int m) H):=by
 intro pins s σ H xs zs us ws Q I r rz h
 obtain ⟨p,ns,d,rfl,rfl,hq,q0,q1⟩:=h
 obtain ⟨u,rfl,ru⟩:=Vals.one r
 have ru':u=Value.ref p:=ru
 subst ru'
 obtain ⟨dv,rfl,rd⟩:=Vals.one rz
 obtain ⟨its,rv,pl,hz⟩:=I.list hq
 have ln:ns.length=its.length:=by rw [← rv.length,List.length_map]
 obtain ⟨ol,hol,hcl,hdl⟩:=id pl.isList
 have hlt:p < s.heap.objs.size:=Heap.lt_size hol
 refine bf0 (wpAny_pyIter_list pl.isList ⟨s.heap.objs.size,_,_,_,_,_,_,rfl,Walks.list (A:=X.A.in1) (I.ok.hd hc) _ p (Nat.ne_of_lt hlt) its.toArray,⟨⟨_,Heap.get?_push_size _ rfl,rfl,rfl⟩,⟨ol,Heap.get?_push_of_some _ hol,hcl,hdl⟩⟩,fun b hb=>?_,CmpOf.ints_gt (fun i=>ns.getD i 0) (fun i v e=>af2 rv (by simpa using e)),fun e h' tk kp=>?_,fun e v h' tk pv kp=>?_⟩)
 · rw [Heap.size_push]
   rcases List.mem_cons.mp hb with z | z
   · rw [z]; exact Nat.lt_succ_self _
   · have z':b=p:=by simpa using z
     rw [z']; exact Nat.lt_succ_of_lt hlt
 · have en:ns=[]:=List.length_eq_zero_iff.mp (by rw [ln]; simpa using e)
   refine ⟨d,H,I.kept fun b o q=>kp b o (fun z=>?_) (Heap.get?_push_of_some _ q),rd,q0 en⟩
   have z':b=s.heap.objs.size:=by simpa using z
   exact absurd (Heap.lt_size q) (by rw [z']; exact Nat.lt_irrefl _)
 · have e':0 < its.length:=by simpa using e
   have e1:its.toArray.size - 1=ns.length - 1:=by rw [List.size_toArray,ln]
   rw [e1] at pv
   obtain ⟨b1,b2⟩:=argBest_gt (fun i=>ns.getD i 0) (ns.length - 1)
   rw [List.getElem?_toArray] at pv
   obtain ⟨t,rfl⟩:=af2 rv pv
   have up:∀ i,i < ns.length→ns.getD i 0∈ns:=fun i hi=>by
    rw [List.getD_eq_getElem?_getD,List.getElem?_eq_getElem hi]
    exact List.getElem_mem hi
   refine ⟨.int _,H,I.kept fun b o q=>kp b o (fun z=>?_) (Heap.get?_push_of_some _ q),⟨t,rfl⟩,q1 _ (up _ (by omega)) fun x hx=>?_⟩
   · have z':b=s.heap.objs.size:=by simpa using z
     exact absurd (Heap.lt_size q) (by rw [z']; exact Nat.lt_irrefl _)
   · obtain ⟨j,hj,rfl⟩:=List.getElem_of_mem hx
     have:=b2 j (by omega)
     rwa [show ns.getD j 0=ns[j] by rw [List.getD_eq_getElem?_getD,List.getElem?_eq_getElem hj]; rfl] at this
noncomputable def dd (ns:List Int):List Int:=ns.foldl step_dedup []
noncomputable def RawD (h:Heap) (d:Addr) (es:Array DictEntry) (ep:Nat):Prop:=∃ o,h.get? d=some o∧o.ExactDict∧o.data= .dict es ep
section
variable {prog:Program} {w:World} {A:Around} {E:Value→Shared→Prop} {s:Shared} {d it:Addr} {es:Array DictEntry} {ep i:Nat}
theorem RawD.typeIs (x:RawD s.heap d es ep):s.TypeIs (.ref d) "dict" := by
 obtain ⟨o,ho,hx,_⟩:=x
 exact ⟨o,ho,hx.1⟩
end
end L2
namespace Gd
open PySem L2
theorem bf3:bootBuiltins "len" = some (.builtin "len"):=by decide +kernel
theorem av7:bootBuiltins "min" = some (.builtin "min"):=by decide +kernel
theorem av8:bootBuiltins "max" = some (.builtin "max"):=by decide +kernel
theorem ab9:bootBuiltins "isinstance" = some (.builtin "isinstance"):=by decide +kernel
theorem bF7:bootBuiltins "list" = some (.type "list"):=by decide +kernel
theorem bf4:bootBuiltins "bool" = some (.type "bool"):=by decide +kernel
theorem bQ2:bootBuiltins "int" = some (.type "int"):=by decide +kernel
theorem aM8 {H H':Hp} {q:Addr} {o:HO} (h:H q=none) (e:Same H H'):Same H (upd H' q o):=fun b u z=>by
 rw [ab5 (ab3 z h)]
 exact e b u z
theorem ae0 {H:Hp} {q:Addr} {o:HO} (h:H q=none):Same H (upd H q o):=aM8 h (Same.refl H)
noncomputable def aZ0 (e:PySem.Expr):Scope:=match e with
 | .ListComp _ _ sc _=>sc
 | _=>{ kind:= .function,names:=[],isGenerator:=false,isCoroutine:=false,more:=[] }
noncomputable def bH0 (s:Stmt):PySem.Expr:=match s with
 | .Assign _ v _=>v
 | .Return (some v) _=>v
 | .Expr v _=>v
 | .For _ it _ _ _=>it
 | .If t _ _ _=>t
 | _=> .Constant .none 0 ⟨0,0,0,0⟩
noncomputable def nth (l:List Stmt) (i:Nat):Stmt:=l.getD i (.Pass ⟨0,0,0,0⟩)
noncomputable abbrev AL:=List (List Int×Int)
noncomputable abbrev kI (k:List Int):List Key:=k.map Sum.inl
noncomputable def encD (D:AL):List (List Key×V):=D.map fun p=>(kI p.1,V.int p.2)
noncomputable def look (D:AL) (k:List Int):Option Int:=(D.find? fun p=>decide (p.1=k)).map (·.2)
noncomputable def gfl (n:Int) (w l sh d:Addr):List (Str×V):=putF "wish_ranks" (.ref d) (putF "shuns" (.ref sh) (putF "likings" (.ref l) (putF "ways" (.ref w) (putF "house_count" (.int n) []))))
structure GuildAt (C:Addr) (H:Hp) (p:Addr) (n:Int) (W S:List (List Key×V)) (L D:AL) (w l sh d:Addr):Prop where
 ob:∃ dx,H p=some (.ins C dx (gfl n w l sh d))
 hw:H w=some (.dT W)
 hl:H l=some (.dT (encD L))
 hs:H sh=some (.dT S)
 hd:H d=some (.dT (encD D))
 ne:[w,l,sh,d].Nodup
theorem GuildAt.same {C:Addr} {H H':Hp} {p:Addr} {n:Int} {W S:List (List Key×V)} {L D:AL} {w l sh d:Addr} (G:GuildAt C H p n W S L D w l sh d) (e:Same H H'):GuildAt C H' p n W S L D w l sh d :=
 ⟨let ⟨dx,h⟩:=G.ob; ⟨dx,e _ _ h⟩,e _ _ G.hw,e _ _ G.hl,e _ _ G.hs,e _ _ G.hd,G.ne⟩
structure Road (n:Int) (r:List Int):Prop where
 long:2≤r.length
 small:∀ x∈r,0≤x∧x < n
 last:r.getLast?=some 0
 nd:r.Nodup
theorem Road.at {n:Int} {r:List Int} (R:Road n r) {i:Nat} (h:i < r.length):0≤r.getD i 0∧r.getD i 0 < n:=by
 refine R.small _ ?_
 rw [List.getD_eq_getElem?_getD,List.getElem?_eq_getElem h]
 exact List.getElem_mem h
noncomputable def But (c:Addr) (H H':Hp):Prop:=∀ b o,H b=some o→b≠c→H' b=some o
theorem But.refl (c:Addr) (H:Hp):But c H H:=fun _ _ h _=>h
theorem But.trans {c:Addr} {H H1 H2:Hp} (a:But c H H1) (b:But c H1 H2):But c H H2:=fun x o h n=>b x o (a x o h n) n
theorem But.after {c:Addr} {H H1 H2:Hp} (a:Same H H1) (b:But c H1 H2):But c H H2:=fun x o h n=>b x o (a x o h) n
theorem But.fresh {c:Addr} {H H1 H2:Hp} (hc:H c=none) (a:Same H H1) (b:But c H1 H2):Same H H2:=fun x o h=>b x o (a x o h) (ab3 h hc)
theorem But.seq {K:PySem.W.Frag} {c a:Addr} {H H':Hp} {xs:List V} {kvs:List (List Key×V)} (hc:H c=some (.dT kvs)) (e:But c H H') (h:SqL K H a xs):SqL K H' a xs:=by
 rcases h with (h | ⟨o,h⟩) | h
 · exact .inl (.inl (e _ _ h (bi7 h hc (by intro z; cases z))))
 · exact .inl (.inr ⟨o,e _ _ h (bi7 h hc (by intro z; cases z))⟩)
 · exact .inr h
end Gd
namespace L2
open PySem PySem.Spec PyProof.Rows
theorem FpOk.at {X:Cx} {pins:List (Addr×Obj)} {H H':Hp} {b:Addr} (h:FpOk X pins H b) (e:H' b=none):FpOk X pins H' b:=⟨e,h.2⟩
end L2
namespace HR
open PySem MeetsSeq
theorem aC8 (l:Addr) (items:Array Value) (n:Nat) (x:Value) (e:Nat→Bool) (j:Nat) (hj:j < items.size) (hit:e j=true) (hs1:items.size≤sizeLine) (k:Nat) :
 ∀ i:Nat,j - i=k→i≤j→(∀ m,i≤m→m < j→e m=false)→Meets (Builtin.«list.remove.loop» ⟨[.ref l,x,rawInt i],[]⟩)
  (fun A R s=>s.heap.get? l=some { cls:= .type "list",dict:=none,data:= .seq items n,slots:=#[] }∧(∀ m (h:m < items.size),m≤j→SeqAt.EqAt A.in1 s items[m] x (e m)) ∧
    R (.ok (.ret .none)) { s with heap:=s.heap.update l (Obj.mapSeq fun xs=>xs.eraseIdxIfInBounds j) }):=by
 induction k with
 | zero =>
   intro i hk hij hno prog w A R s h
   obtain ⟨hp,g,d,tk,os⟩:=s; obtain ⟨hl,he,h⟩:=h
   have hij':i=j:=by omega
   subst hij'
   wp_walk using wpAny_loadPart' hl
   have hi:items[((i:Nat):Int).toNat]?=some items[i]:=by simp [hj]
   rw [hi]
   refine wpAny_bind (he i hj (Nat.le_refl _) prog w _ _ ?_)
   rw [hit]
   have hz':(items.eraseIdxIfInBounds i).size≤sizeLine + 1:=Nat.le_trans (size_erased items _) (Nat.le_succ_of_le hs1)
   wp_walk using (wpAny_updateSeq hl rfl (hz:=hs1) (_hz':=hz')),wpAny_loadPart' hl
   simpa using h
 | succ k ih =>
   intro i hk hij hno prog w A R s h
   obtain ⟨hp,g,d,tk,os⟩:=s; obtain ⟨hl,he,h⟩:=h
   have hlt:i < items.size:=by omega
   wp_walk using wpAny_loadPart' hl
   have hi:items[((i:Nat):Int).toNat]?=some items[i]:=by simp [hlt]
   have hc:((i:Int) + 1)=((i + 1:Nat):Int):=by push_cast; rfl
   rw [hi]
   refine wpAny_bind (he i hlt hij prog w _ _ ?_)
   rw [hno i (Nat.le_refl _) (by omega)]
   wp_walk
   rw [hc]
   exact ⟨plainId_quiet plain_remove_loop _,codeAny_builtin entry_remove_loop (by
    rw [Around.under_plainId plain_remove_loop _]
    exact ih (i + 1) (by omega) (by omega) (fun m h1 h2=>hno m (by omega) h2) prog w A R _ ⟨hl,he,h⟩)⟩
theorem aD8 (l:Addr) (items:Array Value) (n:Nat) (x:Value) (e:Nat→Bool) (j:Nat) (hj:j < items.size)
 (hit:e j=true) (hno:∀ m,m < j→e m=false) (hs1:items.size≤sizeLine) :
 Meets (Builtin.«list.remove» ⟨[.ref l,x],[]⟩)
  (fun A R s=>s.heap.get? l=some { cls:= .type "list",dict:=none,data:= .seq items n,slots:=#[] }∧(∀ m (h:m < items.size),m≤j→SeqAt.EqAt A.in1 s items[m] x (e m)) ∧
    R (.ok (.ret .none)) { s with heap:=s.heap.update l (Obj.mapSeq fun xs=>xs.eraseIdxIfInBounds j) }):=by
 intro prog w A R s h
 obtain ⟨hp,g,d,tk,os⟩:=s; obtain ⟨hl,he,h⟩:=h
 wp_walk using wpAny_loadPart' hl
 exact ⟨plainId_quiet plain_remove_loop _,codeAny_builtin entry_remove_loop (by
  rw [Around.under_plainId plain_remove_loop _]
  exact aC8 l items n x e j hj hit hs1 _ 0 rfl (Nat.zero_le _) (fun m _ h2=>hno m h2) prog w A R _ ⟨hl,he,h⟩)⟩
end HR
namespace L2
open PySem PySem.Spec PyProof.Rows
theorem as8 {κ β:Type} [DecidableEq κ] {k:κ}:∀ {xs:List (κ×β)},k∉xs.map (·.1)→(xs.filter fun x=>decide (x.1≠k))=xs
 | [],_=>rfl
 | x :: r,h=>by
   rw [List.map_cons,List.mem_cons,not_or] at h
   rw [List.filter_cons,if_pos (by simpa using Ne.symm h.1),as8 h.2]
theorem ap1 {κ β:Type} [DecidableEq κ] {k:κ}:∀ {xs:List (κ×β)} {j:Nat} {p:β},(xs.map (·.1)).Nodup→xs[j]?=some (k,p)→xs.eraseIdx j=xs.filter fun x=>decide (x.1≠k)
 | [],j,p,_,h=>by simp at h
 | x :: r,0,p,hn,h=>by
   simp at h
   subst h
   rw [List.map_cons,List.nodup_cons] at hn
   rw [List.filter_cons,if_neg (by simp),as8 hn.1]
   rfl
 | x :: r,j + 1,p,hn,h=>by
   rw [List.map_cons,List.nodup_cons] at hn
   have h':r[j]?=some (k,p):=by simpa using h
   have:x.1≠k:=fun z=>hn.1 (by rw [z]; exact List.mem_map.mpr ⟨(k,p),List.mem_of_getElem? h',rfl⟩)
   rw [List.filter_cons,if_pos (by simpa using this),List.eraseIdx_cons_succ,ap1 hn.2 h']
theorem aD7 {α β:Type} {f:α→β}:∀ {l:List α} {j:Nat},(l.map f).eraseIdx j=(l.eraseIdx j).map f
 | [],_=>rfl
 | _ :: _,0=>rfl
 | x :: r,j + 1=>by rw [List.map_cons,List.eraseIdx_cons_succ,List.eraseIdx_cons_succ,List.map_cons,aD7]
theorem KT.drop {H:Hp} {kvs:List (List Key×V)} {xs:List (List Key×Addr×Value)} (r:KT H kvs xs) (k:List Key):KT H (aw4 kvs k) (xs.filter fun x=>decide (x.1≠k)):=by
 induction r with
 | nil=>exact .nil
 | @cons p q ps qs h t ih =>
   unfold aw4 at ih ⊢
   rw [List.filter_cons,List.filter_cons]
   by_cases e:p.1=k
   · rw [if_neg (by simp [e]),if_neg (by simp [h.1.symm.trans e])]
     exact ih
   · rw [if_pos (by simpa using e),if_pos (by simpa using fun z=>e (h.1.trans z))]
     exact .cons h ih
section
variable {X:Cx} {pins:List (Addr×Obj)} {σ:St} {H:Hp} {s:Shared} {a b:Addr} {kvs:List (List Key×V)} {k:List Key} {v:V} {A:Around} {E:Value→Shared→Prop}
theorem bP8 {Q:Value→Shared→Prop} (hu:A.units + 1 < cLine) (I:Inv X pins σ H s) (e:H a=some (.dT kvs)) (eb:H b=some (.tup (k.map kV))) (l:valV kvs k=some v)
 (h:∀ w' s',Inv X pins σ (upd H a (.dT (aw4 kvs k))) s'→RelV v w'→Q w' s'):wpAny (model X.prog X.w) A (call (.builtin "dict.pop") [.ref a,.ref b]) Q E s:=by
 obtain ⟨z,hd,xs,rel,dd⟩:=bP5 I.hok e
 have hz:xs.length≤sizeLine:=by rw [← Paired.length rel]; exact z
 have hkey:=aw8 I.hok eb
 have hroom:=tupleKind_room_in1 (knd:=ac6 X.prog X.w) hu
 have hT:=dd.typeIs
 obtain ⟨o,es,ep,ho,hc,hdt,he,his,hn⟩:=dd
 obtain ⟨w',hw,rw'⟩:=RelO.some_of (v:=v) (o:=(atKey xs k).map (·.2)) (by rw [← l]; exact rel.val k)
 have hes:es.size=xs.length:=size_of_entries he
 refine wpAny_call_entry PySem.F.slot_dict_pop hT PySem.F.entry_dict_pop ?_ (PySem.F.args_dict_pop_2 _ _)
 unfold Builtin.«dict.pop»
 refine wpAny_bind ?_
 unfold Builtin.Dict.keyAndDefault
 refine wpAny_bind (wpAny_notOrdered_dict hT ?_)
 show wpAny _ _ (pure (a,Value.ref b,none)) _ _ s
 refine wpAny_pure ?_
 dsimp only
 rw [if_neg (by simp [keyPart])]
 refine wpAny_bind (wpAny_dictEntries ho hdt ?_)
 refine wpAny_bind (wpAny_pure ?_)
 have hne:es.isEmpty=false:=by
  cases q:es.isEmpty with
  | false=>rfl
  | true =>
    have:xs=[]:=by
     have e1:es.size=0:=by simpa using q
     exact List.length_eq_zero_iff.mp (by omega)
    subst this
    cases hw
 rw [hne,if_neg Bool.false_ne_true]
 refine wpAny_bind ?_
 unfold Builtin.Dict.takeOut
 try with_reducible refine wpAny_holding ?_
 refine wpAny_bind ((tupleKind (ac6 X.prog X.w)).pyHash hroom hkey ?_)
 refine wpAny_bind (wpAny_dictFind_heap (knd:=tupleKind (ac6 X.prog X.w)) (s:={ s with toks:=s.toks + (tupleKind (ac6 X.prog X.w)).draws k }) hroom hkey ho hdt he his hn ?_ ?_)
 · intro hno
   rw [atKey_none_of_get hno] at hw
   cases hw
 · intro j p hj
   have hp:atKey xs k=some p:=atKey_of_get hn hj
   rw [hp] at hw
   have hw':p.2=w':=Option.some.inj hw
   refine wpAny_bind (wpAny_dictEntries (s:={ s with toks:=s.toks + (tupleKind (ac6 X.prog X.w)).draws k }) ho hdt ?_)
   rw [entry_at he j,hj]
   refine wpAny_bind (wpAny_updateDictKeys (hz:=by omega) (s:={ s with toks:=s.toks + (tupleKind (ac6 X.prog X.w)).draws k }) ho hdt (wpAny_pure ?_))
   rw [if_neg (by simp)]
   refine wpAny_bind (wpAny_letGo (wpAny_pure ⟨_,rfl,?_⟩))
   show Q p.2 _
   rw [hw']
   refine h w' _ ?_ rw'
   have hs:=Heap.SameBut.update s.heap a (Obj.mapDictKeys fun es=>es.eraseIdxIfInBounds j)
   refine aJ4 (s:=s) (t':=s.toks + (tupleKind (ac6 X.prog X.w)).draws k) I (by rw [e]; exact True.intro) hs ⟨_,Heap.get?_update_self _ ho (Obj.isFreed_of_dict (Obj.data_mapDictKeys hdt _))⟩ ⟨Nat.le_trans (bl0 kvs k) z,hd,_,(rel.drop k).keeps fun c ys ec=>?_,_,_,ep + 1,Heap.get?_update_self _ ho (Obj.isFreed_of_dict (Obj.data_mapDictKeys hdt _)),hc.mapDictKeys _,Obj.data_mapDictKeys hdt _,?_,?_⟩
   · rw [ab5 (bi7 ec e (fun z=>nomatch z))]
     exact ec
   · rw [← ap1 hn hj]
     obtain ⟨el⟩:=es
     have he':el=xs.map (entryOfKey (tupleKind (ac6 X.prog X.w))):=he
     rw [List.eraseIdxIfInBounds_toArray]
     show el.eraseIdx j=_
     rw [he']
     exact aD7
   · exact (hn.sublist ((List.filter_sublist).map _))
end
theorem aP9 {K:PySem.W.Frag} {H:Hp}:∀ {ds:List PyData} {xs:List V} {m:Nat} {x:V},Dens K H ds xs→xs[m]?=some x→∃ d,ds[m]?=some d∧Den K H d x
 | [],xs,m,x,h,e=>by
   rw [Dens] at h
   subst h
   cases e
 | d :: ds,xs,m,x,h,e=>by
   rw [Dens] at h
   obtain ⟨y,r,rfl,h1,h2⟩:=h
   cases m with
   | zero =>
     cases e
     exact ⟨d,rfl,h1⟩
   | succ m=>exact aP9 (m:=m) h2 e
theorem aP8 {K:PySem.W.Frag} {H:Hp}:∀ {ds:List PyData} {xs:List V},Dens K H ds xs→ds.length=xs.length
 | [],xs,h=>by rw [Dens] at h; subst h; rfl
 | d :: ds,xs,h=>by
   rw [Dens] at h
   obtain ⟨y,r,rfl,h1,h2⟩:=h
   rw [List.length_cons,List.length_cons,aP8 h2]
noncomputable def aW8 (K:PySem.W.Frag):V→List V→Hp→VK→Prop:=fun x vs H Q=>∃ l xs y d ds j,x= .ref l∧vs=[y]∧H l=some (.lst xs)∧Den K H d y∧Dens K H ds xs∧SeqAt.shaped d=true∧(∀ z∈ds,SeqAt.shaped z=true)∧j < ds.length ∧
 (∀ m e,ds[m]?=some e→m≤j→PyData.eqv e d=decide (m=j))∧Q .non (upd H l (.lst (xs.eraseIdx j)))
theorem aY5 {X:Cx} (hu:X.A.units + 66 < cLine):MtM X "list.remove" (aW8 X.K):=by
 intro pins s σ H x vs v us Q I rx rv h
 obtain ⟨l,xs,y,d,ds,j,rfl,rfl,hH,hd,hds,sd,sds,hj,heq,q⟩:=h
 cases rx
 obtain ⟨u,rfl,ru⟩:=rv.one
 obtain ⟨z,its,n,r,hl,e⟩:=I.lstM hH
 have ln:=aP8 hds
 refine call_meets PySem.F.slot_list_remove ⟨_,e,rfl⟩ PySem.F.entry_list_remove (PySem.F.args_list_remove_2 _ _)
  (HR.aD8 l its.toArray n u (fun m=>decide (m=j)) j (by rw [List.size_toArray]; omega) (by simp) (fun m hm=>by simpa using Nat.ne_of_lt hm) (by rw [List.size_toArray]; omega)) ⟨e,fun m hm hmj=>?_,?_⟩
 · have hm':m < its.length:=by simpa using hm
   have hx:xs[m]?=some xs[m]:=List.getElem?_eq_getElem (by omega)
   obtain ⟨dm,e1,e2⟩:=aP9 hds hx
   obtain ⟨um,e3,rm⟩:=r.get hx
   have eu:its.toArray[m]=um:=by
    rw [List.getElem?_eq_getElem hm'] at e3
    simpa using e3
   rw [eu,← heq m dm e1 hmj]
   obtain ⟨as,ra⟩:=den_reads I dm e2 rm
   obtain ⟨bs,rb⟩:=den_reads I d hd ru
   exact SeqAt.eqAt_reads _ _ X.A.in1 s _ _ as bs ra rb (SeqAt.canLay_of_shaped (sds dm (List.mem_of_getElem? e1))) (SeqAt.canLay_of_shaped sd) (SeqAt.room_of_shaped (sds dm (List.mem_of_getElem? e1)) (by show X.A.units + 1 + 64 < cLine; omega))
 · refine ⟨.non,_,I.lset (its':=its.eraseIdx j) hH e ?_ (r.eraseIdx j) ?_,rfl,q⟩
   · show its.toArray.eraseIdxIfInBounds j=(its.eraseIdx j).toArray
     rw [List.eraseIdxIfInBounds_toArray]
   · have:=aE0 xs j
     omega
noncomputable def bm9 (td ty:TE):TE:=fun σ H Q=>td σ H fun x H1=>∃ a,x= .ref a∧IsD H1 a∧ty σ H1 fun y H2=>∃ kvs k b v,H2 a=some (.dT kvs)∧y= .ref b∧H2 b=some (.tup (k.map kV))∧valV kvs k=some v∧Q v (upd H2 a (.dT (aw4 kvs k)))
theorem aN6 {X:Cx} {o e:Expr} {apos cpos:Pos} {td ty:TE} (hu:X.A.units + 1 < cLine) (ho:PE X o td) (he:PE X e ty) (m:M1 X o "pop" apos e cpos):PE X (.Call (.Attribute o "pop" apos) [e] [] cpos) (bm9 td ty):=by
 intro pins s σ H Q I h
 refine wpAny_Call_method m.base m.few m.line PySem.F.plainAttrs_dict PySem.F.slot_dict_pop PySem.F.type_dict_pop (thn (ho pins s σ H _ I h) fun u s1 ⟨x,H1,I1,rx,a,ex,d,q1⟩=>?_)
 subst ex
 obtain rfl:u=Value.ref a:=rx
 obtain ⟨t1,t2,_⟩:=bO1 I1 d
 refine ⟨t1,t2,?_⟩
 rw [m.trees]
 refine Calls.callWith_builtin rfl (Calls.evalArgs_plain (Calls.spliced_cons (thn (he pins s1 σ H1 _ I1 q1) fun iv s2 ⟨y,H2,I2,ry,kvs,k,b,v,ea,ey,eb,l,q2⟩=>Calls.spliced_nil ?_)))
 subst ey
 obtain rfl:iv=Value.ref b:=ry
 exact bP8 hu I2 ea eb l fun w' s3 I3 rw'=>⟨v,_,I3,rw',q2⟩
end L2
namespace Mi
open PySem L2
inductive D where
 | non | bl (b:Bool) | int (i:Int) | str (x:Str) | ty (n:String)
 | lst (xs:List D) | tup (xs:List D) | scr (xs:List D)
 | dK (ks:List Key) (vs:List D) | dT (ks:List (List Key)) (vs:List D)
 | obj (c:Nat) (ns:List Str) (vs:List D)
noncomputable abbrev Env:=List (Option D)
inductive Res (α:Type) where
 | ok (a:α) | exc (c:Nat) | bad
inductive Out (α:Type) where
 | ok (a:α) (ρ:Env) | exc (c:Nat) (ρ:Env) | bad
inductive SO where
 | nx (ρ:Env) | rt (d:D) (ρ:Env) | bk (ρ:Env) | ct (ρ:Env) | exc (c:Nat) (ρ:Env) | bad
@[simp] noncomputable def Res.bind {α β:Type}:Res α→(α→Res β)→Res β
 | .ok a,f=>f a
 | .exc c,_=> .exc c
 | .bad,_=> .bad
@[simp] noncomputable def Res.calm {α:Type}:Res α→Res α
 | .ok a=> .ok a
 | _=> .bad
@[simp] noncomputable def Out.bind {α β:Type}:Out α→(α→Env→Out β)→Out β
 | .ok a ρ,f=>f a ρ
 | .exc c ρ,_=> .exc c ρ
 | .bad,_=> .bad
@[simp] noncomputable def Res.up {α:Type} (ρ:Env):Res α→Out α
 | .ok a=> .ok a ρ
 | .exc c=> .exc c ρ
 | .bad=> .bad
noncomputable def rg {α:Type} (l:List (Option α)) (i:Nat):Option α:=(l[i]?).join
@[simp] noncomputable def vr (i:Nat):Env→Res D:=fun ρ=>match rg ρ i with | some d=> .ok d | none=> .bad
noncomputable def cst (d:D):Env→Res D:=fun _=> .ok d
noncomputable def un (f:D→Res D) (a:Env→Res D):Env→Res D:=fun ρ=>(a ρ).bind f
noncomputable def bn (f:D→D→Res D) (a b:Env→Res D):Env→Res D:=fun ρ=>(a ρ).bind fun x=>(b ρ).bind fun y=>f x y
noncomputable def ac0:Nat:=1000000
noncomputable def iI (g:Int→Int→Int):D→D→Res D | .int i,.int j=> .ok (.int (g i j)) | _,_=> .bad
noncomputable def iB (g:Int→Int→Bool):D→D→Res D | .int i,.int j=> .ok (.bl (g i j)) | _,_=> .bad
noncomputable def iC (C:Int→Int→Bool) (g:Int→Int→Int):D→D→Res D | .int i,.int j=>if C i j=true then .ok (.int (g i j)) else .bad | _,_=> .bad
noncomputable def addI:=iI fun i j=>i + j
noncomputable def subI:=iI fun i j=>i - j
noncomputable def mulI:=iC (fun i j=>decide ((-(2 ^ 64) < i∧i < 2 ^ 64)∨(-(2 ^ 64) < j∧j < 2 ^ 64))) fun i j=>i * j
noncomputable def aA3:=iC (fun _ j=>decide (0 < j∧j < 1073741824)) fun i j=>i / j
noncomputable def modI:=iC (fun _ j=>decide (0 < j)) fun i j=>i % j
noncomputable def powI:=iC (fun i j=>decide (0≤j∧j≤1000000∧i.natAbs < 2 ^ 64)) fun i j=>i ^ j.toNat
noncomputable def minI:=iI fun i j=>if j < i then j else i
noncomputable def maxI:=iI fun i j=>if j > i then j else i
noncomputable def ltI:=iB fun i j=>decide (i < j)
noncomputable def gtI:=iB fun i j=>decide (j < i)
noncomputable def geI:=iB fun i j=>decide (j≤i)
@[simp] theorem addI_int (i j:Int):addI (.int i) (.int j)= .ok (.int (i + j)):=rfl
@[simp] theorem subI_int (i j:Int):subI (.int i) (.int j)= .ok (.int (i - j)):=rfl
@[simp] theorem bi8 (i j:Int):mulI (.int i) (.int j)=if (-(2 ^ 64) < i∧i < 2 ^ 64)∨(-(2 ^ 64) < j∧j < 2 ^ 64) then .ok (.int (i * j)) else .bad:=by simp [mulI,iC]
@[simp] theorem ba8 (i j:Int):aA3 (.int i) (.int j)=if 0 < j∧j < 1073741824 then .ok (.int (i / j)) else .bad:=by simp [aA3,iC]
@[simp] theorem bi9 (i j:Int):modI (.int i) (.int j)=if 0 < j then .ok (.int (i % j)) else .bad:=by simp [modI,iC]
@[simp] theorem bh7 (i j:Int):powI (.int i) (.int j)=if 0≤j∧j≤1000000∧i.natAbs < 2 ^ 64 then .ok (.int (i ^ j.toNat)) else .bad:=by simp [powI,iC]
@[simp] theorem minI_int (i j:Int):minI (.int i) (.int j)= .ok (.int (if j < i then j else i)):=rfl
@[simp] theorem maxI_int (i j:Int):maxI (.int i) (.int j)= .ok (.int (if j > i then j else i)):=rfl
@[simp] theorem ltI_int (i j:Int):ltI (.int i) (.int j)= .ok (.bl (decide (i < j))):=rfl
@[simp] theorem gtI_int (i j:Int):gtI (.int i) (.int j)= .ok (.bl (decide (j < i))):=rfl
@[simp] theorem geI_int (i j:Int):geI (.int i) (.int j)= .ok (.bl (decide (j≤i))):=rfl
noncomputable def notB:D→Res D | .bl b=> .ok (.bl (!b)) | _=> .bad
noncomputable def eqS (neg:Bool):D→D→Res D
 | .int i,.int j=> .ok (.bl (neg.xor (decide (i=j))))
 | .str i,.str j=> .ok (.bl (neg.xor (decide (i=j))))
 | .bl i,.bl j=> .ok (.bl (neg.xor (decide (i=j))))
 | .non,.int _=> .ok (.bl neg)
 | .int _,.non=> .ok (.bl neg)
 | .non,.non=> .ok (.bl (!neg))
 | _,_=> .bad
noncomputable def isNon:D→Bool | .non=>true | _=>false
noncomputable def lenD:D→Res D
 | .lst xs=> .ok (.int xs.length)
 | .tup xs=> .ok (.int xs.length)
 | .scr xs=> .ok (.int xs.length)
 | _=> .bad
noncomputable def atD (xs:List D) (i:Int):Res D:=match atI xs i with | some d=> .ok d | none=> .bad
noncomputable def ixL:D→D→Res D | .lst xs,.int i=>atD xs i | .scr xs,.int i=>atD xs i | _,_=> .bad
noncomputable def aE1:D→Option Key | .int i=>some (.inl i) | .str x=>some (.inr x) | _=>none
noncomputable def af6:List D→Option (List Key)
 | []=>some []
 | d :: r=>match aE1 d,af6 r with | some k,some ks=>some (k :: ks) | _,_=>none
section
variable {κ:Type} [DecidableEq κ]
noncomputable def ae8:List κ→List D→κ→Option D
 | k :: ks,d :: ds,j=>if k=j then some d else ae8 ks ds j
 | _,_,_=>none
noncomputable def hasK (ks:List κ) (j:κ):Bool:=ks.any fun k=>decide (k=j)
noncomputable def putV:List κ→List D→κ→D→List D
 | k :: ks,d :: ds,j,x=>(if k=j then x else d) :: putV ks ds j x
 | _,_,_,_=>[]
noncomputable def al8:List κ→List D→κ→D→List D
 | k :: ks,d :: ds,j,x=>if k=j then x :: ds else d :: al8 ks ds j x
 | _,_,_,_=>[]
end
noncomputable def ba6:D→D→Option (Option D)
 | .dT ks vs,.tup k=>(af6 k).map fun k=>ae8 ks vs k
 | .dK ks vs,k=>(aE1 k).map fun k=>ae8 ks vs k
 | _,_=>none
noncomputable def dinD (neg:Bool) (k d:D):Res D:=match ba6 d k with | some x=> .ok (.bl (neg.xor x.isSome)) | none=> .bad
noncomputable def bb6:D→D→D→Option D
 | .dT ks vs,.tup k,x=>(af6 k).bind fun k=>if ks.length < ac0 then some (if hasK ks k=true then .dT ks (putV ks vs k x) else .dT (ks ++ [k]) (vs ++ [x])) else none
 | .dK ks vs,k,x=>(aE1 k).bind fun k=>if ks.length < ac0 then some (if hasK ks k=true then .dK ks (putV ks vs k x) else .dK (ks ++ [k]) (vs ++ [x])) else none
 | _,_,_=>none
noncomputable def fldD (c:Nat) (f:Str):D→Res D
 | .obj c' ns vs=>if c'=c then (match ae8 ns vs f with | some x=> .ok x | none=> .bad) else .bad
 | _=> .bad
noncomputable def bh6 (c₀:Nat) (f:Str) (x:D):D→Option D
 | .obj c ns vs=>if c=c₀∧ns.length < 900 then some (if hasK ns f=true then .obj c ns (al8 ns vs f x) else .obj c (ns ++ [f]) (vs ++ [x])) else none
 | _=>none
noncomputable def truB:D→Res Bool | .bl b=> .ok b | _=> .bad
noncomputable def andD (a b:Env→Res D):Env→Res D:=fun ρ=>((a ρ).bind truB).bind fun c=>if c=true then b ρ else .ok (.bl false)
noncomputable def esN:Env→Res (List D):=fun _=> .ok []
noncomputable def esC (a:Env→Res D) (r:Env→Res (List D)):Env→Res (List D):=fun ρ=>(a ρ).bind fun x=>(r ρ).bind fun xs=> .ok (x :: xs)
noncomputable def mkL (r:Env→Res (List D)):Env→Res D:=fun ρ=>(r ρ).bind fun xs=>if xs.length≤ac0 then .ok (.lst xs) else .bad
noncomputable def mkT (r:Env→Res (List D)):Env→Res D:=fun ρ=>(r ρ).bind fun xs=>if xs.length≤ac0 then .ok (.tup xs) else .bad
noncomputable def capD (ρ:Env) (ix:List Nat):Env:=ix.map fun j=>rg ρ j
noncomputable def ag2 (ti:Env→Res Bool) (te:Env→Res D) (cap:Env):List D→Res (List D)
 | []=> .ok []
 | d :: r=>(ti (some d :: cap)).calm.bind fun c=>if c=true then (te (some d :: cap)).calm.bind fun x=>(ag2 ti te cap r).bind fun xs=> .ok (x :: xs) else ag2 ti te cap r
noncomputable def comp (src:Env→Res (List D)) (ix:List Nat) (ti:Env→Res Bool) (te:Env→Res D):Env→Res D:=fun ρ=>(src ρ).bind fun xs=>if xs.length < ac0 then (ag2 ti te (capD ρ ix) xs).bind fun ys=> .ok (.lst ys) else .bad
noncomputable def srcL (a:Env→Res D):Env→Res (List D):=fun ρ=>(a ρ).bind fun d=>match d with | .lst xs=> .ok xs | .scr xs=> .ok xs | _=> .bad
noncomputable def rng (lo hi:Int):List D:=(List.range (hi - lo).toNat).map fun i:Nat=>D.int (lo + i)
noncomputable def srcR (a b:Env→Res D):Env→Res (List D):=fun ρ=>(a ρ).bind fun x=>(b ρ).bind fun y=>match x,y with
 | .int i,.int j=>if -(2 ^ 62)≤i∧i < 2 ^ 62∧-(2 ^ 62)≤j∧j < 2 ^ 62 then .ok (rng i j) else .bad
 | _,_=> .bad
noncomputable def aV2 (b:Env→Res D):Env→Res (List D):=srcR (cst (.int 0)) b
noncomputable def seqS (a b:Env→SO):Env→SO:=fun ρ=>match a ρ with | .nx ρ'=>b ρ' | o=>o
noncomputable def ae7:Env→SO:=fun ρ=> .nx ρ
@[simp] noncomputable def ax1 {α:Type}:Out α→(α→Env→SO)→SO
 | .ok a ρ,f=>f a ρ
 | .exc c ρ,_=> .exc c ρ
 | .bad,_=> .bad
noncomputable abbrev MD:=Env→Out D
noncomputable def liP {α:Type} (a:Env→Res α):Env→Out α:=fun ρ=>(a ρ).up ρ
noncomputable def retS (a:MD):Env→SO:=fun ρ=>ax1 (a ρ) fun d ρ'=> .rt d ρ'
noncomputable def ai3 (a:MD):Env→SO:=fun ρ=>ax1 (a ρ) fun _ ρ'=> .nx ρ'
noncomputable def setS (i:Nat) (a:MD):Env→SO:=fun ρ=>ax1 (a ρ) fun d ρ'=> .nx (ρ'.set i (some d))
noncomputable def ifS (c:Env→Out Bool) (a b:Env→SO):Env→SO:=fun ρ=>ax1 (c ρ) fun t ρ'=>if t=true then a ρ' else b ρ'
noncomputable def forS (tgt:D→Env→Option Env) (body:Env→SO):List D→Env→SO
 | [],ρ=> .nx ρ
 | d :: ds,ρ=>match tgt d ρ with
   | none=> .bad
   | some ρ1=>match body ρ1 with
     | .nx ρ'=>forS tgt body ds ρ'
     | .ct ρ'=>forS tgt body ds ρ'
     | .bk ρ'=> .nx ρ'
     | o=>o
noncomputable def aR9 (src:Env→Out (List D)) (tgt:D→Env→Option Env) (body:Env→SO):Env→SO:=fun ρ=>ax1 (src ρ) fun xs ρ'=>forS tgt body xs ρ'
noncomputable def tgN (i:Nat):D→Env→Option Env:=fun d ρ=>some (ρ.set i (some d))
noncomputable def run (k:Nat) (body:Env→SO) (ds:List D):Out D:=match body (ds.map some ++ List.replicate (k - ds.length) none) with
 | .nx ρ=> .ok .non ρ
 | .rt d ρ=> .ok d ρ
 | .exc c ρ=> .exc c ρ
 | _=> .bad
structure Cm where
 f:Nat→Addr
 K:PySem.W.Frag
 tb:Tbs
noncomputable instance:CoeFun Cm fun _=>Nat→Addr:=⟨Cm.f⟩
noncomputable def SqF (K:PySem.W.Frag) (B:Hp) (a:Addr) (xs:List V):Prop:=(∃ o,B a=some (.frz o (.lst xs))) ∨
 ∃ (o:Obj) (its:Array Value) (n:Nat),K.lookup a=some o∧o.cls= .type "list" ∧ o.dict=none∧o.data= .seq its n∧its.size≤sizeLine∧Vals xs its.toList
theorem SqF.mono {K:PySem.W.Frag} {B B':Hp} {a:Addr} {xs:List V} (h:SqF K B a xs) (e:Same B B'):SqF K B' a xs:=by
 rcases h with ⟨o,h⟩ | h
 · exact .inl ⟨o,e _ _ h⟩
 · exact .inr h
theorem SqF.sq {K:PySem.W.Frag} {H:Hp} {a:Addr} {xs:List V} (h:SqF K H a xs):SqL K H a xs:=by
 rcases h with ⟨o,h⟩ | h
 · exact .inl (.inr ⟨o,h⟩)
 · exact .inr h
section
variable (cm:Cm)
mutual
noncomputable def Dn (B:Hp):D→V→Prop
 | .non,v=>v= .non
 | .bl b,v=>v= .bl b
 | .int i,v=>v= .int i
 | .str x,v=>v= .str x
 | .ty n,v=>v= .ty n
 | .lst ds,v=>∃ a xs,v= .ref a∧B a=some (.lst xs)∧Dns B ds xs
 | .scr ds,v=>∃ a xs,v= .ref a∧SqF cm.K B a xs∧Dns B ds xs
 | .tup ds,v=>∃ a xs,v= .ref a∧B a=some (.tup xs)∧Dns B ds xs
 | .dK ks ds,v=>∃ (a:Addr) (kvs:List (Key×V)),v= .ref a∧B a=some (.dK kvs)∧kvs.map (·.1)=ks∧Dns B ds (kvs.map (·.2))
 | .dT ks ds,v=>∃ (a:Addr) (kvs:List (List Key×V)),v= .ref a∧B a=some (.dT kvs)∧kvs.map (·.1)=ks∧Dns B ds (kvs.map (·.2))
 | .obj c ns ds,v=>∃ (a dx:Addr) (fs:List (Str×V)),v= .ref a∧B a=some (.ins (cm c) dx fs)∧fs.map (·.1)=ns∧Dns B ds (fs.map (·.2))
noncomputable def Dns (B:Hp):List D→List V→Prop
 | [],xs=>xs=[]
 | d :: ds,xs=>∃ x r,xs=x :: r∧Dn B d x∧Dns B ds r
end
inductive Sh where
 | fz | ct (s:Sh) | ob (fs:List (Str×Sh))
mutual
noncomputable def Ow (B H:Hp):D→Sh→V→List Addr→Prop
 | d,.fz,v,A=>Dn cm B d v∧A=[]
 | .lst ds,.ct s,v,A=>∃ a xs A',v= .ref a∧H a=some (.lst xs)∧A=a :: A'∧Ows B H ds s xs A'
 | .dK ks ds,.ct s,v,A=>∃ (a:Addr) (kvs:List (Key×V)) (A':List Addr),v= .ref a∧H a=some (.dK kvs)∧kvs.map (·.1)=ks∧A=a :: A'∧Ows B H ds s (kvs.map (·.2)) A'
 | .dT ks ds,.ct s,v,A=>∃ (a:Addr) (kvs:List (List Key×V)) (A':List Addr),v= .ref a∧H a=some (.dT kvs)∧kvs.map (·.1)=ks∧A=a :: A'∧Ows B H ds s (kvs.map (·.2)) A'
 | .obj c ns ds,.ob fs,v,A=>∃ (a dx:Addr) (xs:List (Str×V)) (A':List Addr),v= .ref a∧H a=some (.ins (cm c) dx xs)∧xs.map (·.1)=ns∧A=a :: A'∧Owf B H ds ns fs (xs.map (·.2)) A'
 | _,_,_,_=>False
noncomputable def Ows (B H:Hp):List D→Sh→List V→List Addr→Prop
 | [],_,xs,A=>xs=[]∧A=[]
 | d :: ds,s,xs,A=>∃ x r A1 A2,xs=x :: r∧A=A1 ++ A2∧Ow B H d s x A1∧Ows B H ds s r A2
noncomputable def Owf (B H:Hp):List D→List Str→List (Str×Sh)→List V→List Addr→Prop
 | [],_,_,xs,A=>xs=[]∧A=[]
 | d :: ds,ns,fs,xs,A=>∃ n ns' x r A1 A2,ns=n :: ns'∧xs=x :: r∧A=A1 ++ A2∧Ow B H d ((fs.lookup n).getD .fz) x A1∧Owf B H ds ns' fs r A2
end
inductive Md where
 | F | R | O (s:Sh)
noncomputable def LoV (B U H:Hp) (m:Md) (d:D) (v:V) (A:List Addr):Prop :=
 match m with
 | .F=>Dn cm B d v∧A=[]
 | .R=>Dn cm U d v∧A=[]
 | .O sh=>Ow cm B H d sh v A
noncomputable def Lo (B U H:Hp) (m:Md) (o:Option D) (s:Option V) (A:List Addr):Prop :=
 match o with
 | none=>A=[]
 | some d=>∃ v,s=some v∧LoV cm B U H m d v A
structure Rel (ms:List Md) (B U:Hp) (As:Nat→List Addr) (σ:St) (H:Hp) (ρ:Env):Prop where
 bu:Same B U
 uh:Same U H
 nd:∀ i,(As i).Nodup
 dj:∀ i j a,i≠j→a∈As i→a∉As j
 un:∀ i a,a∈As i→U a=none
 lo:∀ i,Lo cm B U H (ms.getD i .F) (rg ρ i) (rg σ i) (As i)
 len:ρ.length=σ.length
 tb:∀ p∈cm.tb,∃ l,B p.1=some (.tbl l)∧p.2∈l
end
noncomputable def az6 (o:HO):Prop:=∃ xs,o= .tup xs
structure Ex (B U B' U':Hp):Prop where
 b:Same B B'
 u:Same U U'
 nb:∀ a o,B' a=some o→B a=some o∨U a=none∨az6 o
theorem Ex.refl (B U:Hp):Ex B U B U:=⟨Same.refl _,Same.refl _,fun _ _ h=> .inl h⟩
theorem Ex.trans {B U B1 U1 B2 U2:Hp} (a:Ex B U B1 U1) (b:Ex B1 U1 B2 U2):Ex B U B2 U2 :=
 ⟨a.b.trans b.b,a.u.trans b.u,fun c o h=>by
  rcases b.nb c o h with h | h | h
  · exact a.nb c o h
  · exact .inr (.inl (a.u.free h))
  · exact .inr (.inr h)⟩
section
variable {cm:Cm}
mutual
theorem Dn.mono {B B':Hp} (e:Same B B'):∀ {d:D} {v:V},Dn cm B d v→Dn cm B' d v
 | .non,_,h=>by rw [Dn] at h ⊢; exact h
 | .bl _,_,h=>by rw [Dn] at h ⊢; exact h
 | .int _,_,h=>by rw [Dn] at h ⊢; exact h
 | .str _,_,h=>by rw [Dn] at h ⊢; exact h
 | .ty _,_,h=>by rw [Dn] at h ⊢; exact h
 | .lst ds,_,h=>by
   rw [Dn] at h ⊢
   obtain ⟨a,xs,r,h1,h2⟩:=h
   exact ⟨a,xs,r,e _ _ h1,Dns.mono e h2⟩
 | .scr ds,_,h=>by
   rw [Dn] at h ⊢
   obtain ⟨a,xs,r,h1,h2⟩:=h
   exact ⟨a,xs,r,h1.mono e,Dns.mono e h2⟩
 | .tup ds,_,h=>by
   rw [Dn] at h ⊢
   obtain ⟨a,xs,r,h1,h2⟩:=h
   exact ⟨a,xs,r,e _ _ h1,Dns.mono e h2⟩
 | .dK ks ds,_,h=>by
   rw [Dn] at h ⊢
   obtain ⟨a,xs,r,h1,h2,h3⟩:=h
   exact ⟨a,xs,r,e _ _ h1,h2,Dns.mono e h3⟩
 | .dT ks ds,_,h=>by
   rw [Dn] at h ⊢
   obtain ⟨a,xs,r,h1,h2,h3⟩:=h
   exact ⟨a,xs,r,e _ _ h1,h2,Dns.mono e h3⟩
 | .obj c ns ds,_,h=>by
   rw [Dn] at h ⊢
   obtain ⟨a,dx,xs,r,h1,h2,h3⟩:=h
   exact ⟨a,dx,xs,r,e _ _ h1,h2,Dns.mono e h3⟩
theorem Dns.mono {B B':Hp} (e:Same B B'):∀ {ds:List D} {xs:List V},Dns cm B ds xs→Dns cm B' ds xs
 | [],_,h=>by rw [Dns] at h ⊢; exact h
 | d :: ds,_,h=>by
   rw [Dns] at h ⊢
   obtain ⟨x,r,h0,h1,h2⟩:=h
   exact ⟨x,r,h0,Dn.mono e h1,Dns.mono e h2⟩
end
theorem Dns.len {B:Hp}:∀ {ds:List D} {xs:List V},Dns cm B ds xs→ds.length=xs.length
 | [],_,h=>by rw [Dns] at h; subst h; rfl
 | d :: ds,_,h=>by
   rw [Dns] at h
   obtain ⟨x,r,rfl,_,h2⟩:=h
   rw [List.length_cons,List.length_cons,Dns.len h2]
theorem Dns.get {B:Hp}:∀ {ds:List D} {xs:List V} {i:Nat} {d:D},Dns cm B ds xs→ds[i]?=some d→∃ x,xs[i]?=some x∧Dn cm B d x
 | [],_,_,_,_,e=>by cases e
 | d :: ds,_,i,d',h,e=>by
   rw [Dns] at h
   obtain ⟨x,r,rfl,h1,h2⟩:=h
   cases i with
   | zero=>cases e; exact ⟨x,rfl,h1⟩
   | succ i=>exact Dns.get (i:=i) h2 (by simpa using e)
theorem Dns.geti {B:Hp}:∀ {ds:List D} {xs:List V} {i:Nat} {x:V},Dns cm B ds xs→xs[i]?=some x→∃ d,ds[i]?=some d∧Dn cm B d x
 | [],_,_,_,h,e=>by rw [Dns] at h; subst h; cases e
 | d :: ds,_,i,x',h,e=>by
   rw [Dns] at h
   obtain ⟨x,r,rfl,h1,h2⟩:=h
   cases i with
   | zero=>cases e; exact ⟨d,rfl,h1⟩
   | succ i=>exact Dns.geti (i:=i) h2 (by simpa using e)
theorem Dns.append {B:Hp}:∀ {ds es:List D} {xs ys:List V},Dns cm B ds xs→Dns cm B es ys→Dns cm B (ds ++ es) (xs ++ ys)
 | [],_,_,_,h,k=>by rw [Dns] at h; subst h; exact k
 | d :: ds,_,_,_,h,k=>by
   rw [Dns] at h
   obtain ⟨x,r,rfl,h1,h2⟩:=h
   rw [List.cons_append,List.cons_append,Dns]
   exact ⟨x,_,rfl,h1,Dns.append h2 k⟩
theorem Dns.one {B:Hp} {d:D} {v:V} (h:Dn cm B d v):Dns cm B [d] [v]:=by
 rw [Dns]
 exact ⟨v,[],rfl,h,by rw [Dns]⟩
theorem Dns.drop {B:Hp}:∀ {ds:List D} {xs:List V} (n:Nat),Dns cm B ds xs→Dns cm B (ds.drop n) (xs.drop n)
 | [],_,n,h=>by rw [Dns] at h; subst h; rw [List.drop_nil,List.drop_nil,Dns]
 | d :: ds,_,n,h=>by
   cases n with
   | zero=>exact h
   | succ n =>
     rw [Dns] at h
     obtain ⟨x,r,rfl,h1,h2⟩:=h
     exact Dns.drop n h2
theorem Dns.take {B:Hp}:∀ {ds:List D} {xs:List V} (n:Nat),Dns cm B ds xs→Dns cm B (ds.take n) (xs.take n)
 | [],_,n,h=>by rw [Dns] at h; subst h; rw [List.take_nil,List.take_nil,Dns]
 | d :: ds,_,n,h=>by
   cases n with
   | zero=>rw [List.take_zero,List.take_zero,Dns]
   | succ n =>
     rw [Dns] at h
     obtain ⟨x,r,rfl,h1,h2⟩:=h
     rw [List.take_succ_cons,List.take_succ_cons,Dns]
     exact ⟨x,_,rfl,h1,Dns.take n h2⟩
theorem Dns.erase {B:Hp}:∀ {ds:List D} {xs:List V} (n:Nat),Dns cm B ds xs→Dns cm B (ds.eraseIdx n) (xs.eraseIdx n)
 | [],_,n,h=>by rw [Dns] at h; subst h; rw [List.eraseIdx_nil,List.eraseIdx_nil,Dns]
 | d :: ds,_,n,h=>by
   rw [Dns] at h
   obtain ⟨x,r,rfl,h1,h2⟩:=h
   cases n with
   | zero=>exact h2
   | succ n =>
     rw [List.eraseIdx_cons_succ,List.eraseIdx_cons_succ,Dns]
     exact ⟨x,_,rfl,h1,Dns.erase n h2⟩
theorem Dns.set {B:Hp} {d':D} {v:V} (hd:Dn cm B d' v):∀ {ds:List D} {xs:List V} (n:Nat),Dns cm B ds xs→Dns cm B (ds.set n d') (xs.set n v)
 | [],_,n,h=>by rw [Dns] at h; subst h; rw [List.set_nil,List.set_nil,Dns]
 | d :: ds,_,n,h=>by
   rw [Dns] at h
   obtain ⟨x,r,rfl,h1,h2⟩:=h
   cases n with
   | zero=>rw [List.set_cons_zero,List.set_cons_zero,Dns]; exact ⟨v,r,rfl,hd,h2⟩
   | succ n =>
     rw [List.set_cons_succ,List.set_cons_succ,Dns]
     exact ⟨x,_,rfl,h1,Dns.set hd n h2⟩
mutual
theorem Ow.mono {B B' H H':Hp} (e:Same B B'):∀ {d:D} {s:Sh} {v:V} {A:List Addr},(∀ a∈A,H' a=H a)→Ow cm B H d s v A→Ow cm B' H' d s v A
 | d,.fz,v,A,k,h=>by
   rw [Ow] at h ⊢
   exact ⟨h.1.mono e,h.2⟩
 | .lst ds,.ct s,v,A,k,h=>by
   rw [Ow] at h ⊢
   obtain ⟨a,xs,A',r,h1,h2,h3⟩:=h
   subst h2
   exact ⟨a,xs,A',r,by rw [k a List.mem_cons_self]; exact h1,rfl,Ows.mono e (fun b hb=>k b (List.mem_cons_of_mem _ hb)) h3⟩
 | .dK ks ds,.ct s,v,A,k,h=>by
   rw [Ow] at h ⊢
   obtain ⟨a,xs,A',r,h1,h2,h3,h4⟩:=h
   subst h3
   exact ⟨a,xs,A',r,by rw [k a List.mem_cons_self]; exact h1,h2,rfl,Ows.mono e (fun b hb=>k b (List.mem_cons_of_mem _ hb)) h4⟩
 | .dT ks ds,.ct s,v,A,k,h=>by
   rw [Ow] at h ⊢
   obtain ⟨a,xs,A',r,h1,h2,h3,h4⟩:=h
   subst h3
   exact ⟨a,xs,A',r,by rw [k a List.mem_cons_self]; exact h1,h2,rfl,Ows.mono e (fun b hb=>k b (List.mem_cons_of_mem _ hb)) h4⟩
 | .obj c ns ds,.ob fs,v,A,k,h=>by
   rw [Ow] at h ⊢
   obtain ⟨a,dx,xs,A',r,h1,h2,h3,h4⟩:=h
   subst h3
   exact ⟨a,dx,xs,A',r,by rw [k a List.mem_cons_self]; exact h1,h2,rfl,Owf.mono e (fun b hb=>k b (List.mem_cons_of_mem _ hb)) h4⟩
 | .non,.ct _,_,_,_,h=>by simp [Ow] at h
 | .bl _,.ct _,_,_,_,h=>by simp [Ow] at h
 | .int _,.ct _,_,_,_,h=>by simp [Ow] at h
 | .str _,.ct _,_,_,_,h=>by simp [Ow] at h
 | .ty _,.ct _,_,_,_,h=>by simp [Ow] at h
 | .tup _,.ct _,_,_,_,h=>by simp [Ow] at h
 | .scr _,.ct _,_,_,_,h=>by simp [Ow] at h
 | .obj _ _ _,.ct _,_,_,_,h=>by simp [Ow] at h
 | .non,.ob _,_,_,_,h=>by simp [Ow] at h
 | .bl _,.ob _,_,_,_,h=>by simp [Ow] at h
 | .int _,.ob _,_,_,_,h=>by simp [Ow] at h
 | .str _,.ob _,_,_,_,h=>by simp [Ow] at h
 | .ty _,.ob _,_,_,_,h=>by simp [Ow] at h
 | .tup _,.ob _,_,_,_,h=>by simp [Ow] at h
 | .scr _,.ob _,_,_,_,h=>by simp [Ow] at h
 | .lst _,.ob _,_,_,_,h=>by simp [Ow] at h
 | .dK _ _,.ob _,_,_,_,h=>by simp [Ow] at h
 | .dT _ _,.ob _,_,_,_,h=>by simp [Ow] at h
theorem Ows.mono {B B' H H':Hp} (e:Same B B'):∀ {ds:List D} {s:Sh} {xs:List V} {A:List Addr},(∀ a∈A,H' a=H a)→Ows cm B H ds s xs A→Ows cm B' H' ds s xs A
 | [],_,_,_,_,h=>by rw [Ows] at h ⊢; exact h
 | d :: ds,s,xs,A,k,h=>by
   rw [Ows] at h ⊢
   obtain ⟨x,r,A1,A2,h0,h1,h2,h3⟩:=h
   subst h1
   exact ⟨x,r,A1,A2,h0,rfl,Ow.mono e (fun b hb=>k b (List.mem_append_left _ hb)) h2,Ows.mono e (fun b hb=>k b (List.mem_append_right _ hb)) h3⟩
theorem Owf.mono {B B' H H':Hp} (e:Same B B'):∀ {ds:List D} {ns:List Str} {fs:List (Str×Sh)} {xs:List V} {A:List Addr},(∀ a∈A,H' a=H a)→Owf cm B H ds ns fs xs A→Owf cm B' H' ds ns fs xs A
 | [],_,_,_,_,_,h=>by rw [Owf] at h ⊢; exact h
 | d :: ds,ns,fs,xs,A,k,h=>by
   rw [Owf] at h ⊢
   obtain ⟨n,ns',x,r,A1,A2,hn,h0,h1,h2,h3⟩:=h
   subst h1
   exact ⟨n,ns',x,r,A1,A2,hn,h0,rfl,Ow.mono e (fun b hb=>k b (List.mem_append_left _ hb)) h2,Owf.mono e (fun b hb=>k b (List.mem_append_right _ hb)) h3⟩
end
end
section
variable {cm:Cm}
mutual
theorem Ow.dn {B H G:Hp} (e:Same B G):∀ {d:D} {s:Sh} {v:V} {A:List Addr},(∀ a∈A,∀ o,H a=some o→G a=some o)→Ow cm B H d s v A→Dn cm G d v
 | d,.fz,v,A,k,h=>by
   rw [Ow] at h
   exact h.1.mono e
 | .lst ds,.ct s,v,A,k,h=>by
   rw [Ow] at h
   obtain ⟨a,xs,A',r,h1,h2,h3⟩:=h
   subst h2
   rw [Dn]
   exact ⟨a,xs,r,k a List.mem_cons_self _ h1,Ows.dn e (fun b hb=>k b (List.mem_cons_of_mem _ hb)) h3⟩
 | .dK ks ds,.ct s,v,A,k,h=>by
   rw [Ow] at h
   obtain ⟨a,xs,A',r,h1,h2,h3,h4⟩:=h
   subst h3
   rw [Dn]
   exact ⟨a,xs,r,k a List.mem_cons_self _ h1,h2,Ows.dn e (fun b hb=>k b (List.mem_cons_of_mem _ hb)) h4⟩
 | .dT ks ds,.ct s,v,A,k,h=>by
   rw [Ow] at h
   obtain ⟨a,xs,A',r,h1,h2,h3,h4⟩:=h
   subst h3
   rw [Dn]
   exact ⟨a,xs,r,k a List.mem_cons_self _ h1,h2,Ows.dn e (fun b hb=>k b (List.mem_cons_of_mem _ hb)) h4⟩
 | .obj c ns ds,.ob fs,v,A,k,h=>by
   rw [Ow] at h
   obtain ⟨a,dx,xs,A',r,h1,h2,h3,h4⟩:=h
   subst h3
   rw [Dn]
   exact ⟨a,dx,xs,r,k a List.mem_cons_self _ h1,h2,Owf.dn e (fun b hb=>k b (List.mem_cons_of_mem _ hb)) h4⟩
 | .non,.ct _,_,_,_,h=>by simp [Ow] at h
 | .bl _,.ct _,_,_,_,h=>by simp [Ow] at h
 | .int _,.ct _,_,_,_,h=>by simp [Ow] at h
 | .str _,.ct _,_,_,_,h=>by simp [Ow] at h
 | .ty _,.ct _,_,_,_,h=>by simp [Ow] at h
 | .tup _,.ct _,_,_,_,h=>by simp [Ow] at h
 | .scr _,.ct _,_,_,_,h=>by simp [Ow] at h
 | .obj _ _ _,.ct _,_,_,_,h=>by simp [Ow] at h
 | .non,.ob _,_,_,_,h=>by simp [Ow] at h
 | .bl _,.ob _,_,_,_,h=>by simp [Ow] at h
 | .int _,.ob _,_,_,_,h=>by simp [Ow] at h
 | .str _,.ob _,_,_,_,h=>by simp [Ow] at h
 | .ty _,.ob _,_,_,_,h=>by simp [Ow] at h
 | .tup _,.ob _,_,_,_,h=>by simp [Ow] at h
 | .scr _,.ob _,_,_,_,h=>by simp [Ow] at h
 | .lst _,.ob _,_,_,_,h=>by simp [Ow] at h
 | .dK _ _,.ob _,_,_,_,h=>by simp [Ow] at h
 | .dT _ _,.ob _,_,_,_,h=>by simp [Ow] at h
theorem Ows.dn {B H G:Hp} (e:Same B G):∀ {ds:List D} {s:Sh} {xs:List V} {A:List Addr},(∀ a∈A,∀ o,H a=some o→G a=some o)→Ows cm B H ds s xs A→Dns cm G ds xs
 | [],_,_,_,_,h=>by rw [Ows] at h; rw [Dns]; exact h.1
 | d :: ds,s,xs,A,k,h=>by
   rw [Ows] at h
   obtain ⟨x,r,A1,A2,h0,h1,h2,h3⟩:=h
   subst h1
   rw [Dns]
   exact ⟨x,r,h0,Ow.dn e (fun b hb=>k b (List.mem_append_left _ hb)) h2,Ows.dn e (fun b hb=>k b (List.mem_append_right _ hb)) h3⟩
theorem Owf.dn {B H G:Hp} (e:Same B G):∀ {ds:List D} {ns:List Str} {fs:List (Str×Sh)} {xs:List V} {A:List Addr},(∀ a∈A,∀ o,H a=some o→G a=some o)→Owf cm B H ds ns fs xs A→Dns cm G ds xs
 | [],_,_,_,_,_,h=>by rw [Owf] at h; rw [Dns]; exact h.1
 | d :: ds,ns,fs,xs,A,k,h=>by
   rw [Owf] at h
   obtain ⟨n,ns',x,r,A1,A2,hn,h0,h1,h2,h3⟩:=h
   subst h1
   rw [Dns]
   exact ⟨x,r,h0,Ow.dn e (fun b hb=>k b (List.mem_append_left _ hb)) h2,Owf.dn e (fun b hb=>k b (List.mem_append_right _ hb)) h3⟩
end
mutual
theorem Ow.at2 {B H:Hp}:∀ {d:D} {s:Sh} {v:V} {A:List Addr} {a:Addr},Ow cm B H d s v A→a∈A→∃ o,H a=some o∧¬ az6 o
 | d,.fz,v,A,a,h,m=>by
   rw [Ow] at h
   rw [h.2] at m
   cases m
 | .lst ds,.ct s,v,A,a,h,m=>by
   rw [Ow] at h
   obtain ⟨b,xs,A',r,h1,h2,h3⟩:=h
   subst h2
   rcases List.mem_cons.mp m with e | m
   · refine ⟨_,by rw [e]; exact h1,?_⟩
     rintro ⟨_,z⟩
     cases z
   · exact Ows.at2 h3 m
 | .dK ks ds,.ct s,v,A,a,h,m=>by
   rw [Ow] at h
   obtain ⟨b,xs,A',r,h1,h2,h3,h4⟩:=h
   subst h3
   rcases List.mem_cons.mp m with e | m
   · refine ⟨_,by rw [e]; exact h1,?_⟩
     rintro ⟨_,z⟩
     cases z
   · exact Ows.at2 h4 m
 | .dT ks ds,.ct s,v,A,a,h,m=>by
   rw [Ow] at h
   obtain ⟨b,xs,A',r,h1,h2,h3,h4⟩:=h
   subst h3
   rcases List.mem_cons.mp m with e | m
   · refine ⟨_,by rw [e]; exact h1,?_⟩
     rintro ⟨_,z⟩
     cases z
   · exact Ows.at2 h4 m
 | .obj c ns ds,.ob fs,v,A,a,h,m=>by
   rw [Ow] at h
   obtain ⟨b,dx,xs,A',r,h1,h2,h3,h4⟩:=h
   subst h3
   rcases List.mem_cons.mp m with e | m
   · refine ⟨_,by rw [e]; exact h1,?_⟩
     rintro ⟨_,z⟩
     cases z
   · exact Owf.at2 h4 m
 | .non,.ct _,_,_,_,h,_=>by simp [Ow] at h
 | .bl _,.ct _,_,_,_,h,_=>by simp [Ow] at h
 | .int _,.ct _,_,_,_,h,_=>by simp [Ow] at h
 | .str _,.ct _,_,_,_,h,_=>by simp [Ow] at h
 | .ty _,.ct _,_,_,_,h,_=>by simp [Ow] at h
 | .tup _,.ct _,_,_,_,h,_=>by simp [Ow] at h
 | .scr _,.ct _,_,_,_,h,_=>by simp [Ow] at h
 | .obj _ _ _,.ct _,_,_,_,h,_=>by simp [Ow] at h
 | .non,.ob _,_,_,_,h,_=>by simp [Ow] at h
 | .bl _,.ob _,_,_,_,h,_=>by simp [Ow] at h
 | .int _,.ob _,_,_,_,h,_=>by simp [Ow] at h
 | .str _,.ob _,_,_,_,h,_=>by simp [Ow] at h
 | .ty _,.ob _,_,_,_,h,_=>by simp [Ow] at h
 | .tup _,.ob _,_,_,_,h,_=>by simp [Ow] at h
 | .scr _,.ob _,_,_,_,h,_=>by simp [Ow] at h
 | .lst _,.ob _,_,_,_,h,_=>by simp [Ow] at h
 | .dK _ _,.ob _,_,_,_,h,_=>by simp [Ow] at h
 | .dT _ _,.ob _,_,_,_,h,_=>by simp [Ow] at h
theorem Ows.at2 {B H:Hp}:∀ {ds:List D} {s:Sh} {xs:List V} {A:List Addr} {a:Addr},Ows cm B H ds s xs A→a∈A→∃ o,H a=some o∧¬ az6 o
 | [],_,_,_,_,h,m=>by rw [Ows] at h; rw [h.2] at m; cases m
 | d :: ds,s,xs,A,a,h,m=>by
   rw [Ows] at h
   obtain ⟨x,r,A1,A2,h0,h1,h2,h3⟩:=h
   subst h1
   rcases List.mem_append.mp m with m | m
   · exact Ow.at2 h2 m
   · exact Ows.at2 h3 m
theorem Owf.at2 {B H:Hp}:∀ {ds:List D} {ns:List Str} {fs:List (Str×Sh)} {xs:List V} {A:List Addr} {a:Addr},Owf cm B H ds ns fs xs A→a∈A→∃ o,H a=some o∧¬ az6 o
 | [],_,_,_,_,_,h,m=>by rw [Owf] at h; rw [h.2] at m; cases m
 | d :: ds,ns,fs,xs,A,a,h,m=>by
   rw [Owf] at h
   obtain ⟨n,ns',x,r,A1,A2,hn,h0,h1,h2,h3⟩:=h
   subst h1
   rcases List.mem_append.mp m with m | m
   · exact Ow.at2 h2 m
   · exact Owf.at2 h3 m
end
theorem Ow.at {B H:Hp} {d:D} {s:Sh} {v:V} {A:List Addr} {a:Addr} (h:Ow cm B H d s v A) (m:a∈A):∃ o,H a=some o:=let ⟨o,e,_⟩:=Ow.at2 h m; ⟨o,e⟩
theorem Owf.at {B H:Hp} {ds:List D} {ns:List Str} {fs:List (Str×Sh)} {xs:List V} {A:List Addr} {a:Addr} (h:Owf cm B H ds ns fs xs A) (m:a∈A):∃ o,H a=some o:=let ⟨o,e,_⟩:=Owf.at2 h m; ⟨o,e⟩
theorem Ows.of {B H:Hp}:∀ {ds:List D} {xs:List V},Dns cm B ds xs→Ows cm B H ds .fz xs []
 | [],_,h=>by rw [Dns] at h; rw [Ows]; exact ⟨h,rfl⟩
 | d :: ds,_,h=>by
   rw [Dns] at h
   obtain ⟨x,r,h0,h1,h2⟩:=h
   rw [Ows]
   exact ⟨x,r,[],[],h0,rfl,by rw [Ow]; exact ⟨h1,rfl⟩,Ows.of h2⟩
theorem Ows.fz {B H:Hp}:∀ {ds:List D} {xs:List V} {A:List Addr},Ows cm B H ds .fz xs A→Dns cm B ds xs∧A=[]
 | [],_,_,h=>by rw [Ows] at h; rw [Dns]; exact h
 | d :: ds,_,_,h=>by
   rw [Ows] at h
   obtain ⟨x,r,A1,A2,h0,h1,h2,h3⟩:=h
   rw [Ow] at h2
   obtain ⟨h4,h5⟩:=Ows.fz h3
   rw [Dns]
   exact ⟨⟨x,r,h0,h2.1,h4⟩,by rw [h1,h2.2,h5]; rfl⟩
theorem Lo.at2 {B U H:Hp} {m:Md} {o:Option D} {s:Option V} {A:List Addr} {a:Addr} (h:Lo cm B U H m o s A) (ha:a∈A):∃ o,H a=some o∧¬ az6 o:=by
 unfold Lo at h
 cases o with
 | none=>simp only at h; rw [h] at ha; cases ha
 | some d =>
   obtain ⟨v,_,h⟩:=h
   cases m with
   | F=>have h:Dn cm B d v∧A=[]:=h; rw [h.2] at ha; cases ha
   | R=>have h:Dn cm U d v∧A=[]:=h; rw [h.2] at ha; cases ha
   | O sh=>exact Ow.at2 h ha
theorem Lo.at {B U H:Hp} {m:Md} {o:Option D} {s:Option V} {A:List Addr} {a:Addr} (h:Lo cm B U H m o s A) (ha:a∈A):∃ o,H a=some o:=let ⟨o,e,_⟩:=h.at2 ha; ⟨o,e⟩
theorem Lo.mono {B U H B' U' H':Hp} {m:Md} {o:Option D} {s:Option V} {A:List Addr} (h:Lo cm B U H m o s A) (e:Same B B') (f:Same U U') (k:∀ a∈A,H' a=H a):Lo cm B' U' H' m o s A:=by
 unfold Lo at h ⊢
 cases o with
 | none=>exact h
 | some d =>
   obtain ⟨v,hv,h⟩:=h
   refine ⟨v,hv,?_⟩
   cases m with
   | F=>exact ⟨h.1.mono e,h.2⟩
   | R=>exact ⟨h.1.mono f,h.2⟩
   | O sh=>exact Ow.mono e k h
variable {ms:List Md} {B U H B' U' H':Hp} {As:Nat→List Addr} {σ:St} {ρ:Env}
theorem Rel.at (R:Rel cm ms B U As σ H ρ) {i:Nat} {a:Addr} (h:a∈As i):∃ o,H a=some o:=(R.lo i).at h
theorem Rel.nt (R:Rel cm ms B U As σ H ρ) {i:Nat} {a:Addr} {o:HO} (h:a∈As i) (e:H a=some o) (z:az6 o):False:=by
 obtain ⟨o',e',n⟩:=(R.lo i).at2 h
 rw [e] at e'; cases e'; exact n z
theorem Rel.fresh (R:Rel cm ms B U As σ H ρ) {p:Addr} (h:H p=none) (i:Nat):p∉As i:=fun m=>by
 obtain ⟨o,e⟩:=R.at m
 rw [h] at e
 cases e
theorem Rel.grow (R:Rel cm ms B U As σ H ρ) (e:Same B B') (f:Same U U') (g:Same H H') (bu:Same B' U') (uh:Same U' H') (un:∀ i a,a∈As i→U' a=none):Rel cm ms B' U' As σ H' ρ :=
 ⟨bu,uh,R.nd,R.dj,un,fun i=>(R.lo i).mono e f fun a ha=>by
  obtain ⟨o,q⟩:=R.at ha
  rw [q,g a o q],R.len,fun p hp=>let ⟨l,h1,h2⟩:=R.tb p hp; ⟨l,e _ _ h1,h2⟩⟩
theorem Rel.bh (R:Rel cm ms B U As σ H ρ):Same B H:=R.bu.trans R.uh
theorem Rel.new (R:Rel cm ms B U As σ H ρ) {p:Addr} {o:HO} (h:H p=none):Rel cm ms B U As σ (upd H p o) ρ :=
 R.grow (Same.refl _) (Same.refl _) (Gd.ae0 h) R.bu (R.uh.trans (Gd.ae0 h)) R.un
theorem aC6 {G G':Hp} {p:Addr} {o:HO} (e:Same G G'):Same (upd G p o) (upd G' p o):=fun b u q=>by
 by_cases z:b=p
 · subst z; rw [ac1] at q ⊢; exact q
 · rw [ab5 z] at q ⊢; exact e b u q
theorem Rel.newB (R:Rel cm ms B U As σ H ρ) {p:Addr} {o:HO} (h:H p=none):Rel cm ms (upd B p o) (upd U p o) As σ (upd H p o) ρ :=
 R.grow (Gd.ae0 (R.bh.free h)) (Gd.ae0 (R.uh.free h)) (Gd.ae0 h) (aC6 R.bu) (aC6 R.uh) fun i a ha=>by
  rw [ab5 (fun z:a=p=>R.fresh h i (z ▸ ha))]
  exact R.un i a ha
theorem Ex.newB (R:Rel cm ms B U As σ H ρ) {p:Addr} {o:HO} (h:H p=none):Ex B U (upd B p o) (upd U p o) :=
 ⟨Gd.ae0 (R.bh.free h),Gd.ae0 (R.uh.free h),fun a u q=>by
  by_cases z:a=p
  · subst z; exact .inr (.inl (R.uh.free h))
  · rw [ab5 z] at q; exact .inl q⟩
noncomputable def frz (B H:Hp) (A:List Addr):Hp:=fun a=>if a∈A then H a else B a
theorem ak3 {A:List Addr} (e:Same B H):Same B (frz B H A):=fun a o q=>by
 unfold frz
 split
 · exact e a o q
 · exact q
theorem bD4 {A:List Addr} (e:Same B H):Same (frz B H A) H:=fun a o q=>by
 unfold frz at q
 split at q
 · exact q
 · exact e a o q
theorem bk6 {A:List Addr} (e:Same B U):Same (frz B H A) (frz U H A):=fun a o q=>by
 unfold frz at q ⊢
 split
 · rename_i z; rw [if_pos z] at q; exact q
 · rename_i z; rw [if_neg z] at q; exact e a o q
end
noncomputable abbrev KT (α β:Type):=α→β→Hp→Hp→Hp→List Addr→Prop
inductive Kd where
 | F | U | X
noncomputable def hp:Kd→Hp→Hp→Hp→Hp
 | .F,B,_,_=>B
 | .U,_,U,_=>U
 | .X,_,_,H=>H
structure Gw (B U H B' U' H':Hp):Prop extends Ex B U B' U' where
 h:Same H H'
 fr:∀ a o,U' a=some o→U a=some o∨H a=none∨az6 o
theorem Gw.refl (B U H:Hp):Gw B U H B U H:=⟨Ex.refl _ _,Same.refl _,fun _ _ h=> .inl h⟩
theorem Gw.trans {B U H B1 U1 H1 B2 U2 H2:Hp} (a:Gw B U H B1 U1 H1) (b:Gw B1 U1 H1 B2 U2 H2):Gw B U H B2 U2 H2 :=
 ⟨a.toEx.trans b.toEx,a.h.trans b.h,fun c o h=>by
  rcases b.fr c o h with h | h | h
  · exact a.fr c o h
  · exact .inr (.inl (a.h.free h))
  · exact .inr (.inr h)⟩
structure New (N:List Addr) (H U:Hp) (As:Nat→List Addr):Prop where
 nd:N.Nodup
 fr:∀ a∈N,H a=none
 un:∀ a∈N,U a=none
theorem New.nil {H U:Hp} {As:Nat→List Addr}:New [] H U As:=⟨List.nodup_nil,fun _ h=>(nomatch h),fun _ h=>(nomatch h)⟩
section
variable (cm:Cm)
noncomputable def Cn (G H:Hp):D→V→Prop
 | .lst ds,v=>∃ a xs,v= .ref a∧H a=some (.lst xs)∧Dns cm G ds xs
 | .scr ds,v=>∃ a xs,v= .ref a∧SqF cm.K H a xs∧Dns cm G ds xs
 | .tup ds,v=>∃ a xs,v= .ref a∧H a=some (.tup xs)∧Dns cm G ds xs
 | .dK ks ds,v=>∃ (a:Addr) (kvs:List (Key×V)),v= .ref a∧H a=some (.dK kvs)∧kvs.map (·.1)=ks∧Dns cm G ds (kvs.map (·.2))
 | .dT ks ds,v=>∃ (a:Addr) (kvs:List (List Key×V)),v= .ref a∧H a=some (.dT kvs)∧kvs.map (·.1)=ks∧Dns cm G ds (kvs.map (·.2))
 | .obj c ns ds,v=>∃ (a dx:Addr) (fs:List (Str×V)),v= .ref a∧H a=some (.ins (cm c) dx fs)∧fs.map (·.1)=ns∧Dns cm G ds (fs.map (·.2))
 | d,v=>Dn cm G d v
noncomputable def KR (k:Kd):KT D V:=fun d v B U H _=>Dn cm (hp k B U H) d v
noncomputable def KC (k:Kd):KT D V:=fun d v B U H _=>Cn cm (hp k B U H) H d v
noncomputable def KO (s:Sh):KT D V:=fun d v B U H N=>Ow cm B H d s v N
noncomputable def KB:KT Bool Bool:=fun b c _ _ _ _=>b=c
noncomputable def KL (k:Kd):KT (List D) (List V):=fun d v B U H _=>Dns cm (hp k B U H) d v
noncomputable def Po {α β:Type} (K:KT α β) (E:XK) (ms:List Md) (B U:Hp) (As:Nat→List Addr) (σ:St) (H:Hp) (ρ:Env) (r:Res α) (Q:β→Hp→Prop):Prop :=
 match r with
 | .ok d=>∀ v B' U' H' N,Rel cm ms B' U' As σ H' ρ→Gw B U H B' U' H'→New N H U' As→K d v B' U' H' N→Q v H'
 | .exc c=>∀ B' U' H',Rel cm ms B' U' As σ H' ρ→Gw B U H B' U' H'→∀ oa,E (.ref (cm c)) oa H'
 | .bad=>False
noncomputable def PJ {α β:Type} (K:KT α β) (E:XK) (ms:List Md) (t:St→Hp→(β→Hp→Prop)→Prop) (m:Env→Res α):Prop :=
 ∀ B U As σ H ρ Q,Rel cm ms B U As σ H ρ→Po cm K E ms B U As σ H ρ (m ρ) Q→t σ H Q
end
section
variable {cm:Cm} {E:XK} {ms:List Md} {B U H:Hp} {As:Nat→List Addr} {σ:St} {ρ:Env}
theorem New.up {N:List Addr} {H1:Hp} (h:New N H1 U As) (s:Same H H1):New N H U As:=⟨h.nd,fun a ha=>s.free (h.fr a ha),h.un⟩
theorem Po.at {α β:Type} {K:KT α β} {B1 U1 H1:Hp} {r:Res α} {Q:β→Hp→Prop} (P:Po cm K E ms B U As σ H ρ r Q) (e:Gw B U H B1 U1 H1):Po cm K E ms B1 U1 As σ H1 ρ r Q:=by
 cases r with
 | ok d=>exact fun v B' U' H' N R' e' n' k=>P v B' U' H' N R' (e.trans e') (n'.up e.h) k
 | exc c=>exact fun B' U' H' R' e'=>P B' U' H' R' (e.trans e')
 | bad=>exact P
theorem PJ.bnd {α β γ δ:Type} {Ka:KT α β} {Kc:KT γ δ} {ta:St→Hp→(β→Hp→Prop)→Prop} {ma:Env→Res α} (ha:PJ cm Ka E ms ta ma) (R:Rel cm ms B U As σ H ρ) {k:α→Res γ} {Q:δ→Hp→Prop}
 (P:Po cm Kc E ms B U As σ H ρ ((ma ρ).bind k) Q) {body:β→Hp→Prop}
 (h:∀ x v B1 U1 H1 N,ma ρ= .ok x→Rel cm ms B1 U1 As σ H1 ρ→Gw B U H B1 U1 H1→New N H U1 As→Ka x v B1 U1 H1 N→Po cm Kc E ms B1 U1 As σ H1 ρ (k x) Q→body v H1):ta σ H body:=by
 refine ha B U As σ H ρ body R ?_
 cases e:ma ρ with
 | ok x =>
   rw [e] at P
   exact fun v B1 U1 H1 N R1 e1 n1 k1=>h x v B1 U1 H1 N e R1 e1 n1 k1 (Po.at (r:=k x) P e1)
 | exc c=>rw [e] at P; exact P
 | bad=>rw [e] at P; exact P
theorem aI7 {k:Kd} {B1 U1 H1:Hp} (e:Gw B U H B1 U1 H1):Same (hp k B U H) (hp k B1 U1 H1):=by
 cases k with
 | F=>exact e.b
 | U=>exact e.u
 | X=>exact e.h
theorem Cn.mono {G G' H H':Hp} (e:Same G G') (f:Same H H') {d:D} {v:V} (h:Cn cm G H d v):Cn cm G' H' d v:=by
 cases d with
 | lst ds=>obtain ⟨a,xs,r,h1,h2⟩:=h; exact ⟨a,xs,r,f _ _ h1,h2.mono e⟩
 | scr ds=>obtain ⟨a,xs,r,h1,h2⟩:=h; exact ⟨a,xs,r,h1.mono f,h2.mono e⟩
 | tup ds=>obtain ⟨a,xs,r,h1,h2⟩:=h; exact ⟨a,xs,r,f _ _ h1,h2.mono e⟩
 | dK ks ds=>obtain ⟨a,xs,r,h1,h2,h3⟩:=h; exact ⟨a,xs,r,f _ _ h1,h2,h3.mono e⟩
 | dT ks ds=>obtain ⟨a,xs,r,h1,h2,h3⟩:=h; exact ⟨a,xs,r,f _ _ h1,h2,h3.mono e⟩
 | obj c ns ds=>obtain ⟨a,dx,xs,r,h1,h2,h3⟩:=h; exact ⟨a,dx,xs,r,f _ _ h1,h2,h3.mono e⟩
 | non=>exact Dn.mono e h
 | bl _=>exact Dn.mono e h
 | int _=>exact Dn.mono e h
 | str _=>exact Dn.mono e h
 | ty _=>exact Dn.mono e h
theorem Dn.cn {G H:Hp} (f:Same G H) {d:D} {v:V} (h:Dn cm G d v):Cn cm G H d v:=by
 cases d with
 | lst ds=>rw [Dn] at h; obtain ⟨a,xs,r,h1,h2⟩:=h; exact ⟨a,xs,r,f _ _ h1,h2⟩
 | scr ds=>rw [Dn] at h; obtain ⟨a,xs,r,h1,h2⟩:=h; exact ⟨a,xs,r,h1.mono f,h2⟩
 | tup ds=>rw [Dn] at h; obtain ⟨a,xs,r,h1,h2⟩:=h; exact ⟨a,xs,r,f _ _ h1,h2⟩
 | dK ks ds=>rw [Dn] at h; obtain ⟨a,xs,r,h1,h2,h3⟩:=h; exact ⟨a,xs,r,f _ _ h1,h2,h3⟩
 | dT ks ds=>rw [Dn] at h; obtain ⟨a,xs,r,h1,h2,h3⟩:=h; exact ⟨a,xs,r,f _ _ h1,h2,h3⟩
 | obj c ns ds=>rw [Dn] at h; obtain ⟨a,dx,xs,r,h1,h2,h3⟩:=h; exact ⟨a,dx,xs,r,f _ _ h1,h2,h3⟩
 | non=>exact h
 | bl _=>exact h
 | int _=>exact h
 | str _=>exact h
 | ty _=>exact h
theorem Cn.dn {H:Hp} {d:D} {v:V} (h:Cn cm H H d v):Dn cm H d v:=by
 cases d with
 | lst ds=>obtain ⟨a,xs,r,h1,h2⟩:=h; rw [Dn]; exact ⟨a,xs,r,h1,h2⟩
 | scr ds=>obtain ⟨a,xs,r,h1,h2⟩:=h; rw [Dn]; exact ⟨a,xs,r,h1,h2⟩
 | tup ds=>obtain ⟨a,xs,r,h1,h2⟩:=h; rw [Dn]; exact ⟨a,xs,r,h1,h2⟩
 | dK ks ds=>obtain ⟨a,xs,r,h1,h2,h3⟩:=h; rw [Dn]; exact ⟨a,xs,r,h1,h2,h3⟩
 | dT ks ds=>obtain ⟨a,xs,r,h1,h2,h3⟩:=h; rw [Dn]; exact ⟨a,xs,r,h1,h2,h3⟩
 | obj c ns ds=>obtain ⟨a,dx,xs,r,h1,h2,h3⟩:=h; rw [Dn]; exact ⟨a,dx,xs,r,h1,h2,h3⟩
 | non=>exact h
 | bl _=>exact h
 | int _=>exact h
 | str _=>exact h
 | ty _=>exact h
theorem Rel.hp (R:Rel cm ms B U As σ H ρ) (k:Kd):Same (hp k B U H) H:=by
 cases k with
 | F=>exact R.bh
 | U=>exact R.uh
 | X=>exact Same.refl _
theorem PJ.imp {α β:Type} {K K':KT α β} {t:St→Hp→(β→Hp→Prop)→Prop} {m:Env→Res α} (h:PJ cm K E ms t m) (f:∀ B U As σ H ρ d v N,Rel cm ms B U As σ H ρ→K d v B U H N→K' d v B U H N):PJ cm K' E ms t m:=by
 intro B U As σ H ρ Q R P
 refine h B U As σ H ρ Q R ?_
 cases e:m ρ with
 | ok d=>rw [e] at P; exact fun v B' U' H' N R' e' n' k=>P v B' U' H' N R' e' n' (f _ _ _ _ _ _ _ _ _ R' k)
 | exc c=>rw [e] at P; exact P
 | bad=>rw [e] at P; exact P
section
variable {t:TE} {m:Env→Res D} {k:Kd} {s:Sh}
theorem fu (h:PJ cm (KR cm .F) E ms t m):PJ cm (KR cm .U) E ms t m:=h.imp fun _ _ _ _ _ _ _ _ _ R q=>Dn.mono R.bu q
theorem ux (h:PJ cm (KR cm .U) E ms t m):PJ cm (KR cm .X) E ms t m:=h.imp fun _ _ _ _ _ _ _ _ _ R q=>Dn.mono R.uh q
theorem fx (h:PJ cm (KR cm .F) E ms t m):PJ cm (KR cm .X) E ms t m:=ux (fu h)
theorem rc (h:PJ cm (KR cm k) E ms t m):PJ cm (KC cm k) E ms t m:=h.imp fun _ _ _ _ _ _ _ _ _ R q=>Dn.cn (R.hp k) q
theorem cx (h:PJ cm (KC cm k) E ms t m):PJ cm (KR cm .X) E ms t m:=h.imp fun _ _ _ _ _ _ _ _ _ R q=>Cn.dn (Cn.mono (R.hp k) (Same.refl _) q)
theorem Rel.freeze {A:List Addr} (R:Rel cm ms B U As σ H ρ) (h:∀ a∈A,U a=none∧∀ i,a∉As i):Rel cm ms (Mi.frz B H A) (Mi.frz U H A) As σ H ρ∧Ex B U (Mi.frz B H A) (Mi.frz U H A):=by
 refine ⟨R.grow (ak3 R.bh) (ak3 R.uh) (Same.refl _) (bk6 R.bu) (bD4 R.uh) fun i a ha=>?_,ak3 R.bh,ak3 R.uh,fun a o q=>?_⟩
 · unfold Mi.frz
   split
   · rename_i z; exact absurd ha ((h a z).2 i)
   · exact R.un i a ha
 · unfold Mi.frz at q
   split at q
   · rename_i z; exact .inr (.inl (h a z).1)
   · exact .inl q
theorem Rel.apart (R:Rel cm ms B U As σ H ρ) {N:List Addr} {U':Hp} (n:New N H U' As):∀ a∈N,∀ i,a∉As i:=fun a ha i=>R.fresh (n.fr a ha) i
theorem oF (h:PJ cm (KO cm s) E ms t m):PJ cm (KR cm .F) E ms t m:=by
 intro B U As σ H ρ Q R P
 refine h B U As σ H ρ Q R ?_
 cases e:m ρ with
 | ok d =>
   rw [e] at P
   intro v B' U' H' N R' e' n' ow
   obtain ⟨R2,e2⟩:=R'.freeze fun a ha=>⟨n'.un a ha,R.apart n' a ha⟩
   refine P v _ _ H' [] R2 ⟨e'.toEx.trans e2,e'.h,fun a o q=>?_⟩ New.nil (Ow.dn (ak3 R'.bh) (fun a ha o q=>?_) ow)
   · unfold Mi.frz at q
     split at q
     · rename_i z; exact .inr (.inl (n'.fr a z))
     · exact e'.fr a o q
   · unfold Mi.frz
     rw [if_pos ha]
     exact q
 | exc c=>rw [e] at P; exact P
 | bad=>rw [e] at P; exact P
theorem oc (h:PJ cm (KO cm (.ct .fz)) E ms t m):PJ cm (KC cm .F) E ms t m:=rc (oF h)
end
theorem ai8 {α:Type} {l:List (Option α)} {i:Nat} {x:α} (h:rg l i=some x):l[i]?=some (some x):=by
 unfold rg at h
 cases e:l[i]? with
 | none=>rw [e] at h; cases h
 | some o=>rw [e] at h; exact congrArg some h
theorem aN8 {K:KT D V} {i:Nat} (f:∀ (B U:Hp) (A:List Addr) (H:Hp) (d:D) (v:V) (s:Option V),Same B U→Same U H→Lo cm B U H (ms.getD i .F) (some d) s A→s=some v→K d v B U H []):PJ cm K E ms (tVar i) (vr i):=by
 intro B U As σ H ρ Q R P
 unfold vr at P
 have l:=R.lo i
 cases e:rg ρ i with
 | none=>rw [e] at P; exact P.elim
 | some d =>
   rw [e] at P l
   obtain ⟨v,hv,q⟩:=id l
   exact ⟨v,ai8 hv,P v B U H [] R (Gw.refl _ _ _) New.nil (f B U _ H d v _ R.bu R.uh l hv)⟩
theorem ao9 {B U H:Hp} {m:Md} {d:D} {v:V} {s:Option V} {A:List Addr} (l:Lo cm B U H m (some d) s A) (hs:s=some v):LoV cm B U H m d v A:=by
 obtain ⟨w,hw,q⟩:=l
 rw [hs] at hw
 cases hw
 exact q
theorem xF {i:Nat} (hm:ms.getD i .F= .F):PJ cm (KR cm .F) E ms (tVar i) (vr i):=aN8 fun B U As H d v s _ _ l hs=>by
 rw [hm] at l
 exact (ao9 l hs).1
theorem xR {i:Nat} (hm:ms.getD i .F= .R):PJ cm (KR cm .U) E ms (tVar i) (vr i):=aN8 fun B U As H d v s _ _ l hs=>by
 rw [hm] at l
 exact (ao9 l hs).1
theorem xO {i:Nat} {sh:Sh} (hm:ms.getD i .F= .O sh):PJ cm (KR cm .X) E ms (tVar i) (vr i):=aN8 fun B U As H d v s b u l hs=>by
 rw [hm] at l
 exact Ow.dn (b.trans u) (fun _ _ _ q=>q) (ao9 l hs)
theorem Ow.cn {B H:Hp} {d:D} {v:V} {A:List Addr} (f:Same B H) (h:Ow cm B H d (.ct .fz) v A):Cn cm B H d v:=by
 cases d with
 | lst ds=>rw [Ow] at h; obtain ⟨a,xs,A',r,h1,h2,h3⟩:=h; exact ⟨a,xs,r,h1,(Ows.fz h3).1⟩
 | dK ks ds=>rw [Ow] at h; obtain ⟨a,xs,A',r,h1,h2,h3,h4⟩:=h; exact ⟨a,xs,r,h1,h2,(Ows.fz h4).1⟩
 | dT ks ds=>rw [Ow] at h; obtain ⟨a,xs,A',r,h1,h2,h3,h4⟩:=h; exact ⟨a,xs,r,h1,h2,(Ows.fz h4).1⟩
 | scr ds=>simp [Ow] at h
 | tup ds=>simp [Ow] at h
 | obj c ns ds=>simp [Ow] at h
 | non=>simp [Ow] at h
 | bl _=>simp [Ow] at h
 | int _=>simp [Ow] at h
 | str _=>simp [Ow] at h
 | ty _=>simp [Ow] at h
theorem xC {i:Nat} (hm:ms.getD i .F= .O (.ct .fz)):PJ cm (KC cm .F) E ms (tVar i) (vr i):=aN8 fun B U As H d v s b u l hs=>by
 rw [hm] at l
 exact Ow.cn (b.trans u) (ao9 l hs)
theorem p_c {d:D} {v:V} (h:∀ G,Dn cm G d v):PJ cm (KR cm .F) E ms (tC v) (cst d):=fun B U As σ H ρ Q R P=>P v B U H [] R (Gw.refl _ _ _) New.nil (h _)
theorem pI {i:Int}:PJ cm (KR cm .F) E ms (tC (.int i)) (cst (.int i)):=p_c fun _=>by rw [Dn]
theorem pB {b:Bool}:PJ cm (KR cm .F) E ms (tC (.bl b)) (cst (.bl b)):=p_c fun _=>by rw [Dn]
theorem pS {x:Str}:PJ cm (KR cm .F) E ms (tC (.str x)) (cst (.str x)):=p_c fun _=>by rw [Dn]
theorem pT {n:String}:PJ cm (KR cm .F) E ms (tC (.ty n)) (cst (.ty n)):=p_c fun _=>by rw [Dn]
end
noncomputable def tst (m:Env→Res D):Env→Res Bool:=fun ρ=>(m ρ).bind truB
noncomputable def andT (a b:Env→Res Bool):Env→Res Bool:=fun ρ=>(a ρ).bind fun c=>if c=true then b ρ else .ok false
noncomputable def orT (a b:Env→Res Bool):Env→Res Bool:=fun ρ=>(a ρ).bind fun c=>if c=true then .ok true else b ρ
noncomputable def notT (a:Env→Res Bool):Env→Res Bool:=fun ρ=>(a ρ).bind fun c=> .ok (!c)
section
variable {cm:Cm} {E:XK} {ms:List Md}
noncomputable def S2 (cm:Cm) (r:R2) (f:D→D→Res D):Prop:=∀ H x y v u,Dn cm H x v→Dn cm H y u→match f x y with
 | .ok d=>∃ w,(∀ G,Dn cm G d w)∧∀ Q:VK,Q w H→r v u H Q
 | .exc _=>False
 | .bad=>True
noncomputable def S1 (cm:Cm) (r:V→Hp→VK→Prop) (f:D→Res D):Prop:=∀ H x v,Dn cm H x v→match f x with
 | .ok d=>∃ w,(∀ G,Dn cm G d w)∧∀ Q:VK,Q w H→r v H Q
 | .exc _=>False
 | .bad=>True
section
variable {r:R2} {r1:V→Hp→VK→Prop} {rb:List V→Hp→VK→Prop} {f:D→D→Res D} {f1:D→Res D} {ta tb:TE} {ma mb:Env→Res D}
theorem p_op (h:S2 cm r f) (ha:PJ cm (KR cm .X) E ms ta ma) (hb:PJ cm (KR cm .X) E ms tb mb):PJ cm (KR cm .F) E ms (tOp r ta tb) (bn f ma mb):=by
 intro B U As σ H ρ Q R P
 refine ha.bnd R P fun x v B1 U1 H1 N1 _ R1 e1 n1 d1 P1=>hb.bnd R1 P1 fun y u B2 U2 H2 N2 _ R2 e2 n2 d2 P2=>?_
 have q:=h H2 x y v u (Dn.mono e2.h d1) d2
 cases e:f x y with
 | ok d =>
   rw [e] at q P2
   obtain ⟨w,hw,k⟩:=q
   exact k Q (P2 w B2 U2 H2 [] R2 (Gw.refl _ _ _) New.nil (hw _))
 | exc c=>rw [e] at q; exact q.elim
 | bad=>rw [e] at P2; exact P2.elim
theorem p_un (h:S1 cm r1 f1) (ha:PJ cm (KR cm .X) E ms ta ma):PJ cm (KR cm .F) E ms (tUn r1 ta) (un f1 ma):=by
 intro B U As σ H ρ Q R P
 refine ha.bnd R P fun x v B1 U1 H1 N1 _ R1 e1 n1 d1 P1=>?_
 have q:=h H1 x v d1
 cases e:f1 x with
 | ok d =>
   rw [e] at q P1
   obtain ⟨w,hw,k⟩:=q
   exact k Q (P1 w B1 U1 H1 [] R1 (Gw.refl _ _ _) New.nil (hw _))
 | exc c=>rw [e] at q; exact q.elim
 | bad=>rw [e] at P1; exact P1.elim
theorem bz4 (h:S1 cm (fun v H Q=>rb [v] H Q) f1) (ha:PJ cm (KR cm .X) E ms ta ma):PJ cm (KR cm .F) E ms (tCB rb (ag4 ta tNil)) (un f1 ma):=p_un h ha
theorem ak6 (h:S2 cm (fun v u H Q=>rb [v,u] H Q) f) (ha:PJ cm (KR cm .X) E ms ta ma) (hb:PJ cm (KR cm .X) E ms tb mb):PJ cm (KR cm .F) E ms (tCB rb (ag4 ta (ag4 tb tNil))) (bn f ma mb):=p_op h ha hb
end
theorem S2.imp {r r':R2} {f:D→D→Res D} (h:S2 cm r f) (k:∀ x y H Q,r x y H Q→r' x y H Q):S2 cm r' f:=by
 intro H x y v u hx hy
 have q:=h H x y v u hx hy
 cases e:f x y with
 | ok d =>
   rw [e] at q
   obtain ⟨w,hw,q⟩:=q
   exact ⟨w,hw,fun Q z=>k _ _ _ _ (q Q z)⟩
 | exc c=>rw [e] at q; exact q
 | bad=>trivial
theorem sI0 {g:Int→Int→Int}:S2 cm (rI0 fun i j=> .int (g i j)) (iI g):=by
 intro H x y v u hx hy
 cases x with
 | int i =>
   cases y with
   | int j =>
     rw [Dn] at hx; rw [Dn] at hy
     subst hx hy
     exact ⟨.int (g i j),fun _=>by rw [Dn],fun Q q=>⟨i,j,rfl,rfl,q⟩⟩
   | _=>trivial
 | _=>trivial
theorem sB0 {g:Int→Int→Bool}:S2 cm (rI0 fun i j=> .bl (g i j)) (iB g):=by
 intro H x y v u hx hy
 cases x with
 | int i =>
   cases y with
   | int j =>
     rw [Dn] at hx; rw [Dn] at hy
     subst hx hy
     exact ⟨.bl (g i j),fun _=>by rw [Dn],fun Q q=>⟨i,j,rfl,rfl,q⟩⟩
   | _=>trivial
 | _=>trivial
theorem sIc {C:Int→Int→Prop} {c:Int→Int→Bool} {g:Int→Int→Int} (hc:∀ i j,c i j=true→C i j):S2 cm (rI C fun i j=> .int (g i j)) (iC c g):=by
 intro H x y v u hx hy
 cases x with
 | int i =>
   cases y with
   | int j =>
     rw [Dn] at hx; rw [Dn] at hy
     subst hx hy
     unfold iC
     dsimp only
     by_cases z:c i j=true
     · rw [if_pos z]
       exact ⟨.int (g i j),fun _=>by rw [Dn],fun Q q=>⟨i,j,rfl,rfl,hc i j z,q⟩⟩
     · rw [if_neg z]
       trivial
   | _=>trivial
 | _=>trivial
theorem aH8:S2 cm (rI0 fun i j=> .int (i + j)) addI:=sI0
theorem bh1:S2 cm (rI0 fun i j=> .int (i - j)) subI:=sI0
theorem s_lt:S2 cm (rI0 fun i j=> .bl (decide (i < j))) ltI:=sB0
theorem s_gt:S2 cm (rI0 fun i j=> .bl (decide (j < i))) gtI:=sB0
theorem s_ge:S2 cm (rI0 fun i j=> .bl (decide (j≤i))) geI:=sB0
theorem s_mul:S2 cm (rI CMul fun i j=> .int (i * j)) mulI:=sIc fun _ _ h=>by simpa [CMul] using h
theorem aC7:S2 cm (rI CDiv fun i j=> .int (i / j)) aA3:=sIc fun _ _ h=>by simpa [CDiv] using h
theorem ap5:S2 cm (rI (fun _ j=>0 < j) fun i j=> .int (i % j)) modI:=sIc fun _ _ h=>of_decide_eq_true h
theorem bH9:S2 cm (rI CPow fun i j=> .int (i ^ j.toNat)) powI:=sIc fun _ _ h=>by simpa [CPow] using h
theorem aR1:S2 cm (fun v u H Q=>∃ i j,[v,u]=[.int i,.int j]∧Q (.int (if j < i then j else i)) H) minI:=(sI0 (g:=fun i j=>if j < i then j else i)).imp fun x y H Q ⟨i,j,h1,h2,h3⟩=>⟨i,j,by rw [h1,h2],h3⟩
theorem aR2:S2 cm (fun v u H Q=>∃ i j,[v,u]=[.int i,.int j]∧Q (.int (if j > i then j else i)) H) maxI:=(sI0 (g:=fun i j=>if j > i then j else i)).imp fun x y H Q ⟨i,j,h1,h2,h3⟩=>⟨i,j,by rw [h1,h2],h3⟩
theorem bI3 (neg:Bool):S2 cm (fun x y H Q=>scal x y=true∧Q (.bl (neg.xor (decide (x=y)))) H) (eqS neg):=by
 intro H x y v u hx hy
 cases x with
 | int i =>
   cases y with
   | int j =>
     rw [Dn] at hx; rw [Dn] at hy
     subst hx hy
     exact ⟨_,fun _=>by rw [Dn],fun Q q=>⟨rfl,by simpa using q⟩⟩
   | non =>
     rw [Dn] at hx; rw [Dn] at hy
     subst hx hy
     exact ⟨_,fun _=>by rw [Dn],fun Q q=>⟨rfl,by simpa using q⟩⟩
   | _=>trivial
 | str i =>
   cases y with
   | str j =>
     rw [Dn] at hx; rw [Dn] at hy
     subst hx hy
     exact ⟨_,fun _=>by rw [Dn],fun Q q=>⟨rfl,by simpa using q⟩⟩
   | _=>trivial
 | bl i =>
   cases y with
   | bl j =>
     rw [Dn] at hx; rw [Dn] at hy
     subst hx hy
     exact ⟨_,fun _=>by rw [Dn],fun Q q=>⟨rfl,by simpa using q⟩⟩
   | _=>trivial
 | non =>
   cases y with
   | int j =>
     rw [Dn] at hx; rw [Dn] at hy
     subst hx hy
     exact ⟨_,fun _=>by rw [Dn],fun Q q=>⟨rfl,by simpa using q⟩⟩
   | non =>
     rw [Dn] at hx; rw [Dn] at hy
     subst hx hy
     exact ⟨_,fun _=>by rw [Dn],fun Q q=>⟨rfl,by simpa using q⟩⟩
   | _=>trivial
 | _=>cases y <;> trivial
theorem s_eq:S2 cm rEq (eqS false):=(bI3 false).imp fun x y H Q h=>⟨h.1,by simpa using h.2⟩
theorem s_ne:S2 cm rNe (eqS true):=(bI3 true).imp fun x y H Q h=>⟨h.1,by simpa using h.2⟩
theorem Dn.non {G:Hp} {d:D} {v:V} (h:Dn cm G d v):decide (v= .non)=isNon d:=by
 cases d with
 | non=>rw [Dn] at h; subst h; rfl
 | bl _=>rw [Dn] at h; subst h; rfl
 | int _=>rw [Dn] at h; subst h; rfl
 | str _=>rw [Dn] at h; subst h; rfl
 | ty _=>rw [Dn] at h; subst h; rfl
 | lst _=>rw [Dn] at h; obtain ⟨a,xs,e,_⟩:=h; subst e; rfl
 | scr _=>rw [Dn] at h; obtain ⟨a,xs,e,_⟩:=h; subst e; rfl
 | tup _=>rw [Dn] at h; obtain ⟨a,xs,e,_⟩:=h; subst e; rfl
 | dK _ _=>rw [Dn] at h; obtain ⟨a,xs,e,_⟩:=h; subst e; rfl
 | dT _ _=>rw [Dn] at h; obtain ⟨a,xs,e,_⟩:=h; subst e; rfl
 | obj _ _ _=>rw [Dn] at h; obtain ⟨a,dx,xs,e,_⟩:=h; subst e; rfl
theorem by3:S1 cm (fun v H Q=>∃ p ys,[v]=[.ref p]∧(SqL cm.K H p ys∨SqT cm.K H p ys)∧Q (.int ys.length) H) lenD:=by
 intro H x v hx
 cases x with
 | lst ds =>
   rw [Dn] at hx
   obtain ⟨a,xs,rfl,h1,h2⟩:=hx
   exact ⟨.int ds.length,fun _=>by rw [Dn],fun Q q=>⟨a,xs,rfl,.inl (SqL.of h1),by rw [← h2.len]; exact q⟩⟩
 | scr ds =>
   rw [Dn] at hx
   obtain ⟨a,xs,rfl,h1,h2⟩:=hx
   exact ⟨.int ds.length,fun _=>by rw [Dn],fun Q q=>⟨a,xs,rfl,.inl h1.sq,by rw [← h2.len]; exact q⟩⟩
 | tup ds =>
   rw [Dn] at hx
   obtain ⟨a,xs,rfl,h1,h2⟩:=hx
   exact ⟨.int ds.length,fun _=>by rw [Dn],fun Q q=>⟨a,xs,rfl,.inr (SqT.of h1),by rw [← h2.len]; exact q⟩⟩
 | _=>trivial
theorem p_not {ta:TE} {ma:Env→Res D} (ha:PJ cm (KR cm .X) E ms ta ma):PJ cm (KR cm .F) E ms (bG7 ta) (un notB ma):=by
 intro B U As σ H ρ Q R P
 refine ha.bnd R P fun x v B1 U1 H1 N1 _ R1 e1 n1 d1 P1=>?_
 cases x with
 | bl b =>
   have d1:Dn cm H1 (.bl b) v:=d1
   rw [Dn] at d1
   exact ⟨b,d1,P1 _ B1 U1 H1 [] R1 (Gw.refl _ _ _) New.nil (show Dn cm _ (.bl (!b)) _ by rw [Dn])⟩
 | _=>exact P1.elim
theorem bJ1 {t:TE} {m:Env→Res D} (h:PJ cm (KR cm .X) E ms t m):PJ cm KB E ms (fun σ H Q=>t σ H fun x H1=>∃ c,x= .bl c∧Q c H1) (tst m):=by
 intro B U As σ H ρ Q R P
 refine h.bnd R P fun x v B1 U1 H1 N1 _ R1 e1 n1 d1 P1=>?_
 cases x with
 | bl b =>
   have d1:Dn cm H1 (.bl b) v:=d1
   rw [Dn] at d1
   exact ⟨b,d1,P1 _ B1 U1 H1 [] R1 (Gw.refl _ _ _) New.nil rfl⟩
 | _=>exact P1.elim
theorem pt_B {t:TE} {m:Env→Res D} (h:PJ cm (KR cm .X) E ms t m):PJ cm KB E ms (tB t) (tst m):=bJ1 h
theorem pt_T {t:TE} {m:Env→Res D} (h:PJ cm (KR cm .X) E ms t m):PJ cm KB E ms (br4 t) (tst m):=bJ1 h
theorem aN3 {t u:TT} {m n:Env→Res Bool} (h:PJ cm KB E ms t m) (k:PJ cm KB E ms u n):PJ cm KB E ms (tAnd t u) (andT m n):=by
 intro B U As σ H ρ Q R P
 refine h.bnd R P fun x v B1 U1 H1 N1 _ R1 e1 n1 d1 P1=>?_
 cases d1
 cases x with
 | true=>exact k B1 U1 As σ H1 ρ Q R1 P1
 | false=>exact P1 _ B1 U1 H1 [] R1 (Gw.refl _ _ _) New.nil rfl
theorem aD1 {t u:TT} {m n:Env→Res Bool} (h:PJ cm KB E ms t m) (k:PJ cm KB E ms u n):PJ cm KB E ms (tOr t u) (orT m n):=by
 intro B U As σ H ρ Q R P
 refine h.bnd R P fun x v B1 U1 H1 N1 _ R1 e1 n1 d1 P1=>?_
 cases d1
 cases x with
 | false=>exact k B1 U1 As σ H1 ρ Q R1 P1
 | true=>exact P1 _ B1 U1 H1 [] R1 (Gw.refl _ _ _) New.nil rfl
theorem ah3 {t:TT} {m:Env→Res Bool} (h:PJ cm KB E ms t m):PJ cm KB E ms (tNot t) (notT m):=by
 intro B U As σ H ρ Q R P
 refine h.bnd R P fun x v B1 U1 H1 N1 _ R1 e1 n1 d1 P1=>?_
 cases d1
 exact P1 _ B1 U1 H1 [] R1 (Gw.refl _ _ _) New.nil rfl
theorem bi1 {k:Kd} {ta tb:TE} {ma mb:Env→Res D} (ha:PJ cm (KR cm .X) E ms ta ma) (hb:PJ cm (KR cm k) E ms tb mb):PJ cm (KR cm k) E ms (bG9 ta tb) (andD ma mb):=by
 intro B U As σ H ρ Q R P
 unfold andD at P
 have P':Po cm (KR cm k) E ms B U As σ H ρ ((ma ρ).bind fun x=>(truB x).bind fun c=>if c=true then mb ρ else .ok (.bl false)) Q:=by
  cases e:ma ρ <;> (rw [e] at P; exact P)
 refine ha.bnd R P' fun x v B1 U1 H1 N1 _ R1 e1 n1 d1 P1=>?_
 cases x with
 | bl b =>
   have d1:Dn cm H1 (.bl b) v:=d1
   rw [Dn] at d1
   refine ⟨b,d1,?_⟩
   cases b with
   | true=>exact hb B1 U1 As σ H1 ρ Q R1 P1
   | false=>exact P1 _ B1 U1 H1 [] R1 (Gw.refl _ _ _) New.nil (show Dn cm _ (.bl false) _ by rw [Dn])
 | _=>exact P1.elim
end
section
variable {cm:Cm} {E:XK} {ms:List Md} {K:PySem.W.Frag}
theorem ao0 {n:Nat} (h:n≤ac0):n < sizeLine:=by
 have:=sizeLine_eq
 unfold ac0 at h
 omega
theorem bG1 {G:Hp} {ds:List D} {xs:List V} {i:Int} {d:D} (h:Dns cm G ds xs) (e:atI ds i=some d):∃ v,atI xs i=some v∧Dn cm G d v:=by
 unfold atI at e ⊢
 rw [← h.len]
 cases q:ixN ds.length i with
 | none=>rw [q] at e; cases e
 | some j =>
   rw [q] at e
   exact h.get e
theorem p_ixL {k:Kd} {ta tb:TE} {ma mb:Env→Res D} (ha:PJ cm (KC cm k) E ms ta ma) (hb:PJ cm (KR cm .X) E ms tb mb):PJ cm (KR cm k) E ms (tOp (rIxL cm.K) ta tb) (bn ixL ma mb):=by
 intro B U As σ H ρ Q R P
 refine ha.bnd R P fun x v B1 U1 H1 N1 _ R1 e1 n1 d1 P1=>hb.bnd R1 P1 fun y u B2 U2 H2 N2 _ R2 e2 n2 d2 P2=>?_
 have c:=Cn.mono (aI7 e2) e2.h d1
 have d2:Dn cm H2 y u:=d2
 have fin:∀ (ds:List D) (i:Int),Po cm (KR cm k) E ms B2 U2 As σ H2 ρ (atD ds i) Q→∀ xs,Dns cm (hp k B2 U2 H2) ds xs→∃ w,atI xs i=some w∧Q w H2:=fun ds i P3 xs h=>by
  unfold atD at P3
  cases q:atI ds i with
  | none=>rw [q] at P3; exact P3.elim
  | some d =>
    rw [q] at P3
    obtain ⟨w,hw,dw⟩:=bG1 h q
    exact ⟨w,hw,P3 w B2 U2 H2 [] R2 (Gw.refl _ _ _) New.nil dw⟩
 cases x with
 | lst ds =>
   cases y with
   | int i =>
     rw [Dn] at d2
     obtain ⟨a,xs,r,h1,h2⟩:=c
     obtain ⟨w,hw,q⟩:=fin ds i P2 xs h2
     exact ⟨a,xs,i,w,r,d2,SqL.of h1,hw,q⟩
   | _=>exact P2.elim
 | scr ds =>
   cases y with
   | int i =>
     rw [Dn] at d2
     obtain ⟨a,xs,r,h1,h2⟩:=c
     obtain ⟨w,hw,q⟩:=fin ds i P2 xs h2
     exact ⟨a,xs,i,w,r,d2,h1.sq,hw,q⟩
   | _=>exact P2.elim
 | _=>cases y <;> exact P2.elim
theorem ad3 {k:Kd}:PJ cm (KL cm k) E ms tNil esN:=fun B U As σ H ρ Q R P=>P [] B U H [] R (Gw.refl _ _ _) New.nil (show Dns cm _ [] [] by rw [Dns])
theorem aa3 {k:Kd} {ta:TE} {tr:TA} {ma:Env→Res D} {mr:Env→Res (List D)} (ha:PJ cm (KR cm k) E ms ta ma) (hr:PJ cm (KL cm k) E ms tr mr):PJ cm (KL cm k) E ms (ag4 ta tr) (esC ma mr):=by
 intro B U As σ H ρ Q R P
 refine ha.bnd R P fun x v B1 U1 H1 N1 _ R1 e1 n1 d1 P1=>hr.bnd R1 P1 fun y u B2 U2 H2 N2 _ R2 e2 n2 d2 P2=>?_
 refine P2 (v :: u) B2 U2 H2 [] R2 (Gw.refl _ _ _) New.nil ?_
 show Dns cm _ (x :: y) (v :: u)
 rw [Dns]
 exact ⟨v,u,rfl,Dn.mono (aI7 e2) d1,d2⟩
variable {B U H:Hp} {As:Nat→List Addr} {σ:St} {ρ:Env}
theorem Gw.newO (R:Rel cm ms B U As σ H ρ) {p:Addr} {o:HO} (h:H p=none):Gw B U H B U (upd H p o):=⟨Ex.refl _ _,Gd.ae0 h,fun _ _ q=> .inl q⟩
theorem Gw.newB (R:Rel cm ms B U As σ H ρ) {p:Addr} {o:HO} (h:H p=none):Gw B U H (upd B p o) (upd U p o) (upd H p o):=⟨Ex.newB R h,Gd.ae0 h,fun a u q=>by
 by_cases z:a=p
 · subst z; exact .inr (.inl h)
 · rw [ab5 z] at q; exact .inl q⟩
theorem New.one (R:Rel cm ms B U As σ H ρ) {p:Addr} (h:H p=none):New [p] H U As:=⟨by simp,fun a ha=>by rw [List.mem_singleton.mp ha]; exact h,fun a ha=>by rw [List.mem_singleton.mp ha]; exact R.uh.free h⟩
theorem az2 (R:Rel cm ms B U As σ H ρ) {ds:List D} {xs:List V} {Q:VK} (P:Po cm (KO cm (.ct .fz)) E ms B U As σ H ρ (.ok (.lst ds)) Q) (h:Dns cm B ds xs) {p:Addr} (hp:H p=none):Q (.ref p) (upd H p (.lst xs)) :=
 P (.ref p) B U _ [p] (R.new hp) (Gw.newO R hp) (New.one R hp) (by
  show Ow cm B _ (.lst ds) (.ct .fz) (.ref p) [p]
  rw [Ow]
  exact ⟨p,xs,[],rfl,ac1,rfl,Ows.of h⟩)
theorem bi6 (R:Rel cm ms B U As σ H ρ) {ds:List D} {xs:List V} {Q:VK} (P:Po cm (KR cm .F) E ms B U As σ H ρ (.ok (.tup ds)) Q) (h:Dns cm B ds xs) {p:Addr} (hp:H p=none):Q (.ref p) (upd H p (.tup xs)) :=
 P (.ref p) _ _ _ [] (R.newB hp) (Gw.newB R hp) New.nil (by
  show Dn cm (upd B p (.tup xs)) (.tup ds) (.ref p)
  rw [Dn]
  exact ⟨p,xs,rfl,ac1,h.mono (Gd.ae0 (R.bh.free hp))⟩)
section
variable {t:TA} {m:Env→Res (List D)}
theorem ap6 (h:PJ cm (KL cm .F) E ms t m):PJ cm (KO cm (.ct .fz)) E ms (tLst t) (mkL m):=by
 intro B U As σ H ρ Q R P
 refine h.bnd R P fun ds xs B1 U1 H1 N1 _ R1 e1 n1 d1 P1=>?_
 by_cases z:ds.length≤ac0
 · rw [if_pos z] at P1
   have d1:Dns cm B1 ds xs:=d1
   exact ⟨Nat.le_of_lt (ao0 (by rw [← d1.len]; exact z)),fun p hp=>az2 R1 P1 d1 hp⟩
 · rw [if_neg z] at P1
   exact P1.elim
theorem an8 (h:PJ cm (KL cm .F) E ms t m):PJ cm (KR cm .F) E ms (tTup t) (mkT m):=by
 intro B U As σ H ρ Q R P
 refine h.bnd R P fun ds xs B1 U1 H1 N1 _ R1 e1 n1 d1 P1=>?_
 by_cases z:ds.length≤ac0
 · rw [if_pos z] at P1
   have d1:Dns cm B1 ds xs:=d1
   exact ⟨Nat.le_of_lt (ao0 (by rw [← d1.len]; exact z)),fun p hp=>bi6 R1 P1 d1 hp⟩
 · rw [if_neg z] at P1
   exact P1.elim
end
theorem bi0:PJ cm (KO cm (.ct .fz)) E ms bn0 (cst (.dT [] [])):=by
 intro B U As σ H ρ Q R P p hp
 refine P (.ref p) B U _ [p] (R.new hp) (Gw.newO R hp) (New.one R hp) ?_
 show Ow cm B _ (.dT [] []) (.ct .fz) (.ref p) [p]
 rw [Ow]
 exact ⟨p,[],[],rfl,ac1,rfl,rfl,Ows.of (by rw [List.map_nil,Dns])⟩
theorem ak1 {G:Hp}:∀ {ds:List D} {xs:List V} {k:List Key},af6 ds=some k→Dns cm G ds xs→xs=k.map kV
 | [],_,_,e,h=>by rw [Dns] at h; cases e; rw [h]; rfl
 | d :: ds,_,k,e,h=>by
   rw [Dns] at h
   obtain ⟨x,r,rfl,h1,h2⟩:=h
   unfold af6 at e
   cases q:aE1 d with
   | none=>rw [q] at e; cases e
   | some k0 =>
     cases q2:af6 ds with
     | none=>rw [q,q2] at e; cases e
     | some ks =>
       rw [q,q2] at e
       cases e
       rw [ak1 q2 h2,List.map_cons]
       congr 1
       cases d with
       | int i=>cases q; rw [Dn] at h1; exact h1
       | str x=>cases q; rw [Dn] at h1; exact h1
       | _=>cases q
theorem aP0 {G:Hp} {d:D} {v:V} {k:Key} (e:aE1 d=some k) (h:Dn cm G d v):v=kV k:=by
 cases d with
 | int i=>cases e; rw [Dn] at h; exact h
 | str x=>cases e; rw [Dn] at h; exact h
 | _=>cases e
noncomputable def OI (cm:Cm) (G:Hp):Option D→Option V→Prop
 | some d,r=>∃ v,r=some v∧Dn cm G d v
 | none,r=>r=none
section
variable {κ:Type} [DecidableEq κ]
theorem aq2 {G:Hp}:∀ {kvs:List (κ×V)} {ds:List D} (j:κ),Dns cm G ds (kvs.map (·.2))→OI cm G (ae8 (kvs.map (·.1)) ds j) (valV kvs j)
 | [],ds,j,h=>by
   cases ds with
   | nil=>exact bf8
   | cons d ds=>rw [Dns] at h; obtain ⟨x,r,e,_⟩:=h; cases e
 | p :: kvs,ds,j,h=>by
   cases ds with
   | nil=>rw [Dns] at h; cases h
   | cons d ds =>
     rw [List.map_cons,Dns] at h
     obtain ⟨x,r,e,h1,h2⟩:=h
     cases e
     rw [List.map_cons]
     unfold ae8
     by_cases q:p.1=j
     · rw [if_pos q]
       exact ⟨p.2,ap8 q,h1⟩
     · rw [if_neg q,ap9 q]
       exact aq2 j h2
end
theorem ba4 {G:Hp} {d k:D} {v u:V} {o:Option D} (hd:Cn cm G H d v) (hk:Dn cm H k u) (e:ba6 d k=some o):∃ a r,v= .ref a∧IsD H a∧DGet H a u r∧OI cm G o r:=by
 cases d with
 | dT ks vs =>
   obtain ⟨a,kvs,rfl,h1,h2,h3⟩:=hd
   cases k with
   | tup kd =>
     have e:(af6 kd).map (fun k=>ae8 ks vs k)=some o:=e
     obtain ⟨kk,ek,eo⟩:=Option.map_eq_some_iff.mp e
     rw [Dn] at hk
     obtain ⟨b,xs,rfl,h4,h5⟩:=hk
     have ex:=ak1 ek h5
     subst ex
     refine ⟨a,valV kvs kk,rfl,.inr ⟨kvs,.inl h1⟩,DGet.t h1 h4,?_⟩
     have l:=aq2 (κ:=List Key) kk h3
     rw [h2,eo] at l
     exact l
   | _=>cases e
 | dK ks vs =>
   obtain ⟨a,kvs,rfl,h1,h2,h3⟩:=hd
   have e:(aE1 k).map (fun k=>ae8 ks vs k)=some o:=by cases k <;> exact e
   obtain ⟨kk,ek,eo⟩:=Option.map_eq_some_iff.mp e
   have ex:=aP0 ek hk
   subst ex
   refine ⟨a,valV kvs kk,rfl,.inl ⟨kvs,.inl h1⟩,DGet.k h1,?_⟩
   have l:=aq2 (κ:=Key) kk h3
   rw [h2,eo] at l
   exact l
 | _=>cases k <;> cases e
theorem bz3 {k:Kd} {td tk:TE} {md mk:Env→Res D} (hk:PJ cm (KR cm .X) E ms tk mk) (hd:PJ cm (KC cm k) E ms td md):PJ cm (KR cm .F) E ms (tDIn tk td) (bn (dinD false) mk md):=by
 intro B U As σ H ρ Q R P
 refine hk.bnd R P fun y u B1 U1 H1 N1 _ R1 e1 n1 d1 P1=>hd.bnd R1 P1 fun x v B2 U2 H2 N2 _ R2 e2 n2 d2 P2=>?_
 unfold dinD at P2
 cases q:ba6 x y with
 | none=>rw [q] at P2; exact P2.elim
 | some o =>
   rw [q] at P2
   obtain ⟨a,r,ea,_,g,l⟩:=ba4 d2 (Dn.mono e2.h d1) q
   refine ⟨a,r,ea,g,P2 _ B2 U2 H2 [] R2 (Gw.refl _ _ _) New.nil ?_⟩
   show Dn cm _ (.bl (false.xor o.isSome)) _
   rw [Dn]
   cases o with
   | none=>rw [show r=none from l]; rfl
   | some d=>obtain ⟨w,rfl,_⟩:=l; rfl
theorem bJ7 {k:Kd} {td tk:TE} {md mk:Env→Res D} (hk:PJ cm (KR cm .X) E ms tk mk) (hd:PJ cm (KC cm k) E ms td md):PJ cm (KR cm .F) E ms (aT6 tk td) (bn (dinD true) mk md):=by
 intro B U As σ H ρ Q R P
 refine hk.bnd R P fun y u B1 U1 H1 N1 _ R1 e1 n1 d1 P1=>hd.bnd R1 P1 fun x v B2 U2 H2 N2 _ R2 e2 n2 d2 P2=>?_
 unfold dinD at P2
 cases q:ba6 x y with
 | none=>rw [q] at P2; exact P2.elim
 | some o =>
   rw [q] at P2
   obtain ⟨a,r,ea,_,g,l⟩:=ba4 d2 (Dn.mono e2.h d1) q
   refine ⟨a,r,ea,g,P2 _ B2 U2 H2 [] R2 (Gw.refl _ _ _) New.nil ?_⟩
   show Dn cm _ (.bl (true.xor o.isSome)) _
   rw [Dn]
   cases o with
   | none=>rw [show r=none from l]; rfl
   | some d=>obtain ⟨w,rfl,_⟩:=l; rfl
theorem IsD.mono {H':Hp} {a:Addr} (h:IsD H a) (e:Same H H'):IsD H' a:=by
 rcases h with ⟨kvs,h | ⟨o,h⟩⟩ | ⟨kvs,h | ⟨o,h⟩⟩
 · exact .inl ⟨kvs,.inl (e _ _ h)⟩
 · exact .inl ⟨kvs,.inr ⟨o,e _ _ h⟩⟩
 · exact .inr ⟨kvs,.inl (e _ _ h)⟩
 · exact .inr ⟨kvs,.inr ⟨o,e _ _ h⟩⟩
end
section
variable {cm:Cm} {E:XK} {ms:List Md} {K:PySem.W.Frag} {B U H:Hp} {As:Nat→List Addr} {σ:St} {ρ:Env}
theorem aO8 {G:Hp}:∀ {fs:List (Str×V)} {ds:List D} {f:Str} {d:D},Dns cm G ds (fs.map (·.2))→ae8 (fs.map (·.1)) ds f=some d→∃ v,fs.lookup f=some v∧Dn cm G d v
 | [],ds,f,d,h,e=>by cases ds <;> cases e
 | p :: fs,ds,f,d,h,e=>by
   cases ds with
   | nil=>cases e
   | cons d0 ds =>
     rw [List.map_cons,Dns] at h
     obtain ⟨x,r,e0,h1,h2⟩:=h
     cases e0
     rw [List.map_cons] at e
     unfold ae8 at e
     by_cases q:p.1=f
     · rw [if_pos q] at e
       cases e
       exact ⟨p.2,by rw [List.lookup_cons,← q,beq_self_eq_true],h1⟩
     · rw [if_neg q] at e
       obtain ⟨v,hv,dv⟩:=aO8 h2 e
       have:(f == p.1)=false:=beq_eq_false_iff_ne.mpr fun z=>q z.symm
       exact ⟨v,by rw [List.lookup_cons,this]; exact hv,dv⟩
theorem Owf.get {B H:Hp} {sh:List (Str×Sh)}:∀ {fs:List (Str×V)} {ds:List D} {A:List Addr} {f:Str} {d:D},Owf cm B H ds (fs.map (·.1)) sh (fs.map (·.2)) A→ae8 (fs.map (·.1)) ds f=some d →
 ∃ v A1,fs.lookup f=some v∧Ow cm B H d ((sh.lookup f).getD .fz) v A1∧∀ a∈A1,a∈A
 | [],ds,A,f,d,h,e=>by cases ds <;> cases e
 | p :: fs,ds,A,f,d,h,e=>by
   cases ds with
   | nil=>cases e
   | cons d0 ds =>
     rw [List.map_cons,List.map_cons,Owf] at h
     obtain ⟨n,ns',x,r,A1,A2,hn,h0,h1,h2,h3⟩:=h
     cases hn
     cases h0
     subst h1
     rw [List.map_cons] at e
     unfold ae8 at e
     by_cases q:p.1=f
     · rw [if_pos q] at e
       cases e
       rw [q] at h2
       exact ⟨p.2,A1,by rw [List.lookup_cons,← q,beq_self_eq_true],h2,fun a ha=>List.mem_append_left _ ha⟩
     · rw [if_neg q] at e
       obtain ⟨v,A3,hv,ow,hA⟩:=Owf.get h3 e
       have:(f == p.1)=false:=beq_eq_false_iff_ne.mpr fun z=>q z.symm
       exact ⟨v,A3,by rw [List.lookup_cons,this]; exact hv,ow,fun a ha=>List.mem_append_right _ (hA a ha)⟩
theorem ba7 {c:Nat} {f:Str} {x d:D} (h:fldD c f x= .ok d):∃ ns vs,x= .obj c ns vs∧ae8 ns vs f=some d:=by
 cases x with
 | obj c' ns vs =>
   unfold fldD at h; dsimp only at h
   by_cases e:c'=c
   · rw [if_pos e] at h
     subst e
     cases q:ae8 ns vs f with
     | none=>rw [q] at h; cases h
     | some y=>rw [q] at h; cases h; exact ⟨ns,vs,rfl,q⟩
   · rw [if_neg e] at h
     cases h
 | _=>cases h
theorem aP1 {c:Nat} {f:Str} {x:D} {e:Nat} (h:fldD c f x= .exc e):False:=by
 cases x with
 | obj c' ns vs =>
   have h:(if c'=c then (match ae8 ns vs f with | some x=>Res.ok x | none=> .bad) else .bad)= .exc e:=h
   by_cases e:c'=c
   · rw [if_pos e] at h
     cases q:ae8 ns vs f <;> (rw [q] at h; cases h)
   · rw [if_neg e] at h
     cases h
 | _=>cases h
theorem aY0 {k:Kd} {c:Nat} {f:Str} {ta:TE} {ma:Env→Res D} (hc:Cls K (cm c)) (hn:NoAttr K (cm c) f) (ha:PJ cm (KC cm k) E ms ta ma):PJ cm (KR cm k) E ms (tFld K ta f) (un (fldD c f) ma):=by
 intro B U As σ H ρ Q R P
 refine ha.bnd R P fun x v B1 U1 H1 N1 _ R1 e1 n1 d1 P1=>?_
 cases e:fldD c f x with
 | ok d =>
   rw [e] at P1
   obtain ⟨ns,vs,rfl,l⟩:=ba7 e
   obtain ⟨a,dx,fs,r,h1,h2,h3⟩:=d1
   subst h2
   obtain ⟨w,hw,dw⟩:=aO8 h3 l
   exact ⟨a,_,dx,fs,w,r,h1,hc,hn,hw,P1 w B1 U1 H1 [] R1 (Gw.refl _ _ _) New.nil dw⟩
 | exc c'=>exact (aP1 e).elim
 | bad=>rw [e] at P1; exact P1.elim
theorem bJ5 {K':KT D V} {c:Nat} {f:Str} {i:Nat} {sh:List (Str×Sh)} (hc:Cls K (cm c)) (hn:NoAttr K (cm c) f) (hm:ms.getD i .F= .O (.ob sh))
 (hk:∀ B U H d v A,Same B U→Same U H→Ow cm B H d ((sh.lookup f).getD .fz) v A→K' d v B U H []):PJ cm K' E ms (tFld K (tVar i) f) (un (fldD c f) (vr i)):=by
 intro B U As σ H ρ Q R P
 have l:=R.lo i
 rw [hm] at l
 unfold un vr at P
 cases e:rg ρ i with
 | none=>rw [e] at P; exact P.elim
 | some d0 =>
   rw [e] at P l
   obtain ⟨v,hv,q⟩:=l
   replace P:Po cm K' E ms B U As σ H ρ (fldD c f d0) Q:=P
   refine ⟨v,ai8 hv,?_⟩
   cases e2:fldD c f d0 with
   | ok d =>
     rw [e2] at P
     obtain ⟨ns,vs,rfl,l⟩:=ba7 e2
     have q:Ow cm B H (.obj c ns vs) (.ob sh) v (As i):=q
     rw [Ow] at q
     obtain ⟨a,dx,fs,A',r,h1,h2,h3,h4⟩:=q
     subst h2
     obtain ⟨w,A1,hw,ow,_⟩:=Owf.get h4 l
     exact ⟨a,_,dx,fs,w,r,h1,hc,hn,hw,P w B U H [] R (Gw.refl _ _ _) New.nil (hk B U H d w A1 R.bu R.uh ow)⟩
   | exc c'=>exact (aP1 e2).elim
   | bad=>rw [e2] at P; exact P.elim
theorem bp4 {c:Nat} {f:Str} {i:Nat} {sh:List (Str×Sh)} (hc:Cls K (cm c)) (hn:NoAttr K (cm c) f) (hm:ms.getD i .F= .O (.ob sh)) (hf:(sh.lookup f).getD .fz= .ct .fz):PJ cm (KC cm .F) E ms (tFld K (tVar i) f) (un (fldD c f) (vr i)) :=
 bJ5 hc hn hm fun B U H d v A b u ow=>by
  rw [hf] at ow
  exact Ow.cn (b.trans u) ow
noncomputable def ItIs (J:It) (H:Hp) (vs:List V):Prop:=∀ H2,Same H H2→(∀ i,vs.length≤i→J.stop i H2)∧(∀ i,i < vs.length→J.go i H2)∧∀ i x H',i < vs.length→J.yld i H2 x H'→H'=H2∧vs[i]?=some x
noncomputable def KI (cm:Cm) (k g:Kd):KT (List D) It:=fun ds J B U H _=>∃ vs,ItIs J (hp g B U H) vs∧Dns cm (hp k B U H) ds vs
theorem aE3 {a:Addr} {xs:List V} (h:H a=some (.lst xs)∨SqF K H a xs):ItIs (Itl K a) H xs:=fun H2 s=>by
 have q:SqL K H2 a xs:=by
  rcases h with h | h
  · exact .inl (.inl (s _ _ h))
  · exact (h.mono s).sq
 exact ⟨fun i hi=>⟨xs,q,hi⟩,fun i hi=>⟨xs,xs[i],q,List.getElem?_eq_getElem hi⟩,fun i x H' hi y=>⟨y.1,y.2 xs q⟩⟩
theorem bk0 (lo:Int) (n:Nat):ItIs (Itr lo n) H ((List.range n).map fun i:Nat=>V.int (lo + i)):=fun H2 s=>by
 have hl:((List.range n).map fun i:Nat=>V.int (lo + i)).length=n:=by rw [List.length_map,List.length_range]
 refine ⟨fun i hi=>by rw [hl] at hi; exact hi,fun i hi=>by rw [hl] at hi; exact hi,fun i x H' hi y=>⟨y.1,?_⟩⟩
 rw [hl] at hi
 rw [List.getElem?_map,List.getElem?_range hi,y.2]
 rfl
theorem bb8 {G:Hp} (lo:Int):∀ n:Nat,Dns cm G ((List.range n).map fun i:Nat=>D.int (lo + i)) ((List.range n).map fun i:Nat=>V.int (lo + i))
 | 0=>by rw [List.range_zero,List.map_nil,List.map_nil,Dns]
 | n + 1=>by
   rw [List.range_succ,List.map_append,List.map_append]
   exact (bb8 lo n).append (Dns.one (by rw [Dn]))
theorem bD2 {k:Kd} {ta:TE} {ma:Env→Res D} (ha:PJ cm (KR cm k) E ms ta ma):PJ cm (KI cm k k) E ms (aZ8 cm.K ta) (srcL ma):=by
 intro B U As σ H ρ Q R P
 refine ha.bnd R P fun x v B1 U1 H1 N1 _ R1 e1 n1 d1 P1=>?_
 have d1:Dn cm (hp k B1 U1 H1) x v:=d1
 cases x with
 | lst ds =>
   rw [Dn] at d1
   obtain ⟨a,xs,r,h1,h2⟩:=d1
   exact ⟨a,r,⟨xs,SqL.of (R1.hp k _ _ h1)⟩,P1 _ B1 U1 H1 [] R1 (Gw.refl _ _ _) New.nil ⟨xs,aE3 (.inl h1),h2⟩⟩
 | scr ds =>
   rw [Dn] at d1
   obtain ⟨a,xs,r,h1,h2⟩:=d1
   exact ⟨a,r,⟨xs,(h1.mono (R1.hp k)).sq⟩,P1 _ B1 U1 H1 [] R1 (Gw.refl _ _ _) New.nil ⟨xs,aE3 (.inr h1),h2⟩⟩
 | _=>exact P1.elim
theorem i_r1 {g:Kd} {tb:TE} {mb:Env→Res D} (hb:PJ cm (KR cm .X) E ms tb mb):PJ cm (KI cm .F g) E ms (bO2 (ag4 tb tNil)) (aV2 mb):=by
 intro B U As σ H ρ Q R P
 have P:Po cm (KI cm .F g) E ms B U As σ H ρ ((mb ρ).bind fun y=>match D.int 0,y with
  | .int i,.int j=>if -(2 ^ 62)≤i∧i < 2 ^ 62∧-(2 ^ 62)≤j∧j < 2 ^ 62 then .ok (rng i j) else .bad
  | _,_=> .bad) Q:=P
 refine hb.bnd R P fun y u B2 U2 H2 N2 _ R2 e2 n2 d2 P2=>?_
 have d2:Dn cm H2 y u:=d2
 cases y with
 | int j =>
   rw [Dn] at d2
   subst d2
   have P2:Po cm (KI cm .F g) E ms B2 U2 As σ H2 ρ (if -(2 ^ 62)≤(0:Int)∧(0:Int) < 2 ^ 62∧-(2 ^ 62)≤j∧j < 2 ^ 62 then .ok (rng 0 j) else .bad) Q:=P2
   by_cases z:-(2 ^ 62)≤(0:Int)∧(0:Int) < 2 ^ 62∧-(2 ^ 62)≤j∧j < 2 ^ 62
   · rw [if_pos z] at P2
     refine ⟨j,rfl,z.2.2.1,z.2.2.2,P2 _ B2 U2 H2 [] R2 (Gw.refl _ _ _) New.nil ?_⟩
     have e:(j - 0).toNat=j.toNat:=by rw [Int.sub_zero]
     unfold rng
     rw [e]
     exact ⟨_,bk0 0 _,bb8 0 _⟩
   · rw [if_neg z] at P2
     exact P2.elim
 | _=>exact P2.elim
theorem aW4 {α:Type} {l:List (Option α)} {x:Option α} {i:Nat}:rg (x :: l) (i + 1)=rg l i:=by unfold rg; rw [List.getElem?_cons_succ]
theorem aW3 {α:Type} {l:List (Option α)} {x:Option α}:rg (x :: l) 0=x:=by unfold rg; rw [List.getElem?_cons_zero]; rfl
theorem bn2 {α:Type} {l:List (Option α)} {ix:List Nat} {j:Nat}:rg (ix.map fun i=>rg l i) j=match ix[j]? with | some i=>rg l i | none=>none:=by
 unfold rg
 rw [List.getElem?_map]
 cases ix[j]? <;> rfl
theorem aO1:∀ {l:List Nat} {i j:Nat},l.Nodup→(h1:i < l.length)→(h2:j < l.length)→l[i]=l[j]→i=j
 | [],_,_,_,h1,_,_=>by simp at h1
 | x :: l,0,0,_,_,_,_=>rfl
 | x :: l,0,j + 1,nd,h1,h2,e=>by
   have h3:j < l.length:=by simpa using h2
   exact absurd (show x∈l from by rw [show x=l[j] from e]; exact List.getElem_mem h3) (List.nodup_cons.mp nd).1
 | x :: l,i + 1,0,nd,h1,h2,e=>by
   have h3:i < l.length:=by simpa using h1
   exact absurd (show x∈l from by rw [show x=l[i] from e.symm]; exact List.getElem_mem h3) (List.nodup_cons.mp nd).1
 | x :: l,i + 1,j + 1,nd,h1,h2,e=>by
   rw [aO1 (List.nodup_cons.mp nd).2 (by simpa using h1) (by simpa using h2) e]
noncomputable def asIn (As:Nat→List Addr) (ix:List Nat):Nat→List Addr
 | 0=>[]
 | j + 1=>match ix[j]? with | some i=>As i | none=>[]
noncomputable def msIn (m:Md) (ms:List Md) (ix:List Nat):List Md:=m :: ix.map fun i=>ms.getD i .F
theorem Rel.inner (R:Rel cm ms B U As σ H ρ) {ix:List Nat} (hix:ix.Nodup) {m:Md} {d:D} {v:V} (hd:Lo cm B U H m (some d) (some v) []) :
 Rel cm (msIn m ms ix) B U (asIn As ix) (some v :: capV σ ix) H (some d :: capD ρ ix) where
 bu:=R.bu
 uh:=R.uh
 nd:=fun i=>by
  cases i with
  | zero=>exact List.nodup_nil
  | succ j =>
    show (match ix[j]? with | some i=>As i | none=>[]).Nodup
    cases ix[j]? with
    | none=>exact List.nodup_nil
    | some i=>exact R.nd i
 dj:=fun i j a hne ha hb=>by
  cases i with
  | zero=>cases ha
  | succ i =>
    cases j with
    | zero=>cases hb
    | succ j =>
      have ha:a∈(match ix[i]? with | some i=>As i | none=>[]):=ha
      have hb:a∈(match ix[j]? with | some i=>As i | none=>[]):=hb
      cases ei:ix[i]? with
      | none=>rw [ei] at ha; cases ha
      | some x =>
        cases ej:ix[j]? with
        | none=>rw [ej] at hb; cases hb
        | some y =>
          rw [ei] at ha
          rw [ej] at hb
          by_cases e:x=y
          · subst e
            obtain ⟨h1,e1⟩:=List.getElem?_eq_some_iff.mp ei
            obtain ⟨h2,e2⟩:=List.getElem?_eq_some_iff.mp ej
            have:=aO1 hix h1 h2 (e1.trans e2.symm)
            exact hne (by rw [this])
          · exact R.dj x y a e ha hb
 tb:=R.tb
 un:=fun i a ha=>by
  cases i with
  | zero=>cases ha
  | succ i =>
    have ha:a∈(match ix[i]? with | some i=>As i | none=>[]):=ha
    cases ei:ix[i]? with
    | none=>rw [ei] at ha; cases ha
    | some x=>rw [ei] at ha; exact R.un x a ha
 lo:=fun i=>by
  cases i with
  | zero =>
    rw [aW3,aW3]
    exact hd
  | succ j =>
    rw [aW4,aW4]
    unfold capV capD
    have e1:rg (ix.map fun j=>rg ρ j) j=match ix[j]? with | some i=>rg ρ i | none=>none:=bn2
    have e2:rg (ix.map fun j=>(σ[j]?).join) j=match ix[j]? with | some i=>rg σ i | none=>none:=bn2
    rw [e1,e2]
    show Lo cm B U H ((m :: ix.map fun i=>ms.getD i .F).getD (j + 1) .F) _ _ (match ix[j]? with | some i=>As i | none=>[])
    rw [List.getD_cons_succ,List.getD_eq_getElem?_getD,List.getElem?_map]
    cases ix[j]? with
    | none=>exact rfl
    | some i=>exact R.lo i
 len:=by
  rw [List.length_cons,List.length_cons,capV,capD,List.length_map,List.length_map]
theorem Rel.poke (R:Rel cm ms B U As σ H ρ) {p:Addr} {o:HO} (hu:U p=none) (ha:∀ i,p∉As i):Rel cm ms B U As σ (upd H p o) ρ :=
 ⟨R.bu,fun a u q=>by rw [ab5 (ab3 q hu)]; exact R.uh a u q,R.nd,R.dj,R.un,fun i=>(R.lo i).mono (Same.refl _) (Same.refl _) fun a h=>ab5 (fun z:a=p=>ha i (z ▸ h)),R.len,R.tb⟩
theorem at1 {α:Type} {l:List α} {i:Nat} {x:α} (h:l[i]?=some x):l.drop i=x :: l.drop (i + 1):=by
 obtain ⟨h1,h2⟩:=List.getElem?_eq_some_iff.mp h
 rw [List.drop_eq_getElem_cons h1,h2]
theorem bE2 {k k':Kd} {m0:Md} {K':KT D V} {wi:TI} {ix:List Nat} {ti:TT} {te:TE} {src:Env→Res (List D)} {mi:Env→Res Bool} {me:Env→Res D}
 (hs:PJ cm (KI cm k .X) E ms wi src) (hix:ix.Nodup) (h0:∀ B U H d v,Same B U→Same U H→Dn cm (hp k B U H) d v→Lo cm B U H m0 (some d) (some v) [])
 (hti:PJ cm KB E0 (msIn m0 ms ix) ti mi) (hte:PJ cm (KR cm k') E0 (msIn m0 ms ix) te me)
 (fin:∀ B U As σ H ρ B1 U1 H1 Q zs ys p,Rel cm ms B1 U1 As σ H1 ρ→Gw B U H B1 U1 H1→H p=none→U1 p=none→(∀ i,p∉As i)→H1 p=some (.lst ys)→Dns cm (hp k' B1 U1 H1) zs ys→Po cm K' E ms B U As σ H ρ (.ok (.lst zs)) Q→Q (.ref p) H1)
 (hk':k'= .F∨k'= .U):PJ cm K' E ms (br5 wi ix ti te) (comp src ix mi me):=by
 intro B U As σ H ρ Q R P
 refine hs.bnd R P fun ds J B1 U1 H1 N1 _ R1 e1 n1 ⟨vs,hJ,hd⟩ P1 p hp=>?_
 by_cases z:ds.length < ac0
 · rw [if_pos z] at P1
   have hvl:ds.length=vs.length:=hd.len
   have hpA:∀ i,p∉As i:=fun i=>R1.fresh hp i
   have grow':∀ {B2 U2 H2 B3 U3 H3:Hp},Gw B2 U2 H2 B3 U3 H3→Same (Mi.hp k' B2 U2 (fun _=>none)) (Mi.hp k' B3 U3 (fun _=>none)):=fun g=>by
    rcases hk' with e | e <;> subst e
    · exact g.b
    · exact g.u
   have hpe:∀ {B2 U2 H2:Hp},Mi.hp k' B2 U2 H2=Mi.hp k' B2 U2 (fun _=>none):=fun {B2 U2 H2}=>by rcases hk' with e | e <;> subst e <;> rfl
   refine ⟨fun i m ys H2=>i≤ds.length∧m=ds.length - i∧H2 p=some (.lst ys)∧ys.length≤i∧∃ B2 U2 zs,Rel cm ms B2 U2 As σ H2 ρ∧Gw B1 U1 H1 B2 U2 H2∧U2 p=none∧Dns cm (Mi.hp k' B2 U2 (fun _=>none)) zs ys ∧
    Po cm K' E ms B1 U1 As σ H1 ρ ((ag2 mi me (capD ρ ix) (ds.drop i)).bind fun r=> .ok (.lst (zs ++ r))) Q,⟨ds.length,Nat.zero_le _,rfl,ac1,Nat.le_refl _,B1,U1,[],R1.new hp,Gw.newO R1 hp,R1.uh.free hp,by rw [Dns],P1⟩,?_⟩
   rintro i m ys H2 ⟨hi,rfl,hy,hle,B2,U2,zs,R2,g2,u2,dz,P2⟩
   have hpe2:=hJ H2 g2.h
   refine ⟨hy,Nat.lt_of_le_of_lt hle (ao0 (Nat.le_of_lt (Nat.lt_of_le_of_lt hi z))),?_⟩
   by_cases hlt:i < ds.length
   · refine .inr ⟨hpe2.2.1 i (by omega),fun v H3 hyl=>?_⟩
     obtain ⟨rfl,ev⟩:=hpe2.2.2 i v H3 (by omega) hyl
     obtain ⟨d,ed,dd⟩:=hd.geti ev
     rw [at1 ed,ag2] at P2
     have RI:=R2.inner hix (h0 B2 U2 H3 d v R2.bu R2.uh (Dn.mono (aI7 g2) dd))
     refine hti B2 U2 _ _ H3 _ _ RI ?_
     cases eb:mi (some d :: capD ρ ix) with
     | ok c =>
       rw [eb] at P2
       intro b B3 U3 H4 N3 R3' g3 n3 hb
       cases hb
       have up3:U3 p=none:=by
        cases q:U3 p with
        | none=>rfl
        | some o =>
          rcases g3.fr p o q with z | z | ⟨xs,z⟩
          · rw [u2] at z; cases z
          · rw [hy] at z; cases z
          · subst z; have:=R3'.uh p _ q; rw [g3.h _ _ hy] at this; cases this
       have R3:Rel cm ms B3 U3 As σ H4 ρ:=R2.grow g3.b g3.u g3.h R3'.bu R3'.uh fun j a ha=>by
        cases q:U3 a with
        | none=>rfl
        | some o =>
          rcases g3.fr a o q with z | z | z
          · rw [R2.un j a ha] at z; cases z
          · obtain ⟨o',q'⟩:=R2.at ha
            rw [z] at q'; cases q'
          · obtain ⟨o',q'⟩:=R2.at ha
            have e1:=g3.h _ _ q'
            rw [R3'.uh a _ q] at e1; cases e1; exact (R2.nt ha q' z).elim
       cases c with
       | false =>
         rw [if_neg Bool.false_ne_true]
         exact ⟨ds.length - (i + 1),by omega,hlt,rfl,g3.h _ _ hy,by omega,B3,U3,zs,R3,g2.trans g3,up3,dz.mono (grow' g3),P2⟩
       | true =>
         rw [if_pos rfl]
         refine hte B3 U3 _ _ H4 _ _ R3' ?_
         cases ee:me (some d :: capD ρ ix) with
         | ok x =>
           have P3:Po cm K' E ms B1 U1 As σ H1 ρ (((me (some d :: capD ρ ix)).calm.bind fun x=>(ag2 mi me (capD ρ ix) (ds.drop (i + 1))).bind fun xs=> .ok (x :: xs)).bind fun r=> .ok (.lst (zs ++ r))) Q:=P2
           rw [ee] at P3
           intro y B4 U4 H5 N4 R4' g4 n4 hx
           have y5:H5 p=some (.lst ys):=g4.h _ _ (g3.h _ _ hy)
           have up4:U4 p=none:=by
            cases q:U4 p with
            | none=>rfl
            | some o =>
              rcases g4.fr p o q with z | z | ⟨xs,z⟩
              · rw [up3] at z; cases z
              · rw [g3.h _ _ hy] at z; cases z
              · subst z; have:=R4'.uh p _ q; rw [y5] at this; cases this
           have R4:Rel cm ms B4 U4 As σ H5 ρ:=R3.grow g4.b g4.u g4.h R4'.bu R4'.uh fun j a ha=>by
            cases q:U4 a with
            | none=>rfl
            | some o =>
              rcases g4.fr a o q with z | z | z
              · rw [R3.un j a ha] at z; cases z
              · obtain ⟨o',q'⟩:=R3.at ha
                rw [z] at q'; cases q'
              · obtain ⟨o',q'⟩:=R3.at ha
                have e1:=g4.h _ _ q'
                rw [R4'.uh a _ q] at e1; cases e1; exact (R3.nt ha q' z).elim
           have g5:Gw B1 U1 H1 B4 U4 (upd H5 p (.lst (ys ++ [y]))):=by
            have g:=(g2.trans g3).trans g4
            exact ⟨g.toEx,fun a o q=>by rw [ab5 (ab3 q hp)]; exact g.h a o q,g.fr⟩
           refine ⟨y5,ds.length - (i + 1),by omega,hlt,rfl,ac1,by rw [List.length_append,List.length_singleton]; omega,B4,U4,zs ++ [x],R4.poke up4 hpA,g5,up4,(dz.mono (grow' (g3.trans g4))).append (Dns.one ?_),?_⟩
           · have hx:Dn cm (Mi.hp k' B4 U4 H5) x y:=hx
             rw [hpe] at hx
             exact hx
           · cases eg:ag2 mi me (capD ρ ix) (ds.drop (i + 1)) with
             | ok r =>
               rw [eg] at P3
               show Po cm K' E ms B1 U1 As σ H1 ρ (.ok (.lst (zs ++ [x] ++ r))) Q
               rw [List.append_assoc]
               exact P3
             | exc c=>rw [eg] at P3; exact P3
             | bad=>rw [eg] at P3; exact P3
         | exc c =>
           have P3:Po cm K' E ms B1 U1 As σ H1 ρ (((me (some d :: capD ρ ix)).calm.bind fun x=>(ag2 mi me (capD ρ ix) (ds.drop (i + 1))).bind fun xs=> .ok (x :: xs)).bind fun r=> .ok (.lst (zs ++ r))) Q:=P2
           rw [ee] at P3
           exact P3.elim
         | bad =>
           have P3:Po cm K' E ms B1 U1 As σ H1 ρ (((me (some d :: capD ρ ix)).calm.bind fun x=>(ag2 mi me (capD ρ ix) (ds.drop (i + 1))).bind fun xs=> .ok (x :: xs)).bind fun r=> .ok (.lst (zs ++ r))) Q:=P2
           rw [ee] at P3
           exact P3.elim
     | exc c=>rw [eb] at P2; exact P2.elim
     | bad=>rw [eb] at P2; exact P2.elim
   · have e:i=ds.length:=by omega
     subst e
     rw [List.drop_length,ag2] at P2
     refine .inl ⟨hpe2.1 _ (by omega),?_⟩
     have P3:Po cm K' E ms B1 U1 As σ H1 ρ (.ok (.lst (zs ++ []))) Q:=P2
     rw [List.append_nil] at P3
     exact fin B1 U1 As σ H1 ρ B2 U2 H2 Q zs ys p R2 g2 hp u2 hpA hy (by rw [hpe]; exact dz) P3
 · rw [if_neg z] at P1
   exact P1.elim
theorem inF {B U H:Hp} {d:D} {v:V} (_:Same B U) (_:Same U H) (h:Dn cm (hp .F B U H) d v):Lo cm B U H .F (some d) (some v) []:=⟨v,rfl,h,rfl⟩
theorem finO {B U:Hp} {As:Nat→List Addr} {σ:St} {H:Hp} {ρ:Env} {B1 U1 H1:Hp} {Q:VK} {zs:List D} {ys:List V} {p:Addr} (R:Rel cm ms B1 U1 As σ H1 ρ) (g:Gw B U H B1 U1 H1) (hp:H p=none) (u:U1 p=none) (ha:∀ i,p∉As i) (h:H1 p=some (.lst ys))
 (d:Dns cm (Mi.hp .F B1 U1 H1) zs ys) (P:Po cm (KO cm (.ct .fz)) E ms B U As σ H ρ (.ok (.lst zs)) Q):Q (.ref p) H1 :=
 P (.ref p) B1 U1 H1 [p] R g ⟨by simp,fun a q=>by rw [List.mem_singleton.mp q]; exact hp,fun a q=>by rw [List.mem_singleton.mp q]; exact u⟩ (by
  show Ow cm B1 H1 (.lst zs) (.ct .fz) (.ref p) [p]
  rw [Ow]
  exact ⟨p,ys,[],rfl,h,rfl,Ows.of d⟩)
section
variable {wi:TI} {ix:List Nat} {ti:TT} {te:TE} {src:Env→Res (List D)} {mi:Env→Res Bool} {me:Env→Res D}
theorem aN9 (hs:PJ cm (KI cm .F .X) E ms wi src) (hix:ix.Nodup) (hti:PJ cm KB E0 (msIn .F ms ix) ti mi) (hte:PJ cm (KR cm .F) E0 (msIn .F ms ix) te me):PJ cm (KO cm (.ct .fz)) E ms (br5 wi ix ti te) (comp src ix mi me) :=
 bE2 hs hix (fun _ _ _ _ _=>inF) hti hte (fun _ _ _ _ _ _ _ _ _ _ _ _ _=>finO) (.inl rfl)
end
end
structure NewM (N:List Addr) (U:Hp) (As:Nat→List Addr):Prop where
 nd:N.Nodup
 un:∀ a∈N,U a=none
 ap:∀ a∈N,∀ i,a∉As i
theorem NewM.nil {U:Hp} {As:Nat→List Addr}:NewM [] U As:=⟨List.nodup_nil,fun _ h=>(nomatch h),fun _ h=>(nomatch h)⟩
noncomputable def Kp (pr:Nat→Bool) (σ σ':St):Prop:=∀ j,pr j=true→rg σ' j=rg σ j
theorem Kp.refl (pr:Nat→Bool) (σ:St):Kp pr σ σ:=fun _ _=>rfl
theorem Kp.trans {pr:Nat→Bool} {σ σ1 σ2:St} (a:Kp pr σ σ1) (b:Kp pr σ1 σ2):Kp pr σ σ2:=fun j h=>(b j h).trans (a j h)
section
variable (cm:Cm)
noncomputable def Mo {α β:Type} (K:KT α β) (E:XK) (ms:List Md) (B U:Hp) (σ:St) (r:Out α) (Q:β→Hp→Prop):Prop :=
 match r with
 | .ok d ρ'=>∀ v B' U' As' H' N,Rel cm ms B' U' As' σ H' ρ'→Ex B U B' U'→NewM N U' As'→K d v B' U' H' N→Q v H'
 | .exc c ρ'=>∀ B' U' As' H',Rel cm ms B' U' As' σ H' ρ'→Ex B U B' U'→∀ oa,E (.ref (cm c)) oa H'
 | .bad=>False
noncomputable def MJ {α β:Type} (K:KT α β) (E:XK) (ms:List Md) (t:St→Hp→(β→Hp→Prop)→Prop) (m:Env→Out α):Prop :=
 ∀ B U As σ H ρ Q,Rel cm ms B U As σ H ρ→Mo cm K E ms B U σ (m ρ) Q→t σ H Q
noncomputable def So (E:XK) (Kr:KT D V) (pr:Nat→Bool) (ms:List Md) (B U:Hp) (σ:St) (r:SO) (D:Ends):Prop :=
 match r with
 | .nx ρ'=>∀ σ' B' U' As' H',Rel cm ms B' U' As' σ' H' ρ'→Ex B U B' U'→Kp pr σ σ'→D.nx σ' H'
 | .bk ρ'=>∀ σ' B' U' As' H',Rel cm ms B' U' As' σ' H' ρ'→Ex B U B' U'→Kp pr σ σ'→D.bk σ' H'
 | .ct ρ'=>∀ σ' B' U' As' H',Rel cm ms B' U' As' σ' H' ρ'→Ex B U B' U'→Kp pr σ σ'→D.ct σ' H'
 | .rt d ρ'=>∀ v σ' B' U' As' H' N,Rel cm ms B' U' As' σ' H' ρ'→Ex B U B' U'→Kp pr σ σ'→NewM N U' As'→Kr d v B' U' H' N→D.rt v H'
 | .exc c ρ'=>∀ σ' B' U' As' H',Rel cm ms B' U' As' σ' H' ρ'→Ex B U B' U'→Kp pr σ σ'→∀ oa,E (.ref (cm c)) oa H'
 | .bad=>False
noncomputable def SJ (E:XK) (Kr:KT D V) (pr:Nat→Bool) (ms:List Md) (t:TS) (m:Env→SO):Prop :=
 ∀ B U As σ H ρ D,Rel cm ms B U As σ H ρ→So cm E Kr pr ms B U σ (m ρ) D→t D σ H
end
section
variable {cm:Cm} {E:XK} {Kr:KT D V} {pr:Nat→Bool} {ms:List Md} {K:PySem.W.Frag} {B U H B1 U1 H1:Hp} {As:Nat→List Addr} {σ σ1:St} {ρ:Env}
theorem Mo.at {α β:Type} {K:KT α β} {r:Out α} {Q:β→Hp→Prop} (P:Mo cm K E ms B U σ r Q) (e:Ex B U B1 U1):Mo cm K E ms B1 U1 σ r Q:=by
 cases r with
 | ok d ρ'=>exact fun v B' U' As' H' N R' e' n' k=>P v B' U' As' H' N R' (e.trans e') n' k
 | exc c ρ'=>exact fun B' U' As' H' R' e'=>P B' U' As' H' R' (e.trans e')
 | bad=>exact P
theorem So.at {r:SO} {D:Ends} (P:So cm E Kr pr ms B U σ r D) (e:Ex B U B1 U1) (k:Kp pr σ σ1):So cm E Kr pr ms B1 U1 σ1 r D:=by
 cases r with
 | nx ρ'=>exact fun σ' B' U' As' H' R' e' k'=>P σ' B' U' As' H' R' (e.trans e') (k.trans k')
 | bk ρ'=>exact fun σ' B' U' As' H' R' e' k'=>P σ' B' U' As' H' R' (e.trans e') (k.trans k')
 | ct ρ'=>exact fun σ' B' U' As' H' R' e' k'=>P σ' B' U' As' H' R' (e.trans e') (k.trans k')
 | rt d ρ'=>exact fun v σ' B' U' As' H' N R' e' k'=>P v σ' B' U' As' H' N R' (e.trans e') (k.trans k')
 | exc c ρ'=>exact fun σ' B' U' As' H' R' e' k'=>P σ' B' U' As' H' R' (e.trans e') (k.trans k')
 | bad=>exact P
theorem upM {α β:Type} {K:KT α β} {t:St→Hp→(β→Hp→Prop)→Prop} {m:Env→Res α} (h:PJ cm K E ms t m):MJ cm K E ms t (fun ρ=>(m ρ).up ρ):=by
 intro B U As σ H ρ Q R P
 replace P:Mo cm K E ms B U σ ((m ρ).up ρ) Q:=P
 refine h B U As σ H ρ Q R ?_
 cases e:m ρ with
 | ok d =>
   rw [e] at P
   exact fun v B' U' H' N R' g n k=>P v B' U' As H' N R' g.toEx ⟨n.nd,n.un,R.apart n⟩ k
 | exc c =>
   rw [e] at P
   exact fun B' U' H' R' g=>P B' U' As H' R' g.toEx
 | bad=>rw [e] at P; exact P
theorem MJ.imp {α β:Type} {K K':KT α β} {t:St→Hp→(β→Hp→Prop)→Prop} {m:Env→Out α} (h:MJ cm K E ms t m) (f:∀ B U As σ H ρ d v N,Rel cm ms B U As σ H ρ→K d v B U H N→K' d v B U H N):MJ cm K' E ms t m:=by
 intro B U As σ H ρ Q R P
 refine h B U As σ H ρ Q R ?_
 cases e:m ρ with
 | ok d ρ'=>rw [e] at P; exact fun v B' U' As' H' N R' e' n' k=>P v B' U' As' H' N R' e' n' (f _ _ _ _ _ _ _ _ _ R' k)
 | exc c ρ'=>rw [e] at P; exact P
 | bad=>rw [e] at P; exact P
theorem mfu {t:TE} {m:Env→Out D} (h:MJ cm (KR cm .F) E ms t m):MJ cm (KR cm .U) E ms t m:=h.imp fun _ _ _ _ _ _ _ _ _ R q=>Dn.mono R.bu q
theorem mux {t:TE} {m:Env→Out D} (h:MJ cm (KR cm .U) E ms t m):MJ cm (KR cm .X) E ms t m:=h.imp fun _ _ _ _ _ _ _ _ _ R q=>Dn.mono R.uh q
theorem moF {s:Sh} {t:TE} {m:Env→Out D} (h:MJ cm (KO cm s) E ms t m):MJ cm (KR cm .F) E ms t m:=by
 intro B U As σ H ρ Q R P
 refine h B U As σ H ρ Q R ?_
 cases e:m ρ with
 | ok d ρ' =>
   rw [e] at P
   intro v B' U' As' H' N R' e' n' ow
   obtain ⟨R2,e2⟩:=R'.freeze fun a ha=>⟨n'.un a ha,n'.ap a ha⟩
   refine P v _ _ As' H' [] R2 (e'.trans e2) NewM.nil (Ow.dn (ak3 R'.bh) (fun a ha o q=>?_) ow)
   unfold Mi.frz
   rw [if_pos ha]
   exact q
 | exc c ρ'=>rw [e] at P; exact P
 | bad=>rw [e] at P; exact P
theorem MJ.bnd {α β γ δ:Type} {Ka:KT α β} {Kc:KT γ δ} {ta:St→Hp→(β→Hp→Prop)→Prop} {ma:Env→Out α} (ha:MJ cm Ka E ms ta ma) (R:Rel cm ms B U As σ H ρ) {k:α→Env→Out γ} {Q:δ→Hp→Prop}
 (P:Mo cm Kc E ms B U σ ((ma ρ).bind k) Q) {body:β→Hp→Prop}
 (h:∀ x ρ' v B1 U1 As1 H1 N,Rel cm ms B1 U1 As1 σ H1 ρ'→Ex B U B1 U1→NewM N U1 As1→Ka x v B1 U1 H1 N→Mo cm Kc E ms B1 U1 σ (k x ρ') Q→body v H1):ta σ H body:=by
 refine ha B U As σ H ρ body R ?_
 cases e:ma ρ with
 | ok x ρ' =>
   rw [e] at P
   exact fun v B1 U1 As1 H1 N R1 e1 n1 k1=>h x ρ' v B1 U1 As1 H1 N R1 e1 n1 k1 (Mo.at (r:=k x ρ') P e1)
 | exc c ρ'=>rw [e] at P; exact P
 | bad=>rw [e] at P; exact P
theorem MJ.bndS {α β:Type} {Ka:KT α β} {ta:St→Hp→(β→Hp→Prop)→Prop} {ma:Env→Out α} (ha:MJ cm Ka E ms ta ma) (R:Rel cm ms B U As σ H ρ) {k:α→Env→SO} {D:Ends}
 (P:So cm E Kr pr ms B U σ (ax1 (ma ρ) k) D) {body:β→Hp→Prop}
 (h:∀ x ρ' v B1 U1 As1 H1 N,Rel cm ms B1 U1 As1 σ H1 ρ'→Ex B U B1 U1→NewM N U1 As1→Ka x v B1 U1 H1 N→So cm E Kr pr ms B1 U1 σ (k x ρ') D→body v H1):ta σ H body:=by
 refine ha B U As σ H ρ body R ?_
 cases e:ma ρ with
 | ok x ρ' =>
   rw [e] at P
   exact fun v B1 U1 As1 H1 N R1 e1 n1 k1=>h x ρ' v B1 U1 As1 H1 N R1 e1 n1 k1 (So.at (r:=k x ρ') P e1 (Kp.refl _ _))
 | exc c ρ'=>rw [e] at P; exact fun B' U' As' H' R' e'=>P σ B' U' As' H' R' e' (Kp.refl _ _)
 | bad=>rw [e] at P; exact P
theorem ao7 {α:Type} {l:List (Option α)} {i j:Nat} {x:Option α}:rg (l.set i x) j=if i=j∧i < l.length then x else rg l j:=by
 unfold rg
 rw [List.getElem?_set]
 by_cases e:i=j
 · subst e
   by_cases h:i < l.length
   · rw [if_pos rfl,if_pos h,if_pos ⟨rfl,h⟩]
     rfl
   · rw [if_pos rfl,if_neg h,if_neg fun z=>h z.2,List.getElem?_eq_none (by omega)]
 · rw [if_neg e,if_neg fun z=>e z.1]
theorem Rel.store (R:Rel cm ms B U As σ H ρ) {i:Nat} {d:D} {v:V} {N:List Addr} (n:NewM N U As) (l:Lo cm B U H (ms.getD i .F) (some d) (some v) N) :
 ∃ As',Rel cm ms B U As' (σ.set i (some v)) H (ρ.set i (some d)):=by
 by_cases hi:i < ρ.length
 · refine ⟨fun j=>if j=i then N else As j,R.bu,R.uh,fun j=>?_,fun j k a hne ha hb=>?_,fun j a ha=>?_,fun j=>?_,by rw [List.length_set,List.length_set]; exact R.len,R.tb⟩
   · show (if j=i then N else As j).Nodup
     split
     · exact n.nd
     · exact R.nd j
   · replace ha:a∈(if j=i then N else As j):=ha
     replace hb:a∈(if k=i then N else As k):=hb
     split at ha
     · split at hb
       · rename_i h1 h2
         exact hne (h1.trans h2.symm)
       · exact n.ap a ha k hb
     · split at hb
       · exact n.ap a hb j ha
       · exact R.dj j k a hne ha hb
   · replace ha:a∈(if j=i then N else As j):=ha
     split at ha
     · exact n.un a ha
     · exact R.un j a ha
   · rw [ao7,ao7]
     show Lo cm B U H (ms.getD j .F) _ _ (if j=i then N else As j)
     by_cases e:i=j
     · subst e
       rw [if_pos ⟨rfl,hi⟩,if_pos ⟨rfl,by rw [← R.len]; exact hi⟩,if_pos rfl]
       exact l
     · rw [if_neg fun z=>e z.1,if_neg fun z=>e z.1,if_neg fun z=>e z.symm]
       exact R.lo j
 · have h2:=R.len
   have e1:σ.set i (some v)=σ:=List.set_eq_of_length_le (by omega)
   have e2:ρ.set i (some d)=ρ:=List.set_eq_of_length_le (by omega)
   rw [e1,e2]
   exact ⟨As,R⟩
theorem Kp.set {i:Nat} {x:Option V} (h:pr i=false):Kp pr σ (σ.set i x):=fun j hj=>by
 rw [ao7,if_neg]
 rintro ⟨e,_⟩
 rw [e,hj] at h
 cases h
theorem bH8 {K':KT D V} {i:Nat} {te:TE} {m:Env→Out D} (h:MJ cm K' E ms te m) (hk:∀ B U H d v N,K' d v B U H N→∃ N',(N'=[]∨N'=N)∧Lo cm B U H (ms.getD i .F) (some d) (some v) N') (hp:pr i=false):SJ cm E Kr pr ms (tAsg te (as6 i)) (setS i m):=by
 intro B U As σ H ρ D R P
 refine h.bndS R P fun x ρ' v B1 U1 As1 H1 N R1 e1 n1 k1 P1=>?_
 obtain ⟨N',hN,l⟩:=hk B1 U1 H1 x v N k1
 have n2:NewM N' U1 As1:=by
  rcases hN with e | e
  · subst e; exact NewM.nil
  · subst e; exact n1
 obtain ⟨As2,R2⟩:=R1.store n2 l
 exact P1 _ B1 U1 As2 H1 R2 (Ex.refl _ _) (Kp.set hp)
theorem ag1 {i:Nat} {te:TE} {m:Env→Out D} (h:MJ cm (KR cm .F) E ms te m) (hm:ms.getD i .F= .F) (hp:pr i=false):SJ cm E Kr pr ms (tAsg te (as6 i)) (setS i m) :=
 bH8 h (fun B U H d v N k=>⟨[],.inl rfl,by rw [hm]; exact ⟨v,rfl,k,rfl⟩⟩) hp
theorem ao6 {i:Nat} {s:Sh} {te:TE} {m:Env→Out D} (h:MJ cm (KO cm s) E ms te m) (hm:ms.getD i .F= .O s) (hp:pr i=false):SJ cm E Kr pr ms (tAsg te (as6 i)) (setS i m) :=
 bH8 h (fun B U H d v N k=>⟨N,.inr rfl,by rw [hm]; exact ⟨v,rfl,k⟩⟩) hp
theorem af9:SJ cm E Kr pr ms bG8 ae7:=fun B U As σ H ρ D R P=>P σ B U As H R (Ex.refl _ _) (Kp.refl _ _)
theorem ab7 {t u:TS} {m n:Env→SO} (h:SJ cm E Kr pr ms t m) (k:SJ cm E Kr pr ms u n):SJ cm E Kr pr ms (tSeq t u) (seqS m n):=by
 intro B U As σ H ρ D R P
 refine h B U As σ H ρ _ R ?_
 unfold seqS at P
 cases e:m ρ with
 | nx ρ'=>rw [e] at P; exact fun σ' B' U' As' H' R' e' kp=>k B' U' As' σ' H' ρ' D R' (So.at P e' kp)
 | bk ρ'=>rw [e] at P; exact P
 | ct ρ'=>rw [e] at P; exact P
 | rt d ρ'=>rw [e] at P; exact P
 | exc c ρ'=>rw [e] at P; exact P
 | bad=>rw [e] at P; exact P
theorem ai7 {K':KT D V} {te:TE} {m:Env→Out D} (h:MJ cm K' E ms te m):SJ cm E Kr pr ms (bg1 te) (ai3 m):=by
 intro B U As σ H ρ D R P
 refine h.bndS R P fun x ρ' v B1 U1 As1 H1 N R1 e1 n1 k1 P1=>?_
 exact P1 σ B1 U1 As1 H1 R1 (Ex.refl _ _) (Kp.refl _ _)
theorem ae4 {te:TE} {m:Env→Out D} (h:MJ cm Kr E ms te m):SJ cm E Kr pr ms (tRet te) (retS m):=by
 intro B U As σ H ρ D R P
 refine h.bndS R P fun x ρ' v B1 U1 As1 H1 N R1 e1 n1 k1 P1=>?_
 exact P1 v σ B1 U1 As1 H1 N R1 (Ex.refl _ _) (Kp.refl _ _) n1 k1
theorem s_if {c:TT} {t u:TS} {mc:Env→Out Bool} {m n:Env→SO} (hc:MJ cm KB E ms c mc) (h:SJ cm E Kr pr ms t m) (k:SJ cm E Kr pr ms u n):SJ cm E Kr pr ms (tIfS c t u) (ifS mc m n):=by
 intro B U As σ H ρ D R P
 refine hc.bndS R P fun x ρ' v B1 U1 As1 H1 N R1 e1 n1 k1 P1=>?_
 cases k1
 cases x with
 | true=>exact h B1 U1 As1 σ H1 ρ' D R1 P1
 | false=>exact k B1 U1 As1 σ H1 ρ' D R1 P1
noncomputable def TJ (cm:Cm) (k:Kd) (pr:Nat→Bool) (ms:List Md) (g:TG) (tg:D→Env→Option Env):Prop:=∀ B U As σ H ρ d v ρ1 Q,Rel cm ms B U As σ H ρ→Dn cm (hp k B U H) d v→tg d ρ=some ρ1→(∀ σ1 As1,Rel cm ms B U As1 σ1 H ρ1→Kp pr σ σ1→Q σ1 H)→g v σ H Q
theorem tgF {i:Nat} (hm:ms.getD i .F= .F) (hp:pr i=false):TJ cm .F pr ms (as6 i) (tgN i):=by
 intro B U As σ H ρ d v ρ1 Q R hd e h
 cases e
 obtain ⟨As2,R2⟩:=R.store (i:=i) (d:=d) (v:=v) NewM.nil (by rw [hm]; exact ⟨v,rfl,hd,rfl⟩)
 exact h _ As2 R2 (Kp.set hp)
theorem by5 {k:Kd} {wi:TI} {g:TG} {tb:TS} {src:Env→Out (List D)} {tg:D→Env→Option Env} {body:Env→SO} (hs:MJ cm (KI cm k .U) E ms wi src) (hk:k= .F∨k= .U) (hg:TJ cm k pr ms g tg) (hb:SJ cm E Kr pr ms tb body) :
 SJ cm E Kr pr ms (tFor wi g tb) (aR9 src tg body):=by
 intro B U As σ H ρ D R P
 refine hs.bndS R P fun ds ρ0 J B1 U1 As1 H1 N R1 e1 n1 ⟨vs,hJ,hd⟩ P1=>?_
 have hvl:ds.length=vs.length:=hd.len
 have hp1:∀ {B2 U2 H2:Hp},Ex B1 U1 B2 U2→Same (hp k B1 U1 H1) (hp k B2 U2 H2):=fun e=>by
  rcases hk with z | z <;> subst z
  · exact e.b
  · exact e.u
 refine ⟨fun i m σ' H'=>i≤ds.length∧m=ds.length - i∧∃ B2 U2 As2 ρ2,Rel cm ms B2 U2 As2 σ' H' ρ2∧Ex B1 U1 B2 U2∧Kp pr σ σ'∧So cm E Kr pr ms B1 U1 σ (forS tg body (ds.drop i) ρ2) D,⟨_,Nat.zero_le _,rfl,B1,U1,As1,ρ0,R1,Ex.refl _ _,Kp.refl _ _,P1⟩,?_⟩
 rintro i m σ' H' ⟨hi,rfl,B2,U2,As2,ρ2,R2,e2,k2,P2⟩
 have hj:=hJ H' (e2.u.trans R2.uh)
 by_cases hlt:i < ds.length
 · refine .inr ⟨hj.2.1 i (by omega),fun σ'' H''=>i + 1≤ds.length∧∃ B2 U2 As2 ρ2,Rel cm ms B2 U2 As2 σ'' H'' ρ2∧Ex B1 U1 B2 U2∧Kp pr σ σ''∧So cm E Kr pr ms B1 U1 σ (forS tg body (ds.drop (i + 1)) ρ2) D,fun σ'' H'' ⟨h1,h2⟩=>⟨ds.length - (i + 1),by omega,h1,rfl,h2⟩,fun x Hx hy=>?_⟩
   obtain ⟨rfl,ev⟩:=hj.2.2 i x Hx (by omega) hy
   obtain ⟨d,ed,dd⟩:=hd.geti ev
   rw [at1 ed,forS] at P2
   cases et:tg d ρ2 with
   | none=>rw [et] at P2; exact P2.elim
   | some ρ3 =>
     rw [et] at P2
     refine hg B2 U2 As2 σ' Hx ρ2 d x ρ3 _ R2 (Dn.mono (hp1 e2) dd) et fun σ3 As3 R3 k3=>?_
     refine hb B2 U2 As3 σ3 Hx ρ3 _ R3 ?_
     dsimp only at P2
     cases eb:body ρ3 with
     | nx ρ4 =>
       rw [eb] at P2
       exact fun σ4 B4 U4 As4 H4 R4 e4 k4=>⟨hlt,B4,U4,As4,ρ4,R4,e2.trans e4,(k2.trans k3).trans k4,P2⟩
     | ct ρ4 =>
       rw [eb] at P2
       exact fun σ4 B4 U4 As4 H4 R4 e4 k4=>⟨hlt,B4,U4,As4,ρ4,R4,e2.trans e4,(k2.trans k3).trans k4,P2⟩
     | bk ρ4 =>
       rw [eb] at P2
       exact fun σ4 B4 U4 As4 H4 R4 e4 k4=>P2 σ4 B4 U4 As4 H4 R4 (e2.trans e4) ((k2.trans k3).trans k4)
     | rt d ρ4 =>
       rw [eb] at P2
       exact fun v σ4 B4 U4 As4 H4 N R4 e4 k4=>P2 v σ4 B4 U4 As4 H4 N R4 (e2.trans e4) ((k2.trans k3).trans k4)
     | exc c ρ4 =>
       rw [eb] at P2
       exact fun σ4 B4 U4 As4 H4 R4 e4 k4=>P2 σ4 B4 U4 As4 H4 R4 (e2.trans e4) ((k2.trans k3).trans k4)
     | bad=>rw [eb] at P2; exact P2.elim
 · have e:i=ds.length:=by omega
   subst e
   rw [List.drop_length,forS] at P2
   exact .inl ⟨hj.1 _ (by omega),P2 σ' B2 U2 As2 H' R2 e2 k2⟩
end
inductive Ap where
 | F | U | X | O (i:Nat) | Bo (i:Nat)
deriving DecidableEq
noncomputable def wbGo:List Ap→Nat→Env→Env→Env
 | [],_,_,ρ=>ρ
 | .O i :: r,j,ρc,ρ=>wbGo r (j + 1) ρc (ρ.set i (rg ρc j))
 | _ :: r,j,ρc,ρ=>wbGo r (j + 1) ρc ρ
noncomputable def al6 (plan:List Ap) (fm:List D→Out D) (ds:List D) (ρ:Env):Out D:=match fm ds with
 | .ok d ρc=> .ok d (wbGo plan 0 ρc ρ)
 | .exc c ρc=> .exc c (wbGo plan 0 ρc ρ)
 | .bad=> .bad
noncomputable def al5 (fm:List D→Out D) (ds:List D):Res D:=match fm ds with
 | .ok d _=> .ok d
 | .exc c _=> .exc c
 | .bad=> .bad
noncomputable def am7 (ms:List Md) (ρ:Env):Env:=(List.range ms.length).map fun i=>match ms.getD i .F with | .O _=>rg ρ i | _=>none
section
variable (cm:Cm)
noncomputable def spM (ms:List Md) (Kr:KT D V) (fm:List D→Out D):Sp:=fun vs H Q E=>∃ B U As ds,Rel cm ms B U As (vs.map some) H (ds.map some)∧vs.length=ms.length∧match fm ds with
 | .ok d ρ'=>∀ v B' U' As' H' N,Rel cm ms B' U' As' (vs.map some) H' (am7 ms ρ')→Ex B U B' U'→NewM N U' As'→Kr d v B' U' H' N→Q v H'
 | .exc c ρ'=>∀ B' U' As' H',Rel cm ms B' U' As' (vs.map some) H' (am7 ms ρ')→Ex B U B' U'→∀ oa,E (.ref (cm c)) oa H'
 | .bad=>False
noncomputable def A1 (p:Ap) (B U H:Hp) (σ:St) (ρ:Env) (d:D) (v:V):Prop:=match p with
 | .F=>Dn cm B d v
 | .U=>Dn cm U d v
 | .X=>Dn cm H d v
 | .O i=>rg σ i=some v∧rg ρ i=some d
 | .Bo i=>rg σ i=some v∧rg ρ i=some d
noncomputable def Ag (B U H:Hp) (σ:St) (ρ:Env):List Ap→List D→List V→Prop
 | [],ds,vs=>ds=[]∧vs=[]
 | p :: ps,ds,vs=>∃ d dr v vr,ds=d :: dr∧vs=v :: vr∧A1 cm p B U H σ ρ d v∧Ag B U H σ ρ ps dr vr
end
section
variable {cm:Cm} {E:XK} {ms:List Md} {B U H:Hp} {As:Nat→List Addr} {σ:St} {ρ:Env}
theorem A1.mono {p:Ap} {B' U' H':Hp} {d:D} {v:V} (h:A1 cm p B U H σ ρ d v) (g:Gw B U H B' U' H'):A1 cm p B' U' H' σ ρ d v:=by
 cases p with
 | F=>exact Dn.mono g.b h
 | U=>exact Dn.mono g.u h
 | X=>exact Dn.mono g.h h
 | O i=>exact h
 | Bo i=>exact h
noncomputable def A1J (cm:Cm) (E:XK) (ms:List Md) (p:Ap) (t:TE) (m:Env→Res D):Prop:=∀ B U As σ H ρ Q,Rel cm ms B U As σ H ρ→Po cm (fun d v B U H _=>A1 cm p B U H σ ρ d v) E ms B U As σ H ρ (m ρ) Q→t σ H Q
noncomputable def AJ (cm:Cm) (E:XK) (ms:List Md) (ps:List Ap) (t:TA) (m:Env→Res (List D)):Prop:=∀ B U As σ H ρ Q,Rel cm ms B U As σ H ρ→Po cm (fun d v B U H _=>Ag cm B U H σ ρ ps d v) E ms B U As σ H ρ (m ρ) Q→t σ H Q
theorem aF {t:TE} {m:Env→Res D} (h:PJ cm (KR cm .F) E ms t m):A1J cm E ms .F t m:=fun B U As σ H ρ Q R P=>h B U As σ H ρ Q R P
theorem aU {t:TE} {m:Env→Res D} (h:PJ cm (KR cm .U) E ms t m):A1J cm E ms .U t m:=fun B U As σ H ρ Q R P=>h B U As σ H ρ Q R P
theorem aX {t:TE} {m:Env→Res D} (h:PJ cm (KR cm .X) E ms t m):A1J cm E ms .X t m:=fun B U As σ H ρ Q R P=>h B U As σ H ρ Q R P
theorem bQ6 {i:Nat} {p:Ap} (hp:∀ B U H σ ρ d v,rg σ i=some v→rg ρ i=some d→A1 cm p B U H σ ρ d v):A1J cm E ms p (tVar i) (vr i):=by
 intro B U As σ H ρ Q R P
 unfold vr at P
 have l:=R.lo i
 cases e:rg ρ i with
 | none=>rw [e] at P; exact P.elim
 | some d =>
   rw [e] at P l
   obtain ⟨v,hv,q⟩:=l
   exact ⟨v,ai8 hv,P v B U H [] R (Gw.refl _ _ _) New.nil (hp _ _ _ _ _ _ _ hv e)⟩
theorem aO {i:Nat}:A1J cm E ms (.O i) (tVar i) (vr i):=bQ6 fun _ _ _ _ _ _ _ h k=>⟨h,k⟩
theorem ae5:AJ cm E ms [] tNil esN:=fun B U As σ H ρ Q R P=>P [] B U H [] R (Gw.refl _ _ _) New.nil ⟨rfl,rfl⟩
theorem A1J.bnd {p:Ap} {γ δ:Type} {Kc:KT γ δ} {ta:TE} {ma:Env→Res D} (ha:A1J cm E ms p ta ma) (R:Rel cm ms B U As σ H ρ) {k:D→Res γ} {Q:δ→Hp→Prop}
 (P:Po cm Kc E ms B U As σ H ρ ((ma ρ).bind k) Q) {body:V→Hp→Prop}
 (h:∀ x v B1 U1 H1,Rel cm ms B1 U1 As σ H1 ρ→Gw B U H B1 U1 H1→A1 cm p B1 U1 H1 σ ρ x v→Po cm Kc E ms B1 U1 As σ H1 ρ (k x) Q→body v H1):ta σ H body:=by
 refine ha B U As σ H ρ body R ?_
 cases e:ma ρ with
 | ok x =>
   rw [e] at P
   exact fun v B1 U1 H1 N R1 e1 n1 k1=>h x v B1 U1 H1 R1 e1 k1 (Po.at (r:=k x) P e1)
 | exc c=>rw [e] at P; exact P
 | bad=>rw [e] at P; exact P
theorem AJ.bnd {ps:List Ap} {γ δ:Type} {Kc:KT γ δ} {ta:TA} {ma:Env→Res (List D)} (ha:AJ cm E ms ps ta ma) (R:Rel cm ms B U As σ H ρ) {k:List D→Res γ} {Q:δ→Hp→Prop}
 (P:Po cm Kc E ms B U As σ H ρ ((ma ρ).bind k) Q) {body:List V→Hp→Prop}
 (h:∀ x v B1 U1 H1,Rel cm ms B1 U1 As σ H1 ρ→Gw B U H B1 U1 H1→Ag cm B1 U1 H1 σ ρ ps x v→Po cm Kc E ms B1 U1 As σ H1 ρ (k x) Q→body v H1):ta σ H body:=by
 refine ha B U As σ H ρ body R ?_
 cases e:ma ρ with
 | ok x =>
   rw [e] at P
   exact fun v B1 U1 H1 N R1 e1 n1 k1=>h x v B1 U1 H1 R1 e1 k1 (Po.at (r:=k x) P e1)
 | exc c=>rw [e] at P; exact P
 | bad=>rw [e] at P; exact P
theorem aa5 {p:Ap} {ps:List Ap} {ta:TE} {tr:TA} {ma:Env→Res D} {mr:Env→Res (List D)} (ha:A1J cm E ms p ta ma) (hr:AJ cm E ms ps tr mr):AJ cm E ms (p :: ps) (ag4 ta tr) (esC ma mr):=by
 intro B U As σ H ρ Q R P
 refine ha.bnd R P fun x v B1 U1 H1 R1 e1 d1 P1=>hr.bnd R1 P1 fun y u B2 U2 H2 R2 e2 d2 P2=>?_
 exact P2 (v :: u) B2 U2 H2 [] R2 (Gw.refl _ _ _) New.nil ⟨x,y,v,u,rfl,rfl,d1.mono e2,d2⟩
noncomputable def fits (ms:List Md) (pure:Bool):Ap→Md→Bool
 | .F,.F=>true
 | .F,.R=>true
 | .U,.R=>true
 | .X,.R=>pure
 | .Bo _,.R=>true
 | _,_=>false
theorem Ag.len:∀ {ps:List Ap} {ds:List D} {vs:List V},Ag cm B U H σ ρ ps ds vs→ds.length=ps.length∧vs.length=ps.length
 | [],_,_,h=>by obtain ⟨rfl,rfl⟩:=h; exact ⟨rfl,rfl⟩
 | p :: ps,_,_,h=>by
   obtain ⟨d,dr,v,vr,rfl,rfl,_,h⟩:=h
   have:=Ag.len h
   exact ⟨by rw [List.length_cons,List.length_cons,this.1],by rw [List.length_cons,List.length_cons,this.2]⟩
theorem Ag.get:∀ {ps:List Ap} {ds:List D} {vs:List V} {j:Nat} {p:Ap},Ag cm B U H σ ρ ps ds vs→ps[j]?=some p→∃ d v,ds[j]?=some d∧vs[j]?=some v∧A1 cm p B U H σ ρ d v
 | [],_,_,_,_,_,e=>by cases e
 | p :: ps,_,_,j,q,h,e=>by
   obtain ⟨d,dr,v,vr,rfl,rfl,h1,h⟩:=h
   cases j with
   | zero=>cases e; exact ⟨d,v,rfl,rfl,h1⟩
   | succ j=>exact Ag.get (j:=j) h (by simpa using e)
theorem ag3 {α:Type} {l:List α} {i:Nat}:rg (l.map some) i=l[i]?:=by
 unfold rg
 rw [List.getElem?_map]
 cases l[i]? <;> rfl
theorem Rel.read (R:Rel cm ms B U As σ H ρ) {i:Nat} {d:D} {v:V} (hv:rg σ i=some v) (hd:rg ρ i=some d):Dn cm H d v:=by
 have l:=R.lo i
 rw [hd] at l
 have q:=ao9 l hv
 cases e:ms.getD i .F with
 | F=>rw [e] at q; exact Dn.mono R.bh q.1
 | R=>rw [e] at q; exact Dn.mono R.uh q.1
 | O s=>rw [e] at q; exact Ow.dn R.bh (fun _ _ _ q=>q) q
theorem A1.read (R:Rel cm ms B U As σ H ρ) {p:Ap} {d:D} {v:V} (h:A1 cm p B U H σ ρ d v):Dn cm H d v:=by
 cases p with
 | F=>exact Dn.mono R.bh h
 | U=>exact Dn.mono R.uh h
 | X=>exact h
 | O i=>exact R.read h.1 h.2
 | Bo i=>exact R.read h.1 h.2
noncomputable def ov (B U:Hp):Hp:=fun a=>match B a with | some o=>some o | none=>U a
theorem aQ5 {msC:List Md} {Kr:KT D V} {fm:List D→Out D} {ps:List Ap} {ds:List D} {vs:List V} {Q:VK} (R:Rel cm ms B U As σ H ρ) (A:Ag cm B U H σ ρ ps ds vs) (hl:ps.length=msC.length)
 (hf:∀ (j:Nat) p,ps[j]?=some p→fits ms true p (msC.getD j .F)=true) (hU:∀ d v B U U' H N,Kr d v B U H N→Kr d v B U' H N) (P:Po cm Kr E ms B U As σ H ρ (al5 fm ds) Q):spM cm msC Kr fm vs H Q E:=by
 have hlen:=A.len
 have Rc:Rel cm msC B H (fun _=>[]) (vs.map some) H (ds.map some):=by
  refine ⟨R.bh,Same.refl _,fun _=>List.nodup_nil,fun _ _ _ _ h=>(nomatch h),fun _ _ h=>(nomatch h),fun j=>?_,by rw [List.length_map,List.length_map,hlen.1,hlen.2],R.tb⟩
  rw [ag3,ag3]
  cases e:ps[j]? with
  | none =>
    have:ps.length≤j:=List.getElem?_eq_none_iff.mp e
    rw [List.getElem?_eq_none (by omega)]
    rfl
  | some p =>
    obtain ⟨d,v,ed,ev,h1⟩:=A.get e
    rw [ed,ev]
    refine ⟨v,rfl,?_⟩
    have hr:=A1.read R h1
    have q:=hf j p e
    cases em:msC.getD j .F with
    | F =>
      rw [em] at q
      cases p with
      | F=>exact ⟨h1,rfl⟩
      | _=>cases q
    | R=>exact ⟨hr,rfl⟩
    | O s=>rw [em] at q; cases p <;> cases q
 refine ⟨B,H,fun _=>[],ds,Rc,by omega,?_⟩
 have main:∀ {B' U' H':Hp} {As':Nat→List Addr} {ρc:Env},Rel cm msC B' U' As' (vs.map some) H' ρc→Ex B H B' U'→Rel cm ms B' (ov B' U) As σ H' ρ∧Gw B U H B' (ov B' U) H':=fun {B' U' H' As' ρc} R' e'=>by
  have same:∀ a o,U a=some o→∀ o',B' a=some o'→o'=o:=fun a o q o' q'=>by
   have h1:=e'.u a o (R.uh a o q)
   have h2:=R'.bu a o' q'
   rw [h1] at h2
   exact (Option.some.inj h2).symm
  have su:Same U (ov B' U):=fun a o q=>by
   unfold ov
   cases z:B' a with
   | none=>exact q
   | some o'=>rw [same a o q o' z]
  have sh:Same H H':=e'.u.trans R'.uh
  have uh:Same (ov B' U) H':=fun a o q=>by
   unfold ov at q
   cases z:B' a with
   | none=>rw [z] at q; exact sh a o (R.uh a o q)
   | some o'=>rw [z] at q; cases q; exact R'.bh a _ z
  have bu:Same B' (ov B' U):=fun a o q=>by unfold ov; rw [q]
  have new:∀ a o,B' a=some o→B a=some o∨H a=none∨az6 o:=e'.nb
  refine ⟨R.grow e'.b su sh bu uh fun i a ha=>?_,⟨e'.b,su,fun a o q=>?_⟩,sh,fun a o q=>?_⟩
  · unfold ov
    cases z:B' a with
    | none=>exact R.un i a ha
    | some o =>
      obtain ⟨o',q'⟩:=R.at ha
      rcases new a o z with q | q | q
      · have:=R.bu a o q; rw [R.un i a ha] at this; cases this
      · rw [q] at q'; cases q'
      · have e1:=sh _ _ q'
        rw [R'.bh a o z] at e1; cases e1; exact (R.nt ha q' q).elim
  · rcases new a o q with q | q | q
    · exact .inl q
    · exact .inr (.inl (R.uh.free q))
    · exact .inr (.inr q)
  · unfold ov at q
    cases z:B' a with
    | none=>rw [z] at q; exact .inl q
    | some o' =>
      rw [z] at q
      cases q
      rcases new a _ z with q | q
      · exact .inl (R.bu a _ q)
      · exact .inr q
 cases e:fm ds with
 | ok d ρ' =>
   unfold al5 at P
   rw [e] at P
   intro v B' U' As' H' N R' e' n' k
   obtain ⟨R2,g2⟩:=main R' e'
   refine P v B' _ H' N R2 g2 ⟨n'.nd,fun a ha=>e'.u.free (n'.un a ha),fun a ha=>?_⟩ (hU d v B' U' (ov B' U) H' N k)
   unfold ov
   have h1:=n'.un a ha
   cases z:B' a with
   | none=>exact R.uh.free (e'.u.free h1)
   | some o=>have:=R'.bu a o z; rw [h1] at this; cases this
 | exc c ρ' =>
   unfold al5 at P
   rw [e] at P
   intro B' U' As' H' R' e'
   obtain ⟨R2,g2⟩:=main R' e'
   exact P B' _ H' R2 g2
 | bad =>
   unfold al5 at P
   rw [e] at P
   exact P
theorem hF {d:D} {v:V} {B U U' H:Hp} {N:List Addr} (h:KR cm .F d v B U H N):KR cm .F d v B U' H N:=h
theorem hO {s:Sh} {d:D} {v:V} {B U U' H:Hp} {N:List Addr} (h:KO cm s d v B U H N):KO cm s d v B U' H N:=h
theorem bp5 {msC:List Md} {Kr:KT D V} {fm:List D→Out D} {ps:List Ap} {t:TA} {m:Env→Res (List D)} (h:AJ cm E ms ps t m) (hl:ps.length=msC.length)
 (hf:∀ (j:Nat) p,ps[j]?=some p→fits ms true p (msC.getD j .F)=true) (hU:∀ d v B U U' H N,Kr d v B U H N→Kr d v B U' H N):PJ cm Kr E ms (aQ8 (spM cm msC Kr fm) [] E t) (fun ρ=>(m ρ).bind (al5 fm)):=by
 intro B U As σ H ρ Q R P
 refine h.bnd R P fun ds vs B1 U1 H1 R1 e1 A P1=>?_
 rw [List.append_nil]
 exact aQ5 R1 A hl hf hU P1
noncomputable def ag7 (c:Nat) (m:Str):D→Bool
 | .obj c' ns _=>decide (c'=c) && !ns.contains m
 | _=>false
theorem ar9 {m:Str}:∀ {fs:List (Str×V)},(fs.map (·.1)).contains m=false→fs.lookup m=none
 | [],_=>rfl
 | p :: fs,h=>by
   rw [List.map_cons,List.contains_cons,Bool.or_eq_false_iff] at h
   rw [List.lookup_cons,h.1]
   exact ar9 h.2
theorem aD6 {c:Nat} {m:Str} {d:D} {v:V} (h:ag7 c m d=true) (hd:Dn cm H d v):∃ a dx fs,v= .ref a∧H a=some (.ins (cm c) dx fs)∧fs.lookup m=none:=by
 cases d with
 | obj c' ns ds =>
   have h:(decide (c'=c) && !ns.contains m)=true:=h
   rw [Bool.and_eq_true] at h
   have e:=of_decide_eq_true h.1
   subst e
   rw [Dn] at hd
   obtain ⟨a,dx,fs,r,h1,h2,_⟩:=hd
   refine ⟨a,dx,fs,r,h1,ar9 ?_⟩
   rw [h2]
   simpa using h.2
 | _=>cases h
theorem bp3 {c:Nat} {mn:Str} {msC:List Md} {Kr:KT D V} {fm:List D→Out D} {p:Ap} {ps:List Ap} {ta:TE} {ma:Env→Res D} {t:TA} {m:Env→Res (List D)} (ha:A1J cm E ms p ta ma) (h:AJ cm E ms ps t m) (hl:(p :: ps).length=msC.length)
 (hf:∀ (j:Nat) q,(p :: ps)[j]?=some q→fits ms true q (msC.getD j .F)=true) (hU:∀ d v B U U' H N,Kr d v B U H N→Kr d v B U' H N) :
 PJ cm Kr E ms (aC4 (cm c) mn (spM cm msC Kr fm) [] E ta t) (fun ρ=>(ma ρ).bind fun o=>if ag7 c mn o=true then (m ρ).bind fun ds=>al5 fm (o :: ds) else .bad):=by
 intro B U As σ H ρ Q R P
 refine ha.bnd R P fun o v B1 U1 H1 R1 e1 a1 P1=>?_
 by_cases z:ag7 c mn o=true
 · rw [if_pos z] at P1
   obtain ⟨a,dx,fs,rfl,h1,h2⟩:=aD6 z (A1.read R1 a1)
   refine ⟨a,dx,fs,rfl,h1,h2,h.bnd R1 P1 fun ds vs B2 U2 H2 R2 e2 A P2=>?_⟩
   rw [List.append_nil]
   exact aQ5 (ps:=p :: ps) (ds:=o :: ds) R2 ⟨o,ds,_,vs,rfl,rfl,a1.mono e2,A⟩ hl hf hU P2
 · rw [if_neg z] at P1
   exact P1.elim
end
section
variable {cm:Cm} {E:XK} {ms:List Md} {B U H:Hp} {As:Nat→List Addr} {σ:St} {ρ:Env}
noncomputable def posO:List Ap→Nat→Option Nat
 | [],_=>none
 | p :: r,i=>if p= .O i then some 0 else (posO r i).map (· + 1)
theorem ai9:∀ {ps:List Ap} {i j:Nat},posO ps i=some j→ps[j]?=some (.O i)
 | [],_,_,h=>by cases h
 | p :: r,i,j,h=>by
   unfold posO at h
   by_cases e:p= .O i
   · rw [if_pos e] at h; cases h; rw [e]; rfl
   · rw [if_neg e] at h
     obtain ⟨k,hk,rfl⟩:=Option.map_eq_some_iff.mp h
     rw [List.getElem?_cons_succ]
     exact ai9 hk
noncomputable def lent:List Ap→List Nat
 | []=>[]
 | .O i :: r=>i :: lent r
 | _ :: r=>lent r
noncomputable def borr:List Ap→List Nat
 | []=>[]
 | .Bo i :: r=>i :: borr r
 | _ :: r=>borr r
theorem am5:∀ {ps:List Ap} {i j:Nat},ps[j]?=some (.O i)→i∈lent ps
 | [],_,_,h=>by cases h
 | p :: r,i,j,h=>by
   cases j with
   | zero=>cases h; exact List.mem_cons_self
   | succ j =>
     have:=am5 (ps:=r) (j:=j) (by simpa using h)
     cases p <;> first | exact this | exact List.mem_cons_of_mem _ this
theorem az4:∀ {ps:List Ap} {i:Nat},i∈lent ps→∃ j,posO ps i=some j
 | [],_,h=>by cases h
 | p :: r,i,h=>by
   unfold posO
   by_cases e:p= .O i
   · exact ⟨0,by rw [if_pos e]⟩
   · rw [if_neg e]
     have:i∈lent r:=by
      cases p with
      | O k =>
        rcases List.mem_cons.mp h with z | z
        · exact absurd (by rw [z]) e
        · exact z
      | _=>exact h
     obtain ⟨j,hj⟩:=az4 this
     exact ⟨j + 1,by rw [hj]; rfl⟩
theorem aO3:∀ {ps:List Ap} {i j:Nat},ps[j]?=some (.Bo i)→i∈borr ps
 | [],_,_,h=>by cases h
 | p :: r,i,j,h=>by
   cases j with
   | zero=>cases h; exact List.mem_cons_self
   | succ j =>
     have:=aO3 (ps:=r) (j:=j) (by simpa using h)
     cases p <;> first | exact this | exact List.mem_cons_of_mem _ this
theorem aD9:∀ {ps:List Ap} {i j k:Nat},(lent ps).Nodup→ps[j]?=some (.O i)→ps[k]?=some (.O i)→j=k
 | [],_,_,_,_,h,_=>by cases h
 | p :: r,i,j,k,nd,h1,h2=>by
   cases j with
   | zero =>
     cases k with
     | zero=>rfl
     | succ k =>
       cases h1
       exact absurd (am5 (ps:=r) (j:=k) (by simpa using h2)) (List.nodup_cons.mp nd).1
   | succ j =>
     cases k with
     | zero =>
       cases h2
       exact absurd (am5 (ps:=r) (j:=j) (by simpa using h1)) (List.nodup_cons.mp nd).1
     | succ k =>
       have nd':(lent r).Nodup:=by
        cases p with
        | O x=>exact (List.nodup_cons.mp nd).2
        | _=>exact nd
       rw [aD9 nd' (j:=j) (k:=k) (by simpa using h1) (by simpa using h2)]
theorem aq3:∀ {ps:List Ap} {j:Nat} {ρc ρ:Env},(wbGo ps j ρc ρ).length=ρ.length
 | [],_,_,_=>rfl
 | p :: r,j,ρc,ρ=>by
   cases p with
   | O i=>rw [wbGo,aq3,List.length_set]
   | F=>rw [wbGo,aq3]; all_goals simp
   | U=>rw [wbGo,aq3]; all_goals simp
   | X=>rw [wbGo,aq3]; all_goals simp
   | Bo i=>rw [wbGo,aq3]; all_goals simp
theorem aM4:∀ {ps:List Ap} {j0:Nat} {ρc ρ:Env} {i:Nat},(lent ps).Nodup→i < ρ.length→rg (wbGo ps j0 ρc ρ) i=match posO ps i with | some j=>rg ρc (j0 + j) | none=>rg ρ i
 | [],_,_,_,_,_,_=>rfl
 | p :: r,j0,ρc,ρ,i,nd,hi=>by
   have step:∀ ρ':Env,ρ'.length=ρ.length→(lent r).Nodup→(p≠ .O i)→rg ρ' i=rg ρ i→rg (wbGo r (j0 + 1) ρc ρ') i=match posO (p :: r) i with | some j=>rg ρc (j0 + j) | none=>rg ρ i:=fun ρ' hl nd' hp e=>by
    rw [aM4 nd' (by rw [hl]; exact hi),posO,if_neg hp]
    cases posO r i with
    | none=>exact e
    | some j =>
      show rg ρc (j0 + 1 + j)=rg ρc (j0 + (j + 1))
      rw [show j0 + 1 + j=j0 + (j + 1) by omega]
   cases p with
   | O k =>
     rw [wbGo]
     by_cases e:k=i
     · subst e
       have hn:posO r k=none:=by
        cases q:posO r k with
        | none=>rfl
        | some j=>exact absurd (am5 (ai9 q)) (List.nodup_cons.mp nd).1
       rw [aM4 (List.nodup_cons.mp nd).2 (by rw [List.length_set]; exact hi),hn,posO,if_pos rfl,ao7,if_pos ⟨rfl,hi⟩]
       rfl
     · exact step _ (List.length_set ..) (List.nodup_cons.mp nd).2 (fun z=>e (by cases z; rfl)) (by rw [ao7,if_neg fun z=>e z.1])
   | F=>rw [wbGo]; exact step ρ rfl nd (fun z=>by cases z) rfl; all_goals simp
   | U=>rw [wbGo]; exact step ρ rfl nd (fun z=>by cases z) rfl; all_goals simp
   | X=>rw [wbGo]; exact step ρ rfl nd (fun z=>by cases z) rfl; all_goals simp
   | Bo k=>rw [wbGo]; exact step ρ rfl nd (fun z=>by cases z) rfl; all_goals simp
noncomputable def fit1 (ms:List Md):Ap→Md→Prop
 | .F,.F=>True
 | .F,.R=>True
 | .U,.R=>True
 | .Bo _,.R=>True
 | .O i,.O s=>ms.getD i .F= .O s
 | _,_=>False
noncomputable def fitM (ms:List Md):List Ap→List Md→Prop
 | [],[]=>True
 | p :: ps,m :: r=>fit1 ms p m∧fitM ms ps r
 | _,_=>False
theorem fitM.len:∀ {ps:List Ap} {mc:List Md},fitM ms ps mc→ps.length=mc.length
 | [],[],_=>rfl
 | [],_ :: _,h=>h.elim
 | _ :: _,[],h=>h.elim
 | p :: ps,m :: r,h=>by rw [List.length_cons,List.length_cons,fitM.len h.2]
theorem fitM.get:∀ {ps:List Ap} {mc:List Md} {j:Nat} {p:Ap},fitM ms ps mc→ps[j]?=some p→fit1 ms p (mc.getD j .F)
 | [],_,_,_,_,e=>by cases e
 | _ :: _,[],_,_,h,_=>h.elim
 | p :: ps,m :: r,j,q,h,e=>by
   cases j with
   | zero=>cases e; exact h.1
   | succ j=>rw [List.getD_cons_succ]; exact fitM.get (j:=j) h.2 (by simpa using e)
theorem as4 {mc:List Md} {ρc:Env} {j:Nat} {s:Sh} (h:mc.getD j .F= .O s):rg (am7 mc ρc) j=rg ρc j:=by
 have hj:j < mc.length:=by
  by_cases z:j < mc.length
  · exact z
  · rw [List.getD_eq_getElem?_getD,List.getElem?_eq_none (by omega)] at h; cases h
 unfold am7
 show ((((List.range mc.length).map _)[j]?).join)=_
 rw [List.getElem?_map,List.getElem?_range hj]
 show (some (match mc.getD j .F with | .O _=>rg ρc j | _=>none)).join=_
 rw [h]
 rfl
open Classical in
theorem aQ6 {msC:List Md} {Kr:KT D V} {fm:List D→Out D} {ps:List Ap} {ds:List D} {vs:List V} {Q:VK} (R:Rel cm ms B U As σ H ρ) (A:Ag cm B U H σ ρ ps ds vs) (hf:fitM ms ps msC) (hd:(lent ps).Nodup)
 (hb:∀ i∈borr ps,i∉lent ps) (hU:∀ d v B U U' H N,Kr d v B U H N→Kr d v B U' H N) (P:Mo cm Kr E ms B U σ (al6 ps fm ds ρ) Q):spM cm msC Kr fm vs H Q E:=by
 have hlen:=A.len
 have hl:=hf.len
 have lentO:∀ {i j:Nat},ps[j]?=some (.O i)→∃ d v s,ds[j]?=some d∧vs[j]?=some v∧rg σ i=some v∧rg ρ i=some d∧msC.getD j .F= .O s∧ms.getD i .F= .O s:=fun {i j} e=>by
  obtain ⟨d,v,ed,ev,h1⟩:=A.get e
  have q:=hf.get e
  cases em:msC.getD j .F with
  | O s=>rw [em] at q; exact ⟨d,v,s,ed,ev,h1.1,h1.2,rfl,q⟩
  | F=>rw [em] at q; exact q.elim
  | R=>rw [em] at q; exact q.elim
 have FPd:∃ Uc:Hp,(∀ a,(∃ j i:Nat,ps[j]?=some (.O i)∧a∈As i)→Uc a=none)∧(∀ a,(¬ ∃ j i:Nat,ps[j]?=some (.O i)∧a∈As i)→Uc a=H a) :=
  ⟨fun a=>if (∃ j i:Nat,ps[j]?=some (.O i)∧a∈As i) then none else H a,fun a h=>if_pos h,fun a h=>if_neg h⟩
 obtain ⟨Uc,uc1,uc2⟩:=FPd
 have notFP:∀ {a o},U a=some o→¬ ∃ j i:Nat,ps[j]?=some (.O i)∧a∈As i:=fun {a o} q ⟨j,i,_,ha⟩=>by
  rw [R.un i a ha] at q; cases q
 have sUc:Same U Uc:=fun a o q=>by rw [uc2 a (notFP q)]; exact R.uh a o q
 have ucH:Same Uc H:=fun a o q=>by
  by_cases z:∃ j i:Nat,ps[j]?=some (.O i)∧a∈As i
  · rw [uc1 a z] at q; cases q
  · rw [uc2 a z] at q; exact q
 -- what is owned and not lent
 have other:∀ {i a},i∉lent ps→a∈As i→∃ o,Uc a=some o∧H a=some o:=fun {i a} hi ha=>by
  obtain ⟨o,q⟩:=R.at ha
  refine ⟨o,?_,q⟩
  rw [uc2 a]
  · exact q
  · rintro ⟨j,k,ek,hk⟩
    by_cases e:k=i
    · subst e; exact hi (am5 ek)
    · exact R.dj k i a e hk ha
 have Rc:Rel cm msC B Uc (fun j=>match ps[j]? with | some (.O i)=>As i | _=>[]) (vs.map some) H (ds.map some):=by
  refine ⟨R.bu.trans sUc,ucH,fun j=>?_,fun j k a hne ha hk=>?_,fun j a ha=>?_,fun j=>?_,by rw [List.length_map,List.length_map,hlen.1,hlen.2],R.tb⟩
  · try dsimp only
    split
    · exact R.nd _
    · exact List.nodup_nil
  · try dsimp only at ha hk
    split at ha
    · rename_i i e1
      split at hk
      · rename_i i' e2
        by_cases e:i=i'
        · subst e; exact hne (aD9 hd e1 e2)
        · exact R.dj i i' a e ha hk
      · cases hk
    · cases ha
  · try dsimp only at ha
    split at ha
    · rename_i i e1
      exact uc1 a ⟨j,i,e1,ha⟩
    · cases ha
  · rw [ag3,ag3]
    cases e:ps[j]? with
    | none =>
      have:ps.length≤j:=List.getElem?_eq_none_iff.mp e
      rw [List.getElem?_eq_none (by omega)]
      rfl
    | some p =>
      obtain ⟨d,v,ed,ev,h1⟩:=A.get e
      rw [ed,ev]
      refine ⟨v,rfl,?_⟩
      have q:=hf.get e
      cases p with
      | F =>
        have h1:Dn cm B d v:=h1
        cases em:msC.getD j .F with
        | F=>exact ⟨h1,rfl⟩
        | R=>exact ⟨Dn.mono (R.bu.trans sUc) h1,rfl⟩
        | O s=>rw [em] at q; exact q.elim
      | U =>
        have h1:Dn cm U d v:=h1
        cases em:msC.getD j .F with
        | F=>rw [em] at q; exact q.elim
        | R=>exact ⟨Dn.mono sUc h1,rfl⟩
        | O s=>rw [em] at q; exact q.elim
      | X=>cases em:msC.getD j .F <;> (rw [em] at q; exact q.elim)
      | Bo i =>
        cases em:msC.getD j .F with
        | F=>rw [em] at q; exact q.elim
        | O s=>rw [em] at q; exact q.elim
        | R =>
          refine ⟨?_,rfl⟩
          have l:=R.lo i
          rw [h1.2] at l
          have w:=ao9 l h1.1
          cases e2:ms.getD i .F with
          | F=>rw [e2] at w; exact Dn.mono (R.bu.trans sUc) w.1
          | R=>rw [e2] at w; exact Dn.mono sUc w.1
          | O s =>
            rw [e2] at w
            refine Ow.dn (R.bu.trans sUc) (fun a ha o q=>?_) w
            obtain ⟨o',q1,q2⟩:=other (hb i (aO3 e)) ha
            rw [q2] at q; cases q; exact q1
      | O i =>
        obtain ⟨d',v',s,ed',ev',h2,h3,h4,h5⟩:=lentO e
        rw [h4]
        have l:=R.lo i
        rw [h1.2,h5] at l
        exact ao9 l h1.1
 refine ⟨B,Uc,_,ds,Rc,by omega,?_⟩
 have main:∀ {B' U' H':Hp} {As':Nat→List Addr} {ρc:Env},Rel cm msC B' U' As' (vs.map some) H' (am7 msC ρc)→Ex B Uc B' U' →
  Rel cm ms B' (ov B' U) (fun i=>match posO ps i with | some j=>As' j | none=>As i) σ H' (wbGo ps 0 ρc ρ)∧Ex B U B' (ov B' U)∧∀ N,NewM N U' As'→NewM N (ov B' U) (fun i=>match posO ps i with | some j=>As' j | none=>As i):=fun {B' U' H' As' ρc} R' e'=>by
  have su:Same U (ov B' U):=fun a o q=>by
   unfold ov
   cases z:B' a with
   | none=>exact q
   | some o' =>
     have h1:=e'.u a o (sUc a o q)
     have h2:=R'.bu a o' z
     rw [h1] at h2; cases h2; rfl
  have uh:Same (ov B' U) H':=fun a o q=>by
   unfold ov at q
   cases z:B' a with
   | none=>rw [z] at q; exact R'.uh a o (e'.u a o (sUc a o q))
   | some o'=>rw [z] at q; cases q; exact R'.bh a _ z
  have bu:Same B' (ov B' U):=fun a o q=>by unfold ov; rw [q]
  have free:∀ {a},U' a=none→ov B' U a=none:=fun {a} h=>by
   unfold ov
   cases z:B' a with
   | none=>exact sUc.free (e'.u.free h)
   | some o=>have:=R'.bu a o z; rw [h] at this; cases this
  have there:∀ {i a},posO ps i=none→a∈As i→∃ o,U' a=some o∧H a=some o∧H' a=some o:=fun {i a} hi ha=>by
   obtain ⟨o,q1,q2⟩:=other (fun z=>by obtain ⟨j,hj⟩:=az4 z; rw [hi] at hj; cases hj) ha
   exact ⟨o,e'.u a o q1,q2,R'.uh a o (e'.u a o q1)⟩
  refine ⟨⟨bu,uh,fun i=>?_,fun i k a hne ha hk=>?_,fun i a ha=>?_,fun i=>?_,by rw [aq3]; exact R.len,R'.tb⟩,⟨e'.b,su,fun a o q=>?_⟩,fun N n=>⟨n.nd,fun a ha=>free (n.un a ha),fun a ha i=>?_⟩⟩
  · try dsimp only
    split
    · exact R'.nd _
    · exact R.nd _
  · try dsimp only at ha hk
    split at ha
    · rename_i j ej
      split at hk
      · rename_i j' ej'
        refine R'.dj j j' a (fun z=>hne ?_) ha hk
        subst z
        have h1:=ai9 ej
        have h2:=ai9 ej'
        rw [h1] at h2; cases h2; rfl
      · rename_i ek
        obtain ⟨o,q,_⟩:=there ek hk
        rw [R'.un j a ha] at q; cases q
    · rename_i ei
      obtain ⟨o,q,_⟩:=there ei ha
      split at hk
      · rename_i j' ej'
        rw [R'.un j' a hk] at q; cases q
      · exact R.dj i k a hne ha hk
  · try dsimp only at ha
    split at ha
    · rename_i j ej
      exact free (R'.un j a ha)
    · rename_i ei
      obtain ⟨o,q,_⟩:=there ei ha
      unfold ov
      cases z:B' a with
      | none=>exact R.un i a ha
      | some o' =>
        rcases e'.nb a o' z with w | w | w
        · have:=R.bu a o' w; rw [R.un i a ha] at this; cases this
        · obtain ⟨o2,q1,q2⟩:=other (fun z=>by obtain ⟨j,hj⟩:=az4 z; rw [ei] at hj; cases hj) ha
          rw [w] at q1; cases q1
        · obtain ⟨o2,_,q2,q3⟩:=there ei ha
          rw [R'.bh a o' z] at q3; cases q3
          exact (R.nt ha q2 w).elim
  · try dsimp only
    cases ep:posO ps i with
    | some j =>
      obtain ⟨d,v,s,ed,ev,h2,h3,h4,h5⟩:=lentO (ai9 ep)
      have hi:i < ρ.length:=by
       have:=ai8 h3
       exact (List.getElem?_eq_some_iff.mp this).1
      rw [aM4 hd hi,ep]
      try dsimp only
      have l:=R'.lo j
      rw [as4 h4,ag3,ev,h4] at l
      rw [h2,h5,Nat.zero_add]
      exact l
    | none =>
      try dsimp only
      by_cases hi:i < ρ.length
      · rw [aM4 hd hi,ep]
        refine (R.lo i).mono e'.b su fun a ha=>?_
        obtain ⟨o,_,q1,q2⟩:=there ep ha
        rw [q1,q2]
      · have h1:rg (wbGo ps 0 ρc ρ) i=none:=by
         unfold rg
         rw [List.getElem?_eq_none (by rw [aq3]; omega)]
         rfl
        have h2:rg ρ i=none:=by
         unfold rg
         rw [List.getElem?_eq_none (by omega)]
         rfl
        have l:=R.lo i
        rw [h2] at l
        rw [h1]
        exact l
  · rcases e'.nb a o q with w | w | w
    · exact .inl w
    · exact .inr (.inl (sUc.free w))
    · exact .inr (.inr w)
  · try dsimp only
    cases ep:posO ps i with
    | some j=>exact n.ap a ha j
    | none =>
      intro z
      obtain ⟨o,q,_⟩:=there ep z
      rw [n.un a ha] at q; cases q
 cases e:fm ds with
 | ok d ρ' =>
   unfold al6 at P
   rw [e] at P
   intro v B' U' As' H' N R' e' n' k
   obtain ⟨R2,e2,n2⟩:=main R' e'
   exact P v B' _ _ H' N R2 e2 (n2 N n') (hU d v B' U' (ov B' U) H' N k)
 | exc c ρ' =>
   unfold al6 at P
   rw [e] at P
   intro B' U' As' H' R' e'
   obtain ⟨R2,e2,n2⟩:=main R' e'
   exact P B' _ _ H' R2 e2
 | bad =>
   unfold al6 at P
   rw [e] at P
   exact P
end
noncomputable def aw1 (c:Nat) (fm:List D→Out D) (ds:List D):Res D:=match fm (.obj c [] [] :: ds) with
 | .ok .non ρ'=>(match rg ρ' 0 with | some d=> .ok d | none=> .bad)
 | .ok _ _=> .bad
 | .exc c _=> .exc c
 | .bad=> .bad
section
variable {cm:Cm} {E:XK} {ms:List Md} {B U H:Hp} {As:Nat→List Addr} {σ:St} {ρ:Env} {K:PySem.W.Frag}
theorem bN4 {msC:List Md} {Kr:KT D V} {fm:List D→Out D} {ps:List Ap} {t:TA} {m:Env→Res (List D)} (h:AJ cm E ms ps t m) (hf:fitM ms ps msC) (hd:(lent ps).Nodup) (hb:∀ i∈borr ps,i∉lent ps)
 (hU:∀ d v B U U' H N,Kr d v B U H N→Kr d v B U' H N):MJ cm Kr E ms (aQ8 (spM cm msC Kr fm) [] E t) (fun ρ=>((m ρ).up ρ).bind (al6 ps fm)):=by
 intro B U As σ H ρ Q R P
 replace P:Mo cm Kr E ms B U σ (((m ρ).up ρ).bind (al6 ps fm)) Q:=P
 refine h B U As σ H ρ _ R ?_
 cases e:m ρ with
 | ok ds =>
   rw [e] at P
   intro vs B1 U1 H1 N R1 g1 n1 A
   rw [List.append_nil]
   exact aQ6 R1 A hf hd hb hU (Mo.at (r:=al6 ps fm ds ρ) P g1.toEx)
 | exc c=>rw [e] at P; exact fun B1 U1 H1 R1 g1=>P B1 U1 As H1 R1 g1.toEx
 | bad=>rw [e] at P; exact P
theorem bN3 {c:Nat} {mn:Str} {msC:List Md} {Kr:KT D V} {fm:List D→Out D} {p:Ap} {ps:List Ap} {ta:TE} {ma:Env→Res D} {t:TA} {m:Env→Res (List D)} (ha:A1J cm E ms p ta ma) (h:AJ cm E ms ps t m) (hf:fitM ms (p :: ps) msC) (hd:(lent (p :: ps)).Nodup)
 (hb:∀ i∈borr (p :: ps),i∉lent (p :: ps)) (hU:∀ d v B U U' H N,Kr d v B U H N→Kr d v B U' H N) :
 MJ cm Kr E ms (aC4 (cm c) mn (spM cm msC Kr fm) [] E ta t) (fun ρ=>((ma ρ).up ρ).bind fun o ρ=>if ag7 c mn o=true then ((m ρ).up ρ).bind fun ds ρ=>al6 (p :: ps) fm (o :: ds) ρ else .bad):=by
 intro B U As σ H ρ Q R P
 replace P:Mo cm Kr E ms B U σ (((ma ρ).up ρ).bind fun o ρ=>if ag7 c mn o=true then ((m ρ).up ρ).bind fun ds ρ=>al6 (p :: ps) fm (o :: ds) ρ else .bad) Q:=P
 refine ha B U As σ H ρ _ R ?_
 cases e:ma ρ with
 | ok o =>
   rw [e] at P
   intro v B1 U1 H1 N R1 g1 n1 a1
   replace P:Mo cm Kr E ms B U σ (if ag7 c mn o=true then ((m ρ).up ρ).bind fun ds ρ=>al6 (p :: ps) fm (o :: ds) ρ else .bad) Q:=P
   by_cases z:ag7 c mn o=true
   · rw [if_pos z] at P
     obtain ⟨a,dx,fs,rfl,h1,h2⟩:=aD6 z (A1.read R1 a1)
     refine ⟨a,dx,fs,rfl,h1,h2,h B1 U1 As σ H1 ρ _ R1 ?_⟩
     cases e2:m ρ with
     | ok ds =>
       rw [e2] at P
       intro vs B2 U2 H2 N2 R2 g2 n2 A
       rw [List.append_nil]
       exact aQ6 (ps:=p :: ps) (ds:=o :: ds) R2 ⟨o,ds,_,vs,rfl,rfl,a1.mono g2,A⟩ hf hd hb hU (Mo.at (r:=al6 (p :: ps) fm (o :: ds) ρ) P (g1.toEx.trans g2.toEx))
     | exc c=>rw [e2] at P; exact fun B2 U2 H2 R2 g2=>P B2 U2 As H2 R2 (g1.toEx.trans g2.toEx)
     | bad=>rw [e2] at P; exact P
   · rw [if_neg z] at P
     exact P.elim
 | exc c=>rw [e] at P; exact fun B1 U1 H1 R1 g1=>P B1 U1 As H1 R1 g1.toEx
 | bad=>rw [e] at P; exact P
theorem bC5 {c:Nat} {sh:List (Str×Sh)} {msC:List Md} {fm:List D→Out D} {ps:List Ap} {ds:List D} {vs:List V} {Q:VK} (R:Rel cm ms B U As σ H ρ) (A:Ag cm B U H σ ρ ps ds vs) (hl:ps.length + 1=msC.length) (h0:msC.getD 0 .F= .O (.ob sh))
 (hf:∀ (j:Nat) p,ps[j]?=some p→fits ms true p (msC.getD (j + 1) .F)=true) (P:Po cm (KO cm (.ob sh)) E ms B U As σ H ρ (aw1 c fm ds) Q) (x dx:Addr) (hx:H x=none) (hdx:H dx=none) (hne:dx≠x) :
 spM cm msC (KR cm .F) fm (.ref x :: vs) (upd (upd H dx (.own x)) x (.ins (cm c) dx [])) (fun v H2=>v= .non∧Q (.ref x) H2) E:=by
 have hlen:=A.len
 have sH:Same H (upd (upd H dx (.own x)) x (.ins (cm c) dx [])):=Gd.aM8 hx (Gd.ae0 hdx)
 have hUc:∃ Uc:Hp,Uc x=none∧∀ a,a≠x→Uc a=upd (upd H dx (.own x)) x (.ins (cm c) dx []) a:=⟨fun a=>if a=x then none else upd (upd H dx (.own x)) x (.ins (cm c) dx []) a,if_pos rfl,fun a h=>if_neg h⟩
 obtain ⟨Uc,u1,u2⟩:=hUc
 have sUc:Same H Uc:=fun a o q=>by rw [u2 a (ab3 q hx)]; exact sH a o q
 have ucH:Same Uc (upd (upd H dx (.own x)) x (.ins (cm c) dx [])):=fun a o q=>by
  by_cases z:a=x
  · subst z; rw [u1] at q; cases q
  · rw [u2 a z] at q; exact q
 have freeU:∀ {a},Uc a=none→H a=none:=fun h=>sUc.free h
 have Rc:Rel cm msC B Uc (fun j=>match j with | 0=>[x] | _ + 1=>[]) ((.ref x :: vs).map some) (upd (upd H dx (.own x)) x (.ins (cm c) dx [])) ((.obj c [] [] :: ds).map some):=by
  refine ⟨R.bh.trans sUc,ucH,fun j=>?_,fun j k a hne' ha hk=>?_,fun j a ha=>?_,fun j=>?_,by rw [List.length_map,List.length_map,List.length_cons,List.length_cons,hlen.1,hlen.2],R.tb⟩
  · cases j with
    | zero=>simp
    | succ j=>exact List.nodup_nil
  · cases j with
    | zero =>
      cases k with
      | zero=>exact hne' rfl
      | succ k=>cases hk
    | succ j=>cases ha
  · cases j with
    | zero=>rw [List.mem_singleton.mp ha]; exact u1
    | succ j=>cases ha
  · rw [ag3,ag3]
    cases j with
    | zero =>
      rw [h0]
      refine ⟨.ref x,rfl,?_⟩
      show Ow cm B _ (.obj c [] []) (.ob sh) (.ref x) [x]
      rw [Ow]
      exact ⟨x,dx,[],[],rfl,ac1,rfl,rfl,by rw [Owf]; exact ⟨rfl,rfl⟩⟩
    | succ j =>
      rw [List.getElem?_cons_succ,List.getElem?_cons_succ]
      cases e:ps[j]? with
      | none =>
        have:ps.length≤j:=List.getElem?_eq_none_iff.mp e
        rw [List.getElem?_eq_none (by omega)]
        rfl
      | some p =>
        obtain ⟨d,v,ed,ev,h1⟩:=A.get e
        rw [ed,ev]
        refine ⟨v,rfl,?_⟩
        have hr:=A1.read R h1
        have q:=hf j p e
        cases em:msC.getD (j + 1) .F with
        | F =>
          rw [em] at q
          cases p with
          | F=>exact ⟨h1,rfl⟩
          | _=>cases q
        | R=>exact ⟨Dn.mono sUc hr,rfl⟩
        | O s=>rw [em] at q; cases p <;> cases q
 refine ⟨B,Uc,_,.obj c [] [] :: ds,Rc,by rw [List.length_cons]; omega,?_⟩
 have main:∀ {B' U' H':Hp} {As':Nat→List Addr} {ρc:Env},Rel cm msC B' U' As' ((.ref x :: vs).map some) H' ρc→Ex B Uc B' U'→Rel cm ms B' (ov B' U) As σ H' ρ∧Gw B U H B' (ov B' U) H'∧∀ a,U' a=none→ov B' U a=none:=fun {B' U' H' As' ρc} R' e'=>by
  have sU:Same U U':=(R.uh.trans sUc).trans e'.u
  have su:Same U (ov B' U):=fun a o q=>by
   unfold ov
   cases z:B' a with
   | none=>exact q
   | some o' =>
     have h1:=sU a o q
     have h2:=R'.bu a o' z
     rw [h1] at h2; cases h2; rfl
  have sh:Same H H':=(sUc.trans e'.u).trans R'.uh
  have uh:Same (ov B' U) H':=fun a o q=>by
   unfold ov at q
   cases z:B' a with
   | none=>rw [z] at q; exact sh a o (R.uh a o q)
   | some o'=>rw [z] at q; cases q; exact R'.bh a _ z
  have bu:Same B' (ov B' U):=fun a o q=>by unfold ov; rw [q]
  have new:∀ a o,B' a=some o→B a=some o∨H a=none∨az6 o:=fun a o q=>(e'.nb a o q).imp id fun z=>z.imp freeU id
  refine ⟨R.grow e'.b su sh bu uh fun i a ha=>?_,⟨⟨e'.b,su,fun a o q=>?_⟩,sh,fun a o q=>?_⟩,fun a h=>?_⟩
  · unfold ov
    cases z:B' a with
    | none=>exact R.un i a ha
    | some o =>
      obtain ⟨o',q'⟩:=R.at ha
      rcases new a o z with q | q | q
      · have:=R.bu a o q; rw [R.un i a ha] at this; cases this
      · rw [q] at q'; cases q'
      · have e1:=sh _ _ q'
        rw [R'.bh a o z] at e1; cases e1; exact (R.nt ha q' q).elim
  · rcases new a o q with q | q | q
    · exact .inl q
    · exact .inr (.inl (R.uh.free q))
    · exact .inr (.inr q)
  · unfold ov at q
    cases z:B' a with
    | none=>rw [z] at q; exact .inl q
    | some o' =>
      rw [z] at q
      cases q
      rcases new a _ z with q | q
      · exact .inl (R.bu a _ q)
      · exact .inr q
  · unfold ov
    cases z:B' a with
    | none=>exact sU.free h
    | some o=>have:=R'.bu a o z; rw [h] at this; cases this
 unfold aw1 at P
 cases e:fm (.obj c [] [] :: ds) with
 | ok d ρ' =>
   rw [e] at P
   intro v B' U' As' H' N R' e' n' k
   obtain ⟨R2,g2,fr2⟩:=main R' e'
   cases d with
   | non =>
     have k:Dn cm B' .non v:=k
     rw [Dn] at k
     refine ⟨k,?_⟩
     replace P:Po cm (KO cm (.ob sh)) E ms B U As σ H ρ (match rg ρ' 0 with | some d=> .ok d | none=> .bad) Q:=P
     have l:=R'.lo 0
     rw [as4 h0,h0] at l
     cases e0:rg ρ' 0 with
     | none=>rw [e0] at P; exact P.elim
     | some d =>
       rw [e0] at P l
       have w:=ao9 l (v:= .ref x) rfl
       exact P (.ref x) B' _ H' (As' 0) R2 g2 ⟨R'.nd 0,fun a ha=>freeU (e'.u.free (R'.un 0 a ha)),fun a ha=>fr2 a (R'.un 0 a ha)⟩ w
   | _=>exact P.elim
 | exc c' ρ' =>
   rw [e] at P
   intro B' U' As' H' R' e'
   obtain ⟨R2,g2,fr2⟩:=main R' e'
   exact P B' _ H' R2 g2
 | bad=>rw [e] at P; exact P
theorem bJ4 {c:Nat} {sh:List (Str×Sh)} {msC:List Md} {fm:List D→Out D} {ps:List Ap} {t:TA} {m:Env→Res (List D)} (h:AJ cm E ms ps t m) (hl:ps.length + 1=msC.length) (h0:msC.getD 0 .F= .O (.ob sh))
 (hf:∀ (j:Nat) p,ps[j]?=some p→fits ms true p (msC.getD (j + 1) .F)=true):PJ cm (KO cm (.ob sh)) E ms (bg0 (cm c) (spM cm msC (KR cm .F) fm) [] E t) (fun ρ=>(m ρ).bind (aw1 c fm)):=by
 intro B U As σ H ρ Q R P
 refine h.bnd R P fun ds vs B1 U1 H1 R1 e1 A P1=>?_
 intro x dx hx hdx hne
 rw [List.append_nil]
 exact bC5 R1 A hl h0 hf P1 x dx hx hdx hne
structure Pth (cm:Cm) (ms:List Md) (t:TE) (get:Env→Option D) (set:Env→D→Env):Prop where
 rd:∀ {B U:Hp} {As:Nat→List Addr} {σ:St} {H:Hp} {ρ:Env} {d:D},Rel cm ms B U As σ H ρ→get ρ=some d→∃ v A,(∀ Q:VK,Q v H→t σ H Q)∧Ow cm B H d (.ct .fz) v A∧(∀ a∈A,∃ i,a∈As i) ∧
  ∀ B1 U1 H1,Rel cm ms B1 U1 As σ H1 ρ→Same B B1→Same H H1→∀ a∈A,∀ o' d',Ow cm B1 (upd H1 a o') d' (.ct .fz) v A→Rel cm ms B1 U1 As σ (upd H1 a o') (set ρ d')
theorem Rel.mut (R:Rel cm ms B U As σ H ρ) {i:Nat} {a:Addr} {o':HO} {d d':D} {v:V} {sh:Sh} (hm:ms.getD i .F= .O sh) (hv:rg σ i=some v) (hd:rg ρ i=some d) (ha:a∈As i) (w:Ow cm B (upd H a o') d' sh v (As i)) :
 Rel cm ms B U As σ (upd H a o') (ρ.set i (some d')):=by
 have hi:i < ρ.length:=(List.getElem?_eq_some_iff.mp (ai8 hd)).1
 refine ⟨R.bu,fun b u q=>?_,R.nd,R.dj,R.un,fun j=>?_,by rw [List.length_set]; exact R.len,R.tb⟩
 · rw [ab5 (ab3 q (R.un i a ha))]
   exact R.uh b u q
 · rw [ao7]
   by_cases e:i=j
   · subst e
     rw [if_pos ⟨rfl,hi⟩,hm]
     exact ⟨v,hv,w⟩
   · rw [if_neg fun z=>e z.1]
     exact (R.lo j).mono (Same.refl _) (Same.refl _) fun b hb=>ab5 (fun z:b=a=>R.dj i j a e ha (z ▸ hb))
noncomputable def bg5 (i:Nat):Env→Option D:=fun ρ=>rg ρ i
noncomputable def bg4 (i:Nat):Env→D→Env:=fun ρ d=>ρ.set i (some d)
theorem pthV {i:Nat} (hm:ms.getD i .F= .O (.ct .fz)):Pth cm ms (tVar i) (bg5 i) (bg4 i) where
 rd:=fun {B U As σ H ρ d} R e=>by
  replace e:rg ρ i=some d:=e
  have l:=R.lo i
  rw [e,hm] at l
  obtain ⟨v,hv,w⟩:=l
  exact ⟨v,As i,fun Q q=>⟨v,ai8 hv,q⟩,w,fun a ha=>⟨i,ha⟩,fun B1 U1 H1 R1 _ _ a ha o' d' w'=>R1.mut hm hv e ha w'⟩
theorem Owf.upd {sh:List (Str×Sh)} {f:Str} {B H:Hp}:∀ {fs:List (Str×V)} {ds:List D} {A:List Addr} {d:D},Owf cm B H ds (fs.map (·.1)) sh (fs.map (·.2)) A→A.Nodup→ae8 (fs.map (·.1)) ds f=some d →
 ∃ v A1,fs.lookup f=some v∧Ow cm B H d ((sh.lookup f).getD .fz) v A1∧(∀ a∈A1,a∈A)∧∀ B1 H1 d',Same B B1→(∀ b∈A,b∉A1→H1 b=H b)→Ow cm B1 H1 d' ((sh.lookup f).getD .fz) v A1→Owf cm B1 H1 (al8 (fs.map (·.1)) ds f d') (fs.map (·.1)) sh (fs.map (·.2)) A
 | [],ds,A,d,h,nd,e=>by cases ds <;> cases e
 | p :: fs,ds,A,d,h,nd,e=>by
   cases ds with
   | nil=>cases e
   | cons d0 ds =>
     rw [List.map_cons,List.map_cons,Owf] at h
     obtain ⟨n,ns',x,r,X1,X2,hn,h0,h1,h2,h3⟩:=h
     cases hn
     cases h0
     subst h1
     obtain ⟨nd1,nd2,nd3⟩:=List.nodup_append.mp nd
     rw [List.map_cons] at e
     unfold ae8 at e
     by_cases q:p.1=f
     · rw [if_pos q] at e
       cases e
       rw [q] at h2
       refine ⟨p.2,X1,by rw [List.lookup_cons,← q,beq_self_eq_true],h2,fun a ha=>List.mem_append_left _ ha,fun B1 H1 d' sb k w=>?_⟩
       rw [List.map_cons,List.map_cons,al8,if_pos q,Owf]
       exact ⟨p.1,_,p.2,_,X1,X2,rfl,rfl,rfl,by rw [q]; exact w,Owf.mono sb (fun b hb=>k b (List.mem_append_right _ hb) fun z=>nd3 b z b hb rfl) h3⟩
     · rw [if_neg q] at e
       obtain ⟨v,A1,hv,ow,hA,cl⟩:=Owf.upd h3 nd2 e
       have hb:(f == p.1)=false:=beq_eq_false_iff_ne.mpr fun z=>q z.symm
       refine ⟨v,A1,by rw [List.lookup_cons,hb]; exact hv,ow,fun a ha=>List.mem_append_right _ (hA a ha),fun B1 H1 d' sb k w=>?_⟩
       rw [List.map_cons,List.map_cons,al8,if_neg q,Owf]
       exact ⟨p.1,_,p.2,_,X1,X2,rfl,rfl,rfl,Ow.mono sb (fun b hb=>k b (List.mem_append_left _ hb) fun z=>nd3 b hb b (hA b z) rfl) h2,cl B1 H1 d' sb (fun b hb hb1=>k b (List.mem_append_right _ hb) hb1) w⟩
noncomputable def getF (c:Nat) (f:Str) (i:Nat):Env→Option D:=fun ρ=>match rg ρ i with
 | some (.obj c' ns vs)=>if c'=c then ae8 ns vs f else none
 | _=>none
noncomputable def setF (f:Str) (i:Nat):Env→D→Env:=fun ρ d=>match rg ρ i with
 | some (.obj c ns vs)=>ρ.set i (some (.obj c ns (al8 ns vs f d)))
 | _=>ρ
theorem pthF {c:Nat} {f:Str} {i:Nat} {sh:List (Str×Sh)} (hc:Cls K (cm c)) (hn:NoAttr K (cm c) f) (hm:ms.getD i .F= .O (.ob sh)) (hf:(sh.lookup f).getD .fz= .ct .fz):Pth cm ms (tFld K (tVar i) f) (getF c f i) (setF f i) where
 rd:=fun {B U As σ H ρ d} R e=>by
  have l:=R.lo i
  unfold getF at e
  cases e0:rg ρ i with
  | none=>rw [e0] at e; cases e
  | some d0 =>
    cases d0 with
    | obj c' ns vs =>
      rw [e0] at e
      replace e:(if c'=c then ae8 ns vs f else none)=some d:=e
      by_cases q:c'=c
      · subst q
        rw [if_pos rfl] at e
        rw [e0,hm] at l
        obtain ⟨v,hv,w⟩:=l
        have w0:Ow cm B H (.obj c' ns vs) (.ob sh) v (As i):=w
        rw [Ow] at w0
        obtain ⟨a,dx,xs,A',rfl,h1,h2,h3,h4⟩:=w0
        subst h2
        have nd:=R.nd i
        rw [h3] at nd
        obtain ⟨nd1,nd2⟩:=List.nodup_cons.mp nd
        obtain ⟨u,A1,hu,ow,hA,cl⟩:=Owf.upd h4 nd2 e
        rw [hf] at ow
        refine ⟨u,A1,fun Q q=>⟨.ref a,ai8 hv,a,_,dx,xs,u,rfl,h1,hc,hn,hu,q⟩,ow,fun b hb=>⟨i,by rw [h3]; exact List.mem_cons_of_mem _ (hA b hb)⟩,fun B1 U1 H1 R1 sb sh1 b hb o' d' w'=>?_⟩
        have hbi:b∈As i:=by rw [h3]; exact List.mem_cons_of_mem _ (hA b hb)
        have:setF f i ρ d'=ρ.set i (some (.obj c' (xs.map (·.1)) (al8 (xs.map (·.1)) vs f d'))):=by unfold setF; rw [e0]
        rw [this]
        refine R1.mut hm hv e0 hbi ?_
        rw [h3,Ow]
        have nab:a≠b:=fun z=>nd1 (by rw [z]; exact hA b hb)
        refine ⟨a,dx,xs,A',rfl,by rw [ab5 nab]; exact sh1 _ _ h1,rfl,rfl,cl B1 _ d' sb (fun y hy hy1=>?_) (by rw [hf]; exact w')⟩
        have:y≠b:=fun z=>hy1 (by rw [z]; exact hb)
        rw [ab5 this]
        obtain ⟨o,ho⟩:=Owf.at h4 hy
        rw [ho,sh1 _ _ ho]
      · rw [if_neg q] at e
        cases e
    | _=>rw [e0] at e; cases e
noncomputable def lstK (set:Env→D→Env) (ρ:Env):Option (D×List D)→Out D
 | some (d,es)=> .ok d (set ρ (.lst es))
 | none=> .bad
noncomputable def lstR (set:Env→D→Env) (f:List D→D→Option (D×List D)) (ρ:Env) (xs:List D):Res D→Out D
 | .ok x=>lstK set ρ (f xs x)
 | .exc c=> .exc c ρ
 | .bad=> .bad
noncomputable def lst1 (get:Env→Option D) (set:Env→D→Env) (f:List D→D→Option (D×List D)) (me:Env→Res D):Env→Out D:=fun ρ=>match get ρ with
 | some (.lst xs)=>lstR set f ρ xs (me ρ)
 | _=> .bad
theorem Ow.lst {d:D} {v:V} {A:List Addr} {ds:List D} (w:Ow cm B H d (.ct .fz) v A) (e:d= .lst ds):∃ a xs,v= .ref a∧H a=some (.lst xs)∧A=[a]∧Dns cm B ds xs:=by
 subst e
 rw [Ow] at w
 obtain ⟨a,xs,A',r,h1,h2,h3⟩:=w
 obtain ⟨h4,h5⟩:=Ows.fz h3
 exact ⟨a,xs,r,h1,by rw [h2,h5],h4⟩
theorem Ow.lst' {a:Addr} {ds:List D} {xs:List V} (h:H a=some (.lst xs)) (d:Dns cm B ds xs):Ow cm B H (.lst ds) (.ct .fz) (.ref a) [a]:=by
 rw [Ow]
 exact ⟨a,xs,[],rfl,h,rfl,Ows.of d⟩
section
variable {t:TE} {get:Env→Option D} {set:Env→D→Env}
theorem bN5 {k:Kd} {r:V→List V→Hp→VK→Prop} {f:List D→D→Option (D×List D)} {te:TE} {me:Env→Res D} (p:Pth cm ms t get set) (he:PJ cm (KR cm k) E ms te me)
 (hr:∀ (B U H:Hp) (a:Addr) (ds:List D) (xs:List V) (x:D) (u:V) (d:D) (es:List D) (Q:VK),Same B U→Same U H→H a=some (.lst xs)→Dns cm B ds xs→Dn cm (hp k B U H) x u→f ds x=some (d,es)→(∀ v ys,Dn cm B d v→Dns cm B es ys→Q v (upd H a (.lst ys)))→r (.ref a) [u] H Q) :
 MJ cm (KR cm .F) E ms (tBM K "list" r t (ag4 te tNil)) (lst1 get set f me):=by
 intro B U As σ H ρ Q R P
 unfold lst1 at P
 cases e:get ρ with
 | none=>rw [e] at P; exact P.elim
 | some d0 =>
   cases d0 with
   | lst ds =>
     rw [e] at P
     replace P:Mo cm (KR cm .F) E ms B U σ (lstR set f ρ ds (me ρ)) Q:=P
     obtain ⟨v,A,ht,w,hA,cl⟩:=p.rd R e
     obtain ⟨a,xs,rfl,h1,rfl,h2⟩:=w.lst rfl
     refine ht _ ⟨.inl ⟨rfl,xs,SqL.of h1⟩,he B U As σ H ρ _ R ?_⟩
     cases em:me ρ with
     | ok x =>
       rw [em] at P
       replace P:Mo cm (KR cm .F) E ms B U σ (lstK set ρ (f ds x)) Q:=P
       intro u B1 U1 H1 N R1 g1 n1 hu
       cases ef:f ds x with
       | none=>rw [ef] at P; exact P.elim
       | some de =>
         obtain ⟨d,es⟩:=de
         rw [ef] at P
         refine hr B1 U1 H1 a ds xs x u d es Q R1.bu R1.uh (g1.h _ _ h1) (h2.mono g1.b) hu ef fun v ys hv hy=>?_
         exact P v B1 U1 As _ [] (cl B1 U1 H1 R1 g1.b g1.h a List.mem_cons_self _ _ (Ow.lst' ac1 hy)) g1.toEx NewM.nil hv
     | exc c=>rw [em] at P; exact fun B1 U1 H1 R1 g1=>P B1 U1 As H1 R1 g1.toEx
     | bad=>rw [em] at P; exact P.elim
   | _=>rw [e] at P; exact P.elim
noncomputable def appF (xs:List D) (x:D):Option (D×List D):=if xs.length < ac0 then some (.non,xs ++ [x]) else none
theorem aO6 {te:TE} {me:Env→Res D} (p:Pth cm ms t get set) (he:PJ cm (KR cm .F) E ms te me):MJ cm (KR cm .F) E ms (tBM K "list" aW9 t (ag4 te tNil)) (lst1 get set appF me) :=
 bN5 (f:=appF) p he fun B U H a ds xs x u d es Q _ _ h1 h2 hu ef k=>by
  unfold appF at ef
  by_cases z:ds.length < ac0
  · rw [if_pos z] at ef
    cases ef
    exact ⟨a,xs,u,rfl,rfl,h1,ao0 (Nat.le_of_lt (by rw [← h2.len]; exact z)),k .non _ (by rw [Dn]) (h2.append (Dns.one hu))⟩
  · rw [if_neg z] at ef
    cases ef
end
end
section
variable {cm:Cm} {E:XK} {Kr:KT D V} {pr:Nat→Bool} {ms:List Md} {B U H:Hp} {As:Nat→List Addr} {σ:St} {ρ:Env} {K:PySem.W.Frag}
noncomputable def bb5 (set:Env→D→Env) (x d:D) (ρ:Env):Res D→SO
 | .ok k=>(match bb6 d k x with | some d'=> .nx (set ρ d') | none=> .bad)
 | .exc c=> .exc c ρ
 | .bad=> .bad
noncomputable def bl2 (get:Env→Option D) (set:Env→D→Env) (mk:Env→Res D) (mv:Env→Out D):Env→SO:=fun ρ=>ax1 (mv ρ) fun x ρ1=>match get ρ1 with
 | some d=>bb5 set x d ρ1 (mk ρ1)
 | none=> .bad
section
variable {κ:Type} [DecidableEq κ]
theorem aC1 {kvs:List (κ×V)} {k:κ}:(kvs.any fun kv=>decide (kv.1=k))=hasK (kvs.map (·.1)) k:=by
 unfold hasK
 rw [List.any_map]
 rfl
theorem aN2 {kvs:List (κ×V)} {k:κ} {v:V} (h:hasK (kvs.map (·.1)) k=true):(putK kvs k v).map (·.1)=kvs.map (·.1):=by
 unfold putK
 rw [aC1,if_pos h,List.map_map]
 refine List.map_congr_left fun p _=>?_
 show (if p.1=k then (p.1,v) else p).1=p.1
 split <;> rfl
theorem ag5 {kvs:List (κ×V)} {k:κ} {v:V} (h:¬ hasK (kvs.map (·.1)) k=true):putK kvs k v=kvs ++ [(k,v)]:=by
 unfold putK
 rw [aC1,if_neg h]
theorem ay8 {G:Hp} {x:D} {v:V} {k:κ} (hx:Dn cm G x v):∀ {kvs:List (κ×V)} {ds:List D},Dns cm G ds (kvs.map (·.2))→Dns cm G (putV (kvs.map (·.1)) ds k x) ((kvs.map fun kv=>if kv.1=k then (kv.1,v) else kv).map (·.2))
 | [],ds,h=>by cases ds <;> exact (by rw [List.map_nil,List.map_nil,List.map_nil]; unfold putV; rw [Dns])
 | p :: kvs,ds,h=>by
   cases ds with
   | nil=>rw [Dns] at h; cases h
   | cons d ds =>
     rw [List.map_cons,Dns] at h
     obtain ⟨y,r,e,h1,h2⟩:=h
     cases e
     rw [List.map_cons,List.map_cons,List.map_cons,putV,Dns]
     refine ⟨_,_,rfl,?_,ay8 hx h2⟩
     by_cases q:p.1=k
     · rw [if_pos q,if_pos q]; exact hx
     · rw [if_neg q,if_neg q]; exact h1
end
theorem Ow.dT {d:D} {v:V} {A:List Addr} {ks:List (List Key)} {ds:List D} (w:Ow cm B H d (.ct .fz) v A) (e:d= .dT ks ds):∃ (a:Addr) (kvs:List (List Key×V)),v= .ref a∧H a=some (.dT kvs)∧kvs.map (·.1)=ks∧A=[a]∧Dns cm B ds (kvs.map (·.2)):=by
 subst e
 rw [Ow] at w
 obtain ⟨a,xs,A',r,h1,h2,h3,h4⟩:=w
 obtain ⟨h5,h6⟩:=Ows.fz h4
 exact ⟨a,xs,r,h1,h2,by rw [h3,h6],h5⟩
theorem Ow.dK {d:D} {v:V} {A:List Addr} {ks:List Key} {ds:List D} (w:Ow cm B H d (.ct .fz) v A) (e:d= .dK ks ds):∃ (a:Addr) (kvs:List (Key×V)),v= .ref a∧H a=some (.dK kvs)∧kvs.map (·.1)=ks∧A=[a]∧Dns cm B ds (kvs.map (·.2)):=by
 subst e
 rw [Ow] at w
 obtain ⟨a,xs,A',r,h1,h2,h3,h4⟩:=w
 obtain ⟨h5,h6⟩:=Ows.fz h4
 exact ⟨a,xs,r,h1,h2,by rw [h3,h6],h5⟩
theorem Ow.dT' {a:Addr} {kvs:List (List Key×V)} {ds:List D} (h:H a=some (.dT kvs)) (d:Dns cm B ds (kvs.map (·.2))):Ow cm B H (.dT (kvs.map (·.1)) ds) (.ct .fz) (.ref a) [a]:=by
 rw [Ow]
 exact ⟨a,kvs,[],rfl,h,rfl,rfl,Ows.of d⟩
theorem Ow.dK' {a:Addr} {kvs:List (Key×V)} {ds:List D} (h:H a=some (.dK kvs)) (d:Dns cm B ds (kvs.map (·.2))):Ow cm B H (.dK (kvs.map (·.1)) ds) (.ct .fz) (.ref a) [a]:=by
 rw [Ow]
 exact ⟨a,kvs,[],rfl,h,rfl,rfl,Ows.of d⟩
theorem bD8 {d k x d':D} {v u w:V} {A:List Addr} (hw:Ow cm B H d (.ct .fz) v A) (hk:Dn cm H k u) (hx:Dn cm B x w) (e:bb6 d k x=some d'):∃ a o',v= .ref a∧a∈A∧DPut H a u w (upd H a o')∧Ow cm B (upd H a o') d' (.ct .fz) v A:=by
 cases d with
 | dT ks vs =>
   obtain ⟨a,kvs,rfl,h1,h2,rfl,h3⟩:=hw.dT rfl
   cases k with
   | tup kd =>
     replace e:((af6 kd).bind fun k=>if ks.length < ac0 then some (if hasK ks k=true then D.dT ks (putV ks vs k x) else .dT (ks ++ [k]) (vs ++ [x])) else none)=some d':=e
     obtain ⟨kk,ek,e⟩:=Option.bind_eq_some_iff.mp e
     rw [Dn] at hk
     obtain ⟨b,xs,rfl,h4,h5⟩:=hk
     have ex:=ak1 ek h5
     subst ex
     by_cases z:ks.length < ac0
     · rw [if_pos z] at e
       cases e
       have hl:kvs.length < sizeLine:=ao0 (Nat.le_of_lt (by rw [← h2,List.length_map] at z; exact z))
       refine ⟨a,_,rfl,List.mem_cons_self,DPut.t h1 h4 hl,?_⟩
       subst h2
       by_cases q:hasK (kvs.map (·.1)) kk=true
       · rw [if_pos q]
         have hp:putK kvs kk w=kvs.map fun kv=>if kv.1=kk then (kv.1,w) else kv:=by unfold putK; rw [aC1,if_pos q]
         have:=Ow.dT' (cm:=cm) (B:=B) (H:=upd H a (.dT (putK kvs kk w))) (ds:=putV (kvs.map (·.1)) vs kk x) ac1 (by rw [hp]; exact ay8 hx h3)
         rw [aN2 q] at this
         exact this
       · rw [if_neg q]
         have:=Ow.dT' (cm:=cm) (B:=B) (H:=upd H a (.dT (putK kvs kk w))) (ds:=vs ++ [x]) ac1 (by rw [ag5 q,List.map_append]; exact h3.append (Dns.one hx))
         rw [ag5 q,List.map_append] at this
         rw [ag5 q]
         exact this
     · rw [if_neg z] at e
       cases e
   | _=>cases e
 | dK ks vs =>
   obtain ⟨a,kvs,rfl,h1,h2,rfl,h3⟩:=hw.dK rfl
   replace e:((aE1 k).bind fun k=>if ks.length < ac0 then some (if hasK ks k=true then D.dK ks (putV ks vs k x) else .dK (ks ++ [k]) (vs ++ [x])) else none)=some d':=by cases k <;> exact e
   obtain ⟨kk,ek,e⟩:=Option.bind_eq_some_iff.mp e
   have ex:=aP0 ek hk
   subst ex
   by_cases z:ks.length < ac0
   · rw [if_pos z] at e
     cases e
     have hl:kvs.length < sizeLine:=ao0 (Nat.le_of_lt (by rw [← h2,List.length_map] at z; exact z))
     refine ⟨a,_,rfl,List.mem_cons_self,DPut.k h1 hl,?_⟩
     subst h2
     by_cases q:hasK (kvs.map (·.1)) kk=true
     · rw [if_pos q]
       have hp:putK kvs kk w=kvs.map fun kv=>if kv.1=kk then (kv.1,w) else kv:=by unfold putK; rw [aC1,if_pos q]
       have:=Ow.dK' (cm:=cm) (B:=B) (H:=upd H a (.dK (putK kvs kk w))) (ds:=putV (kvs.map (·.1)) vs kk x) ac1 (by rw [hp]; exact ay8 hx h3)
       rw [aN2 q] at this
       exact this
     · rw [if_neg q]
       have:=Ow.dK' (cm:=cm) (B:=B) (H:=upd H a (.dK (putK kvs kk w))) (ds:=vs ++ [x]) ac1 (by rw [ag5 q,List.map_append]; exact h3.append (Dns.one hx))
       rw [ag5 q,List.map_append] at this
       rw [ag5 q]
       exact this
   · rw [if_neg z] at e
     cases e
 | _=>cases k <;> cases e
section
variable {t:TE} {get:Env→Option D} {set:Env→D→Env} {tk tv:TE} {mk:Env→Res D} {mv:Env→Out D}
theorem bn1 (p:Pth cm ms t get set) (hk:PJ cm (KR cm .X) E ms tk mk) (hv:MJ cm (KR cm .F) E ms tv mv):SJ cm E Kr pr ms (bI4 t tk tv) (bl2 get set mk mv):=by
 intro B U As σ H ρ D R P
 refine hv.bndS R P fun x ρ1 w B1 U1 As1 H1 N R1 e1 n1 hx P1=>?_
 cases e:get ρ1 with
 | none=>rw [e] at P1; exact P1.elim
 | some d =>
   rw [e] at P1
   replace P1:So cm E Kr pr ms B1 U1 σ (bb5 set x d ρ1 (mk ρ1)) D:=P1
   obtain ⟨v,A,ht,ow,hA,cl⟩:=p.rd R1 e
   refine ht _ (hk B1 U1 As1 σ H1 ρ1 _ R1 ?_)
   cases em:mk ρ1 with
   | ok k =>
     rw [em] at P1
     replace P1:So cm E Kr pr ms B1 U1 σ (match bb6 d k x with | some d'=> .nx (set ρ1 d') | none=> .bad) D:=P1
     intro u B2 U2 H2 N2 R2 g2 n2 hu
     cases ed:bb6 d k x with
     | none=>rw [ed] at P1; exact P1.elim
     | some d' =>
       rw [ed] at P1
       have ow2:Ow cm B2 H2 d (.ct .fz) v A:=Ow.mono g2.b (fun a ha=>by
        obtain ⟨o,ho⟩:=Ow.at ow ha
        rw [ho,g2.h _ _ ho]) ow
       obtain ⟨a,o',ea,ha,dp,ow3⟩:=bD8 ow2 hu (Dn.mono g2.b hx) ed
       exact ⟨a,_,ea,dp,P1 σ B2 U2 As1 _ (cl B2 U2 H2 R2 g2.b g2.h a ha o' d' ow3) g2.toEx (Kp.refl _ _)⟩
   | exc c=>rw [em] at P1; exact fun B2 U2 H2 R2 g2=>P1 σ B2 U2 As1 H2 R2 g2.toEx (Kp.refl _ _)
   | bad=>rw [em] at P1; exact P1.elim
end
theorem aD0 {f:Str} {y:V}:∀ {fs:List (Str×V)},(putF f y fs).map (·.1)=if hasK (fs.map (·.1)) f=true then fs.map (·.1) else fs.map (·.1) ++ [f]
 | []=>rfl
 | p :: fs=>by
   obtain ⟨g,z⟩:=p
   unfold putF hasK
   rw [List.map_cons,List.any_cons]
   by_cases q:g=f
   · rw [if_pos q,decide_eq_true q,Bool.true_or,if_pos rfl,List.map_cons]
   · rw [if_neg q,decide_eq_false q,Bool.false_or,List.map_cons,aD0]
     unfold hasK
     split
     · rfl
     · rw [List.cons_append]
theorem Owf.put {sh:List (Str×Sh)} {f:Str} {x:D} {y:V} {N:List Addr} (hx:Ow cm B H x ((sh.lookup f).getD .fz) y N) (hN:N.Nodup):∀ {fs:List (Str×V)} {ds:List D} {A:List Addr},Owf cm B H ds (fs.map (·.1)) sh (fs.map (·.2)) A→A.Nodup→(∀ a∈N,a∉A) →
 ∃ A2,Owf cm B H (if hasK (fs.map (·.1)) f=true then al8 (fs.map (·.1)) ds f x else ds ++ [x]) ((putF f y fs).map (·.1)) sh ((putF f y fs).map (·.2)) A2∧A2.Nodup∧∀ a∈A2,a∈A∨a∈N
 | [],ds,A,h,nd,hd=>by
   cases ds with
   | nil =>
     refine ⟨N,?_,hN,fun a ha=> .inr ha⟩
     show Owf cm B H [x] [f] sh [y] N
     rw [Owf]
     exact ⟨f,[],y,[],N,[],rfl,rfl,by rw [List.append_nil],hx,by rw [Owf]; exact ⟨rfl,rfl⟩⟩
   | cons d ds =>
     rw [Owf] at h
     obtain ⟨_,_,_,_,_,_,e,_⟩:=h
     cases e
 | p :: fs,ds,A,h,nd,hd=>by
   obtain ⟨g,z⟩:=p
   cases ds with
   | nil =>
     rw [Owf] at h
     cases h.1
   | cons d ds =>
     rw [List.map_cons,List.map_cons,Owf] at h
     obtain ⟨n,ns',u,r,X1,X2,hn,h0,h1,h2,h3⟩:=h
     cases hn
     cases h0
     subst h1
     obtain ⟨nd1,nd2,nd3⟩:=List.nodup_append.mp nd
     unfold putF
     by_cases q:g=f
     · have hk:hasK (((g,z) :: fs).map (·.1)) f=true:=by
        unfold hasK
        rw [List.map_cons,List.any_cons,decide_eq_true q,Bool.true_or]
       rw [if_pos q,hk,if_pos rfl,List.map_cons,al8,if_pos q,List.map_cons,List.map_cons]
       refine ⟨N ++ X2,?_,List.nodup_append.mpr ⟨hN,nd2,fun a ha b hb e=>hd a ha (List.mem_append_right _ (e ▸ hb))⟩,fun a ha=>?_⟩
       · rw [Owf]
         exact ⟨g,_,y,_,N,X2,rfl,rfl,rfl,by rw [q]; exact hx,h3⟩
       · rcases List.mem_append.mp ha with z | z
         · exact .inr z
         · exact .inl (List.mem_append_right _ z)
     · obtain ⟨A2,w,nda,hA⟩:=Owf.put hx hN h3 nd2 (fun a ha hb=>hd a ha (List.mem_append_right _ hb))
       have hk:hasK (((g,z) :: fs).map (·.1)) f=hasK (fs.map (·.1)) f:=by
        unfold hasK
        rw [List.map_cons,List.any_cons,decide_eq_false q,Bool.false_or]
       rw [if_neg q,hk,List.map_cons,List.map_cons,List.map_cons,al8,if_neg q]
       have dis:∀ a∈X1,∀ b∈A2,a≠b:=fun a ha b hb e=>by
        rcases hA b hb with z | z
        · exact nd3 a ha b z e
        · exact hd b z (List.mem_append_left _ (e ▸ ha))
       refine ⟨X1 ++ A2,?_,List.nodup_append.mpr ⟨nd1,nda,dis⟩,fun a ha=>?_⟩
       · have:(if hasK (fs.map (·.1)) f=true then d :: al8 (fs.map (·.1)) ds f x else (d :: ds) ++ [x])=d :: (if hasK (fs.map (·.1)) f=true then al8 (fs.map (·.1)) ds f x else ds ++ [x]):=by split <;> rfl
         rw [this,Owf]
         exact ⟨g,_,z,_,X1,A2,rfl,rfl,rfl,h2,w⟩
       · rcases List.mem_append.mp ha with z | z
         · exact .inl (List.mem_append_left _ z)
         · rcases hA a z with z | z
           · exact .inl (List.mem_append_right _ z)
           · exact .inr z
noncomputable def fldS (c:Nat) (f:Str) (i:Nat) (me:Env→Out D):Env→SO:=fun ρ=>ax1 (me ρ) fun x ρ1=>match rg ρ1 i with
 | some d=>(match bh6 c f x d with | some d'=> .nx (ρ1.set i (some d')) | none=> .bad)
 | none=> .bad
theorem bI2 {K':KT D V} {c:Nat} {f:Str} {i:Nat} {sh:List (Str×Sh)} {te:TE} {me:Env→Out D} (hc:Cls K (cm c)) (hn:NoAttr K (cm c) f) (hm:ms.getD i .F= .O (.ob sh)) (he:MJ cm K' E ms te me)
 (hk:∀ B U H d v N,K' d v B U H N→∃ N',(N'=[]∨N'=N)∧Ow cm B H d ((sh.lookup f).getD .fz) v N'):SJ cm E Kr pr ms (sFld K (tVar i) te f) (fldS c f i me):=by
 intro B U As σ H ρ D R P
 refine he.bndS R P fun x ρ1 y B1 U1 As1 H1 N R1 e1 n1 hx P1=>?_
 obtain ⟨N',hN,ow⟩:=hk _ _ _ _ _ _ hx
 have n2:NewM N' U1 As1:=by
  rcases hN with e | e
  · subst e; exact NewM.nil
  · subst e; exact n1
 have l:=R1.lo i
 cases e:rg ρ1 i with
 | none=>rw [e] at P1; exact P1.elim
 | some d =>
   rw [e] at P1
   replace P1:So cm E Kr pr ms B1 U1 σ (match bh6 c f x d with | some d'=> .nx (ρ1.set i (some d')) | none=> .bad) D:=P1
   rw [e,hm] at l
   obtain ⟨v,hv,w⟩:=l
   cases d with
   | obj c' ns vs =>
     have ep:bh6 c f x (.obj c' ns vs)=if c'=c∧ns.length < 900 then some (if hasK ns f=true then .obj c' ns (al8 ns vs f x) else .obj c' (ns ++ [f]) (vs ++ [x])) else none:=rfl
     rw [ep] at P1
     by_cases q:c'=c∧ns.length < 900
     · rw [if_pos q] at P1
       obtain ⟨q1,q2⟩:=q
       subst q1
       have w:Ow cm B1 H1 (.obj c' ns vs) (.ob sh) v (As1 i):=w
       rw [Ow] at w
       obtain ⟨a,dx,fs,A',rfl,h1,h2,h3,h4⟩:=w
       subst h2
       have nd:=R1.nd i
       rw [h3] at nd
       obtain ⟨nd1,nd2⟩:=List.nodup_cons.mp nd
       have hai:a∈As1 i:=by rw [h3]; exact List.mem_cons_self
       obtain ⟨A2,w2,nda,hA⟩:=Owf.put ow n2.nd h4 nd2 (fun b hb hb2=>n2.ap b hb i (by rw [h3]; exact List.mem_cons_of_mem _ hb2))
       have haA:a∉A2:=fun z=>by
        rcases hA a z with z | z
        · exact nd1 z
        · exact n2.ap a z i hai
       refine ⟨.ref a,ai8 hv,a,_,dx,fs,rfl,h1,hc,hn,by rw [List.length_map] at q2; omega,?_⟩
       have w3:Ow cm B1 (upd H1 a (.ins (cm c') dx (putF f y fs))) (if hasK (fs.map (·.1)) f=true then .obj c' (fs.map (·.1)) (al8 (fs.map (·.1)) vs f x) else .obj c' (fs.map (·.1) ++ [f]) (vs ++ [x])) (.ob sh) (.ref a) (a :: A2):=by
        have w4:=Owf.mono (H':=upd H1 a (.ins (cm c') dx (putF f y fs))) (Same.refl B1) (fun b hb=>ab5 (fun z:b=a=>haA (z ▸ hb))) w2
        have ek:=aD0 (f:=f) (y:=y) (fs:=fs)
        by_cases k:hasK (fs.map (·.1)) f=true
        · rw [if_pos k] at ek w4 ⊢
          rw [Ow]
          rw [ek] at w4
          exact ⟨a,dx,_,A2,rfl,ac1,ek,rfl,w4⟩
        · rw [if_neg k] at ek w4 ⊢
          rw [Ow]
          rw [ek] at w4
          exact ⟨a,dx,_,A2,rfl,ac1,ek,rfl,w4⟩
       have hi:i < ρ1.length:=(List.getElem?_eq_some_iff.mp (ai8 e)).1
       refine P1 σ B1 U1 (fun j=>if j=i then a :: A2 else As1 j) _ ⟨R1.bu,fun b u z=>?_,fun j=>?_,fun j k b hne hb hk=>?_,fun j b hb=>?_,fun j=>?_,by rw [List.length_set]; exact R1.len,R1.tb⟩ (Ex.refl _ _) (Kp.refl _ _)
       · rw [ab5 (ab3 z (R1.un i a hai))]
         exact R1.uh b u z
       · show (if j=i then a :: A2 else As1 j).Nodup
         split
         · exact List.nodup_cons.mpr ⟨haA,nda⟩
         · exact R1.nd j
       · replace hb:b∈(if j=i then a :: A2 else As1 j):=hb
         replace hk:b∈(if k=i then a :: A2 else As1 k):=hk
         have key:∀ {j},j≠i→b∈a :: A2→b∈As1 j→False:=fun {j} hj hb2 hb3=>by
          rcases List.mem_cons.mp hb2 with z | z
          · exact R1.dj i j b (Ne.symm hj) (by rw [z]; exact hai) hb3
          · rcases hA b z with z | z
            · exact R1.dj i j b (Ne.symm hj) (by rw [h3]; exact List.mem_cons_of_mem _ z) hb3
            · exact n2.ap b z j hb3
         split at hb
         · rename_i z1
           split at hk
           · rename_i z2; exact hne (z1.trans z2.symm)
           · rename_i z2; exact key z2 hb hk
         · rename_i z1
           split at hk
           · exact key z1 hk hb
           · exact R1.dj j k b hne hb hk
       · replace hb:b∈(if j=i then a :: A2 else As1 j):=hb
         split at hb
         · rcases List.mem_cons.mp hb with z | z
           · rw [z]; exact R1.un i a hai
           · rcases hA b z with z | z
             · exact R1.un i b (by rw [h3]; exact List.mem_cons_of_mem _ z)
             · exact n2.un b z
         · exact R1.un j b hb
       · rw [ao7]
         show Lo cm B1 U1 _ (ms.getD j .F) _ _ (if j=i then a :: A2 else As1 j)
         by_cases z:i=j
         · subst z
           rw [if_pos ⟨rfl,hi⟩,if_pos rfl,hm]
           exact ⟨.ref a,hv,w3⟩
         · rw [if_neg fun y=>z y.1,if_neg fun y=>z y.symm]
           exact (R1.lo j).mono (Same.refl _) (Same.refl _) fun b hb=>ab5 (fun y:b=a=>R1.dj i j a z hai (y ▸ hb))
     · rw [if_neg q] at P1
       exact P1.elim
   | _=>exact P1.elim
theorem bI1 {c:Nat} {f:Str} {i:Nat} {sh:List (Str×Sh)} {te:TE} {me:Env→Out D} (hc:Cls K (cm c)) (hn:NoAttr K (cm c) f) (hm:ms.getD i .F= .O (.ob sh)) (hf:(sh.lookup f).getD .fz= .fz) (he:MJ cm (KR cm .F) E ms te me):SJ cm E Kr pr ms (sFld K (tVar i) te f) (fldS c f i me) :=
 bI2 hc hn hm he fun B U H d v N k=>⟨[],.inl rfl,by rw [hf,Ow]; exact ⟨k,rfl⟩⟩
theorem aM9 {c:Nat} {f:Str} {i:Nat} {sh:List (Str×Sh)} {s:Sh} {te:TE} {me:Env→Out D} (hc:Cls K (cm c)) (hn:NoAttr K (cm c) f) (hm:ms.getD i .F= .O (.ob sh)) (hf:(sh.lookup f).getD .fz=s) (he:MJ cm (KO cm s) E ms te me):SJ cm E Kr pr ms (sFld K (tVar i) te f) (fldS c f i me) :=
 bI2 hc hn hm he fun B U H d v N k=>⟨N,.inr rfl,by rw [hf]; exact k⟩
noncomputable def prO (ms:List Md) (np:Nat):Nat→Bool:=fun j=>decide (j < np) && (match ms.getD j .F with | .O _=>true | _=>false)
theorem aW5 {α:Type} {l:List (Option α)} {n i:Nat}:rg (l ++ List.replicate n none) i=rg l i:=by
 unfold rg
 by_cases h:i < l.length
 · rw [List.getElem?_append_left h]
 · rw [List.getElem?_append_right (by omega),List.getElem?_eq_none (show l.length≤i by omega)]
   by_cases h2:i - l.length < n
   · rw [List.getElem?_replicate,if_pos h2]; rfl
   · rw [List.getElem?_replicate,if_neg h2]
noncomputable def runO (k:Nat) (body:Env→SO) (ds:List D):Out D:=match body (ds.map some ++ List.replicate (k - ds.length) none) with
 | .rt d ρ=> .ok d ρ
 | .exc c ρ=> .exc c ρ
 | _=> .bad
theorem Rel.enter {more:List Md} {vs:List V} {ds:List D} {n:Nat} (R:Rel cm ms B U As (vs.map some) H (ds.map some)) (hl:vs.length=ms.length):Rel cm (ms ++ more) B U As (vs.map some ++ List.replicate n none) H (ds.map some ++ List.replicate n none):=by
 have hd:ds.length=vs.length:=by have:=R.len; rw [List.length_map,List.length_map] at this; exact this
 refine ⟨R.bu,R.uh,R.nd,R.dj,R.un,fun i=>?_,by rw [List.length_append,List.length_append,R.len,List.length_replicate,List.length_replicate],R.tb⟩
 rw [aW5,aW5]
 have l:=R.lo i
 by_cases h:i < ms.length
 · rw [List.getD_eq_getElem?_getD,List.getElem?_append_left h,← List.getD_eq_getElem?_getD]
   exact l
 · have:rg (ds.map some) i=none:=by rw [ag3,List.getElem?_eq_none (by omega)]
   rw [this] at l ⊢
   exact l
theorem Rel.leave {more:List Md} {vs:List V} {σ':St} {ρ':Env} {n:Nat} (hl:vs.length=ms.length) (R:Rel cm (ms ++ more) B U As σ' H ρ') (k:Kp (prO ms ms.length) (vs.map some ++ List.replicate n none) σ') :
 ∃ As',Rel cm ms B U As' (vs.map some) H (am7 ms ρ')∧∀ N,NewM N U As→NewM N U As':=by
 refine ⟨fun i=>if prO ms ms.length i=true then As i else [],⟨R.bu,R.uh,fun i=>?_,fun i j a hne ha hb=>?_,fun i a ha=>?_,fun i=>?_,?_,R.tb⟩,fun N n=>⟨n.nd,n.un,fun a ha i=>?_⟩⟩
 · show (if prO ms ms.length i=true then As i else []).Nodup
   split
   · exact R.nd i
   · exact List.nodup_nil
 · replace ha:a∈(if prO ms ms.length i=true then As i else []):=ha
   replace hb:a∈(if prO ms ms.length j=true then As j else []):=hb
   split at ha
   · split at hb
     · exact R.dj i j a hne ha hb
     · cases hb
   · cases ha
 · replace ha:a∈(if prO ms ms.length i=true then As i else []):=ha
   split at ha
   · exact R.un i a ha
   · cases ha
 · show Lo cm B U H (ms.getD i .F) (rg (am7 ms ρ') i) (rg (vs.map some) i) (if prO ms ms.length i=true then As i else [])
   by_cases hi:i < ms.length
   · have eg:(ms ++ more).getD i .F=ms.getD i .F:=by
      rw [List.getD_eq_getElem?_getD,List.getElem?_append_left hi,← List.getD_eq_getElem?_getD]
     cases em:ms.getD i .F with
     | O s =>
       have hp:prO ms ms.length i=true:=by unfold prO; rw [em,decide_eq_true hi]; rfl
       rw [if_pos hp,as4 em]
       have l:=R.lo i
       rw [eg,em,k i hp,aW5] at l
       exact l
     | F =>
       have hp:prO ms ms.length i=false:=by unfold prO; rw [em]; simp
       have hk:rg (am7 ms ρ') i=none:=by
        unfold am7 rg
        rw [List.getElem?_map,List.getElem?_range hi]
        show (some (match ms.getD i .F with | .O _=>_ | _=>none)).join=none
        rw [em]; rfl
       rw [hp,hk]
       exact rfl
     | R =>
       have hp:prO ms ms.length i=false:=by unfold prO; rw [em]; simp
       have hk:rg (am7 ms ρ') i=none:=by
        unfold am7 rg
        rw [List.getElem?_map,List.getElem?_range hi]
        show (some (match ms.getD i .F with | .O _=>_ | _=>none)).join=none
        rw [em]; rfl
       rw [hp,hk]
       exact rfl
   · have hp:prO ms ms.length i=false:=by unfold prO; rw [decide_eq_false hi]; rfl
     have hk:rg (am7 ms ρ') i=none:=by
      unfold am7 rg
      rw [List.getElem?_eq_none (by rw [List.length_map,List.length_range]; omega)]
      rfl
     rw [hp,hk]
     exact rfl
 · unfold am7
   rw [List.length_map,List.length_map,List.length_range,hl]
 · show a∉(if prO ms ms.length i=true then As i else [])
   split
   · exact n.ap a ha i
   · simp
theorem ac9 {vs:List V} {Q:VK} {fm:List D→Out D} (h:spM cm ms Kr fm vs H Q E):vs.length=ms.length:=by
 obtain ⟨_,_,_,_,_,hl,_⟩:=h
 exact hl
end
end Mi
namespace Mi
open PySem PySem.Spec L2
mutual
noncomputable def toPy:D→Option PyData
 | .non=>some .none
 | .bl b=>some (.bool b)
 | .int i=>some (.int i)
 | .str x=>some (.str x)
 | .lst xs=>(toPys xs).map .list
 | .scr xs=>(toPys xs).map .list
 | .tup xs=>(toPys xs).map .tuple
 | .ty _=>none
 | .dK _ _=>none
 | .dT _ _=>none
 | .obj _ _ _=>none
noncomputable def toPys:List D→Option (List PyData)
 | []=>some []
 | d :: r=>match toPy d,toPys r with
   | some p,some q=>some (p :: q)
   | _,_=>none
end
section
variable {cm:Cm} {E:XK} {Kr:KT D V} {pr:Nat→Bool} {ms:List Md} {B U H:Hp} {As:Nat→List Addr} {σ:St} {ρ:Env} {K:PySem.W.Frag}
mutual
theorem den_of:∀ {d:D} {p:PyData} {v:V},toPy d=some p→Dn cm H d v→L2.Den cm.K H p v
 | .non,p,v,e,h=>by rw [Dn] at h; cases e; rw [L2.Den]; exact h
 | .bl _,p,v,e,h=>by rw [Dn] at h; cases e; rw [L2.Den]; exact h
 | .int _,p,v,e,h=>by rw [Dn] at h; cases e; rw [L2.Den]; exact h
 | .str _,p,v,e,h=>by rw [Dn] at h; cases e; rw [L2.Den]; exact h
 | .lst xs,p,v,e,h=>by
   rw [Dn] at h
   obtain ⟨a,ys,rfl,h1,h2⟩:=h
   rw [toPy] at e
   obtain ⟨ps,e1,rfl⟩:=Option.map_eq_some_iff.mp e
   rw [L2.Den]
   exact ⟨a,ys,rfl,SqL.of h1,dens_of e1 h2⟩
 | .scr xs,p,v,e,h=>by
   rw [Dn] at h
   obtain ⟨a,ys,rfl,h1,h2⟩:=h
   rw [toPy] at e
   obtain ⟨ps,e1,rfl⟩:=Option.map_eq_some_iff.mp e
   rw [L2.Den]
   exact ⟨a,ys,rfl,h1.sq,dens_of e1 h2⟩
 | .tup xs,p,v,e,h=>by
   rw [Dn] at h
   obtain ⟨a,ys,rfl,h1,h2⟩:=h
   rw [toPy] at e
   obtain ⟨ps,e1,rfl⟩:=Option.map_eq_some_iff.mp e
   rw [L2.Den]
   exact ⟨a,ys,rfl,SqT.of h1,dens_of e1 h2⟩
 | .ty _,p,v,e,h=>by cases e
 | .dK _ _,p,v,e,h=>by cases e
 | .dT _ _,p,v,e,h=>by cases e
 | .obj _ _ _,p,v,e,h=>by cases e
theorem dens_of:∀ {ds:List D} {ps:List PyData} {xs:List V},toPys ds=some ps→Dns cm H ds xs→L2.Dens cm.K H ps xs
 | [],ps,xs,e,h=>by rw [Dns] at h; rw [toPys] at e; cases e; rw [L2.Dens]; exact h
 | d :: ds,ps,xs,e,h=>by
   rw [Dns] at h
   obtain ⟨x,r,rfl,h1,h2⟩:=h
   rw [toPys] at e
   cases e1:toPy d with
   | none=>rw [e1] at e; cases e
   | some p =>
     cases e2:toPys ds with
     | none=>rw [e1,e2] at e; cases e
     | some q =>
       rw [e1,e2] at e
       cases e
       rw [L2.Dens]
       exact ⟨x,r,rfl,den_of e1 h1,dens_of e2 h2⟩
end
noncomputable def eqD (neg:Bool) (x y:D):Res D:=match toPy x,toPy y with
 | some p,some q=>if SeqAt.shaped p=true∧SeqAt.shaped q=true then .ok (.bl (neg.xor (PyData.eqv p q))) else .bad
 | _,_=> .bad
theorem aW0 {neg:Bool}:S2 cm (rEqD cm.K neg) (eqD neg):=by
 intro H x y v u hx hy
 unfold eqD
 cases e1:toPy x with
 | none=>trivial
 | some p =>
   cases e2:toPy y with
   | none=>trivial
   | some q =>
     dsimp only
     by_cases z:SeqAt.shaped p=true∧SeqAt.shaped q=true
     · rw [if_pos z]
       refine ⟨.bl _,fun _=>by rw [Dn],fun Q h=>⟨p,q,den_of e1 hx,den_of e2 hy,z.1,z.2,?_⟩⟩
       cases neg <;> simpa using h
     · rw [if_neg z]; trivial
noncomputable def inD (x y:D):Res D:=match toPy x,toPy y with
 | some p,some (.list xs)=>if SeqAt.shaped p=true∧SeqAt.shaped (.list xs)=true∧(xs.all fun z=>SeqAt.noMix z p)=true then .ok (.bl (decide (countIn p xs≠0))) else .bad
 | _,_=> .bad
theorem by4:S2 cm (fun x y H Q=>∃ d xs,L2.Den cm.K H d x∧L2.Den cm.K H (.list xs) y∧SeqAt.shaped d=true∧SeqAt.shaped (.list xs)=true∧(∀ z∈xs,SeqAt.noMix z d=true)∧Q (.bl (decide (countIn d xs≠0))) H) inD:=by
 intro H x y v u hx hy
 unfold inD
 cases e1:toPy x with
 | none=>trivial
 | some p =>
   cases e2:toPy y with
   | none=>trivial
   | some q =>
     cases q with
     | list xs =>
       dsimp only
       by_cases z:SeqAt.shaped p=true∧SeqAt.shaped (.list xs)=true∧(xs.all fun z=>SeqAt.noMix z p)=true
       · rw [if_pos z]
         exact ⟨.bl _,fun _=>by rw [Dn],fun Q h=>⟨p,xs,den_of e1 hx,den_of e2 hy,z.1,z.2.1,fun y hy=>List.all_eq_true.mp z.2.2 y hy,h⟩⟩
       · rw [if_neg z]; trivial
     | _=>trivial
noncomputable def aT1:D→Option String
 | .non=>some "NoneType" | .bl _=>some "bool" | .int _=>some "int" | .str _=>some "str" | .lst _=>some "list" | .tup _=>some "tuple" | .dK _ _=>some "dict" | .dT _ _=>some "dict"
 | .ty _=>none | .obj _ _ _=>none | .scr _=>none
noncomputable def kit (t n:String):Option Bool:=PySem.W.kitOne [] (.type t) (.type n)
noncomputable def isT (x y:D):Res D:=match y,aT1 x with
 | .ty n,some t=>(match kit t n with | some b=> .ok (.bl b) | none=> .bad)
 | _,_=> .bad
theorem aT0 {d:D} {v:V} {t:String} (e:aT1 d=some t) (h:Dn cm H d v):TyOf K H v (.type t):=by
 cases d with
 | non=>rw [Dn] at h; cases e; subst h; exact .non
 | bl b=>rw [Dn] at h; cases e; subst h; exact .bl b
 | int i=>rw [Dn] at h; cases e; subst h; exact .int i
 | str x=>rw [Dn] at h; cases e; subst h; exact .str x
 | lst _=>rw [Dn] at h; cases e; obtain ⟨a,xs,rfl,h1,_⟩:=h; exact .lst h1
 | scr _=>cases e
 | tup _=>rw [Dn] at h; cases e; obtain ⟨a,xs,rfl,h1,_⟩:=h; exact .tup h1
 | dK _ _=>rw [Dn] at h; cases e; obtain ⟨a,xs,rfl,h1,_⟩:=h; exact .dK h1
 | dT _ _=>rw [Dn] at h; cases e; obtain ⟨a,xs,rfl,h1,_⟩:=h; exact .dT h1
 | ty _=>cases e
 | obj _ _ _=>cases e
theorem bh2:S2 cm (fun v u H Q=>∃ x c t b,[v,u]=[x,.ty c]∧TyOf K H x t∧PySem.W.kitOne K t (.type c)=some b∧Q (.bl b) H) isT:=by
 intro H x y v u hx hy
 unfold isT
 cases y with
 | ty n =>
   cases e:aT1 x with
   | none=>trivial
   | some t =>
     dsimp only
     cases e2:kit t n with
     | none=>trivial
     | some b =>
       rw [Dn] at hy
       subst hy
       exact ⟨.bl b,fun _=>by rw [Dn],fun Q h=>⟨v,n,_,b,rfl,aT0 e hx,e2,h⟩⟩
 | _=>trivial
noncomputable def truO (d:D) (ρ:Env):Out Bool:=match d with | .bl b=> .ok b ρ | _=> .bad
noncomputable def tstM (m:Env→Out D):Env→Out Bool:=fun ρ=>(m ρ).bind truO
theorem m_tst {t:TE} {m:Env→Out D} (h:MJ cm (KR cm .X) E ms t m):MJ cm KB E ms (fun σ H Q=>t σ H fun x H1=>∃ c,x= .bl c∧Q c H1) (tstM m):=by
 intro B U As σ H ρ Q R P
 refine h.bnd R P fun x ρ' v B1 U1 As1 H1 N R1 e1 n1 d1 P1=>?_
 cases x with
 | bl b =>
   have d1:Dn cm H1 (.bl b) v:=d1
   rw [Dn] at d1
   exact ⟨b,d1,P1 _ B1 U1 As1 H1 [] R1 (Ex.refl _ _) NewM.nil rfl⟩
 | _=>exact P1.elim
theorem mt_T {t:TE} {m:Env→Out D} (h:MJ cm (KR cm .X) E ms t m):MJ cm KB E ms (br4 t) (tstM m):=m_tst h
noncomputable def bnM (f:D→D→Res D) (a b:Env→Out D):Env→Out D:=fun ρ=>(a ρ).bind fun x ρ=>(b ρ).bind fun y ρ=>(f x y).up ρ
theorem m_op {r:R2} {f:D→D→Res D} {ta tb:TE} {ma mb:Env→Out D} (h:S2 cm r f) (ha:MJ cm (KR cm .F) E ms ta ma) (hb:MJ cm (KR cm .X) E ms tb mb):MJ cm (KR cm .F) E ms (tOp r ta tb) (bnM f ma mb):=by
 intro B U As σ H ρ Q R P
 refine ha.bnd R P fun x ρ1 v B1 U1 As1 H1 N1 R1 e1 n1 d1 P1=>hb.bnd R1 P1 fun y ρ2 u B2 U2 As2 H2 N2 R2 e2 n2 d2 P2=>?_
 have q:=h H2 x y v u (Dn.mono (e2.b.trans R2.bh) d1) d2
 cases e:f x y with
 | ok d =>
   rw [e] at q P2
   obtain ⟨w,hw,k⟩:=q
   exact k Q (P2 w B2 U2 As2 H2 [] R2 (Ex.refl _ _) NewM.nil (hw _))
 | exc c=>rw [e] at q; exact q.elim
 | bad=>rw [e] at P2; exact P2.elim
noncomputable def mvS (i:Nat):Env→Out D:=fun ρ=>match rg ρ i with | some d=> .ok d (ρ.set i none) | none=> .bad
theorem Rel.take (R:Rel cm ms B U As σ H ρ) (i:Nat):Rel cm ms B U (fun j=>if j=i then [] else As j) σ H (ρ.set i none)∧∀ a∈As i,U a=none∧∀ j,a∉(fun j=>if j=i then [] else As j) j:=by
 refine ⟨⟨R.bu,R.uh,fun j=>?_,fun j k a hne ha hb=>?_,fun j a ha=>?_,fun j=>?_,by rw [List.length_set]; exact R.len,R.tb⟩,fun a ha=>⟨R.un i a ha,fun j hj=>?_⟩⟩
 · show (if j=i then [] else As j).Nodup
   split
   · exact List.nodup_nil
   · exact R.nd j
 · replace ha:a∈(if j=i then [] else As j):=ha
   replace hb:a∈(if k=i then [] else As k):=hb
   split at ha
   · cases ha
   · split at hb
     · cases hb
     · exact R.dj j k a hne ha hb
 · replace ha:a∈(if j=i then [] else As j):=ha
   split at ha
   · cases ha
   · exact R.un j a ha
 · show Lo cm B U H (ms.getD j .F) (rg (ρ.set i none) j) (rg σ j) (if j=i then [] else As j)
   rw [ao7]
   by_cases e:i=j
   · subst e
     rw [if_pos rfl]
     by_cases h:i < ρ.length
     · rw [if_pos ⟨rfl,h⟩]; exact rfl
     · rw [if_neg fun z=>h z.2]
       have:rg ρ i=none:=by unfold rg; rw [List.getElem?_eq_none (by omega)]; rfl
       rw [this]; exact rfl
   · rw [if_neg fun z=>e z.1,if_neg fun z=>e z.symm]
     exact R.lo j
 · replace hj:a∈(if j=i then [] else As j):=hj
   split at hj
   · cases hj
   · rename_i z; exact R.dj i j a (fun q=>z q.symm) ha hj
theorem m_mv {i:Nat} {s:Sh} (hm:ms.getD i .F= .O s):MJ cm (KO cm s) E ms (tVar i) (mvS i):=by
 intro B U As σ H ρ Q R P
 unfold mvS at P
 have l:=R.lo i
 cases e:rg ρ i with
 | none=>rw [e] at P; exact P.elim
 | some d =>
   rw [e] at P
   rw [e,hm] at l
   obtain ⟨v,hv,w⟩:=l
   obtain ⟨R2,h2⟩:=R.take i
   exact ⟨v,ai8 hv,P v B U _ H (As i) R2 (Ex.refl _ _) ⟨R.nd i,fun a ha=>(h2 a ha).1,fun a ha=>(h2 a ha).2⟩ w⟩
noncomputable def ad4:D→Bool | .int _=>true | .bl _=>true | .non=>true | .str _=>true | _=>false
noncomputable def bg7:D→Bool
 | .lst xs=>xs.all ad4
 | .scr xs=>xs.all ad4
 | .tup xs=>xs.all ad4
 | .dK _ xs=>xs.all ad4
 | .dT _ xs=>xs.all ad4
 | .obj _ _ xs=>xs.all ad4
 | d=>ad4 d
noncomputable def chkS (m:Env→Res D):Env→Res D:=fun ρ=>(m ρ).bind fun d=>if bg7 d=true then .ok d else .bad
theorem ai6 {G G':Hp} {d:D} {v:V} (h:ad4 d=true) (q:Dn cm G d v):Dn cm G' d v:=by
 cases d with
 | int _=>rw [Dn] at q ⊢; exact q
 | bl _=>rw [Dn] at q ⊢; exact q
 | non=>rw [Dn] at q ⊢; exact q
 | str _=>rw [Dn] at q ⊢; exact q
 | _=>cases h
theorem ah2 {G G':Hp}:∀ {ds:List D} {xs:List V},ds.all ad4=true→Dns cm G ds xs→Dns cm G' ds xs
 | [],_,_,q=>by rw [Dns] at q ⊢; exact q
 | d :: ds,_,h,q=>by
   rw [List.all_cons,Bool.and_eq_true] at h
   rw [Dns] at q ⊢
   obtain ⟨x,r,e,h1,h2⟩:=q
   exact ⟨x,r,e,ai6 h.1 h1,ah2 h.2 h2⟩
theorem cS {k k':Kd} {t:TE} {m:Env→Res D} (h:PJ cm (KC cm k) E ms t m):PJ cm (KC cm k') E ms t (chkS m):=by
 intro B U As σ H ρ Q R P
 refine h.bnd R P fun x v B1 U1 H1 N1 _ R1 e1 n1 d1 P1=>?_
 by_cases z:bg7 x=true
 · rw [if_pos z] at P1
   refine P1 v B1 U1 H1 [] R1 (Gw.refl _ _ _) New.nil ?_
   cases x with
   | lst ds=>obtain ⟨a,xs,r,h1,h2⟩:=d1; exact ⟨a,xs,r,h1,ah2 z h2⟩
   | scr ds=>obtain ⟨a,xs,r,h1,h2⟩:=d1; exact ⟨a,xs,r,h1,ah2 z h2⟩
   | tup ds=>obtain ⟨a,xs,r,h1,h2⟩:=d1; exact ⟨a,xs,r,h1,ah2 z h2⟩
   | dK ks ds=>obtain ⟨a,xs,r,h1,h2,h3⟩:=d1; exact ⟨a,xs,r,h1,h2,ah2 z h3⟩
   | dT ks ds=>obtain ⟨a,xs,r,h1,h2,h3⟩:=d1; exact ⟨a,xs,r,h1,h2,ah2 z h3⟩
   | obj c ns ds=>obtain ⟨a,dx,xs,r,h1,h2,h3⟩:=d1; exact ⟨a,dx,xs,r,h1,h2,ah2 z h3⟩
   | int _=>exact ai6 (G:=hp k B1 U1 H1) z d1
   | bl _=>exact ai6 (G:=hp k B1 U1 H1) z d1
   | non=>exact ai6 (G:=hp k B1 U1 H1) z d1
   | str _=>exact ai6 (G:=hp k B1 U1 H1) z d1
   | ty _=>cases z
 · rw [if_neg z] at P1
   exact P1.elim
theorem rS {k:Kd} {t:TE} {m:Env→Res D} (h:PJ cm (KR cm .X) E ms t m):PJ cm (KR cm .F) E ms t (fun ρ=>(m ρ).bind fun d=>if ad4 d=true then .ok d else .bad):=by
 intro B U As σ H ρ Q R P
 refine h.bnd R P fun x v B1 U1 H1 N1 _ R1 e1 n1 d1 P1=>?_
 by_cases z:ad4 x=true
 · rw [if_pos z] at P1
   exact P1 v B1 U1 H1 [] R1 (Gw.refl _ _ _) New.nil (ai6 z d1)
 · rw [if_neg z] at P1
   exact P1.elim
noncomputable def ai1:List D→Option (List Int)
 | []=>some []
 | .int i :: r=>(ai1 r).map (i :: ·)
 | _ :: _=>none
theorem ak2 {G:Hp}:∀ {ds:List D} {ns:List Int} {xs:List V},ai1 ds=some ns→Dns cm G ds xs→xs=ns.map V.int
 | [],ns,xs,e,h=>by rw [Dns] at h; cases e; rw [h]; rfl
 | d :: ds,ns,xs,e,h=>by
   rw [Dns] at h
   obtain ⟨x,r,rfl,h1,h2⟩:=h
   cases d with
   | int i =>
     rw [ai1] at e
     obtain ⟨ms,e1,rfl⟩:=Option.map_eq_some_iff.mp e
     rw [Dn] at h1
     rw [ak2 e1 h2,h1,List.map_cons]
   | _=>cases e
noncomputable def ad8:List Int→Int→Int
 | [],m=>m
 | x :: r,m=>ad8 r (if x < m then x else m)
noncomputable def ai2:List Int→Int→Int
 | [],m=>m
 | x :: r,m=>ai2 r (if m < x then x else m)
theorem al3:∀ (l:List Int) (m:Int),(ad8 l m=m∨ad8 l m∈l)∧ad8 l m≤m∧∀ x∈l,ad8 l m≤x
 | [],m=>⟨.inl rfl,Int.le_refl _,fun _ h=>(nomatch h)⟩
 | x :: r,m=>by
   unfold ad8
   obtain ⟨h1,h2,h3⟩:=al3 r (if x < m then x else m)
   refine ⟨?_,?_,fun y hy=>?_⟩
   · rcases h1 with h1 | h1
     · by_cases z:x < m
       · rw [if_pos z] at h1 ⊢; exact .inr (by rw [h1]; exact List.mem_cons_self)
       · rw [if_neg z] at h1 ⊢; exact .inl h1
     · exact .inr (List.mem_cons_of_mem _ h1)
   · split at h2 <;> split <;> omega
   · rcases List.mem_cons.mp hy with z | z
     · subst z; split at h2 <;> split <;> omega
     · exact h3 y z
theorem an9:∀ (l:List Int) (m:Int),(ai2 l m=m∨ai2 l m∈l)∧m≤ai2 l m∧∀ x∈l,x≤ai2 l m
 | [],m=>⟨.inl rfl,Int.le_refl _,fun _ h=>(nomatch h)⟩
 | x :: r,m=>by
   unfold ai2
   obtain ⟨h1,h2,h3⟩:=an9 r (if m < x then x else m)
   refine ⟨?_,?_,fun y hy=>?_⟩
   · rcases h1 with h1 | h1
     · by_cases z:m < x
       · rw [if_pos z] at h1 ⊢; exact .inr (by rw [h1]; exact List.mem_cons_self)
       · rw [if_neg z] at h1 ⊢; exact .inl h1
     · exact .inr (List.mem_cons_of_mem _ h1)
   · split at h2 <;> split <;> omega
   · rcases List.mem_cons.mp hy with z | z
     · subst z; split at h2 <;> split <;> omega
     · exact h3 y z
noncomputable def extD (f:List Int→Int→Int) (x d:D):Res D:=match x with
 | .lst ds=>(match ai1 ds with | some []=>(if ad4 d=true then .ok d else .bad) | some (n :: ns)=> .ok (.int (f ns n)) | none=> .bad)
 | _=> .bad
theorem bJ2 {ta td:TE} {ma md:Env→Res D} (ha:PJ cm (KR cm .X) E ms ta ma) (hd:PJ cm (KR cm .X) E ms td md) :
 PJ cm (KR cm .F) E ms (tCBK (fun xs zs H Q=>∃ p ns d,xs=[.ref p]∧zs=[d]∧SqL K H p (ns.map V.int)∧(ns=[]→Q d H)∧∀ m∈ns,(∀ x∈ns,m≤x)→Q (.int m) H) (ag4 ta tNil) (ag4 td tNil)) (bn (extD ad8) ma md):=by
 intro B U As σ H ρ Q R P
 refine ha.bnd R P fun x v B1 U1 H1 N1 _ R1 e1 n1 d1 P1=>hd.bnd R1 P1 fun y u B2 U2 H2 N2 _ R2 e2 n2 d2 P2=>?_
 have d1:Dn cm H1 x v:=d1
 cases x with
 | lst ds =>
   rw [Dn] at d1
   obtain ⟨a,xs,rfl,h1,h2⟩:=d1
   replace P2:Po cm (KR cm .F) E ms B2 U2 As σ H2 ρ (match ai1 ds with | some []=>(if ad4 y=true then .ok y else .bad) | some (n :: ns)=> .ok (.int (ad8 ns n)) | none=> .bad) Q:=P2
   cases ei:ai1 ds with
   | none=>rw [ei] at P2; exact P2.elim
   | some ns =>
     have ex:=ak2 ei h2
     subst ex
     cases ns with
     | nil =>
       rw [ei] at P2
       replace P2:Po cm (KR cm .F) E ms B2 U2 As σ H2 ρ (if ad4 y=true then .ok y else .bad) Q:=P2
       by_cases z:ad4 y=true
       · rw [if_pos z] at P2
         exact ⟨a,[],u,rfl,rfl,SqL.of (e2.h _ _ h1),fun _=>P2 u B2 U2 H2 [] R2 (Gw.refl _ _ _) New.nil (ai6 z d2),fun m hm=>(nomatch hm)⟩
       · rw [if_neg z] at P2; exact P2.elim
     | cons n ns =>
       rw [ei] at P2
       refine ⟨a,n :: ns,u,rfl,rfl,SqL.of (e2.h _ _ h1),(fun z=>by cases z),fun m hm hle=>?_⟩
       obtain ⟨s1,s2,s3⟩:=al3 ns n
       have em:m=ad8 ns n:=by
        have l1:ad8 ns n∈n :: ns:=by
         rcases s1 with z | z
         · rw [z]; exact List.mem_cons_self
         · exact List.mem_cons_of_mem _ z
        have l2:=hle _ l1
        rcases List.mem_cons.mp hm with z | z
        · rw [z] at l2 ⊢; omega
        · have:=s3 m z; omega
       rw [em]
       exact P2 _ B2 U2 H2 [] R2 (Gw.refl _ _ _) New.nil (show Dn cm _ (.int (ad8 ns n)) _ by rw [Dn])
 | _=>exact P2.elim
theorem bJ3 {ta td:TE} {ma md:Env→Res D} (ha:PJ cm (KR cm .X) E ms ta ma) (hd:PJ cm (KR cm .X) E ms td md) :
 PJ cm (KR cm .F) E ms (tCBK (fun xs zs H Q=>∃ p ns d,xs=[.ref p]∧zs=[d]∧SqL K H p (ns.map V.int)∧(ns=[]→Q d H)∧∀ m∈ns,(∀ x∈ns,x≤m)→Q (.int m) H) (ag4 ta tNil) (ag4 td tNil)) (bn (extD ai2) ma md):=by
 intro B U As σ H ρ Q R P
 refine ha.bnd R P fun x v B1 U1 H1 N1 _ R1 e1 n1 d1 P1=>hd.bnd R1 P1 fun y u B2 U2 H2 N2 _ R2 e2 n2 d2 P2=>?_
 have d1:Dn cm H1 x v:=d1
 cases x with
 | lst ds =>
   rw [Dn] at d1
   obtain ⟨a,xs,rfl,h1,h2⟩:=d1
   replace P2:Po cm (KR cm .F) E ms B2 U2 As σ H2 ρ (match ai1 ds with | some []=>(if ad4 y=true then .ok y else .bad) | some (n :: ns)=> .ok (.int (ai2 ns n)) | none=> .bad) Q:=P2
   cases ei:ai1 ds with
   | none=>rw [ei] at P2; exact P2.elim
   | some ns =>
     have ex:=ak2 ei h2
     subst ex
     cases ns with
     | nil =>
       rw [ei] at P2
       replace P2:Po cm (KR cm .F) E ms B2 U2 As σ H2 ρ (if ad4 y=true then .ok y else .bad) Q:=P2
       by_cases z:ad4 y=true
       · rw [if_pos z] at P2
         exact ⟨a,[],u,rfl,rfl,SqL.of (e2.h _ _ h1),fun _=>P2 u B2 U2 H2 [] R2 (Gw.refl _ _ _) New.nil (ai6 z d2),fun m hm=>(nomatch hm)⟩
       · rw [if_neg z] at P2; exact P2.elim
     | cons n ns =>
       rw [ei] at P2
       refine ⟨a,n :: ns,u,rfl,rfl,SqL.of (e2.h _ _ h1),(fun z=>by cases z),fun m hm hle=>?_⟩
       obtain ⟨s1,s2,s3⟩:=an9 ns n
       have em:m=ai2 ns n:=by
        have l1:ai2 ns n∈n :: ns:=by
         rcases s1 with z | z
         · rw [z]; exact List.mem_cons_self
         · exact List.mem_cons_of_mem _ z
        have l2:=hle _ l1
        rcases List.mem_cons.mp hm with z | z
        · rw [z] at l2 ⊢; omega
        · have:=s3 m z; omega
       rw [em]
       exact P2 _ B2 U2 H2 [] R2 (Gw.refl _ _ _) New.nil (show Dn cm _ (.int (ai2 ns n)) _ by rw [Dn])
 | _=>exact P2.elim
noncomputable def keyP:D→Option (Int×Int×List Int)
 | .tup [.int a,.int b,.lst xs]=>(ai1 xs).map fun ns=>(a,b,ns)
 | _=>none
theorem aZ2 {x:D} {a b:Int} {ns:List Int} (h:keyP x=some (a,b,ns)):∃ xs,x= .tup [.int a,.int b,.lst xs]∧ai1 xs=some ns:=by
 unfold keyP at h
 split at h
 · obtain ⟨ms,e,e2⟩:=Option.map_eq_some_iff.mp h
   cases e2
   exact ⟨_,rfl,e⟩
 · cases h
theorem aw8 {x:D} {v:V} {a b:Int} {ns:List Int} (e:keyP x=some (a,b,ns)) (hx:Dn cm H x v):∃ p l,v= .ref p∧SqT K H p [.int a,.int b,.ref l]∧SqL K H l (ns.map V.int):=by
 obtain ⟨xs,rfl,e9⟩:=aZ2 e
 rw [Dn] at hx
 obtain ⟨p,ys,rfl,h1,h2⟩:=hx
 rw [Dns] at h2
 obtain ⟨x1,r1,rfl,d1,h3⟩:=h2
 rw [Dns] at h3
 obtain ⟨x2,r2,rfl,d2,h4⟩:=h3
 rw [Dns] at h4
 obtain ⟨x3,r3,rfl,d3,h5⟩:=h4
 rw [Dns] at h5
 rw [Dn] at d1; rw [Dn] at d2; rw [Dn] at d3
 obtain ⟨l,zs,rfl,h6,h7⟩:=d3
 subst d1 d2 h5
 rw [ak2 e9 h7] at h6
 exact ⟨p,l,rfl,SqT.of h1,SqL.of h6⟩
noncomputable def ninD (x y:D):Res D:=match toPy x,toPy y with
 | some p,some (.list xs)=>if SeqAt.shaped p=true∧SeqAt.shaped (.list xs)=true∧(xs.all fun z=>SeqAt.noMix z p)=true then .ok (.bl (!decide (countIn p xs≠0))) else .bad
 | _,_=> .bad
theorem hu65 {A:Around} {k:Nat} (hr:Room k A):A.units + 65 < cLine:=by have:=hr.un; omega
end
end Mi
namespace Mi
open PySem L2
noncomputable def aw2:List Ap→List Md→Bool
 | [],[]=>true
 | p :: ps,m :: r=>fits [] true p m && aw2 ps r
 | _,_=>false
theorem ag8:∀ {ps:List Ap} {mc:List Md},aw2 ps mc=true→ps.length=mc.length
 | [],[],_=>rfl
 | [],_ :: _,h=>by cases h
 | _ :: _,[],h=>by cases h
 | p :: ps,m :: r,h=>by
   have h:(fits [] true p m && aw2 ps r)=true:=h
   rw [Bool.and_eq_true] at h
   rw [List.length_cons,List.length_cons,ag8 h.2]
theorem ag9 {ms:List Md}:∀ {ps:List Ap} {mc:List Md},aw2 ps mc=true→∀ (j:Nat) p,ps[j]?=some p→fits ms true p (mc.getD j .F)=true
 | [],_,_,_,_,e=>by cases e
 | _ :: _,[],h,_,_,_=>by cases h
 | p :: ps,m :: r,h,j,q,e=>by
   have h:(fits [] true p m && aw2 ps r)=true:=h
   rw [Bool.and_eq_true] at h
   cases j with
   | zero =>
     cases e
     have:=h.1
     cases p <;> cases m <;> first | exact this | cases this
   | succ j=>rw [List.getD_cons_succ]; exact ag9 h.2 j q (by simpa using e)
noncomputable def pc (fm:List D→Out D) (a:Env→Res (List D)):Env→Res D:=fun ρ=>(a ρ).bind (al5 fm)
noncomputable def pm (c:Nat) (mn:Str) (fm:List D→Out D) (o:Env→Res D) (a:Env→Res (List D)):Env→Res D:=fun ρ=>(o ρ).bind fun o=>if ag7 c mn o=true then (a ρ).bind fun ds=>al5 fm (o :: ds) else .bad
noncomputable def pk (c:Nat) (fm:List D→Out D) (a:Env→Res (List D)):Env→Res D:=fun ρ=>(a ρ).bind (aw1 c fm)
noncomputable def mc (ps:List Ap) (fm:List D→Out D) (a:Env→Res (List D)):Env→Out D:=fun ρ=>((a ρ).up ρ).bind (al6 ps fm)
noncomputable def mm (c:Nat) (mn:Str) (ps:List Ap) (fm:List D→Out D) (o:Env→Res D) (a:Env→Res (List D)):Env→Out D:=fun ρ=>((o ρ).up ρ).bind fun o ρ=>if ag7 c mn o=true then ((a ρ).up ρ).bind fun ds ρ=>al6 ps fm (o :: ds) ρ else .bad
section
variable {cm:Cm} {Kr:KT D V} {pr:Nat→Bool} {ms:List Md} {K:PySem.W.Frag}
theorem KR.u {d:D} {v:V} {B U U' H:Hp} {N:List Addr} (h:KR cm .F d v B U H N):KR cm .F d v B U' H N:=h
theorem KO.u {s:Sh} {d:D} {v:V} {B U U' H:Hp} {N:List Addr} (h:KO cm s d v B U H N):KO cm s d v B U' H N:=h
theorem rnon {B U H:Hp} {N:List Addr}:KR cm .F .non .non B U H N:=show Dn cm B .non .non by rw [Dn]
end
theorem aF2 {cm:Cm} {G:Hp}:∀ ns:List Int,Dns cm G (ns.map D.int) (ns.map V.int)
 | []=>by rw [List.map_nil,List.map_nil,Dns]
 | n :: r=>by
   rw [List.map_cons,List.map_cons,Dns]
   exact ⟨_,_,rfl,by rw [Dn],aF2 r⟩
theorem bN6 {cm:Cm} {fm:List D→Out D} (h:∀ ns:List Int,ns.length≤63→∃ ρ,fm [.scr (ns.map D.int)]= .ok (.bl true) ρ) {vs:List V} {H:Hp} {Q:VK} {a:Addr} {ns:List Int} (hv:vs=[.ref a]) (hs:SqF cm.K H a (ns.map V.int)) (hl:ns.length≤63) (ht:∀ p∈cm.tb,∃ l,H p.1=some (.tbl l)∧p.2∈l) (hq:∀ H',Q (.bl true) H') :
 spM cm [.R] (KR cm .F) fm vs H Q E0:=by
 subst hv
 obtain ⟨ρ,e⟩:=h ns hl
 refine ⟨H,H,fun _=>[],[.scr (ns.map D.int)],⟨Same.refl _,Same.refl _,fun _=>List.nodup_nil,fun _ _ _ _ z=>(nomatch z),fun _ _ z=>(nomatch z),fun i=>?_,rfl,ht⟩,rfl,?_⟩
 · rw [ag3,ag3]
   cases i with
   | zero=>exact ⟨.ref a,rfl,by show Dn cm H (.scr _) _; rw [Dn]; exact ⟨a,_,rfl,hs,aF2 ns⟩,rfl⟩
   | succ i=>exact rfl
 · rw [e]
   intro v B' U' As' H' N R' e' n' k
   have k:Dn cm B' (.bl true) v:=k
   rw [Dn] at k
   rw [k]
   exact hq H'
theorem bH1 {K:PySem.W.Frag} {H:Hp} {a:Addr} {xs:List V} {T:Tbs} (o:Only T H) (h:SqL K H a xs):SqF K H a xs:=by
 rcases h with (h | h) | h
 · rcases o.2 a with z | ⟨ob,ys,z⟩ | z
   · rw [z] at h; cases h
   · rw [z] at h; cases h
   · rw [z] at h; cases h
 · exact .inl h
 · exact .inr h
theorem tb_of {H:Hp} {T:Tbs} (o:Only T H):∀ p∈T,∃ l,H p.1=some (.tbl l)∧p.2∈l:=fun p hp=>⟨_,o.1 p hp,Tbs.mem.mpr hp⟩
noncomputable def sc1 (m:Env→Res D):Env→Res D:=fun ρ=>(m ρ).bind fun d=>if ad4 d=true then .ok d else .bad
noncomputable def remF (xs:List D) (x:D):Option (D×List D):=match toPy x,toPys xs with
 | some d,some ds=>if SeqAt.shaped d=true∧ds.all SeqAt.shaped=true then (ds.findIdx? fun e=>PyData.eqv e d).map fun j=>(.non,xs.eraseIdx j) else none
 | _,_=>none
noncomputable def an2:List (List Key)→List D→List Key→List (List Key)×List D
 | k :: ks,d :: ds,j=>if k=j then an2 ks ds j else (k :: (an2 ks ds j).1,d :: (an2 ks ds j).2)
 | _,_,_=>([],[])
noncomputable def bl4:D→D→Option (D×D)
 | .dT ks vs,.tup k=>(af6 k).bind fun k=>(ae8 ks vs k).map fun x=>(x,.dT (an2 ks vs k).1 (an2 ks vs k).2)
 | _,_=>none
noncomputable def bb7 (set:Env→D→Env) (d:D) (ρ:Env):Res D→Out D
 | .ok k=>(match bl4 d k with | some (x,d')=> .ok x (set ρ d') | none=> .bad)
 | .exc c=> .exc c ρ
 | .bad=> .bad
noncomputable def aS5 (get:Env→Option D) (set:Env→D→Env) (mk:Env→Res D):Env→Out D:=fun ρ=>match get ρ with
 | some (.dT ks vs)=>bb7 set (.dT ks vs) ρ (mk ρ)
 | _=> .bad
section
variable {cm:Cm} {E:XK} {ms:List Md} {B U H:Hp} {As:Nat→List Addr} {σ:St} {ρ:Env} {t:TE} {get:Env→Option D} {set:Env→D→Env}
theorem bj1 {te:TE} {me:Env→Res D} (p:Pth cm ms t get set) (he:PJ cm (KR cm .X) E ms te me):MJ cm (KR cm .F) E ms (tBM cm.K "list" (aW8 cm.K) t (ag4 te tNil)) (lst1 get set remF me) :=
 bN5 (f:=remF) p he fun B U H a ds xs x u d es Q bu uh h1 h2 hu ef k=>by
  have hu:Dn cm H x u:=hu
  unfold remF at ef
  cases e1:toPy x with
  | none=>rw [e1] at ef; cases ef
  | some px =>
    cases e2:toPys ds with
    | none=>rw [e1,e2] at ef; cases ef
    | some ps =>
      rw [e1,e2] at ef
      replace ef:(if SeqAt.shaped px=true∧ps.all SeqAt.shaped=true then (ps.findIdx? fun e=>PyData.eqv e px).map fun j=>(D.non,ds.eraseIdx j) else none)=some (d,es):=ef
      by_cases z:SeqAt.shaped px=true∧ps.all SeqAt.shaped=true
      · rw [if_pos z] at ef
        obtain ⟨j,ej,e3⟩:=Option.map_eq_some_iff.mp ef
        cases e3
        obtain ⟨hj,hp,hlt⟩:=List.findIdx?_eq_some_iff_getElem.mp ej
        refine ⟨a,xs,u,px,ps,j,rfl,rfl,h1,den_of e1 hu,dens_of e2 (Dns.mono (bu.trans uh) h2),z.1,fun y hy=>List.all_eq_true.mp z.2 y hy,hj,fun m e em hm=>?_,k .non _ (by rw [Dn]) (h2.erase _)⟩
        by_cases w:m=j
        · subst w
          rw [List.getElem?_eq_getElem hj] at em
          cases em
          rw [hp]; simp
        · have:=hlt m (by omega)
          obtain ⟨hm',em'⟩:=List.getElem?_eq_some_iff.mp em
          rw [em'] at this
          rw [decide_eq_false w]
          simpa using this
      · rw [if_neg z] at ef; cases ef
theorem aP7 {G:Hp} {k:List Key}:∀ {kvs:List (List Key×V)} {ds:List D},Dns cm G ds (kvs.map (·.2))→(aw4 kvs k).map (·.1)=(an2 (kvs.map (·.1)) ds k).1∧Dns cm G (an2 (kvs.map (·.1)) ds k).2 ((aw4 kvs k).map (·.2))
 | [],ds,h=>by
   cases ds <;> exact ⟨rfl,by show Dns cm G [] []; rw [Dns]⟩
 | p :: kvs,ds,h=>by
   cases ds with
   | nil=>rw [Dns] at h; cases h
   | cons d ds =>
     rw [List.map_cons,Dns] at h
     obtain ⟨y,r,e,h1,h2⟩:=h
     cases e
     obtain ⟨i1,i2⟩:=aP7 (k:=k) h2
     unfold aw4 at i1 i2 ⊢
     rw [List.map_cons,List.filter_cons,an2]
     by_cases q:p.1=k
     · rw [if_neg (by simp [q]),if_pos q]
       exact ⟨i1,i2⟩
     · rw [if_pos (by simpa using q),if_neg q]
       refine ⟨by rw [List.map_cons,i1],?_⟩
       rw [List.map_cons,Dns]
       exact ⟨_,_,rfl,h1,i2⟩
theorem bq1 {tk:TE} {mk:Env→Res D} (p:Pth cm ms t get set) (hk:PJ cm (KR cm .X) E ms tk mk):MJ cm (KR cm .F) E ms (bm9 t tk) (aS5 get set mk):=by
 intro B U As σ H ρ Q R P
 unfold aS5 at P
 cases e:get ρ with
 | none=>rw [e] at P; exact P.elim
 | some d =>
   obtain ⟨v,A,ht,ow,hA,cl⟩:=p.rd R e
   cases d with
   | dT ks vs =>
     rw [e] at P
     replace P:Mo cm (KR cm .F) E ms B U σ (bb7 set (.dT ks vs) ρ (mk ρ)) Q:=P
     obtain ⟨a,kvs,rfl,h1,h2,rfl,h3⟩:=ow.dT rfl
     refine ht _ ⟨a,rfl,.inr ⟨kvs,.inl h1⟩,hk B U As σ H ρ _ R ?_⟩
     cases em:mk ρ with
     | exc c=>rw [em] at P; exact fun B1 U1 H1 R1 g1=>P B1 U1 As H1 R1 g1.toEx
     | bad=>rw [em] at P; exact P.elim
     | ok kd =>
       rw [em] at P
       intro u B1 U1 H1 N R1 g1 n1 hu
       have hu:Dn cm H1 kd u:=hu
       replace P:Mo cm (KR cm .F) E ms B U σ (match bl4 (.dT ks vs) kd with | some (x,d')=> .ok x (set ρ d') | none=> .bad) Q:=P
       cases ed:bl4 (.dT ks vs) kd with
       | none=>rw [ed] at P; exact P.elim
       | some xd =>
         obtain ⟨x,d'⟩:=xd
         rw [ed] at P
         cases kd with
         | tup kt =>
           replace ed:((af6 kt).bind fun k=>(ae8 ks vs k).map fun x=>(x,D.dT (an2 ks vs k).1 (an2 ks vs k).2))=some (x,d'):=ed
           obtain ⟨kk,ek,ed⟩:=Option.bind_eq_some_iff.mp ed
           obtain ⟨y,ey,ed⟩:=Option.map_eq_some_iff.mp ed
           cases ed
           rw [Dn] at hu
           obtain ⟨b,xs,rfl,h4,h5⟩:=hu
           have ex:=ak1 ek h5
           subst ex
           subst h2
           have h3':Dns cm B1 vs (kvs.map (·.2)):=h3.mono g1.b
           have hl:=aq2 (cm:=cm) (G:=B1) kk h3'
           rw [ey] at hl
           obtain ⟨w,ew,dw⟩:=hl
           obtain ⟨i1,i2⟩:=aP7 (cm:=cm) (G:=B1) (k:=kk) h3'
           refine ⟨kvs,kk,b,w,g1.h _ _ h1,rfl,h4,ew,?_⟩
           refine P w B1 U1 As _ [] (cl B1 U1 H1 R1 g1.b g1.h a List.mem_cons_self _ _ ?_) g1.toEx NewM.nil dw
           rw [← i1]
           exact Ow.dT' ac1 i2
         | _=>cases ed
   | _=>rw [e] at P; exact P.elim
end
section
variable {cm:Cm} {E:XK} {ms:List Md}
theorem aZ7 {ta:TE} {ma:Env→Res D} (ha:PJ cm (KR cm .F) E ms ta ma):PJ cm (KI cm .F .U) E ms (aZ8 cm.K ta) (srcL ma):=by
 intro B U As σ H ρ Q R P
 refine bD2 ha B U As σ H ρ Q R ?_
 cases e:srcL ma ρ with
 | ok ds =>
   rw [e] at P
   intro J B1 U1 H1 N R1 g n ⟨vs,hJ,hd⟩
   exact P J B1 U1 H1 N R1 g n ⟨vs,fun H2 s=>hJ H2 (R1.bu.trans s),hd⟩
 | exc c=>rw [e] at P; exact P
 | bad=>rw [e] at P; exact P
end
theorem hu66 {k:Nat} {A:Around} (r:Room k A):A.units + 66 < cLine:=by have:=r.un; omega
end Mi
namespace L2
open PySem PySem.Spec PyProof.Rows
section
variable {X:Cx} (K:PySem.W.Frag)
theorem bj9 (h:X.K=K):IxR X (rIxL K):=by subst h; exact bC9
theorem ah9 (h:X.K=K):aG0 X (.builtin "len") (fun xs H Q=>∃ p ys,xs=[.ref p]∧(SqL K H p ys∨SqT K H p ys)∧Q (.int ys.length) H):=by subst h; exact aF5
theorem aS8 (h:X.K=K) (hc:X.calm=true):aG1 X (.builtin "min") ["default"] (fun xs zs H Q=>∃ p ns d,xs=[.ref p]∧zs=[d]∧SqL K H p (ns.map V.int)∧(ns=[]→Q d H)∧∀ m∈ns,(∀ x∈ns,m≤x)→Q (.int m) H):=by subst h; exact bf1 hc
theorem aS9 (h:X.K=K) (hc:X.calm=true):aG1 X (.builtin "max") ["default"] (fun xs zs H Q=>∃ p ns d,xs=[.ref p]∧zs=[d]∧SqL K H p (ns.map V.int)∧(ns=[]→Q d H)∧∀ m∈ns,(∀ x∈ns,x≤m)→Q (.int m) H):=by subst h; exact bf2 hc
theorem aY2 (h:X.K=K) (hu:X.A.units + 64 < cLine):OpR X (compareOp .Eq) (rEqD K false):=by subst h; exact bK2 hu
theorem bz5 (h:X.K=K) (hu:X.A.units + 64 < cLine):OpR X (compareOp .NotEq) (rEqD K true):=by subst h; exact bJ8 hu
theorem aI2 (h:X.K=K) (hu:X.A.units + 65 < cLine):OpR X (compareOp .In) (fun x y H Q=>∃ d xs,Den K H d x∧Den K H (.list xs) y∧SeqAt.shaped d=true∧SeqAt.shaped (.list xs)=true∧(∀ z∈xs,SeqAt.noMix z d=true)∧Q (.bl (decide (countIn d xs≠0))) H):=by subst h; exact bK1 hu
theorem an5 (h:X.K=K):aG0 X (.builtin "isinstance") (fun xs H Q=>∃ x c t b,xs=[x,.ty c]∧TyOf K H x t∧PySem.W.kitOne K t (.type c)=some b∧Q (.bl b) H):=by subst h; exact bm4
theorem af5 {e:Expr} {ta:TE} {f:Str} {pos:Pos} (h:X.K=K) (he:PE X e ta) (hb:attributeBase e f X.env (eval e X.env)=eval e X.env):PE X (.Attribute e f pos) (tFld K ta f):=by subst h; exact bI9 he hb
theorem ay9 {tg l:Expr} {tl:TE} (h:X.K=K) (hl:PE X l tl):PI X tg l (aZ8 K tl):=by subst h; exact bz0 hl
end
end L2
namespace Mi
open PySem L2
noncomputable def spT (K:PySem.W.Frag) (T:Tbs):Sp:=fun vs H Q _=>∃ (a:Addr) (ns:List Int),vs=[.ref a]∧SqF K H a (ns.map V.int)∧ns.length≤63∧(∀ p∈T,∃ l,H p.1=some (.tbl l)∧p.2∈l)∧∀ H',Q (.bl true) H'
section
variable {cm:Cm} {E:XK} {ms:List Md}
theorem fF (i:Nat) (hm:ms.getD i .F= .F:=by rfl):PJ cm (KR cm .F) E ms (tVar i) (vr i):=xF hm
theorem fR (i:Nat) (hm:ms.getD i .F= .R:=by rfl):PJ cm (KR cm .U) E ms (tVar i) (vr i):=xR hm
theorem fO (i:Nat) {sh:Sh} (hm:ms.getD i .F= .O sh:=by rfl):PJ cm (KR cm .X) E ms (tVar i) (vr i):=xO hm
theorem fC (i:Nat) (hm:ms.getD i .F= .O (.ct .fz):=by rfl):PJ cm (KC cm .F) E ms (tVar i) (vr i):=xC hm
end
end Mi
namespace L2
open PySem
theorem lenV0 {P:List Value→Prop} (h:P []):∀ us:List Value,us.length=0→P us:=by
 intro us hl
 rw [List.length_eq_zero_iff.mp hl]; exact h
theorem aS1 {P:List Value→Prop} (h:∀ a0:Value,P [a0]):∀ us:List Value,us.length=1→P us:=by
 intro us hl
 cases us with
 | nil=>cases hl
 | cons a us=>exact lenV0 (P:=fun us=>P (a :: us)) (h a) us (Nat.succ.inj hl)
theorem aS0 {P:List Value→Prop} (h:∀ a0 a1:Value,P [a0,a1]):∀ us:List Value,us.length=2→P us:=by
 intro us hl
 cases us with
 | nil=>cases hl
 | cons a us=>exact aS1 (P:=fun us=>P (a :: us)) (h a) us (Nat.succ.inj hl)
theorem aI6 {P:List Value→Prop} (h:∀ a0 a1 a2:Value,P [a0,a1,a2]):∀ us:List Value,us.length=3→P us:=by
 intro us hl
 cases us with
 | nil=>cases hl
 | cons a us=>exact aS0 (P:=fun us=>P (a :: us)) (h a) us (Nat.succ.inj hl)
theorem bj4 {P:List Value→Prop} (h:∀ a0 a1 a2 a3:Value,P [a0,a1,a2,a3]):∀ us:List Value,us.length=4→P us:=by
 intro us hl
 cases us with
 | nil=>cases hl
 | cons a us=>exact aI6 (P:=fun us=>P (a :: us)) (h a) us (Nat.succ.inj hl)
theorem lenV5 {P:List Value→Prop} (h:∀ a0 a1 a2 a3 a4:Value,P [a0,a1,a2,a3,a4]):∀ us:List Value,us.length=5→P us:=by
 intro us hl
 cases us with
 | nil=>cases hl
 | cons a us=>exact bj4 (P:=fun us=>P (a :: us)) (h a) us (Nat.succ.inj hl)
end L2
namespace L2
open PySem PySem.Spec PyProof.Rows
section
variable {P:Program} {w:World} {H H':Hp} {h h':Heap} {a:Addr} {o:HO}
theorem ObjOk.ex (x:ObjOk P w H h a o):∃ u,h.get? a=some u:=by
 cases o with
 | lst xs=>obtain ⟨_,_,_,_,e⟩:=x; exact ⟨_,e⟩
 | tup xs=>obtain ⟨_,_,_,_,e,_⟩:=x; exact ⟨_,e⟩
 | dK kvs=>obtain ⟨_,_,_,_,o,_,_,e,_⟩:=x; exact ⟨_,e⟩
 | dT kvs=>obtain ⟨_,_,_,_,o,_,_,e,_⟩:=x; exact ⟨_,e⟩
 | set S n=>obtain ⟨o,_,_,_,e,_⟩:=x; exact ⟨_,e⟩
 | ins C dx fs=>obtain ⟨_,_,_,e,_⟩:=x; exact ⟨_,e⟩
 | own y=>obtain ⟨_,e⟩:=x; exact ⟨_,e⟩
 | xd fs=>obtain ⟨_,⟨_,_,_,e,_⟩,_⟩:=x; exact ⟨_,e⟩
 | rng lo hi=>obtain ⟨_,_,_,e⟩:=x; exact ⟨_,e⟩
 | frz ob u=>obtain ⟨e,_⟩:=x; exact ⟨_,e⟩
 | tbl l=>obtain ⟨_,_,e,_⟩:=x; exact ⟨_,e⟩
 | met f y=>exact ⟨_,show h.get? a=some _ from x⟩
 | ext φ=>obtain ⟨_,⟨_,e⟩,_⟩:=x; exact ⟨_,e⟩
theorem HOk.none (x:HOk P w H h) (e:h.get? a=Option.none):H a=Option.none:=by
 cases q:H a with
 | none=>rfl
 | some u=>obtain ⟨v,r⟩:=(x a u q).ex; rw [e] at r; cases r
theorem HOk.hide (x:HOk P w H h) {l:List Addr} (hl:∀ b∈l,H b=Option.none):HOk P w H (PySem.W.hideAll h l):=fun a o e =>
 (x a o e).stay (fun b u hb q=>PySem.W.hideAll_get l q fun z=>by
   have n:=hl b z
   rcases hb with rfl | hb
   · rw [n] at e; cases e
   · rw [n] at hb; cases hb) (fun _ q=>q) fun _ _ q=>q
end
noncomputable def CX1 (P:Program) (w:World):CXT:=fun outer H s E e s'=>∃ (ea C:Addr) (a0:Value) (B:Heap) (H':Hp),e= .ref ea∧s'.os=s.os∧AllBare s'.gens∧Un (frs outer) (frs outer) H H' s.heap B∧HOk P w H' B ∧
 Heap.FlyingW B outer ea (.ref C) a0 s'.heap∧(∀ b∈frs outer,∀ o,s.heap.get? b=some o→∃ sl,s'.heap.get? b=some { o with slots:=sl })∧(∀ b∈frs outer,H' b=none)∧E (.ref C) none H'
theorem Un.cut {fs:List Addr} {l:Addr} {H0 H H':Hp} {h0 h B:Heap} (a:Un fs [] H0 H h0 h) (b:Un (l :: fs) (l :: fs) H H' h B) (n:h0.get? l=none):Un fs fs H0 H' h0 B:=by
 have ne:∀ c o,h0.get? c=some o→c∉fs→c∉l :: fs:=fun c o q hc z=>by
  rcases List.mem_cons.mp z with rfl | z
  · rw [n] at q; cases q
  · exact hc z
 refine ⟨fun c o q f hc _=>b.keep c o (a.keep c o q f hc (by simp)) (a.free c o q f (by simp)) (ne c o q hc) (ne c o q hc),fun c o q f hc hx=>absurd hc hx,fun c o q f hx=>?_,fun c o q hx=>?_,fun c xs q=>b.tups c xs (a.tups c xs q),fun c o u q=>b.frzs c o u (a.frzs c o u q),
  fun c xs q=>⟨(b.tbls c xs (a.tbls c xs q).1).1,fun d o e1 e2=>let ⟨f1,f2⟩:=(a.tbls c xs q).2 d o e1 e2; (b.tbls c xs (a.tbls c xs q).1).2 d o f1 f2⟩⟩
 · obtain ⟨o',e1⟩:=a.there c o q (by simp)
   exact b.free c o' e1 (a.free c o q f (by simp)) (ne c o q hx)
 · obtain ⟨o',e1⟩:=a.there c o q (by simp)
   exact b.there c o' e1 (ne c o q hx)
theorem Un.hide {fs:List Addr} {P:Program} {w:World} {H:Hp} {h:Heap} (hok:HOk P w H h) (n:∀ b∈fs,H b=none):Un fs fs H H h (PySem.W.hideAll h fs) :=
 ⟨fun c o q f hc _=>PySem.W.hideAll_get fs q hc,fun c o q f hc hx=>absurd hc hx,fun c o q f hx=>f,fun c o q hx=>⟨o,PySem.W.hideAll_get fs q hx⟩,fun _ _ q=>q,fun _ _ _ q=>q,
  fun c xs q=>⟨q,fun d o e1 e2=>⟨e1,PySem.W.hideAll_get fs e2 fun z=>by rw [n d z] at e1; cases e1⟩⟩⟩
theorem Un.fly {fs:List Addr} {H H':Hp} {h B h':Heap} (u:Un fs fs H H' h B) (st:B.StaysIn h') (sl:∀ b∈fs,∀ o,h.get? b=some o→∃ sl,h'.get? b=some { o with slots:=sl }) (fr:∀ b∈fs,H' b=none):Un fs [] H H' h h' :=
 ⟨fun c o q f hc _=>st _ _ (u.keep c o q f hc hc),fun c o q f hc _=>sl c hc o q,fun c o q f _=>by
  by_cases z:c∈fs
  · exact fr c z
  · exact u.free c o q f z,fun c o q _=>by
  by_cases z:c∈fs
  · obtain ⟨x,e⟩:=sl c z o q; exact ⟨_,e⟩
  · obtain ⟨o',e⟩:=u.there c o q z; exact ⟨_,st _ _ e⟩,u.tups,u.frzs,fun c xs q=>⟨(u.tbls c xs q).1,fun d o e1 e2=>let ⟨f1,f2⟩:=(u.tbls c xs q).2 d o e1 e2; ⟨f1,st _ _ f2⟩⟩⟩
structure Own (X:Cx) (E:XK):Prop where
 xe:X.xe=fun e s'=>wpAny (model X.prog X.w) X.A (leaving X.env e) (fun _ s''=>CX1 X.prog X.w X.outer X.H₀ X.s₀ E e s'') (fun e' s''=>CX1 X.prog X.w X.outer X.H₀ X.s₀ E e' s'')  s'
 ex:X.ex=[]
 stk:X.stack=X.env :: X.outer
 fr:X.env.frame=some X.env.locals
theorem ar2 {P:Program} {w:World} {K:PySem.W.Frag} {mg:Str→Option Value} {base:Heap} {N:List Str} {qual:Str} {scope:Scope} {f:Addr} {cd:Value} {A:Around} {outer:List Env} {s:Shared} {H:Hp} {E:XK} :
 Own (cxOf (CX1 P w) P w K mg base N qual scope f cd A outer s H E) E:=⟨rfl,rfl,rfl,rfl⟩
theorem az9 {env:Env} {l:List Env} {L:Addr} (h:env.frame=some L):frs (env :: l)=L :: frs l:=by
 unfold frs
 rw [List.filterMap_cons,h]
theorem ay3 {h h':Heap} {base:Heap} {l:List Env} {b:Addr} {o:Obj} (u:h.UpToSlots h') (fl:h.FunFrames base l) (hb:b∈frs l) (e:h.get? b=some o):∃ sl,h'.get? b=some { o with slots:=sl }:=by
 obtain ⟨_,o',e',nf⟩:=fl.mem hb
 rw [e] at e'
 cases e'
 exact u b o e nf
section
variable {X:Cx} {E:XK} {pins:List (Addr×Obj)} {σ:St} {H:Hp} {s:Shared}
theorem Inv.above (I:Inv X pins σ H s):X.s₀.heap.get? X.env.locals=none:=Heap.get?_none_of_le I.ok.above
theorem Own.passes (O:Own X E):ap3 (CX1 X.prog X.w) X E:=by
 intro pins σ H s e s' I h
 obtain ⟨ea,C,a0,B,H',rfl,os,bare,un,hok,fl,sl,fr,q⟩:=h
 rw [O.xe]
 rw [O.stk] at un fl sl fr
 rw [az9 O.fr] at un sl fr
 have ff:=fl.2.2.1
 refine wpAny_leaves_onW (by rw [← O.stk]; exact I.ok.frames) O.fr fl fun h' fl' up=>?_
 have ib:Un (frs X.outer) [] X.H₀ H X.s₀.heap s.heap:=by have:=I.base; rw [O.ex] at this; exact this
 refine ⟨ea,C,a0,B,H',rfl,os.trans I.os,bare,ib.cut un I.above,hok,fl',fun b hb o e=>?_,fun b hb=>fr b (List.mem_cons_of_mem _ hb),q⟩
 obtain ⟨l1,e1⟩:=ib.slot b o e (I.ok.frf b hb) hb (by simp)
 obtain ⟨l2,e2⟩:=sl b (List.mem_cons_of_mem _ hb) _ e1
 obtain ⟨l3,e3⟩:=ay3 up fl.2.2.1.2.2 hb e2
 exact ⟨l3,e3⟩
theorem Own.raised (O:Own X E) {h':Heap} {ea C:Addr} {vs:List Value} (I:Inv X pins σ H s) (m:Heap.MadeExcOf s.heap h' ea (.ref C) vs) (q:E (.ref C) none H):X.xe (.ref ea) { s with heap:=h' }:=by
 rw [O.xe]
 have ib:Un (frs X.outer) [] X.H₀ H X.s₀.heap s.heap:=by have:=I.base; rw [O.ex] at this; exact this
 have fs:=I.stack
 rw [O.stk] at fs
 have hn:∀ b∈frs (X.env :: X.outer),H b=none:=by have:=I.stkFree; rw [O.stk] at this; exact this
 have fh:s.heap.FunFrames (PySem.W.hideAll s.heap (frs (X.env :: X.outer))) (X.env :: X.outer):=PySem.W.funFrames_hide fs fun env he b hb=>List.mem_filterMap.mpr ⟨env,he,hb⟩
 refine wpAny_leaves_madeW (h:=s.heap) (base:=PySem.W.hideAll s.heap (frs (X.env :: X.outer))) (by rw [← O.stk]; exact I.ok.frames) O.fr (fun b o e=>PySem.W.of_hideAll _ e) fh m fun h2 t fl tp tn up=>?_
 have un:Un (X.env.locals :: frs X.outer) (X.env.locals :: frs X.outer) H H s.heap (PySem.W.hideAll s.heap (frs (X.env :: X.outer))):=by
  have:=Un.hide I.hok hn
  rw [az9 O.fr] at this ⊢
  exact this
 refine ⟨ea,C,.ref t,_,H,rfl,I.os,I.bare,ib.cut un I.above,I.hok.hide hn,fl,fun b hb o e=>?_,fun b hb=>hn b (by rw [az9 O.fr]; exact List.mem_cons_of_mem _ hb),q⟩
 obtain ⟨l1,e1⟩:=ib.slot b o e (I.ok.frf b hb) hb (by simp)
 have e2:=m.keeps _ _ e1
 have f2:h'.FunFrames X.base X.outer:=I.funs.of_keeps fun b o e _=>⟨o,m.keeps _ _ e,rfl⟩
 obtain ⟨l3,e3⟩:=ay3 up f2 hb e2
 exact ⟨l3,e3⟩
theorem Own.own (O:Own X E):PassesOwn (model X.prog X.w) X.A X.env X.xe:=by
 rw [O.xe]
 exact PassesOwn.leaving
end
noncomputable def mroK (K:PySem.W.Frag) (C:Addr):List Value:=match K.lookup C with
 | some ⟨_,_,.cls cd,_⟩=>cd.mro
 | _=>[]
noncomputable abbrev vBm:List Value:=[.type "ValueError",.type "Exception",.type "BaseException",.type "object"]
noncomputable def excK (K:PySem.W.Frag) (C:Addr):Bool:=PySem.W.excIn K C vBm "ValueError.__new__"
theorem aI9 {K:PySem.W.Frag} {h:Heap} {C:Addr} (X:K.In h) (q:excK K C=true):∃ (bm:List Value) (N:Addr) (nm qn:Str) (bs:List Value) (hdct:Bool) (sn:List Str) (sub:List Value) (ab:Bool) (col:Option Bool) (dd:Option Addr) (k0 k1 k2 k3 k5:Option Value) (mN:Str→Option Value),
 h.get? C=some (excClassObj nm qn C N bs bm hdct sn sub ab col dd k0 k1 k2 k3 k5 "ValueError.__new__")∧h.Ns N mN∧mN "__init__" = none∧OwnTail h vBm bm∧mroK K C= .ref C :: bm:=by
 unfold excK PySem.W.excIn at q
 split at q
 · rename_i dd cd sl ho
   split at q
   · rename_i C' bm k0 k1 k2 k3 n k5 hm hs
     simp only [Bool.and_eq_true,beq_iff_eq,Bool.not_eq_true'] at q
     obtain ⟨⟨⟨⟨⟨rfl,rfl⟩,hdel⟩,ht⟩,hok⟩,hni⟩:=q
     have hmr:mroK K C'= .ref C' :: bm:=by unfold mroK; rw [ho]; exact hm
     obtain ⟨nm,bs,mro,ns,qn,hd,sn,sub,ab,col,del⟩:=cd
     dsimp only at hm hdel hok hni
     subst hm hdel
     have hsl:sl=#[k0,k1,k2,k3,some (.builtin "ValueError.__new__"),k5]:=by
      obtain ⟨l⟩:=sl
      simp only at hs
      rw [hs]
     subst hsl
     exact ⟨bm,ns,nm,qn,bs,hd,sn,sub,ab,col,dd,k0,k1,k2,k3,k5,_,X _ _ ho,.of_isNs (PySem.W.isNs_of_in X hok),PySem.W.nsMap_none_of_in X hok hni,PySem.W.tail_of_in X ht,hmr⟩
   · cases q
 · cases q
section
variable {X:Cx} {E:XK} {x:Str} {C:Addr} {np cpos pos:Pos} {e₀:Expr} {t:TA}
noncomputable def bm8 (E:XK) (C:Addr) (t:TA):TS:=fun _ σ H=>t σ H fun vs H'=>vs.length≤1000∧E (.ref C) none H'
theorem am0 (O:Own X E) (hc:X.calm=true) (hg:Gl X x) (hm:X.mg x=some (.ref C)) (hk:excK X.K C=true) (ha:PA X [e₀] t) (hd:(x == ("__debug__" : Str))=false:=by decide)
 (he:starEach [e₀] X.env=(false,eval e₀ X.env) :: starEach [] X.env:=by rfl) (hpl:(backTo cpos (starEach [] X.env)).any (·.1)=false:=by rfl) :
 PS X (.Raise (some (.Call (.Name x np) [e₀] [] cpos)) none pos) (bm8 E C t):=by
 intro pins s σ H D I h
 obtain ⟨bm,N,nm,qn,bs,hdct,sn,sub,ab,col,dd,k0,k1,k2,k3,k5,mN,hC,hN,hni,T,_⟩:=aI9 I.ok.mod.kin hk
 refine wpAny_Raise_call_subT (C:=C) (nm:=nm) (q:=qn) (N:=N) (bs:=bs) (bm:=bm) (hdct:=hdct) (sn:=sn) (sub:=sub) (ab:=ab) (col:=col) (dd:=dd) (k0:=k0) (k1:=k1) (k2:=k2) (k3:=k3) (k5:=k5)
  PySem.F.excBase_ValueError (mN:=mN) (T.hasType PySem.F.excBase_ValueError.hasBase) (I.ok.hd hc) (by rw [he]; show (false || (backTo cpos (starEach [] X.env)).any (·.1))=false; rw [hpl]; rfl) hni (ao1 I hg hm ⟨rfl,?_⟩ hd)
 have h2:=ha cpos pins s σ H _ I h
 rw [he] at h2 ⊢
 refine Calls.evalArgs_plain (thn h2 fun us s2 ⟨vs,H2,I2,r2,hl,q2⟩=>⟨rfl,?_,I2.bk _ _ hC,hN.keeps I2.bk,T.keeps I2.bk,fun h' e m=>O.raised I2 m q2⟩)
 rw [← r2.length]
 exact Nat.le_of_lt (aV6 hl)
end
noncomputable def PSf (X:Cx) (pins:List (Addr×Obj)) (σ:St) (st:List Stmt) (t:TS):Prop:=∀ (s:Shared) (H:Hp) (D:Ends),Inv X pins σ H s→t D σ H→wpAny (model X.prog X.w) X.A (execs st X.env) (SP X pins D) X.xe s
noncomputable def PEf (X:Cx) (pins:List (Addr×Obj)) (σ:St) (e:Expr) (t:TE):Prop:=∀ (s:Shared) (H:Hp) (Q:VK),Inv X pins σ H s→t σ H Q→wpAny (model X.prog X.w) X.A (eval e X.env) (EP X pins σ Q) X.xe s
noncomputable def Pf (CX:CXT) (X:Cx) (pins:List (Addr×Obj)) (σ:St) (E:XK):Prop:=∀ (H:Hp) (s:Shared) (e:Value) (s':Shared),Inv X pins σ H s→CX X.stack H s E e s'→X.xe e s'
noncomputable def TB (X:Cx) (st:List Stmt) (tb:XK→TS):Prop:=∀ (q:Value→Shared→Prop) (pins:List (Addr×Obj)) (σ:St) (E:XK),Pf (CX1 X.prog X.w) (X.wish q) pins σ E→PSf (X.wish q) pins σ st (tb E)
noncomputable def TBe (X:Cx) (e:Expr) (te:XK→TE):Prop:=∀ (q:Value→Shared→Prop) (pins:List (Addr×Obj)) (σ:St) (E:XK),Pf (CX1 X.prog X.w) (X.wish q) pins σ E→PEf (X.wish q) pins σ e (te E)
section
variable {X:Cx} {q:Value→Shared→Prop}
theorem PA.wish {es:List Expr} {t:TA} (h:PA X.nox es t):PA (X.wish q) es t:=fun pos pins s σ H Q I hw =>
 wpAny_mono (h pos pins s σ H Q (I.unwish.wish _) hw) (fun _ _ ⟨v,H',I',r,z⟩=>⟨v,H',I'.unwish.wish _,r,z⟩) fun _ _ z=>False.elim z
theorem PE.wish {e:Expr} {t:TE} (h:PE X.nox e t):PE (X.wish q) e t:=fun pins s σ H Q I hw =>
 wpAny_mono (h pins s σ H Q (I.unwish.wish _) hw) (fun _ _ ⟨v,H',I',r,z⟩=>⟨v,H',I'.unwish.wish _,r,z⟩) fun _ _ z=>False.elim z
theorem PT.wish {e:Expr} {t:TT} (h:PT X.nox e t):PT (X.wish q) e t:=fun pins s σ H Q I hw =>
 wpAny_mono (h pins s σ H Q (I.unwish.wish _) hw) (fun _ _ ⟨H',I',z⟩=>⟨H',I'.unwish.wish _,z⟩) fun _ _ z=>False.elim z
end
section
variable {X:Cx} {CX:CXT} {k:Nat} {f C:Addr} {fd:FuncData} {ps:List Str} {sp:Sp} {dvs:List V} {ds:List Value} {E:XK} {x m:Str} {p pos apos:Pos} {e o:Expr} {es:List Expr} {ta:TE} {t:TA}
theorem by6 {pins:List (Addr×Obj)} {σ:St} {H:Hp} {s:Shared} {Q:VK} {us:List Value} {vs:List V} (F:FnOk X.prog X.w X.K X.mg X.base CX k f fd ps sp) (hr:Room k X.A) (hb:Binds X.K fd ps ds) (hd:Vals dvs ds) (hx:Pf CX X pins σ E)
 (I:Inv X pins σ H s) (r:Vals vs us) (h:sp (vs ++ dvs) H Q E):wpAny (model X.prog X.w) X.A (call (.ref f) us) (EP X pins σ Q) X.xe s:=by
 have r2:Vals (vs ++ dvs) (us ++ ds):=r.append hd
 have hl:(us ++ ds).length=ps.length:=by rw [← r2.length]; exact F.len _ _ _ _ h
 refine wpAny_call (codeAny_mono (F.run X.A X.stack s H ⟨us,[]⟩ (us ++ ds) (vs ++ dvs) Q E hr I.env0 (hb s us I.kIn hl) r2 h) fun r s' hq=>?_)
 cases r with
 | error e=>exact hx H s e s' I hq
 | ok fl =>
   cases fl with
   | ret u=>exact I.after hq
   | next=>exact False.elim hq
   | brk=>exact False.elim hq
   | cont=>exact False.elim hq
theorem aT4 {pl:Sem Bool} (he:PE X.nox o ta) (c:Cls X.K C) (hm:Meth X.K C m f) (F:FnOk X.prog X.w X.K X.mg X.base (CX1 X.prog X.w) k f fd ps sp) (hr:Room k X.A) (hb:Binds X.K fd ps ds) (hd:Vals dvs ds) (ha:PA X.nox (e :: es) t)
 (hst:starEach (e :: es) X.env=(false,eval e X.env) :: starEach es X.env:=by rfl) (hpl:(backTo pos (starEach es X.env)).any (·.1)=false:=by rfl)
 (ht:eval (.Call (.Attribute o m apos) (e :: es) [] pos) X.env=(do
   let ov ← eval o X.env
   standAt apos.atName
   let (f,first) ← holding [ov] (getMethod ov m pl)
   callWith pos f first (backTo pos (starEach (e :: es) X.env)) (backToKw pos (keywordEach [] X.env))):=by rfl) :
 TBe X (.Call (.Attribute o m apos) (e :: es) [] pos) (fun E=>aC4 C m sp dvs E ta t):=by
 intro q pins σ E hx s H Q I h
 refine PySem.W.methodCall_KW (pl:=pl) (thn (PE.wish (q:=q) he pins s σ H _ I h) fun u s1 ⟨x,H1,I1,rx,a,dx,fs,ex,ea,l,q⟩=>?_) ht
 subst ex
 obtain rfl:u=Value.ref a:=rx
 refine ao3 I1 ea c hm l ?_
 refine PySem.W.callWith_K (first:=[.ref a]) (h₀:=X.base) I.ok.mod.kin hm.kp (thn (PA.wish ha pos pins s1 σ H1 _ I1 q) fun us s2 ⟨vs,H2,I2,r,q2⟩=>⟨I2.kIn,?_⟩) hst hpl
 exact by6 (us:= .ref a :: us) (vs:= .ref a :: vs) F hr hb hd hx I2 (.cons rfl r) q2
theorem br3 (M:Mk X.K C f) (F:FnOk X.prog X.w X.K X.mg X.base (CX1 X.prog X.w) k f fd ps sp) (hr:Room (k + 1) X.A) (hg:Gl X x) (hm:X.mg x=some (.ref C)) (hb:Binds X.K fd ps ds) (hd:Vals dvs ds)
 (ha:PA X.nox (e :: es) t) (hdb:(x == ("__debug__" : Str))=false:=by decide) (he:starEach (e :: es) X.env=(false,eval e X.env) :: starEach es X.env:=by rfl) (hpl:(backTo pos (starEach es X.env)).any (·.1)=false:=by rfl) :
 TBe X (.Call (.Name x p) (e :: es) [] pos) (fun E=>bg0 C sp dvs E t):=by
 intro q pins σ E hx s H Q I h
 refine wpAny_Call_Name_kw (ao1 (X:=X.wish q) I hg hm ?_ hdb)
 refine PySem.W.callWith_K (h₀:=X.base) I.ok.mod.kin M.kp (thn (PA.wish (q:=q) ha pos pins s σ H _ I h) fun us s1 ⟨vs,H1,I1,r,q'⟩=>⟨I1.kIn,?_⟩) he hpl
 have hq:=q' (s1.heap.objs.size + 1) s1.heap.objs.size (I1.hok.fresh (Nat.le_succ _)) (I1.hok.fresh (Nat.le_refl _)) (Nat.ne_of_lt (Nat.lt_succ_self _))
 have I2:=Inv.made (C:=C) I1
 have r2:Vals (V.ref (s1.heap.objs.size + 1) :: (vs ++ dvs)) (Value.ref (s1.heap.objs.size + 1) :: (us ++ ds)):= .cons rfl (r.append hd)
 have hl:(Value.ref (s1.heap.objs.size + 1) :: us ++ ds).length=ps.length:=by
  have e:=r2.length
  rw [F.len _ _ _ _ hq] at e
  exact e.symm
 refine wpAny_call (aO5 (f:=f) I1.kIn M.makes M.init (beq_iff_eq.mp M.fn) (codeAny_mono (F.run _ X.stack _ _ ⟨Value.ref (s1.heap.objs.size + 1) :: us,[]⟩ (Value.ref (s1.heap.objs.size + 1) :: (us ++ ds)) _ _ E (hr.make C us [])
  (I2.env0.make C us []) (hb _ (Value.ref (s1.heap.objs.size + 1) :: us) I2.kIn hl) r2 hq) fun r s' hq'=>?_))
 cases r with
 | error e=>exact hx _ _ e s' I2 hq'
 | ok fl =>
   cases fl with
   | ret u =>
     obtain ⟨v,H',I3,rv,ev,q3⟩:=I2.after hq'
     subst ev
     exact ⟨rv,⟨V.ref (s1.heap.objs.size + 1),H',I3,rfl,q3⟩⟩
   | next=>exact False.elim hq'
   | brk=>exact False.elim hq'
   | cont=>exact False.elim hq'
theorem aG3 {te:XK→TE} (he:TBe X e te) (hs:swapsWith e none pos.line X.env=pure false:=by rfl):TB X [.Expr e pos] (fun E=>bg1 (te E)):=by
 intro q pins σ E hx s H D I h
 refine wpAny_execs_cons ?_
 exact wpAny_Expr_any (thn (he q pins σ E hx s H _ I h) fun v s1 ⟨x,H1,I1,r1,q1⟩=>wpAny_execs_nil ⟨σ,H1,I1,q1⟩) I.quiet hs
theorem tb_if {c:Expr} {a b:List Stmt} {tc:TT} {t u:XK→TS} (hc:PT X.nox c tc) (ha:TB X a t) (hb:TB X b u):TB X [.If c a b pos] (fun E=>tIfS tc (t E) (u E)):=by
 intro q pins σ E hx s H D I h
 refine wpAny_execs_cons ?_
 refine wpAny_If (thn (PT.wish (q:=q) hc pins s σ H _ I h) fun d s1 ⟨H1,I1,q1⟩=>?_)
 cases d with
 | true =>
   refine thn (ha q pins σ E hx s1 H1 D I1 q1) fun fl s2 z=>?_
   cases fl with
   | next=>exact wpAny_execs_nil z
   | _=>exact z
 | false =>
   refine thn (hb q pins σ E hx s1 H1 D I1 q1) fun fl s2 z=>?_
   cases fl with
   | next=>exact wpAny_execs_nil z
   | _=>exact z
end
noncomputable abbrev Cx.hand (X:Cx) (ea:Addr) (oe:Obj):Cx:={ X with A:=X.A.mark (some (.ref ea)),calm:=false,pn:=(ea,oe) :: X.pn,xe:=fun _ _=>False }
section
variable {X:Cx} {pins:List (Addr×Obj)} {σ:St} {H:Hp} {s:Shared} {ea:Addr} {oe:Obj}
theorem Cx.Ok.hand (ok:X.Ok):(X.hand ea oe).Ok:=⟨ok.mod,ok.kind,ok.glob,ok.blt,ok.above,ok.inj,ok.has,ok.cab,fun z=>(nomatch z),ok.frames,ok.stk,ok.exf,ok.bs,ok.bsz,ok.noex,ok.exfs,ok.funs,ok.frf⟩
theorem Inv.hand (I:Inv X pins σ H s) {vs:Array Value} (he:s.heap.get? ea=some oe) (hn:H ea=none) (hd:oe.data= .fields vs):Inv (X.hand ea oe) pins σ H s:=by
 refine ⟨I.ok.hand,I.os,I.bare,I.base,I.loc,I.cell,I.free,I.freeC,fun p hp=>?_,I.hok,I.len⟩
 rcases List.mem_cons.mp (show p∈(ea,oe) :: (X.pn ++ pins) from hp) with rfl | hp
 · refine ⟨he,hn,fun z=>?_,fun z=>?_,fun v z=>by rw [hd] at z; cases z⟩
   · obtain ⟨m,⟨o,es,ep,ho,hd',_⟩,_⟩:=I.loc
     replace z:ea=X.env.locals:=z
     rw [z,ho] at he
     cases he
     rw [hd] at hd'
     cases hd'
   · obtain ⟨_,o,ho,nf⟩:=I.funs.mem z
     replace ho:s.heap.get? ea=some o:=ho
     rw [he] at ho
     cases ho
     exact nf _ hd
 · exact I.pin p hp
theorem Inv.unhand (I:Inv (X.hand ea oe) pins σ H s) (ok:X.Ok):Inv X pins σ H s :=
 ⟨ok,I.os,I.bare,I.base,I.loc,I.cell,I.free,I.freeC,fun p hp=>I.pin p (List.mem_cons_of_mem _ hp),I.hok,I.len⟩
theorem Inv.exc (I:Inv (X.hand ea oe) pins σ H s):s.heap.get? ea=some oe:=(I.pin (ea,oe) List.mem_cons_self).1
theorem Inv.fly {s':Shared} {B:Heap} {H':Hp} (I:Inv X pins σ H s) (un:Un (frs X.stack) (frs X.stack) H H' s.heap B) (hok:HOk X.prog X.w H' B) (st:B.StaysIn s'.heap)
 (sl:∀ b∈frs X.stack,∀ o,s.heap.get? b=some o→∃ sl,s'.heap.get? b=some { o with slots:=sl }) (fr:∀ b∈frs X.stack,H' b=none) (os:s'.os=s.os) (bare:AllBare s'.gens):Inv X pins σ H' s' :=
 I.call' os (un.fly st sl fr) (hok.kept st) bare fun b z=>absurd z (by simp)
theorem az8 {M:Model} {A:Around} {E:Value→Shared→Prop} {n:Str} {j:Nat} {pos:Pos} {Q:Unit→Shared→Prop} (I:Inv X pins σ H s) (hN:X.N.Nodup) (hj:X.N[j]?=some n) (hk:X.env.kindOf n=some .local)
 (h:∀ s',Inv X pins (σ.set j none) H s'→Q () s'):wpAny M A (do bindName X.env n .none; unbindBehindTheSuite X.env n pos) Q E s:=by
 obtain ⟨m,hn,hl⟩:=id I.loc
 have hcls:(X.env.scope.kind == .class || (X.env.scope.kind == .module && X.env.locals != X.env.globals))=false:=by rw [I.ok.kind]; rfl
 have hiσ:j < σ.length:=by rw [I.len]; exact (List.getElem?_eq_some_iff.mp hj).1
 have cne:=I.cne
 refine wpAny_nameGoes_keeps hk hn hcls fun h' v hn' hs=>?_
 have tracked:HOk X.prog X.w H h':=fun b ob e=>by
  refine (I.hok b ob e).stay (fun c w' hc q=>(hs.2 c ?_).trans q) (fun _ q=>q) fun _ _ q=>q
  rintro rfl
  have hfree:=I.free
  rcases hc with rfl | hc
  · rw [hfree] at e; cases e
  · rw [hfree] at hc; cases hc
 refine h _ ⟨I.ok,I.os,I.bare,⟨fun b o e n hb hx=>?_,fun b o e n hb hx=>?_,I.base.free,fun b o e hx=>?_,I.base.tups,I.base.frzs,fun b l q=>⟨(I.base.tbls b l q).1,fun c o e1 e2=>let ⟨f1,f2⟩:=(I.base.tbls b l q).2 c o e1 e2; ⟨f1,(hs.2 c (ab3 f1 I.free)).trans f2⟩⟩⟩,⟨_,hn',fun i y v' e1 e2 e3=>?_⟩,fun y c e=>?_,I.free,I.freeC,fun p hp=>?_,tracked,by simpa using I.len⟩
 · exact (hs.2 b (Nat.ne_of_lt (Nat.lt_of_lt_of_le (Heap.lt_size e) I.ok.above))).trans (I.base.keep b o e n hb hx)
 · obtain ⟨sl,e1⟩:=I.base.slot b o e n hb hx
   exact ⟨sl,(hs.2 b (Nat.ne_of_lt (Nat.lt_of_lt_of_le (Heap.lt_size e) I.ok.above))).trans e1⟩
 · obtain ⟨o',e1⟩:=I.base.there b o e hx
   exact ⟨o',(hs.2 b (Nat.ne_of_lt (Nat.lt_of_lt_of_le (Heap.lt_size e) I.ok.above))).trans e1⟩
 · by_cases hij:i=j
   · subst hij
     rw [List.getElem?_set_self hiσ] at e2
     cases e2
   · rw [List.getElem?_set_ne (Ne.symm hij)] at e2
     obtain ⟨u',r',q⟩:=hl i y v' e1 e2 e3
     refine ⟨u',r',?_⟩
     rcases q with ⟨k,e⟩ | ⟨k,c,e,z⟩
     · refine .inl ⟨k,?_⟩
       have:y≠n:=fun e=>hij (az0 hN e1 (e ▸ hj))
       simp [this,e]
     · exact .inr ⟨k,c,e,z.sameBut hs (cne y c e)⟩
 · obtain ⟨w',z⟩:=I.cell y c e
   exact ⟨w',z.sameBut hs (cne y c e)⟩
 · obtain ⟨e,n,ne,nf,d⟩:=I.pin p hp
   exact ⟨(hs.2 p.1 ne).trans e,n,ne,nf,d⟩
end
theorem aw3 {M:Model} {A:Around} {E:Value→Shared→Prop} {K:PySem.W.Frag} {C G:Addr} {h:Heap} {g:Array GenState} {d:Drawn} {t:Nat} {os:OsState} {e:Addr} {oe:Obj} {Q:Bool→Shared→Prop}
 (X:K.In h) (kC:excK K C=true) (kG:excK K G=true) (he:h.get? e=some oe) (hcls:oe.cls= .ref C) (hs:(mroK K C).contains (.ref G)=true)
 (hq:Q true ⟨h,g,d,t,os⟩):wpAny M A (excMatches (.ref e) (.ref G)) Q E ⟨h,g,d,t,os⟩:=by
 obtain ⟨bm,N,nm,qn,bs,hdct,sn,sub,ab,col,dd,k0,k1,k2,k3,k5,mN,hC,_,_,TC,mC⟩:=aI9 X kC
 obtain ⟨bm2,N2,nm2,qn2,bs2,hdct2,sn2,sub2,ab2,col2,dd2,j0,j1,j2,j3,j5,mN2,hG,_,_,TG,mG⟩:=aI9 X kG
 rw [mC] at hs
 have hcB:(Value.ref G :: bm2).contains (.type "BaseException")=true:=by rw [List.contains_cons,TG.hasType PySem.F.excBase_ValueError.hasBase,Bool.or_true]
 have f:=tc_notTuple
 unfold excMatches
 repeat (first | (with_reducible refine wpAny_loadPart_at he ?_; rw [hcls]) | with_reducible refine wpAny_loadPart_at hG ?_ | with_reducible refine wpAny_loadPart_at hC ?_ | (with_reducible refine wpAny_isSubtype_exc hG ?_; rw [hcB]) | (with_reducible refine wpAny_isSubtype_exc hC ?_; rw [hs]) | wp_step)
 exact hq
section
variable {X:Cx} {st:List Stmt} {tb:XK→TS} {x n:Str} {G:Addr} {j:Nat} {np hp pos:Pos} {b₀:Stmt} {suite:List Stmt} {th:Addr→Addr→TS} {ok:Addr→Prop}
noncomputable def tH (K:PySem.W.Frag) (G:Addr) (ok:Addr→Prop) (g:Addr→Addr→Hp→Prop):XK:=fun Cv _ H'=>∃ C,Cv= .ref C∧excK K C=true∧(mroK K C).contains (.ref G)=true∧ok C∧∀ ea,H' ea=none→g ea C H'
noncomputable def bm7 (K:PySem.W.Frag) (G:Addr) (ok:Addr→Prop) (j:Nat) (tb:XK→TS) (th:Addr→Addr→TS):TS:=fun D σ H =>
 tb (tH K G ok fun ea C H'=>th ea C { nx:=fun σ1 H1=>D.nx (σ1.set j none) H1,rt:=D.rt,bk:=fun σ1 H1=>D.bk (σ1.set j none) H1,ct:=fun σ1 H1=>D.ct (σ1.set j none) H1 } (σ.set j (some (.ref ea))) H') D σ H
theorem SP.unhand {pins:List (Addr×Obj)} {ea:Addr} {oe:Obj} {D:Ends} {f:Flow} {s':Shared} (h:SP (X.hand ea oe) pins D f s') (ok:X.Ok):SP X pins D f s':=by
 cases f with
 | next=>obtain ⟨σ',H',I,q⟩:=h; exact ⟨σ',H',I.unhand ok,q⟩
 | brk=>obtain ⟨σ',H',I,q⟩:=h; exact ⟨σ',H',I.unhand ok,q⟩
 | cont=>obtain ⟨σ',H',I,q⟩:=h; exact ⟨σ',H',I.unhand ok,q⟩
 | ret u=>obtain ⟨v,σ',H',I,r,q⟩:=h; exact ⟨v,σ',H',I.unhand ok,r,q⟩
theorem aN4 (hst:X.stack=X.env :: X.outer) (hfr:X.env.frame=some X.env.locals) (hb:TB X st tb) (hg:Gl X x) (hm:X.mg x=some (.ref G)) (hG:excK X.K G=true) (hN:X.N.Nodup) (hj:X.N[j]?=some n)
 (hk:X.env.kindOf n=some .local) (hx:Loc X.env.scope n) (hs:∀ ea oe C,oe.cls= .ref C→ok C→PSs (X.hand ea oe) (b₀ :: suite) (th ea C)) (hd:(x == ("__debug__" : Str))=false:=by decide)
 (hf:X.fn n=true∨X.env.scope.names.lookup n=some .local:=by first | exact .inl rfl | exact .inr rfl | assumption) :
 PS X (.Try st [.ExceptHandler (some (.Name x np)) (some n) (b₀ :: suite) hp] [] [] pos) (bm7 X.K G ok j tb th):=by
 intro pins s σ H D I h
 refine wpAny_Try_except ?_
 refine wpAny_mono (hb (fun e s₁=>wpAny (model X.prog X.w) X.A (noteFrame e X.env) (fun _ s₂=>wpAny (model X.prog X.w) X.A (setFlight e none) (fun _ s₃=>wpAny (model X.prog X.w) X.A (handleBy e X.env [.ExceptHandler (some (.Name x np)) (some n) (b₀ :: suite) hp]) (SP X pins D) X.xe s₃) X.xe s₂) X.xe s₁) pins σ _ ?_ s H D (I.wish _) h) (fun fl s1 z=>?_) (fun e s1 z=>z)
 rotate_left
 · cases fl with
   | next=>exact wpAny_execs_nil z.unwish
   | ret v=>exact z.unwish
   | brk=>exact z.unwish
   | cont=>exact z.unwish
 · intro H1 s1 e s' I1 hcx
   obtain ⟨ea,C,a0,B,H',rfl,os,bare,un,hok,fl,sl,fr,C',hCv,kC,hsub,kok,hh⟩:=hcx
   cases hCv
   replace I1:=I1.unwish
   replace un:Un (frs X.stack) (frs X.stack) H1 H' s1.heap B:=un
   replace fl:Heap.FlyingW B X.stack ea (.ref C) a0 s'.heap:=fl
   rw [hst] at fl
   have ff:=fl.2.2.1
   have hH:H' ea=none:=hok.none fl.2.1
   show wpAny _ _ (noteFrame (.ref ea) X.env) _ _ _
   refine wpAny_looks_onW (by rw [← hst]; exact I.ok.frames) hfr fl fun h4 fl4 up4=>?_
   refine wpAny_landsW fl4 fun h5 fl5 up5=>?_
   have up:=up4.trans up5
   have slx:∀ {h6:Heap},s'.heap.UpToSlots h6→∀ b∈frs X.stack,∀ o,s1.heap.get? b=some o→∃ sl,h6.get? b=some { o with slots:=sl }:=fun {h6} u b hb o e=>by
    obtain ⟨l1,e1⟩:=sl b hb o e
    rw [hst] at hb
    obtain ⟨l2,e2⟩:=ay3 u ff hb e1
    exact ⟨l2,e2⟩
   have I5:Inv X pins σ H' { s' with heap:=h5 }:=I1.fly (s':={ s' with heap:=h5 }) un hok fl5.1 (slx up) fr os bare
   obtain ⟨o5,v5,he5,hc5,hd5,_⟩:=fl5.first
   have I5h:Inv (X.hand ea o5) pins σ H' { s' with heap:=h5 }:=I5.hand he5 hH hd5
   refine wpAny_handleBy_cons (codeAny_handlers_test ?_) (by intro z; cases z)
   refine ao1 (X:=X.hand ea o5) I5h hg hm ?_ hd
   refine aw3 (K:=X.K) I5h.kIn kC hG he5 hc5 hsub ?_
   show codeAny _ _ _ _ _
   refine codeAny_handlers_suite_as ?_
   refine lands_againW fl5 fun h6 fl6 up6=>?_
   have I6:Inv X pins σ H' { s' with heap:=h6 }:=I1.fly (s':={ s' with heap:=h6 }) un hok fl6.1 (slx (up.trans up6)) fr os bare
   obtain ⟨o6,v6,he6,hc6,hd6,_⟩:=fl6.first
   have I6h:Inv (X.hand ea o6) pins σ H' { s' with heap:=h6 }:=I6.hand he6 hH hd6
   refine ax2 (X:=X.hand ea o6) (i:=j) (v:= .ref ea) I6h hN hj hx rfl (fun s7 I7=>?_) hf
   refine wpAny_mono (hs ea o6 C hc6 kok pins s7 _ H' _ I7 (hh ea hH)) (fun fl s8 z=>?_) fun _ _ z=>z.elim
   show wpAny _ _ _ _ _ _
   cases fl with
   | next=>obtain ⟨σ',H2,J,q⟩:=z; exact az8 (J.unhand I.ok) hN hj hk fun s9 J9=>⟨_,H2,J9,q⟩
   | brk=>obtain ⟨σ',H2,J,q⟩:=z; exact az8 (J.unhand I.ok) hN hj hk fun s9 J9=>⟨_,H2,J9,q⟩
   | cont=>obtain ⟨σ',H2,J,q⟩:=z; exact az8 (J.unhand I.ok) hN hj hk fun s9 J9=>⟨_,H2,J9,q⟩
   | ret u=>obtain ⟨v,σ',H2,J,r,q⟩:=z; exact az8 (J.unhand I.ok) hN hj hk fun s9 J9=>⟨v,_,H2,J9,r,q⟩
end
end L2
namespace PySem.W
open PySem PySem.Spec PySem.Calls PyProof.Rows
open Builtin Builtin.ObjectAttr Builtin.Getset_descriptor in
theorem bD6 {prog:Program} {w:World} {A:Around} {R:Result→Shared→Prop} {s:Shared} {x C:Addr} {tp:Value} (L0:Looks (model prog w) s.heap (typeOf (.ref x)) (.ref C)) (L1:Looks (model prog w) s.heap (isSubtype (.ref C) (.type "object")) true)
 (h:R (.ok (.ret (.ref C))) s):codeAny (model prog w) A (.call (.builtin "getset_descriptor.__get__") ⟨[.builtin "object.__class__",.ref x,tp],[]⟩) R s:=by
 obtain ⟨hh,g,dr,t,os⟩:=s
 refine codeAny_call_builtin KF.slot_gs.plain KF.entry_gs (KF.slot_gs.check _ _ _ _ _ _ _ _ KF.type_class (KF.args_gs _ _ _) ?_)
 unfold Builtin.«getset_descriptor.__get__» descrGet
 rw [dga_obj]
 refine wpAny_bind (wpAny_pure ?_)
 unfold descrGetter descrCheckInstance descrNameAndClass isInstance
 simp only [KF.owner_class]
 repeat lk
 refine ⟨Code.quiet_builtin _ (by decide +kernel),codeAny_builtin KF.entry_class ?_⟩
 unfold Builtin.«object.__class__» shownTypeOf
 repeat lk
 exact h
open Builtin Builtin.ObjectAttr Builtin.Getset_descriptor in
theorem bb1 {prog:Program} {w:World} {A:Around} {E:Value→Shared→Prop} {s:Shared} {K:Frag} {x D:Addr} {ox:Obj} {Q:Option Value→Shared→Prop} (X:K.In s.heap) (hx:s.heap.get? x=some ox) (hc:ox.cls= .ref D)
 (hga:findIn K (.ref D) "__getattribute__" = some (some (.builtin "BaseException.__getattribute__"))) (hgt:findIn K (.ref D) "__getattr__" = some none) (ha:findIn K (.ref D) "__class__" = some (some (.builtin "object.__class__")))
 (hn:specialIn K (.builtin "object.__class__") "__get__" = some (some (.builtin "getset_descriptor.__get__"))) (htk:takesIn K (.builtin "object.__class__")=some true) (hm:mroIn K D (.type "object")=some true) (hb:mroIn K D (.type "BaseException")=some true)
 (h:Q (some (.ref D)) { s with toks:=s.toks + 1 }):wpAny (model prog w) A (getAttr? (.ref x) "__class__") Q E s:=by
 obtain ⟨hh,g,d,t,os⟩:=s
 have L0:Looks (model prog w) hh (typeOf (.ref x)) (.ref D):=hc ▸ (Looks.ld hx).andThen .now
 have L1:=looks_findIn (M:=model prog w) X hga
 have L2:=looks_findIn (M:=model prog w) X hgt
 have L3:=looks_findIn (M:=model prog w) X ha
 have L4:=looks_mroIn (M:=model prog w) X hb
 unfold getAttr? getAttrBy? getAttrBy
 refine wpAny_bind (wpAny_mkText (wpAny_bind (wpAny_attempt (wpAny_holding (wpAny_bind (L0.at (wpAny_bind (L1.at ?_))))))))
 have f3:=PySem.F.excAttr_ValueError.ga.bind (.ref x)
 have hx2:(Value.builtin "BaseException.__getattribute__" == Value.builtin "object.__getattribute__")=false:=by decide +kernel
 show wpAny _ _ (if _ then _ else _) _ _ _
 rw [if_neg (by rw [hx2]; simp)]
 unfold getAttrByItsOwn hookBefore
 rw [if_pos (show onTheHeap (Value.ref D)=true from rfl)]
 refine wpAny_bind (L2.at ?_)
 refine wpAny_bind (wpAny_attempt (wpAny_holding ?_))
 unfold callGetattribute
 refine wpAny_bind (wpAny_of_eq f3 ?_)
 have hk:builtinKind "BaseException.__getattribute__" = some .slot:=by decide +kernel
 have hsplit:splitId "BaseException.__getattribute__" = some ("BaseException", "__getattribute__"):=by decide +kernel
 have hao:=PySem.F.args_bexc_ga (.ref x) (.str (Str.ofString "__class__") t)
 have LI:Looks (model prog w) hh (isInstance (.ref x) (.type "BaseException")) true:=L0.andThen L4
 show wpAny _ _ (call (.builtin "BaseException.__getattribute__") [.ref x,.str (Str.ofString "__class__") t]) _ _ _
 refine wpAny_call (codeAny_call_builtin PySem.F.excAttr_ValueError.ga.plain PySem.F.entry_bexc_ga ?_)
 simp only [checkBuiltinCall,hk,hsplit]
 refine wpAny_bind (LI.at ?_)
 rw [if_neg (by decide)]
 refine wpAny_of_eq (a:=()) hao ?_
 have LF:Looks (model prog w) hh (Builtin.ObjectAttr.find (.ref x) (.ref D) "__class__") (.bind (.builtin "getset_descriptor.__get__") (.builtin "object.__class__")) :=
  L3.andThen ((show Looks (model prog w) hh (getOf (some (.builtin "object.__class__"))) (some (.builtin "getset_descriptor.__get__")) from looks_specialIn X hn).andThen
   ((show Looks (model prog w) hh (dataDescriptor? (some (.builtin "object.__class__")) (some (.builtin "getset_descriptor.__get__"))) (some (.builtin "getset_descriptor.__get__",.builtin "object.__class__")) from (looks_takesIn (M:=model prog w) X htk).andThen .now).andThen (Looks.tag .now)))
 refine wpAny_bind (wpAny_pure ?_)
 dsimp only
 refine wpAny_bind (wpAny_pure (wpAny_bind (L0.at (wpAny_bind (LF.at ?_)))))
 show wpAny _ _ (Builtin.ObjectAttr.bindTo _ _ _ _) _ _ _
 show wpAny _ _ (holding [Value.builtin "object.__class__"] (call (Value.builtin "getset_descriptor.__get__") [Value.builtin "object.__class__",Value.ref x,Value.ref D]) >>= ret) _ _ _
 refine wpAny_bind (wpAny_holding (wpAny_call (bD6 (s:=⟨hh,g,d,t + 1,os⟩) L0 (looks_mroIn (M:=model prog w) X hm) ?_)))
 refine wpAny_pure ?_
 exact handed_on rfl (wpAny_pure h)
noncomputable def excAt (K:Frag) (D:Addr):Bool:=findIn K (.ref D) "__getattribute__" == some (some (.builtin "BaseException.__getattribute__")) && (findIn K (.ref D) "__getattr__" == some none && (findIn K (.ref D) "__class__" == some (some (.builtin "object.__class__")) &&
 (specialIn K (.builtin "object.__class__") "__get__" == some (some (.builtin "getset_descriptor.__get__")) && (takesIn K (.builtin "object.__class__") == some true && (mroIn K D (.type "object") == some true && (mroIn K D (.type "BaseException") == some true && (clsIn K D).isSome))))))
theorem kitx_exc {K:Frag} {x D:Addr} {ox:Obj} (hc:ox.cls= .ref D) (e:excAt K D=true):KitX K (.ref x) (.ref D) (fun h=>h.get? x=some ox):=by
 unfold excAt at e
 simp only [Bool.and_eq_true,beq_iff_eq] at e
 obtain ⟨e1,e2,e3,e4,e5,e6,e7,e8⟩:=e
 obtain ⟨cd,hcd⟩:=Option.isSome_iff_exists.mp e8
 have hl:∃ a b c,K.lookup D=some ⟨a,b,.cls cd,c⟩:=by
  unfold clsIn at hcd
  split at hcd
  · rename_i c' d' cd' sl' ho
    cases hcd
    exact ⟨_,_,_,ho⟩
  · cases hcd
 obtain ⟨a,b,c,ho⟩:=hl
 refine ⟨fun M h _ I=>hc ▸ (Looks.ld I).andThen .now,fun M h X _=>?_,fun h tp dd its n sl X htp=>?_,fun X I k=>bb1 X I hc e1 e2 e3 e4 e5 e6 e7 k⟩
 · intro A' Q' E' s' k q
   unfold isType loadHead
   exact wpAny_bind (wpAny_loadPart (k _ _ (X _ _ ho)) (wpAny_pure q))
 · refine Bool.eq_false_iff.mpr fun q=>?_
   have e:D=tp:=Value.ref.inj (beq_iff_eq.mp q)
   subst e
   have z:=(X _ _ ho).symm.trans htp
   cases z
end PySem.W
namespace L2
open PySem PySem.Spec PyProof.Rows
section
variable {X:Cx} {ea C:Addr} {oe:Obj} {g:V} {c:Value}
noncomputable def rIs (ea:Addr) (g:V) (b:Bool):List V→Hp→VK→Prop:=fun xs H Q=>xs=[.ref ea,g]∧Q (.bl b) H
theorem an6 {b:Bool} (hc:oe.cls= .ref C) (hr:∀ u,RelV g u→u=c) (he:PySem.W.excAt X.K C=true) (e:PySem.W.kitOne X.K (.ref C) c=some b):aG0 (X.hand ea oe) (.builtin "isinstance") (rIs ea g b):=by
 intro pins s σ H xs us Q I r h
 obtain ⟨rfl,q⟩:=h
 obtain ⟨u,w',rfl,r1,r2⟩:=bf7 r
 obtain rfl:u=Value.ref ea:=r1
 obtain rfl:=hr _ r2
 exact PySem.W.kia_one (PySem.W.kitx_exc hc he) I.kIn I.exc e (fun z=>nomatch z) fun tk=>⟨.bl b,H,I.tok tk,rfl,q⟩
end
section
variable {P:Program} {w:World} {K:PySem.W.Frag} {mg:Str→Option Value} {base:Heap}
theorem Fun.okX {x qual:Str} {st:Stmt} {f:Addr} {fd:FuncData} {N ps:List Str} {k:Nat} {sp:Sp} (F:Fun K x qual st f fd) (S:FnScope N ps (aa6 st)) (len:∀ vs H Q E,sp vs H Q E→vs.length=ps.length)
 (hbody:∀ (cdv:Value) (A:Around) (outer:List Env) (s:Shared) (H:Hp) (vs:List V) (Q:VK) (E:XK),Room k (A.deeper (envOfC qual (aa6 st) s.heap.objs.size f cdv))→sp vs H Q E →
   ∃ t,PSs (cxOf (CX1 P w) P w K mg base N qual (aa6 st) f cdv A outer s H E) (ah8 st) t∧t { nx:=fun _ H'=>Q .non H',rt:=Q } (an7 N vs) H):FnOk P w K mg base (CX1 P w) (k + 1) f fd ps sp:=by
 obtain ⟨oc,od,kV,doc,pm,an,cdv,ct,osl,rfl,lk,hcd⟩:=F.ex
 exact fn_of lk hcd S len fun A outer s H vs Q E hr hsp=>hbody cdv A outer s H vs Q E hr hsp
theorem af0 {N:List Str} {qual:Str} {scope:Scope} {f:Addr} {cd:Value} {A:Around} {outer:List Env} {s:Shared} {H:Hp} {E:XK}:ap3 (CX1 P w) (cxOf (CX1 P w) P w K mg base N qual scope f cd A outer s H E) E:=ar2.passes
theorem ownX {N:List Str} {qual:Str} {scope:Scope} {f:Addr} {cd:Value} {A:Around} {outer:List Env} {s:Shared} {H:Hp} {E:XK}:PassesOwn (model P w) (cxOf (CX1 P w) P w K mg base N qual scope f cd A outer s H E).A (cxOf (CX1 P w) P w K mg base N qual scope f cd A outer s H E).env (cxOf (CX1 P w) P w K mg base N qual scope f cd A outer s H E).xe:=ar2.own
theorem no1 {P:Program} {w:World} {outer:List Env} {H:Hp} {s s':Shared} {e:Value} (h:CX1 P w outer H s E0 e s'):False:=by
 obtain ⟨_,_,_,_,_,_,_,_,_,_,_,_,_,q⟩:=h
 exact q
theorem FnOk.calm {k:Nat} {f:Addr} {fd:FuncData} {ps:List Str} {sp:Sp} (F:FnOk P w K mg base (CX1 P w) k f fd ps sp):FnOk P w K mg base CX0 k f fd ps (fun vs H Q _=>sp vs H Q E0) :=
 ⟨fun vs H Q E h=>F.len vs H Q E0 h,fun A outer s H args us vs Q E hr e0 hb hv hs=>codeAny_mono (F.run A outer s H args us vs Q E0 hr e0 hb hv hs) fun r s' h=>by
  cases r with
  | error e=>exact no1 h
  | ok fl=>cases fl <;> exact h⟩
end
end L2
namespace Mi
open PySem L2
noncomputable def ak7 (c:Nat):Env→SO:=fun ρ=> .exc c ρ
noncomputable def ap0 (ρ:Env):Option Nat→Bool
 | none=>true
 | some j=>match ρ[j]? with
   | some none=>true
   | _=>false
theorem aE4 {ρ:Env} {j:Nat} (h:ap0 ρ (some j)=true):j < ρ.length∧rg ρ j=none:=by
 unfold ap0 at h
 dsimp only at h
 cases e:ρ[j]? with
 | none=>rw [e] at h; cases h
 | some x =>
   cases x with
   | none=>exact ⟨(List.getElem?_eq_some_iff.mp e).1,by unfold rg; rw [e]; rfl⟩
   | some y=>rw [e] at h; cases h
noncomputable def finS (j:Option Nat):SO→SO
 | .nx ρ=>if ap0 ρ j=true then .nx ρ else .bad
 | _=> .bad
noncomputable def tryS (j:Option Nat) (cat:Nat→Bool) (mb:Env→SO) (mh:Nat→Env→SO):Env→SO:=fun ρ=>match mb ρ with
 | .exc c ρ'=>if cat c=true∧ap0 ρ' j=true then finS j (mh c ρ') else .bad
 | .nx ρ'=> .nx ρ'
 | _=> .bad
section
variable {cm:Cm} {Kr:KT D V} {E:XK} {pr:Nat→Bool} {ms:List Md} {K:PySem.W.Frag}
theorem aq6 {c:Nat} {v:V}:SJ cm E Kr pr ms (bm8 E (cm c) (ag4 (tC v) tNil)) (ak7 c):=fun B U As σ H ρ D R P=>⟨(by decide:1≤1000),P σ B U As H R (Ex.refl _ _) (Kp.refl _ _) none⟩
noncomputable def Tf (cm:Cm) (E:XK) (ms:List Md) (B U:Hp) (σ:St) (r:SO) (D:Ends):Prop:=match r with
 | .nx ρ'=>∀ B' U' As' H',Rel cm ms B' U' As' σ H' ρ'→Ex B U B' U'→D.nx σ H'
 | .exc c ρ'=>∀ B' U' As' H',Rel cm ms B' U' As' σ H' ρ'→Ex B U B' U'→∀ oa,E (.ref (cm c)) oa H'
 | _=>False
noncomputable def TJf (cm:Cm) (ms:List Md) (tb:XK→TS) (m:Env→SO):Prop:=∀ E B U As σ H ρ D,Rel cm ms B U As σ H ρ→Tf cm E ms B U σ (m ρ) D→tb E D σ H
theorem bb0 {K':KT D V} {te:XK→TE} {m:Env→Out D} (h:∀ E,MJ cm K' E ms (te E) m):TJf cm ms (fun E=>bg1 (te E)) (ai3 m):=by
 intro E B U As σ H ρ D R P
 refine h E B U As σ H ρ _ R ?_
 unfold ai3 at P
 cases e:m ρ with
 | ok d ρ'=>rw [e] at P; exact fun v B' U' As' H' N R' e' n' k=>P B' U' As' H' R' e'
 | exc c ρ'=>rw [e] at P; exact P
 | bad=>rw [e] at P; exact P
theorem Tf.at {B U B1 U1:Hp} {σ:St} {r:SO} {D:Ends} (P:Tf cm E ms B U σ r D) (e:Ex B U B1 U1):Tf cm E ms B1 U1 σ r D:=by
 cases r with
 | nx ρ'=>exact fun B' U' As' H' R' e'=>P B' U' As' H' R' (e.trans e')
 | exc c ρ'=>exact fun B' U' As' H' R' e'=>P B' U' As' H' R' (e.trans e')
 | _=>exact P
theorem f_if {c:TT} {t u:XK→TS} {mc:Env→Out Bool} {m n:Env→SO} (hc:∀ E,MJ cm KB E ms c mc) (h:TJf cm ms t m) (k:TJf cm ms u n):TJf cm ms (fun E=>tIfS c (t E) (u E)) (ifS mc m n):=by
 intro E B U As σ H ρ D R P
 refine hc E B U As σ H ρ _ R ?_
 unfold ifS at P
 cases e:mc ρ with
 | ok b ρ' =>
   rw [e] at P
   intro v B' U' As' H' N R' e' n' kb
   cases kb
   cases b with
   | true=>exact h E B' U' As' σ H' ρ' D R' (Tf.at P e')
   | false=>exact k E B' U' As' σ H' ρ' D R' (Tf.at P e')
 | exc c ρ'=>rw [e] at P; exact P
 | bad=>rw [e] at P; exact P
noncomputable def catN (l:List Nat):Nat→Bool:=fun c=>l.contains c
noncomputable def catOk (cm:Cm) (K:PySem.W.Frag) (g:Nat) (ok:Addr→Prop) (l:List Nat):Prop:=∀ c∈l,excK K (cm c)=true∧(mroK K (cm c)).contains (.ref (cm g))=true∧ok (cm c)
theorem catOk.of {g c:Nat} {ok:Addr→Prop} {l:List Nat} (h:catOk cm K g ok l) (hc:catN l c=true):excK K (cm c)=true∧(mroK K (cm c)).contains (.ref (cm g))=true∧ok (cm c):=h c (List.contains_iff_mem.mp hc)
theorem Rel.slot {B U H:Hp} {As:Nat→List Addr} {σ:St} {ρ:Env} {j:Nat} {x:Option V} (R:Rel cm ms B U As σ H ρ) (h:rg ρ j=none):Rel cm ms B U As (σ.set j x) H ρ:=by
 refine ⟨R.bu,R.uh,R.nd,R.dj,R.un,fun i=>?_,by rw [List.length_set]; exact R.len,R.tb⟩
 have l:=R.lo i
 by_cases z:i=j
 · subst z
   rw [h] at l ⊢
   exact l
 · have:rg (σ.set j x) i=rg σ i:=by unfold rg; rw [List.getElem?_set_ne (Ne.symm z)]
   rw [this]
   exact l
theorem Kp.slot {σ σ':St} {j:Nat} {x:Option V} (k:Kp pr σ σ') (hp:pr j=false):Kp pr σ (σ'.set j x):=fun i hi=>by
 have:i≠j:=fun z=>by rw [z,hp] at hi; cases hi
 have e:rg (σ'.set j x) i=rg σ' i:=by unfold rg; rw [List.getElem?_set_ne (Ne.symm this)]
 rw [e]
 exact k i hi
noncomputable def kitB (K:PySem.W.Frag) (C:Addr) (c:Value):Bool:=(PySem.W.kitOne K (.ref C) c).getD false
noncomputable def bsK (K:PySem.W.Frag) (C:Addr) (cs:List Value):List Bool:=cs.map (kitB K C)
noncomputable def rowC:List Bool→TA
 | []=>tNil
 | b :: l=>ag4 (tC (.bl b)) (rowC l)
noncomputable def okL (K:PySem.W.Frag) (cs:List Value) (C:Addr):Prop:=PySem.W.excAt K C=true∧∀ c∈cs,(PySem.W.kitOne K (.ref C) c).isSome=true
theorem okL.kit {cs:List Value} {C:Addr} {c:Value} (h:okL K cs C) (n:Nat) (e:cs[n]?=some c):PySem.W.kitOne K (.ref C) c=some (kitB K C c):=by
 have:=h.2 c (List.mem_of_getElem? e)
 unfold kitB
 cases q:PySem.W.kitOne K (.ref C) c with
 | none=>rw [q] at this; cases this
 | some b=>rfl
theorem am6 {C:Addr}:(∀ c∈([]:List Value),(PySem.W.kitOne K (.ref C) c).isSome=true)∧bsK K C []=[]:=⟨fun _ h=>(nomatch h),rfl⟩
theorem ab0 {C:Addr} {c:Value} {b:Bool} {cs:List Value} {l:List Bool} (e:PySem.W.kitOne K (.ref C) c=some b) (h:(∀ c∈cs,(PySem.W.kitOne K (.ref C) c).isSome=true)∧bsK K C cs=l):(∀ x∈c :: cs,(PySem.W.kitOne K (.ref C) x).isSome=true)∧bsK K C (c :: cs)=b :: l :=
 ⟨fun x hx=>by
  rcases List.mem_cons.mp hx with rfl | hx
  · rw [e]; rfl
  · exact h.1 x hx,by
  unfold bsK at h ⊢
  rw [List.map_cons,h.2]
  unfold kitB
  rw [e]; rfl⟩
noncomputable def isE (K:PySem.W.Frag) (ea C:Addr) (j:Nat) (g:V) (v:Value):TE:=tCB (rIs ea g (kitB K C v)) (ag4 (tVar j) (ag4 (tC g) tNil))
noncomputable def rowE (K:PySem.W.Frag) (ea C:Addr) (j:Nat):List (V×Value)→TA
 | []=>tNil
 | p :: l=>ag4 (isE K ea C j p.1 p.2) (rowE K ea C j l)
theorem aW2 {ea C:Addr} {j:Nat} {σ:St} (hj:σ[j]?=some (some (.ref ea))):∀ {L:List (V×Value)} {H:Hp} {Q:List V→Hp→Prop},rowC (bsK K C (L.map (·.2))) σ H Q→rowE K ea C j L σ H Q
 | [],_,_,h=>h
 | p :: l,H,Q,h=>⟨.ref ea,hj,rfl,aW2 (L:=l) hj (Q:=fun vs H2=>Q (_ :: vs) H2) h⟩
theorem h_isA {C:Addr} {i j:Nat} {g:V} {v:Value} {b:Bool} (e:PySem.W.kitOne K (.ref C) v=some b):∀ (ea:Addr) (D:Ends) (σ:St) (H:Hp),σ[j]?=some (some (.ref ea))→tAsg (tC (.bl b)) (as6 i) D σ H→tAsg (isE K ea C j g v) (as6 i) D σ H:=fun ea D σ H hj h=>by
 have eb:kitB K C v=b:=by unfold kitB; rw [e]; rfl
 unfold isE
 rw [eb]
 exact ⟨.ref ea,hj,rfl,h⟩
theorem bk4 {C:Addr} {i j:Nat} {L:List (V×Value)} {bl:List Bool} (e:bsK K C (L.map (·.2))=bl):∀ (ea:Addr) (D:Ends) (σ:St) (H:Hp),σ[j]?=some (some (.ref ea))→tAsg (tLst (rowC bl)) (as6 i) D σ H→tAsg (tLst (rowE K ea C j L)) (as6 i) D σ H:=fun ea D σ H hj h=>by
 subst e
 exact aW2 hj h
noncomputable def HJ (cm:Cm) (K:PySem.W.Frag) (Kr:KT D V) (E:XK) (pr:Nat→Bool) (ms:List Md) (g j:Nat) (ok:Addr→Prop) (th:Addr→Addr→TS) (mh:Nat→Env→SO) (l:List Nat):Prop:=∀ c∈l,(excK K (cm c)=true∧(mroK K (cm c)).contains (.ref (cm g))=true∧ok (cm c)) ∧
 ∃ tc:TS,SJ cm E Kr pr ms tc (mh c)∧∀ ea D σ H,σ[j]?=some (some (.ref ea))→tc D σ H→th ea (cm c) D σ H
theorem bO3 {g j:Nat} {ok:Addr→Prop} {th:Addr→Addr→TS} {mh:Nat→Env→SO}:HJ cm K Kr E pr ms g j ok th mh []:=fun _ h=>(nomatch h)
theorem aE5 {g j c:Nat} {ok:Addr→Prop} {th:Addr→Addr→TS} {mh:Nat→Env→SO} {l:List Nat} (tc:TS) (h1:excK K (cm c)=true) (h2:(mroK K (cm c)).contains (.ref (cm g))=true) (h3:ok (cm c)) (hS:SJ cm E Kr pr ms tc (mh c))
 (ht:∀ ea D σ H,σ[j]?=some (some (.ref ea))→tc D σ H→th ea (cm c) D σ H) (h:HJ cm K Kr E pr ms g j ok th mh l):HJ cm K Kr E pr ms g j ok th mh (c :: l):=fun x hx=>by
 rcases List.mem_cons.mp hx with rfl | hx
 · exact ⟨⟨h1,h2,h3⟩,tc,hS,ht⟩
 · exact h x hx
theorem aV9 {g j:Nat} {l:List Nat} {ok:Addr→Prop} {tb:XK→TS} {th:Addr→Addr→TS} {mb:Env→SO} {mh:Nat→Env→SO} (hb:TJf cm ms tb mb) (hp:pr j=false) (hh:HJ cm K Kr E pr ms g j ok th mh l) :
 SJ cm E Kr pr ms (bm7 K (cm g) ok j tb th) (tryS (some j) (catN l) mb mh):=by
 intro B U As σ H ρ D R P
 refine hb _ B U As σ H ρ D R ?_
 unfold tryS at P
 cases e:mb ρ with
 | nx ρ'=>rw [e] at P; exact fun B' U' As' H' R' e'=>P σ B' U' As' H' R' e' (Kp.refl _ _)
 | exc c ρ' =>
   rw [e] at P
   dsimp only at P
   intro B' U' As' H' R' e' oa
   split at P
   · rename_i z
     obtain ⟨⟨k1,k2,k3⟩,tc,hS,ht⟩:=hh c (List.contains_iff_mem.mp z.1)
     obtain ⟨hjl',hn⟩:=aE4 z.2
     refine ⟨cm c,rfl,k1,k2,k3,fun ea hna=>?_⟩
     have hjl:j < σ.length:=by rw [← R'.len]; exact hjl'
     refine ht _ _ _ _ (by rw [List.getElem?_set_self hjl]) (hS B' U' As' (σ.set j (some (.ref ea))) H' ρ' _ (R'.slot hn) ?_)
     cases q:mh c ρ' with
     | nx ρ1 =>
       rw [q] at P
       replace P:So cm E Kr pr ms B U σ (if ap0 ρ1 (some j)=true then .nx ρ1 else .bad) D:=P
       split at P
       · rename_i y
         intro σ1 B1 U1 As1 H1 R1 e1 kp
         exact P _ B1 U1 As1 H1 (R1.slot (x:=none) (aE4 y).2) (e'.trans e1) ((((Kp.refl pr σ).slot hp).trans kp).slot hp)
       · exact P.elim
     | _=>rw [q] at P; exact P.elim
   · exact P.elim
 | _=>rw [e] at P; exact P
theorem ad2 {more:List Md} {t:TS} {body:Env→SO} {N:List Str} {vs:List V} {Q:VK} {H:Hp} {fm:List D→Out D} (hb:SJ cm E Kr (prO ms ms.length) (ms ++ more) t body) (hN:N.length=ms.length + more.length) (hfm:fm=run N.length body) (hr:∀ B U H,Kr .non .non B U H [])
 (h:spM cm ms Kr fm vs H Q E):t { nx:=fun _ H'=>Q .non H',rt:=Q } (L2.an7 N vs) H:=by
 obtain ⟨B,U,As,ds,R,hl,P⟩:=h
 subst hfm
 have hd:ds.length=vs.length:=by have:=R.len; rw [List.length_map,List.length_map] at this; exact this
 unfold L2.an7
 refine hb B U As _ H (ds.map some ++ List.replicate (N.length - vs.length) none) _ (R.enter hl) ?_
 unfold run at P
 rw [hd] at P
 cases e:body (ds.map some ++ List.replicate (N.length - vs.length) none) with
 | nx ρ' =>
   rw [e] at P
   intro σ' B' U' As' H' R' e' k'
   obtain ⟨As2,R2,n2⟩:=R'.leave hl k'
   exact P .non B' U' As2 H' [] R2 e' NewM.nil (hr _ _ _)
 | rt d ρ' =>
   rw [e] at P
   intro v σ' B' U' As' H' N' R' e' k' n' kr
   obtain ⟨As2,R2,n2⟩:=R'.leave hl k'
   exact P v B' U' As2 H' N' R2 e' (n2 _ n') kr
 | exc c ρ' =>
   rw [e] at P
   intro σ' B' U' As' H' R' e' k' oa
   obtain ⟨As2,R2,n2⟩:=R'.leave hl k'
   exact P B' U' As2 H' R2 e' oa
 | bk ρ'=>rw [e] at P; exact P.elim
 | ct ρ'=>rw [e] at P; exact P.elim
 | bad=>rw [e] at P; exact P.elim
theorem aj3 {more:List Md} {t:TS} {body:Env→SO} {N:List Str} {vs:List V} {Q:VK} {H:Hp} {fm:List D→Out D} (hb:SJ cm E Kr (prO ms ms.length) (ms ++ more) t body) (hN:N.length=ms.length + more.length) (hfm:fm=runO N.length body)
 (h:spM cm ms Kr fm vs H Q E):t { nx:=fun _ H'=>Q .non H',rt:=Q } (L2.an7 N vs) H:=by
 obtain ⟨B,U,As,ds,R,hl,P⟩:=h
 subst hfm
 have hd:ds.length=vs.length:=by have:=R.len; rw [List.length_map,List.length_map] at this; exact this
 unfold L2.an7
 refine hb B U As _ H (ds.map some ++ List.replicate (N.length - vs.length) none) _ (R.enter hl) ?_
 unfold runO at P
 rw [hd] at P
 cases e:body (ds.map some ++ List.replicate (N.length - vs.length) none) with
 | nx ρ'=>rw [e] at P; exact P.elim
 | rt d ρ' =>
   rw [e] at P
   intro v σ' B' U' As' H' N' R' e' k' n' kr
   obtain ⟨As2,R2,n2⟩:=R'.leave hl k'
   exact P v B' U' As2 H' N' R2 e' (n2 _ n') kr
 | exc c ρ' =>
   rw [e] at P
   intro σ' B' U' As' H' R' e' k' oa
   obtain ⟨As2,R2,n2⟩:=R'.leave hl k'
   exact P B' U' As2 H' R2 e' oa
 | bk ρ'=>rw [e] at P; exact P.elim
 | ct ρ'=>rw [e] at P; exact P.elim
 | bad=>rw [e] at P; exact P.elim
theorem aj1 {msC:List Md} {fm:List D→Out D} {ps:List Ap} {t:TA} {m:Env→Res (List D)} (h:AJ cm E ms ps t m) (hf:aw2 ps msC=true):PJ cm (KR cm .F) E ms (aQ8 (spM cm msC (KR cm .F) fm) [] E t) (pc fm m) :=
 bp5 h (ag8 hf) (ag9 hf) fun _ _ _ _ _ _ _ h=>h
theorem aX7 {s:Sh} {msC:List Md} {fm:List D→Out D} {ps:List Ap} {t:TA} {m:Env→Res (List D)} (h:AJ cm E ms ps t m) (hf:aw2 ps msC=true):PJ cm (KO cm s) E ms (aQ8 (spM cm msC (KO cm s) fm) [] E t) (pc fm m) :=
 bp5 h (ag8 hf) (ag9 hf) fun _ _ _ _ _ _ _ h=>h
theorem aq8 {c:Nat} {mn:Str} {msC:List Md} {fm:List D→Out D} {p:Ap} {ps:List Ap} {ta:TE} {ma:Env→Res D} {t:TA} {m:Env→Res (List D)} (ha:A1J cm E ms p ta ma) (h:AJ cm E ms ps t m) (hf:aw2 (p :: ps) msC=true) :
 PJ cm (KR cm .F) E ms (aC4 (cm c) mn (spM cm msC (KR cm .F) fm) [] E ta t) (pm c mn fm ma m):=bp3 ha h (ag8 hf) (ag9 hf) fun _ _ _ _ _ _ _ h=>h
theorem aI0 {s:Sh} {c:Nat} {mn:Str} {msC:List Md} {fm:List D→Out D} {p:Ap} {ps:List Ap} {ta:TE} {ma:Env→Res D} {t:TA} {m:Env→Res (List D)} (ha:A1J cm E ms p ta ma) (h:AJ cm E ms ps t m) (hf:aw2 (p :: ps) msC=true) :
 PJ cm (KO cm s) E ms (aC4 (cm c) mn (spM cm msC (KO cm s) fm) [] E ta t) (pm c mn fm ma m):=bp3 ha h (ag8 hf) (ag9 hf) fun _ _ _ _ _ _ _ h=>h
theorem bp1 {c:Nat} {sh:List (Str×Sh)} {msC:List Md} {fm:List D→Out D} {ps:List Ap} {t:TA} {m:Env→Res (List D)} (h:AJ cm E ms ps t m) (hf:aw2 ps msC=true) :
 PJ cm (KO cm (.ob sh)) E ms (bg0 (cm c) (spM cm (.O (.ob sh) :: msC) (KR cm .F) fm) [] E t) (pk c fm m) :=
 bJ4 h (by rw [List.length_cons,ag8 hf]) rfl fun j p e=>by rw [List.getD_cons_succ]; exact ag9 hf j p e
theorem bA4 {s:Sh} {msC:List Md} {fm:List D→Out D} {ps:List Ap} {t:TA} {m:Env→Res (List D)} (h:AJ cm E ms ps t m) (hf:fitM ms ps msC) (hd:(lent ps).Nodup) (hb:∀ i∈borr ps,i∉lent ps) :
 MJ cm (KO cm s) E ms (aQ8 (spM cm msC (KO cm s) fm) [] E t) (mc ps fm m):=bN4 h hf hd hb fun _ _ _ _ _ _ _ h=>h
theorem bq0 {c:Nat} {mn:Str} {msC:List Md} {fm:List D→Out D} {p:Ap} {ps:List Ap} {ta:TE} {ma:Env→Res D} {t:TA} {m:Env→Res (List D)} (ha:A1J cm E ms p ta ma) (h:AJ cm E ms ps t m) (hf:fitM ms (p :: ps) msC) (hd:(lent (p :: ps)).Nodup)
 (hb:∀ i∈borr (p :: ps),i∉lent (p :: ps)):MJ cm (KR cm .F) E ms (aC4 (cm c) mn (spM cm msC (KR cm .F) fm) [] E ta t) (mm c mn (p :: ps) fm ma m):=bN3 ha h hf hd hb fun _ _ _ _ _ _ _ h=>h
end
noncomputable abbrev DI (β:Type):=List (List Int×β)
section
variable {β:Type}
noncomputable def encD (f:β→D) (F:DI β):D:= .dT (F.map fun p=>p.1.map Sum.inl) (F.map fun p=>f p.2)
noncomputable def DI.get (F:DI β) (k:List Int):Option β:=(F.find? fun p=>decide (p.1=k)).map (·.2)
noncomputable def DI.put (F:DI β) (k:List Int) (v:β):DI β:=if (F.get k).isSome=true then F.map fun p=>if p.1=k then (p.1,v) else p else F ++ [(k,v)]
noncomputable def DI.del (F:DI β) (k:List Int):DI β:=F.filter fun p=>decide (p.1≠k)
theorem aj2 {j k:List Int}:j.map (Sum.inl:Int→Key)=k.map Sum.inl↔j=k:=by
 constructor
 · intro h
   induction j generalizing k with
   | nil=>cases k with | nil=>rfl | cons _ _=>cases h
   | cons x j ih =>
     cases k with
     | nil=>cases h
     | cons y k =>
       rw [List.map_cons,List.map_cons] at h
       injection h with h1 h2
       injection h1 with h1
       rw [h1,ih h2]
 · intro h; rw [h]
theorem ah5:∀ k:List Int,af6 (k.map D.int)=some (k.map Sum.inl)
 | []=>rfl
 | x :: k=>by rw [List.map_cons,af6,ah5 k]; rfl
theorem az3 {f:β→D} {k:List Int}:∀ F:DI β,ae8 (F.map fun p=>p.1.map (Sum.inl:Int→Key)) (F.map fun p=>f p.2) (k.map Sum.inl)=(DI.get F k).map f
 | []=>rfl
 | p :: F=>by
   rw [List.map_cons,List.map_cons,ae8,az3 F]
   unfold DI.get
   rw [List.find?_cons]
   by_cases h:p.1=k
   · rw [if_pos (aj2.mpr h),decide_eq_true h]; rfl
   · rw [if_neg (fun z=>h (aj2.mp z)),decide_eq_false h]
theorem ba5 {f:β→D} {F:DI β} {k:List Int}:ba6 (encD f F) (.tup (k.map D.int))=some ((F.get k).map f):=by
 show (af6 (k.map D.int)).map (fun k=>ae8 (F.map fun p=>p.1.map (Sum.inl:Int→Key)) (F.map fun p=>f p.2) k)=_
 rw [ah5,Option.map_some,az3]
theorem ba0 {k:List Int}:∀ F:DI β,hasK (F.map fun p=>p.1.map (Sum.inl:Int→Key)) (k.map Sum.inl)=(DI.get F k).isSome
 | []=>rfl
 | p :: F=>by
   have ih:=ba0 (k:=k) F
   unfold hasK DI.get at *
   rw [List.map_cons,List.any_cons,List.find?_cons,ih]
   by_cases h:p.1=k
   · rw [decide_eq_true (aj2.mpr h),decide_eq_true h]; rfl
   · rw [decide_eq_false (fun z=>h (aj2.mp z)),decide_eq_false h]; rfl
theorem aN1 {f:β→D} {k:List Int} {v:β}:∀ F:DI β,putV (F.map fun p=>p.1.map (Sum.inl:Int→Key)) (F.map fun p=>f p.2) (k.map Sum.inl) (f v)=(F.map fun p=>if p.1=k then (p.1,v) else p).map fun p=>f p.2
 | []=>rfl
 | p :: F=>by
   rw [List.map_cons,List.map_cons,putV,aN1 F,List.map_cons,List.map_cons]
   by_cases h:p.1=k
   · rw [if_pos (aj2.mpr h),if_pos h]
   · rw [if_neg (fun z=>h (aj2.mp z)),if_neg h]
theorem bl1 {f:β→D} {F:DI β} {k:List Int} {v:β} (h:F.length < ac0):bb6 (encD f F) (.tup (k.map D.int)) (f v)=some (encD f (F.put k v)):=by
 show ((af6 (k.map D.int)).bind fun k=>if (F.map fun p=>p.1.map (Sum.inl:Int→Key)).length < ac0 then some (if hasK (F.map fun p=>p.1.map (Sum.inl:Int→Key)) k=true then D.dT (F.map fun p=>p.1.map (Sum.inl:Int→Key)) (putV (F.map fun p=>p.1.map (Sum.inl:Int→Key)) (F.map fun p=>f p.2) k (f v)) else D.dT ((F.map fun p=>p.1.map (Sum.inl:Int→Key)) ++ [k]) ((F.map fun p=>f p.2) ++ [f v])) else none)=some (D.dT ((F.put k v).map fun p=>p.1.map Sum.inl) ((F.put k v).map fun p=>f p.2))
 rw [ah5,Option.bind_some,if_pos (by rw [List.length_map]; exact h),ba0]
 unfold DI.put
 by_cases q:(DI.get F k).isSome=true
 · rw [if_pos q,if_pos q,aN1,List.map_map,List.map_map]
   refine congrArg (fun z=>some (D.dT z _)) ?_
   refine List.map_congr_left fun p _=>?_
   show _=((if p.1=k then (p.1,v) else p).1).map Sum.inl
   split <;> rfl
 · rw [if_neg q,if_neg q,List.map_append,List.map_append]
   rfl
theorem aP6 {f:β→D} {k:List Int}:∀ F:DI β,an2 (F.map fun p=>p.1.map (Sum.inl:Int→Key)) (F.map fun p=>f p.2) (k.map Sum.inl)=((F.del k).map (fun p=>p.1.map Sum.inl),(F.del k).map fun p=>f p.2)
 | []=>rfl
 | p :: F=>by
   rw [List.map_cons,List.map_cons,an2,aP6 F]
   unfold DI.del
   rw [List.filter_cons]
   by_cases h:p.1=k
   · rw [if_pos (aj2.mpr h),if_neg (by simpa using h)]
   · rw [if_neg (fun z=>h (aj2.mp z)),if_pos (by simpa using h)]
     rfl
theorem bl3 {f:β→D} {F:DI β} {k:List Int} {v:β} (h:F.get k=some v):bl4 (encD f F) (.tup (k.map D.int))=some (f v,encD f (F.del k)):=by
 show ((af6 (k.map D.int)).bind fun k=>(ae8 (F.map fun p=>p.1.map (Sum.inl:Int→Key)) (F.map fun p=>f p.2) k).map fun x=>(x,D.dT (an2 (F.map fun p=>p.1.map (Sum.inl:Int→Key)) (F.map fun p=>f p.2) k).1 (an2 (F.map fun p=>p.1.map (Sum.inl:Int→Key)) (F.map fun p=>f p.2) k).2))=some (f v,D.dT ((F.del k).map fun p=>p.1.map Sum.inl) ((F.del k).map fun p=>f p.2))
 rw [ah5,Option.bind_some,az3,h,Option.map_some,Option.map_some,aP6]
theorem ba2 {F:DI β} {k j:List Int} {v:β}:(F.put k v).get j=if j=k then some v else F.get j:=by
 unfold DI.put
 by_cases q:(DI.get F k).isSome=true
 · rw [if_pos q]
   have key:∀ G:DI β,DI.get (G.map fun p=>if p.1=k then (p.1,v) else p) j=if j=k then (DI.get G k).map fun _=>v else DI.get G j:=by
    intro G
    induction G with
    | nil=>unfold DI.get; split <;> rfl
    | cons p G ih =>
      unfold DI.get at ih ⊢
      rw [List.map_cons,List.find?_cons,List.find?_cons,List.find?_cons]
      by_cases h1:p.1=k
      · rw [if_pos h1]
        by_cases h2:j=k
        · subst h2
          simp only [h1,decide_true,if_pos,Option.map_some]
        · have h3:¬ p.1=j:=fun z=>h2 (z.symm.trans h1)
          simp only [h3,decide_false]
          rw [ih,if_neg h2,if_neg h2]
      · rw [if_neg h1]
        by_cases h3:p.1=j
        · have h2:¬ j=k:=fun z=>h1 (h3.trans z)
          simp only [h3,decide_true,if_neg h2]
        · simp only [h3,h1,decide_false]
          exact ih
   rw [key]
   by_cases h:j=k
   · rw [if_pos h,if_pos h]
     obtain ⟨x,hx⟩:=Option.isSome_iff_exists.mp q
     rw [hx]; rfl
   · rw [if_neg h,if_neg h]
 · rw [if_neg q]
   have q':DI.get F k=none:=by
    cases z:DI.get F k with
    | none=>rfl
    | some x=>rw [z] at q; exact absurd rfl q
   unfold DI.get at q' ⊢
   rw [List.find?_append]
   by_cases h:j=k
   · subst h
     have q2:F.find? (fun p=>decide (p.1=j))=none:=by
      cases z:F.find? (fun p=>decide (p.1=j)) with
      | none=>rfl
      | some x=>rw [z] at q'; cases q'
     rw [q2,if_pos rfl]
     simp
   · rw [if_neg h]
     have:¬ k=j:=fun z=>h z.symm
     simp [this]
theorem aI8 {F:DI β} {k j:List Int}:(F.del k).get j=if j=k then none else F.get j:=by
 unfold DI.del DI.get
 induction F with
 | nil=>split <;> rfl
 | cons p F ih =>
   rw [List.filter_cons]
   by_cases h1:p.1=k
   · rw [if_neg (by simpa using h1),ih,List.find?_cons]
     by_cases h:j=k
     · rw [if_pos h,if_pos h]
     · have h3:¬ p.1=j:=fun z=>h (z.symm.trans h1)
       rw [if_neg h,if_neg h]
       simp only [h3,decide_false]
   · rw [if_pos (by simpa using h1),List.find?_cons,List.find?_cons]
     by_cases h3:p.1=j
     · have h2:¬ j=k:=fun z=>h1 (h3.trans z)
       simp only [h3,decide_true,if_neg h2]
     · simp only [h3,decide_false]
       exact ih
end
open PySem.Spec (countIn same sameAll)
theorem aq4 {α:Type} {f:α→D} {g:α→PyData} (h:∀ a,toPy (f a)=some (g a)):∀ l:List α,toPys (l.map f)=some (l.map g)
 | []=>rfl
 | a :: l=>by rw [List.map_cons,toPys,h a,aq4 h l]; rfl
theorem aq5 {α:Type} {f:α→D} {g:α→PyData} (h:∀ a,toPy (f a)=some (g a)) (l:List α):toPy (.lst (l.map f))=some (.list (l.map g)):=by
 rw [toPy,aq4 h]; rfl
theorem aQ9 {α:Type} {g:α→PyData} (h1:∀ a,(g a).canLay0=true) (h2:∀ a,(g a).depth≤60) (l:List α):SeqAt.shaped (.list (l.map g))=true:=by
 have c:∀ l:List α,PyData.canLayAll0 (l.map g)=true:=by
  intro l
  induction l with
  | nil=>simp [PyData.canLayAll0]
  | cons a l ih=>simp [PyData.canLayAll0,h1 a,ih]
 have d:∀ l:List α,PyData.depthAll (l.map g)≤60:=by
  intro l
  induction l with
  | nil=>simp [PyData.depthAll]
  | cons a l ih =>
    rw [List.map_cons,PyData.depthAll]
    have:=h2 a
    omega
 have e:PyData.depth (.list (l.map g))≤64:=by rw [PyData.depth]; have:=d l; omega
 unfold SeqAt.shaped
 rw [Bool.and_eq_true]
 exact ⟨by rw [PyData.canLay0]; exact c l,decide_eq_true e⟩
theorem av6 {α:Type} [DecidableEq α] {g:α→PyData} (h:∀ a b,same (g a) (g b)=decide (a=b)) (a:α):∀ l:List α,(0≤countIn (g a) (l.map g))∧(countIn (g a) (l.map g)≠0↔a∈l)
 | []=>by simp [countIn]
 | b :: l=>by
   obtain ⟨i1,i2⟩:=av6 h a l
   rw [List.map_cons,countIn,h b a,List.mem_cons]
   by_cases e:b=a
   · rw [if_pos (by simpa using e)]
     exact ⟨by omega,fun _=> .inl e.symm,fun _=>by omega⟩
   · rw [if_neg (by simpa using e)]
     refine ⟨by omega,fun z=> .inr (i2.mp (by omega)),fun z=>?_⟩
     rcases z with z | z
     · exact absurd z.symm e
     · have:=i2.mpr z; omega
section
variable {α:Type} [DecidableEq α] {f:α→D} {g:α→PyData}
theorem bD1 (h0:∀ a,toPy (f a)=some (g a)) (h1:∀ a,(g a).canLay0=true) (h2:∀ a,(g a).depth≤60) (h3:∀ a b,same (g a) (g b)=decide (a=b)) (h4:∀ a b,SeqAt.noMix (g a) (g b)=true) (a:α) (l:List α) :
 inD (f a) (.lst (l.map f))= .ok (.bl (decide (a∈l)))∧ninD (f a) (.lst (l.map f))= .ok (.bl (!decide (a∈l))):=by
 have s1:SeqAt.shaped (g a)=true:=by
  unfold SeqAt.shaped
  rw [h1 a,Bool.true_and]
  exact decide_eq_true (by have:=h2 a; omega)
 have s2:=aQ9 h1 h2 l
 have s3:((l.map g).all fun z=>SeqAt.noMix z (g a))=true:=by
  rw [List.all_map,List.all_eq_true]
  exact fun b _=>h4 b a
 have s4:decide (countIn (g a) (l.map g)≠0)=decide (a∈l):=by
  have:=(av6 h3 a l).2
  by_cases z:a∈l
  · rw [decide_eq_true z,decide_eq_true (this.mpr z)]
  · rw [decide_eq_false z,decide_eq_false (fun w=>z (this.mp w))]
 constructor
 · unfold inD
   rw [h0 a,aq5 h0 l]
   show (if _ then _ else _)=_
   rw [if_pos ⟨s1,s2,s3⟩,s4]
 · unfold ninD
   rw [h0 a,aq5 h0 l]
   show (if _ then _ else _)=_
   rw [if_pos ⟨s1,s2,s3⟩,s4]
end
end Mi
namespace Cl
open PySem L2 Mi
inductive OutC (σ α:Type) where
 | ok (a:α) (s:σ) | exc (c:Nat) (s:σ) | bad
inductive FlC (σ β:Type) where
 | nx (s:σ) | rt (b:β) (s:σ) | bk (s:σ) | ct (s:σ) | exc (c:Nat) (s:σ) | bad
noncomputable def SimR {α γ:Type} (e:α→γ) (r:Res γ) (q:Res α):Prop:=match q with
 | .ok a=>r= .ok (e a)
 | .exc x=>r= .exc x
 | .bad=>True
section
variable {σ α β γ δ:Type} {rep:σ→Mi.Env}
noncomputable def SimO (rep:σ→Mi.Env) (e:α→γ) (r:Out γ) (q:OutC σ α):Prop:=match q with
 | .ok a s=>r= .ok (e a) (rep s)
 | .exc x s=>r= .exc x (rep s)
 | .bad=>True
noncomputable def SimS (rep:σ→Mi.Env) (e:β→D) (r:SO) (q:FlC σ β):Prop:=match q with
 | .nx s=>r= .nx (rep s)
 | .rt b s=>r= .rt (e b) (rep s)
 | .bk s=>r= .bk (rep s)
 | .ct s=>r= .ct (rep s)
 | .exc x s=>r= .exc x (rep s)
 | .bad=>True
noncomputable def EJ (rep:σ→Mi.Env) (e:α→γ) (m:Mi.Env→Res γ) (c:σ→Res α):Prop:=∀ s,SimR e (m (rep s)) (c s)
noncomputable def NJ (rep:σ→Mi.Env) (e:α→γ) (m:Mi.Env→Out γ) (c:σ→OutC σ α):Prop:=∀ s,SimO rep e (m (rep s)) (c s)
noncomputable def TJ (rep:σ→Mi.Env) (e:β→D) (m:Mi.Env→SO) (c:σ→FlC σ β):Prop:=∀ s,SimS rep e (m (rep s)) (c s)
theorem SimR.bnd {e:α→γ} {e':β→δ} {r:Res γ} {q:Res α} {k:γ→Res δ} {l:α→Res β} (h:SimR e r q) (hk:∀ a,SimR e' (k (e a)) (l a)):SimR e' (r.bind k) (q.bind l):=by
 cases q with
 | ok a=>have h:r= .ok (e a):=h; rw [h]; exact hk a
 | exc x=>have h:r= .exc x:=h; rw [h]; exact rfl
 | bad=>trivial
theorem SimR.calm {e:α→γ} {r:Res γ} {q:Res α} (h:SimR e r q):SimR e r.calm q.calm:=by
 cases q with
 | ok a=>have h:r= .ok (e a):=h; rw [h]; exact rfl
 | exc x=>trivial
 | bad=>trivial
@[simp] noncomputable def vC (g:σ→Option α):σ→Res α:=fun s=>match g s with | some a=> .ok a | none=> .bad
@[simp] noncomputable def pC (g:σ→α):σ→Res α:=fun s=> .ok (g s)
@[simp] noncomputable def kC (a:α):σ→Res α:=fun _=> .ok a
@[simp] noncomputable def unC (f:α→Res β) (c:σ→Res α):σ→Res β:=fun s=>(c s).bind f
@[simp] noncomputable def bnC (f:α→β→Res γ) (a:σ→Res α) (b:σ→Res β):σ→Res γ:=fun s=>(a s).bind fun x=>(b s).bind fun y=>f x y
theorem bO7 {e:α→D} {i:Nat} {g:σ→Option α} (h:∀ s,rg (rep s) i=(g s).map e):EJ rep e (vr i) (vC g):=fun s=>by
 unfold vC vr
 rw [h s]
 cases g s with
 | none=>trivial
 | some a=>exact rfl
theorem bP2 {e:α→D} {i:Nat} {g:σ→α} (h:∀ s,rg (rep s) i=some (e (g s))):EJ rep e (vr i) (pC g):=fun s=>by
 unfold vr pC
 rw [h s]
 exact rfl
theorem bq6 {e:α→D} {d:D} {a:α} (h:e a=d):EJ rep e (cst d) (kC a):=fun s=>by subst h; exact rfl
theorem as9 {e:α→D} {e':β→D} {F:D→Res D} {f:α→Res β} {m:Mi.Env→Res D} {c:σ→Res α} (h:∀ a,SimR e' (F (e a)) (f a)) (h1:EJ rep e m c):EJ rep e' (un F m) (unC f c):=fun s=>(h1 s).bnd h
theorem aa7 {e:α→D} {e1:β→D} {e2:γ→D} {F:D→D→Res D} {f:α→β→Res γ} {m n:Mi.Env→Res D} {c:σ→Res α} {c':σ→Res β} (h:∀ a b,SimR e2 (F (e a) (e1 b)) (f a b)) (h1:EJ rep e m c) (h2:EJ rep e1 n c'):EJ rep e2 (bn F m n) (bnC f c c'):=fun s=>(h1 s).bnd fun a=>(h2 s).bnd fun b=>h a b
theorem aF1 {e:α→D} {e':β→D} {m:Mi.Env→Res D} {c:σ→Res α} {f:α→Res β} (h:∀ a,SimR e' (.ok (e a)) (f a)) (h1:EJ rep e m c):EJ rep e' m (unC f c):=fun s=>by
 have h1:=h1 s
 unfold unC
 cases q:c s with
 | ok a=>rw [q] at h1; have h1:m (rep s)= .ok (e a):=h1; rw [h1]; exact h a
 | exc x=>rw [q] at h1; exact h1
 | bad=>trivial
noncomputable def eN:Unit→D:=fun _=> .non
noncomputable def eL (e:α→D):List α→D:=fun xs=> .lst (xs.map e)
noncomputable def eS:List Int→D:=fun xs=> .scr (xs.map D.int)
noncomputable def eTs (e:α→D):List α→D:=fun xs=> .tup (xs.map e)
noncomputable def eT2 (e:α→D) (e':β→D):α×β→D:=fun p=> .tup [e p.1,e' p.2]
noncomputable def eT3 (e:α→D) (e':β→D) (e'':γ→D):α×β×γ→D:=fun p=> .tup [e p.1,e' p.2.1,e'' p.2.2]
noncomputable abbrev eK:Int×Int×List Int→D:=eT3 D.int D.int (eL D.int)
theorem bP3 {e:α→D} {F:(Mi.Env→Res D)→Mi.Env→Res D} {m:Mi.Env→Res D} {c:σ→Res α} (hF:∀ ρ a,m ρ= .ok (e a)→F m ρ= .ok (e a)) (hx:∀ ρ x,m ρ= .exc x→F m ρ= .exc x) (h:EJ rep e m c):EJ rep e (F m) c:=fun s=>by
 have h:=h s
 cases q:c s with
 | ok a=>rw [q] at h; exact hF _ _ h
 | exc x=>rw [q] at h; exact hx _ _ h
 | bad=>trivial
theorem bb3 {e:α→D} {m:Mi.Env→Res D} {c:σ→Res α} (hs:∀ a,ad4 (e a)=true) (h:EJ rep e m c):EJ rep e (sc1 m) c :=
 bP3 (F:=sc1) (fun ρ a q=>by unfold sc1; rw [q]; show (if _ then _ else _)=_; rw [if_pos (hs a)]) (fun ρ x q=>by unfold sc1; rw [q]; rfl) h
theorem bP4 {e:α→D} {m:Mi.Env→Res D} {c:σ→Res α} (hs:∀ a,bg7 (e a)=true) (h:EJ rep e m c):EJ rep e (chkS m) c :=
 bP3 (F:=chkS) (fun ρ a q=>by unfold chkS; rw [q]; show (if _ then _ else _)=_; rw [if_pos (hs a)]) (fun ρ x q=>by unfold chkS; rw [q]; rfl) h
theorem bm5 {e:α→D} (h:∀ a,ad4 (e a)=true) (xs:List α):(xs.map e).all ad4=true:=by
 rw [List.all_map,List.all_eq_true]
 exact fun a _=>h a
theorem bH6 (xs:List Int):bg7 (eS xs)=true:=bm5 (fun _=>rfl) xs
@[simp] noncomputable def addC (a b:Int):Res Int:= .ok (a + b)
@[simp] noncomputable def subC (a b:Int):Res Int:= .ok (a - b)
@[simp] noncomputable def mulC (a b:Int):Res Int:=if (-(2 ^ 64) < a∧a < 2 ^ 64)∨(-(2 ^ 64) < b∧b < 2 ^ 64) then .ok (a * b) else .bad
@[simp] noncomputable def aS4 (a b:Int):Res Int:=if 0 < b∧b < 1073741824 then .ok (a / b) else .bad
@[simp] noncomputable def modC (a b:Int):Res Int:=if 0 < b then .ok (a % b) else .bad
@[simp] noncomputable def powC (a b:Int):Res Int:=if 0≤b∧b≤1000000∧a.natAbs < 2 ^ 64 then .ok (a ^ b.toNat) else .bad
@[simp] noncomputable def minC (a b:Int):Res Int:= .ok (if b < a then b else a)
@[simp] noncomputable def maxC (a b:Int):Res Int:= .ok (if b > a then b else a)
@[simp] noncomputable def ltC (a b:Int):Res Bool:= .ok (decide (a < b))
@[simp] noncomputable def geC (a b:Int):Res Bool:= .ok (decide (b≤a))
@[simp] noncomputable def notC (a:Bool):Res Bool:= .ok (!a)
@[simp] noncomputable def eqC [DecidableEq α] (neg:Bool) (a b:α):Res Bool:= .ok (neg.xor (decide (a=b)))
theorem aI3 (a b:Int):SimR D.int (addI (.int a) (.int b)) (addC a b):=rfl
theorem bi3 (a b:Int):SimR D.int (subI (.int a) (.int b)) (subC a b):=rfl
theorem SimR.ite {e:α→γ} {p:Prop} [Decidable p] {r r':Res γ} {q q':Res α} (h:SimR e r q) (h':SimR e r' q'):SimR e (if p then r else r') (if p then q else q'):=by
 by_cases z:p
 · rw [if_pos z,if_pos z]; exact h
 · rw [if_neg z,if_neg z]; exact h'
theorem o_mul (a b:Int):SimR D.int (mulI (.int a) (.int b)) (mulC a b):=by rw [bi8]; exact SimR.ite rfl trivial
theorem aD5 (a b:Int):SimR D.int (aA3 (.int a) (.int b)) (aS4 a b):=by rw [ba8]; exact SimR.ite rfl trivial
theorem ap7 (a b:Int):SimR D.int (modI (.int a) (.int b)) (modC a b):=by rw [bi9]; exact SimR.ite rfl trivial
theorem bK7 (a b:Int):SimR D.int (powI (.int a) (.int b)) (powC a b):=by rw [bh7]; exact SimR.ite rfl trivial
theorem aR3 (a b:Int):SimR D.int (minI (.int a) (.int b)) (minC a b):=rfl
theorem aR4 (a b:Int):SimR D.int (maxI (.int a) (.int b)) (maxC a b):=rfl
theorem o_lt (a b:Int):SimR D.bl (ltI (.int a) (.int b)) (ltC a b):=rfl
theorem o_ge (a b:Int):SimR D.bl (geI (.int a) (.int b)) (geC a b):=rfl
theorem o_not (a:Bool):SimR D.bl (notB (.bl a)) (notC a):=rfl
theorem aw0 (neg:Bool) (a b:Int):SimR D.bl (eqS neg (.int a) (.int b)) (eqC neg a b):=rfl
theorem aR5 (neg:Bool) (a b:Str):SimR D.bl (eqS neg (.str a) (.str b)) (eqC neg a b):=rfl
theorem o_eqB (neg:Bool) (a b:Bool):SimR D.bl (eqS neg (.bl a) (.bl b)) (eqC neg a b):=rfl
theorem ab6 {m:Mi.Env→Res D} {c:σ→Res Bool} (h:EJ rep D.bl m c):EJ rep (id:Bool→Bool) (tst m) c:=fun s=>by
 have h:=h s
 cases q:c s with
 | ok a=>rw [q] at h; have h:m (rep s)= .ok (.bl a):=h; show tst m (rep s)= .ok a; unfold tst; rw [h]; rfl
 | exc x=>rw [q] at h; have h:m (rep s)= .exc x:=h; show tst m (rep s)= .exc x; unfold tst; rw [h]; rfl
 | bad=>trivial
@[simp] noncomputable def andC (a b:σ→Res Bool):σ→Res Bool:=fun s=>(a s).bind fun c=>if c=true then b s else .ok false
@[simp] noncomputable def orC (a b:σ→Res Bool):σ→Res Bool:=fun s=>(a s).bind fun c=>if c=true then .ok true else b s
theorem aA4 {a b:Mi.Env→Res Bool} {c d:σ→Res Bool} (h1:EJ rep (id:Bool→Bool) a c) (h2:EJ rep (id:Bool→Bool) b d):EJ rep (id:Bool→Bool) (andT a b) (andC c d):=fun s=>(h1 s).bnd fun t=>SimR.ite (h2 s) rfl
theorem at0 {a b:Mi.Env→Res Bool} {c d:σ→Res Bool} (h1:EJ rep (id:Bool→Bool) a c) (h2:EJ rep (id:Bool→Bool) b d):EJ rep (id:Bool→Bool) (orT a b) (orC c d):=fun s=>(h1 s).bnd fun t=>SimR.ite rfl (h2 s)
theorem ah7 {a:Mi.Env→Res Bool} {c:σ→Res Bool} (h1:EJ rep (id:Bool→Bool) a c):EJ rep (id:Bool→Bool) (notT a) (unC notC c):=fun s=>(h1 s).bnd fun t=>rfl
theorem aP5 {a b:Mi.Env→Res D} {c d:σ→Res Bool} (h1:EJ rep D.bl a c) (h2:EJ rep D.bl b d):EJ rep D.bl (andD a b) (andC c d):=fun s=>by
 have:=ab6 h1 s
 exact SimR.bnd (e:=(id:Bool→Bool)) this fun t=>SimR.ite (h2 s) rfl
structure Dat (e:α→D) [DecidableEq α] where
 py:α→PyData
 dep:Nat
 h0:∀ a,toPy (e a)=some (py a)
 lay:∀ a,(py a).canLay0=true
 depth:∀ a,(py a).depth≤dep
 eqv:∀ a b,PyData.eqv (py a) (py b)=decide (a=b)
 nomix:∀ a b,SeqAt.noMix (py a) (py b)=true
theorem Dat.same {e:α→D} [DecidableEq α] (A:Dat e) (a b:α):PySem.Spec.same (A.py a) (A.py b)=decide (a=b):=by rw [← A.eqv,SeqAt.same_eq_eqv _ _ (A.nomix a b)]
theorem Dat.shp {e:α→D} [DecidableEq α] (A:Dat e) (hd:A.dep≤64) (a:α):SeqAt.shaped (A.py a)=true:=by
 unfold SeqAt.shaped
 rw [A.lay a,Bool.true_and]
 exact decide_eq_true (Nat.le_trans (A.depth a) hd)
theorem bA1 {e:α→D} [DecidableEq α] (A:Dat e) (hd:A.dep≤64) (neg:Bool) (a b:α):SimR D.bl (eqD neg (e a) (e b)) (eqC neg a b):=by
 show eqD neg (e a) (e b)= .ok (.bl (neg.xor (decide (a=b))))
 unfold eqD
 rw [A.h0,A.h0]
 show (if _ then _ else _)=_
 rw [if_pos ⟨A.shp hd a,A.shp hd b⟩,A.eqv]
@[simp] noncomputable def inC [DecidableEq α] (neg:Bool) (a:α) (l:List α):Res Bool:= .ok (neg.xor (decide (a∈l)))
theorem bA0 {e:α→D} [DecidableEq α] (A:Dat e) (hd:A.dep≤60) (a:α) (l:List α):SimR D.bl (inD (e a) (eL e l)) (inC false a l):=by
 have:=(bD1 A.h0 A.lay (fun a=>Nat.le_trans (A.depth a) hd) A.same A.nomix a l).1
 show inD (e a) (.lst (l.map e))= .ok (.bl (false.xor (decide (a∈l))))
 rw [this,Bool.false_xor]
noncomputable def aw5:Dat D.int:=⟨PyData.int,1,fun _=>rfl,fun a=>by simp [PyData.canLay0],fun a=>by simp [PyData.depth],fun a b=>by simp only [PyData.eqv]; exact Bool.beq_eq_decide_eq _ _,fun a b=>by simp [SeqAt.noMix]⟩
noncomputable def dat_B:Dat D.bl:=⟨PyData.bool,1,fun _=>rfl,fun a=>by simp [PyData.canLay0],fun a=>by simp [PyData.depth],fun a b=>by simp only [PyData.eqv]; exact Bool.beq_eq_decide_eq _ _,fun a b=>by simp [SeqAt.noMix]⟩
theorem aw9 {g:α→PyData} [DecidableEq α] (h:∀ a b,PyData.eqv (g a) (g b)=decide (a=b)):∀ t u:List α,PyData.eqvAll (t.map g) (u.map g)=decide (t=u)
 | [],[]=>by simp [PyData.eqvAll]
 | [],_ :: _=>by simp [PyData.eqvAll]
 | _ :: _,[]=>by simp [PyData.eqvAll]
 | r :: t,q :: u=>by
   rw [List.map_cons,List.map_cons,PyData.eqvAll,h,aw9 h t u]
   by_cases h1:r=q <;> by_cases h2:t=u <;> simp [h1,h2]
end
section
variable {σ α β γ δ:Type} {rep:σ→Mi.Env}
theorem ao8 {g:α→PyData} (h:∀ a b,SeqAt.noMix (g a) (g b)=true):∀ t u:List α,SeqAt.noMixAll (t.map g) (u.map g)=true
 | [],[]=>by simp [SeqAt.noMixAll]
 | [],_ :: _=>by simp [SeqAt.noMixAll]
 | _ :: _,[]=>by simp [SeqAt.noMixAll]
 | r :: t,q :: u=>by rw [List.map_cons,List.map_cons,SeqAt.noMixAll,h,ao8 h t u]; rfl
theorem aw7 {g:α→PyData} (h:∀ a,(g a).canLay0=true):∀ l:List α,PyData.canLayAll0 (l.map g)=true
 | []=>by simp [PyData.canLayAll0]
 | a :: l=>by simp [PyData.canLayAll0,h a,aw7 h l]
theorem ap2 {g:α→PyData} {n:Nat} (h:∀ a,(g a).depth≤n):∀ l:List α,PyData.depthAll (l.map g)≤n
 | []=>by simp [PyData.depthAll]
 | a :: l=>by rw [List.map_cons,PyData.depthAll]; have:=h a; have:=ap2 h l; omega
noncomputable def bE0 {e:α→D} [DecidableEq α] (A:Dat e):Dat (eL e):=⟨fun l=> .list (l.map A.py),A.dep + 1,fun l=>aq5 A.h0 l,fun l=>by rw [PyData.canLay0]; exact aw7 A.lay l,fun l=>by rw [PyData.depth]; have:=ap2 A.depth l; omega,fun a b=>by rw [PyData.eqv]; exact aw9 A.eqv a b,fun a b=>by rw [SeqAt.noMix]; exact ao8 A.nomix a b⟩
noncomputable def aQ0 {e:α→D} {e':β→D} [DecidableEq α] [DecidableEq β] (A:Dat e) (B:Dat e'):Dat (eT2 e e'):=⟨fun p=> .tuple [A.py p.1,B.py p.2],A.dep + B.dep + 1,fun p=>by
 show (toPys [e p.1,e' p.2]).map PyData.tuple=_
 rw [toPys,toPys,toPys,A.h0,B.h0]; rfl,fun p=>by rw [PyData.canLay0]; simp [PyData.canLayAll0,A.lay,B.lay],fun p=>by
 rw [PyData.depth]; simp only [PyData.depthAll]; have:=A.depth p.1; have:=B.depth p.2; omega,fun a b=>by
 rw [PyData.eqv]; simp only [PyData.eqvAll,A.eqv,B.eqv]
 obtain ⟨a1,a2⟩:=a; obtain ⟨b1,b2⟩:=b
 by_cases h1:a1=b1 <;> by_cases h2:a2=b2 <;> simp [h1,h2],fun a b=>by rw [SeqAt.noMix]; simp [SeqAt.noMixAll,A.nomix,B.nomix]⟩
@[simp] noncomputable def cbC (b:Bool) (_:α):Res Bool:= .ok b
theorem aP4 {e:α→D} {n:String} {b:Bool} {m:Mi.Env→Res D} {c:σ→Res α} (h:∀ a,isT (e a) (.ty n)= .ok (.bl b)) (h1:EJ rep e m c):EJ rep D.bl (bn isT m (cst (.ty n))) (unC (cbC b) c):=fun s=>(h1 s).bnd fun a=>h a
@[simp] noncomputable def nilC:σ→Res (List α):=fun _=> .ok []
@[simp] noncomputable def ai5 (a:σ→Res α) (r:σ→Res (List α)):σ→Res (List α):=fun s=>(a s).bind fun x=>(r s).bind fun xs=> .ok (x :: xs)
theorem an0 {e:α→D}:EJ rep (List.map e) esN (nilC:σ→Res (List α)):=fun s=>rfl
theorem ad5 {e:α→D} {m:Mi.Env→Res D} {n:Mi.Env→Res (List D)} {c:σ→Res α} {d:σ→Res (List α)} (h1:EJ rep e m c) (h2:EJ rep (List.map e) n d):EJ rep (List.map e) (esC m n) (ai5 c d):=fun s=>(h1 s).bnd fun a=>(h2 s).bnd fun b=>rfl
@[simp] noncomputable def mkC (c:σ→Res (List α)):σ→Res (List α):=fun s=>(c s).bind fun xs=>if xs.length≤ac0 then .ok xs else .bad
theorem an1 {e:α→D} {m:Mi.Env→Res (List D)} {c:σ→Res (List α)} (h:EJ rep (List.map e) m c):EJ rep (eL e) (mkL m) (mkC c):=fun s=>(h s).bnd fun xs=>by rw [List.length_map]; exact SimR.ite rfl trivial
@[simp] noncomputable def prC (a:σ→Res α) (b:σ→Res β):σ→Res (α×β):=fun s=>(a s).bind fun x=>(b s).bind fun y=> .ok (x,y)
theorem ae6 {e:α→D} {e':β→D} {m n:Mi.Env→Res D} {c:σ→Res α} {d:σ→Res β} (h1:EJ rep e m c) (h2:EJ rep e' n d):EJ rep (eT2 e e') (mkT (esC m (esC n esN))) (prC c d):=fun s=>by
 have h1:=h1 s
 have h2:=h2 s
 unfold prC
 cases q1:c s with
 | bad=>trivial
 | exc x=>rw [q1] at h1; have h1:m (rep s)= .exc x:=h1; show mkT _ (rep s)= .exc x; simp only [mkT,esC,h1,Res.bind]
 | ok a =>
   rw [q1] at h1; have h1:m (rep s)= .ok (e a):=h1
   cases q2:d s with
   | bad=>trivial
   | exc x=>rw [q2] at h2; have h2:n (rep s)= .exc x:=h2; show mkT _ (rep s)= .exc x; simp only [mkT,esC,h1,h2,Res.bind]
   | ok b=>rw [q2] at h2; have h2:n (rep s)= .ok (e' b):=h2; show mkT _ (rep s)= .ok (eT2 e e' (a,b)); simp only [mkT,esC,esN,h1,h2,Res.bind,List.length_cons,List.length_nil]; rw [if_pos (by decide)]; rfl
@[simp] noncomputable def lenC (xs:List α):Res Int:= .ok xs.length
theorem bp7 {e:α→D} (xs:List α):SimR D.int (lenD (eL e xs)) (lenC xs):=by show Res.ok (D.int _)=Res.ok (D.int _); rw [List.length_map]
theorem bK9 (xs:List Int):SimR D.int (lenD (eS xs)) (lenC xs):=by show Res.ok (D.int _)=Res.ok (D.int _); rw [List.length_map]
theorem bF9 {e:α→γ} (xs:List α) (i:Int):atI (xs.map e) i=(atI xs i).map e:=by
 unfold atI
 rw [List.length_map]
 cases ixN xs.length i with
 | none=>rfl
 | some j=>simp only [Option.bind_some,List.getElem?_map]
@[simp] noncomputable def ixC (xs:List α) (i:Int):Res α:=match atI xs i with | some a=> .ok a | none=> .bad
theorem bQ3 {e:α→D} (xs:List α) (i:Int):SimR e (atD (xs.map e) i) (ixC xs i):=by
 unfold atD ixC
 rw [bF9]
 cases atI xs i <;> trivial
theorem o_ixS (xs:List Int) (i:Int):SimR D.int (ixL (eS xs) (.int i)) (ixC xs i):=bQ3 xs i
@[simp] noncomputable def av9 (p:α×α):Res (List α):= .ok [p.1,p.2]
theorem aj8 {e:α→D} (p:α×α):SimR (eTs e) (.ok (eT2 e e p)) (av9 p):=rfl
@[simp] noncomputable def dinC (neg:Bool) (k:List Int) (F:DI β):Res Bool:= .ok (neg.xor (F.get k).isSome)
theorem bi4 {e:β→D} (neg:Bool) (k:List Int) (F:DI β):SimR D.bl (dinD neg (eTs D.int k) (encD e F)) (dinC neg k F):=by
 show dinD neg (.tup (k.map D.int)) (encD e F)= .ok (.bl (neg.xor (F.get k).isSome))
 unfold dinD
 rw [ba5]
 simp
@[simp] noncomputable def bq3 (xs:List Int) (d:Int):Res Int:= .ok (match xs with | []=>d | x :: r=>ad8 r x)
@[simp] noncomputable def bN2 (xs:List Int) (d:Int):Res Int:= .ok (match xs with | []=>d | x :: r=>ai2 r x)
theorem ao2:∀ l:List Int,ai1 (l.map D.int)=some l
 | []=>rfl
 | x :: l=>by rw [List.map_cons,ai1,ao2 l]; rfl
theorem bz9 (xs:List Int) (d:Int):SimR D.int (extD ad8 (eL D.int xs) (.int d)) (bq3 xs d):=by
 show extD ad8 (.lst (xs.map D.int)) (.int d)=_
 unfold extD
 dsimp only
 rw [ao2]
 cases xs <;> rfl
theorem bK8 (xs:List Int) (d:Int):SimR D.int (extD ai2 (eL D.int xs) (.int d)) (bN2 xs d):=by
 show extD ai2 (.lst (xs.map D.int)) (.int d)=_
 unfold extD
 dsimp only
 rw [ao2]
 cases xs <;> rfl
end
section
variable {σ σ' α β γ δ:Type} {rep:σ→Mi.Env} {rep':σ'→Mi.Env}
noncomputable def repI (rep:σ→Mi.Env) (e:α→D) (ix:List Nat):α×σ→Mi.Env:=fun p=>some (e p.1) :: capD (rep p.2) ix
noncomputable def aj7 (ti:α→Res Bool) (te:α→Res β):List α→Res (List β)
 | []=> .ok []
 | a :: r=>(ti a).calm.bind fun c=>if c=true then (te a).calm.bind fun x=>(aj7 ti te r).bind fun xs=> .ok (x :: xs) else aj7 ti te r
noncomputable def aM1 (src:σ→Res (List α)) (ti:α×σ→Res Bool) (te:α×σ→Res β):σ→Res (List β):=fun s=>(src s).bind fun xs=>if xs.length < ac0 then aj7 (fun a=>ti (a,s)) (fun a=>te (a,s)) xs else .bad
theorem bb4 {e:α→D} {e':β→D} {ix:List Nat} {src:Mi.Env→Res (List D)} {ti:Mi.Env→Res Bool} {te:Mi.Env→Res D} {csrc:σ→Res (List α)} {cti:α×σ→Res Bool} {cte:α×σ→Res β}
 (hs:EJ rep (List.map e) src csrc) (ht:EJ (repI rep e ix) (id:Bool→Bool) ti cti) (he:EJ (repI rep e ix) e' te cte):EJ rep (eL e') (comp src ix ti te) (aM1 csrc cti cte):=fun s=>(hs s).bnd fun xs=>by
 rw [List.length_map]
 refine SimR.ite ?_ trivial
 have key:∀ l:List α,SimR (List.map e') (ag2 ti te (capD (rep s) ix) (l.map e)) (aj7 (fun a=>cti (a,s)) (fun a=>cte (a,s)) l):=by
  intro l
  induction l with
  | nil=>rfl
  | cons a l ih =>
    rw [List.map_cons]
    unfold ag2 aj7
    refine SimR.bnd (ht (a,s)).calm fun t=>SimR.ite (SimR.bnd (he (a,s)).calm fun x=>SimR.bnd ih fun xs=>?_) ih
    rfl
 have:=key xs
 cases q:aj7 (fun a=>cti (a,s)) (fun a=>cte (a,s)) xs with
 | ok ys=>rw [q] at this; have this:ag2 ti te (capD (rep s) ix) (xs.map e)= .ok (ys.map e'):=this; rw [this]; rfl
 | exc x=>rw [q] at this; have this:ag2 ti te (capD (rep s) ix) (xs.map e)= .exc x:=this; rw [this]; rfl
 | bad=>trivial
theorem bb2 {e:α→D} {m:Mi.Env→Res D} {c:σ→Res (List α)} (h:EJ rep (eL e) m c):EJ rep (List.map e) (srcL m) c:=fun s=>by
 have h:=h s
 cases q:c s with
 | ok a=>rw [q] at h; have h:m (rep s)= .ok (eL e a):=h; show srcL m (rep s)= .ok (a.map e); unfold srcL; rw [h]; rfl
 | exc x=>rw [q] at h; have h:m (rep s)= .exc x:=h; show srcL m (rep s)= .exc x; unfold srcL; rw [h]; rfl
 | bad=>trivial
noncomputable def rngI (lo hi:Int):List Int:=(List.range (hi - lo).toNat).map fun i:Nat=>lo + i
noncomputable def rngC (lo hi:Int):Res (List Int):=@ite _ (-(2 ^ 62)≤lo∧lo < 2 ^ 62∧-(2 ^ 62)≤hi∧hi < 2 ^ 62) (Classical.propDecidable _) (.ok (rngI lo hi)) .bad
theorem by7 (lo hi:Int):(rngI lo hi).map D.int=rng lo hi:=by unfold rngI rng; rw [List.map_map]; rfl
theorem ay6 {lo hi:Int} (h1:-(2 ^ 62)≤lo) (h2:lo < 2 ^ 62) (h3:-(2 ^ 62)≤hi) (h4:hi < 2 ^ 62):rngC lo hi= .ok (rngI lo hi):=by unfold rngC; rw [if_pos ⟨h1,h2,h3,h4⟩]
theorem bO8 {a b:Mi.Env→Res D} {ca cb:σ→Res Int} (h1:EJ rep D.int a ca) (h2:EJ rep D.int b cb):EJ rep (List.map D.int) (srcR a b) (bnC rngC ca cb):=fun s=>(h1 s).bnd fun i=>(h2 s).bnd fun j=>by
 show SimR _ (if -(2 ^ 62)≤i∧i < 2 ^ 62∧-(2 ^ 62)≤j∧j < 2 ^ 62 then _ else _) _
 by_cases h:-(2 ^ 62)≤i∧i < 2 ^ 62∧-(2 ^ 62)≤j∧j < 2 ^ 62
 · rw [if_pos h,ay6 h.1 h.2.1 h.2.2.1 h.2.2.2]; exact congrArg Res.ok (by7 i j).symm
 · unfold rngC; rw [if_neg h,if_neg h]; trivial
theorem aJ0 {b:Mi.Env→Res D} {cb:σ→Res Int} (h2:EJ rep D.int b cb):EJ rep (List.map D.int) (aV2 b) (unC (rngC 0) cb):=fun s=>bO8 (bq6 (a:=(0:Int)) rfl) h2 s
noncomputable def OutC.res:OutC σ α→Res α
 | .ok a _=> .ok a
 | .exc x _=> .exc x
 | .bad=> .bad
@[simp] theorem res_ok (a:α) (s:σ):(OutC.ok a s).res= .ok a:=rfl
@[simp] theorem res_exc (x:Nat) (s:σ):(OutC.exc x s:OutC σ α).res= .exc x:=rfl
@[simp] theorem res_bad:(OutC.bad:OutC σ α).res= .bad:=rfl
@[simp] noncomputable def bndO (r:Res α) (s:σ) (k:α→OutC σ β):OutC σ β:=match r with
 | .ok a=>k a
 | .exc x=> .exc x s
 | .bad=> .bad
theorem SimO.res {e:α→D} {fm:List D→Out D} {ds:List D} {q:OutC σ α} (h:SimO rep e (fm ds) q):SimR e (al5 fm ds) q.res:=by
 unfold al5
 cases q with
 | ok a s=>have h:fm ds= .ok (e a) (rep s):=h; rw [h]; rfl
 | exc x s=>have h:fm ds= .exc x (rep s):=h; rw [h]; rfl
 | bad=>trivial
@[simp] noncomputable def wbC (w:σ'→σ→σ) (s:σ):OutC σ' α→OutC σ α
 | .ok a s'=> .ok a (w s' s)
 | .exc x s'=> .exc x (w s' s)
 | .bad=> .bad
theorem SimO.wb {plan:List Ap} {fm:List D→Out D} {ds:List D} {e:α→D} {q:OutC σ' α} {w:σ'→σ→σ} (hw:∀ s' s,wbGo plan 0 (rep' s') (rep s)=rep (w s' s)) (h:SimO rep' e (fm ds) q) (s:σ):SimO rep e (al6 plan fm ds (rep s)) (wbC w s q):=by
 unfold al6
 cases q with
 | ok a s'=>have h:fm ds= .ok (e a) (rep' s'):=h; rw [h]; show Out.ok _ _=Out.ok _ _; rw [hw]
 | exc x s'=>have h:fm ds= .exc x (rep' s'):=h; rw [h]; show Out.exc _ _=Out.exc _ _; rw [hw]
 | bad=>trivial
@[simp] noncomputable def pc1C {α0:Type} (f:α0→OutC σ' γ) (c0:σ→Res α0):σ→Res γ:=fun s=>(c0 s).bind fun x0=>(f x0).res
@[simp] noncomputable def pk1C {α0:Type} (f:α0→Res γ) (c0:σ→Res α0):σ→Res γ:=fun s=>(c0 s).bind fun x0=>f x0
theorem row1 {α0:Type} {e0:α0→D} {m0:Mi.Env→Res D} {c0:σ→Res α0} {eR:γ→δ} {k:List D→Res δ} {f:α0→Res γ} (hf:∀ x0,SimR eR (k [e0 x0]) (f x0)) (h0:EJ rep e0 m0 c0):EJ rep eR (fun ρ=>((esC m0 esN) ρ).bind k) (pk1C f c0):=fun s=>by
 have g0:=h0 s
 unfold pk1C
 cases q0:c0 s with
 | bad=>trivial
 | exc x=>rw [q0] at g0; have g0:m0 (rep s)= .exc x:=g0; show (_:Res _)= .exc x; simp only [esC,g0,Res.bind]
 | ok x0 =>
   rw [q0] at g0; have g0:m0 (rep s)= .ok (e0 x0):=g0
   have z:=hf x0
   simp only [esC,esN,g0,Res.bind]
   exact z
theorem aP3 {α0:Type} {e0:α0→D} {m0:Mi.Env→Res D} {c0:σ→Res α0} {eR:γ→D} {fm:List D→Out D} {f:α0→OutC σ' γ} (hf:∀ x0,SimO rep' eR (fm [e0 x0]) (f x0)) (h0:EJ rep e0 m0 c0):EJ rep eR (pc fm (esC m0 esN)) (pc1C f c0):=row1 (k:=al5 fm) (f:=fun x0=>(f x0).res) (fun x0=>(hf x0).res) h0
theorem bq4 {α0:Type} {e0:α0→D} {m0:Mi.Env→Res D} {c0:σ→Res α0} {eR:γ→D} {c:Nat} {fm:List D→Out D} {f:α0→Res γ} (hf:∀ x0,SimR eR (aw1 c fm [e0 x0]) (f x0)) (h0:EJ rep e0 m0 c0):EJ rep eR (pk c fm (esC m0 esN)) (pk1C f c0):=row1 hf h0
theorem bO9 {α0:Type} {e0:α0→D} {m0:Mi.Env→Res D} {c0:σ→Res α0} {eR:γ→D} {c:Nat} {mn:Str} {fm:List D→Out D} {f:α0→OutC σ' γ} (ho:∀ a,ag7 c mn (e0 a)=true) (hf:∀ x0,SimO rep' eR (fm [e0 x0]) (f x0)) (h0:EJ rep e0 m0 c0):EJ rep eR (pm c mn fm m0 esN) (pc1C f c0):=fun s=>by
 have g0:=h0 s
 unfold pm pc1C
 cases q0:c0 s with
 | bad=>trivial
 | exc x=>rw [q0] at g0; have g0:m0 (rep s)= .exc x:=g0; show (_:Res _)= .exc x; simp only [esC,g0,Res.bind,ho,if_true]
 | ok x0 =>
   rw [q0] at g0; have g0:m0 (rep s)= .ok (e0 x0):=g0
   have z:=(hf x0).res
   simp only [esC,esN,g0,Res.bind,ho,if_true]
   exact z
@[simp] noncomputable def pc2C {α0 α1:Type} (f:α0→α1→OutC σ' γ) (c0:σ→Res α0) (c1:σ→Res α1):σ→Res γ:=fun s=>(c0 s).bind fun x0=>(c1 s).bind fun x1=>(f x0 x1).res
@[simp] noncomputable def pk2C {α0 α1:Type} (f:α0→α1→Res γ) (c0:σ→Res α0) (c1:σ→Res α1):σ→Res γ:=fun s=>(c0 s).bind fun x0=>(c1 s).bind fun x1=>f x0 x1
theorem row2 {α0 α1:Type} {e0:α0→D} {e1:α1→D} {m0 m1:Mi.Env→Res D} {c0:σ→Res α0} {c1:σ→Res α1} {eR:γ→δ} {k:List D→Res δ} {f:α0→α1→Res γ} (hf:∀ x0 x1,SimR eR (k [e0 x0,e1 x1]) (f x0 x1)) (h0:EJ rep e0 m0 c0) (h1:EJ rep e1 m1 c1):EJ rep eR (fun ρ=>((esC m0 (esC m1 esN)) ρ).bind k) (pk2C f c0 c1):=fun s=>by
 have g0:=h0 s
 have g1:=h1 s
 unfold pk2C
 cases q0:c0 s with
 | bad=>trivial
 | exc x=>rw [q0] at g0; have g0:m0 (rep s)= .exc x:=g0; show (_:Res _)= .exc x; simp only [esC,g0,Res.bind]
 | ok x0 =>
   rw [q0] at g0; have g0:m0 (rep s)= .ok (e0 x0):=g0
   cases q1:c1 s with
   | bad=>trivial
   | exc x=>rw [q1] at g1; have g1:m1 (rep s)= .exc x:=g1; show (_:Res _)= .exc x; simp only [esC,g0,g1,Res.bind]
   | ok x1 =>
     rw [q1] at g1; have g1:m1 (rep s)= .ok (e1 x1):=g1
     have z:=hf x0 x1
     simp only [esC,esN,g0,g1,Res.bind]
     exact z
theorem bq5 {α0 α1:Type} {e0:α0→D} {e1:α1→D} {m0 m1:Mi.Env→Res D} {c0:σ→Res α0} {c1:σ→Res α1} {eR:γ→D} {fm:List D→Out D} {f:α0→α1→OutC σ' γ} (hf:∀ x0 x1,SimO rep' eR (fm [e0 x0,e1 x1]) (f x0 x1)) (h0:EJ rep e0 m0 c0) (h1:EJ rep e1 m1 c1):EJ rep eR (pc fm (esC m0 (esC m1 esN))) (pc2C f c0 c1):=row2 (k:=al5 fm) (f:=fun x0 x1=>(f x0 x1).res) (fun x0 x1=>(hf x0 x1).res) h0 h1
theorem aE9 {α0 α1:Type} {e0:α0→D} {e1:α1→D} {m0 m1:Mi.Env→Res D} {c0:σ→Res α0} {c1:σ→Res α1} {eR:γ→D} {c:Nat} {mn:Str} {fm:List D→Out D} {f:α0→α1→OutC σ' γ} (ho:∀ a,ag7 c mn (e0 a)=true) (hf:∀ x0 x1,SimO rep' eR (fm [e0 x0,e1 x1]) (f x0 x1)) (h0:EJ rep e0 m0 c0) (h1:EJ rep e1 m1 c1):EJ rep eR (pm c mn fm m0 (esC m1 esN)) (pc2C f c0 c1):=fun s=>by
 have g0:=h0 s
 have g1:=h1 s
 unfold pm pc2C
 cases q0:c0 s with
 | bad=>trivial
 | exc x=>rw [q0] at g0; have g0:m0 (rep s)= .exc x:=g0; show (_:Res _)= .exc x; simp only [esC,g0,Res.bind,ho,if_true]
 | ok x0 =>
   rw [q0] at g0; have g0:m0 (rep s)= .ok (e0 x0):=g0
   cases q1:c1 s with
   | bad=>trivial
   | exc x=>rw [q1] at g1; have g1:m1 (rep s)= .exc x:=g1; show (_:Res _)= .exc x; simp only [esC,g0,g1,Res.bind,ho,if_true]
   | ok x1 =>
     rw [q1] at g1; have g1:m1 (rep s)= .ok (e1 x1):=g1
     have z:=(hf x0 x1).res
     simp only [esC,esN,g0,g1,Res.bind,ho,if_true]
     exact z
@[simp] noncomputable def pc3C {α0 α1 α2:Type} (f:α0→α1→α2→OutC σ' γ) (c0:σ→Res α0) (c1:σ→Res α1) (c2:σ→Res α2):σ→Res γ:=fun s=>(c0 s).bind fun x0=>(c1 s).bind fun x1=>(c2 s).bind fun x2=>(f x0 x1 x2).res
@[simp] noncomputable def mc3C {α0 α1 α2:Type} (f:α0→α1→α2→OutC σ' γ) (w:σ'→σ→σ) (c0:σ→Res α0) (c1:σ→Res α1) (c2:σ→Res α2):σ→OutC σ γ:=fun s=>bndO (c0 s) s fun x0=>bndO (c1 s) s fun x1=>bndO (c2 s) s fun x2=>wbC w s (f x0 x1 x2)
@[simp] noncomputable def pk3C {α0 α1 α2:Type} (f:α0→α1→α2→Res γ) (c0:σ→Res α0) (c1:σ→Res α1) (c2:σ→Res α2):σ→Res γ:=fun s=>(c0 s).bind fun x0=>(c1 s).bind fun x1=>(c2 s).bind fun x2=>f x0 x1 x2
theorem row3 {α0 α1 α2:Type} {e0:α0→D} {e1:α1→D} {e2:α2→D} {m0 m1 m2:Mi.Env→Res D} {c0:σ→Res α0} {c1:σ→Res α1} {c2:σ→Res α2} {eR:γ→δ} {k:List D→Res δ} {f:α0→α1→α2→Res γ} (hf:∀ x0 x1 x2,SimR eR (k [e0 x0,e1 x1,e2 x2]) (f x0 x1 x2)) (h0:EJ rep e0 m0 c0) (h1:EJ rep e1 m1 c1) (h2:EJ rep e2 m2 c2):EJ rep eR (fun ρ=>((esC m0 (esC m1 (esC m2 esN))) ρ).bind k) (pk3C f c0 c1 c2):=fun s=>by
 have g0:=h0 s
 have g1:=h1 s
 have g2:=h2 s
 unfold pk3C
 cases q0:c0 s with
 | bad=>trivial
 | exc x=>rw [q0] at g0; have g0:m0 (rep s)= .exc x:=g0; show (_:Res _)= .exc x; simp only [esC,g0,Res.bind]
 | ok x0 =>
   rw [q0] at g0; have g0:m0 (rep s)= .ok (e0 x0):=g0
   cases q1:c1 s with
   | bad=>trivial
   | exc x=>rw [q1] at g1; have g1:m1 (rep s)= .exc x:=g1; show (_:Res _)= .exc x; simp only [esC,g0,g1,Res.bind]
   | ok x1 =>
     rw [q1] at g1; have g1:m1 (rep s)= .ok (e1 x1):=g1
     cases q2:c2 s with
     | bad=>trivial
     | exc x=>rw [q2] at g2; have g2:m2 (rep s)= .exc x:=g2; show (_:Res _)= .exc x; simp only [esC,g0,g1,g2,Res.bind]
     | ok x2 =>
       rw [q2] at g2; have g2:m2 (rep s)= .ok (e2 x2):=g2
       have z:=hf x0 x1 x2
       simp only [esC,esN,g0,g1,g2,Res.bind]
       exact z
theorem bP1 {α0 α1 α2:Type} {e0:α0→D} {e1:α1→D} {e2:α2→D} {m0 m1 m2:Mi.Env→Res D} {c0:σ→Res α0} {c1:σ→Res α1} {c2:σ→Res α2} {eR:γ→D} {fm:List D→Out D} {f:α0→α1→α2→OutC σ' γ} (hf:∀ x0 x1 x2,SimO rep' eR (fm [e0 x0,e1 x1,e2 x2]) (f x0 x1 x2)) (h0:EJ rep e0 m0 c0) (h1:EJ rep e1 m1 c1) (h2:EJ rep e2 m2 c2):EJ rep eR (pc fm (esC m0 (esC m1 (esC m2 esN)))) (pc3C f c0 c1 c2):=row3 (k:=al5 fm) (f:=fun x0 x1 x2=>(f x0 x1 x2).res) (fun x0 x1 x2=>(hf x0 x1 x2).res) h0 h1 h2
theorem aP2 {α0 α1 α2:Type} {e0:α0→D} {e1:α1→D} {e2:α2→D} {m0 m1 m2:Mi.Env→Res D} {c0:σ→Res α0} {c1:σ→Res α1} {c2:σ→Res α2} {eR:γ→D} {c:Nat} {mn:Str} {fm:List D→Out D} {f:α0→α1→α2→OutC σ' γ} (ho:∀ a,ag7 c mn (e0 a)=true) (hf:∀ x0 x1 x2,SimO rep' eR (fm [e0 x0,e1 x1,e2 x2]) (f x0 x1 x2)) (h0:EJ rep e0 m0 c0) (h1:EJ rep e1 m1 c1) (h2:EJ rep e2 m2 c2):EJ rep eR (pm c mn fm m0 (esC m1 (esC m2 esN))) (pc3C f c0 c1 c2):=fun s=>by
 have g0:=h0 s
 have g1:=h1 s
 have g2:=h2 s
 unfold pm pc3C
 cases q0:c0 s with
 | bad=>trivial
 | exc x=>rw [q0] at g0; have g0:m0 (rep s)= .exc x:=g0; show (_:Res _)= .exc x; simp only [esC,g0,Res.bind,ho,if_true]
 | ok x0 =>
   rw [q0] at g0; have g0:m0 (rep s)= .ok (e0 x0):=g0
   cases q1:c1 s with
   | bad=>trivial
   | exc x=>rw [q1] at g1; have g1:m1 (rep s)= .exc x:=g1; show (_:Res _)= .exc x; simp only [esC,g0,g1,Res.bind,ho,if_true]
   | ok x1 =>
     rw [q1] at g1; have g1:m1 (rep s)= .ok (e1 x1):=g1
     cases q2:c2 s with
     | bad=>trivial
     | exc x=>rw [q2] at g2; have g2:m2 (rep s)= .exc x:=g2; show (_:Res _)= .exc x; simp only [esC,g0,g1,g2,Res.bind,ho,if_true]
     | ok x2 =>
       rw [q2] at g2; have g2:m2 (rep s)= .ok (e2 x2):=g2
       have z:=(hf x0 x1 x2).res
       simp only [esC,esN,g0,g1,g2,Res.bind,ho,if_true]
       exact z
theorem bp9 {α0 α1 α2:Type} {e0:α0→D} {e1:α1→D} {e2:α2→D} {m0 m1 m2:Mi.Env→Res D} {c0:σ→Res α0} {c1:σ→Res α1} {c2:σ→Res α2} {eR:γ→D} {c:Nat} {mn:Str} {plan:List Ap} {fm:List D→Out D} {f:α0→α1→α2→OutC σ' γ} {w:σ'→σ→σ} (ho:∀ a,ag7 c mn (e0 a)=true) (hw:∀ s' s,wbGo plan 0 (rep' s') (rep s)=rep (w s' s)) (hf:∀ x0 x1 x2,SimO rep' eR (fm [e0 x0,e1 x1,e2 x2]) (f x0 x1 x2)) (h0:EJ rep e0 m0 c0) (h1:EJ rep e1 m1 c1) (h2:EJ rep e2 m2 c2):NJ rep eR (mm c mn plan fm m0 (esC m1 (esC m2 esN))) (mc3C f w c0 c1 c2):=fun s=>by
 have g0:=h0 s
 have g1:=h1 s
 have g2:=h2 s
 unfold mm mc3C
 cases q0:c0 s with
 | bad=>trivial
 | exc x=>rw [q0] at g0; have g0:m0 (rep s)= .exc x:=g0; show (_:Out _)= .exc x (rep s); simp only [esC,g0,Res.bind,Res.up,Out.bind,ho,if_true]
 | ok x0 =>
   rw [q0] at g0; have g0:m0 (rep s)= .ok (e0 x0):=g0
   cases q1:c1 s with
   | bad=>trivial
   | exc x=>rw [q1] at g1; have g1:m1 (rep s)= .exc x:=g1; show (_:Out _)= .exc x (rep s); simp only [esC,g0,g1,Res.bind,Res.up,Out.bind,ho,if_true]
   | ok x1 =>
     rw [q1] at g1; have g1:m1 (rep s)= .ok (e1 x1):=g1
     cases q2:c2 s with
     | bad=>trivial
     | exc x=>rw [q2] at g2; have g2:m2 (rep s)= .exc x:=g2; show (_:Out _)= .exc x (rep s); simp only [esC,g0,g1,g2,Res.bind,Res.up,Out.bind,ho,if_true]
     | ok x2 =>
       rw [q2] at g2; have g2:m2 (rep s)= .ok (e2 x2):=g2
       simp only [esC,esN,g0,g1,g2,Res.bind,Res.up,Out.bind,bndO,ho,if_true]
       exact SimO.wb hw (hf x0 x1 x2) s
@[simp] noncomputable def pc4C {α0 α1 α2 α3:Type} (f:α0→α1→α2→α3→OutC σ' γ) (c0:σ→Res α0) (c1:σ→Res α1) (c2:σ→Res α2) (c3:σ→Res α3):σ→Res γ:=fun s=>(c0 s).bind fun x0=>(c1 s).bind fun x1=>(c2 s).bind fun x2=>(c3 s).bind fun x3=>(f x0 x1 x2 x3).res
@[simp] noncomputable def mc4C {α0 α1 α2 α3:Type} (f:α0→α1→α2→α3→OutC σ' γ) (w:σ'→σ→σ) (c0:σ→Res α0) (c1:σ→Res α1) (c2:σ→Res α2) (c3:σ→Res α3):σ→OutC σ γ:=fun s=>bndO (c0 s) s fun x0=>bndO (c1 s) s fun x1=>bndO (c2 s) s fun x2=>bndO (c3 s) s fun x3=>wbC w s (f x0 x1 x2 x3)
@[simp] noncomputable def pk4C {α0 α1 α2 α3:Type} (f:α0→α1→α2→α3→Res γ) (c0:σ→Res α0) (c1:σ→Res α1) (c2:σ→Res α2) (c3:σ→Res α3):σ→Res γ:=fun s=>(c0 s).bind fun x0=>(c1 s).bind fun x1=>(c2 s).bind fun x2=>(c3 s).bind fun x3=>f x0 x1 x2 x3
theorem row4 {α0 α1 α2 α3:Type} {e0:α0→D} {e1:α1→D} {e2:α2→D} {e3:α3→D} {m0 m1 m2 m3:Mi.Env→Res D} {c0:σ→Res α0} {c1:σ→Res α1} {c2:σ→Res α2} {c3:σ→Res α3} {eR:γ→δ} {k:List D→Res δ} {f:α0→α1→α2→α3→Res γ} (hf:∀ x0 x1 x2 x3,SimR eR (k [e0 x0,e1 x1,e2 x2,e3 x3]) (f x0 x1 x2 x3)) (h0:EJ rep e0 m0 c0) (h1:EJ rep e1 m1 c1) (h2:EJ rep e2 m2 c2) (h3:EJ rep e3 m3 c3):EJ rep eR (fun ρ=>((esC m0 (esC m1 (esC m2 (esC m3 esN)))) ρ).bind k) (pk4C f c0 c1 c2 c3):=fun s=>by
 have g0:=h0 s
 have g1:=h1 s
 have g2:=h2 s
 have g3:=h3 s
 unfold pk4C
 cases q0:c0 s with
 | bad=>trivial
 | exc x=>rw [q0] at g0; have g0:m0 (rep s)= .exc x:=g0; show (_:Res _)= .exc x; simp only [esC,g0,Res.bind]
 | ok x0 =>
   rw [q0] at g0; have g0:m0 (rep s)= .ok (e0 x0):=g0
   cases q1:c1 s with
   | bad=>trivial
   | exc x=>rw [q1] at g1; have g1:m1 (rep s)= .exc x:=g1; show (_:Res _)= .exc x; simp only [esC,g0,g1,Res.bind]
   | ok x1 =>
     rw [q1] at g1; have g1:m1 (rep s)= .ok (e1 x1):=g1
     cases q2:c2 s with
     | bad=>trivial
     | exc x=>rw [q2] at g2; have g2:m2 (rep s)= .exc x:=g2; show (_:Res _)= .exc x; simp only [esC,g0,g1,g2,Res.bind]
     | ok x2 =>
       rw [q2] at g2; have g2:m2 (rep s)= .ok (e2 x2):=g2
       cases q3:c3 s with
       | bad=>trivial
       | exc x=>rw [q3] at g3; have g3:m3 (rep s)= .exc x:=g3; show (_:Res _)= .exc x; simp only [esC,g0,g1,g2,g3,Res.bind]
       | ok x3 =>
         rw [q3] at g3; have g3:m3 (rep s)= .ok (e3 x3):=g3
         have z:=hf x0 x1 x2 x3
         simp only [esC,esN,g0,g1,g2,g3,Res.bind]
         exact z
theorem aF0 {α0 α1 α2 α3:Type} {e0:α0→D} {e1:α1→D} {e2:α2→D} {e3:α3→D} {m0 m1 m2 m3:Mi.Env→Res D} {c0:σ→Res α0} {c1:σ→Res α1} {c2:σ→Res α2} {c3:σ→Res α3} {eR:γ→D} {fm:List D→Out D} {f:α0→α1→α2→α3→OutC σ' γ} (hf:∀ x0 x1 x2 x3,SimO rep' eR (fm [e0 x0,e1 x1,e2 x2,e3 x3]) (f x0 x1 x2 x3)) (h0:EJ rep e0 m0 c0) (h1:EJ rep e1 m1 c1) (h2:EJ rep e2 m2 c2) (h3:EJ rep e3 m3 c3):EJ rep eR (pc fm (esC m0 (esC m1 (esC m2 (esC m3 esN))))) (pc4C f c0 c1 c2 c3):=row4 (k:=al5 fm) (f:=fun x0 x1 x2 x3=>(f x0 x1 x2 x3).res) (fun x0 x1 x2 x3=>(hf x0 x1 x2 x3).res) h0 h1 h2 h3
theorem bL1 {α0 α1 α2 α3:Type} {e0:α0→D} {e1:α1→D} {e2:α2→D} {e3:α3→D} {m0 m1 m2 m3:Mi.Env→Res D} {c0:σ→Res α0} {c1:σ→Res α1} {c2:σ→Res α2} {c3:σ→Res α3} {eR:γ→D} {plan:List Ap} {fm:List D→Out D} {f:α0→α1→α2→α3→OutC σ' γ} {w:σ'→σ→σ} (hw:∀ s' s,wbGo plan 0 (rep' s') (rep s)=rep (w s' s)) (hf:∀ x0 x1 x2 x3,SimO rep' eR (fm [e0 x0,e1 x1,e2 x2,e3 x3]) (f x0 x1 x2 x3)) (h0:EJ rep e0 m0 c0) (h1:EJ rep e1 m1 c1) (h2:EJ rep e2 m2 c2) (h3:EJ rep e3 m3 c3):NJ rep eR (mc plan fm (esC m0 (esC m1 (esC m2 (esC m3 esN))))) (mc4C f w c0 c1 c2 c3):=fun s=>by
 have g0:=h0 s
 have g1:=h1 s
 have g2:=h2 s
 have g3:=h3 s
 unfold mc mc4C
 cases q0:c0 s with
 | bad=>trivial
 | exc x=>rw [q0] at g0; have g0:m0 (rep s)= .exc x:=g0; show (_:Out _)= .exc x (rep s); simp only [esC,g0,Res.bind,Res.up,Out.bind]
 | ok x0 =>
   rw [q0] at g0; have g0:m0 (rep s)= .ok (e0 x0):=g0
   cases q1:c1 s with
   | bad=>trivial
   | exc x=>rw [q1] at g1; have g1:m1 (rep s)= .exc x:=g1; show (_:Out _)= .exc x (rep s); simp only [esC,g0,g1,Res.bind,Res.up,Out.bind]
   | ok x1 =>
     rw [q1] at g1; have g1:m1 (rep s)= .ok (e1 x1):=g1
     cases q2:c2 s with
     | bad=>trivial
     | exc x=>rw [q2] at g2; have g2:m2 (rep s)= .exc x:=g2; show (_:Out _)= .exc x (rep s); simp only [esC,g0,g1,g2,Res.bind,Res.up,Out.bind]
     | ok x2 =>
       rw [q2] at g2; have g2:m2 (rep s)= .ok (e2 x2):=g2
       cases q3:c3 s with
       | bad=>trivial
       | exc x=>rw [q3] at g3; have g3:m3 (rep s)= .exc x:=g3; show (_:Out _)= .exc x (rep s); simp only [esC,g0,g1,g2,g3,Res.bind,Res.up,Out.bind]
       | ok x3 =>
         rw [q3] at g3; have g3:m3 (rep s)= .ok (e3 x3):=g3
         simp only [esC,esN,g0,g1,g2,g3,Res.bind,Res.up,Out.bind,bndO]
         exact SimO.wb hw (hf x0 x1 x2 x3) s
@[simp] noncomputable def pc5C {α0 α1 α2 α3 α4:Type} (f:α0→α1→α2→α3→α4→OutC σ' γ) (c0:σ→Res α0) (c1:σ→Res α1) (c2:σ→Res α2) (c3:σ→Res α3) (c4:σ→Res α4):σ→Res γ:=fun s=>(c0 s).bind fun x0=>(c1 s).bind fun x1=>(c2 s).bind fun x2=>(c3 s).bind fun x3=>(c4 s).bind fun x4=>(f x0 x1 x2 x3 x4).res
@[simp] noncomputable def pk5C {α0 α1 α2 α3 α4:Type} (f:α0→α1→α2→α3→α4→Res γ) (c0:σ→Res α0) (c1:σ→Res α1) (c2:σ→Res α2) (c3:σ→Res α3) (c4:σ→Res α4):σ→Res γ:=fun s=>(c0 s).bind fun x0=>(c1 s).bind fun x1=>(c2 s).bind fun x2=>(c3 s).bind fun x3=>(c4 s).bind fun x4=>f x0 x1 x2 x3 x4
theorem row5 {α0 α1 α2 α3 α4:Type} {e0:α0→D} {e1:α1→D} {e2:α2→D} {e3:α3→D} {e4:α4→D} {m0 m1 m2 m3 m4:Mi.Env→Res D} {c0:σ→Res α0} {c1:σ→Res α1} {c2:σ→Res α2} {c3:σ→Res α3} {c4:σ→Res α4} {eR:γ→δ} {k:List D→Res δ} {f:α0→α1→α2→α3→α4→Res γ} (hf:∀ x0 x1 x2 x3 x4,SimR eR (k [e0 x0,e1 x1,e2 x2,e3 x3,e4 x4]) (f x0 x1 x2 x3 x4)) (h0:EJ rep e0 m0 c0) (h1:EJ rep e1 m1 c1) (h2:EJ rep e2 m2 c2) (h3:EJ rep e3 m3 c3) (h4:EJ rep e4 m4 c4):EJ rep eR (fun ρ=>((esC m0 (esC m1 (esC m2 (esC m3 (esC m4 esN))))) ρ).bind k) (pk5C f c0 c1 c2 c3 c4):=fun s=>by
 have g0:=h0 s
 have g1:=h1 s
 have g2:=h2 s
 have g3:=h3 s
 have g4:=h4 s
 unfold pk5C
 cases q0:c0 s with
 | bad=>trivial
 | exc x=>rw [q0] at g0; have g0:m0 (rep s)= .exc x:=g0; show (_:Res _)= .exc x; simp only [esC,g0,Res.bind]
 | ok x0 =>
   rw [q0] at g0; have g0:m0 (rep s)= .ok (e0 x0):=g0
   cases q1:c1 s with
   | bad=>trivial
   | exc x=>rw [q1] at g1; have g1:m1 (rep s)= .exc x:=g1; show (_:Res _)= .exc x; simp only [esC,g0,g1,Res.bind]
   | ok x1 =>
     rw [q1] at g1; have g1:m1 (rep s)= .ok (e1 x1):=g1
     cases q2:c2 s with
     | bad=>trivial
     | exc x=>rw [q2] at g2; have g2:m2 (rep s)= .exc x:=g2; show (_:Res _)= .exc x; simp only [esC,g0,g1,g2,Res.bind]
     | ok x2 =>
       rw [q2] at g2; have g2:m2 (rep s)= .ok (e2 x2):=g2
       cases q3:c3 s with
       | bad=>trivial
       | exc x=>rw [q3] at g3; have g3:m3 (rep s)= .exc x:=g3; show (_:Res _)= .exc x; simp only [esC,g0,g1,g2,g3,Res.bind]
       | ok x3 =>
         rw [q3] at g3; have g3:m3 (rep s)= .ok (e3 x3):=g3
         cases q4:c4 s with
         | bad=>trivial
         | exc x=>rw [q4] at g4; have g4:m4 (rep s)= .exc x:=g4; show (_:Res _)= .exc x; simp only [esC,g0,g1,g2,g3,g4,Res.bind]
         | ok x4 =>
           rw [q4] at g4; have g4:m4 (rep s)= .ok (e4 x4):=g4
           have z:=hf x0 x1 x2 x3 x4
           simp only [esC,esN,g0,g1,g2,g3,g4,Res.bind]
           exact z
theorem bP0 {α0 α1 α2 α3 α4:Type} {e0:α0→D} {e1:α1→D} {e2:α2→D} {e3:α3→D} {e4:α4→D} {m0 m1 m2 m3 m4:Mi.Env→Res D} {c0:σ→Res α0} {c1:σ→Res α1} {c2:σ→Res α2} {c3:σ→Res α3} {c4:σ→Res α4} {eR:γ→D} {fm:List D→Out D} {f:α0→α1→α2→α3→α4→OutC σ' γ} (hf:∀ x0 x1 x2 x3 x4,SimO rep' eR (fm [e0 x0,e1 x1,e2 x2,e3 x3,e4 x4]) (f x0 x1 x2 x3 x4)) (h0:EJ rep e0 m0 c0) (h1:EJ rep e1 m1 c1) (h2:EJ rep e2 m2 c2) (h3:EJ rep e3 m3 c3) (h4:EJ rep e4 m4 c4):EJ rep eR (pc fm (esC m0 (esC m1 (esC m2 (esC m3 (esC m4 esN)))))) (pc5C f c0 c1 c2 c3 c4):=row5 (k:=al5 fm) (f:=fun x0 x1 x2 x3 x4=>(f x0 x1 x2 x3 x4).res) (fun x0 x1 x2 x3 x4=>(hf x0 x1 x2 x3 x4).res) h0 h1 h2 h3 h4
end
section
variable {σ σ' α β γ δ:Type} {rep:σ→Mi.Env} {eR:β→D}
@[simp] noncomputable def upC (c:σ→Res α):σ→OutC σ α:=fun s=>match c s with
 | .ok a=> .ok a s
 | .exc x=> .exc x s
 | .bad=> .bad
theorem aa8 {e:α→γ} {m:Mi.Env→Res γ} {c:σ→Res α} (h:EJ rep e m c):NJ rep e (liP m) (upC c):=fun s=>by
 have h:=h s
 unfold upC liP
 cases q:c s with
 | ok a=>rw [q] at h; have h:m (rep s)= .ok (e a):=h; rw [h]; rfl
 | exc x=>rw [q] at h; have h:m (rep s)= .exc x:=h; rw [h]; rfl
 | bad=>trivial
@[simp] noncomputable def bdO (o:OutC σ α) (k:α→σ→OutC σ β):OutC σ β:=match o with
 | .ok a s=>k a s
 | .exc x s=> .exc x s
 | .bad=> .bad
theorem SimO.bd {e:α→γ} {e':β→δ} {r:Out γ} {q:OutC σ α} {k:γ→Mi.Env→Out δ} {l:α→σ→OutC σ β} (h:SimO rep e r q) (hk:∀ a s,SimO rep e' (k (e a) (rep s)) (l a s)):SimO rep e' (r.bind k) (bdO q l):=by
 cases q with
 | ok a s=>have h:r= .ok (e a) (rep s):=h; rw [h]; exact hk a s
 | exc x s=>have h:r= .exc x (rep s):=h; rw [h]; exact rfl
 | bad=>trivial
theorem SimO.ite {e:α→γ} {p:Prop} [Decidable p] {r r':Out γ} {q q':OutC σ α} (h:SimO rep e r q) (h':SimO rep e r' q'):SimO rep e (if p then r else r') (if p then q else q'):=by
 by_cases z:p
 · rw [if_pos z,if_pos z]; exact h
 · rw [if_neg z,if_neg z]; exact h'
theorem bL0 {m:Mi.Env→Out D} {c:σ→OutC σ Bool} (h:NJ rep D.bl m c):NJ rep (id:Bool→Bool) (tstM m) c:=fun s=>by
 have h:=h s
 unfold tstM
 cases q:c s with
 | ok a s1=>rw [q] at h; have h:m (rep s)= .ok (.bl a) (rep s1):=h; rw [h]; rfl
 | exc x s1=>rw [q] at h; have h:m (rep s)= .exc x (rep s1):=h; rw [h]; rfl
 | bad=>trivial
@[simp] noncomputable def bnMC (f:α→β→Res γ) (a:σ→OutC σ α) (b:σ→OutC σ β):σ→OutC σ γ:=fun s=>bdO (a s) fun x s=>bdO (b s) fun y s=>bndO (f x y) s fun z=> .ok z s
theorem nj_bn {e:α→D} {e1:β→D} {e2:γ→D} {F:D→D→Res D} {f:α→β→Res γ} {m n:Mi.Env→Out D} {c:σ→OutC σ α} {c':σ→OutC σ β} (h:∀ a b,SimR e2 (F (e a) (e1 b)) (f a b)) (h1:NJ rep e m c) (h2:NJ rep e1 n c'):NJ rep e2 (bnM F m n) (bnMC f c c'):=fun s=>(h1 s).bd fun a s=>(h2 s).bd fun b s=>by
 have:=h a b
 cases q:f a b with
 | ok z=>rw [q] at this; have this:F (e a) (e1 b)= .ok (e2 z):=this; rw [this]; rfl
 | exc x=>rw [q] at this; have this:F (e a) (e1 b)= .exc x:=this; rw [this]; rfl
 | bad=>trivial
@[simp] noncomputable def mvC (g:σ→Option α) (cl:σ→σ):σ→OutC σ α:=fun s=>match g s with | some a=> .ok a (cl s) | none=> .bad
theorem nj_mv {e:α→D} {i:Nat} {g:σ→Option α} {cl:σ→σ} (h:∀ s,rg (rep s) i=(g s).map e) (hc:∀ s,(rep s).set i none=rep (cl s)):NJ rep e (mvS i) (mvC g cl):=fun s=>by
 unfold mvS mvC
 rw [h s]
 cases g s with
 | none=>trivial
 | some a=>show Out.ok _ _=Out.ok _ _; rw [hc]
@[simp] noncomputable def l1C (g:σ→Option (List α)) (p:σ→List α→σ) (f:List α→δ→Option (γ×List α)) (c:σ→Res δ):σ→OutC σ γ:=fun s=>match g s with
 | none=> .bad
 | some xs=>bndO (c s) s fun x=>match f xs x with
   | some (r,ys)=> .ok r (p s ys)
   | none=> .bad
noncomputable def appC (xs:List α) (x:α):Option (Unit×List α):=if xs.length < ac0 then some ((),xs ++ [x]) else none
noncomputable def remC [DecidableEq α] (xs:List α) (x:α):Option (Unit×List α):=(xs.findIdx? fun y=>decide (y=x)).map fun j=>((),xs.eraseIdx j)
noncomputable def SimF {δ':Type} (e:α→D) (e1:δ→D) (e2:γ→D) (F:List D→D→Option (D×List D)) (f:List α→δ→Option (γ×List α)):Prop:=∀ xs x,match f xs x with
 | some (r,ys)=>F (xs.map e) (e1 x)=some (e2 r,ys.map e)
 | none=>True
theorem aE8 {e:α→γ}:∀ (xs:List α) (i:Nat),(xs.map e).eraseIdx i=(xs.eraseIdx i).map e
 | [],i=>by simp
 | x :: xs,0=>by simp
 | x :: xs,i + 1=>by rw [List.map_cons,List.eraseIdx_cons_succ,List.eraseIdx_cons_succ,List.map_cons,aE8 xs i]
theorem bO6 {e:α→D}:SimF (δ':=Unit) e e eN appF appC:=fun xs x=>by
 unfold appC appF
 rw [List.length_map]
 by_cases h:xs.length < ac0
 · rw [if_pos h,if_pos h]
   show some (D.non,xs.map e ++ [e x])=some (eN (),(xs ++ [x]).map e)
   rw [List.map_append]; rfl
 · rw [if_neg h]; trivial
theorem as7 {e:α→PyData} {p:PyData→Bool}:∀ xs:List α,(xs.map e).findIdx? p=xs.findIdx? fun x=>p (e x)
 | []=>rfl
 | x :: xs=>by rw [List.map_cons,List.findIdx?_cons,List.findIdx?_cons,as7 xs]
theorem f_rem {e:α→D} [DecidableEq α] (A:Dat e) (hd:A.dep≤64):SimF (δ':=Unit) e e eN remF remC:=fun xs x=>by
 have s1:((xs.map A.py).all SeqAt.shaped)=true:=by
  rw [List.all_map,List.all_eq_true]
  exact fun a _=>A.shp hd a
 unfold remC remF
 rw [A.h0,aq4 A.h0]
 dsimp only
 rw [if_pos ⟨A.shp hd x,s1⟩,as7]
 have ef:(fun y=>PyData.eqv (A.py y) (A.py x))=fun y=>decide (y=x):=funext fun y=>A.eqv y x
 rw [ef]
 cases xs.findIdx? fun y=>decide (y=x) with
 | none=>trivial
 | some j =>
   show some (D.non,(xs.map e).eraseIdx j)=some (eN (),(xs.eraseIdx j).map e)
   rw [aE8]; rfl
theorem bA3 {e:α→D} {e1:δ→D} {e2:γ→D} {get:Mi.Env→Option D} {set:Mi.Env→D→Mi.Env} {g:σ→Option (List α)} {p:σ→List α→σ} {F:List D→D→Option (D×List D)} {f:List α→δ→Option (γ×List α)} {m:Mi.Env→Res D} {c:σ→Res δ}
 (hg:∀ s,get (rep s)=(g s).map (eL e)) (hs:∀ s xs,set (rep s) (eL e xs)=rep (p s xs)) (hF:SimF (δ':=Unit) e e1 e2 F f) (h1:EJ rep e1 m c):NJ rep e2 (lst1 get set F m) (l1C g p f c):=fun s=>by
 have h1:=h1 s
 unfold lst1 l1C
 rw [hg]
 cases g s with
 | none=>trivial
 | some xs =>
   show SimO rep e2 (lstR set F (rep s) (xs.map e) (m (rep s))) (bndO (c s) s _)
   cases q:c s with
   | bad=>trivial
   | exc x=>rw [q] at h1; have h1:m (rep s)= .exc x:=h1; rw [h1]; rfl
   | ok x =>
     rw [q] at h1; have h1:m (rep s)= .ok (e1 x):=h1
     rw [h1]
     have:=hF xs x
     show SimO rep e2 (lstK set (rep s) (F (xs.map e) (e1 x))) (match f xs x with | some (r,ys)=>OutC.ok r (p s ys) | none=> .bad)
     cases q2:f xs x with
     | none=>trivial
     | some r =>
       rw [q2] at this
       obtain ⟨r,ys⟩:=r
       have this:F (xs.map e) (e1 x)=some (e2 r,ys.map e):=this
       rw [this]
       show Out.ok _ _=Out.ok _ _
       rw [← hs]; rfl
@[simp] noncomputable def bl5 (g:σ→Option (DI α)) (p:σ→DI α→σ) (ck:σ→Res (List Int)):σ→OutC σ α:=fun s=>match g s with
 | none=> .bad
 | some F=>bndO (ck s) s fun k=>match F.get k with
   | some x=> .ok x (p s (F.del k))
   | none=> .bad
theorem aY4 {e:α→D} {get:Mi.Env→Option D} {set:Mi.Env→D→Mi.Env} {g:σ→Option (DI α)} {p:σ→DI α→σ} {mk:Mi.Env→Res D} {ck:σ→Res (List Int)} (hg:∀ s,get (rep s)=(g s).map (encD e)) (hs:∀ s F,set (rep s) (encD e F)=rep (p s F)) (hk:EJ rep (eTs D.int) mk ck):NJ rep e (aS5 get set mk) (bl5 g p ck):=fun s=>by
 have hk:=hk s
 unfold aS5 bl5
 rw [hg]
 cases g s with
 | none=>trivial
 | some F =>
   show SimO rep e (bb7 set (encD e F) (rep s) (mk (rep s))) (bndO (ck s) s _)
   cases q:ck s with
   | bad=>trivial
   | exc x=>rw [q] at hk; have hk:mk (rep s)= .exc x:=hk; rw [hk]; rfl
   | ok k =>
     rw [q] at hk; have hk:mk (rep s)= .ok (.tup (k.map D.int)):=hk
     rw [hk]
     show SimO rep e (bb7 set (encD e F) (rep s) (.ok (.tup (k.map D.int)))) (match F.get k with | some x=>OutC.ok x (p s (F.del k)) | none=> .bad)
     cases q2:F.get k with
     | none=>trivial
     | some x =>
       unfold bb7
       dsimp only
       rw [bl3 q2]
       show Out.ok _ _=Out.ok _ _
       rw [hs]
end
section
variable {σ σ' α β γ δ:Type} {rep:σ→Mi.Env} {eR:β→D}
@[simp] noncomputable def bdS (o:OutC σ α) (k:α→σ→FlC σ β):FlC σ β:=match o with
 | .ok a s=>k a s
 | .exc x s=> .exc x s
 | .bad=> .bad
theorem SimS.bd {e:α→γ} {r:Out γ} {q:OutC σ α} {k:γ→Mi.Env→SO} {l:α→σ→FlC σ β} (h:SimO rep e r q) (hk:∀ a s,SimS rep eR (k (e a) (rep s)) (l a s)):SimS rep eR (ax1 r k) (bdS q l):=by
 cases q with
 | ok a s=>have h:r= .ok (e a) (rep s):=h; rw [h]; exact hk a s
 | exc x s=>have h:r= .exc x (rep s):=h; rw [h]; exact rfl
 | bad=>trivial
theorem SimS.ite {p:Prop} [Decidable p] {r r':SO} {q q':FlC σ β} (h:SimS rep eR r q) (h':SimS rep eR r' q'):SimS rep eR (if p then r else r') (if p then q else q'):=by
 by_cases z:p
 · rw [if_pos z,if_pos z]; exact h
 · rw [if_neg z,if_neg z]; exact h'
@[simp] noncomputable def seqC (a b:σ→FlC σ β):σ→FlC σ β:=fun s=>match a s with
 | .nx s'=>b s'
 | o=>o
theorem aa9 {a b:Mi.Env→SO} {c d:σ→FlC σ β} (h1:TJ rep eR a c) (h2:TJ rep eR b d):TJ rep eR (seqS a b) (seqC c d):=fun s=>by
 have h1:=h1 s
 unfold seqS seqC
 cases q:c s with
 | nx s'=>rw [q] at h1; have h1:a (rep s)= .nx (rep s'):=h1; rw [h1]; exact h2 s'
 | rt b s'=>rw [q] at h1; have h1:a (rep s)= .rt (eR b) (rep s'):=h1; rw [h1]; rfl
 | bk s'=>rw [q] at h1; have h1:a (rep s)= .bk (rep s'):=h1; rw [h1]; rfl
 | ct s'=>rw [q] at h1; have h1:a (rep s)= .ct (rep s'):=h1; rw [h1]; rfl
 | exc x s'=>rw [q] at h1; have h1:a (rep s)= .exc x (rep s'):=h1; rw [h1]; rfl
 | bad=>trivial
@[simp] noncomputable def af8:σ→FlC σ β:=fun s=> .nx s
theorem ac5:TJ rep eR ae7 af8:=fun s=>rfl
@[simp] noncomputable def retC (c:σ→OutC σ β):σ→FlC σ β:=fun s=>bdS (c s) fun b s=> .rt b s
theorem ac7 {m:Mi.Env→Out D} {c:σ→OutC σ β} (h:NJ rep eR m c):TJ rep eR (retS m) (retC c):=fun s=>SimS.bd (h s) fun b s=>rfl
@[simp] noncomputable def ai4 (c:σ→OutC σ α):σ→FlC σ β:=fun s=>bdS (c s) fun _ s=> .nx s
theorem ad9 {e:α→D} {m:Mi.Env→Out D} {c:σ→OutC σ α} (h:NJ rep e m c):TJ rep eR (ai3 m) (ai4 c):=fun s=>SimS.bd (h s) fun b s=>rfl
@[simp] noncomputable def setC (u:α→σ→σ) (c:σ→OutC σ α):σ→FlC σ β:=fun s=>bdS (c s) fun a s=> .nx (u a s)
theorem bG5 {e:α→D} {i:Nat} {m:Mi.Env→Out D} {c:σ→OutC σ α} {u:α→σ→σ} (hu:∀ a s,(rep s).set i (some (e a))=rep (u a s)) (h:NJ rep e m c):TJ rep eR (setS i m) (setC u c):=fun s=>SimS.bd (h s) fun a s=>by show SO.nx _=SO.nx _; rw [hu]
@[simp] noncomputable def ifC (t:σ→OutC σ Bool) (a b:σ→FlC σ β):σ→FlC σ β:=fun s=>bdS (t s) fun c s=>if c=true then a s else b s
theorem af7 {t:Mi.Env→Out Bool} {a b:Mi.Env→SO} {ct:σ→OutC σ Bool} {c d:σ→FlC σ β} (ht:NJ rep (id:Bool→Bool) t ct) (h1:TJ rep eR a c) (h2:TJ rep eR b d):TJ rep eR (ifS t a b) (ifC ct c d):=fun s=>SimS.bd (ht s) fun t s=>SimS.ite (h1 s) (h2 s)
noncomputable def forC (u:α→σ→σ) (body:σ→FlC σ β):List α→σ→FlC σ β
 | [],s=> .nx s
 | a :: r,s=>match body (u a s) with
   | .nx s'=>forC u body r s'
   | .ct s'=>forC u body r s'
   | .bk s'=> .nx s'
   | o=>o
theorem aH7 {e:α→D} {tgt:D→Mi.Env→Option Mi.Env} {body:Mi.Env→SO} {u:α→σ→σ} {c:σ→FlC σ β} (hu:∀ a s,tgt (e a) (rep s)=some (rep (u a s))) (h:TJ rep eR body c):∀ (xs:List α) (s:σ),SimS rep eR (forS tgt body (xs.map e) (rep s)) (forC u c xs s)
 | [],s=>rfl
 | a :: r,s=>by
   have hb:=h (u a s)
   rw [List.map_cons]
   unfold forS forC
   rw [hu]
   dsimp only
   cases q:c (u a s) with
   | nx s'=>rw [q] at hb; have hb:body (rep (u a s))= .nx (rep s'):=hb; rw [hb]; exact aH7 hu h r s'
   | ct s'=>rw [q] at hb; have hb:body (rep (u a s))= .ct (rep s'):=hb; rw [hb]; exact aH7 hu h r s'
   | bk s'=>rw [q] at hb; have hb:body (rep (u a s))= .bk (rep s'):=hb; rw [hb]; rfl
   | rt b s'=>rw [q] at hb; have hb:body (rep (u a s))= .rt (eR b) (rep s'):=hb; rw [hb]; rfl
   | exc x s'=>rw [q] at hb; have hb:body (rep (u a s))= .exc x (rep s'):=hb; rw [hb]; rfl
   | bad=>trivial
@[simp] noncomputable def aY7 (src:σ→Res (List α)) (u:α→σ→σ) (body:σ→FlC σ β):σ→FlC σ β:=fun s=>match src s with
 | .ok xs=>forC u body xs s
 | .exc x=> .exc x s
 | .bad=> .bad
theorem aG2 {e:α→D} {src:Mi.Env→Res (List D)} {csrc:σ→Res (List α)} {tgt:D→Mi.Env→Option Mi.Env} {body:Mi.Env→SO} {u:α→σ→σ} {c:σ→FlC σ β} (hs:EJ rep (List.map e) src csrc) (hu:∀ a s,tgt (e a) (rep s)=some (rep (u a s))) (h:TJ rep eR body c):TJ rep eR (aR9 (liP src) tgt body) (aY7 csrc u c):=fun s=>by
 have hs:=hs s
 unfold aR9 liP aY7
 cases q:csrc s with
 | ok xs=>rw [q] at hs; have hs:src (rep s)= .ok (xs.map e):=hs; rw [hs]; exact aH7 hu h xs s
 | exc x=>rw [q] at hs; have hs:src (rep s)= .exc x:=hs; rw [hs]; rfl
 | bad=>trivial
@[simp] noncomputable def bD9 (g:σ→Option (DI α)) (p:σ→DI α→σ) (ck:σ→Res (List Int)) (cv:σ→OutC σ α):σ→FlC σ β:=fun s=>bdS (cv s) fun x s=>match g s with
 | none=> .bad
 | some F=>(match ck s with
   | .ok k=>if F.length < ac0 then .nx (p s (F.put k x)) else .bad
   | .exc y=> .exc y s
   | .bad=> .bad)
theorem aT3 {e:α→D} {get:Mi.Env→Option D} {set:Mi.Env→D→Mi.Env} {g:σ→Option (DI α)} {p:σ→DI α→σ} {mk:Mi.Env→Res D} {ck:σ→Res (List Int)} {mv:Mi.Env→Out D} {cv:σ→OutC σ α} (hg:∀ s,get (rep s)=(g s).map (encD e)) (hs:∀ s F,set (rep s) (encD e F)=rep (p s F))
 (hk:EJ rep (eTs D.int) mk ck) (hv:NJ rep e mv cv):TJ rep eR (bl2 get set mk mv) (bD9 g p ck cv):=fun s=>SimS.bd (hv s) fun x s=>by
 have hk:=hk s
 rw [hg]
 cases g s with
 | none=>trivial
 | some F =>
   show SimS rep eR (bb5 set (e x) (encD e F) (rep s) (mk (rep s))) _
   dsimp only
   cases q:ck s with
   | bad=>trivial
   | exc y=>rw [q] at hk; have hk:mk (rep s)= .exc y:=hk; rw [hk]; rfl
   | ok k =>
     rw [q] at hk; have hk:mk (rep s)= .ok (.tup (k.map D.int)):=hk
     rw [hk]
     show SimS rep eR (bb5 set (e x) (encD e F) (rep s) (.ok (.tup (k.map D.int)))) (if F.length < ac0 then FlC.nx (p s (F.put k x)) else .bad)
     by_cases h:F.length < ac0
     · rw [if_pos h]
       unfold bb5
       dsimp only
       rw [bl1 h]
       show SO.nx _=SO.nx _
       rw [hs]
     · rw [if_neg h]; trivial
@[simp] noncomputable def runC (d:Option β):FlC σ β→OutC σ β
 | .nx s=>(match d with | some b=> .ok b s | none=> .bad)
 | .rt b s=> .ok b s
 | .exc x s=> .exc x s
 | _=> .bad
theorem ba9 {k:Nat} {ds:List D} {body:Mi.Env→SO} {c:σ→FlC σ β} {s:σ} {d:β} (hd:eR d= .non) (h:TJ rep eR body c) (hr:ds.map some ++ List.replicate (k - ds.length) none=rep s):SimO rep eR (Mi.run k body ds) (runC (some d) (c s)):=by
 have h:=h s
 unfold Mi.run
 rw [hr]
 cases q:c s with
 | nx s'=>rw [q] at h; have h:body (rep s)= .nx (rep s'):=h; rw [h]; show Out.ok .non _=Out.ok (eR d) _; rw [hd]
 | rt b s'=>rw [q] at h; have h:body (rep s)= .rt (eR b) (rep s'):=h; rw [h]; rfl
 | exc x s'=>rw [q] at h; have h:body (rep s)= .exc x (rep s'):=h; rw [h]; rfl
 | _=>trivial
theorem am9 {k:Nat} {ds:List D} {body:Mi.Env→SO} {c:σ→FlC σ β} {s:σ} (h:TJ rep eR body c) (hr:ds.map some ++ List.replicate (k - ds.length) none=rep s):SimO rep eR (Mi.run k body ds) (runC none (c s)):=by
 have h:=h s
 unfold Mi.run
 rw [hr]
 cases q:c s with
 | rt b s'=>rw [q] at h; have h:body (rep s)= .rt (eR b) (rep s'):=h; rw [h]; rfl
 | exc x s'=>rw [q] at h; have h:body (rep s)= .exc x (rep s'):=h; rw [h]; rfl
 | _=>trivial
theorem aE7 {k:Nat} {ds:List D} {body:Mi.Env→SO} {c:σ→FlC σ β} {s:σ} (h:TJ rep eR body c) (hr:ds.map some ++ List.replicate (k - ds.length) none=rep s):SimO rep eR (runO k body ds) (runC none (c s)):=by
 have h:=h s
 unfold runO
 rw [hr]
 cases q:c s with
 | rt b s'=>rw [q] at h; have h:body (rep s)= .rt (eR b) (rep s'):=h; rw [h]; rfl
 | exc x s'=>rw [q] at h; have h:body (rep s)= .exc x (rep s'):=h; rw [h]; rfl
 | _=>trivial
end
section
variable {σ α β:Type} {rep:σ→Mi.Env} {eR:β→D}
theorem xp {e:α→D} {i:Nat} {g:σ→α} (h:∀ s,rg (rep s) i=some (e (g s)):=by exact fun _=>rfl):EJ rep e (vr i) (pC g):=bP2 h
theorem xv {e:α→D} {i:Nat} {g:σ→Option α} (h:∀ s,rg (rep s) i=(g s).map e:=by exact fun _=>rfl):EJ rep e (vr i) (vC g):=bO7 h
theorem xk {e:α→D} {d:D} {a:α} (h:e a=d:=by rfl):EJ rep e (cst d) (kC a):=bq6 h
theorem xs {e:α→D} {i:Nat} {m:Mi.Env→Out D} {c:σ→OutC σ α} {u:α→σ→σ} (h:NJ rep e m c) (hu:∀ a s,(rep s).set i (some (e a))=rep (u a s):=by exact fun _ _=>rfl):TJ rep eR (setS i m) (setC u c):=bG5 hu h
end
section
variable {σ σ' α β γ δ τ:Type}
theorem aE6 {u:α→σ→σ} {c:σ→FlC σ β} (R:τ→σ→Prop) (step:τ→α→τ):∀ (l:List α) (b:τ) (s:σ),R b s →
 (∀ b a s,a∈l→R b s→∃ s',(c (u a s)= .nx s'∨c (u a s)= .ct s')∧R (step b a) s')→∃ s',forC u c l s= .nx s'∧R (l.foldl step b) s'
 | [],b,s,h,_=>⟨s,rfl,h⟩
 | a :: l,b,s,h,st=>by
   obtain ⟨s2,e2,h2⟩:=st b a s List.mem_cons_self h
   obtain ⟨s',e,h'⟩:=aE6 R step l (step b a) s2 h2 fun b c s hb=>st b c s (List.mem_cons_of_mem _ hb)
   refine ⟨s',?_,h'⟩
   unfold forC
   rcases e2 with e2 | e2 <;> (rw [e2]; exact e)
theorem aA2 {u:α→σ→σ} {c:σ→FlC σ β} (R:σ→Prop) (l:List α) (s:σ) (h:R s) (st:∀ a s,a∈l→R s→∃ s',(c (u a s)= .nx s'∨c (u a s)= .ct s')∧R s'):∃ s',forC u c l s= .nx s'∧R s':=by
 obtain ⟨s',e,h'⟩:=aE6 (τ:=Unit) (fun _ s=>R s) (fun _ _=>()) l () s h fun _ a s ha hs=>st a s ha hs
 exact ⟨s',e,h'⟩
theorem bk7 {u:α→σ→σ} {c:σ→FlC σ β} (R:List α→σ→Prop) (l:List α) (s:σ) (h:R [] s) (st:∀ p a r s,l=p ++ a :: r→R p s→∃ s',(c (u a s)= .nx s'∨c (u a s)= .ct s')∧R (p ++ [a]) s'):∃ s',forC u c l s= .nx s'∧R l s':=by
 have key:∀ (r p:List α) (s:σ),l=p ++ r→R p s→∃ s',forC u c r s= .nx s'∧R l s':=by
  intro r
  induction r with
  | nil=>intro p s e h; rw [List.append_nil] at e; exact ⟨s,rfl,by rw [e]; exact h⟩
  | cons a r ih =>
    intro p s e h
    obtain ⟨s2,e2,h2⟩:=st p a r s e h
    obtain ⟨s',e',h'⟩:=ih (p ++ [a]) s2 (by rw [e]; simp) h2
    refine ⟨s',?_,h'⟩
    unfold forC
    rcases e2 with e2 | e2 <;> (rw [e2]; exact e')
 exact key l [] s rfl h
theorem aF4 {ti:α→Res Bool} {te:α→Res β} (p:α→Bool) (g:α→β):∀ l:List α,(∀ a∈l,ti a= .ok (p a))→(∀ a∈l,p a=true→te a= .ok (g a))→aj7 ti te l= .ok ((l.filter p).map g)
 | [],_,_=>rfl
 | a :: l,h1,h2=>by
   have ih:=aF4 p g l (fun b hb=>h1 b (List.mem_cons_of_mem _ hb)) fun b hb=>h2 b (List.mem_cons_of_mem _ hb)
   unfold aj7
   rw [h1 a List.mem_cons_self]
   show (if p a=true then _ else _)=_
   cases hp:p a with
   | true =>
     rw [if_pos rfl,h2 a List.mem_cons_self hp,ih,List.filter_cons,if_pos hp]
     rfl
   | false=>rw [if_neg Bool.false_ne_true,ih,List.filter_cons,if_neg (by rw [hp]; exact Bool.false_ne_true)]
theorem be5 {src:σ→Res (List α)} {ti:α×σ→Res Bool} {te:α×σ→Res β} {s:σ} {l:List α} (p:α→Bool) (g:α→β) (hs:src s= .ok l) (hl:l.length < ac0) (h1:∀ a∈l,ti (a,s)= .ok (p a)) (h2:∀ a∈l,p a=true→te (a,s)= .ok (g a)) :
 aM1 src ti te s= .ok ((l.filter p).map g):=by
 unfold aM1
 rw [hs]
 show (if l.length < ac0 then _ else _)=_
 rw [if_pos hl]
 exact aF4 p g l h1 h2
theorem bQ4 (xs:List α) {i:Int} (h:0≤i):atI xs i=xs[i.toNat]?:=by
 unfold atI ixN
 rw [if_pos h]
 by_cases z:i < xs.length
 · rw [if_pos z]; rfl
 · rw [if_neg z,List.getElem?_eq_none (by omega)]; rfl
theorem az5 (lo hi:Int):(rngI lo hi).length=(hi - lo).toNat:=by unfold rngI; simp
theorem bj0 {lo hi x:Int}:x∈rngI lo hi↔lo≤x∧x < hi:=by
 unfold rngI
 rw [List.mem_map]
 constructor
 · rintro ⟨i,hi',rfl⟩
   have:=List.mem_range.mp hi'
   omega
 · rintro ⟨h1,h2⟩
   exact ⟨(x - lo).toNat,List.mem_range.mpr (by omega),by omega⟩
theorem aH9 {F:DI β} {k:List Int} {v:β}:(F.put k v).length≤F.length + 1:=by
 unfold DI.put
 split
 · rw [List.length_map]; omega
 · rw [List.length_append]; simp
theorem bb9 {F:DI β} {k:List Int}:(F.del k).length≤F.length:=List.length_filter_le _ _
noncomputable def DI.nd (F:DI β):Prop:=(F.map (·.1)).Nodup
end
section
variable {σ α β γ δ:Type} {rep:σ→Mi.Env} {eR:β→D}
noncomputable def ak8 (c:Nat):σ→FlC σ β:=fun s=> .exc c s
theorem aq0 {c:Nat}:TJ rep eR (ak7 c) (ak8 c):=fun s=>rfl
noncomputable def finC (free:σ→Bool):FlC σ β→FlC σ β
 | .nx s=>if free s=true then .nx s else .bad
 | _=> .bad
noncomputable def tryC (free:σ→Bool) (cat:Nat→Bool) (cb:σ→FlC σ β) (ch:Nat→σ→FlC σ β):σ→FlC σ β:=fun s=>match cb s with
 | .exc c s'=>if cat c=true∧free s'=true then finC free (ch c s') else .bad
 | .nx s'=> .nx s'
 | _=> .bad
theorem bm6 {j:Option Nat} {cat:Nat→Bool} {mb:Mi.Env→SO} {mh:Nat→Mi.Env→SO} {cb:σ→FlC σ β} {ch:Nat→σ→FlC σ β} (hb:TJ rep eR mb cb) (hh:∀ c,TJ rep eR (mh c) (ch c)) :
 TJ rep eR (tryS j cat mb mh) (tryC (fun s=>ap0 (rep s) j) cat cb ch):=fun s=>by
 have h:=hb s
 unfold tryS tryC
 cases q:cb s with
 | nx s'=>rw [q] at h; have h:mb (rep s)= .nx (rep s'):=h; rw [h]; exact rfl
 | exc c s' =>
   rw [q] at h; have h:mb (rep s)= .exc c (rep s'):=h; rw [h]
   refine SimS.ite ?_ trivial
   have h2:=hh c s'
   cases q2:ch c s' with
   | nx s1=>rw [q2] at h2; have h2:mh c (rep s')= .nx (rep s1):=h2; rw [h2]; exact SimS.ite rfl trivial
   | rt b s'=>trivial
   | bk s'=>trivial
   | ct s'=>trivial
   | exc x s'=>trivial
   | bad=>trivial
 | rt b s'=>trivial
 | bk s'=>trivial
 | ct s'=>trivial
 | bad=>trivial
end
end Cl
namespace Gd
open PySem L2
theorem aC0:bootBuiltins "ValueError" = some (.type "ValueError"):=by decide +kernel
end Gd
namespace L2
open PySem PySem.Spec PyProof.Rows
theorem bg6 {X:Cx} (K:PySem.W.Frag) (h:X.K=K):SlR X (rSlL K):=by subst h; exact by1
end L2
namespace Mi
open PySem L2
noncomputable def bD7:D→D→Res D
 | .lst xs,.int k=>if 0≤k then .ok (.lst (xs.drop k.toNat)) else .bad
 | .scr xs,.int k=>if 0≤k then .ok (.lst (xs.drop k.toNat)) else .bad
 | _,_=> .bad
theorem aQ1 {k:Int} (h:0≤k) (xs:List V):cutV xs (some k) none=xs.drop k.toNat:=by
 unfold cutV
 have e:HT.sIx xs.length 0 (some k)=min k.toNat xs.length:=by show (if k < 0 then _ else _)=_; rw [if_neg (by omega)]
 rw [e,HT.bh3]
 by_cases z:k.toNat≤xs.length
 · rw [Nat.min_eq_left z,List.take_of_length_le (by rw [List.length_drop]; omega)]
 · rw [Nat.min_eq_right (by omega),Nat.sub_self,List.take_zero,List.drop_eq_nil_of_le (by omega)]
section
variable {cm:Cm} {E:XK} {ms:List Md} {Kr:KT D V} {pr:Nat→Bool}
theorem bJ6 {ta tb:TE} {ma mb:Env→Res D} (ha:PJ cm (KC cm .F) E ms ta ma) (hb:PJ cm (KR cm .X) E ms tb mb):PJ cm (KO cm (.ct .fz)) E ms (tSl (rSlL cm.K) ta (bG6 tb) aT5) (bn bD7 ma mb):=by
 intro B U As σ H ρ Q R P
 refine ha.bnd R P fun x v B1 U1 H1 N1 _ R1 e1 n1 d1 P1=>hb.bnd R1 P1 fun y u B2 U2 H2 N2 _ R2 e2 n2 d2 P2=>?_
 have d1:Cn cm B1 H1 x v:=d1
 have d2:Dn cm H2 y u:=d2
 cases y with
 | int k =>
   rw [Dn] at d2
   subst d2
   refine ⟨k,rfl,?_⟩
   cases x with
   | lst ds =>
     obtain ⟨a,xs,rfl,h1,h2⟩:=d1
     replace P2:Po cm (KO cm (.ct .fz)) E ms B2 U2 As σ H2 ρ (if 0≤k then .ok (.lst (ds.drop k.toNat)) else .bad) Q:=P2
     by_cases z:0≤k
     · rw [if_pos z] at P2
       refine ⟨a,xs,rfl,SqL.of (e2.h _ _ h1),fun p hp=>?_⟩
       rw [aQ1 z]
       exact az2 R2 P2 ((h2.mono e2.b).drop _) hp
     · rw [if_neg z] at P2; exact P2.elim
   | scr ds =>
     obtain ⟨a,xs,rfl,h1,h2⟩:=d1
     replace P2:Po cm (KO cm (.ct .fz)) E ms B2 U2 As σ H2 ρ (if 0≤k then .ok (.lst (ds.drop k.toNat)) else .bad) Q:=P2
     by_cases z:0≤k
     · rw [if_pos z] at P2
       refine ⟨a,xs,rfl,(h1.mono e2.h).sq,fun p hp=>?_⟩
       rw [aQ1 z]
       exact az2 R2 P2 ((h2.mono e2.b).drop _) hp
     · rw [if_neg z] at P2; exact P2.elim
   | _=>exact P2.elim
 | _=>cases x <;> exact P2.elim
open Classical in
noncomputable def forO (i:Nat) (ds0:List D) (tgt:D→Env→Option Env) (body:Env→SO):List D→Env→SO
 | [],ρ=>if rg ρ i=some (.lst ds0) then .nx ρ else .bad
 | d :: ds,ρ=>if rg ρ i=some (.lst ds0) then (match tgt d ρ with
   | none=> .bad
   | some ρ1=>match body ρ1 with
     | .nx ρ'=>forO i ds0 tgt body ds ρ'
     | .ct ρ'=>forO i ds0 tgt body ds ρ'
     | .bk ρ'=> .nx ρ'
     | o=>o) else .bad
noncomputable def aY6 (i:Nat) (tgt:D→Env→Option Env) (body:Env→SO):Env→SO:=fun ρ=>match rg ρ i with
 | some (.lst ds)=>forO i ds tgt body ds ρ
 | _=> .bad
theorem Kp.weak {pr pr':Nat→Bool} {σ σ':St} (k:Kp pr' σ σ') (h:∀ j,pr j=true→pr' j=true):Kp pr σ σ':=fun j hj=>k j (h j hj)
theorem bI0 {i:Nat} {g:TG} {tb:TS} {tg:D→Env→Option Env} {body:Env→SO} (hm:ms.getD i .F= .O (.ct .fz)) (hg:TJ cm .F (fun j=>pr j || decide (j=i)) ms g tg) (hb:SJ cm E Kr (fun j=>pr j || decide (j=i)) ms tb body) :
 SJ cm E Kr pr ms (tFor (aZ8 cm.K (tVar i)) g tb) (aY6 i tg body):=by
 intro B U As σ H ρ Dn' R P
 unfold aY6 at P
 have read:∀ {B U H:Hp} {As:Nat→List Addr} {σ:St} {ρ:Env} {ds:List D},Rel cm ms B U As σ H ρ→rg ρ i=some (.lst ds)→∃ a xs,rg σ i=some (.ref a)∧H a=some (.lst xs)∧Dns cm B ds xs:=fun {B U H As σ ρ ds} R e=>by
  have l:=R.lo i
  rw [e,hm] at l
  obtain ⟨v,hv,l⟩:=l
  obtain ⟨a,xs,rfl,h1,h2⟩:=Ow.cn (cm:=cm) R.bh (show Ow cm B H (.lst ds) (.ct .fz) v (As i) from l)
  exact ⟨a,xs,hv,h1,h2⟩
 have up:∀ j,pr j=true→(pr j || decide (j=i))=true:=fun j h=>by rw [h]; rfl
 have uw:∀ {σ σ':St},Kp (fun j=>pr j || decide (j=i)) σ σ'→Kp pr σ σ':=fun k=>Kp.weak k up
 cases e:rg ρ i with
 | none=>rw [e] at P; exact P.elim
 | some d0 =>
   rw [e] at P
   cases d0 with
   | lst ds =>
     obtain ⟨a,xs,hv,h1,h2⟩:=read R e
     refine ⟨.ref a,ai8 hv,a,rfl,⟨xs,SqL.of h1⟩,?_⟩
     refine ⟨fun n m σ' H'=>n≤ds.length∧m=ds.length - n∧∃ B2 U2 As2 ρ2,Rel cm ms B2 U2 As2 σ' H' ρ2∧Ex B U B2 U2∧Kp (fun j=>pr j || decide (j=i)) σ σ'∧So cm E Kr pr ms B U σ (forO i ds tg body (ds.drop n) ρ2) Dn',⟨_,Nat.zero_le _,rfl,B,U,As,ρ,R,Ex.refl _ _,Kp.refl _ _,P⟩,?_⟩
     rintro n m σ' H' ⟨hi,rfl,B2,U2,As2,ρ2,R2,e2,k2,P2⟩
     have hd:rg ρ2 i=some (.lst ds):=by
      cases hdr:ds.drop n with
      | nil=>rw [hdr,forO] at P2; split at P2; assumption; exact P2.elim
      | cons d r=>rw [hdr,forO] at P2; split at P2; assumption; exact P2.elim
     obtain ⟨a2,xs2,hv2,h12,h22⟩:=read R2 hd
     have:a2=a:=by
      have:=k2 i (by simp)
      rw [hv,hv2] at this
      cases this
      rfl
     subst this
     have hl:=h22.len
     have sq:SqL cm.K H' a2 xs2:=SqL.of h12
     by_cases hlt:n < ds.length
     · obtain ⟨x,ex⟩:∃ x,xs2[n]?=some x:=⟨_,List.getElem?_eq_getElem (by omega)⟩
       refine .inr ⟨⟨xs2,x,sq,ex⟩,fun σ'' H''=>n + 1≤ds.length∧∃ B2 U2 As2 ρ2,Rel cm ms B2 U2 As2 σ'' H'' ρ2∧Ex B U B2 U2∧Kp (fun j=>pr j || decide (j=i)) σ σ''∧So cm E Kr pr ms B U σ (forO i ds tg body (ds.drop (n + 1)) ρ2) Dn',fun σ'' H'' ⟨h1,h2⟩=>⟨ds.length - (n + 1),by omega,h1,rfl,h2⟩,fun y Hx hy=>?_⟩
       obtain ⟨rfl,ev⟩:=hy
       have ev:=ev xs2 sq
       obtain ⟨d,ed,dd⟩:=h22.geti ev
       rw [at1 ed,forO,if_pos hd] at P2
       cases et:tg d ρ2 with
       | none=>rw [et] at P2; exact P2.elim
       | some ρ3 =>
         rw [et] at P2
         refine hg B2 U2 As2 σ' Hx ρ2 d y ρ3 _ R2 dd et fun σ3 As3 R3 k3=>?_
         refine hb B2 U2 As3 σ3 Hx ρ3 _ R3 ?_
         dsimp only at P2
         cases eb:body ρ3 with
         | nx ρ4 =>
           rw [eb] at P2
           exact fun σ4 B4 U4 As4 H4 R4 e4 k4=>⟨hlt,B4,U4,As4,ρ4,R4,e2.trans e4,(k2.trans k3).trans k4,P2⟩
         | ct ρ4 =>
           rw [eb] at P2
           exact fun σ4 B4 U4 As4 H4 R4 e4 k4=>⟨hlt,B4,U4,As4,ρ4,R4,e2.trans e4,(k2.trans k3).trans k4,P2⟩
         | bk ρ4 =>
           rw [eb] at P2
           exact fun σ4 B4 U4 As4 H4 R4 e4 k4=>P2 σ4 B4 U4 As4 H4 R4 (e2.trans e4) (uw ((k2.trans k3).trans k4))
         | rt d ρ4 =>
           rw [eb] at P2
           exact fun v σ4 B4 U4 As4 H4 N R4 e4 k4=>P2 v σ4 B4 U4 As4 H4 N R4 (e2.trans e4) (uw ((k2.trans k3).trans k4))
         | exc c ρ4 =>
           rw [eb] at P2
           exact fun σ4 B4 U4 As4 H4 R4 e4 k4=>P2 σ4 B4 U4 As4 H4 R4 (e2.trans e4) (uw ((k2.trans k3).trans k4))
         | bad=>rw [eb] at P2; exact P2.elim
     · have en:n=ds.length:=by omega
       subst en
       rw [List.drop_length,forO,if_pos hd] at P2
       exact .inl ⟨⟨xs2,sq,by omega⟩,P2 σ' B2 U2 As2 H' R2 e2 (uw k2)⟩
   | _=>exact P.elim
end
end Mi
namespace Cl
open PySem L2 Mi
section
variable {σ α β γ δ:Type} {rep:σ→Mi.Env} {eR:β→D}
@[simp] noncomputable def bP6 (xs:List α) (k:Int):Res (List α):=if 0≤k then .ok (xs.drop k.toNat) else .bad
theorem bA2 (xs:List Int) (k:Int):SimR (eL D.int) (bD7 (eS xs) (.int k)) (bP6 xs k):=by
 show SimR (eL D.int) (if 0≤k then .ok (.lst ((xs.map D.int).drop k.toNat)) else .bad) (if 0≤k then .ok (xs.drop k.toNat) else .bad)
 rw [← List.map_drop]
 exact SimR.ite rfl trivial
open Classical in
noncomputable def aA1 (g:σ→Option (List α)) (l0:List α) (u:α→σ→σ) (body:σ→FlC σ β):List α→σ→FlC σ β
 | [],s=>if g s=some l0 then .nx s else .bad
 | a :: r,s=>if g s=some l0 then (match body (u a s) with
   | .nx s'=>aA1 g l0 u body r s'
   | .ct s'=>aA1 g l0 u body r s'
   | .bk s'=> .nx s'
   | o=>o) else .bad
noncomputable def aO7 (g:σ→Option (List α)) (u:α→σ→σ) (body:σ→FlC σ β):σ→FlC σ β:=fun s=>match g s with
 | some l=>aA1 g l u body l s
 | none=> .bad
theorem ay5 {e:α→D} {i:Nat} {g:σ→Option (List α)} {tgt:D→Mi.Env→Option Mi.Env} {body:Mi.Env→SO} {u:α→σ→σ} {c:σ→FlC σ β} (hg:∀ s,rg (rep s) i=(g s).map (eL e)) (hu:∀ a s,tgt (e a) (rep s)=some (rep (u a s))) (h:TJ rep eR body c) (l0:List α) :
 ∀ (xs:List α) (s:σ),SimS rep eR (forO i (l0.map e) tgt body (xs.map e) (rep s)) (aA1 g l0 u c xs s)
 | [],s=>by
   rw [List.map_nil,forO,aA1]
   by_cases z:g s=some l0
   · rw [if_pos z,if_pos (by rw [hg,z]; rfl)]; exact rfl
   · rw [if_neg z]; trivial
 | a :: r,s=>by
   rw [List.map_cons,forO,aA1]
   by_cases z:g s=some l0
   · rw [if_pos z,if_pos (by rw [hg,z]; rfl),hu a s]
     have h:=h (u a s)
     dsimp only
     cases q:c (u a s) with
     | nx s'=>rw [q] at h; have h:body (rep (u a s))= .nx (rep s'):=h; rw [h]; exact ay5 hg hu ‹_› l0 r s'
     | ct s'=>rw [q] at h; have h:body (rep (u a s))= .ct (rep s'):=h; rw [h]; exact ay5 hg hu ‹_› l0 r s'
     | bk s'=>rw [q] at h; have h:body (rep (u a s))= .bk (rep s'):=h; rw [h]; exact rfl
     | rt b s'=>rw [q] at h; have h:body (rep (u a s))= .rt (eR b) (rep s'):=h; rw [h]; exact rfl
     | exc x s'=>rw [q] at h; have h:body (rep (u a s))= .exc x (rep s'):=h; rw [h]; exact rfl
     | bad=>trivial
   · rw [if_neg z]; trivial
theorem bf9 {e:α→D} {i:Nat} {g:σ→Option (List α)} {tgt:D→Mi.Env→Option Mi.Env} {body:Mi.Env→SO} {u:α→σ→σ} {c:σ→FlC σ β} (hg:∀ s,rg (rep s) i=(g s).map (eL e)) (hu:∀ a s,tgt (e a) (rep s)=some (rep (u a s))) (h:TJ rep eR body c) :
 TJ rep eR (aY6 i tgt body) (aO7 g u c):=fun s=>by
 unfold aY6 aO7
 rw [hg s]
 cases q:g s with
 | none=>trivial
 | some l=>exact ay5 hg hu h l l s
theorem aA0 {g:σ→Option (List α)} {l0:List α} {u:α→σ→σ} {body:σ→FlC σ β} (R:σ→Prop) (hg:∀ s,R s→g s=some l0) (hb:∀ a s,R s→∀ s',body (u a s)= .nx s'∨body (u a s)= .ct s'→R s'):∀ (xs:List α) (s:σ),R s→aA1 g l0 u body xs s=forC u body xs s
 | [],s,h=>by rw [aA1,forC,if_pos (hg s h)]
 | a :: r,s,h=>by
   rw [aA1,forC,if_pos (hg s h)]
   cases q:body (u a s) with
   | nx s'=>exact aA0 R hg hb r s' (hb a s h s' (.inl q))
   | ct s'=>exact aA0 R hg hb r s' (hb a s h s' (.inr q))
   | _=>rfl
end
end Cl
set_option genInjectivity false
set_option genSizeOf false
open PySem L2 in
theorem L2.Room.mm {j k:Nat} {A:Around} (r:Room k A) (h:j≤k:=by decide):Room j A:=r.mono h
namespace K01
open PySem L2
noncomputable def top (i:Nat):Stmt:=PySem.Challenge.pw_heraldways_k01_ways_laid.main.body.getD i (.Pass ⟨0,0,0,0⟩)
noncomputable abbrev s_a9:Stmt:=ah6 (top 10) 0
noncomputable abbrev s_c9:Stmt:=ah6 (top 10) 13
noncomputable abbrev s_i9:Stmt:=ah6 (top 10) 1
noncomputable abbrev s_k9:Stmt:=top 12
noncomputable abbrev s_m9:Stmt:=top 15
noncomputable abbrev s_o9:Stmt:=top 17
noncomputable abbrev s_q9:Stmt:=top 14
noncomputable abbrev s_s9:Stmt:=top 13
noncomputable abbrev s_t9:Stmt:=top 9
noncomputable abbrev s_g9:Stmt:=ah6 (top 10) 16
noncomputable abbrev s_b9:Stmt:=ah6 (top 10) 3
noncomputable abbrev s_f9:Stmt:=ah6 (top 10) 2
noncomputable abbrev s_h9:Stmt:=ah6 (top 10) 17
noncomputable abbrev s_p9:Stmt:=top 20
noncomputable abbrev s_d9:Stmt:=ah6 (top 10) 4
noncomputable abbrev s_e9:Stmt:=ah6 (top 10) 5
noncomputable abbrev s_r9:Stmt:=top 18
noncomputable abbrev s_l9:Stmt:=top 16
noncomputable abbrev s_n9:Stmt:=top 19
noncomputable abbrev s_j9:Stmt:=top 21
theorem sc_a9:FnScope ["self", "size"] ["self", "size"] (aa6 s_a9):=by constructor <;> first | rfl | decide +kernel
theorem sc_c9:FnScope ["self", "pairs", "a"] ["self", "pairs", "a"] (aa6 s_c9):=by constructor <;> first | rfl | decide +kernel
theorem sc_i9:FnScope ["self"] ["self"] (aa6 s_i9):=by constructor <;> first | rfl | decide +kernel
theorem sc_k9:FnScope ["script", "k"] ["script", "k"] (aa6 s_k9):=by constructor <;> first | rfl | decide +kernel
theorem bH7:FnScope ["ways", "size", "kind", "a", "b", "there"] ["ways", "size", "kind", "a", "b"] (aa6 s_m9):=by constructor <;> first | rfl | decide +kernel
theorem sc_o9:FnScope ["due"] ["due"] (aa6 s_o9):=by constructor <;> first | rfl | decide +kernel
theorem sc_q9:FnScope ["ways", "size", "a"] ["ways", "size", "a"] (aa6 s_q9):=by constructor <;> first | rfl | decide +kernel
theorem sc_s9:FnScope ["found"] ["found"] (aa6 s_s9):=by constructor <;> first | rfl | decide +kernel
theorem sc_t9:FnScope ["houses", "count"] ["houses", "count"] (aa6 s_t9):=by constructor <;> first | rfl | decide +kernel
theorem sc_g9:FnScope ["self", "houses"] ["self", "houses"] (aa6 s_g9):=by constructor <;> first | rfl | decide +kernel
theorem sc_b9:FnScope ["self", "a", "b"] ["self", "a", "b"] (aa6 s_b9):=by constructor <;> first | rfl | decide +kernel
theorem sc_f9:FnScope ["self", "a"] ["self", "a"] (aa6 s_f9):=by constructor <;> first | rfl | decide +kernel
theorem sc_h9:FnScope ["self", "a", "b"] ["self", "a", "b"] (aa6 s_h9):=by constructor <;> first | rfl | decide +kernel
theorem bg8:FnScope ["size", "refused", "e"] ["size"] (aa6 s_p9):=by constructor <;> first | rfl | decide +kernel
theorem sc_d9:FnScope ["self", "a", "b"] ["self", "a", "b"] (aa6 s_d9):=by constructor <;> first | rfl | decide +kernel
theorem sc_e9:FnScope ["self", "a", "b"] ["self", "a", "b"] (aa6 s_e9):=by constructor <;> first | rfl | decide +kernel
theorem aV8:FnScope ["guild", "ways", "size", "a", "found", "due", "b", "good"] ["guild", "ways", "size", "a"] (aa6 s_r9):=by constructor <;> first | rfl | decide +kernel
theorem bh0:FnScope ["guild", "kind", "a", "b", "marks", "e"] ["guild", "kind", "a", "b"] (aa6 s_l9):=by constructor <;> first | rfl | decide +kernel
theorem bg9:FnScope ["guild", "ways", "size", "cell", "a", "b", "found"] ["guild", "ways", "size", "cell"] (aa6 s_n9):=by constructor <;> first | rfl | decide +kernel
theorem ap4:FnScope ["script", "first", "many", "size", "guild", "ways", "cell", "a", "b", "due", "found"] ["script"] (aa6 s_j9):=by constructor <;> first | rfl | decide +kernel
structure Adr where
 C_Guild:Addr
 C_GuildError:Addr
 C_NoHouse:Addr
 C_NoWay:Addr
 C_WayThere:Addr
 f_a9:Addr
 d_a9:FuncData
 f_c9:Addr
 d_c9:FuncData
 f_i9:Addr
 d_i9:FuncData
 f_k9:Addr
 d_k9:FuncData
 f_m9:Addr
 d_m9:FuncData
 f_o9:Addr
 d_o9:FuncData
 f_q9:Addr
 d_q9:FuncData
 f_s9:Addr
 d_s9:FuncData
 f_t9:Addr
 d_t9:FuncData
 f_g9:Addr
 d_g9:FuncData
 f_b9:Addr
 d_b9:FuncData
 f_f9:Addr
 d_f9:FuncData
 f_h9:Addr
 d_h9:FuncData
 f_p9:Addr
 d_p9:FuncData
 f_d9:Addr
 d_d9:FuncData
 f_e9:Addr
 d_e9:FuncData
 f_r9:Addr
 d_r9:FuncData
 f_l9:Addr
 d_l9:FuncData
 f_n9:Addr
 d_n9:FuncData
 f_j9:Addr
 d_j9:FuncData
structure Txt (K:PySem.W.Frag) (mg:Str→Option Value) (a:Adr) (base:Heap):Prop where
 cl_Guild:Cls K a.C_Guild
 mgC_Guild:mg "Guild" = some (.ref a.C_Guild)
 mk_Guild:Mk K a.C_Guild a.f_a9
 n_house_count:NoAttr K a.C_Guild "house_count"
 n_ways:NoAttr K a.C_Guild "ways"
 n_likings:NoAttr K a.C_Guild "likings"
 n_shuns:NoAttr K a.C_Guild "shuns"
 n_wish_ranks:NoAttr K a.C_Guild "wish_ranks"
 mgC_GuildError:mg "GuildError" = some (.ref a.C_GuildError)
 ek_GuildError:excK K a.C_GuildError=true
 xa_GuildError:PySem.W.excAt K a.C_GuildError=true
 mgC_NoHouse:mg "NoHouse" = some (.ref a.C_NoHouse)
 ek_NoHouse:excK K a.C_NoHouse=true
 xa_NoHouse:PySem.W.excAt K a.C_NoHouse=true
 mgC_NoWay:mg "NoWay" = some (.ref a.C_NoWay)
 ek_NoWay:excK K a.C_NoWay=true
 xa_NoWay:PySem.W.excAt K a.C_NoWay=true
 mgC_WayThere:mg "WayThere" = some (.ref a.C_WayThere)
 ek_WayThere:excK K a.C_WayThere=true
 xa_WayThere:PySem.W.excAt K a.C_WayThere=true
 sb_NoHouse_NoHouse:(mroK K a.C_NoHouse).contains (.ref a.C_NoHouse)=true
 sb_GuildError_GuildError:(mroK K a.C_GuildError).contains (.ref a.C_GuildError)=true
 sb_NoHouse_GuildError:(mroK K a.C_NoHouse).contains (.ref a.C_GuildError)=true
 sb_NoWay_GuildError:(mroK K a.C_NoWay).contains (.ref a.C_GuildError)=true
 sb_WayThere_GuildError:(mroK K a.C_WayThere).contains (.ref a.C_GuildError)=true
 kt_NoHouse_GuildError:PySem.W.kitOne K (.ref a.C_NoHouse) (.ref a.C_GuildError)=some true
 kt_GuildError_NoHouse:PySem.W.kitOne K (.ref a.C_GuildError) (.ref a.C_NoHouse)=some false
 kt_GuildError_WayThere:PySem.W.kitOne K (.ref a.C_GuildError) (.ref a.C_WayThere)=some false
 kt_GuildError_NoWay:PySem.W.kitOne K (.ref a.C_GuildError) (.ref a.C_NoWay)=some false
 kt_GuildError_ValueError:PySem.W.kitOne K (.ref a.C_GuildError) (.type "ValueError")=some true
 kt_NoHouse_NoHouse:PySem.W.kitOne K (.ref a.C_NoHouse) (.ref a.C_NoHouse)=some true
 kt_NoHouse_WayThere:PySem.W.kitOne K (.ref a.C_NoHouse) (.ref a.C_WayThere)=some false
 kt_NoHouse_NoWay:PySem.W.kitOne K (.ref a.C_NoHouse) (.ref a.C_NoWay)=some false
 kt_NoHouse_ValueError:PySem.W.kitOne K (.ref a.C_NoHouse) (.type "ValueError")=some true
 kt_NoWay_NoHouse:PySem.W.kitOne K (.ref a.C_NoWay) (.ref a.C_NoHouse)=some false
 kt_NoWay_WayThere:PySem.W.kitOne K (.ref a.C_NoWay) (.ref a.C_WayThere)=some false
 kt_NoWay_NoWay:PySem.W.kitOne K (.ref a.C_NoWay) (.ref a.C_NoWay)=some true
 kt_NoWay_ValueError:PySem.W.kitOne K (.ref a.C_NoWay) (.type "ValueError")=some true
 kt_WayThere_NoHouse:PySem.W.kitOne K (.ref a.C_WayThere) (.ref a.C_NoHouse)=some false
 kt_WayThere_WayThere:PySem.W.kitOne K (.ref a.C_WayThere) (.ref a.C_WayThere)=some true
 kt_WayThere_NoWay:PySem.W.kitOne K (.ref a.C_WayThere) (.ref a.C_NoWay)=some false
 kt_WayThere_ValueError:PySem.W.kitOne K (.ref a.C_WayThere) (.type "ValueError")=some true
 F_a9:Fun K "__init__" "Guild.__init__" s_a9 a.f_a9 a.d_a9
 b_a9:Binds K a.d_a9 ["self", "size"] []
 F_c9:Fun K "houses_paired" "Guild.houses_paired" s_c9 a.f_c9 a.d_c9
 b_c9:Binds K a.d_c9 ["self", "pairs", "a"] []
 me_c9:Meth K a.C_Guild "houses_paired" a.f_c9
 F_i9:Fun K "size" "Guild.size" s_i9 a.f_i9 a.d_i9
 b_i9:Binds K a.d_i9 ["self"] []
 me_i9:Meth K a.C_Guild "size" a.f_i9
 F_k9:Fun K "_law_cell_at" "_law_cell_at" s_k9 a.f_k9 a.d_k9
 b_k9:Binds K a.d_k9 ["script", "k"] []
 m_k9:mg "_law_cell_at" = some (.ref a.f_k9)
 kp_k9:PySem.W.keepIn K (.ref a.f_k9)=true
 F_m9:Fun K "_law_due" "_law_due" s_m9 a.f_m9 a.d_m9
 b_m9:Binds K a.d_m9 ["ways", "size", "kind", "a", "b"] []
 m_m9:mg "_law_due" = some (.ref a.f_m9)
 kp_m9:PySem.W.keepIn K (.ref a.f_m9)=true
 F_o9:Fun K "_law_marks" "_law_marks" s_o9 a.f_o9 a.d_o9
 b_o9:Binds K a.d_o9 ["due"] []
 m_o9:mg "_law_marks" = some (.ref a.f_o9)
 kp_o9:PySem.W.keepIn K (.ref a.f_o9)=true
 F_q9:Fun K "_law_ties" "_law_ties" s_q9 a.f_q9 a.d_q9
 b_q9:Binds K a.d_q9 ["ways", "size", "a"] []
 m_q9:mg "_law_ties" = some (.ref a.f_q9)
 kp_q9:PySem.W.keepIn K (.ref a.f_q9)=true
 F_s9:Fun K "_law_whole" "_law_whole" s_s9 a.f_s9 a.d_s9
 b_s9:Binds K a.d_s9 ["found"] []
 m_s9:mg "_law_whole" = some (.ref a.f_s9)
 kp_s9:PySem.W.keepIn K (.ref a.f_s9)=true
 F_t9:Fun K "require_within" "require_within" s_t9 a.f_t9 a.d_t9
 b_t9:Binds K a.d_t9 ["houses", "count"] []
 m_t9:mg "require_within" = some (.ref a.f_t9)
 kp_t9:PySem.W.keepIn K (.ref a.f_t9)=true
 F_g9:Fun K "require_houses" "Guild.require_houses" s_g9 a.f_g9 a.d_g9
 b_g9:Binds K a.d_g9 ["self", "houses"] []
 me_g9:Meth K a.C_Guild "require_houses" a.f_g9
 F_b9:Fun K "has_way" "Guild.has_way" s_b9 a.f_b9 a.d_b9
 b_b9:Binds K a.d_b9 ["self", "a", "b"] []
 me_b9:Meth K a.C_Guild "has_way" a.f_b9
 F_f9:Fun K "neighbours" "Guild.neighbours" s_f9 a.f_f9 a.d_f9
 b_f9:Binds K a.d_f9 ["self", "a"] []
 me_f9:Meth K a.C_Guild "neighbours" a.f_f9
 F_h9:Fun K "require_two_houses" "Guild.require_two_houses" s_h9 a.f_h9 a.d_h9
 b_h9:Binds K a.d_h9 ["self", "a", "b"] []
 me_h9:Meth K a.C_Guild "require_two_houses" a.f_h9
 F_p9:Fun K "_law_no_guild" "_law_no_guild" s_p9 a.f_p9 a.d_p9
 b_p9:Binds K a.d_p9 ["size"] []
 m_p9:mg "_law_no_guild" = some (.ref a.f_p9)
 kp_p9:PySem.W.keepIn K (.ref a.f_p9)=true
 F_d9:Fun K "lay_way" "Guild.lay_way" s_d9 a.f_d9 a.d_d9
 b_d9:Binds K a.d_d9 ["self", "a", "b"] []
 me_d9:Meth K a.C_Guild "lay_way" a.f_d9
 F_e9:Fun K "lift_way" "Guild.lift_way" s_e9 a.f_e9 a.d_e9
 b_e9:Binds K a.d_e9 ["self", "a", "b"] []
 me_e9:Meth K a.C_Guild "lift_way" a.f_e9
 F_r9:Fun K "_law_ties_told" "_law_ties_told" s_r9 a.f_r9 a.d_r9
 b_r9:Binds K a.d_r9 ["guild", "ways", "size", "a"] []
 m_r9:mg "_law_ties_told" = some (.ref a.f_r9)
 kp_r9:PySem.W.keepIn K (.ref a.f_r9)=true
 F_l9:Fun K "_law_did" "_law_did" s_l9 a.f_l9 a.d_l9
 b_l9:Binds K a.d_l9 ["guild", "kind", "a", "b"] []
 m_l9:mg "_law_did" = some (.ref a.f_l9)
 kp_l9:PySem.W.keepIn K (.ref a.f_l9)=true
 F_n9:Fun K "_law_end" "_law_end" s_n9 a.f_n9 a.d_n9
 b_n9:Binds K a.d_n9 ["guild", "ways", "size", "cell"] []
 m_n9:mg "_law_end" = some (.ref a.f_n9)
 kp_n9:PySem.W.keepIn K (.ref a.f_n9)=true
 F_j9:Fun K "law" "law" s_j9 a.f_j9 a.d_j9
 b_j9:Binds K a.d_j9 ["script"] []
 m_j9:mg "law" = some (.ref a.f_j9)
 kp_j9:PySem.W.keepIn K (.ref a.f_j9)=true
 g_SEAT:∃ t,mg "SEAT" = some (.int 0 t)
 g_MOST_HOUSES:∃ t,mg "MOST_HOUSES" = some (.int 60 t)
 z_len:mg "len" = none
 z_range:mg "range" = none
 z_min:mg "min" = none
 z_max:mg "max" = none
 z_list:mg "list" = none
 z_isinstance:mg "isinstance" = none
 z_bool:mg "bool" = none
 z_int:mg "int" = none
 z_ValueError:mg "ValueError" = none
noncomputable def cmOf (a:Adr) (K:PySem.W.Frag):Mi.Cm:=⟨fun c=>match c with | 0=>a.C_Guild | 10=>a.C_GuildError | 11=>a.C_NoHouse | 12=>a.C_NoWay | 13=>a.C_WayThere | _=>0,K,[]⟩
end K01
namespace K01
open PySem L2 Mi
noncomputable section
noncomputable def al7:List (Str×Sh):=[("ways",.ct .fz),("likings",.ct .fz),("shuns",.ct .fz),("wish_ranks",.ct .fz)]
noncomputable def bN1:List Md:=[.O (.ob al7),.F]
noncomputable def mo_a9:List Md:=[]
noncomputable abbrev aH6:Mi.Env→SO:=(ak7 11)
noncomputable abbrev bx6:Mi.Env→SO:=(ifS (liP (orT (tst (bn ltI (vr 1) (cst (.int 1)))) (tst (bn gtI (vr 1) (cst (.int 60))))))
 aH6
 ae7)
noncomputable abbrev bx5:Mi.Env→SO:=(fldS 0 "house_count" 0 (liP (vr 1)))
noncomputable abbrev bx4:Mi.Env→SO:=(fldS 0 "ways" 0 (liP (cst (.dT [] []))))
noncomputable abbrev bx3:Mi.Env→SO:=(fldS 0 "likings" 0 (liP (cst (.dT [] []))))
noncomputable abbrev bx2:Mi.Env→SO:=(fldS 0 "shuns" 0 (liP (cst (.dT [] []))))
noncomputable abbrev bx1:Mi.Env→SO:=(fldS 0 "wish_ranks" 0 (liP (cst (.dT [] []))))
noncomputable def bC4:Mi.Env→SO:=(seqS bx6
 (seqS bx5
 (seqS bx4
 (seqS bx3
 (seqS bx2
 bx1)))))
noncomputable def m_a9:List D→Out D:=run 2 bC4
theorem aO4:bC4=(seqS (ifS (liP (orT (tst (bn ltI (vr 1) (cst (.int 1)))) (tst (bn gtI (vr 1) (cst (.int 60))))))
 (ak7 11)
 ae7)
 (seqS (fldS 0 "house_count" 0 (liP (vr 1)))
 (seqS (fldS 0 "ways" 0 (liP (cst (.dT [] []))))
 (seqS (fldS 0 "likings" 0 (liP (cst (.dT [] []))))
 (seqS (fldS 0 "shuns" 0 (liP (cst (.dT [] []))))
 (fldS 0 "wish_ranks" 0 (liP (cst (.dT [] []))))))))):=rfl
noncomputable def bM9:List Md:=[.R,.R,.F]
noncomputable def mo_c9:List Md:=[]
noncomputable abbrev bw8:Mi.Env→SO:=(retS (liP (comp (aV2 (un (fldD 0 "house_count") (vr 0))) [1,2] (tst (bn (dinD false) (mkT (esC (vr 2) (esC (vr 0) esN))) (vr 1))) (vr 0))))
noncomputable def bC2:Mi.Env→SO:=bw8
noncomputable def m_c9:List D→Out D:=runO 3 bC2
noncomputable def bM3:List Md:=[.R]
noncomputable def mo_i9:List Md:=[]
noncomputable abbrev bv4:Mi.Env→SO:=(retS (liP (sc1 (un (fldD 0 "house_count") (vr 0)))))
noncomputable def bB6:Mi.Env→SO:=bv4
noncomputable def m_i9:List D→Out D:=run 1 bB6
noncomputable def bM1:List Md:=[.R,.F]
noncomputable def mo_k9:List Md:=[]
noncomputable abbrev aH1:Mi.Env→SO:=(retS (liP (sc1 (bn ixL (vr 0) (vr 1)))))
noncomputable abbrev bu4:Mi.Env→SO:=(ifS (liP (tst (bn ltI (vr 1) (un lenD (vr 0)))))
 aH1
 ae7)
noncomputable abbrev bu3:Mi.Env→SO:=(retS (liP (cst (.int 0))))
noncomputable def bB4:Mi.Env→SO:=(seqS bu4
 bu3)
noncomputable def m_k9:List D→Out D:=run 2 bB4
noncomputable def bL9:List Md:=[.R,.F,.F,.F,.F]
noncomputable def mo_m9:List Md:=[.F]
noncomputable abbrev aH0:Mi.Env→SO:=(retS (liP (cst (.str ("house" : Str)))))
noncomputable abbrev bt9:Mi.Env→SO:=(ifS (liP (orT (tst (bn ltI (bn minI (vr 3) (vr 4)) (cst (.int 0)))) (orT (tst (bn geI (bn maxI (vr 3) (vr 4)) (vr 1))) (tst (bn (eqS false) (vr 3) (vr 4))))))
 aH0
 ae7)
noncomputable abbrev bt8:Mi.Env→SO:=(setS 5 (liP (bn inD (mkT (esC (bn minI (vr 3) (vr 4)) (esC (bn maxI (vr 3) (vr 4)) esN))) (vr 0))))
noncomputable abbrev aG9:Mi.Env→SO:=(retS (liP (cst (.str ("there" : Str)))))
noncomputable abbrev bt7:Mi.Env→SO:=(ifS (liP (andT (tst (bn (eqS false) (vr 2) (cst (.int 0)))) (tst (vr 5))))
 aG9
 ae7)
noncomputable abbrev aG8:Mi.Env→SO:=(retS (liP (cst (.str ("none" : Str)))))
noncomputable abbrev bt6:Mi.Env→SO:=(ifS (liP (andT (tst (bn (eqS false) (vr 2) (cst (.int 1)))) (notT (tst (vr 5)))))
 aG8
 ae7)
noncomputable abbrev bt5:Mi.Env→SO:=(retS (liP (cst (.str ("done" : Str)))))
noncomputable def bB2:Mi.Env→SO:=(seqS bt9
 (seqS bt8
 (seqS bt7
 (seqS bt6
 bt5))))
noncomputable def m_m9:List D→Out D:=run 6 bB2
noncomputable def bL7:List Md:=[.F]
noncomputable def mo_o9:List Md:=[]
noncomputable abbrev aG7:Mi.Env→SO:=(retS (liP (mkL esN)))
noncomputable abbrev bt2:Mi.Env→SO:=(ifS (liP (tst (bn (eqS false) (vr 0) (cst (.str ("done" : Str))))))
 aG7
 ae7)
noncomputable abbrev bt1:Mi.Env→SO:=(retS (liP (mkL (esC (bn (eqS false) (vr 0) (cst (.str ("house" : Str)))) (esC (bn (eqS false) (vr 0) (cst (.str ("there" : Str)))) (esC (bn (eqS false) (vr 0) (cst (.str ("none" : Str)))) (esC (cst (.bl true)) esN)))))))
noncomputable def bB0:Mi.Env→SO:=(seqS bt2
 bt1)
noncomputable def m_o9:List D→Out D:=runO 1 bB0
noncomputable def bL5:List Md:=[.R,.F,.F]
noncomputable def mo_q9:List Md:=[]
noncomputable abbrev bs7:Mi.Env→SO:=(retS (liP (comp (aV2 (vr 1)) [0,2] (tst (bn inD (mkT (esC (bn minI (vr 2) (vr 0)) (esC (bn maxI (vr 2) (vr 0)) esN))) (vr 1))) (vr 0))))
noncomputable def bA8:Mi.Env→SO:=bs7
noncomputable def m_q9:List D→Out D:=runO 3 bA8
noncomputable def bL3:List Md:=[.F]
noncomputable def mo_s9:List Md:=[]
noncomputable abbrev br7:Mi.Env→SO:=(retS (liP (andD (bn isT (vr 0) (cst (.ty "int"))) (un notB (bn isT (vr 0) (cst (.ty "bool")))))))
noncomputable def bA6:Mi.Env→SO:=br7
noncomputable def m_s9:List D→Out D:=run 1 bA6
noncomputable def bL2:List Md:=[.R,.F]
noncomputable def mo_t9:List Md:=[]
noncomputable abbrev aG4:Mi.Env→SO:=(ak7 11)
noncomputable abbrev br6:Mi.Env→SO:=(ifS (liP (orT (tst (bn ltI (bn (extD ad8) (vr 0) (cst (.int 0))) (cst (.int 0)))) (tst (bn geI (bn (extD ai2) (vr 0) (cst (.int 0))) (vr 1)))))
 aG4
 ae7)
noncomputable def bA5:Mi.Env→SO:=br6
noncomputable def m_t9:List D→Out D:=run 2 bA5
noncomputable def bM5:List Md:=[.R,.R]
noncomputable def mo_g9:List Md:=[]
noncomputable abbrev bv7:Mi.Env→SO:=(ai3 (liP (pc m_t9 (esC (vr 1) (esC (sc1 (un (fldD 0 "house_count") (vr 0))) esN)))))
noncomputable def bB8:Mi.Env→SO:=bv7
noncomputable def m_g9:List D→Out D:=run 2 bB8
noncomputable def bN0:List Md:=[.R,.F,.F]
noncomputable def mo_b9:List Md:=[]
noncomputable abbrev bx0:Mi.Env→SO:=(ai3 (liP (pm 0 "require_houses" m_g9 (vr 0) (esC (mkL (esC (vr 1) (esC (vr 2) esN))) esN))))
noncomputable abbrev bw9:Mi.Env→SO:=(retS (liP (bn (dinD false) (mkT (esC (vr 1) (esC (vr 2) esN))) (un (fldD 0 "ways") (vr 0)))))
noncomputable def bC3:Mi.Env→SO:=(seqS bx0
 bw9)
noncomputable def m_b9:List D→Out D:=run 3 bC3
noncomputable def bM6:List Md:=[.R,.F]
noncomputable def mo_f9:List Md:=[]
noncomputable abbrev bv9:Mi.Env→SO:=(ai3 (liP (pm 0 "require_houses" m_g9 (vr 0) (esC (mkL (esC (vr 1) esN)) esN))))
noncomputable abbrev bv8:Mi.Env→SO:=(retS (liP (pm 0 "houses_paired" m_c9 (vr 0) (esC (un (fldD 0 "ways") (vr 0)) (esC (vr 1) esN)))))
noncomputable def bB9:Mi.Env→SO:=(seqS bv9
 bv8)
noncomputable def m_f9:List D→Out D:=runO 2 bB9
noncomputable def bM4:List Md:=[.R,.F,.F]
noncomputable def mo_h9:List Md:=[]
noncomputable abbrev bv6:Mi.Env→SO:=(ai3 (liP (pm 0 "require_houses" m_g9 (vr 0) (esC (mkL (esC (vr 1) (esC (vr 2) esN))) esN))))
noncomputable abbrev aH3:Mi.Env→SO:=(ak7 11)
noncomputable abbrev bv5:Mi.Env→SO:=(ifS (liP (tst (bn (eqS false) (vr 1) (vr 2))))
 aH3
 ae7)
noncomputable def bB7:Mi.Env→SO:=(seqS bv6
 bv5)
noncomputable def m_h9:List D→Out D:=run 3 bB7
noncomputable def bL6:List Md:=[.F]
noncomputable def mo_p9:List Md:=[.F,.F]
noncomputable abbrev bt0:Mi.Env→SO:=(setS 1 (liP (cst (.bl false))))
noncomputable abbrev bs9:Mi.Env→SO:=(tryS (some 2) (catN [11]) (ai3 (liP (pk 0 m_a9 (esC (vr 0) esN)))) fun c=>setS 1 (liP (cst (.bl (match c with | 11=>true | _=>false)))))
noncomputable abbrev bs8:Mi.Env→SO:=(retS (liP (vr 1)))
noncomputable def bA9:Mi.Env→SO:=(seqS bt0
 (seqS bs9
 bs8))
noncomputable def m_p9:List D→Out D:=run 3 bA9
noncomputable def bM8:List Md:=[.O (.ob al7),.F,.F]
noncomputable def mo_d9:List Md:=[]
noncomputable abbrev bw7:Mi.Env→SO:=(ai3 (liP (pm 0 "require_two_houses" m_h9 (vr 0) (esC (vr 1) (esC (vr 2) esN)))))
noncomputable abbrev aH5:Mi.Env→SO:=(ak7 13)
noncomputable abbrev bw6:Mi.Env→SO:=(ifS (liP (tst (bn (dinD false) (mkT (esC (vr 1) (esC (vr 2) esN))) (un (fldD 0 "ways") (vr 0)))))
 aH5
 ae7)
noncomputable abbrev bw5:Mi.Env→SO:=(bl2 (getF 0 "ways" 0) (setF "ways" 0) (mkT (esC (vr 1) (esC (vr 2) esN))) (liP (cst (.bl true))))
noncomputable abbrev bw4:Mi.Env→SO:=(bl2 (getF 0 "ways" 0) (setF "ways" 0) (mkT (esC (vr 2) (esC (vr 1) esN))) (liP (cst (.bl true))))
noncomputable def bC1:Mi.Env→SO:=(seqS bw7
 (seqS bw6
 (seqS bw5
 bw4)))
noncomputable def m_d9:List D→Out D:=run 3 bC1
noncomputable def bM7:List Md:=[.O (.ob al7),.F,.F]
noncomputable def mo_e9:List Md:=[]
noncomputable abbrev bw3:Mi.Env→SO:=(ai3 (liP (pm 0 "require_two_houses" m_h9 (vr 0) (esC (vr 1) (esC (vr 2) esN)))))
noncomputable abbrev aH4:Mi.Env→SO:=(ak7 12)
noncomputable abbrev bw2:Mi.Env→SO:=(ifS (liP (tst (bn (dinD true) (mkT (esC (vr 1) (esC (vr 2) esN))) (un (fldD 0 "ways") (vr 0)))))
 aH4
 ae7)
noncomputable abbrev bw1:Mi.Env→SO:=(ai3 (aS5 (getF 0 "ways" 0) (setF "ways" 0) (mkT (esC (vr 1) (esC (vr 2) esN)))))
noncomputable abbrev bw0:Mi.Env→SO:=(ai3 (aS5 (getF 0 "ways" 0) (setF "ways" 0) (mkT (esC (vr 2) (esC (vr 1) esN)))))
noncomputable def bC0:Mi.Env→SO:=(seqS bw3
 (seqS bw2
 (seqS bw1
 bw0)))
noncomputable def m_e9:List D→Out D:=run 3 bC0
noncomputable def bL4:List Md:=[.R,.R,.F,.F]
noncomputable def mo_r9:List Md:=[.O (.ct .fz),.F,.F,.F]
noncomputable abbrev aG6:Mi.Env→SO:=(retS (liP (cst (.bl true))))
noncomputable abbrev bs6:Mi.Env→SO:=(ifS (liP (orT (tst (bn ltI (vr 3) (cst (.int 0)))) (tst (bn geI (vr 3) (vr 2)))))
 aG6
 ae7)
noncomputable abbrev bs5:Mi.Env→SO:=(setS 4 (liP (pm 0 "neighbours" m_f9 (vr 0) (esC (vr 3) esN))))
noncomputable abbrev bs4:Mi.Env→SO:=(setS 5 (liP (pc m_q9 (esC (vr 1) (esC (vr 2) (esC (vr 3) esN))))))
noncomputable abbrev aG5:Mi.Env→SO:=(retS (liP (cst (.bl false))))
noncomputable abbrev bs3:Mi.Env→SO:=(ifS (liP (orT (notT (tst (bn isT (vr 4) (cst (.ty "list"))))) (tst (bn (eqS true) (un lenD (vr 4)) (un lenD (vr 5))))))
 aG5
 ae7)
noncomputable abbrev ax3:Mi.Env→SO:=(retS (liP (cst (.bl false))))
noncomputable abbrev aT8:Mi.Env→SO:=(ifS (liP (notT (tst (pc m_s9 (esC (vr 6) esN)))))
 ax3
 ae7)
noncomputable abbrev bs1:Mi.Env→SO:=(aY6 4 (tgN 6)
 aT8)
noncomputable abbrev bs0:Mi.Env→SO:=(setS 7 (liP (bn (eqD false) (vr 4) (vr 5))))
noncomputable abbrev br9:Mi.Env→SO:=(ai3 (lst1 (bg5 4) (bg4 4) appF (vr 3)))
noncomputable abbrev br8:Mi.Env→SO:=(retS (liP (andD (vr 7) (bn (eqD false) (pm 0 "neighbours" m_f9 (vr 0) (esC (vr 3) esN)) (vr 5)))))
noncomputable def bA7:Mi.Env→SO:=(seqS bs6
 (seqS bs5
 (seqS bs4
 (seqS bs3
 (seqS bs1
 (seqS bs0
 (seqS br9
 br8)))))))
noncomputable def m_r9:List D→Out D:=run 8 bA7
noncomputable def bM0:List Md:=[.O (.ob al7),.F,.F,.F]
noncomputable def mo_l9:List Md:=[.O (.ct .fz),.F]
noncomputable abbrev bu2:Mi.Env→SO:=(setS 4 (liP (mkL esN)))
noncomputable abbrev bu1:Mi.Env→SO:=(tryS (some 5) (catN [10,11,12,13]) (ifS (liP (tst (bn (eqS false) (vr 1) (cst (.int 0))))) (ai3 (mm 0 "lay_way" [(.O 0),.F,.F] m_d9 (vr 0) (esC (vr 2) (esC (vr 3) esN)))) (ai3 (mm 0 "lift_way" [(.O 0),.F,.F] m_e9 (vr 0) (esC (vr 2) (esC (vr 3) esN))))) fun c=>setS 4 (liP (mkL (esC (cst (.bl (match c with | 10=>false | 11=>true | 12=>false | 13=>false | _=>false))) (esC (cst (.bl (match c with | 10=>false | 11=>false | 12=>false | 13=>true | _=>false))) (esC (cst (.bl (match c with | 10=>false | 11=>false | 12=>true | 13=>false | _=>false))) (esC (cst (.bl (match c with | 10=>true | 11=>true | 12=>true | 13=>true | _=>false))) esN)))))))
noncomputable abbrev bu0:Mi.Env→SO:=(retS (mvS 4))
noncomputable def bB3:Mi.Env→SO:=(seqS bu2
 (seqS bu1
 bu0))
noncomputable def m_l9:List D→Out D:=runO 6 bB3
noncomputable def bL8:List Md:=[.R,.R,.F,.F]
noncomputable def mo_n9:List Md:=[.F,.F,.F]
noncomputable abbrev ax5:Mi.Env→SO:=(retS (liP (cst (.bl false))))
noncomputable abbrev aU2:Mi.Env→SO:=(ifS (liP (notT (tst (pc m_r9 (esC (vr 0) (esC (vr 1) (esC (vr 2) (esC (vr 4) esN))))))))
 ax5
 ae7)
noncomputable abbrev aU1:Mi.Env→SO:=(setS 5 (liP (bn modI (bn addI (bn mulI (vr 4) (cst (.int 7))) (vr 3)) (vr 2))))
noncomputable abbrev aU0:Mi.Env→SO:=(setS 6 (liP (pm 0 "has_way" m_b9 (vr 0) (esC (vr 4) (esC (vr 5) esN)))))
noncomputable abbrev ax4:Mi.Env→SO:=(retS (liP (cst (.bl false))))
noncomputable abbrev aT9:Mi.Env→SO:=(ifS (liP (orT (notT (tst (bn isT (vr 6) (cst (.ty "bool"))))) (tst (bn (eqS true) (vr 6) (bn inD (mkT (esC (bn minI (vr 4) (vr 5)) (esC (bn maxI (vr 4) (vr 5)) esN))) (vr 1))))))
 ax4
 ae7)
noncomputable abbrev bC6:Mi.Env→SO:=(seqS aU2
 (seqS aU1
 (seqS aU0
 aT9)))
noncomputable abbrev bt4:Mi.Env→SO:=(aR9 (liP (aV2 (vr 2))) (tgN 4)
 bC6)
noncomputable abbrev bt3:Mi.Env→SO:=(retS (liP (cst (.bl true))))
noncomputable def bB1:Mi.Env→SO:=(seqS bt4
 bt3)
noncomputable def m_n9:List D→Out D:=run 7 bB1
noncomputable def bM2:List Md:=[.R]
noncomputable def mo_j9:List Md:=[.F,.F,.F,.O (.ob al7),.O (.ct .fz),.F,.F,.F,.F,.F]
noncomputable abbrev bv3:Mi.Env→SO:=(setS 1 (liP (pc m_k9 (esC (vr 0) (esC (cst (.int 0)) esN)))))
noncomputable abbrev ay1:Mi.Env→SO:=(retS (liP (cst (.bl false))))
noncomputable abbrev aV1:Mi.Env→SO:=(ifS (liP (notT (tst (pc m_p9 (esC (vr 2) esN)))))
 ay1
 ae7)
noncomputable abbrev bv2:Mi.Env→SO:=(aR9 (liP (srcL (mkL (esC (cst (.int 0)) (esC (cst (.int 61)) (esC (bn subI (bn subI (cst (.int 0)) (cst (.int 1))) (bn modI (vr 1) (bn powI (cst (.int 10)) (cst (.int 6))))) (esC (bn addI (cst (.int 61)) (bn modI (vr 1) (bn powI (cst (.int 10)) (cst (.int 6))))) esN))))))) (tgN 2)
 aV1)
noncomputable abbrev bv1:Mi.Env→SO:=(setS 3 (liP (bn addI (cst (.int 1)) (bn modI (vr 1) (cst (.int 9))))))
noncomputable abbrev aH2:Mi.Env→SO:=(setS 3 (liP (bn addI (cst (.int 10)) (bn modI (bn aA3 (vr 1) (cst (.int 36))) (cst (.int 51))))))
noncomputable abbrev bv0:Mi.Env→SO:=(ifS (liP (tst (bn (eqS false) (bn modI (bn aA3 (vr 1) (cst (.int 9))) (cst (.int 4))) (cst (.int 1)))))
 aH2
 ae7)
noncomputable abbrev bu9:Mi.Env→SO:=(setS 4 (liP (pk 0 m_a9 (esC (vr 3) esN))))
noncomputable abbrev bu8:Mi.Env→SO:=(setS 5 (liP (mkL esN)))
noncomputable abbrev aV0:Mi.Env→SO:=(setS 7 (liP (bn subI (bn modI (bn aA3 (vr 6) (cst (.int 2))) (bn addI (vr 3) (cst (.int 2)))) (cst (.int 1)))))
noncomputable abbrev aU9:Mi.Env→SO:=(setS 8 (liP (bn subI (bn modI (bn aA3 (bn aA3 (vr 6) (cst (.int 2))) (bn addI (vr 3) (cst (.int 2)))) (bn addI (vr 3) (cst (.int 2)))) (cst (.int 1)))))
noncomputable abbrev aU8:Mi.Env→SO:=(setS 9 (liP (pc m_m9 (esC (vr 5) (esC (vr 3) (esC (bn modI (vr 6) (cst (.int 2))) (esC (vr 7) (esC (vr 8) esN))))))))
noncomputable abbrev ay0:Mi.Env→SO:=(retS (liP (cst (.bl false))))
noncomputable abbrev aU7:Mi.Env→SO:=(ifS (liP (notT (tst (pc m_r9 (esC (vr 4) (esC (vr 5) (esC (vr 3) (esC (vr 7) esN))))))))
 ay0
 ae7)
noncomputable abbrev ax9:Mi.Env→SO:=(retS (liP (cst (.bl false))))
noncomputable abbrev aU6:Mi.Env→SO:=(ifS (tstM (bnM (eqD true) (mc [(.O 4),.F,.F,.F] m_l9 (esC (vr 4) (esC (bn modI (vr 6) (cst (.int 2))) (esC (vr 7) (esC (vr 8) esN))))) (liP (pc m_o9 (esC (vr 9) esN)))))
 ax9
 ae7)
noncomputable abbrev ax8:Mi.Env→SO:=(ai3 (lst1 (bg5 5) (bg4 5) appF (mkT (esC (bn minI (vr 7) (vr 8)) (esC (bn maxI (vr 7) (vr 8)) esN)))))
noncomputable abbrev aU5:Mi.Env→SO:=(ifS (liP (andT (tst (bn (eqS false) (vr 9) (cst (.str ("done" : Str))))) (tst (bn (eqS false) (bn modI (vr 6) (cst (.int 2))) (cst (.int 0))))))
 ax8
 ae7)
noncomputable abbrev ax7:Mi.Env→SO:=(ai3 (lst1 (bg5 5) (bg4 5) remF (mkT (esC (bn minI (vr 7) (vr 8)) (esC (bn maxI (vr 7) (vr 8)) esN)))))
noncomputable abbrev aU4:Mi.Env→SO:=(ifS (liP (andT (tst (bn (eqS false) (vr 9) (cst (.str ("done" : Str))))) (tst (bn (eqS false) (bn modI (vr 6) (cst (.int 2))) (cst (.int 1))))))
 ax7
 ae7)
noncomputable abbrev ax6:Mi.Env→SO:=(retS (liP (cst (.bl false))))
noncomputable abbrev aU3:Mi.Env→SO:=(ifS (liP (orT (notT (tst (pc m_r9 (esC (vr 4) (esC (vr 5) (esC (vr 3) (esC (vr 7) esN))))))) (notT (tst (pc m_r9 (esC (vr 4) (esC (vr 5) (esC (vr 3) (esC (vr 8) esN)))))))))
 ax6
 ae7)
noncomputable abbrev bC7:Mi.Env→SO:=(seqS aV0
 (seqS aU9
 (seqS aU8
 (seqS aU7
 (seqS aU6
 (seqS aU5
 (seqS aU4
 aU3)))))))
noncomputable abbrev bu7:Mi.Env→SO:=(aR9 (liP (srcL (bn bD7 (chkS (vr 0)) (cst (.int 1))))) (tgN 6)
 bC7)
noncomputable abbrev bu6:Mi.Env→SO:=(setS 10 (liP (pm 0 "size" m_i9 (vr 4) esN)))
noncomputable abbrev bu5:Mi.Env→SO:=(retS (liP (andD (pc m_s9 (esC (vr 10) esN)) (andD (bn (eqS false) (vr 10) (vr 3)) (pc m_n9 (esC (vr 4) (esC (vr 5) (esC (vr 3) (esC (vr 1) esN)))))))))
noncomputable def bB5:Mi.Env→SO:=(seqS bv3
 (seqS bv2
 (seqS bv1
 (seqS bv0
 (seqS bu9
 (seqS bu8
 (seqS bu7
 (seqS bu6
 bu5))))))))
noncomputable def m_j9:List D→Out D:=run 11 bB5
end
variable {P:Program} {w:World} {K:PySem.W.Frag} {mg:Str→Option Value} {base:Heap} {a:Adr}
theorem bK6 (T:Txt K mg a base):FnOk P w K mg base (CX1 P w) 1 a.f_a9 a.d_a9 ["self", "size"] (spM (cmOf a K) bN1 (KR (cmOf a K) .F) m_a9):=by
 obtain ⟨t_MOST_HOUSES,g_MOST_HOUSES⟩:=T.g_MOST_HOUSES
 refine T.F_a9.okX sc_a9 (fun _ _ _ _=>ac9) (fun _ _ _ _ _ _ _ _ hr h=>?_)
 refine ⟨_,(aa2 (ag0 (PW.pt (aC9 (ab8 aY1 (pv 1) ab1 (ac4 _)) (aq7 (ab8 op_gt (pv 1) (al1 rfl g_MOST_HOUSES (v:= .int 60) ⟨_,rfl⟩) (ac4 _))))) (aa4 (am0 ar2 rfl rfl T.mgC_NoHouse T.ek_NoHouse (aa0 af4 aa1))) ac3)
  (aa2 (aD2 (pv 0) (pv 1) rfl)
  (aa2 (aD2 (pv 0) aq1 rfl)
  (aa2 (aD2 (pv 0) aq1 rfl)
  (aa2 (aD2 (pv 0) aq1 rfl)
  (aa4 (aD2 (pv 0) aq1 rfl))))))),?_⟩
 refine ad2 (cm:=cmOf a K) (ms:=bN1) (more:=mo_a9) (body:=bC4) ?_ rfl rfl (fun _ _ _=>rnon) h
 exact (ab7 (s_if (upM (aD1 (pt_T (fx (p_op s_lt (fx (fF 1)) (fx pI)))) (pt_T (fx (p_op s_gt (fx (fF 1)) (fx pI)))))) (aq6 (c:=11)) af9)
  (ab7 (bI1 (c:=0) (i:=0) T.cl_Guild T.n_house_count rfl rfl (upM (fF 1)))
  (ab7 (aM9 (c:=0) (i:=0) T.cl_Guild T.n_ways rfl rfl (upM bi0))
  (ab7 (aM9 (c:=0) (i:=0) T.cl_Guild T.n_likings rfl rfl (upM bi0))
  (ab7 (aM9 (c:=0) (i:=0) T.cl_Guild T.n_shuns rfl rfl (upM bi0))
  (aM9 (c:=0) (i:=0) T.cl_Guild T.n_wish_ranks rfl rfl (upM bi0)))))))
theorem bl8:CompSc (aa6 s_c9) (Gd.aZ0 (Gd.bH0 (Gd.nth (ah8 s_c9) 0))) "b" ["pairs", "a"]:=by constructor <;> first | rfl | decide +kernel
theorem ok_c9 (T:Txt K mg a base):FnOk P w K mg base (CX1 P w) 1 a.f_c9 a.d_c9 ["self", "pairs", "a"] (spM (cmOf a K) bM9 (KO (cmOf a K) (.ct .fz)) m_c9):=by
 refine T.F_c9.okX sc_c9 (fun _ _ _ _=>ac9) (fun _ _ _ _ _ _ _ _ hr h=>?_)
 have hu:=bk2 hr
 refine ⟨_,(aa4 (ac8 (aX6 rfl (aq9 rfl T.z_range (aa0 (af5 K rfl (pv 0) rfl) aa1)) bl8 (ix:=[1,2]) rfl (fun _ _ _ _=>aX0 (aX1 (aX9 hu (ag6 (aa0 (pv 2) (aa0 (pv 0) aa1))) (pv 1)))) (fun _ _ _ _=>(pv 0))))),?_⟩
 refine aj3 (cm:=cmOf a K) (ms:=bM9) (more:=mo_c9) (body:=bC2) ?_ rfl rfl h
 exact (ae4 (upM (aN9 (ix:=[1,2]) (i_r1 (ux (aY0 (c:=0) T.cl_Guild T.n_house_count (rc (fR 0))))) (by decide) (pt_B (fx (bz3 (fx (an8 (aa3 (fF 2) (aa3 (fF 0) ad3)))) (rc (fR 1))))) (fF 0))))
theorem ok_i9 (T:Txt K mg a base):FnOk P w K mg base (CX1 P w) 1 a.f_i9 a.d_i9 ["self"] (spM (cmOf a K) bM3 (KR (cmOf a K) .F) m_i9):=by
 refine T.F_i9.okX sc_i9 (fun _ _ _ _=>ac9) (fun _ _ _ _ _ _ _ _ hr h=>?_)
 refine ⟨_,(aa4 (ac8 (af5 K rfl (pv 0) rfl))),?_⟩
 refine ad2 (cm:=cmOf a K) (ms:=bM3) (more:=mo_i9) (body:=bB6) ?_ rfl rfl (fun _ _ _=>rnon) h
 exact (ae4 (upM (rS (k:= .X) (ux (aY0 (c:=0) T.cl_Guild T.n_house_count (rc (fR 0)))))))
theorem ok_k9 (T:Txt K mg a base):FnOk P w K mg base (CX1 P w) 1 a.f_k9 a.d_k9 ["script", "k"] (spM (cmOf a K) bM1 (KR (cmOf a K) .F) m_k9):=by
 refine T.F_k9.okX sc_k9 (fun _ _ _ _=>ac9) (fun _ _ _ _ _ _ _ _ hr h=>?_)
 refine ⟨_,(aa2 (ag0 (ab8 aY1 (pv 1) (ab4 (ah9 K rfl) rfl T.z_len Gd.bf3 (aa0 (pv 0) aa1)) (ac4 _)) (aa4 (ac8 (pe_ix (bj9 K rfl) (pv 0) (pv 1) (fun _ _=>rfl)))) ac3)
  (aa4 (ac8 ab1))),?_⟩
 refine ad2 (cm:=cmOf a K) (ms:=bM1) (more:=mo_k9) (body:=bB4) ?_ rfl rfl (fun _ _ _=>rnon) h
 exact (ab7 (s_if (upM (pt_T (fx (p_op s_lt (fx (fF 1)) (fx (bz4 by3 (ux (fR 0)))))))) (ae4 (upM (rS (k:= .X) (ux (p_ixL (rc (fR 0)) (fx (fF 1))))))) af9)
  (ae4 (upM pI)))
theorem ok_m9 (T:Txt K mg a base):FnOk P w K mg base (CX1 P w) 1 a.f_m9 a.d_m9 ["ways", "size", "kind", "a", "b"] (spM (cmOf a K) bL9 (KR (cmOf a K) .F) m_m9):=by
 refine T.F_m9.okX bH7 (fun _ _ _ _=>ac9) (fun _ _ _ _ _ _ _ _ hr h=>?_)
 have hu65:=Mi.hu65 hr
 refine ⟨_,(aa2 (ag0 (PW.pt (aC9 (ab8 aY1 (ab4 (ah0 rfl) rfl T.z_min Gd.av7 (aa0 (pv 3) (aa0 (pv 4) aa1))) ab1 (ac4 _)) (aC9 (ab8 bz6 (ab4 (ah1 rfl) rfl T.z_max Gd.av8 (aa0 (pv 3) (aa0 (pv 4) aa1))) (pv 1) (ac4 _)) (aq7 (ab8 al2 (pv 3) (pv 4) (ac4 _)))))) (aa4 (ac8 af4)) ac3)
  (aa2 (ae1 (i:=5) bH7.nd rfl (Or.inl rfl) (aj0 (aI2 K rfl hu65) (ag6 (aa0 (ab4 (ah0 rfl) rfl T.z_min Gd.av7 (aa0 (pv 3) (aa0 (pv 4) aa1))) (aa0 (ab4 (ah1 rfl) rfl T.z_max Gd.av8 (aa0 (pv 3) (aa0 (pv 4) aa1))) aa1))) (pv 0) (by with_unfolding_all rfl)))
  (aa2 (ag0 (PW.pt (aN0 (ab8 al2 (pv 2) ab1 (ac4 _)) (ay7 (ak9 (pv 5))))) (aa4 (ac8 af4)) ac3)
  (aa2 (ag0 (PW.pt (aN0 (ab8 al2 (pv 2) ab1 (ac4 _)) (ay7 (al9 (ak9 (pv 5)))))) (aa4 (ac8 af4)) ac3)
  (aa4 (ac8 af4)))))),?_⟩
 refine ad2 (cm:=cmOf a K) (ms:=bL9) (more:=mo_m9) (body:=bB2) ?_ rfl rfl (fun _ _ _=>rnon) h
 exact (ab7 (s_if (upM (aD1 (pt_T (fx (p_op s_lt (fx (ak6 aR1 (fx (fF 3)) (fx (fF 4)))) (fx pI)))) (aD1 (pt_T (fx (p_op s_ge (fx (ak6 aR2 (fx (fF 3)) (fx (fF 4)))) (fx (fF 1))))) (pt_T (fx (p_op s_eq (fx (fF 3)) (fx (fF 4)))))))) (ae4 (upM pS)) af9)
  (ab7 (ag1 (i:=5) (upM (p_op by4 (fx (an8 (aa3 (ak6 aR1 (fx (fF 3)) (fx (fF 4))) (aa3 (ak6 aR2 (fx (fF 3)) (fx (fF 4))) ad3)))) (ux (fR 0)))) rfl rfl)
  (ab7 (s_if (upM (aN3 (pt_T (fx (p_op s_eq (fx (fF 2)) (fx pI)))) (pt_B (fx (fF 5))))) (ae4 (upM pS)) af9)
  (ab7 (s_if (upM (aN3 (pt_T (fx (p_op s_eq (fx (fF 2)) (fx pI)))) (ah3 (pt_B (fx (fF 5)))))) (ae4 (upM pS)) af9)
  (ae4 (upM pS))))))
theorem ok_o9 (T:Txt K mg a base):FnOk P w K mg base (CX1 P w) 1 a.f_o9 a.d_o9 ["due"] (spM (cmOf a K) bL7 (KO (cmOf a K) (.ct .fz)) m_o9):=by
 refine T.F_o9.okX sc_o9 (fun _ _ _ _=>ac9) (fun _ _ _ _ _ _ _ _ hr h=>?_)
 refine ⟨_,(aa2 (ag0 (ab8 al2 (pv 0) af4 (ac4 _)) (aa4 (ac8 (am1 aa1))) ac3)
  (aa4 (ac8 (am1 (aa0 (aj0 al2 (pv 0) af4 (ac4 _)) (aa0 (aj0 al2 (pv 0) af4 (ac4 _)) (aa0 (aj0 al2 (pv 0) af4 (ac4 _)) (aa0 am2 aa1)))))))),?_⟩
 refine aj3 (cm:=cmOf a K) (ms:=bL7) (more:=mo_o9) (body:=bB0) ?_ rfl rfl h
 exact (ab7 (s_if (upM (pt_T (fx (p_op s_eq (fx (fF 0)) (fx pS))))) (ae4 (upM (ap6 ad3))) af9)
  (ae4 (upM (ap6 (aa3 (p_op s_eq (fx (fF 0)) (fx pS)) (aa3 (p_op s_eq (fx (fF 0)) (fx pS)) (aa3 (p_op s_eq (fx (fF 0)) (fx pS)) (aa3 pB ad3))))))))
theorem bl7:CompSc (aa6 s_q9) (Gd.aZ0 (Gd.bH0 (Gd.nth (ah8 s_q9) 0))) "b" ["ways", "a"]:=by constructor <;> first | rfl | decide +kernel
theorem ok_q9 (T:Txt K mg a base):FnOk P w K mg base (CX1 P w) 1 a.f_q9 a.d_q9 ["ways", "size", "a"] (spM (cmOf a K) bL5 (KO (cmOf a K) (.ct .fz)) m_q9):=by
 refine T.F_q9.okX sc_q9 (fun _ _ _ _=>ac9) (fun _ _ _ _ _ _ _ _ hr h=>?_)
 have hu65:=Mi.hu65 hr
 refine ⟨_,(aa4 (ac8 (aX6 rfl (aq9 rfl T.z_range (aa0 (pv 1) aa1)) bl7 (ix:=[0,2]) rfl (fun _ _ _ _=>aX0 (ab8 (aI2 K rfl hu65) (ag6 (aa0 (ab4 (ah0 rfl) rfl T.z_min Gd.av7 (aa0 (pv 2) (aa0 (pv 0) aa1))) (aa0 (ab4 (ah1 rfl) rfl T.z_max Gd.av8 (aa0 (pv 2) (aa0 (pv 0) aa1))) aa1))) (pv 1) (by with_unfolding_all rfl))) (fun _ _ _ _=>(pv 0))))),?_⟩
 refine aj3 (cm:=cmOf a K) (ms:=bL5) (more:=mo_q9) (body:=bA8) ?_ rfl rfl h
 exact (ae4 (upM (aN9 (ix:=[0,2]) (i_r1 (fx (fF 1))) (by decide) (pt_T (fx (p_op by4 (fx (an8 (aa3 (ak6 aR1 (fx (fF 2)) (fx (fF 0))) (aa3 (ak6 aR2 (fx (fF 2)) (fx (fF 0))) ad3)))) (ux (fR 1))))) (fF 0))))
theorem bK3 (T:Txt K mg a base):FnOk P w K mg base (CX1 P w) 1 a.f_s9 a.d_s9 ["found"] (spM (cmOf a K) bL3 (KR (cmOf a K) .F) m_s9):=by
 refine T.F_s9.okX sc_s9 (fun _ _ _ _=>ac9) (fun _ _ _ _ _ _ _ _ hr h=>?_)
 refine ⟨_,(aa4 (ac8 (aN7 (ab4 (an5 K rfl) rfl T.z_isinstance Gd.ab9 (aa0 (pv 0) (aa0 (ar1 rfl T.z_int Gd.bQ2 (v:= .ty "int") rfl) aa1))) (aX5 (bI8 (ab4 (an5 K rfl) rfl T.z_isinstance Gd.ab9 (aa0 (pv 0) (aa0 (ar1 rfl T.z_bool Gd.bf4 (v:= .ty "bool") rfl) aa1)))))))),?_⟩
 refine ad2 (cm:=cmOf a K) (ms:=bL3) (more:=mo_s9) (body:=bA6) ?_ rfl rfl (fun _ _ _=>rnon) h
 exact (ae4 (upM (bi1 (fx (ak6 bh2 (fx (fF 0)) (fx pT))) (p_not (fx (ak6 bh2 (fx (fF 0)) (fx pT)))))))
theorem ok_t9 (T:Txt K mg a base):FnOk P w K mg base (CX1 P w) 1 a.f_t9 a.d_t9 ["houses", "count"] (spM (cmOf a K) bL2 (KR (cmOf a K) .F) m_t9):=by
 obtain ⟨t_SEAT,g_SEAT⟩:=T.g_SEAT
 refine T.F_t9.okX sc_t9 (fun _ _ _ _=>ac9) (fun _ _ _ _ _ _ _ _ hr h=>?_)
 refine ⟨_,(aa4 (ag0 (PW.pt (aC9 (ab8 aY1 (aD4 (aS8 K rfl rfl) rfl T.z_min Gd.av7 (aa0 (pv 0) aa1) (aX4 (al1 rfl g_SEAT (v:= .int 0) ⟨_,rfl⟩) bp2)) ab1 (ac4 _)) (aq7 (ab8 bz6 (aD4 (aS9 K rfl rfl) rfl T.z_max Gd.av8 (aa0 (pv 0) aa1) (aX4 (al1 rfl g_SEAT (v:= .int 0) ⟨_,rfl⟩) bp2)) (pv 1) (ac4 _))))) (aa4 (am0 ar2 rfl rfl T.mgC_NoHouse T.ek_NoHouse (aa0 af4 aa1))) ac3)),?_⟩
 refine ad2 (cm:=cmOf a K) (ms:=bL2) (more:=mo_t9) (body:=bA5) ?_ rfl rfl (fun _ _ _=>rnon) h
 exact (s_if (upM (aD1 (pt_T (fx (p_op s_lt (fx (bJ2 (ux (fR 0)) (fx pI))) (fx pI)))) (pt_T (fx (p_op s_ge (fx (bJ3 (ux (fR 0)) (fx pI))) (fx (fF 1))))))) (aq6 (c:=11)) af9)
theorem bz7 (T:Txt K mg a base):FnOk P w K mg base (CX1 P w) 2 a.f_g9 a.d_g9 ["self", "houses"] (spM (cmOf a K) bM5 (KR (cmOf a K) .F) m_g9):=by
 refine T.F_g9.okX sc_g9 (fun _ _ _ _=>ac9) (fun _ _ _ _ _ _ _ _ hr h=>?_)
 refine ⟨_,(aa4 (af3 (ae2 (ok_t9 T) hr.mm rfl T.m_t9 T.kp_t9 T.b_t9 .nil af0 (aa0 (pv 1) (aa0 (af5 K rfl (pv 0) rfl) aa1))))),?_⟩
 refine ad2 (cm:=cmOf a K) (ms:=bM5) (more:=mo_g9) (body:=bB8) ?_ rfl rfl (fun _ _ _=>rnon) h
 exact (ai7 (upM (aj1 (aa5 (aU (fR 1)) (aa5 (aF (rS (k:= .X) (ux (aY0 (c:=0) T.cl_Guild T.n_house_count (rc (fR 0)))))) ae5)) rfl)))
theorem ok_b9 (T:Txt K mg a base):FnOk P w K mg base (CX1 P w) 3 a.f_b9 a.d_b9 ["self", "a", "b"] (spM (cmOf a K) bN0 (KR (cmOf a K) .F) m_b9):=by
 refine T.F_b9.okX sc_b9 (fun _ _ _ _=>ac9) (fun _ _ _ _ _ _ _ _ hr h=>?_)
 have hu:=bk2 hr
 refine ⟨_,(aa2 (af3 (ah4 (pv 0) T.cl_Guild T.me_g9 (bz7 T) hr.mm T.b_g9 .nil af0 (aa0 (am1 (aa0 (pv 1) (aa0 (pv 2) aa1))) aa1)))
  (aa4 (ac8 (bJ0 (aX9 hu (ag6 (aa0 (pv 1) (aa0 (pv 2) aa1))) (af5 K rfl (pv 0) rfl)))))),?_⟩
 refine ad2 (cm:=cmOf a K) (ms:=bN0) (more:=mo_b9) (body:=bC3) ?_ rfl rfl (fun _ _ _=>rnon) h
 exact (ab7 (ai7 (upM (aq8 (c:=0) (aU (fR 0)) (aa5 (aF (oF (ap6 (aa3 (fF 1) (aa3 (fF 2) ad3))))) ae5) rfl)))
  (ae4 (upM (bz3 (fx (an8 (aa3 (fF 1) (aa3 (fF 2) ad3)))) (rc (aY0 (c:=0) T.cl_Guild T.n_ways (rc (fR 0))))))))
theorem bK5 (T:Txt K mg a base):FnOk P w K mg base (CX1 P w) 3 a.f_f9 a.d_f9 ["self", "a"] (spM (cmOf a K) bM6 (KO (cmOf a K) (.ct .fz)) m_f9):=by
 refine T.F_f9.okX sc_f9 (fun _ _ _ _=>ac9) (fun _ _ _ _ _ _ _ _ hr h=>?_)
 refine ⟨_,(aa2 (af3 (ah4 (pv 0) T.cl_Guild T.me_g9 (bz7 T) hr.mm T.b_g9 .nil af0 (aa0 (am1 (aa0 (pv 1) aa1)) aa1)))
  (aa4 (ac8 (ah4 (pv 0) T.cl_Guild T.me_c9 (ok_c9 T) hr.mm T.b_c9 .nil af0 (aa0 (af5 K rfl (pv 0) rfl) (aa0 (pv 1) aa1)))))),?_⟩
 refine aj3 (cm:=cmOf a K) (ms:=bM6) (more:=mo_f9) (body:=bB9) ?_ rfl rfl h
 exact (ab7 (ai7 (upM (aq8 (c:=0) (aU (fR 0)) (aa5 (aF (oF (ap6 (aa3 (fF 1) ad3)))) ae5) rfl)))
  (ae4 (upM (aI0 (c:=0) (aU (fR 0)) (aa5 (aU (aY0 (c:=0) T.cl_Guild T.n_ways (rc (fR 0)))) (aa5 (aF (fF 1)) ae5)) rfl))))
theorem bK4 (T:Txt K mg a base):FnOk P w K mg base (CX1 P w) 3 a.f_h9 a.d_h9 ["self", "a", "b"] (spM (cmOf a K) bM4 (KR (cmOf a K) .F) m_h9):=by
 refine T.F_h9.okX sc_h9 (fun _ _ _ _=>ac9) (fun _ _ _ _ _ _ _ _ hr h=>?_)
 refine ⟨_,(aa2 (af3 (ah4 (pv 0) T.cl_Guild T.me_g9 (bz7 T) hr.mm T.b_g9 .nil af0 (aa0 (am1 (aa0 (pv 1) (aa0 (pv 2) aa1))) aa1)))
  (aa4 (ag0 (ab8 al2 (pv 1) (pv 2) (ac4 _)) (aa4 (am0 ar2 rfl rfl T.mgC_NoHouse T.ek_NoHouse (aa0 af4 aa1))) ac3))),?_⟩
 refine ad2 (cm:=cmOf a K) (ms:=bM4) (more:=mo_h9) (body:=bB7) ?_ rfl rfl (fun _ _ _=>rnon) h
 exact (ab7 (ai7 (upM (aq8 (c:=0) (aU (fR 0)) (aa5 (aF (oF (ap6 (aa3 (fF 1) (aa3 (fF 2) ad3))))) ae5) rfl)))
  (s_if (upM (pt_T (fx (p_op s_eq (fx (fF 1)) (fx (fF 2)))))) (aq6 (c:=11)) af9))
theorem ok_p9 (T:Txt K mg a base):FnOk P w K mg base (CX1 P w) 3 a.f_p9 a.d_p9 ["size"] (spM (cmOf a K) bL6 (KR (cmOf a K) .F) m_p9):=by
 refine T.F_p9.okX bg8 (fun _ _ _ _=>ac9) (fun _ _ _ _ _ _ _ _ hr h=>?_)
 refine ⟨_,(aa2 (ae1 (i:=1) bg8.nd rfl (Or.inl rfl) am2)
  (aa2 (aN4 (j:=2) (ok:=okL K [.ref a.C_GuildError]) rfl rfl (aG3 (br3 T.mk_Guild (bK6 T) hr.mm rfl T.mgC_Guild T.b_a9 .nil (aa0 (pv 0) aa1))) rfl T.mgC_NoHouse T.ek_NoHouse bg8.nd rfl rfl (Or.inl rfl) (fun ea oe C hc hk=>aa4 (ae1 (i:=1) bg8.nd rfl (Or.inl rfl) (ab4 (an6 (g:= .ref a.C_GuildError) (c:= .ref a.C_GuildError) hc (fun _ h=>h) hk.1 (hk.kit 0 rfl)) rfl T.z_isinstance Gd.ab9 (aa0 (pv 2) (aa0 (al1 rfl T.mgC_GuildError (v:= .ref a.C_GuildError) rfl) aa1))))))
  (aa4 (ac8 (pv 1))))),?_⟩
 refine ad2 (cm:=cmOf a K) (ms:=bL6) (more:=mo_p9) (body:=bA9) ?_ rfl rfl (fun _ _ _=>rnon) h
 exact (ab7 (ag1 (i:=1) (upM pB) rfl rfl)
  (ab7 (aV9 (g:=11) (l:=[11]) (bb0 fun E=>(upM (bp1 (c:=0) (aa5 (aF (fF 0)) ae5) rfl))) rfl (aE5 _ T.ek_NoHouse T.sb_NoHouse_NoHouse ⟨T.xa_NoHouse,(ab0 T.kt_NoHouse_GuildError am6).1⟩ (ag1 (i:=1) (upM pB) rfl rfl) (h_isA T.kt_NoHouse_GuildError) bO3))
  (ae4 (upM (fF 1)))))
theorem ok_d9 (T:Txt K mg a base):FnOk P w K mg base (CX1 P w) 4 a.f_d9 a.d_d9 ["self", "a", "b"] (spM (cmOf a K) bM8 (KR (cmOf a K) .F) m_d9):=by
 refine T.F_d9.okX sc_d9 (fun _ _ _ _=>ac9) (fun _ _ _ _ _ _ _ _ hr h=>?_)
 have hu:=bk2 hr
 refine ⟨_,(aa2 (af3 (ah4 (pv 0) T.cl_Guild T.me_h9 (bK4 T) hr.mm T.b_h9 .nil af0 (aa0 (pv 1) (aa0 (pv 2) aa1))))
  (aa2 (ag0 (aX1 (aX9 hu (ag6 (aa0 (pv 1) (aa0 (pv 2) aa1))) (af5 K rfl (pv 0) rfl))) (aa4 (am0 ar2 rfl rfl T.mgC_WayThere T.ek_WayThere (aa0 af4 aa1))) ac3)
  (aa2 (aX2 hu (af5 K rfl (pv 0) rfl) (ag6 (aa0 (pv 1) (aa0 (pv 2) aa1))) am2 rfl)
  (aa4 (aX2 hu (af5 K rfl (pv 0) rfl) (ag6 (aa0 (pv 2) (aa0 (pv 1) aa1))) am2 rfl))))),?_⟩
 refine ad2 (cm:=cmOf a K) (ms:=bM8) (more:=mo_d9) (body:=bC1) ?_ rfl rfl (fun _ _ _=>rnon) h
 exact (ab7 (ai7 (upM (aq8 (c:=0) (aX (fO 0)) (aa5 (aF (fF 1)) (aa5 (aF (fF 2)) ae5)) rfl)))
  (ab7 (s_if (upM (pt_B (fx (bz3 (fx (an8 (aa3 (fF 1) (aa3 (fF 2) ad3)))) (bp4 (c:=0) (i:=0) T.cl_Guild T.n_ways rfl rfl))))) (aq6 (c:=13)) af9)
  (ab7 (bn1 (pthF (c:=0) (i:=0) T.cl_Guild T.n_ways rfl rfl) (fx (an8 (aa3 (fF 1) (aa3 (fF 2) ad3)))) (upM pB))
  (bn1 (pthF (c:=0) (i:=0) T.cl_Guild T.n_ways rfl rfl) (fx (an8 (aa3 (fF 2) (aa3 (fF 1) ad3)))) (upM pB)))))
theorem ok_e9 (T:Txt K mg a base):FnOk P w K mg base (CX1 P w) 4 a.f_e9 a.d_e9 ["self", "a", "b"] (spM (cmOf a K) bM7 (KR (cmOf a K) .F) m_e9):=by
 refine T.F_e9.okX sc_e9 (fun _ _ _ _=>ac9) (fun _ _ _ _ _ _ _ _ hr h=>?_)
 have hu:=bk2 hr
 refine ⟨_,(aa2 (af3 (ah4 (pv 0) T.cl_Guild T.me_h9 (bK4 T) hr.mm T.b_h9 .nil af0 (aa0 (pv 1) (aa0 (pv 2) aa1))))
  (aa2 (ag0 (aX1 (aX8 hu (ag6 (aa0 (pv 1) (aa0 (pv 2) aa1))) (af5 K rfl (pv 0) rfl))) (aa4 (am0 ar2 rfl rfl T.mgC_NoWay T.ek_NoWay (aa0 af4 aa1))) ac3)
  (aa2 (af3 (aN6 hu (af5 K rfl (pv 0) rfl) (ag6 (aa0 (pv 1) (aa0 (pv 2) aa1))) ⟨rfl,rfl,rfl,rfl⟩))
  (aa4 (af3 (aN6 hu (af5 K rfl (pv 0) rfl) (ag6 (aa0 (pv 2) (aa0 (pv 1) aa1))) ⟨rfl,rfl,rfl,rfl⟩)))))),?_⟩
 refine ad2 (cm:=cmOf a K) (ms:=bM7) (more:=mo_e9) (body:=bC0) ?_ rfl rfl (fun _ _ _=>rnon) h
 exact (ab7 (ai7 (upM (aq8 (c:=0) (aX (fO 0)) (aa5 (aF (fF 1)) (aa5 (aF (fF 2)) ae5)) rfl)))
  (ab7 (s_if (upM (pt_B (fx (bJ7 (fx (an8 (aa3 (fF 1) (aa3 (fF 2) ad3)))) (bp4 (c:=0) (i:=0) T.cl_Guild T.n_ways rfl rfl))))) (aq6 (c:=12)) af9)
  (ab7 (ai7 (bq1 (pthF (c:=0) (i:=0) T.cl_Guild T.n_ways rfl rfl) (fx (an8 (aa3 (fF 1) (aa3 (fF 2) ad3))))))
  (ai7 (bq1 (pthF (c:=0) (i:=0) T.cl_Guild T.n_ways rfl rfl) (fx (an8 (aa3 (fF 2) (aa3 (fF 1) ad3)))))))))
theorem bi2 (T:Txt K mg a base):FnOk P w K mg base (CX1 P w) 4 a.f_r9 a.d_r9 ["guild", "ways", "size", "a"] (spM (cmOf a K) bL4 (KR (cmOf a K) .F) m_r9):=by
 refine T.F_r9.okX aV8 (fun _ _ _ _=>ac9) (fun _ _ _ _ _ _ _ _ hr h=>?_)
 have hu64:=hr.units
 refine ⟨_,(aa2 (ag0 (PW.pt (aC9 (ab8 aY1 (pv 3) ab1 (ac4 _)) (aq7 (ab8 bz6 (pv 3) (pv 2) (ac4 _))))) (aa4 (ac8 am2)) ac3)
  (aa2 (ae1 (i:=4) aV8.nd rfl (Or.inl rfl) (ah4 (pv 0) T.cl_Guild T.me_f9 (bK5 T) hr.mm T.b_f9 .nil af0 (aa0 (pv 3) aa1)))
  (aa2 (ae1 (i:=5) aV8.nd rfl (Or.inl rfl) (ae2 (ok_q9 T) hr.mm rfl T.m_q9 T.kp_q9 T.b_q9 .nil af0 (aa0 (pv 1) (aa0 (pv 2) (aa0 (pv 3) aa1)))))
  (aa2 (ag0 (PW.pt (aC9 (al9 (ak9 (ab4 (an5 K rfl) rfl T.z_isinstance Gd.ab9 (aa0 (pv 4) (aa0 (ar1 rfl T.z_list Gd.bF7 (v:= .ty "list") rfl) aa1))))) (aq7 (ab8 bJ9 (ab4 (ah9 K rfl) rfl T.z_len Gd.bf3 (aa0 (pv 4) aa1)) (ab4 (ah9 K rfl) rfl T.z_len Gd.bf3 (aa0 (pv 5) aa1)) (ac4 _))))) (aa4 (ac8 am2)) ac3)
  (aa2 (aN5 ownX rfl (ay9 K rfl (pv 4)) (ar0 (i:=6) aV8.nd rfl (Or.inl rfl)) (aa4 (ag0 (al9 (ak9 (ae2 (bK3 T) hr.mm rfl T.m_s9 T.kp_s9 T.b_s9 .nil af0 (aa0 (pv 6) aa1)))) (aa4 (ac8 am2)) ac3)))
  (aa2 (ae1 (i:=7) aV8.nd rfl (Or.inl rfl) (aj0 (aY2 K rfl hu64) (pv 4) (pv 5) (ac4 _)))
  (aa2 (af3 (bz2 PySem.F.plainAttrs_list PySem.F.slot_list_append PySem.F.type_list_append ar6 (pv 4) (aa0 (pv 3) aa1)))
  (aa4 (ac8 (aN7 (pv 7) (aX5 (aj0 (aY2 K rfl hu64) (ah4 (pv 0) T.cl_Guild T.me_f9 (bK5 T) hr.mm T.b_f9 .nil af0 (aa0 (pv 3) aa1)) (pv 5) (ac4 _))))))))))))),?_⟩
 refine ad2 (cm:=cmOf a K) (ms:=bL4) (more:=mo_r9) (body:=bA7) ?_ rfl rfl (fun _ _ _=>rnon) h
 exact (ab7 (s_if (upM (aD1 (pt_T (fx (p_op s_lt (fx (fF 3)) (fx pI)))) (pt_T (fx (p_op s_ge (fx (fF 3)) (fx (fF 2))))))) (ae4 (upM pB)) af9)
  (ab7 (ao6 (i:=4) (upM (aI0 (c:=0) (aU (fR 0)) (aa5 (aF (fF 3)) ae5) rfl)) rfl rfl)
  (ab7 (ag1 (i:=5) (upM (oF (aX7 (aa5 (aU (fR 1)) (aa5 (aF (fF 2)) (aa5 (aF (fF 3)) ae5))) rfl))) rfl rfl)
  (ab7 (s_if (upM (aD1 (ah3 (pt_B (fx (ak6 bh2 (cx (fC 4)) (fx pT))))) (pt_T (fx (p_op s_ne (fx (bz4 by3 (cx (fC 4)))) (fx (bz4 by3 (fx (fF 5))))))))) (ae4 (upM pB)) af9)
  (ab7 (bI0 (i:=4) rfl (tgF (i:=6) rfl rfl) (s_if (upM (ah3 (pt_B (fx (aj1 (aa5 (aF (fF 6)) ae5) rfl))))) (ae4 (upM pB)) af9))
  (ab7 (ag1 (i:=7) (upM (p_op aW0 (cx (fC 4)) (fx (fF 5)))) rfl rfl)
  (ab7 (ai7 (aO6 (pthV (i:=4) rfl) (fF 3)))
  (ae4 (upM (bi1 (fx (fF 7)) (p_op aW0 (fx (oF (aI0 (c:=0) (aU (fR 0)) (aa5 (aF (fF 3)) ae5) rfl))) (fx (fF 5)))))))))))))
theorem ok_l9 (T:Txt K mg a base):FnOk P w K mg base (CX1 P w) 5 a.f_l9 a.d_l9 ["guild", "kind", "a", "b"] (spM (cmOf a K) bM0 (KO (cmOf a K) (.ct .fz)) m_l9):=by
 refine T.F_l9.okX bh0 (fun _ _ _ _=>ac9) (fun _ _ _ _ _ _ _ _ hr h=>?_)
 refine ⟨_,(aa2 (ae1 (i:=4) bh0.nd rfl (Or.inl rfl) (am1 aa1))
  (aa2 (aN4 (j:=5) (ok:=okL K [.ref a.C_NoHouse,.ref a.C_WayThere,.ref a.C_NoWay,.type "ValueError"]) rfl rfl (tb_if (ab8 al2 (pv 1) ab1 (ac4 _)) (aG3 (aT4 (pv 0) T.cl_Guild T.me_d9 (ok_d9 T) hr.mm T.b_d9 .nil (aa0 (pv 2) (aa0 (pv 3) aa1)))) (aG3 (aT4 (pv 0) T.cl_Guild T.me_e9 (ok_e9 T) hr.mm T.b_e9 .nil (aa0 (pv 2) (aa0 (pv 3) aa1))))) rfl T.mgC_GuildError T.ek_GuildError bh0.nd rfl rfl (Or.inl rfl) (fun ea oe C hc hk=>aa4 (ae1 (i:=4) bh0.nd rfl (Or.inl rfl) (am1 (aa0 (ab4 (an6 (g:= .ref a.C_NoHouse) (c:= .ref a.C_NoHouse) hc (fun _ h=>h) hk.1 (hk.kit 0 rfl)) rfl T.z_isinstance Gd.ab9 (aa0 (pv 5) (aa0 (al1 rfl T.mgC_NoHouse (v:= .ref a.C_NoHouse) rfl) aa1))) (aa0 (ab4 (an6 (g:= .ref a.C_WayThere) (c:= .ref a.C_WayThere) hc (fun _ h=>h) hk.1 (hk.kit 1 rfl)) rfl T.z_isinstance Gd.ab9 (aa0 (pv 5) (aa0 (al1 rfl T.mgC_WayThere (v:= .ref a.C_WayThere) rfl) aa1))) (aa0 (ab4 (an6 (g:= .ref a.C_NoWay) (c:= .ref a.C_NoWay) hc (fun _ h=>h) hk.1 (hk.kit 2 rfl)) rfl T.z_isinstance Gd.ab9 (aa0 (pv 5) (aa0 (al1 rfl T.mgC_NoWay (v:= .ref a.C_NoWay) rfl) aa1))) (aa0 (ab4 (an6 (g:= .ty "ValueError") (c:= .type "ValueError") hc (fun _ h=>h) hk.1 (hk.kit 3 rfl)) rfl T.z_isinstance Gd.ab9 (aa0 (pv 5) (aa0 (ar1 rfl T.z_ValueError Gd.aC0 (v:= .ty "ValueError") rfl) aa1))) aa1))))))))
  (aa4 (ac8 (pv 4))))),?_⟩
 refine aj3 (cm:=cmOf a K) (ms:=bM0) (more:=mo_l9) (body:=bB3) ?_ rfl rfl h
 exact (ab7 (ao6 (i:=4) (upM (ap6 ad3)) rfl rfl)
  (ab7 (aV9 (g:=10) (l:=[10,11,12,13]) (f_if (fun E=>(upM (pt_T (fx (p_op s_eq (fx (fF 1)) (fx pI)))))) (bb0 fun E=>(bq0 (c:=0) (aO (i:=0)) (aa5 (aF (fF 2)) (aa5 (aF (fF 3)) ae5)) ⟨rfl,trivial,trivial,trivial⟩ (by decide) (by decide))) (bb0 fun E=>(bq0 (c:=0) (aO (i:=0)) (aa5 (aF (fF 2)) (aa5 (aF (fF 3)) ae5)) ⟨rfl,trivial,trivial,trivial⟩ (by decide) (by decide)))) rfl (aE5 _ T.ek_GuildError T.sb_GuildError_GuildError ⟨T.xa_GuildError,(ab0 T.kt_GuildError_NoHouse (ab0 T.kt_GuildError_WayThere (ab0 T.kt_GuildError_NoWay (ab0 T.kt_GuildError_ValueError am6)))).1⟩ (ao6 (i:=4) (upM (ap6 (aa3 pB (aa3 pB (aa3 pB (aa3 pB ad3)))))) rfl rfl) (bk4 (L:=[(.ref a.C_NoHouse,.ref a.C_NoHouse),(.ref a.C_WayThere,.ref a.C_WayThere),(.ref a.C_NoWay,.ref a.C_NoWay),(.ty "ValueError",.type "ValueError")]) (bl:=[false,false,false,true]) (ab0 T.kt_GuildError_NoHouse (ab0 T.kt_GuildError_WayThere (ab0 T.kt_GuildError_NoWay (ab0 T.kt_GuildError_ValueError am6)))).2) (aE5 _ T.ek_NoHouse T.sb_NoHouse_GuildError ⟨T.xa_NoHouse,(ab0 T.kt_NoHouse_NoHouse (ab0 T.kt_NoHouse_WayThere (ab0 T.kt_NoHouse_NoWay (ab0 T.kt_NoHouse_ValueError am6)))).1⟩ (ao6 (i:=4) (upM (ap6 (aa3 pB (aa3 pB (aa3 pB (aa3 pB ad3)))))) rfl rfl) (bk4 (L:=[(.ref a.C_NoHouse,.ref a.C_NoHouse),(.ref a.C_WayThere,.ref a.C_WayThere),(.ref a.C_NoWay,.ref a.C_NoWay),(.ty "ValueError",.type "ValueError")]) (bl:=[true,false,false,true]) (ab0 T.kt_NoHouse_NoHouse (ab0 T.kt_NoHouse_WayThere (ab0 T.kt_NoHouse_NoWay (ab0 T.kt_NoHouse_ValueError am6)))).2) (aE5 _ T.ek_NoWay T.sb_NoWay_GuildError ⟨T.xa_NoWay,(ab0 T.kt_NoWay_NoHouse (ab0 T.kt_NoWay_WayThere (ab0 T.kt_NoWay_NoWay (ab0 T.kt_NoWay_ValueError am6)))).1⟩ (ao6 (i:=4) (upM (ap6 (aa3 pB (aa3 pB (aa3 pB (aa3 pB ad3)))))) rfl rfl) (bk4 (L:=[(.ref a.C_NoHouse,.ref a.C_NoHouse),(.ref a.C_WayThere,.ref a.C_WayThere),(.ref a.C_NoWay,.ref a.C_NoWay),(.ty "ValueError",.type "ValueError")]) (bl:=[false,false,true,true]) (ab0 T.kt_NoWay_NoHouse (ab0 T.kt_NoWay_WayThere (ab0 T.kt_NoWay_NoWay (ab0 T.kt_NoWay_ValueError am6)))).2) (aE5 _ T.ek_WayThere T.sb_WayThere_GuildError ⟨T.xa_WayThere,(ab0 T.kt_WayThere_NoHouse (ab0 T.kt_WayThere_WayThere (ab0 T.kt_WayThere_NoWay (ab0 T.kt_WayThere_ValueError am6)))).1⟩ (ao6 (i:=4) (upM (ap6 (aa3 pB (aa3 pB (aa3 pB (aa3 pB ad3)))))) rfl rfl) (bk4 (L:=[(.ref a.C_NoHouse,.ref a.C_NoHouse),(.ref a.C_WayThere,.ref a.C_WayThere),(.ref a.C_NoWay,.ref a.C_NoWay),(.ty "ValueError",.type "ValueError")]) (bl:=[false,true,false,true]) (ab0 T.kt_WayThere_NoHouse (ab0 T.kt_WayThere_WayThere (ab0 T.kt_WayThere_NoWay (ab0 T.kt_WayThere_ValueError am6)))).2) bO3)))))
  (ae4 (m_mv (i:=4) rfl))))
theorem ok_n9 (T:Txt K mg a base):FnOk P w K mg base (CX1 P w) 5 a.f_n9 a.d_n9 ["guild", "ways", "size", "cell"] (spM (cmOf a K) bL8 (KR (cmOf a K) .F) m_n9):=by
 refine T.F_n9.okX bg9 (fun _ _ _ _=>ac9) (fun _ _ _ _ _ _ _ _ hr h=>?_)
 have hu65:=Mi.hu65 hr
 refine ⟨_,(aa2 (aN5 ownX rfl (aq9 rfl T.z_range (aa0 (pv 2) aa1)) (ar0 (i:=4) bg9.nd rfl (Or.inl rfl)) (aa2 (ag0 (al9 (ak9 (ae2 (bi2 T) hr.mm rfl T.m_r9 T.kp_r9 T.b_r9 .nil af0 (aa0 (pv 0) (aa0 (pv 1) (aa0 (pv 2) (aa0 (pv 4) aa1))))))) (aa4 (ac8 am2)) ac3)
  (aa2 (ae1 (i:=5) bg9.nd rfl (Or.inl rfl) (ad7 ai0 (ad7 ar4 (ad7 bK0 (pv 4) ab1) (pv 3)) (pv 2)))
  (aa2 (ae1 (i:=6) bg9.nd rfl (Or.inl rfl) (ah4 (pv 0) T.cl_Guild T.me_b9 (ok_b9 T) hr.mm T.b_b9 .nil af0 (aa0 (pv 4) (aa0 (pv 5) aa1))))
  (aa4 (ag0 (PW.pt (aC9 (al9 (ak9 (ab4 (an5 K rfl) rfl T.z_isinstance Gd.ab9 (aa0 (pv 6) (aa0 (ar1 rfl T.z_bool Gd.bf4 (v:= .ty "bool") rfl) aa1))))) (aq7 (ab8 bJ9 (pv 6) (aj0 (aI2 K rfl hu65) (ag6 (aa0 (ab4 (ah0 rfl) rfl T.z_min Gd.av7 (aa0 (pv 4) (aa0 (pv 5) aa1))) (aa0 (ab4 (ah1 rfl) rfl T.z_max Gd.av8 (aa0 (pv 4) (aa0 (pv 5) aa1))) aa1))) (pv 1) (by with_unfolding_all rfl)) (ac4 _))))) (aa4 (ac8 am2)) ac3))))))
  (aa4 (ac8 am2))),?_⟩
 refine ad2 (cm:=cmOf a K) (ms:=bL8) (more:=mo_n9) (body:=bB1) ?_ rfl rfl (fun _ _ _=>rnon) h
 exact (ab7 (by5 (upM (i_r1 (fx (fF 2)))) (.inl rfl) (tgF (i:=4) rfl rfl) (ab7 (s_if (upM (ah3 (pt_B (fx (aj1 (aa5 (aU (fR 0)) (aa5 (aU (fR 1)) (aa5 (aF (fF 2)) (aa5 (aF (fF 4)) ae5)))) rfl))))) (ae4 (upM pB)) af9)
  (ab7 (ag1 (i:=5) (upM (p_op ap5 (fx (p_op aH8 (fx (p_op s_mul (fx (fF 4)) (fx pI))) (fx (fF 3)))) (fx (fF 2)))) rfl rfl)
  (ab7 (ag1 (i:=6) (upM (aq8 (c:=0) (aU (fR 0)) (aa5 (aF (fF 4)) (aa5 (aF (fF 5)) ae5)) rfl)) rfl rfl)
  (s_if (upM (aD1 (ah3 (pt_B (fx (ak6 bh2 (fx (fF 6)) (fx pT))))) (pt_T (fx (p_op s_ne (fx (fF 6)) (fx (p_op by4 (fx (an8 (aa3 (ak6 aR1 (fx (fF 4)) (fx (fF 5))) (aa3 (ak6 aR2 (fx (fF 4)) (fx (fF 5))) ad3)))) (ux (fR 1))))))))) (ae4 (upM pB)) af9)))))
  (ae4 (upM pB)))
theorem ok_j9 (T:Txt K mg a base):FnOk P w K mg base (CX1 P w) 6 a.f_j9 a.d_j9 ["script"] (spM (cmOf a K) bM2 (KR (cmOf a K) .F) m_j9):=by
 refine T.F_j9.okX ap4 (fun _ _ _ _=>ac9) (fun _ _ _ _ _ _ _ _ hr h=>?_)
 have hu64:=hr.units
 have hu66:=Mi.hu66 hr
 refine ⟨_,(aa2 (ae1 (i:=1) ap4.nd rfl (Or.inl rfl) (ae2 (ok_k9 T) hr.mm rfl T.m_k9 T.kp_k9 T.b_k9 .nil af0 (aa0 (pv 0) (aa0 ab1 aa1))))
  (aa2 (aN5 ownX rfl (ay9 K rfl (am1 (aa0 ab1 (aa0 ab1 (aa0 (ad7 aO0 (ad7 aO0 ab1 ab1) (ad7 ai0 (pv 1) (ad7 bp6 ab1 ab1))) (aa0 (ad7 ar4 ab1 (ad7 ai0 (pv 1) (ad7 bp6 ab1 ab1))) aa1)))))) (ar0 (i:=2) ap4.nd rfl (Or.inl rfl)) (aa4 (ag0 (al9 (ak9 (ae2 (ok_p9 T) hr.mm rfl T.m_p9 T.kp_p9 T.b_p9 .nil af0 (aa0 (pv 2) aa1)))) (aa4 (ac8 am2)) ac3)))
  (aa2 (ae1 (i:=3) ap4.nd rfl (Or.inl rfl) (ad7 ar4 ab1 (ad7 ai0 (pv 1) ab1)))
  (aa2 (ag0 (ab8 al2 (ad7 ai0 (ad7 ar3 (pv 1) ab1) ab1) ab1 (ac4 _)) (aa4 (ae1 (i:=3) ap4.nd rfl (Or.inl rfl) (ad7 ar4 ab1 (ad7 ai0 (ad7 ar3 (pv 1) ab1) ab1)))) ac3)
  (aa2 (ae1 (i:=4) ap4.nd rfl (Or.inl rfl) (bz1 T.mk_Guild (bK6 T) hr.mm rfl T.mgC_Guild T.b_a9 .nil af0 (aa0 (pv 3) aa1)))
  (aa2 (ae1 (i:=5) ap4.nd rfl (Or.inl rfl) (am1 aa1))
  (aa2 (aN5 ownX rfl (ay9 K rfl (bh8 (bg6 K rfl) (pv 0) (by8 ab1) by9)) (ar0 (i:=6) ap4.nd rfl (Or.inl rfl)) (aa2 (ae1 (i:=7) ap4.nd rfl (Or.inl rfl) (ad7 aO0 (ad7 ai0 (ad7 ar3 (pv 6) ab1) (ad7 ar4 (pv 3) ab1)) ab1))
  (aa2 (ae1 (i:=8) ap4.nd rfl (Or.inl rfl) (ad7 aO0 (ad7 ai0 (ad7 ar3 (ad7 ar3 (pv 6) ab1) (ad7 ar4 (pv 3) ab1)) (ad7 ar4 (pv 3) ab1)) ab1))
  (aa2 (ae1 (i:=9) ap4.nd rfl (Or.inl rfl) (ae2 (ok_m9 T) hr.mm rfl T.m_m9 T.kp_m9 T.b_m9 .nil af0 (aa0 (pv 5) (aa0 (pv 3) (aa0 (ad7 ai0 (pv 6) ab1) (aa0 (pv 7) (aa0 (pv 8) aa1)))))))
  (aa2 (ag0 (al9 (ak9 (ae2 (bi2 T) hr.mm rfl T.m_r9 T.kp_r9 T.b_r9 .nil af0 (aa0 (pv 4) (aa0 (pv 5) (aa0 (pv 3) (aa0 (pv 7) aa1))))))) (aa4 (ac8 am2)) ac3)
  (aa2 (ag0 (ab8 (bz5 K rfl hu64) (ae2 (ok_l9 T) hr.mm rfl T.m_l9 T.kp_l9 T.b_l9 .nil af0 (aa0 (pv 4) (aa0 (ad7 ai0 (pv 6) ab1) (aa0 (pv 7) (aa0 (pv 8) aa1))))) (ae2 (ok_o9 T) hr.mm rfl T.m_o9 T.kp_o9 T.b_o9 .nil af0 (aa0 (pv 9) aa1)) (ac4 _)) (aa4 (ac8 am2)) ac3)
  (aa2 (ag0 (PW.pt (aN0 (ab8 al2 (pv 9) af4 (ac4 _)) (ay7 (ab8 al2 (ad7 ai0 (pv 6) ab1) ab1 (ac4 _))))) (aa4 (af3 (bz2 PySem.F.plainAttrs_list PySem.F.slot_list_append PySem.F.type_list_append ar6 (pv 5) (aa0 (ag6 (aa0 (ab4 (ah0 rfl) rfl T.z_min Gd.av7 (aa0 (pv 7) (aa0 (pv 8) aa1))) (aa0 (ab4 (ah1 rfl) rfl T.z_max Gd.av8 (aa0 (pv 7) (aa0 (pv 8) aa1))) aa1))) aa1)))) ac3)
  (aa2 (ag0 (PW.pt (aN0 (ab8 al2 (pv 9) af4 (ac4 _)) (ay7 (ab8 al2 (ad7 ai0 (pv 6) ab1) ab1 (ac4 _))))) (aa4 (af3 (bz2 PySem.F.plainAttrs_list PySem.F.slot_list_remove PySem.F.type_list_remove (aY5 hu66) (pv 5) (aa0 (ag6 (aa0 (ab4 (ah0 rfl) rfl T.z_min Gd.av7 (aa0 (pv 7) (aa0 (pv 8) aa1))) (aa0 (ab4 (ah1 rfl) rfl T.z_max Gd.av8 (aa0 (pv 7) (aa0 (pv 8) aa1))) aa1))) aa1)))) ac3)
  (aa4 (ag0 (PW.pt (aC9 (al9 (ak9 (ae2 (bi2 T) hr.mm rfl T.m_r9 T.kp_r9 T.b_r9 .nil af0 (aa0 (pv 4) (aa0 (pv 5) (aa0 (pv 3) (aa0 (pv 7) aa1))))))) (aq7 (al9 (ak9 (ae2 (bi2 T) hr.mm rfl T.m_r9 T.kp_r9 T.b_r9 .nil af0 (aa0 (pv 4) (aa0 (pv 5) (aa0 (pv 3) (aa0 (pv 8) aa1)))))))))) (aa4 (ac8 am2)) ac3))))))))))
  (aa2 (ae1 (i:=10) ap4.nd rfl (Or.inl rfl) (bh9 (pv 4) T.cl_Guild T.me_i9 (ok_i9 T) hr.mm T.b_i9 .nil af0))
  (aa4 (ac8 (aN7 (ae2 (bK3 T) hr.mm rfl T.m_s9 T.kp_s9 T.b_s9 .nil af0 (aa0 (pv 10) aa1)) (aN7 (aj0 al2 (pv 10) (pv 3) (ac4 _)) (aX5 (ae2 (ok_n9 T) hr.mm rfl T.m_n9 T.kp_n9 T.b_n9 .nil af0 (aa0 (pv 4) (aa0 (pv 5) (aa0 (pv 3) (aa0 (pv 1) aa1)))))))))))))))))),?_⟩
 refine ad2 (cm:=cmOf a K) (ms:=bM2) (more:=mo_j9) (body:=bB5) ?_ rfl rfl (fun _ _ _=>rnon) h
 exact (ab7 (ag1 (i:=1) (upM (aj1 (aa5 (aU (fR 0)) (aa5 (aF pI) ae5)) rfl)) rfl rfl)
  (ab7 (by5 (upM (aZ7 (oF (ap6 (aa3 pI (aa3 pI (aa3 (p_op bh1 (fx (p_op bh1 (fx pI) (fx pI))) (fx (p_op ap5 (fx (fF 1)) (fx (p_op bH9 (fx pI) (fx pI)))))) (aa3 (p_op aH8 (fx pI) (fx (p_op ap5 (fx (fF 1)) (fx (p_op bH9 (fx pI) (fx pI)))))) ad3)))))))) (.inl rfl) (tgF (i:=2) rfl rfl) (s_if (upM (ah3 (pt_B (fx (aj1 (aa5 (aF (fF 2)) ae5) rfl))))) (ae4 (upM pB)) af9))
  (ab7 (ag1 (i:=3) (upM (p_op aH8 (fx pI) (fx (p_op ap5 (fx (fF 1)) (fx pI))))) rfl rfl)
  (ab7 (s_if (upM (pt_T (fx (p_op s_eq (fx (p_op ap5 (fx (p_op aC7 (fx (fF 1)) (fx pI))) (fx pI))) (fx pI))))) (ag1 (i:=3) (upM (p_op aH8 (fx pI) (fx (p_op ap5 (fx (p_op aC7 (fx (fF 1)) (fx pI))) (fx pI))))) rfl rfl) af9)
  (ab7 (ao6 (i:=4) (upM (bp1 (c:=0) (aa5 (aF (fF 3)) ae5) rfl)) rfl rfl)
  (ab7 (ao6 (i:=5) (upM (ap6 ad3)) rfl rfl)
  (ab7 (by5 (upM (aZ7 (oF (bJ6 (cS (k':= .F) (rc (fR 0))) (fx pI))))) (.inl rfl) (tgF (i:=6) rfl rfl) (ab7 (ag1 (i:=7) (upM (p_op bh1 (fx (p_op ap5 (fx (p_op aC7 (fx (fF 6)) (fx pI))) (fx (p_op aH8 (fx (fF 3)) (fx pI))))) (fx pI))) rfl rfl)
  (ab7 (ag1 (i:=8) (upM (p_op bh1 (fx (p_op ap5 (fx (p_op aC7 (fx (p_op aC7 (fx (fF 6)) (fx pI))) (fx (p_op aH8 (fx (fF 3)) (fx pI))))) (fx (p_op aH8 (fx (fF 3)) (fx pI))))) (fx pI))) rfl rfl)
  (ab7 (ag1 (i:=9) (upM (aj1 (aa5 (aX (cx (fC 5))) (aa5 (aF (fF 3)) (aa5 (aF (p_op ap5 (fx (fF 6)) (fx pI))) (aa5 (aF (fF 7)) (aa5 (aF (fF 8)) ae5))))) rfl)) rfl rfl)
  (ab7 (s_if (upM (ah3 (pt_B (fx (aj1 (aa5 (aX (fO 4)) (aa5 (aX (cx (fC 5))) (aa5 (aF (fF 3)) (aa5 (aF (fF 7)) ae5)))) rfl))))) (ae4 (upM pB)) af9)
  (ab7 (s_if (mt_T (mux (mfu (m_op aW0 (moF (bA4 (aa5 (aO (i:=4)) (aa5 (aF (p_op ap5 (fx (fF 6)) (fx pI))) (aa5 (aF (fF 7)) (aa5 (aF (fF 8)) ae5)))) ⟨rfl,trivial,trivial,trivial,trivial⟩ (by decide) (by decide))) (upM (fx (oF (aX7 (aa5 (aF (fF 9)) ae5) rfl)))))))) (ae4 (upM pB)) af9)
  (ab7 (s_if (upM (aN3 (pt_T (fx (p_op s_eq (fx (fF 9)) (fx pS)))) (pt_T (fx (p_op s_eq (fx (p_op ap5 (fx (fF 6)) (fx pI))) (fx pI)))))) (ai7 (aO6 (pthV (i:=5) rfl) (an8 (aa3 (ak6 aR1 (fx (fF 7)) (fx (fF 8))) (aa3 (ak6 aR2 (fx (fF 7)) (fx (fF 8))) ad3))))) af9)
  (ab7 (s_if (upM (aN3 (pt_T (fx (p_op s_eq (fx (fF 9)) (fx pS)))) (pt_T (fx (p_op s_eq (fx (p_op ap5 (fx (fF 6)) (fx pI))) (fx pI)))))) (ai7 (bj1 (pthV (i:=5) rfl) (fx (an8 (aa3 (ak6 aR1 (fx (fF 7)) (fx (fF 8))) (aa3 (ak6 aR2 (fx (fF 7)) (fx (fF 8))) ad3)))))) af9)
  (s_if (upM (aD1 (ah3 (pt_B (fx (aj1 (aa5 (aX (fO 4)) (aa5 (aX (cx (fC 5))) (aa5 (aF (fF 3)) (aa5 (aF (fF 7)) ae5)))) rfl)))) (ah3 (pt_B (fx (aj1 (aa5 (aX (fO 4)) (aa5 (aX (cx (fC 5))) (aa5 (aF (fF 3)) (aa5 (aF (fF 8)) ae5)))) rfl)))))) (ae4 (upM pB)) af9)))))))))
  (ab7 (ag1 (i:=10) (upM (aq8 (c:=0) (aX (fO 4)) ae5 rfl)) rfl rfl)
  (ae4 (upM (bi1 (fx (aj1 (aa5 (aF (fF 10)) ae5) rfl)) (bi1 (fx (p_op s_eq (fx (fF 10)) (fx (fF 3)))) (aj1 (aa5 (aX (fO 4)) (aa5 (aX (cx (fC 5))) (aa5 (aF (fF 3)) (aa5 (aF (fF 1)) ae5)))) rfl)))))))))))))
end K01
namespace K01
open PySem L2 Mi Cl
noncomputable section
structure GuildT where
 house_count:Int
 ways:(DI Bool)
 likings:(DI Int)
 shuns:(DI Bool)
 wish_ranks:(DI Int)
noncomputable def ad0:GuildT→D:=fun g=> .obj 0 ["house_count", "ways", "likings", "shuns", "wish_ranks"] [D.int g.house_count,(encD D.bl) g.ways,(encD D.int) g.likings,(encD D.bl) g.shuns,(encD D.int) g.wish_ranks]
theorem ad6 (g:GuildT):SimR D.int (fldD 0 "house_count" (ad0 g)) (.ok g.house_count):=rfl
theorem af1 (g:GuildT):SimR (encD D.bl) (fldD 0 "ways" (ad0 g)) (.ok g.ways):=rfl
noncomputable def mk_Guild (size:Int):Res GuildT:=if 1≤size∧size≤60 then .ok ⟨size,[],[],[],[]⟩ else .exc 11
theorem am8 (size:Int):SimR ad0 (aw1 0 m_a9 [.int size]) (mk_Guild size):=by
 unfold mk_Guild
 by_cases h:1≤size∧size≤60
 · rw [if_pos h]
   have h1:¬ size < 1:=by omega
   have h2:¬ 60 < size:=by omega
   show aw1 0 m_a9 [.int size]=_
   unfold aw1 m_a9 Mi.run
   rw [aO4]
   simp [seqS,ifS,liP,orT,tst,bn,cst,rg,truB,h1,h2,ae7,fldS,bh6,hasK,sc1,ad4]
   rfl
 · rw [if_neg h]
   show aw1 0 m_a9 [.int size]= .exc 11
   unfold aw1 m_a9 Mi.run
   rw [aO4]
   by_cases h1:size < 1
   · simp [seqS,ifS,liP,orT,tst,bn,cst,rg,truB,h1,ak7]
   · have h2:60 < size:=by omega
     simp [seqS,ifS,liP,orT,tst,bn,cst,rg,truB,h1,h2,ak7]
structure S_c9 where
 v18q:GuildT
 v15q:(DI Bool)
 v0q:Int
noncomputable def bo8:S_c9→Mi.Env:=fun s=>[some (ad0 s.v18q),some ((encD D.bl) s.v15q),some (D.int s.v0q)]
noncomputable abbrev Y_c9:=S_c9→FlC S_c9 (List Int)
noncomputable def be2:Y_c9:=(retC (upC (aM1 (unC (rngC 0) (unC (fun g=> .ok g.house_count) (pC fun p=>p.v18q))) (bnC (dinC false) (unC av9 (prC (pC fun p=>p.2.v0q) (pC fun p=>p.1))) (pC fun p=>p.2.v15q)) (pC fun p=>p.1))))
noncomputable def bF5:Y_c9:=be2
noncomputable def C_c9 (a_self:GuildT) (a_pairs:(DI Bool)) (a_a:Int):OutC S_c9 (List Int):=runC none (bF5 ⟨a_self,a_pairs,a_a⟩)
theorem ct_c9:Cl.TJ bo8 (eL D.int) bC2 bF5:=(ac7 (aa8 (bb4 (aJ0 (as9 ad6 xp)) (ab6 (aa7 (bi4 false) (aF1 aj8 (ae6 xp xp)) xp)) xp)))
theorem cf_c9 (a_self:GuildT) (a_pairs:(DI Bool)) (a_a:Int):SimO bo8 (eL D.int) (m_c9 [ad0 a_self,(encD D.bl) a_pairs,D.int a_a]) (C_c9 a_self a_pairs a_a):=aE7 ct_c9 rfl
structure S_i9 where
 v18q:GuildT
noncomputable def bo2:S_i9→Mi.Env:=fun s=>[some (ad0 s.v18q)]
noncomputable abbrev Y_i9:=S_i9→FlC S_i9 Int
noncomputable def bd5:Y_i9:=(retC (upC (unC (fun g=> .ok g.house_count) (pC fun p=>p.v18q))))
noncomputable def bF3:Y_i9:=bd5
noncomputable def C_i9 (a_self:GuildT):OutC S_i9 Int:=runC none (bF3 ⟨a_self⟩)
theorem ct_i9:Cl.TJ bo2 D.int bB6 bF3:=(ac7 (aa8 (bb3 (fun _=>rfl) (as9 ad6 xp))))
theorem cf_i9 (a_self:GuildT):SimO bo2 D.int (m_i9 [ad0 a_self]) (C_i9 a_self):=am9 ct_i9 rfl
structure S_k9 where
 v17q:(List Int)
 v11q:Int
noncomputable def bo0:S_k9→Mi.Env:=fun s=>[some (eS s.v17q),some (D.int s.v11q)]
noncomputable abbrev Y_k9:=S_k9→FlC S_k9 Int
noncomputable def au4:Y_k9:=(retC (upC (bnC ixC (pC fun p=>p.v17q) (pC fun p=>p.v11q))))
noncomputable def bd4:Y_k9:=(ifC (upC (bnC ltC (pC fun p=>p.v11q) (unC lenC (pC fun p=>p.v17q))))
 au4
 af8)
noncomputable def bd3:Y_k9:=(retC (upC (kC (0:Int))))
noncomputable def bF1:Y_k9:=(seqC bd4
 bd3)
noncomputable def C_k9 (a_script:(List Int)) (a_k:Int):OutC S_k9 Int:=runC none (bF1 ⟨a_script,a_k⟩)
theorem ct_k9:Cl.TJ bo0 D.int bB4 bF1:=(aa9 (af7 (aa8 (ab6 (aa7 o_lt xp (as9 bK9 xp))))
 (ac7 (aa8 (bb3 (fun _=>rfl) (aa7 o_ixS xp xp))))
 ac5)
 (ac7 (aa8 xk)))
theorem cf_k9 (a_script:(List Int)) (a_k:Int):SimO bo0 D.int (m_k9 [eS a_script,D.int a_k]) (C_k9 a_script a_k):=am9 ct_k9 rfl
structure S_m9 where
 v21q:(List (Int×Int))
 v19q:Int
 v12q:Int
 v0q:Int
 v1q:Int
 v20q:Option Bool
noncomputable def bn9:S_m9→Mi.Env:=fun s=>[some ((eL (eT2 D.int D.int)) s.v21q),some (D.int s.v19q),some (D.int s.v12q),some (D.int s.v0q),some (D.int s.v1q),s.v20q.map D.bl]
noncomputable abbrev Y_m9:=S_m9→FlC S_m9 Str
noncomputable def au2:Y_m9:=(retC (upC (kC ("house" : Str))))
noncomputable def au3:Y_m9:=(ifC (upC (orC (bnC ltC (bnC minC (pC fun p=>p.v0q) (pC fun p=>p.v1q)) (kC (0:Int))) (orC (bnC geC (bnC maxC (pC fun p=>p.v0q) (pC fun p=>p.v1q)) (pC fun p=>p.v19q)) (bnC (eqC false) (pC fun p=>p.v0q) (pC fun p=>p.v1q)))))
 au2
 af8)
noncomputable def aK8:Y_m9:=(setC (fun a s=>{ s with v20q:=some a }) (upC (bnC (inC false) (prC (bnC minC (pC fun p=>p.v0q) (pC fun p=>p.v1q)) (bnC maxC (pC fun p=>p.v0q) (pC fun p=>p.v1q))) (pC fun p=>p.v21q))))
noncomputable def au0:Y_m9:=(retC (upC (kC ("there" : Str))))
noncomputable def au1:Y_m9:=(ifC (upC (andC (bnC (eqC false) (pC fun p=>p.v12q) (kC (0:Int))) (vC fun p=>p.v20q)))
 au0
 af8)
noncomputable def at9:Y_m9:=(retC (upC (kC ("none" : Str))))
noncomputable def aA8:Y_m9:=(ifC (upC (andC (bnC (eqC false) (pC fun p=>p.v12q) (kC (1:Int))) (unC notC (vC fun p=>p.v20q))))
 at9
 af8)
noncomputable def aK7:Y_m9:=(retC (upC (kC ("done" : Str))))
noncomputable def bE9:Y_m9:=(seqC au3
 (seqC aK8
 (seqC au1
 (seqC aA8
 aK7))))
noncomputable def C_m9 (a_ways:(List (Int×Int))) (a_size:Int) (a_kind:Int) (a_a:Int) (a_b:Int):OutC S_m9 Str:=runC none (bE9 ⟨a_ways,a_size,a_kind,a_a,a_b,none⟩)
theorem ct_m9:Cl.TJ bn9 D.str bB2 bE9:=(aa9 (af7 (aa8 (at0 (ab6 (aa7 o_lt (aa7 aR3 xp xp) xk)) (at0 (ab6 (aa7 o_ge (aa7 aR4 xp xp) xp)) (ab6 (aa7 (aw0 false) xp xp)))))
 (ac7 (aa8 xk))
 ac5)
 (aa9 (xs (aa8 (aa7 (bA0 (aQ0 aw5 aw5) (by decide)) (ae6 (aa7 aR3 xp xp) (aa7 aR4 xp xp)) xp)))
 (aa9 (af7 (aa8 (aA4 (ab6 (aa7 (aw0 false) xp xk)) (ab6 xv)))
 (ac7 (aa8 xk))
 ac5)
 (aa9 (af7 (aa8 (aA4 (ab6 (aa7 (aw0 false) xp xk)) (ah7 (ab6 xv))))
 (ac7 (aa8 xk))
 ac5)
 (ac7 (aa8 xk))))))
theorem cf_m9 (a_ways:(List (Int×Int))) (a_size:Int) (a_kind:Int) (a_a:Int) (a_b:Int):SimO bn9 D.str (m_m9 [(eL (eT2 D.int D.int)) a_ways,D.int a_size,D.int a_kind,D.int a_a,D.int a_b]) (C_m9 a_ways a_size a_kind a_a a_b):=am9 ct_m9 rfl
structure S_o9 where
 v4q:Str
noncomputable def bn7:S_o9→Mi.Env:=fun s=>[some (D.str s.v4q)]
noncomputable abbrev Y_o9:=S_o9→FlC S_o9 (List Bool)
noncomputable def at5:Y_o9:=(retC (upC (mkC (nilC:_→Res (List Bool)))))
noncomputable def aK6:Y_o9:=(ifC (upC (bnC (eqC false) (pC fun p=>p.v4q) (kC ("done" : Str))))
 at5
 af8)
noncomputable def bc8:Y_o9:=(retC (upC (mkC (ai5 (bnC (eqC false) (pC fun p=>p.v4q) (kC ("house" : Str))) (ai5 (bnC (eqC false) (pC fun p=>p.v4q) (kC ("there" : Str))) (ai5 (bnC (eqC false) (pC fun p=>p.v4q) (kC ("none" : Str))) (ai5 (kC true) (nilC:_→Res (List Bool)))))))))
noncomputable def bE7:Y_o9:=(seqC aK6
 bc8)
noncomputable def C_o9 (a_due:Str):OutC S_o9 (List Bool):=runC none (bE7 ⟨a_due⟩)
theorem ct_o9:Cl.TJ bn7 (eL D.bl) bB0 bE7:=(aa9 (af7 (aa8 (ab6 (aa7 (aR5 false) xp xk)))
 (ac7 (aa8 (an1 an0)))
 ac5)
 (ac7 (aa8 (an1 (ad5 (aa7 (aR5 false) xp xk) (ad5 (aa7 (aR5 false) xp xk) (ad5 (aa7 (aR5 false) xp xk) (ad5 xk an0))))))))
theorem cf_o9 (a_due:Str):SimO bn7 (eL D.bl) (m_o9 [D.str a_due]) (C_o9 a_due):=aE7 ct_o9 rfl
structure S_q9 where
 v21q:(List (Int×Int))
 v19q:Int
 v0q:Int
noncomputable def bn6:S_q9→Mi.Env:=fun s=>[some ((eL (eT2 D.int D.int)) s.v21q),some (D.int s.v19q),some (D.int s.v0q)]
noncomputable abbrev Y_q9:=S_q9→FlC S_q9 (List Int)
noncomputable def bc5:Y_q9:=(retC (upC (aM1 (unC (rngC 0) (pC fun p=>p.v19q)) (bnC (inC false) (prC (bnC minC (pC fun p=>p.2.v0q) (pC fun p=>p.1)) (bnC maxC (pC fun p=>p.2.v0q) (pC fun p=>p.1))) (pC fun p=>p.2.v21q)) (pC fun p=>p.1))))
noncomputable def bE5:Y_q9:=bc5
noncomputable def C_q9 (a_ways:(List (Int×Int))) (a_size:Int) (a_a:Int):OutC S_q9 (List Int):=runC none (bE5 ⟨a_ways,a_size,a_a⟩)
theorem ct_q9:Cl.TJ bn6 (eL D.int) bA8 bE5:=(ac7 (aa8 (bb4 (aJ0 xp) (ab6 (aa7 (bA0 (aQ0 aw5 aw5) (by decide)) (ae6 (aa7 aR3 xp xp) (aa7 aR4 xp xp)) xp)) xp)))
theorem cf_q9 (a_ways:(List (Int×Int))) (a_size:Int) (a_a:Int):SimO bn6 (eL D.int) (m_q9 [(eL (eT2 D.int D.int)) a_ways,D.int a_size,D.int a_a]) (C_q9 a_ways a_size a_a):=aE7 ct_q9 rfl
structure S_s9 where
 v7q:Int
noncomputable def bn4:S_s9→Mi.Env:=fun s=>[some (D.int s.v7q)]
noncomputable abbrev Y_s9:=S_s9→FlC S_s9 Bool
noncomputable def bc4:Y_s9:=(retC (upC (andC (unC (cbC true) (pC fun p=>p.v7q)) (unC notC (unC (cbC false) (pC fun p=>p.v7q))))))
noncomputable def bE4:Y_s9:=bc4
noncomputable def C_s9 (a_found:Int):OutC S_s9 Bool:=runC none (bE4 ⟨a_found⟩)
theorem ct_s9:Cl.TJ bn4 D.bl bA6 bE4:=(ac7 (aa8 (aP5 (aP4 (e:=D.int) (n := "int") (b:=true) (fun _=>rfl) xp) (as9 o_not (aP4 (e:=D.int) (n := "bool") (b:=false) (fun _=>rfl) xp)))))
theorem bP9 (a_found:Int):SimO bn4 D.bl (m_s9 [D.int a_found]) (C_s9 a_found):=am9 ct_s9 rfl
structure S_t9 where
 v10q:(List Int)
 v3q:Int
noncomputable def bn3:S_t9→Mi.Env:=fun s=>[some ((eL D.int) s.v10q),some (D.int s.v3q)]
noncomputable abbrev Y_t9:=S_t9→FlC S_t9 Unit
noncomputable def at4:Y_t9:=(ak8 11)
noncomputable def aJ6:Y_t9:=(ifC (upC (orC (bnC ltC (bnC bq3 (pC fun p=>p.v10q) (kC (0:Int))) (kC (0:Int))) (bnC geC (bnC bN2 (pC fun p=>p.v10q) (kC (0:Int))) (pC fun p=>p.v3q))))
 at4
 af8)
noncomputable def bm0:Y_t9:=aJ6
noncomputable def C_t9 (a_houses:(List Int)) (a_count:Int):OutC S_t9 Unit:=runC (some ()) (bm0 ⟨a_houses,a_count⟩)
theorem ct_t9:Cl.TJ bn3 eN bA5 bm0:=(af7 (aa8 (at0 (ab6 (aa7 o_lt (aa7 bz9 xp xk) xk)) (ab6 (aa7 o_ge (aa7 bK8 xp xk) xp))))
 aq0
 ac5)
theorem cf_t9 (a_houses:(List Int)) (a_count:Int):SimO bn3 eN (m_t9 [(eL D.int) a_houses,D.int a_count]) (C_t9 a_houses a_count):=ba9 (d:=()) rfl ct_t9 rfl
structure S_g9 where
 v18q:GuildT
 v10q:(List Int)
noncomputable def bo4:S_g9→Mi.Env:=fun s=>[some (ad0 s.v18q),some ((eL D.int) s.v10q)]
noncomputable abbrev Y_g9:=S_g9→FlC S_g9 Unit
noncomputable def aL7:Y_g9:=(ai4 (upC (pc2C C_t9 (pC fun p=>p.v10q) (unC (fun g=> .ok g.house_count) (pC fun p=>p.v18q)))))
noncomputable def bm3:Y_g9:=aL7
noncomputable def C_g9 (a_self:GuildT) (a_houses:(List Int)):OutC S_g9 Unit:=runC (some ()) (bm3 ⟨a_self,a_houses⟩)
theorem ct_g9:Cl.TJ bo4 eN bB8 bm3:=(ad9 (aa8 (bq5 (fun a0 a1=>cf_t9 a0 a1) xp (bb3 (fun _=>rfl) (as9 ad6 xp)))))
theorem bE3 (a_self:GuildT) (a_houses:(List Int)):SimO bo4 eN (m_g9 [ad0 a_self,(eL D.int) a_houses]) (C_g9 a_self a_houses):=ba9 (d:=()) rfl ct_g9 rfl
structure S_b9 where
 v18q:GuildT
 v0q:Int
 v1q:Int
noncomputable def bo9:S_b9→Mi.Env:=fun s=>[some (ad0 s.v18q),some (D.int s.v0q),some (D.int s.v1q)]
noncomputable abbrev Y_b9:=S_b9→FlC S_b9 Bool
noncomputable def be4:Y_b9:=(ai4 (upC (pc2C C_g9 (pC fun p=>p.v18q) (mkC (ai5 (pC fun p=>p.v0q) (ai5 (pC fun p=>p.v1q) (nilC:_→Res (List Int))))))))
noncomputable def be3:Y_b9:=(retC (upC (bnC (dinC false) (unC av9 (prC (pC fun p=>p.v0q) (pC fun p=>p.v1q))) (unC (fun g=> .ok g.ways) (pC fun p=>p.v18q)))))
noncomputable def bF6:Y_b9:=(seqC be4
 be3)
noncomputable def C_b9 (a_self:GuildT) (a_a:Int) (a_b:Int):OutC S_b9 Bool:=runC none (bF6 ⟨a_self,a_a,a_b⟩)
theorem ct_b9:Cl.TJ bo9 D.bl bC3 bF6:=(aa9 (ad9 (aa8 (aE9 (fun _=>rfl) (fun a0 a1=>bE3 a0 a1) xp (an1 (ad5 xp (ad5 xp an0))))))
 (ac7 (aa8 (aa7 (bi4 false) (aF1 aj8 (ae6 xp xp)) (as9 af1 xp)))))
theorem cf_b9 (a_self:GuildT) (a_a:Int) (a_b:Int):SimO bo9 D.bl (m_b9 [ad0 a_self,D.int a_a,D.int a_b]) (C_b9 a_self a_a a_b):=am9 ct_b9 rfl
structure S_f9 where
 v18q:GuildT
 v0q:Int
noncomputable def bo5:S_f9→Mi.Env:=fun s=>[some (ad0 s.v18q),some (D.int s.v0q)]
noncomputable abbrev Y_f9:=S_f9→FlC S_f9 (List Int)
noncomputable def bd7:Y_f9:=(ai4 (upC (pc2C C_g9 (pC fun p=>p.v18q) (mkC (ai5 (pC fun p=>p.v0q) (nilC:_→Res (List Int)))))))
noncomputable def bd6:Y_f9:=(retC (upC (pc3C C_c9 (pC fun p=>p.v18q) (unC (fun g=> .ok g.ways) (pC fun p=>p.v18q)) (pC fun p=>p.v0q))))
noncomputable def bF4:Y_f9:=(seqC bd7
 bd6)
noncomputable def C_f9 (a_self:GuildT) (a_a:Int):OutC S_f9 (List Int):=runC none (bF4 ⟨a_self,a_a⟩)
theorem ct_f9:Cl.TJ bo5 (eL D.int) bB9 bF4:=(aa9 (ad9 (aa8 (aE9 (fun _=>rfl) (fun a0 a1=>bE3 a0 a1) xp (an1 (ad5 xp an0)))))
 (ac7 (aa8 (aP2 (fun _=>rfl) (fun a0 a1 a2=>cf_c9 a0 a1 a2) xp (as9 af1 xp) xp))))
theorem bQ1 (a_self:GuildT) (a_a:Int):SimO bo5 (eL D.int) (m_f9 [ad0 a_self,D.int a_a]) (C_f9 a_self a_a):=aE7 ct_f9 rfl
structure S_h9 where
 v18q:GuildT
 v0q:Int
 v1q:Int
noncomputable def bo3:S_h9→Mi.Env:=fun s=>[some (ad0 s.v18q),some (D.int s.v0q),some (D.int s.v1q)]
noncomputable abbrev Y_h9:=S_h9→FlC S_h9 Unit
noncomputable def aB6:Y_h9:=(ai4 (upC (pc2C C_g9 (pC fun p=>p.v18q) (mkC (ai5 (pC fun p=>p.v0q) (ai5 (pC fun p=>p.v1q) (nilC:_→Res (List Int))))))))
noncomputable def av3:Y_h9:=(ak8 11)
noncomputable def aL6:Y_h9:=(ifC (upC (bnC (eqC false) (pC fun p=>p.v0q) (pC fun p=>p.v1q)))
 av3
 af8)
noncomputable def be6:Y_h9:=(seqC aB6
 aL6)
noncomputable def C_h9 (a_self:GuildT) (a_a:Int) (a_b:Int):OutC S_h9 Unit:=runC (some ()) (be6 ⟨a_self,a_a,a_b⟩)
theorem ct_h9:Cl.TJ bo3 eN bB7 be6:=(aa9 (ad9 (aa8 (aE9 (fun _=>rfl) (fun a0 a1=>bE3 a0 a1) xp (an1 (ad5 xp (ad5 xp an0))))))
 (af7 (aa8 (ab6 (aa7 (aw0 false) xp xp)))
 aq0
 ac5))
theorem bQ0 (a_self:GuildT) (a_a:Int) (a_b:Int):SimO bo3 eN (m_h9 [ad0 a_self,D.int a_a,D.int a_b]) (C_h9 a_self a_a a_b):=ba9 (d:=()) rfl ct_h9 rfl
structure S_p9 where
 v19q:Int
 v16q:Option Bool
 v5q:Option Int
noncomputable def aW6:S_p9→Mi.Env:=fun s=>[some (D.int s.v19q),s.v16q.map D.bl,s.v5q.map D.int]
noncomputable abbrev Y_p9:=S_p9→FlC S_p9 Bool
noncomputable def bc7:Y_p9:=(setC (fun a s=>{ s with v16q:=some a }) (upC (kC false)))
noncomputable def aK5:Y_p9:=(tryC (fun s=>ap0 (aW6 s) (some 2)) (catN [11]) (ai4 (upC (pk1C mk_Guild (pC fun p=>p.v19q)))) fun c=>setC (fun a s=>{ s with v16q:=some a }) (upC (kC (match c with | 11=>true | _=>false))))
noncomputable def bc6:Y_p9:=(retC (upC (vC fun p=>p.v16q)))
noncomputable def bE6:Y_p9:=(seqC bc7
 (seqC aK5
 bc6))
noncomputable def C_p9 (a_size:Int):OutC S_p9 Bool:=runC none (bE6 ⟨a_size,none,none⟩)
theorem ct_p9:Cl.TJ aW6 D.bl bA9 bE6:=(aa9 (xs (aa8 xk))
 (aa9 (bm6 (ad9 (aa8 (bq4 am8 xp))) fun _=>xs (aa8 xk))
 (ac7 (aa8 xv))))
theorem cf_p9 (a_size:Int):SimO aW6 D.bl (m_p9 [D.int a_size]) (C_p9 a_size):=am9 ct_p9 rfl
structure S_d9 where
 v18q:GuildT
 v0q:Int
 v1q:Int
noncomputable def bo7:S_d9→Mi.Env:=fun s=>[some (ad0 s.v18q),some (D.int s.v0q),some (D.int s.v1q)]
noncomputable abbrev Y_d9:=S_d9→FlC S_d9 Unit
noncomputable def aB8:Y_d9:=(ai4 (upC (pc3C C_h9 (pC fun p=>p.v18q) (pC fun p=>p.v0q) (pC fun p=>p.v1q))))
noncomputable def av5:Y_d9:=(ak8 13)
noncomputable def aL9:Y_d9:=(ifC (upC (bnC (dinC false) (unC av9 (prC (pC fun p=>p.v0q) (pC fun p=>p.v1q))) (unC (fun g=> .ok g.ways) (pC fun p=>p.v18q))))
 av5
 af8)
noncomputable def be1:Y_d9:=(bD9 (fun s=>some s.v18q.ways) (fun s y=>{ s with v18q:={ s.v18q with ways:=y } }) (unC av9 (prC (pC fun p=>p.v0q) (pC fun p=>p.v1q))) (upC (kC true)))
noncomputable def be0:Y_d9:=(bD9 (fun s=>some s.v18q.ways) (fun s y=>{ s with v18q:={ s.v18q with ways:=y } }) (unC av9 (prC (pC fun p=>p.v1q) (pC fun p=>p.v0q))) (upC (kC true)))
noncomputable def be8:Y_d9:=(seqC aB8
 (seqC aL9
 (seqC be1
 be0)))
noncomputable def C_d9 (a_self:GuildT) (a_a:Int) (a_b:Int):OutC S_d9 Unit:=runC (some ()) (be8 ⟨a_self,a_a,a_b⟩)
theorem ct_d9:Cl.TJ bo7 eN bC1 be8:=(aa9 (ad9 (aa8 (aP2 (fun _=>rfl) (fun a0 a1 a2=>bQ0 a0 a1 a2) xp xp xp)))
 (aa9 (af7 (aa8 (ab6 (aa7 (bi4 false) (aF1 aj8 (ae6 xp xp)) (as9 af1 xp))))
 aq0
 ac5)
 (aa9 (aT3 (fun _=>rfl) (fun _ _=>rfl) (aF1 aj8 (ae6 xp xp)) (aa8 xk))
 (aT3 (fun _=>rfl) (fun _ _=>rfl) (aF1 aj8 (ae6 xp xp)) (aa8 xk)))))
theorem cf_d9 (a_self:GuildT) (a_a:Int) (a_b:Int):SimO bo7 eN (m_d9 [ad0 a_self,D.int a_a,D.int a_b]) (C_d9 a_self a_a a_b):=ba9 (d:=()) rfl ct_d9 rfl
structure S_e9 where
 v18q:GuildT
 v0q:Int
 v1q:Int
noncomputable def bo6:S_e9→Mi.Env:=fun s=>[some (ad0 s.v18q),some (D.int s.v0q),some (D.int s.v1q)]
noncomputable abbrev Y_e9:=S_e9→FlC S_e9 Unit
noncomputable def aB7:Y_e9:=(ai4 (upC (pc3C C_h9 (pC fun p=>p.v18q) (pC fun p=>p.v0q) (pC fun p=>p.v1q))))
noncomputable def av4:Y_e9:=(ak8 12)
noncomputable def aL8:Y_e9:=(ifC (upC (bnC (dinC true) (unC av9 (prC (pC fun p=>p.v0q) (pC fun p=>p.v1q))) (unC (fun g=> .ok g.ways) (pC fun p=>p.v18q))))
 av4
 af8)
noncomputable def bd9:Y_e9:=(ai4 (bl5 (fun s=>some s.v18q.ways) (fun s y=>{ s with v18q:={ s.v18q with ways:=y } }) (unC av9 (prC (pC fun p=>p.v0q) (pC fun p=>p.v1q)))))
noncomputable def bd8:Y_e9:=(ai4 (bl5 (fun s=>some s.v18q.ways) (fun s y=>{ s with v18q:={ s.v18q with ways:=y } }) (unC av9 (prC (pC fun p=>p.v1q) (pC fun p=>p.v0q)))))
noncomputable def be7:Y_e9:=(seqC aB7
 (seqC aL8
 (seqC bd9
 bd8)))
noncomputable def C_e9 (a_self:GuildT) (a_a:Int) (a_b:Int):OutC S_e9 Unit:=runC (some ()) (be7 ⟨a_self,a_a,a_b⟩)
theorem ct_e9:Cl.TJ bo6 eN bC0 be7:=(aa9 (ad9 (aa8 (aP2 (fun _=>rfl) (fun a0 a1 a2=>bQ0 a0 a1 a2) xp xp xp)))
 (aa9 (af7 (aa8 (ab6 (aa7 (bi4 true) (aF1 aj8 (ae6 xp xp)) (as9 af1 xp))))
 aq0
 ac5)
 (aa9 (ad9 (aY4 (fun _=>rfl) (fun _ _=>rfl) (aF1 aj8 (ae6 xp xp))))
 (ad9 (aY4 (fun _=>rfl) (fun _ _=>rfl) (aF1 aj8 (ae6 xp xp)))))))
theorem cf_e9 (a_self:GuildT) (a_a:Int) (a_b:Int):SimO bo6 eN (m_e9 [ad0 a_self,D.int a_a,D.int a_b]) (C_e9 a_self a_a a_b):=ba9 (d:=()) rfl ct_e9 rfl
structure S_r9 where
 v9q:GuildT
 v21q:(List (Int×Int))
 v19q:Int
 v0q:Int
 v7q:Option (List Int)
 v4q:Option (List Int)
 v1q:Option Int
 v8q:Option Bool
noncomputable def bn5:S_r9→Mi.Env:=fun s=>[some (ad0 s.v9q),some ((eL (eT2 D.int D.int)) s.v21q),some (D.int s.v19q),some (D.int s.v0q),s.v7q.map (eL D.int),s.v4q.map (eL D.int),s.v1q.map D.int,s.v8q.map D.bl]
noncomputable abbrev Y_r9:=S_r9→FlC S_r9 Bool
noncomputable def al4:Y_r9:=(retC (upC (kC true)))
noncomputable def ao4:Y_r9:=(ifC (upC (orC (bnC ltC (pC fun p=>p.v0q) (kC (0:Int))) (bnC geC (pC fun p=>p.v0q) (pC fun p=>p.v19q))))
 al4
 af8)
noncomputable def aK4:Y_r9:=(setC (fun a s=>{ s with v7q:=some a }) (upC (pc2C C_f9 (pC fun p=>p.v9q) (pC fun p=>p.v0q))))
noncomputable def aK3:Y_r9:=(setC (fun a s=>{ s with v4q:=some a }) (upC (pc3C C_q9 (pC fun p=>p.v21q) (pC fun p=>p.v19q) (pC fun p=>p.v0q))))
noncomputable def aK1:Y_r9:=(retC (upC (kC false)))
noncomputable def aK2:Y_r9:=(ifC (upC (orC (unC notC (unC (cbC true) (vC fun p=>p.v7q))) (bnC (eqC true) (unC lenC (vC fun p=>p.v7q)) (unC lenC (vC fun p=>p.v4q)))))
 aK1
 af8)
noncomputable def aA5:Y_r9:=(retC (upC (kC false)))
noncomputable def aj4:Y_r9:=(ifC (upC (unC notC (pc1C C_s9 (vC fun p=>p.v1q))))
 aA5
 af8)
noncomputable def aK0:Y_r9:=(aO7 (fun s=>s.v7q) (fun a s=>{ s with v1q:=some a })
 aj4)
noncomputable def aJ9:Y_r9:=(setC (fun a s=>{ s with v8q:=some a }) (upC (bnC (eqC false) (vC fun p=>p.v7q) (vC fun p=>p.v4q))))
noncomputable def aJ8:Y_r9:=(ai4 (l1C (fun s=>s.v7q) (fun s y=>{ s with v7q:=some y }) appC (pC fun p=>p.v0q)))
noncomputable def aJ7:Y_r9:=(retC (upC (andC (vC fun p=>p.v8q) (bnC (eqC false) (pc2C C_f9 (pC fun p=>p.v9q) (pC fun p=>p.v0q)) (vC fun p=>p.v4q)))))
noncomputable def bm1:Y_r9:=(seqC ao4
 (seqC aK4
 (seqC aK3
 (seqC aK2
 (seqC aK0
 (seqC aJ9
 (seqC aJ8
 aJ7)))))))
noncomputable def C_r9 (a_guild:GuildT) (a_ways:(List (Int×Int))) (a_size:Int) (a_a:Int):OutC S_r9 Bool:=runC none (bm1 ⟨a_guild,a_ways,a_size,a_a,none,none,none,none⟩)
theorem ct_r9:Cl.TJ bn5 D.bl bA7 bm1:=(aa9 (af7 (aa8 (at0 (ab6 (aa7 o_lt xp xk)) (ab6 (aa7 o_ge xp xp))))
 (ac7 (aa8 xk))
 ac5)
 (aa9 (xs (aa8 (aE9 (fun _=>rfl) (fun a0 a1=>bQ1 a0 a1) xp xp)))
 (aa9 (xs (aa8 (bP1 (fun a0 a1 a2=>cf_q9 a0 a1 a2) xp xp xp)))
 (aa9 (af7 (aa8 (at0 (ah7 (ab6 (aP4 (e:=(eL D.int)) (n := "list") (b:=true) (fun _=>rfl) xv))) (ab6 (aa7 (aw0 true) (as9 bp7 xv) (as9 bp7 xv)))))
 (ac7 (aa8 xk))
 ac5)
 (aa9 (bf9 (fun _=>rfl) (fun _ _=>rfl)
 (af7 (aa8 (ah7 (ab6 (aP3 (fun a0=>bP9 a0) xv))))
 (ac7 (aa8 xk))
 ac5))
 (aa9 (xs (aa8 (aa7 (bA1 (bE0 aw5) (by decide) false) xv xv)))
 (aa9 (ad9 (bA3 (fun _=>rfl) (fun _ _=>rfl) bO6 xp))
 (ac7 (aa8 (aP5 xv (aa7 (bA1 (bE0 aw5) (by decide) false) (aE9 (fun _=>rfl) (fun a0 a1=>bQ1 a0 a1) xp xp) xv)))))))))))
theorem bl9 (a_guild:GuildT) (a_ways:(List (Int×Int))) (a_size:Int) (a_a:Int):SimO bn5 D.bl (m_r9 [ad0 a_guild,(eL (eT2 D.int D.int)) a_ways,D.int a_size,D.int a_a]) (C_r9 a_guild a_ways a_size a_a):=am9 ct_r9 rfl
structure S_l9 where
 v9q:GuildT
 v12q:Int
 v0q:Int
 v1q:Int
 v14q:Option (List Bool)
 v5q:Option Int
noncomputable def aW7:S_l9→Mi.Env:=fun s=>[some (ad0 s.v9q),some (D.int s.v12q),some (D.int s.v0q),some (D.int s.v1q),s.v14q.map (eL D.bl),s.v5q.map D.int]
noncomputable abbrev Y_l9:=S_l9→FlC S_l9 (List Bool)
noncomputable def bd2:Y_l9:=(setC (fun a s=>{ s with v14q:=some a }) (upC (mkC (nilC:_→Res (List Bool)))))
noncomputable def aA9:Y_l9:=(tryC (fun s=>ap0 (aW7 s) (some 5)) (catN [10,11,12,13]) (ifC (upC (bnC (eqC false) (pC fun p=>p.v12q) (kC (0:Int)))) (ai4 (mc3C C_d9 (fun s' s=>{ s with v9q:=s'.v18q }) (pC fun p=>p.v9q) (pC fun p=>p.v0q) (pC fun p=>p.v1q))) (ai4 (mc3C C_e9 (fun s' s=>{ s with v9q:=s'.v18q }) (pC fun p=>p.v9q) (pC fun p=>p.v0q) (pC fun p=>p.v1q)))) fun c=>setC (fun a s=>{ s with v14q:=some a }) (upC (mkC (ai5 (kC (match c with | 10=>false | 11=>true | 12=>false | 13=>false | _=>false)) (ai5 (kC (match c with | 10=>false | 11=>false | 12=>false | 13=>true | _=>false)) (ai5 (kC (match c with | 10=>false | 11=>false | 12=>true | 13=>false | _=>false)) (ai5 (kC (match c with | 10=>true | 11=>true | 12=>true | 13=>true | _=>false)) (nilC:_→Res (List Bool)))))))))
noncomputable def bd1:Y_l9:=(retC (mvC (fun s=>s.v14q) (fun s=>{ s with v14q:=none })))
noncomputable def bF0:Y_l9:=(seqC bd2
 (seqC aA9
 bd1))
noncomputable def C_l9 (a_guild:GuildT) (a_kind:Int) (a_a:Int) (a_b:Int):OutC S_l9 (List Bool):=runC none (bF0 ⟨a_guild,a_kind,a_a,a_b,none,none⟩)
theorem ct_l9:Cl.TJ aW7 (eL D.bl) bB3 bF0:=(aa9 (xs (aa8 (an1 an0)))
 (aa9 (bm6 (af7 (aa8 (ab6 (aa7 (aw0 false) xp xk))) (ad9 (bp9 (fun _=>rfl) (fun _ _=>rfl) (fun a0 a1 a2=>cf_d9 a0 a1 a2) xp xp xp)) (ad9 (bp9 (fun _=>rfl) (fun _ _=>rfl) (fun a0 a1 a2=>cf_e9 a0 a1 a2) xp xp xp))) fun _=>xs (aa8 (an1 (ad5 xk (ad5 xk (ad5 xk (ad5 xk an0)))))))
 (ac7 (nj_mv (fun _=>rfl) (fun _=>rfl)))))
theorem cf_l9 (a_guild:GuildT) (a_kind:Int) (a_a:Int) (a_b:Int):SimO aW7 (eL D.bl) (m_l9 [ad0 a_guild,D.int a_kind,D.int a_a,D.int a_b]) (C_l9 a_guild a_kind a_a a_b):=aE7 ct_l9 rfl
structure S_n9 where
 v9q:GuildT
 v21q:(List (Int×Int))
 v19q:Int
 v2q:Int
 v0q:Option Int
 v1q:Option Int
 v7q:Option Bool
noncomputable def bn8:S_n9→Mi.Env:=fun s=>[some (ad0 s.v9q),some ((eL (eT2 D.int D.int)) s.v21q),some (D.int s.v19q),some (D.int s.v2q),s.v0q.map D.int,s.v1q.map D.int,s.v7q.map D.bl]
noncomputable abbrev Y_n9:=S_n9→FlC S_n9 Bool
noncomputable def aA7:Y_n9:=(retC (upC (kC false)))
noncomputable def at8:Y_n9:=(ifC (upC (unC notC (pc4C C_r9 (pC fun p=>p.v9q) (pC fun p=>p.v21q) (pC fun p=>p.v19q) (vC fun p=>p.v0q))))
 aA7
 af8)
noncomputable def at7:Y_n9:=(setC (fun a s=>{ s with v1q:=some a }) (upC (bnC modC (bnC addC (bnC mulC (vC fun p=>p.v0q) (kC (7:Int))) (pC fun p=>p.v2q)) (pC fun p=>p.v19q))))
noncomputable def at6:Y_n9:=(setC (fun a s=>{ s with v7q:=some a }) (upC (pc3C C_b9 (pC fun p=>p.v9q) (vC fun p=>p.v0q) (vC fun p=>p.v1q))))
noncomputable def aA6:Y_n9:=(retC (upC (kC false)))
noncomputable def aF3:Y_n9:=(ifC (upC (orC (unC notC (unC (cbC true) (vC fun p=>p.v7q))) (bnC (eqC true) (vC fun p=>p.v7q) (bnC (inC false) (prC (bnC minC (vC fun p=>p.v0q) (vC fun p=>p.v1q)) (bnC maxC (vC fun p=>p.v0q) (vC fun p=>p.v1q))) (pC fun p=>p.v21q)))))
 aA6
 af8)
noncomputable def aM2:Y_n9:=(seqC at8
 (seqC at7
 (seqC at6
 aF3)))
noncomputable def bd0:Y_n9:=(aY7 (unC (rngC 0) (pC fun p=>p.v19q)) (fun a s=>{ s with v0q:=some a })
 aM2)
noncomputable def bc9:Y_n9:=(retC (upC (kC true)))
noncomputable def bE8:Y_n9:=(seqC bd0
 bc9)
noncomputable def C_n9 (a_guild:GuildT) (a_ways:(List (Int×Int))) (a_size:Int) (a_cell:Int):OutC S_n9 Bool:=runC none (bE8 ⟨a_guild,a_ways,a_size,a_cell,none,none,none⟩)
theorem ct_n9:Cl.TJ bn8 D.bl bB1 bE8:=(aa9 (aG2 (aJ0 xp) (fun _ _=>rfl)
 (aa9 (af7 (aa8 (ah7 (ab6 (aF0 (fun a0 a1 a2 a3=>bl9 a0 a1 a2 a3) xp xp xp xv))))
 (ac7 (aa8 xk))
 ac5)
 (aa9 (xs (aa8 (aa7 ap7 (aa7 aI3 (aa7 o_mul xv xk) xp) xp)))
 (aa9 (xs (aa8 (aP2 (fun _=>rfl) (fun a0 a1 a2=>cf_b9 a0 a1 a2) xp xv xv)))
 (af7 (aa8 (at0 (ah7 (ab6 (aP4 (e:=D.bl) (n := "bool") (b:=true) (fun _=>rfl) xv))) (ab6 (aa7 (o_eqB true) xv (aa7 (bA0 (aQ0 aw5 aw5) (by decide)) (ae6 (aa7 aR3 xv xv) (aa7 aR4 xv xv)) xp)))))
 (ac7 (aa8 xk))
 ac5)))))
 (ac7 (aa8 xk)))
theorem cf_n9 (a_guild:GuildT) (a_ways:(List (Int×Int))) (a_size:Int) (a_cell:Int):SimO bn8 D.bl (m_n9 [ad0 a_guild,(eL (eT2 D.int D.int)) a_ways,D.int a_size,D.int a_cell]) (C_n9 a_guild a_ways a_size a_cell):=am9 ct_n9 rfl
structure S_j9 where
 v17q:(List Int)
 v6q:Option Int
 v13q:Option Int
 v19q:Option Int
 v9q:Option GuildT
 v21q:Option (List (Int×Int))
 v2q:Option Int
 v0q:Option Int
 v1q:Option Int
 v4q:Option Str
 v7q:Option Int
noncomputable def bo1:S_j9→Mi.Env:=fun s=>[some (eS s.v17q),s.v6q.map D.int,s.v13q.map D.int,s.v19q.map D.int,s.v9q.map ad0,s.v21q.map (eL (eT2 D.int D.int)),s.v2q.map D.int,s.v0q.map D.int,s.v1q.map D.int,s.v4q.map D.str,s.v7q.map D.int]
noncomputable abbrev Y_j9:=S_j9→FlC S_j9 Bool
noncomputable def aL5:Y_j9:=(setC (fun a s=>{ s with v6q:=some a }) (upC (pc2C C_k9 (pC fun p=>p.v17q) (kC (0:Int)))))
noncomputable def aB5:Y_j9:=(retC (upC (kC false)))
noncomputable def av2:Y_j9:=(ifC (upC (unC notC (pc1C C_p9 (vC fun p=>p.v13q))))
 aB5
 af8)
noncomputable def aL4:Y_j9:=(aY7 (mkC (ai5 (kC (0:Int)) (ai5 (kC (61:Int)) (ai5 (bnC subC (bnC subC (kC (0:Int)) (kC (1:Int))) (bnC modC (vC fun p=>p.v6q) (bnC powC (kC (10:Int)) (kC (6:Int))))) (ai5 (bnC addC (kC (61:Int)) (bnC modC (vC fun p=>p.v6q) (bnC powC (kC (10:Int)) (kC (6:Int))))) (nilC:_→Res (List Int))))))) (fun a s=>{ s with v13q:=some a })
 av2)
noncomputable def aB4:Y_j9:=(setC (fun a s=>{ s with v19q:=some a }) (upC (bnC addC (kC (1:Int)) (bnC modC (vC fun p=>p.v6q) (kC (9:Int))))))
noncomputable def av1:Y_j9:=(setC (fun a s=>{ s with v19q:=some a }) (upC (bnC addC (kC (10:Int)) (bnC modC (bnC aS4 (vC fun p=>p.v6q) (kC (36:Int))) (kC (51:Int))))))
noncomputable def aB3:Y_j9:=(ifC (upC (bnC (eqC false) (bnC modC (bnC aS4 (vC fun p=>p.v6q) (kC (9:Int))) (kC (4:Int))) (kC (1:Int))))
 av1
 af8)
noncomputable def aL3:Y_j9:=(setC (fun a s=>{ s with v9q:=some a }) (upC (pk1C mk_Guild (vC fun p=>p.v19q))))
noncomputable def aL2:Y_j9:=(setC (fun a s=>{ s with v21q:=some a }) (upC (mkC (nilC:_→Res (List (Int×Int))))))
noncomputable def av0:Y_j9:=(setC (fun a s=>{ s with v0q:=some a }) (upC (bnC subC (bnC modC (bnC aS4 (vC fun p=>p.v2q) (kC (2:Int))) (bnC addC (vC fun p=>p.v19q) (kC (2:Int)))) (kC (1:Int)))))
noncomputable def au9:Y_j9:=(setC (fun a s=>{ s with v1q:=some a }) (upC (bnC subC (bnC modC (bnC aS4 (bnC aS4 (vC fun p=>p.v2q) (kC (2:Int))) (bnC addC (vC fun p=>p.v19q) (kC (2:Int)))) (bnC addC (vC fun p=>p.v19q) (kC (2:Int)))) (kC (1:Int)))))
noncomputable def au8:Y_j9:=(setC (fun a s=>{ s with v4q:=some a }) (upC (pc5C C_m9 (vC fun p=>p.v21q) (vC fun p=>p.v19q) (bnC modC (vC fun p=>p.v2q) (kC (2:Int))) (vC fun p=>p.v0q) (vC fun p=>p.v1q))))
noncomputable def aB2:Y_j9:=(retC (upC (kC false)))
noncomputable def au7:Y_j9:=(ifC (upC (unC notC (pc4C C_r9 (vC fun p=>p.v9q) (vC fun p=>p.v21q) (vC fun p=>p.v19q) (vC fun p=>p.v0q))))
 aB2
 af8)
noncomputable def aB1:Y_j9:=(retC (upC (kC false)))
noncomputable def au6:Y_j9:=(ifC (bnMC (eqC true) (mc4C C_l9 (fun s' s=>{ s with v9q:=some s'.v9q }) (vC fun p=>p.v9q) (bnC modC (vC fun p=>p.v2q) (kC (2:Int))) (vC fun p=>p.v0q) (vC fun p=>p.v1q)) (upC (pc1C C_o9 (vC fun p=>p.v4q))))
 aB1
 af8)
noncomputable def an4:Y_j9:=(ai4 (l1C (fun s=>s.v21q) (fun s y=>{ s with v21q:=some y }) appC (prC (bnC minC (vC fun p=>p.v0q) (vC fun p=>p.v1q)) (bnC maxC (vC fun p=>p.v0q) (vC fun p=>p.v1q)))))
noncomputable def aj6:Y_j9:=(ifC (upC (andC (bnC (eqC false) (vC fun p=>p.v4q) (kC ("done" : Str))) (bnC (eqC false) (bnC modC (vC fun p=>p.v2q) (kC (2:Int))) (kC (0:Int)))))
 an4
 af8)
noncomputable def an3:Y_j9:=(ai4 (l1C (fun s=>s.v21q) (fun s y=>{ s with v21q:=some y }) remC (prC (bnC minC (vC fun p=>p.v0q) (vC fun p=>p.v1q)) (bnC maxC (vC fun p=>p.v0q) (vC fun p=>p.v1q)))))
noncomputable def aj5:Y_j9:=(ifC (upC (andC (bnC (eqC false) (vC fun p=>p.v4q) (kC ("done" : Str))) (bnC (eqC false) (bnC modC (vC fun p=>p.v2q) (kC (2:Int))) (kC (1:Int)))))
 an3
 af8)
noncomputable def aB0:Y_j9:=(retC (upC (kC false)))
noncomputable def au5:Y_j9:=(ifC (upC (orC (unC notC (pc4C C_r9 (vC fun p=>p.v9q) (vC fun p=>p.v21q) (vC fun p=>p.v19q) (vC fun p=>p.v0q))) (unC notC (pc4C C_r9 (vC fun p=>p.v9q) (vC fun p=>p.v21q) (vC fun p=>p.v19q) (vC fun p=>p.v1q)))))
 aB0
 af8)
noncomputable def aB9:Y_j9:=(seqC av0
 (seqC au9
 (seqC au8
 (seqC au7
 (seqC au6
 (seqC aj6
 (seqC aj5
 au5)))))))
noncomputable def aL1:Y_j9:=(aY7 (bnC bP6 (pC fun p=>p.v17q) (kC (1:Int))) (fun a s=>{ s with v2q:=some a })
 aB9)
noncomputable def aL0:Y_j9:=(setC (fun a s=>{ s with v7q:=some a }) (upC (pc1C C_i9 (vC fun p=>p.v9q))))
noncomputable def aK9:Y_j9:=(retC (upC (andC (pc1C C_s9 (vC fun p=>p.v7q)) (andC (bnC (eqC false) (vC fun p=>p.v7q) (vC fun p=>p.v19q)) (pc4C C_n9 (vC fun p=>p.v9q) (vC fun p=>p.v21q) (vC fun p=>p.v19q) (vC fun p=>p.v6q))))))
noncomputable def bF2:Y_j9:=(seqC aL5
 (seqC aL4
 (seqC aB4
 (seqC aB3
 (seqC aL3
 (seqC aL2
 (seqC aL1
 (seqC aL0
 aK9))))))))
noncomputable def C_j9 (a_script:(List Int)):OutC S_j9 Bool:=runC none (bF2 ⟨a_script,none,none,none,none,none,none,none,none,none,none⟩)
theorem ct_j9:Cl.TJ bo1 D.bl bB5 bF2:=(aa9 (xs (aa8 (bq5 (fun a0 a1=>cf_k9 a0 a1) xp xk)))
 (aa9 (aG2 (bb2 (an1 (ad5 xk (ad5 xk (ad5 (aa7 bi3 (aa7 bi3 xk xk) (aa7 ap7 xv (aa7 bK7 xk xk))) (ad5 (aa7 aI3 xk (aa7 ap7 xv (aa7 bK7 xk xk))) an0)))))) (fun _ _=>rfl)
 (af7 (aa8 (ah7 (ab6 (aP3 (fun a0=>cf_p9 a0) xv))))
 (ac7 (aa8 xk))
 ac5))
 (aa9 (xs (aa8 (aa7 aI3 xk (aa7 ap7 xv xk))))
 (aa9 (af7 (aa8 (ab6 (aa7 (aw0 false) (aa7 ap7 (aa7 aD5 xv xk) xk) xk)))
 (xs (aa8 (aa7 aI3 xk (aa7 ap7 (aa7 aD5 xv xk) xk))))
 ac5)
 (aa9 (xs (aa8 (bq4 am8 xv)))
 (aa9 (xs (aa8 (an1 an0)))
 (aa9 (aG2 (bb2 (aa7 bA2 (bP4 bH6 xp) xk)) (fun _ _=>rfl)
 (aa9 (xs (aa8 (aa7 bi3 (aa7 ap7 (aa7 aD5 xv xk) (aa7 aI3 xv xk)) xk)))
 (aa9 (xs (aa8 (aa7 bi3 (aa7 ap7 (aa7 aD5 (aa7 aD5 xv xk) (aa7 aI3 xv xk)) (aa7 aI3 xv xk)) xk)))
 (aa9 (xs (aa8 (bP0 (fun a0 a1 a2 a3 a4=>cf_m9 a0 a1 a2 a3 a4) xv xv (aa7 ap7 xv xk) xv xv)))
 (aa9 (af7 (aa8 (ah7 (ab6 (aF0 (fun a0 a1 a2 a3=>bl9 a0 a1 a2 a3) xv xv xv xv))))
 (ac7 (aa8 xk))
 ac5)
 (aa9 (af7 (bL0 (nj_bn (bA1 (bE0 dat_B) (by decide) true) (bL1 (fun _ _=>rfl) (fun a0 a1 a2 a3=>cf_l9 a0 a1 a2 a3) xv (aa7 ap7 xv xk) xv xv) (aa8 (aP3 (fun a0=>cf_o9 a0) xv))))
 (ac7 (aa8 xk))
 ac5)
 (aa9 (af7 (aa8 (aA4 (ab6 (aa7 (aR5 false) xv xk)) (ab6 (aa7 (aw0 false) (aa7 ap7 xv xk) xk))))
 (ad9 (bA3 (fun _=>rfl) (fun _ _=>rfl) bO6 (ae6 (aa7 aR3 xv xv) (aa7 aR4 xv xv))))
 ac5)
 (aa9 (af7 (aa8 (aA4 (ab6 (aa7 (aR5 false) xv xk)) (ab6 (aa7 (aw0 false) (aa7 ap7 xv xk) xk))))
 (ad9 (bA3 (fun _=>rfl) (fun _ _=>rfl) (f_rem (aQ0 aw5 aw5) (by decide)) (ae6 (aa7 aR3 xv xv) (aa7 aR4 xv xv))))
 ac5)
 (af7 (aa8 (at0 (ah7 (ab6 (aF0 (fun a0 a1 a2 a3=>bl9 a0 a1 a2 a3) xv xv xv xv))) (ah7 (ab6 (aF0 (fun a0 a1 a2 a3=>bl9 a0 a1 a2 a3) xv xv xv xv)))))
 (ac7 (aa8 xk))
 ac5)))))))))
 (aa9 (xs (aa8 (bO9 (fun _=>rfl) (fun a0=>cf_i9 a0) xv)))
 (ac7 (aa8 (aP5 (aP3 (fun a0=>bP9 a0) xv) (aP5 (aa7 (aw0 false) xv xv) (aF0 (fun a0 a1 a2 a3=>cf_n9 a0 a1 a2 a3) xv xv xv xv)))))))))))))
theorem cf_j9 (a_script:(List Int)):SimO bo1 D.bl (m_j9 [eS a_script]) (C_j9 a_script):=am9 ct_j9 rfl
end
noncomputable def aQ4 (ns:List Int) (k:Int):Int:=(ns[k.toNat]?).getD 0
theorem by0 (ns:List Int) (k:Int) (hk:0≤k):(C_k9 ns k).res= .ok (aQ4 ns k):=by
 unfold C_k9 bF1 bd4 bd3 au4 aQ4
 by_cases h:k < ns.length
 · obtain ⟨v,e⟩:∃ v,ns[k.toNat]?=some v:=⟨_,List.getElem?_eq_getElem (by omega)⟩
   simp [h,bQ4 ns hk,e]
 · have e:ns[k.toNat]?=none:=List.getElem?_eq_none (by omega)
   simp [h,e]
structure RoadOk (sz:Int) (r:List Int):Prop where
 two:2≤r.length
 last:r.getLast?=some 0
 nd:r.Nodup
 all:∀ x∈r,0≤x∧x < sz
theorem br0 {α:Type} {l:List α} {x:α} (h:l.length < ac0):appC l x=some ((),l ++ [x]):=by unfold appC; rw [if_pos h]
theorem ar5:∀ (n:Nat) (l:List Int),l.Nodup→(∀ x∈l,0≤x∧x < n)→l.length≤n:=by
 intro n
 induction n with
 | zero =>
   intro l nd al
   cases l with
   | nil=>exact Nat.le_refl _
   | cons x l=>have:=al x List.mem_cons_self; omega
 | succ n ih =>
   intro l nd al
   have h2:=ih (l.erase n) (nd.erase _) fun x hx=>by
    have hm:=(nd.mem_erase_iff).mp hx
    have:=al x hm.2
    have hne:=hm.1
    omega
   rw [List.length_erase] at h2
   split at h2 <;> omega
theorem RoadOk.len {sz:Int} {r:List Int} (h:RoadOk sz r):(r.length:Int)≤sz:=by
 have:=ar5 sz.toNat r h.nd fun x hx=>by have:=h.all x hx; omega
 obtain ⟨x,hx⟩:=List.exists_mem_of_ne_nil r (fun z=>by have:=h.two; rw [z] at this; simp at this)
 have:=h.all x hx
 omega
theorem aR6 {α:Type} {l:List α} {a:α} (h:l.Nodup) (ha:a∉l):(l ++ [a]).Nodup :=
 List.nodup_append.mpr ⟨h,by simp,fun x hx y hy=>by rw [List.mem_singleton.mp hy]; rintro rfl; exact ha hx⟩
structure WaysOk (sz:Int) (W:List (Int×Int)):Prop where
 nd:W.Nodup
 all:∀ p∈W,0≤p.1∧p.1 < p.2∧p.2 < sz
 len:W.length≤10000
noncomputable def ao5 (W:List (Int×Int)) (sz a:Int):List Int:=(rngI 0 sz).filter fun b=>decide ((min a b,max a b)∈W)
theorem bx7 (W:List (Int×Int)) (sz a:Int) (h0:0≤sz) (h1:sz≤1000):(C_q9 W sz a).res= .ok (ao5 W sz a):=by
 have e:∀ s:S_q9,s=⟨W,sz,a⟩→aM1 (unC (rngC 0) (pC fun p=>p.v19q)) (bnC (inC false) (prC (bnC minC (pC fun p=>p.2.v0q) (pC fun p=>p.1)) (bnC maxC (pC fun p=>p.2.v0q) (pC fun p=>p.1))) (pC fun p=>p.2.v21q)) (pC fun p=>p.1) s= .ok (ao5 W sz a):=by
  rintro s rfl
  rw [be5 (l:=rngI 0 sz) (fun b=>decide ((min a b,max a b)∈W)) (fun x=>x) (by simp [ay6 (lo:=0) (hi:=sz) (by omega) (by omega) (by omega) (by omega)]) (by rw [az5]; unfold ac0; omega) (fun b _=>by
   have e1:(if b < a then b else a)=min a b:=by rw [Int.min_def]; split <;> split <;> omega
   have e2:(if a < b then b else a)=max a b:=by rw [Int.max_def]; split <;> split <;> omega
   simp [e1,e2]) (fun b _ _=>by simp)]
  simp [ao5]
 unfold C_q9 bE5
 first | (unfold bc5) | skip
 simp only [retC,upC]
 rw [e _ rfl]
 rfl
theorem bj5 (l:List Int) (m:Int):0≤ad8 l m↔0≤m∧∀ x∈l,0≤x:=by
 obtain ⟨h1,h2,h3⟩:=al3 l m
 constructor
 · intro h
   exact ⟨by omega,fun x hx=>by have:=h3 x hx; omega⟩
 · rintro ⟨a,b⟩
   rcases h1 with z | z
   · omega
   · exact b _ z
theorem aV3 (hs:List Int) (n:Int) (h:∀ x∈hs,0≤x∧x < n) (h0:0 < n):(C_t9 hs n).res= .ok ():=by
 unfold C_t9 bm0
 first | unfold aJ6 | skip
 cases hs with
 | nil =>
   have q:¬ n≤0:=by omega
   simp [q]
 | cons a l =>
   have q1:0≤ad8 l a:=(bj5 l a).mpr ⟨(h a List.mem_cons_self).1,fun x hx=>(h x (List.mem_cons_of_mem _ hx)).1⟩
   have q2:ai2 l a < n:=by
    obtain ⟨z | z,_⟩:=an9 l a
    · rw [z]; exact (h a List.mem_cons_self).2
    · exact (h _ (List.mem_cons_of_mem _ z)).2
   have q3:¬ ad8 l a < 0:=by omega
   have q4:¬ n≤ai2 l a:=by omega
   simp [q3,q4]
theorem aM7 (g:GuildT) (hs:List Int) (h:∀ x∈hs,0≤x∧x < g.house_count) (h0:0 < g.house_count):(C_g9 g hs).res= .ok ():=by
 have e:=aV3 hs g.house_count h h0
 unfold C_g9 bm3
 first | unfold aL7 | skip
 simp [e]
theorem in1 {a n:Int} (ha:0≤a∧a < n):∀ x∈[a],0≤x∧x < n:=fun x hx=>by rw [List.mem_singleton.mp hx]; exact ha
theorem in2 {a b n:Int} (ha:0≤a∧a < n) (hb:0≤b∧b < n):∀ x∈[a,b],0≤x∧x < n:=fun x hx=>by
 rcases List.mem_cons.mp hx with z | z
 · rw [z]; exact ha
 · rw [List.mem_singleton.mp z]; exact hb
theorem aV4 (g:GuildT) (a b:Int) (ha:0≤a∧a < g.house_count) (hb:0≤b∧b < g.house_count) (hne:a≠b):(C_h9 g a b).res= .ok ():=by
 have e:=aM7 g [a,b] (in2 ha hb) (by omega)
 unfold C_h9 be6
 simp [aB6,aL6,e,hne,ac0]
noncomputable def bI6 (L Q:DI Int) (r:List Int):Int:=(Q.get r).getD (match r with | a :: b :: _=>(L.get [a,b]).getD 0 | _=>0)
noncomputable def aE1 (L Q:DI Int) (r:List Int):Int×Int×List Int:=(0 - bI6 L Q r,(r.length:Int),r)
theorem bx8 (g:GuildT):(C_i9 g).res= .ok g.house_count:=by
 unfold C_i9 bF3
 first | unfold bd5 | skip
 simp
theorem bH2 (g:GuildT) (a b:Int) (ha:0≤a∧a < g.house_count) (hb:0≤b∧b < g.house_count) (hne:a≠b) (hw:g.ways.get [a,b]=none) (hl:g.ways.length + 1 < ac0):C_d9 g a b= .ok () ⟨{ g with ways:=(g.ways.put [a,b] true).put [b,a] true },a,b⟩:=by
 have e:=aV4 g a b ha hb hne
 have l1:g.ways.length < ac0:=by omega
 have l2:(g.ways.put [a,b] true).length < ac0:=Nat.lt_of_le_of_lt aH9 hl
 unfold C_d9 be8
 simp [aB8,aL9,be1,be0,e,hw,l1,l2]
theorem bx9 (g:GuildT) (a b:Int) (ha:0≤a∧a < g.house_count) (hb:0≤b∧b < g.house_count) (hne:a≠b) (hw:(g.ways.get [a,b]).isSome=true) (hw2:(g.ways.get [b,a]).isSome=true):C_e9 g a b= .ok () ⟨{ g with ways:=(g.ways.del [a,b]).del [b,a] },a,b⟩:=by
 have e:=aV4 g a b ha hb hne
 obtain ⟨x,ex⟩:=Option.isSome_iff_exists.mp hw
 obtain ⟨y,ey⟩:=Option.isSome_iff_exists.mp hw2
 have ey2:(g.ways.del [a,b]).get [b,a]=some y:=by
  rw [aI8,if_neg (by intro z; injection z with z1 z2; exact hne z1.symm)]; exact ey
 unfold C_e9 be7
 simp [aB7,aL8,bd9,bd8,e,ex,ey2]
structure GuildIs (g:GuildT) (sz:Int) (ways:List (Int×Int)) (fond dear:DI Int) (shy:List (Int×Int)):Prop where
 count:g.house_count=sz
 way:∀ x y,(g.ways.get [x,y]).isSome=true↔(x,y)∈ways∨(y,x)∈ways
 lik:∀ k,g.likings.get k=fond.get k
 wsh:∀ k,g.wish_ranks.get k=dear.get k
 shn:∀ x y,(g.shuns.get [x,y]).isSome=true↔(x,y)∈shy
theorem ba3 {β:Type} (k:List Int):DI.get ([]:DI β) k=none:=rfl
structure PathOk (sz:Int) (r:List Int):Prop where
 ne:r≠[]
 last:r.getLast?=some 0
 nd:r.Nodup
 all:∀ x∈r,0≤x∧x < sz
theorem PathOk.len {sz:Int} {r:List Int} (p:PathOk sz r):(r.length:Int)≤sz:=by
 have:=ar5 sz.toNat r p.nd fun x hx=>by have:=p.all x hx; omega
 obtain ⟨x,hx⟩:=List.exists_mem_of_ne_nil r p.ne
 have:=p.all x hx
 omega
noncomputable def aj9 (sz:Int) (P:DI Bool) (a:Int):List Int:=(rngI 0 sz).filter fun b=>(P.get [a,b]).isSome
theorem aV5 (g:GuildT) (P:DI Bool) (a:Int) (h0:0≤g.house_count) (h1:g.house_count≤1000):(C_c9 g P a).res= .ok (aj9 g.house_count P a):=by
 have e:∀ s:S_c9,s=⟨g,P,a⟩→aM1 (unC (rngC 0) (unC (fun g=> .ok g.house_count) (pC fun p=>p.v18q))) (bnC (dinC false) (unC av9 (prC (pC fun p=>p.2.v0q) (pC fun p=>p.1))) (pC fun p=>p.2.v15q)) (pC fun p=>p.1) s= .ok (aj9 g.house_count P a):=by
  rintro s rfl
  rw [be5 (l:=rngI 0 g.house_count) (fun b=>(P.get [a,b]).isSome) (fun x=>x) (by simp [ay6 (lo:=0) (hi:=g.house_count) (by omega) (by omega) (by omega) (by omega)]) (by rw [az5]; unfold ac0; omega) (fun b _=>by simp) (fun b _ _=>by simp)]
  simp [aj9]
 unfold C_c9 bF5 be2
 simp only [retC,upC]
 rw [e _ rfl]
 rfl
theorem ay2 (g:GuildT) (a:Int) (ha:0≤a∧a < g.house_count) (h1:g.house_count≤1000):(C_f9 g a).res= .ok (aj9 g.house_count g.ways a):=by
 have e:=aM7 g [a] (in1 ha) (by omega)
 have e2:=aV5 g g.ways a (by omega) h1
 unfold C_f9 bF4
 simp [bd7,bd6,e,e2,ac0]
structure TableOk (sz:Int) (T:List (Option (List Int))):Prop where
 len:(T.length:Int)=sz
 all:∀ r,some r∈T→PathOk sz r
theorem bj3 {W:List (Int×Int)} {sz a:Int} (h1:sz≤1000):(ao5 W sz a).length < ac0:=by
 have:=List.length_filter_le (fun b=>decide ((min a b,max a b)∈W)) (rngI 0 sz)
 rw [az5] at this
 unfold ac0
 unfold ao5
 omega
theorem TableOk.set {sz:Int} {T:List (Option (List Int))} (h:TableOk sz T) (j:Nat) (o:Option (List Int)) (ho:∀ r,o=some r→PathOk sz r):TableOk sz (T.set j o):=⟨by rw [List.length_set]; exact h.len,fun r hr=>by
 rcases List.mem_or_eq_of_mem_set hr with z | z
 · exact h.all r z
 · exact ho r z.symm⟩
theorem aM6 (x:Int):(C_s9 x).res= .ok true:=by
 unfold C_s9 bE4 bc4
 simp
theorem am3 {W:List (Int×Int)} {sz:Int} (hW:WaysOk sz W) (a b:Int):((a,b)∈W∨(b,a)∈W)↔(min a b,max a b)∈W:=by
 constructor
 · rintro (z | z)
   · have:=(hW.all _ z).2.1
     rw [show min a b=a by simp only at this; omega,show max a b=b by simp only at this; omega]; exact z
   · have:=(hW.all _ z).2.1
     rw [show min a b=b by simp only at this; omega,show max a b=a by simp only at this; omega]; exact z
 · intro z
   by_cases q:a≤b
   · rw [show min a b=a by omega,show max a b=b by omega] at z; exact .inl z
   · rw [show min a b=b by omega,show max a b=a by omega] at z; exact .inr z
theorem aI1 {g:GuildT} {sz:Int} {W:List (Int×Int)} {L Q:DI Int} {shy:List (Int×Int)} (G:GuildIs g sz W L Q shy) (hW:WaysOk sz W):aj9 sz g.ways=ao5 W sz:=by
 funext a
 unfold aj9 ao5
 refine List.filter_congr fun b _=>?_
 rw [Bool.eq_iff_iff,G.way,am3 hW,decide_eq_true_iff]
theorem GuildIs.lay {g:GuildT} {sz:Int} {W:List (Int×Int)} {L Q:DI Int} {shy:List (Int×Int)} (G:GuildIs g sz W L Q shy) (a b:Int):GuildIs { g with ways:=(g.ways.put [a,b] true).put [b,a] true } sz (W ++ [(min a b,max a b)]) L Q shy:=by
 refine ⟨G.count,fun x y=>?_,G.lik,G.wsh,G.shn⟩
 show (((g.ways.put [a,b] true).put [b,a] true).get [x,y]).isSome=true↔_
 rw [ba2,ba2,List.mem_append,List.mem_append,List.mem_singleton,List.mem_singleton]
 by_cases z1:[x,y]=[b,a]
 · rw [if_pos z1]; injection z1 with z1 z2; injection z2 with z2; subst z1 z2
   simp only [Option.isSome_some,true_iff]
   by_cases q:x≤y
   · exact .inl (.inr (by rw [show min y x=x by omega,show max y x=y by omega]))
   · exact .inr (.inr (by rw [show min y x=y by omega,show max y x=x by omega]))
 · rw [if_neg z1]
   by_cases z2:[x,y]=[a,b]
   · rw [if_pos z2]; injection z2 with z2 z3; injection z3 with z3; subst z2 z3
     simp only [Option.isSome_some,true_iff]
     by_cases q:x≤y
     · exact .inl (.inr (by rw [show min x y=x by omega,show max x y=y by omega]))
     · exact .inr (.inr (by rw [show min x y=y by omega,show max x y=x by omega]))
   · rw [if_neg z2,G.way]
     constructor
     · rintro (z | z)
       · exact .inl (.inl z)
       · exact .inr (.inl z)
     · have no:∀ u v:Int,(u,v)=(min a b,max a b)→[u,v]=[a,b]∨[u,v]=[b,a]:=fun u v e=>by
        injection e with e1 e2
        by_cases q:a≤b
        · exact .inl (by rw [e1,e2,show min a b=a by omega,show max a b=b by omega])
        · exact .inr (by rw [e1,e2,show min a b=b by omega,show max a b=a by omega])
       have sw:∀ {u v p q:Int},[u,v]=[p,q]→[v,u]=[q,p]:=fun e=>by injection e with e1 e2; injection e2 with e2; rw [e1,e2]
       rintro ((z | z) | (z | z))
       · exact .inl z
       · rcases no _ _ z with w | w
         · exact absurd w z2
         · exact absurd w z1
       · exact .inr z
       · rcases no _ _ z with w | w
         · exact absurd (sw w) z1
         · exact absurd (sw w) z2
theorem GuildIs.lift {g:GuildT} {sz:Int} {W W':List (Int×Int)} {L Q:DI Int} {shy:List (Int×Int)} (G:GuildIs g sz W L Q shy) (hW:WaysOk sz W) (a b:Int) (hm:∀ p,p∈W'↔p∈W∧p≠(min a b,max a b)):GuildIs { g with ways:=(g.ways.del [a,b]).del [b,a] } sz W' L Q shy:=by
 refine ⟨G.count,fun x y=>?_,G.lik,G.wsh,G.shn⟩
 show (((g.ways.del [a,b]).del [b,a]).get [x,y]).isSome=true↔_
 rw [aI8,aI8,hm,hm]
 have no:∀ u v:Int,(u,v)=(min a b,max a b)→[u,v]=[a,b]∨[u,v]=[b,a]:=fun u v e=>by
  injection e with e1 e2
  by_cases q:a≤b
  · exact .inl (by rw [e1,e2,show min a b=a by omega,show max a b=b by omega])
  · exact .inr (by rw [e1,e2,show min a b=b by omega,show max a b=a by omega])
 have yes:∀ u v:Int,(u,v)∈W→[u,v]=[a,b]∨[u,v]=[b,a]→(u,v)=(min a b,max a b):=fun u v hu e=>by
  have:=(hW.all _ hu).2.1
  simp only at this
  rcases e with e | e <;> (injection e with e1 e2; injection e2 with e2; subst e1 e2)
  · rw [show min u v=u by omega,show max u v=v by omega]
  · rw [show min v u=u by omega,show max v u=v by omega]
 have sw:∀ {u v p q:Int},[u,v]=[p,q]→[v,u]=[q,p]:=fun e=>by injection e with e1 e2; injection e2 with e2; rw [e1,e2]
 by_cases z1:[x,y]=[b,a]
 · rw [if_pos z1]
   simp only [Option.isSome_none,Bool.false_eq_true,false_iff]
   rintro (⟨w1,w2⟩ | ⟨w1,w2⟩)
   · exact w2 (yes _ _ w1 (.inr z1))
   · exact w2 (yes _ _ w1 (.inl (sw z1)))
 · rw [if_neg z1]
   by_cases z2:[x,y]=[a,b]
   · rw [if_pos z2]
     simp only [Option.isSome_none,Bool.false_eq_true,false_iff]
     rintro (⟨w1,w2⟩ | ⟨w1,w2⟩)
     · exact w2 (yes _ _ w1 (.inl z2))
     · exact w2 (yes _ _ w1 (.inr (sw z2)))
   · rw [if_neg z2,G.way]
     constructor
     · rintro (w | w)
       · refine .inl ⟨w,fun e=>?_⟩
         rcases no _ _ e with v | v
         · exact z2 v
         · exact z1 v
       · refine .inr ⟨w,fun e=>?_⟩
         rcases no _ _ e with v | v
         · exact z1 (sw v)
         · exact z2 (sw v)
     · rintro (⟨w,_⟩ | ⟨w,_⟩)
       · exact .inl w
       · exact .inr w
theorem bp0 {α:Type} [DecidableEq α]:∀ {xs:List α} {x:α},x∈xs→xs.Nodup→∃ ys,remC xs x=some ((),ys)∧ys.Nodup∧ys.length≤xs.length∧∀ y,y∈ys↔y∈xs∧y≠x
 | [],x,h,_=>(nomatch h)
 | z :: xs,x,h,nd=>by
   have nd':=List.nodup_cons.mp nd
   by_cases e:z=x
   · subst e
     refine ⟨xs,by unfold remC; simp [List.findIdx?_cons],nd'.2,by simp,fun y=>?_⟩
     constructor
     · exact fun hy=>⟨List.mem_cons_of_mem _ hy,fun w=>nd'.1 (w ▸ hy)⟩
     · rintro ⟨hy,hn⟩
       rcases List.mem_cons.mp hy with w | w
       · exact absurd w hn
       · exact w
   · have hx:x∈xs:=by
      rcases List.mem_cons.mp h with w | w
      · exact absurd w.symm e
      · exact w
     obtain ⟨ys,h1,h2,h3,h4⟩:=bp0 hx nd'.2
     unfold remC at h1
     obtain ⟨j,hj,hj2⟩:=Option.map_eq_some_iff.mp h1
     have hj2:xs.eraseIdx j=ys:=by injection hj2
     refine ⟨z :: ys,?_,List.nodup_cons.mpr ⟨fun w=>nd'.1 ((h4 z).mp w).1,h2⟩,by simpa using h3,fun y=>?_⟩
     · unfold remC
       rw [List.findIdx?_cons,decide_eq_false e,hj]
       simp [hj2]
     · rw [List.mem_cons,List.mem_cons,h4]
       constructor
       · rintro (w | ⟨w1,w2⟩)
         · exact ⟨.inl w,by rw [w]; exact e⟩
         · exact ⟨.inr w1,w2⟩
       · rintro ⟨w | w,w2⟩
         · exact .inl w
         · exact .inr ⟨w,w2⟩
theorem neS (a b:String) (h:¬ (Str.ofString a=Str.ofString b)):(Str.ofString a=Str.ofString b)=False:=eq_false h
theorem n1:(("house" : Str) = "done")=False:=neS _ _ (by decide)
theorem n2:(("there" : Str) = "done")=False:=neS _ _ (by decide)
theorem n3:(("none" : Str) = "done")=False:=neS _ _ (by decide)
theorem n4:(("house" : Str) = "there")=False:=neS _ _ (by decide)
theorem n5:(("house" : Str) = "none")=False:=neS _ _ (by decide)
theorem n6:(("there" : Str) = "house")=False:=neS _ _ (by decide)
theorem n7:(("there" : Str) = "none")=False:=neS _ _ (by decide)
theorem n8:(("none" : Str) = "house")=False:=neS _ _ (by decide)
theorem n9:(("none" : Str) = "there")=False:=neS _ _ (by decide)
theorem am4 (a b:Int):(if b < a then b else a)=min a b:=by split <;> omega
theorem ar7 (a b:Int):(if a < b then b else a)=max a b:=by split <;> omega
structure Goes (sz:Int) (g:GuildT) (W:List (Int×Int)) (n:Nat):Prop where
 is:GuildIs g sz W [] [] []
 ok:WaysOk sz W
 few:W.length≤n
 gfew:g.ways.length≤2 * n
theorem bg2 {sz:Int} {g:GuildT} {W:List (Int×Int)} {n:Nat} (G:Goes sz g W n) (h0:1≤sz) (h1:sz≤60) (a:Int):(C_r9 g W sz a).res= .ok true:=by
 by_cases ha:a < 0∨sz≤a
 · have e1:ao4 ⟨g,W,sz,a,none,none,none,none⟩= .rt true ⟨g,W,sz,a,none,none,none,none⟩:=by
    rcases ha with q | q
    · simp [ao4,al4,q]
    · by_cases z:a < 0 <;> simp [ao4,al4,q,z]
   unfold C_r9 bm1 seqC
   rw [e1]
   rfl
 · have hc:=G.is.count
   have en:=ay2 g a (by omega) (by omega)
   rw [hc,aI1 G.is G.ok] at en
   have et:=bx7 W sz a (by omega) (by omega)
   have hl:=bj3 (W:=W) (sz:=sz) (a:=a) (by omega)
   generalize ao5 W sz a=l at en et hl
   have q1:¬ a < 0:=by omega
   have q2:¬ sz≤a:=by omega
   have e1:ao4 ⟨g,W,sz,a,none,none,none,none⟩= .nx ⟨g,W,sz,a,none,none,none,none⟩:=by simp [ao4,q1,q2]
   have e2:aK4 ⟨g,W,sz,a,none,none,none,none⟩= .nx ⟨g,W,sz,a,some l,none,none,none⟩:=by simp [aK4,en]
   have e3:aK3 ⟨g,W,sz,a,some l,none,none,none⟩= .nx ⟨g,W,sz,a,some l,some l,none,none⟩:=by simp [aK3,et]
   have e4:aK2 ⟨g,W,sz,a,some l,some l,none,none⟩= .nx ⟨g,W,sz,a,some l,some l,none,none⟩:=by simp [aK2]
   have step:∀ (x:Int) (s:S_r9),(∃ b,s=⟨g,W,sz,a,some l,some l,b,none⟩)→aj4 { s with v1q:=some x }= .nx ⟨g,W,sz,a,some l,some l,some x,none⟩:=by
    rintro x s ⟨b,rfl⟩
    simp [aj4,aM6]
   obtain ⟨s',e5',b',rfl⟩:=aA2 (u:=fun a s=>{ s with v1q:=some a }) (c:=aj4) (fun s:S_r9=>∃ b,s=⟨g,W,sz,a,some l,some l,b,none⟩) l ⟨g,W,sz,a,some l,some l,none,none⟩ ⟨none,rfl⟩ (fun x s _ h=>⟨_,.inl (step x s h),_,rfl⟩)
   have e5:aK0 ⟨g,W,sz,a,some l,some l,none,none⟩= .nx ⟨g,W,sz,a,some l,some l,b',none⟩:=by
    have:=aA0 (g:=fun s:S_r9=>s.v7q) (l0:=l) (u:=fun a s=>{ s with v1q:=some a }) (body:=aj4) (fun s=>∃ b,s=⟨g,W,sz,a,some l,some l,b,none⟩) (by rintro s ⟨b,rfl⟩; rfl)
     (fun x s h s' hs=>by
       have e:=step x s h
       rcases hs with q | q <;> (rw [e] at q; cases q)
       exact ⟨_,rfl⟩) l ⟨g,W,sz,a,some l,some l,none,none⟩ ⟨none,rfl⟩
    unfold aK0 aO7
    exact this.trans e5'
   have e6:aJ9 ⟨g,W,sz,a,some l,some l,b',none⟩= .nx ⟨g,W,sz,a,some l,some l,b',some true⟩:=by simp [aJ9]
   have e7:aJ8 ⟨g,W,sz,a,some l,some l,b',some true⟩= .nx ⟨g,W,sz,a,some (l ++ [a]),some l,b',some true⟩:=by simp [aJ8,br0 hl]
   have e8:aJ7 ⟨g,W,sz,a,some (l ++ [a]),some l,b',some true⟩= .rt true ⟨g,W,sz,a,some (l ++ [a]),some l,b',some true⟩:=by simp [aJ7,en]
   have nxs:∀ {a b:S_r9→FlC S_r9 Bool} {s s':S_r9},a s= .nx s'→seqC a b s=b s':=fun h=>by unfold seqC; rw [h]
   unfold C_r9 bm1
   rw [nxs e1,nxs e2,nxs e3,nxs e4,nxs e5,nxs e6,nxs e7,e8]
   rfl
noncomputable def dueF (W:List (Int×Int)) (sz k a b:Int):Str:=if a < 0∨b < 0∨sz≤a∨sz≤b∨a=b then "house" else if k=0∧(min a b,max a b)∈W then "there" else if k=1∧(min a b,max a b)∉W then "none" else "done"
theorem bH5 (W:List (Int×Int)) (sz k a b:Int):(C_m9 W sz k a b).res= .ok (dueF W sz k a b):=by
 unfold C_m9 bE9 dueF
 by_cases q:a < 0∨b < 0∨sz≤a∨sz≤b∨a=b
 · rw [if_pos q]
   have e1:au3 ⟨W,sz,k,a,b,none⟩= .rt "house" ⟨W,sz,k,a,b,none⟩:=by
    unfold au3 au2
    by_cases z1:min a b < 0
    · simp [am4,z1]
    · by_cases z2:sz≤max a b
      · simp [am4,ar7,z1,z2]
      · have z3:a=b:=by omega
        subst z3
        have z1':¬ a < 0:=by omega
        have z2':¬ sz≤a:=by omega
        simp [z1',z2']
   unfold seqC
   rw [e1]
   rfl
 · rw [if_neg q]
   have z1:¬ min a b < 0:=by omega
   have z2:¬ sz≤max a b:=by omega
   have z3:¬ a=b:=by omega
   have e1:au3 ⟨W,sz,k,a,b,none⟩= .nx ⟨W,sz,k,a,b,none⟩:=by simp [au3,am4,ar7,z1,z2,z3]
   have e2:aK8 ⟨W,sz,k,a,b,none⟩= .nx ⟨W,sz,k,a,b,some (decide ((min a b,max a b)∈W))⟩:=by simp [aK8,am4,ar7]; congr
   unfold seqC
   rw [e1]
   dsimp only
   rw [e2]
   dsimp only
   by_cases m:(min a b,max a b)∈W
   · by_cases k0:k=0
     · simp [au1,au0,m,k0]
     · simp [au1,aA8,aK7,m,k0]
   · by_cases k0:k=1
     · have k1:¬ k=0:=by omega
       simp [au1,aA8,at9,m,k0]
     · simp [au1,aA8,aK7,m,k0]
theorem br2 (g:GuildT) (a b:Int) (q:a < 0∨b < 0∨g.house_count≤a∨g.house_count≤b∨a=b) (h0:0 < g.house_count):(C_h9 g a b).res= .exc 11:=by
 by_cases r:a < 0∨b < 0∨g.house_count≤a∨g.house_count≤b
 · have e1:(C_t9 [a,b] g.house_count).res= .exc 11:=by
    unfold C_t9 bm0 aJ6 at4
    by_cases z1:min a b < 0
    · simp [ad8,am4,z1,ak8]
    · have z2:g.house_count≤max a b:=by omega
      simp [ad8,ai2,am4,ar7,z1,z2,ak8]
   have e2:(C_g9 g [a,b]).res= .exc 11:=by
    unfold C_g9 bm3
    first | unfold aL7 | skip
    simp [e1]
   unfold C_h9 be6
   simp [aB6,e2,ac0]
 · have e:=aM7 g [a,b] (in2 (by omega) (by omega)) h0
   have hab:a=b:=by omega
   subst hab
   unfold C_h9 be6
   simp [aB6,aL6,av3,e,ac0,ak8]
theorem bC8 {g:GuildT} {a b:Int} (e:(C_h9 g a b).res= .exc 11):C_d9 g a b= .exc 11 ⟨g,a,b⟩:=by
 unfold C_d9 be8
 simp [aB8,e]
theorem bj2 {g:GuildT} {a b:Int} (e:(C_h9 g a b).res= .exc 11):C_e9 g a b= .exc 11 ⟨g,a,b⟩:=by
 unfold C_e9 be7
 simp [aB7,e]
theorem aZ1 {g:GuildT} {a b:Int} (e:(C_h9 g a b).res= .ok ()) (h:(g.ways.get [a,b]).isSome=true):C_d9 g a b= .exc 13 ⟨g,a,b⟩:=by
 obtain ⟨x,ex⟩:=Option.isSome_iff_exists.mp h
 unfold C_d9 be8
 simp [aB8,aL9,av5,e,ex,ak8]
theorem aY9 {g:GuildT} {a b:Int} (e:(C_h9 g a b).res= .ok ()) (h:g.ways.get [a,b]=none):C_e9 g a b= .exc 12 ⟨g,a,b⟩:=by
 unfold C_e9 be7
 simp [aB7,aL8,av4,e,h,ak8]
noncomputable def ae3 (d:Str):List Bool:=if d = "done" then [] else [decide (d = "house"),decide (d = "there"),decide (d = "none"),true]
theorem bg3 (d:Str):(C_o9 d).res= .ok (ae3 d):=by
 unfold C_o9 bE7 ae3
 by_cases q:d = "done"
 · simp [aK6,at5,q,ac0]
 · simp [aK6,bc8,q,ac0]
theorem bq8 {g g':GuildT} {k a b:Int} {r:List Bool} (h:aA9 ⟨g,k,a,b,some [],none⟩= .nx ⟨g',k,a,b,some r,none⟩):C_l9 g k a b= .ok r ⟨g',k,a,b,none,none⟩:=by
 unfold C_l9 bF0
 simp [bd2,h,bd1,ac0]
theorem bq7 {g g':GuildT} {k a b:Int} (h:if k=0 then C_d9 g a b= .ok () ⟨g',a,b⟩ else C_e9 g a b= .ok () ⟨g',a,b⟩):C_l9 g k a b= .ok [] ⟨g',k,a,b,none,none⟩:=by
 refine bq8 ?_
 unfold aA9 tryC
 by_cases q:k=0
 · rw [if_pos q] at h
   simp [q,h]
 · rw [if_neg q] at h
   simp [q,h]
theorem aJ1 {g:GuildT} {k a b:Int} {c:Nat} {r:List Bool} (hc:(c=11∧r=[true,false,false,true])∨(c=12∧r=[false,false,true,true])∨(c=13∧r=[false,true,false,true])) (h:if k=0 then C_d9 g a b= .exc c ⟨g,a,b⟩ else C_e9 g a b= .exc c ⟨g,a,b⟩) :
 C_l9 g k a b= .ok r ⟨g,k,a,b,none,none⟩:=by
 refine bq8 ?_
 unfold aA9 tryC
 have e:ifC (β:=List Bool) (upC (bnC (eqC false) (pC fun p=>p.v12q) (kC (0:Int)))) (ai4 (mc3C C_d9 (fun s' s=>{ s with v9q:=s'.v18q }) (pC fun p=>p.v9q) (pC fun p=>p.v0q) (pC fun p=>p.v1q))) (ai4 (mc3C C_e9 (fun s' s=>{ s with v9q:=s'.v18q }) (pC fun p=>p.v9q) (pC fun p=>p.v0q) (pC fun p=>p.v1q))) (⟨g,k,a,b,some [],none⟩:S_l9)= .exc c ⟨g,k,a,b,some [],none⟩:=by
  by_cases q:k=0
  · rw [if_pos q] at h
    simp [q,h]
  · rw [if_neg q] at h
    simp [q,h]
 rw [e]
 rcases hc with ⟨rfl,rfl⟩ | ⟨rfl,rfl⟩ | ⟨rfl,rfl⟩ <;> rfl
theorem bi5 {z:Int} (h:z < 1∨60 < z):(C_p9 z).res= .ok true:=by
 have hm:mk_Guild z= .exc 11:=by unfold mk_Guild; rw [if_neg (by omega)]
 have e:aK5 ⟨z,some false,none⟩= .nx ⟨z,some true,none⟩:=by
  unfold aK5 tryC
  have:ai4 (β:=Bool) (upC (pk1C mk_Guild (pC fun p=>p.v19q))) (⟨z,some false,none⟩:S_p9)= .exc 11 ⟨z,some false,none⟩:=by simp [hm]
  rw [this]
  rfl
 unfold C_p9 bE6
 simp [bc7,e,bc6]
theorem deed {sz:Int} {g:GuildT} {W:List (Int×Int)} {n:Nat} (G:Goes sz g W n) (h0:1≤sz) (hn:n≤100) (k a b:Int) (hk:k=0∨k=1):∃ (g':GuildT) (W':List (Int×Int)),C_l9 g k a b= .ok (ae3 (dueF W sz k a b)) ⟨g',k,a,b,none,none⟩∧Goes sz g' W' (n + 1) ∧
 (if dueF W sz k a b = "done" then (if k=0 then appC W (min a b,max a b)=some ((),W') else remC W (min a b,max a b)=some ((),W')) else W'=W):=by
 have hc:=G.is.count
 have stay:Goes sz g W (n + 1):=⟨G.is,G.ok,Nat.le_succ_of_le G.few,by have:=G.gfew; omega⟩
 by_cases q:a < 0∨b < 0∨sz≤a∨sz≤b∨a=b
 · have ed:dueF W sz k a b = "house" := by unfold dueF; rw [if_pos q]
   have eb:=br2 g a b (by rw [hc]; exact q) (by omega)
   refine ⟨g,W,?_,stay,by rw [ed,if_neg (by rw [n1]; exact id)]⟩
   rw [ed]
   have em:ae3 "house" = [true,false,false,true]:=by simp [ae3,n1,n4,n5]
   rw [em]
   exact aJ1 (.inl ⟨rfl,rfl⟩) (by split; exact bC8 eb; exact bj2 eb)
 · have ha:0≤a∧a < g.house_count:=by omega
   have hb:0≤b∧b < g.house_count:=by omega
   have hne:a≠b:=by omega
   have eo:=aV4 g a b ha hb hne
   have hw:=(G.is.way a b).trans (am3 G.ok a b)
   have hw2:=(G.is.way b a).trans (am3 G.ok b a)
   rw [show min b a=min a b by omega,show max b a=max a b by omega] at hw2
   have hlW:W.length < ac0:=by have:=G.few; unfold ac0; omega
   by_cases m:(min a b,max a b)∈W
   · rcases hk with rfl | rfl
     · have ed:dueF W sz 0 a b = "there" := by unfold dueF; rw [if_neg q,if_pos ⟨rfl,m⟩]
       refine ⟨g,W,?_,stay,by rw [ed,if_neg (by rw [n2]; exact id)]⟩
       rw [ed]
       have em:ae3 "there" = [false,true,false,true]:=by simp [ae3,n2,n6,n7]
       rw [em]
       exact aJ1 (.inr (.inr ⟨rfl,rfl⟩)) (by rw [if_pos rfl]; exact aZ1 eo (hw.mpr m))
     · have ed:dueF W sz 1 a b = "done" := by unfold dueF; rw [if_neg q,if_neg (fun z=>by cases z.1),if_neg (fun z=>z.2 m)]
       obtain ⟨W',er,nd',ln',mem'⟩:=bp0 m G.ok.nd
       have el:=bx9 g a b ha hb hne (hw.mpr m) (hw2.mpr m)
       refine ⟨{ g with ways:=(g.ways.del [a,b]).del [b,a] },W',?_,⟨G.is.lift G.ok a b mem',⟨nd',fun p hp=>G.ok.all p ((mem' p).mp hp).1,Nat.le_trans ln' G.ok.len⟩,by have:=G.few; omega,?_⟩,?_⟩
       · rw [ed,show ae3 "done" = [] by simp [ae3]]
         exact bq7 (by rw [if_neg (by decide)]; exact el)
       · have:=bb9 (F:=g.ways) (k:=[a,b])
         have:=bb9 (F:=g.ways.del [a,b]) (k:=[b,a])
         have:=G.gfew
         show ((g.ways.del [a,b]).del [b,a]).length≤_
         omega
       · rw [ed,if_pos rfl,if_neg (by decide)]; exact er
   · rcases hk with rfl | rfl
     · have ed:dueF W sz 0 a b = "done" := by unfold dueF; rw [if_neg q,if_neg (fun z=>m z.2),if_neg (fun z=>by cases z.1)]
       have hnone:g.ways.get [a,b]=none:=by
        cases z:g.ways.get [a,b] with
        | none=>rfl
        | some x=>exact absurd (hw.mp (by rw [z]; rfl)) m
       have el:=bH2 g a b ha hb hne hnone (by have:=G.gfew; unfold ac0; omega)
       refine ⟨{ g with ways:=(g.ways.put [a,b] true).put [b,a] true },W ++ [(min a b,max a b)],?_,⟨G.is.lay a b,⟨aR6 G.ok.nd m,fun p hp=>?_,?_⟩,?_,?_⟩,?_⟩
       · rw [ed,show ae3 "done" = [] by simp [ae3]]
         exact bq7 (by rw [if_pos rfl]; exact el)
       · rcases List.mem_append.mp hp with z | z
         · exact G.ok.all p z
         · rw [List.mem_singleton.mp z]
           exact ⟨by show 0≤min a b; omega,by show min a b < max a b; omega,by show max a b < sz; omega⟩
       · rw [List.length_append,List.length_singleton]; have:=G.few; omega
       · rw [List.length_append,List.length_singleton]; have:=G.few; omega
       · have h1:=aH9 (F:=g.ways) (k:=[a,b]) (v:=true)
         have h2:=aH9 (F:=g.ways.put [a,b] true) (k:=[b,a]) (v:=true)
         have:=G.gfew
         show ((g.ways.put [a,b] true).put [b,a] true).length≤_
         omega
       · rw [ed,if_pos rfl,if_pos rfl]; exact br0 hlW
     · have ed:dueF W sz 1 a b = "none" := by unfold dueF; rw [if_neg q,if_neg (fun z=>by cases z.1),if_pos ⟨rfl,m⟩]
       have hnone:g.ways.get [a,b]=none:=by
        cases z:g.ways.get [a,b] with
        | none=>rfl
        | some x=>exact absurd (hw.mp (by rw [z]; rfl)) m
       refine ⟨g,W,?_,stay,by rw [ed,if_neg (by rw [n3]; exact id)]⟩
       rw [ed]
       have em:ae3 "none" = [false,false,true,true]:=by simp [ae3,n3,n8,n9]
       rw [em]
       exact aJ1 (.inr (.inl ⟨rfl,rfl⟩)) (by rw [if_neg (by decide)]; exact aY9 eo hnone)
theorem bH3 (g:GuildT) (a b:Int) (ha:0≤a∧a < g.house_count) (hb:0≤b∧b < g.house_count):(C_b9 g a b).res= .ok (g.ways.get [a,b]).isSome:=by
 have e:=aM7 g [a,b] (in2 ha hb) (by omega)
 unfold C_b9 bF6
 simp [be4,be3,e,ac0]
theorem bH4 {sz:Int} {g:GuildT} {W:List (Int×Int)} {n:Nat} (G:Goes sz g W n) (h0:1≤sz) (h1:sz≤60) (c:Int):(C_n9 g W sz c).res= .ok true:=by
 obtain ⟨s',e,x,y,z,rfl⟩:=aA2 (u:=fun a s=>{ s with v0q:=some a }) (c:=aM2) (fun s:S_n9=>∃ x y z,s=⟨g,W,sz,c,x,y,z⟩) (rngI 0 sz) ⟨g,W,sz,c,none,none,none⟩ ⟨_,_,_,rfl⟩ (by
  rintro a s ha ⟨x,y,z,rfl⟩
  have ha:=bj0.mp ha
  have hc:=G.is.count
  have b0:=Int.emod_nonneg (a * 7 + c) (show sz≠0 by omega)
  have b1:=Int.emod_lt_of_pos (a * 7 + c) (show 0 < sz by omega)
  have et:=bg2 G h0 h1 a
  have eh:=bH3 g a ((a * 7 + c) % sz) (by omega) (by omega)
  have hw:=(G.is.way a ((a * 7 + c) % sz)).trans (am3 G.ok a _)
  have ew:(g.ways.get [a,(a * 7 + c) % sz]).isSome=decide ((min a ((a * 7 + c) % sz),max a ((a * 7 + c) % sz))∈W):=by rw [Bool.eq_iff_iff,hw,decide_eq_true_iff]
  rw [ew] at eh
  have xm:-18446744073709551616 < a∧a < 18446744073709551616:=by omega
  have hz:0 < sz:=by omega
  refine ⟨_,.inl ?_,some a,some ((a * 7 + c) % sz),some (decide ((min a ((a * 7 + c) % sz),max a ((a * 7 + c) % sz))∈W)),rfl⟩
  have s1:at8 ⟨g,W,sz,c,some a,y,z⟩= .nx ⟨g,W,sz,c,some a,y,z⟩:=by simp [at8,et]
  have s2:at7 ⟨g,W,sz,c,some a,y,z⟩= .nx ⟨g,W,sz,c,some a,some ((a * 7 + c) % sz),z⟩:=by simp [at7,xm,hz]
  have s3:at6 ⟨g,W,sz,c,some a,some ((a * 7 + c) % sz),z⟩= .nx ⟨g,W,sz,c,some a,some ((a * 7 + c) % sz),some (decide ((min a ((a * 7 + c) % sz),max a ((a * 7 + c) % sz))∈W))⟩:=by simp [at6,eh]
  unfold aM2 seqC
  rw [s1]; dsimp only
  rw [s2]; dsimp only
  rw [s3]; dsimp only
  generalize (a * 7 + c) % sz=b
  by_cases m:(min a b,max a b)∈W <;> simp [aF3,am4,ar7,m])
 unfold C_n9 bE8 bd0 bc9
 simp [ay6 (lo:=0) (hi:=sz) (by omega) (by omega) (by omega) (by omega),e]
theorem step7 {sz f:Int} {g:GuildT} {W:List (Int×Int)} {n:Nat} (ns:List Int) (G:Goes sz g W n) (h0:1≤sz) (h1:sz≤60) (hn:n≤100) (x:Int) (m a0 b0:Option Int) (d0:Option Str) :
 ∃ g' W' a b d,aB9 ⟨ns,some f,m,some sz,some g,some W,some x,a0,b0,d0,none⟩= .nx ⟨ns,some f,m,some sz,some g',some W',some x,a,b,d,none⟩∧Goes sz g' W' (n + 1):=by
 have hz:0 < sz + 2∧sz + 2 < 1073741824:=by omega
 have hz':0 < sz + 2:=hz.1
 have e1:av0 ⟨ns,some f,m,some sz,some g,some W,some x,a0,b0,d0,none⟩= .nx ⟨ns,some f,m,some sz,some g,some W,some x,some (x / 2 % (sz + 2) - 1),b0,d0,none⟩:=by simp [av0,hz']
 have e2:∀ a,au9 ⟨ns,some f,m,some sz,some g,some W,some x,some a,b0,d0,none⟩= .nx ⟨ns,some f,m,some sz,some g,some W,some x,some a,some (x / 2 / (sz + 2) % (sz + 2) - 1),d0,none⟩:=fun a=>by simp [au9,hz]
 generalize x / 2 % (sz + 2) - 1=a at e1
 replace e2:=e2 a
 generalize x / 2 / (sz + 2) % (sz + 2) - 1=b at e2
 have hk:x % 2=0∨x % 2=1:=by omega
 have k2:∀ y:Int,modC x 2= .ok (x % 2):=fun _=>by simp
 obtain ⟨g',W',ed,G',hW⟩:=deed G h0 hn (x % 2) a b hk
 have eu:=bH5 W sz (x % 2) a b
 have e3:au8 ⟨ns,some f,m,some sz,some g,some W,some x,some a,some b,d0,none⟩= .nx ⟨ns,some f,m,some sz,some g,some W,some x,some a,some b,some (dueF W sz (x % 2) a b),none⟩:=by simp [au8,eu]
 generalize dueF W sz (x % 2) a b=d at ed hW e3
 have em:=bg3 d
 generalize ae3 d=mk at ed em
 have t1:=bg2 G h0 h1 a
 have e4:au7 ⟨ns,some f,m,some sz,some g,some W,some x,some a,some b,some d,none⟩= .nx ⟨ns,some f,m,some sz,some g,some W,some x,some a,some b,some d,none⟩:=by simp [au7,t1]
 have e5:au6 ⟨ns,some f,m,some sz,some g,some W,some x,some a,some b,some d,none⟩= .nx ⟨ns,some f,m,some sz,some g',some W,some x,some a,some b,some d,none⟩:=by simp [au6,ed,em]
 have e67:seqC aj6 aj5 ⟨ns,some f,m,some sz,some g',some W,some x,some a,some b,some d,none⟩= .nx ⟨ns,some f,m,some sz,some g',some W',some x,some a,some b,some d,none⟩:=by
  by_cases hd:d = "done"
  · rw [if_pos hd] at hW
    rcases hk with k | k
    · rw [if_pos k] at hW
      have k':¬ x % 2=1:=by omega
      simp [aj6,an4,aj5,hd,k,am4,ar7,hW]
    · have k':¬ x % 2=0:=by omega
      rw [if_neg k'] at hW
      simp [aj6,aj5,an3,hd,k,am4,ar7,hW]
  · rw [if_neg hd] at hW
    subst hW
    simp [aj6,aj5,hd]
 have t2:=bg2 G' h0 h1 a
 have t3:=bg2 G' h0 h1 b
 have e8:au5 ⟨ns,some f,m,some sz,some g',some W',some x,some a,some b,some d,none⟩= .nx ⟨ns,some f,m,some sz,some g',some W',some x,some a,some b,some d,none⟩:=by simp [au5,t2,t3]
 have nxs:∀ {a b:S_j9→FlC S_j9 Bool} {s s':S_j9},a s= .nx s'→seqC a b s=b s':=fun h=>by unfold seqC; rw [h]
 have assoc:∀ {a b c:S_j9→FlC S_j9 Bool} {s s':S_j9},seqC a b s= .nx s'→seqC a (seqC b c) s=c s':=fun {a b c s s'} h=>by
  unfold seqC at h ⊢
  cases q:a s with
  | nx s1=>rw [q] at h; dsimp only at h ⊢; rw [h]
  | _=>rw [q] at h; cases h
 refine ⟨g',W',some a,some b,some d,?_,G'⟩
 unfold aB9
 rw [nxs e1,nxs e2,nxs e3,nxs e4,nxs e5,assoc e67,e8]
theorem aS7 (ns:List Int) (hl:ns.length≤63):∃ s,C_j9 ns= .ok true s:=by
 have k0:=by0 ns 0 (by decide)
 have e1:aL5 ⟨ns,none,none,none,none,none,none,none,none,none,none⟩= .nx ⟨ns,some (aQ4 ns 0),none,none,none,none,none,none,none,none,none⟩:=by simp [aL5,k0]
 generalize aQ4 ns 0=f at e1
 obtain ⟨s2,e2',m,rfl⟩:=aA2 (u:=fun a s=>{ s with v13q:=some a }) (c:=av2) (fun s:S_j9=>∃ m,s=⟨ns,some f,m,none,none,none,none,none,none,none,none⟩) [0,61,0 - 1 - f % 1000000,61 + f % 1000000] ⟨ns,some f,none,none,none,none,none,none,none,none,none⟩ ⟨_,rfl⟩ (by
  rintro z s hz ⟨m,rfl⟩
  have q:=Int.emod_nonneg f (show (1000000:Int)≠0 by decide)
  have:=bi5 (z:=z) (by
   rcases List.mem_cons.mp hz with rfl | hz
   · omega
   · rcases List.mem_cons.mp hz with rfl | hz
     · omega
     · rcases List.mem_cons.mp hz with rfl | hz
       · omega
       · rw [List.mem_singleton.mp hz]; omega)
  exact ⟨_,.inl (by simp [av2,this]; rfl),_,rfl⟩)
 have e2:aL4 ⟨ns,some f,none,none,none,none,none,none,none,none,none⟩= .nx ⟨ns,some f,m,none,none,none,none,none,none,none,none⟩:=by
  unfold aL4
  rw [← e2']
  simp [ac0]
 have m9:=Int.emod_nonneg f (show (9:Int)≠0 by decide)
 have m9':=Int.emod_lt_of_pos f (show (0:Int) < 9 by decide)
 have m5:=Int.emod_nonneg (f / 36) (show (51:Int)≠0 by decide)
 have m5':=Int.emod_lt_of_pos (f / 36) (show (0:Int) < 51 by decide)
 obtain ⟨sz,e34,z0,z1⟩:∃ sz:Int,seqC aB4 aB3 ⟨ns,some f,m,none,none,none,none,none,none,none,none⟩= .nx ⟨ns,some f,m,some sz,none,none,none,none,none,none,none⟩∧1≤sz∧sz≤60:=by
  by_cases q:f / 9 % 4=1
  · exact ⟨10 + f / 36 % 51,by simp [aB4,aB3,av1,q],by omega,by omega⟩
  · exact ⟨1 + f % 9,by simp [aB4,aB3,q],by omega,by omega⟩
 have hm:mk_Guild sz= .ok ⟨sz,[],[],[],[]⟩:=by unfold mk_Guild; rw [if_pos ⟨z0,z1⟩]
 have e5:aL3 ⟨ns,some f,m,some sz,none,none,none,none,none,none,none⟩= .nx ⟨ns,some f,m,some sz,some ⟨sz,[],[],[],[]⟩,none,none,none,none,none,none⟩:=by simp [aL3,hm]
 have e6:aL2 ⟨ns,some f,m,some sz,some ⟨sz,[],[],[],[]⟩,none,none,none,none,none,none⟩= .nx ⟨ns,some f,m,some sz,some ⟨sz,[],[],[],[]⟩,some [],none,none,none,none,none⟩:=by simp [aL2,ac0]
 obtain ⟨s7,e7',g,W,c,a,b,d,rfl,G⟩:=bk7 (u:=fun a s=>{ s with v2q:=some a }) (c:=aB9) (fun p (s:S_j9)=>∃ g W c a b d,s=⟨ns,some f,m,some sz,some g,some W,c,a,b,d,none⟩∧Goes sz g W p.length)
  (ns.drop 1) ⟨ns,some f,m,some sz,some ⟨sz,[],[],[],[]⟩,some [],none,none,none,none,none⟩ ⟨_,_,_,_,_,_,rfl,⟨⟨rfl,fun x y=>by simp [ba3],fun _=>rfl,fun _=>rfl,fun x y=>by simp [ba3]⟩,⟨by simp,fun _ h=>(nomatch h),by simp⟩,by simp,by simp⟩⟩ (by
    rintro p x r s he ⟨g,W,c,a,b,d,rfl,G⟩
    have hp:p.length≤100:=by
     have:=congrArg List.length he
     rw [List.length_drop,List.length_append,List.length_cons] at this
     omega
    obtain ⟨g',W',a',b',d',e,G'⟩:=step7 ns G z0 z1 hp (f:=f) x m a b d
    exact ⟨_,.inl e,g',W',some x,a',b',d',rfl,by rw [List.length_append,List.length_singleton]; exact G'⟩)
 have e7:aL1 ⟨ns,some f,m,some sz,some ⟨sz,[],[],[],[]⟩,some [],none,none,none,none,none⟩= .nx ⟨ns,some f,m,some sz,some g,some W,c,a,b,d,none⟩:=by
  unfold aL1
  rw [← e7']
  simp
 have es:=bx8 g
 have hc:=G.is.count
 have e8:aL0 ⟨ns,some f,m,some sz,some g,some W,c,a,b,d,none⟩= .nx ⟨ns,some f,m,some sz,some g,some W,c,a,b,d,some sz⟩:=by simp [aL0,es,hc]
 have ee:=bH4 G z0 z1 f
 have e9:aK9 ⟨ns,some f,m,some sz,some g,some W,c,a,b,d,some sz⟩= .rt true ⟨ns,some f,m,some sz,some g,some W,c,a,b,d,some sz⟩:=by simp [aK9,aM6,ee]
 refine ⟨⟨ns,some f,m,some sz,some g,some W,c,a,b,d,some sz⟩,?_⟩
 have nxs:∀ {a b:S_j9→FlC S_j9 Bool} {s s':S_j9},a s= .nx s'→seqC a b s=b s':=fun h=>by unfold seqC; rw [h]
 have assoc:∀ {a b c:S_j9→FlC S_j9 Bool} {s s':S_j9},seqC a b s= .nx s'→seqC a (seqC b c) s=c s':=fun {a b c s s'} h=>by
  unfold seqC at h ⊢
  cases q:a s with
  | nx s1=>rw [q] at h; dsimp only at h ⊢; rw [h]
  | _=>rw [q] at h; cases h
 unfold C_j9 bF2
 rw [nxs e1,nxs e2,assoc e34,nxs e5,nxs e6,nxs e7,nxs e8,e9]
 rfl
theorem bj6 (ns:List Int) (hl:ns.length≤63):∃ ρ,m_j9 [.scr (ns.map D.int)]= .ok (.bl true) ρ:=by
 obtain ⟨s,e⟩:=aS7 ns hl
 have:=cf_j9 ns
 rw [e] at this
 exact ⟨_,this⟩
end K01
namespace K01
open PySem L2
theorem funO {K:PySem.W.Frag} {x q:Str} {st s2:Stmt} {f:Addr} (h:HD.fnO K f q=HD.fnE x q st) (e:st=s2):∃ d,Fun K x q s2 f d:=by
 subst e
 have hk:=HD.fn_keep h
 obtain ⟨oc,od,kV,doc,pm,an,cdv,ct,osl,l,c⟩:=HD.fn_of h
 have e1:HD.dA st=at3 st:=by cases st <;> rfl
 have e2:HD.dB st=ah8 st:=by cases st <;> rfl
 have e3:HD.dS st=aa6 st:=by cases st <;> rfl
 rw [e1,e2,e3] at l
 exact ⟨_,bO5 l c hk⟩
noncomputable def tns:Tns:=[]
theorem bQ5 {w:World} {K:PySem.W.Frag} {h:Heap} {mg:Str→Option Value} {T:Tbs} {fa:Addr} (X:K.In h) (G:h.Ns mainGlobals mg) (hfa:mg "law" = some (.ref fa)) (TO:TabsOf mg h tns T) (y:HD.obK nsL msL fsL csL dsL esL ksL K=xpL PySem.Challenge.pw_heraldways_k01_ways_laid):∃ fd:FuncData,(∀ (s:Shared) (v:Value),BindsTo s fd ⟨[v],[]⟩ [("script",v)])∧∀ base:Heap,K.In base→base.Ns mainGlobals mg→(∀ c P,PySem.W.CodeHd h c P→PySem.W.CodeHd base c P)→FnOk PySem.Challenge.rw_heraldways_k01_ways_laid.prog w K mg base CX0 6 fa fd ["script"] (Mi.spT K T):=by
 have y1:=congrArg (·.1) y
 have y2:=congrArg (·.2.1) y
 have y3:=congrArg (·.2.2.1) y
 have y4:=congrArg (·.2.2.2.1) y
 have y5:=congrArg (·.2.2.2.2.1) y
 have y6:=congrArg (·.2.2.2.2.2) y
 clear y
 have e:=hfa.symm.trans (PySem.W.mg_of X G (HD.nth y1 11 rfl rfl))
 cases e
 obtain ⟨d_a9,F_a9⟩:=funO (s2:=s_a9) (HD.nth y4 0 rfl rfl) rfl
 obtain ⟨d_c9,F_c9⟩:=funO (s2:=s_c9) (HD.nth y4 1 rfl rfl) rfl
 obtain ⟨d_i9,F_i9⟩:=funO (s2:=s_i9) (HD.nth y4 2 rfl rfl) rfl
 obtain ⟨d_k9,F_k9⟩:=funO (s2:=s_k9) (HD.nth y4 3 rfl rfl) rfl
 obtain ⟨d_m9,F_m9⟩:=funO (s2:=s_m9) (HD.nth y4 4 rfl rfl) rfl
 obtain ⟨d_o9,F_o9⟩:=funO (s2:=s_o9) (HD.nth y4 5 rfl rfl) rfl
 obtain ⟨d_q9,F_q9⟩:=funO (s2:=s_q9) (HD.nth y4 6 rfl rfl) rfl
 obtain ⟨d_s9,F_s9⟩:=funO (s2:=s_s9) (HD.nth y4 7 rfl rfl) rfl
 obtain ⟨d_t9,F_t9⟩:=funO (s2:=s_t9) (HD.nth y4 8 rfl rfl) rfl
 obtain ⟨d_g9,F_g9⟩:=funO (s2:=s_g9) (HD.nth y4 9 rfl rfl) rfl
 obtain ⟨d_b9,F_b9⟩:=funO (s2:=s_b9) (HD.nth y4 10 rfl rfl) rfl
 obtain ⟨d_f9,F_f9⟩:=funO (s2:=s_f9) (HD.nth y4 11 rfl rfl) rfl
 obtain ⟨d_h9,F_h9⟩:=funO (s2:=s_h9) (HD.nth y4 12 rfl rfl) rfl
 obtain ⟨d_p9,F_p9⟩:=funO (s2:=s_p9) (HD.nth y4 13 rfl rfl) rfl
 obtain ⟨d_d9,F_d9⟩:=funO (s2:=s_d9) (HD.nth y4 14 rfl rfl) rfl
 obtain ⟨d_e9,F_e9⟩:=funO (s2:=s_e9) (HD.nth y4 15 rfl rfl) rfl
 obtain ⟨d_r9,F_r9⟩:=funO (s2:=s_r9) (HD.nth y4 16 rfl rfl) rfl
 obtain ⟨d_l9,F_l9⟩:=funO (s2:=s_l9) (HD.nth y4 17 rfl rfl) rfl
 obtain ⟨d_n9,F_n9⟩:=funO (s2:=s_n9) (HD.nth y4 18 rfl rfl) rfl
 obtain ⟨d_j9,F_j9⟩:=funO (s2:=s_j9) (HD.nth y4 19 rfl rfl) rfl
 have b_a9:=F_a9.binds (ps:=["self", "size"]) fun _ _ _ _ _ _=>L2.aS0 fun _ _=>rfl
 have b_c9:=F_c9.binds (ps:=["self", "pairs", "a"]) fun _ _ _ _ _ _=>L2.aI6 fun _ _ _=>rfl
 have b_i9:=F_i9.binds (ps:=["self"]) fun _ _ _ _ _ _=>L2.aS1 fun _=>rfl
 have b_k9:=F_k9.binds (ps:=["script", "k"]) fun _ _ _ _ _ _=>L2.aS0 fun _ _=>rfl
 have b_m9:=F_m9.binds (ps:=["ways", "size", "kind", "a", "b"]) fun _ _ _ _ _ _=>L2.lenV5 fun _ _ _ _ _=>rfl
 have b_o9:=F_o9.binds (ps:=["due"]) fun _ _ _ _ _ _=>L2.aS1 fun _=>rfl
 have b_q9:=F_q9.binds (ps:=["ways", "size", "a"]) fun _ _ _ _ _ _=>L2.aI6 fun _ _ _=>rfl
 have b_s9:=F_s9.binds (ps:=["found"]) fun _ _ _ _ _ _=>L2.aS1 fun _=>rfl
 have b_t9:=F_t9.binds (ps:=["houses", "count"]) fun _ _ _ _ _ _=>L2.aS0 fun _ _=>rfl
 have b_g9:=F_g9.binds (ps:=["self", "houses"]) fun _ _ _ _ _ _=>L2.aS0 fun _ _=>rfl
 have b_b9:=F_b9.binds (ps:=["self", "a", "b"]) fun _ _ _ _ _ _=>L2.aI6 fun _ _ _=>rfl
 have b_f9:=F_f9.binds (ps:=["self", "a"]) fun _ _ _ _ _ _=>L2.aS0 fun _ _=>rfl
 have b_h9:=F_h9.binds (ps:=["self", "a", "b"]) fun _ _ _ _ _ _=>L2.aI6 fun _ _ _=>rfl
 have b_p9:=F_p9.binds (ps:=["size"]) fun _ _ _ _ _ _=>L2.aS1 fun _=>rfl
 have b_d9:=F_d9.binds (ps:=["self", "a", "b"]) fun _ _ _ _ _ _=>L2.aI6 fun _ _ _=>rfl
 have b_e9:=F_e9.binds (ps:=["self", "a", "b"]) fun _ _ _ _ _ _=>L2.aI6 fun _ _ _=>rfl
 have b_r9:=F_r9.binds (ps:=["guild", "ways", "size", "a"]) fun _ _ _ _ _ _=>L2.bj4 fun _ _ _ _=>rfl
 have b_l9:=F_l9.binds (ps:=["guild", "kind", "a", "b"]) fun _ _ _ _ _ _=>L2.bj4 fun _ _ _ _=>rfl
 have b_n9:=F_n9.binds (ps:=["guild", "ways", "size", "cell"]) fun _ _ _ _ _ _=>L2.bj4 fun _ _ _ _=>rfl
 have b_j9:=F_j9.binds (ps:=["script"]) fun _ _ _ _ _ _=>L2.aS1 fun _=>rfl
 obtain ⟨pg_Guild,hd_Guild,po_Guild,mk_Guild,kc_Guild⟩:=HD.cls_of (HD.nth y3 9 rfl rfl)
 have hb:∀ (s:Shared) (v:Value),BindsTo s d_j9 ⟨[v],[]⟩ [("script",v)]:=by
  obtain ⟨oc,od,kV,doc,pm,an,cdv,ct,osl,rfl,lk,hcd⟩:=F_j9.ex
  exact fun s v=> .of_eq rfl
 refine ⟨d_j9,hb,fun base _ _ tr=>?_⟩
 have T0:Txt K mg ⟨218,31,44,56,68,91,d_a9,180,d_c9,98,d_i9,229,d_k9,248,d_m9,262,d_o9,241,d_q9,236,d_s9,77,d_t9,201,d_g9,112,d_b9,105,d_f9,208,d_h9,283,d_p9,119,d_d9,126,d_e9,269,d_r9,255,d_l9,276,d_n9,290,d_j9⟩ base:={
  cl_Guild:=⟨pg_Guild,hd_Guild,po_Guild,HD.nth y2 9 rfl rfl⟩
  mgC_Guild:=PySem.W.mg_of X G (HD.nth y1 0 rfl rfl)
  mk_Guild:=⟨mk_Guild,HD.nth y2 0 rfl rfl,HD.nth y3 0 rfl rfl,kc_Guild⟩
  n_house_count:=HD.nth y2 10 rfl rfl
  n_ways:=HD.nth y2 11 rfl rfl
  n_likings:=HD.nth y2 12 rfl rfl
  n_shuns:=HD.nth y2 13 rfl rfl
  n_wish_ranks:=HD.nth y2 14 rfl rfl
  mgC_GuildError:=PySem.W.mg_of X G (HD.nth y1 23 rfl rfl)
  ek_GuildError:=(Bool.and_eq_true_iff.mp (Prod.mk.inj (HD.nth y5 0 rfl rfl)).1).1
  xa_GuildError:=(Bool.and_eq_true_iff.mp (Prod.mk.inj (HD.nth y5 0 rfl rfl)).1).2
  mgC_NoHouse:=PySem.W.mg_of X G (HD.nth y1 24 rfl rfl)
  ek_NoHouse:=(Bool.and_eq_true_iff.mp (Prod.mk.inj (HD.nth y5 1 rfl rfl)).1).1
  xa_NoHouse:=(Bool.and_eq_true_iff.mp (Prod.mk.inj (HD.nth y5 1 rfl rfl)).1).2
  mgC_NoWay:=PySem.W.mg_of X G (HD.nth y1 25 rfl rfl)
  ek_NoWay:=(Bool.and_eq_true_iff.mp (Prod.mk.inj (HD.nth y5 2 rfl rfl)).1).1
  xa_NoWay:=(Bool.and_eq_true_iff.mp (Prod.mk.inj (HD.nth y5 2 rfl rfl)).1).2
  mgC_WayThere:=PySem.W.mg_of X G (HD.nth y1 26 rfl rfl)
  ek_WayThere:=(Bool.and_eq_true_iff.mp (Prod.mk.inj (HD.nth y5 3 rfl rfl)).1).1
  xa_WayThere:=(Bool.and_eq_true_iff.mp (Prod.mk.inj (HD.nth y5 3 rfl rfl)).1).2
  sb_NoHouse_NoHouse:=by rw [show mroK K 44=_ from (Prod.mk.inj (HD.nth y5 1 rfl rfl)).2]; rfl
  sb_GuildError_GuildError:=by rw [show mroK K 31=_ from (Prod.mk.inj (HD.nth y5 0 rfl rfl)).2]; rfl
  sb_NoHouse_GuildError:=by rw [show mroK K 44=_ from (Prod.mk.inj (HD.nth y5 1 rfl rfl)).2]; rfl
  sb_NoWay_GuildError:=by rw [show mroK K 56=_ from (Prod.mk.inj (HD.nth y5 2 rfl rfl)).2]; rfl
  sb_WayThere_GuildError:=by rw [show mroK K 68=_ from (Prod.mk.inj (HD.nth y5 3 rfl rfl)).2]; rfl
  kt_NoHouse_GuildError:=HD.nth y6 0 rfl rfl
  kt_GuildError_NoHouse:=HD.nth y6 1 rfl rfl
  kt_GuildError_WayThere:=HD.nth y6 2 rfl rfl
  kt_GuildError_NoWay:=HD.nth y6 3 rfl rfl
  kt_GuildError_ValueError:=HD.nth y6 4 rfl rfl
  kt_NoHouse_NoHouse:=HD.nth y6 5 rfl rfl
  kt_NoHouse_WayThere:=HD.nth y6 6 rfl rfl
  kt_NoHouse_NoWay:=HD.nth y6 7 rfl rfl
  kt_NoHouse_ValueError:=HD.nth y6 8 rfl rfl
  kt_NoWay_NoHouse:=HD.nth y6 9 rfl rfl
  kt_NoWay_WayThere:=HD.nth y6 10 rfl rfl
  kt_NoWay_NoWay:=HD.nth y6 11 rfl rfl
  kt_NoWay_ValueError:=HD.nth y6 12 rfl rfl
  kt_WayThere_NoHouse:=HD.nth y6 13 rfl rfl
  kt_WayThere_WayThere:=HD.nth y6 14 rfl rfl
  kt_WayThere_NoWay:=HD.nth y6 15 rfl rfl
  kt_WayThere_ValueError:=HD.nth y6 16 rfl rfl
  F_a9:=F_a9
  b_a9:=b_a9
  F_c9:=F_c9
  b_c9:=b_c9
  me_c9:=⟨HD.nth y2 1 rfl rfl,HD.nth y3 1 rfl rfl,F_c9.kp⟩
  F_i9:=F_i9
  b_i9:=b_i9
  me_i9:=⟨HD.nth y2 2 rfl rfl,HD.nth y3 2 rfl rfl,F_i9.kp⟩
  F_k9:=F_k9
  b_k9:=b_k9
  m_k9:=PySem.W.mg_of X G (HD.nth y1 1 rfl rfl)
  kp_k9:=F_k9.kp
  F_m9:=F_m9
  b_m9:=b_m9
  m_m9:=PySem.W.mg_of X G (HD.nth y1 2 rfl rfl)
  kp_m9:=F_m9.kp
  F_o9:=F_o9
  b_o9:=b_o9
  m_o9:=PySem.W.mg_of X G (HD.nth y1 3 rfl rfl)
  kp_o9:=F_o9.kp
  F_q9:=F_q9
  b_q9:=b_q9
  m_q9:=PySem.W.mg_of X G (HD.nth y1 4 rfl rfl)
  kp_q9:=F_q9.kp
  F_s9:=F_s9
  b_s9:=b_s9
  m_s9:=PySem.W.mg_of X G (HD.nth y1 5 rfl rfl)
  kp_s9:=F_s9.kp
  F_t9:=F_t9
  b_t9:=b_t9
  m_t9:=PySem.W.mg_of X G (HD.nth y1 6 rfl rfl)
  kp_t9:=F_t9.kp
  F_g9:=F_g9
  b_g9:=b_g9
  me_g9:=⟨HD.nth y2 3 rfl rfl,HD.nth y3 3 rfl rfl,F_g9.kp⟩
  F_b9:=F_b9
  b_b9:=b_b9
  me_b9:=⟨HD.nth y2 4 rfl rfl,HD.nth y3 4 rfl rfl,F_b9.kp⟩
  F_f9:=F_f9
  b_f9:=b_f9
  me_f9:=⟨HD.nth y2 5 rfl rfl,HD.nth y3 5 rfl rfl,F_f9.kp⟩
  F_h9:=F_h9
  b_h9:=b_h9
  me_h9:=⟨HD.nth y2 6 rfl rfl,HD.nth y3 6 rfl rfl,F_h9.kp⟩
  F_p9:=F_p9
  b_p9:=b_p9
  m_p9:=PySem.W.mg_of X G (HD.nth y1 7 rfl rfl)
  kp_p9:=F_p9.kp
  F_d9:=F_d9
  b_d9:=b_d9
  me_d9:=⟨HD.nth y2 7 rfl rfl,HD.nth y3 7 rfl rfl,F_d9.kp⟩
  F_e9:=F_e9
  b_e9:=b_e9
  me_e9:=⟨HD.nth y2 8 rfl rfl,HD.nth y3 8 rfl rfl,F_e9.kp⟩
  F_r9:=F_r9
  b_r9:=b_r9
  m_r9:=PySem.W.mg_of X G (HD.nth y1 8 rfl rfl)
  kp_r9:=F_r9.kp
  F_l9:=F_l9
  b_l9:=b_l9
  m_l9:=PySem.W.mg_of X G (HD.nth y1 9 rfl rfl)
  kp_l9:=F_l9.kp
  F_n9:=F_n9
  b_n9:=b_n9
  m_n9:=PySem.W.mg_of X G (HD.nth y1 10 rfl rfl)
  kp_n9:=F_n9.kp
  F_j9:=F_j9
  b_j9:=b_j9
  m_j9:=PySem.W.mg_of X G (HD.nth y1 11 rfl rfl)
  kp_j9:=F_j9.kp
  g_SEAT:=⟨_,PySem.W.mg_of X G (HD.nth y1 12 rfl rfl)⟩
  g_MOST_HOUSES:=⟨_,PySem.W.mg_of X G (HD.nth y1 13 rfl rfl)⟩
  z_len:=PySem.W.mg_none_of X G (HD.nth y1 14 rfl rfl)
  z_range:=PySem.W.mg_none_of X G (HD.nth y1 15 rfl rfl)
  z_min:=PySem.W.mg_none_of X G (HD.nth y1 16 rfl rfl)
  z_max:=PySem.W.mg_none_of X G (HD.nth y1 17 rfl rfl)
  z_list:=PySem.W.mg_none_of X G (HD.nth y1 18 rfl rfl)
  z_isinstance:=PySem.W.mg_none_of X G (HD.nth y1 19 rfl rfl)
  z_bool:=PySem.W.mg_none_of X G (HD.nth y1 20 rfl rfl)
  z_int:=PySem.W.mg_none_of X G (HD.nth y1 21 rfl rfl)
  z_ValueError:=PySem.W.mg_none_of X G (HD.nth y1 22 rfl rfl)
 }
 refine (ok_j9 T0).calm.imp fun vs H Q E hs=>?_
 obtain ⟨a,xs,hv,hq,hl,ht,hk⟩:=hs
 refine Mi.bN6 bj6 hv hq hl (fun p hp=>?_) hk
 cases hp
theorem walk {K:PySem.W.Frag} {q:Program} {loose:List Str} {XP:(Str→Option Value)→Heap→Prop} {d:DefRec} (hdf:d.params.defaults=[]) (hnm:d.name = "law") (y:HD.obK nsL msL fsL csL dsL esL ksL K=xpL PySem.Challenge.pw_heraldways_k01_ways_laid):PySem.W.WalkO q loose XP (fun _ h=>K.In h) PySem.Challenge.rw_heraldways_k01_ways_laid.row.toRowW d [] (fun f vs=>PySem.call f vs) :=
 L2.br1 (l:=PySem.Challenge.rw_heraldways_k01_ways_laid) (K:=fun _=>K) (n:=63) (k:=6) (x := "script") (CX:=fun _=>CX0) (sp:=fun _ T=>Mi.spT K T) tns rfl (by decide) hdf ⟨rfl,by decide,by decide⟩ (fun _ _ Y=>Y) (fun _ h=>absurd rfl h) (fun _ h=>(nomatch h)) (by unfold Tns.ok tns; decide) (fun w mg fa h T X G hfa TO=>bQ5 X G (hnm ▸ hfa) TO y) (fun w T H a ns hl hO hS=>⟨a,ns,rfl,Mi.bH1 hO hS,hl,Mi.tb_of hO,fun _=>rfl⟩) fun _ _ _ _ _ z=>z
end K01
open PySem PySem.W PyProof.Rows
set_option maxRecDepth 100000 in
set_option maxHeartbeats 0 in
theorem PySem.Challenge.cw_heraldways_k01_ways_laid_holds : PySem.Challenge.rw_heraldways_k01_ways_laid.Holds := by
 refine K01.hd0 fun said=>?_
 refine holds_openX (q:=K01.qP PySem.Challenge.pw_heraldways_k01_ways_laid) (loose:=[]) (Xt:=fun s=>xlAt (K01.qP PySem.Challenge.pw_heraldways_k01_ways_laid) [] s && recOk (RowW.records PySem.Challenge.rw_heraldways_k01_ways_laid.row.toRowW) s) (XP:=XL (K01.qP PySem.Challenge.pw_heraldways_k01_ways_laid) []) (Yf:=HD.ob 291 K01.nsL K01.msL K01.fsL K01.csL K01.dsL K01.esL K01.ksL) (Ya:=fun _=>K01.xpL PySem.Challenge.pw_heraldways_k01_ways_laid) (N:=4240) (fun w=>HD.two (K01.left1 w) (K01.left2 w)) (fun s e=>xl_of s (Bool.and_eq_true_iff.mp e).1) XL.keeps (by rfl) (by rfl) (by rfl) (fun s e=>recFacts_of (Bool.and_eq_true_iff.mp e).2) (by rfl) said (by decide +kernel) ⟨rfl,rfl,rfl,rfl,rfl,by decide +kernel⟩ ?hw (HD.walkX fun K y=>K01.walk rfl rfl y)
 case hw=>w_witness2
