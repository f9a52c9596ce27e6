import PyProof.Rows.All
import Wide.All
import OpenK.AllK
import Wide.FinOn
import Lean
import PyProof.EqAt
import PyProof.EqKinds
import PyProof.TupleCall
import KE.KLam
import KE.KMinKey
import KE.KDictList
import KE.KRevIter
import PyProof.WalksMore
import PyProof.Rows.SetFrom
import KE.KSortTup
import KE.KDictSum
import PySem.Challenge.RW_heraldways_k02_likings_and_ranks
set_option Elab.async false
set_option linter.all false
set_option maxRecDepth 100000
namespace HD
open PySem PySem.W PyProof.Rows
noncomputable def top (p:Program) (i:Nat):Stmt:=p.main.body.getD i (.Pass ⟨0,0,0,0⟩)
noncomputable def iC (s:Stmt) (j:Nat):Stmt:=match s with
 | .ClassDef _ _ _ body _ _ _ _ _ _ _=>body.getD j (.Pass ⟨0,0,0,0⟩)
 | _=> .Pass ⟨0,0,0,0⟩
noncomputable def dA (s:Stmt):Arguments:=match s with
 | .FunctionDef _ a _ _ _ _ _ _ _ _=>a
 | _=>{ posonlyargs:=[],args:=[],vararg:=none,kwonlyargs:=[],kw_defaults:=[],kwarg:=none,defaults:=[] }
noncomputable def dB (s:Stmt):List Stmt:=match s with
 | .FunctionDef _ _ b _ _ _ _ _ _ _=>b
 | _=>[]
noncomputable def dS (s:Stmt):Scope:=match s with
 | .FunctionDef _ _ _ _ _ _ sc _ _ _=>sc
 | _=>{ kind:= .function,names:=[],isGenerator:=false,isCoroutine:=false }
noncomputable def frag (as:List Addr) (h:Heap):Frag:=as.filterMap fun a=>(h.get? a).map fun o=>(a,o)
theorem bE1 (as:List Addr) (h:Heap):(frag as h).In h:=by
 intro a o e
 induction as with
 | nil=>cases e
 | cons b as ih =>
   unfold frag at e
   rw [List.filterMap_cons] at e
   cases q:h.get? b with
   | none =>
     rw [q] at e
     exact ih e
   | some x =>
     rw [q] at e
     replace e:List.lookup a ((b,x) :: frag as h)=some o:=e
     rw [List.lookup_cons] at e
     by_cases z:a=b
     · subst z
       rw [beq_self_eq_true a] at e
       cases e
       exact q
     · rw [beq_eq_false_iff_ne.mpr z] at e
       exact ih e
noncomputable abbrev FnO:=Str×Str×Arguments×FuncBody×Scope×Addr×List (Str×Addr)×Value×Addr×Bool
noncomputable def fnO (K:Frag) (f:Addr) (q:Str):Option FnO:=match K.lookup f with
 | some ⟨_,_,.func fd,_⟩=>some (fd.name,fd.qualname,fd.params,fd.body,fd.scope,fd.globals,fd.closure,fd.defaults,fd.builtins,codeIn K fd.code q)
 | _=>none
noncomputable def fnE (x q:Str) (st:Stmt):Option FnO:=some (x,q,dA st,.stmts (dB st),dS st,mainGlobals,[],.none,builtinsNs,true)
theorem fn_of {K:Frag} {f:Addr} {x q:Str} {st:Stmt} (h:fnO K f q=fnE x q st):∃ (oc:Value) (od:Option Addr) (kV doc pm:Value) (an:Option Addr) (cdv ct:Value) (osl:Array (Option Value)),
 K.lookup f=some ⟨oc,od,.func (fnOf x q (dA st) (dB st) (dS st) .none kV doc pm an cdv ct),osl⟩∧codeIn K cdv q=true:=by
 unfold fnO at h
 split at h
 · next oc od fd osl e =>
   obtain ⟨n,qn,pr,bd,sc,gl,cl,df,kd,dc,pm,an,cd,ct,bi⟩:=fd
   unfold fnE at h
   simp only [Option.some.injEq,Prod.mk.injEq] at h
   obtain ⟨rfl,rfl,rfl,rfl,rfl,rfl,rfl,rfl,rfl,hc⟩:=h
   exact ⟨oc,od,kd,dc,pm,an,cd,ct,osl,e,hc⟩
 · exact nomatch h
theorem fn_keep {K:Frag} {f:Addr} {x q:Str} {st:Stmt} (h:fnO K f q=fnE x q st):keepIn K (.ref f)=true:=by
 obtain ⟨oc,od,kV,doc,pm,an,cdv,ct,osl,e,_⟩:=fn_of h
 show (match K.lookup f with | some ⟨_,_,.func _,_⟩=>true | some ⟨_,_,.cls _,_⟩=>specialIn K (.ref f) "__call__" == some (some (.builtin "type.__call__")) | _=>false)=true
 rw [e]
noncomputable def mroK (K:Frag) (C:Addr):List Value:=match K.lookup C with
 | some ⟨_,_,.cls cd,_⟩=>cd.mro
 | _=>[]
noncomputable def excK (K:Frag) (C:Addr):Bool:=excIn K C [.type "ValueError",.type "Exception",.type "BaseException",.type "object"] "ValueError.__new__"
noncomputable def bP9 (K:Frag) (D:Addr):Bool:=findIn K (.ref D) "__getattribute__" == some (some (.builtin "BaseException.__getattribute__")) && (findIn K (.ref D) "__getattr__" == some none && (findIn K (.ref D) "__class__" == some (some (.builtin "object.__class__")) &&
 (specialIn K (.builtin "object.__class__") "__get__" == some (some (.builtin "getset_descriptor.__get__")) && (takesIn K (.builtin "object.__class__") == some true && (mroIn K D (.type "object") == some true && (mroIn K D (.type "BaseException") == some true && (clsIn K D).isSome))))))
noncomputable abbrev Ob:=List (Option (Option Value))×List (Option (Option Value))×List Bool×List (Option FnO)×List (Bool×List Value)×List (Option Bool)
noncomputable def cls (K:Frag) (C:Addr):Bool:=plainGet K C Str.empty && (hasDictIn K C && (plainOver K C && (makesIn K C && keepIn K (.ref C))))
noncomputable def obK (ns:List Str) (ms:List (Addr×Str)) (fs cs:List Addr) (ds:List (Addr×Str)) (es:List Addr) (ks:List (Addr×Value)) (K:Frag):Ob :=
 (ns.map (nsIn K mainGlobals),ms.map (fun p=>findIn K (.ref p.1) p.2),(fs.map fun f=>isFn K (.ref f)) ++ cs.map (cls K),ds.map (fun p=>fnO K p.1 p.2),es.map (fun C=>(excK K C && bP9 K C,mroK K C)),ks.map fun p=>kitOne K (.ref p.1) p.2)
noncomputable def ob (n:Nat) (ns:List Str) (ms:List (Addr×Str)) (fs cs:List Addr) (ds:List (Addr×Str)) (es:List Addr) (ks:List (Addr×Value)) (s:Shared):Ob:=obK ns ms fs cs ds es ks (frag (List.range n) s.heap)
theorem two {α β γ:Type} {o:Option α} {f:α→β} {g:α→γ} {a:β} {b:γ} (h1:o.map f=some a) (h2:o.map g=some b):o.map (fun s=>(f s,g s))=some (a,b):=by
 cases o with
 | none=>cases h1
 | some s=>cases h1; cases h2; rfl
theorem nth {α:Type} {l m:List α} (h:l=m) (i:Nat) {a b:α} (ha:l[i]?=some a) (hb:m[i]?=some b):a=b:=by
 subst h
 rw [ha] at hb
 exact Option.some.inj hb
theorem cls_of {K:Frag} {C:Addr} (h:cls K C=true):plainGet K C Str.empty=true∧hasDictIn K C=true∧plainOver K C=true∧makesIn K C=true∧keepIn K (.ref C)=true:=by
 unfold cls at h
 simpa only [Bool.and_eq_true] using h
theorem walkX {q:Program} {loose:List Str} {XP:(Str→Option Value)→Heap→Prop} {n:Nat} {ns:List Str} {ms:List (Addr×Str)} {fs cs:List Addr} {ds:List (Addr×Str)} {es:List Addr} {ks:List (Addr×Value)} {E:Ob} {r:RowW} {d:DefRec} {kwd:List (Str×Expr)} {run:Value→List Value→Sem Value}
 (W:∀ K:Frag,obK ns ms fs cs ds es ks K=E→WalkO q loose XP (fun _ h=>K.In h) r d kwd run):WalkX q loose XP (ob n ns ms fs cs ds es ks) (fun _=>E) r d kwd run :=
 fun w s0 s1 mg mb G y a o pm cd doc dV kV h1 h2 h3 h4 h5 h6 args vals as1 L b1 b2 b3 b4 b5=>W _ y w s0 s1 mg mb G ((bE1 _ _).keeps L.keeps) a o pm cd doc dV kV h1 h2 h3 h4 h5 h6 args vals as1 b1 b2 b3 b4 b5
end HD
set_option maxHeartbeats 4000000
namespace K02
open PySem PySem.W PyProof.Rows
theorem hd0 (h:PySem.Challenge.rw_heraldways_k02_likings_and_ranks.row.wellSaid=true→PySem.Challenge.rw_heraldways_k02_likings_and_ranks.row.Holds):PySem.Challenge.rw_heraldways_k02_likings_and_ranks.Holds:=by
 w_on; o_law; exact h (by assumption)
noncomputable abbrev qP (p:Program):Program:=view p [0,2,3,4,6,7,8,9,11,12,13,14,15,16,17,18]
noncomputable def nsL:List Str := "Guild" :: "_law_cell_at" :: "_law_due" :: "_law_rank_by" :: "_law_road_by" :: "_law_whole" :: "require_within" :: "_law_wishes_told" :: "_law_told" :: "law" :: "SEAT" :: "MOST_HOUSES" :: "len" :: "range" :: "min" :: "max" :: "set" :: "list" :: "tuple" :: "isinstance" :: "bool" :: "int" :: "sorted" :: []
noncomputable def msL:List (Addr×Str):=(206, "__init__") :: (206, "wishes") :: (206, "require_houses") :: (206, "like") :: (206, "liking") :: (206, "require_long_road") :: (206, "rank_of") :: (206, "wish") :: (206, "__setattr__") :: (206, "house_count") :: (206, "ways") :: (206, "likings") :: (206, "shuns") :: (206, "wish_ranks") :: []
noncomputable def fsL:List Addr:=[79,154,189,121,128,203,161,149]
noncomputable def csL:List Addr:=[206]
noncomputable def dsL:List (Addr×Str):=(79, "Guild.__init__") :: (154, "Guild.wishes") :: (217, "_law_cell_at") :: (243, "_law_due") :: (236, "_law_rank_by") :: (229, "_law_road_by") :: (224, "_law_whole") :: (65, "require_within") :: (189, "Guild.require_houses") :: (257, "_law_wishes_told") :: (121, "Guild.like") :: (128, "Guild.liking") :: (203, "Guild.require_long_road") :: (161, "Guild.rank_of") :: (149, "Guild.wish") :: (250, "_law_told") :: (264, "law") :: []
noncomputable def esL:List Addr:=[]
noncomputable def ksL:List (Addr×Value):=[]
noncomputable def xpL (p:Program):HD.Ob:=(some (some (.ref 206)) :: some (some (.ref 217)) :: some (some (.ref 243)) :: some (some (.ref 236)) :: some (some (.ref 229)) :: some (some (.ref 224)) :: some (some (.ref 65)) :: some (some (.ref 257)) :: some (some (.ref 250)) :: some (some (.ref 264)) :: some (some (.int 0 248)) :: some (some (.int 60 250)) :: some none :: some none :: some none :: some none :: some none :: some none :: some none :: some none :: some none :: some none :: some none :: [],some (some (.ref 79)) :: some (some (.ref 154)) :: some (some (.ref 189)) :: some (some (.ref 121)) :: some (some (.ref 128)) :: some (some (.ref 203)) :: some (some (.ref 161)) :: some (some (.ref 149)) :: some (some (.builtin "object.__setattr__")) :: some none :: some none :: some none :: some none :: some none :: [],true :: true :: true :: true :: true :: true :: true :: true :: true :: [],HD.fnE "__init__" "Guild.__init__" (HD.iC (HD.top p 9) 0) :: HD.fnE "wishes" "Guild.wishes" (HD.iC (HD.top p 9) 11) :: HD.fnE "_law_cell_at" "_law_cell_at" (HD.top p 11) :: HD.fnE "_law_due" "_law_due" (HD.top p 15) :: HD.fnE "_law_rank_by" "_law_rank_by" (HD.top p 14) :: HD.fnE "_law_road_by" "_law_road_by" (HD.top p 13) :: HD.fnE "_law_whole" "_law_whole" (HD.top p 12) :: HD.fnE "require_within" "require_within" (HD.top p 8) :: HD.fnE "require_houses" "Guild.require_houses" (HD.iC (HD.top p 9) 16) :: HD.fnE "_law_wishes_told" "_law_wishes_told" (HD.top p 17) :: HD.fnE "like" "Guild.like" (HD.iC (HD.top p 9) 6) :: HD.fnE "liking" "Guild.liking" (HD.iC (HD.top p 9) 7) :: HD.fnE "require_long_road" "Guild.require_long_road" (HD.iC (HD.top p 9) 18) :: HD.fnE "rank_of" "Guild.rank_of" (HD.iC (HD.top p 9) 12) :: HD.fnE "wish" "Guild.wish" (HD.iC (HD.top p 9) 10) :: HD.fnE "_law_told" "_law_told" (HD.top p 16) :: HD.fnE "law" "law" (HD.top p 18) :: [],[],[])
theorem left1 (w:World):(openEnds treeTable PySem.Challenge.pw_heraldways_k02_likings_and_ranks w 3690).map (openSeen (qP PySem.Challenge.pw_heraldways_k02_likings_and_ranks) [] (importedModules PySem.Challenge.pw_heraldways_k02_likings_and_ranks.main.body) (fun s=>xlAt (qP PySem.Challenge.pw_heraldways_k02_likings_and_ranks) [] s && recOk (RowW.records PySem.Challenge.rw_heraldways_k02_likings_and_ranks.row.toRowW) s) true)=some (openGood (qP PySem.Challenge.pw_heraldways_k02_likings_and_ranks) []):=by
 rw [Fast.te14364793385576792824,Fast.te4187177175401517315,Fast.te5923862056798008813,Fast.te2973479097786889362]
 kernel_rfl
theorem left2 (w:World):(openEnds treeTable PySem.Challenge.pw_heraldways_k02_likings_and_ranks w 3690).map (HD.ob 265 nsL msL fsL csL dsL esL ksL)=some (xpL PySem.Challenge.pw_heraldways_k02_likings_and_ranks):=by
 rw [Fast.te14364793385576792824,Fast.te2973479097786889362]
 kernel_rfl
end K02
namespace L2
open PySem PySem.Spec PyProof.Rows
noncomputable abbrev Key:=Sum Int Str
noncomputable def aT3:Key→Value→Bool
 | .inl k,v=>Value.isInt k v
 | .inr x,v=>Value.isStrOf x v
noncomputable def keyH (w:World):Key→Int
 | .inl k=>hashInt k
 | .inr x=>hashStr w x
theorem ac8:∀ {k:Key} {v:Value},aT3 k v=true→(∃ i t,k=Sum.inl i∧v=Value.int i t)∨(∃ x t,k=Sum.inr x∧v=Value.str x t)
 | .inl i,v,h=>by
   obtain ⟨t,e⟩:=Value.isInt_shape (k:=i) (v:=v) h
   exact .inl ⟨i,t,rfl,e⟩
 | .inr x,v,h=>by
   obtain ⟨t,e⟩:=Value.isStrOf_shape (x:=x) (v:=v) h
   exact .inr ⟨x,t,rfl,e⟩
theorem bb8 (i:Int) (t:Tok):aT3 (.inl i) (.int i t)=true:=by simp [aT3,Value.isInt]
theorem bb7 (x:Str) (t:Tok):aT3 (.inr x) (.str x t)=true:=by simp [aT3,Value.isStrOf]
theorem bP2 (a b:Int):decide ((Sum.inl a:Key)=Sum.inl b)=(a == b):=by
 by_cases e:a=b
 · subst e; simp
 · have h:¬ (Sum.inl a:Key)=Sum.inl b:=fun q=>e (Sum.inl.inj q)
   rw [decide_eq_false h]
   exact (beq_eq_false_iff_ne.mpr e).symm
theorem bO9 (a b:Str):decide ((Sum.inr a:Key)=Sum.inr b)=decide (a=b):=by
 by_cases e:a=b
 · subst e; simp
 · have h:¬ (Sum.inr a:Key)=Sum.inr b:=fun q=>e (Sum.inr.inj q)
   rw [decide_eq_false h,decide_eq_false e]
theorem bP1 (a:Int) (b:Str):decide ((Sum.inl a:Key)=Sum.inr b)=false:=decide_eq_false (fun q=>nomatch q)
theorem bP0 (a:Str) (b:Int):decide ((Sum.inr a:Key)=Sum.inl b)=false:=decide_eq_false (fun q=>nomatch q)
noncomputable def ac3 (prog:Program) (w:World):PySem.KeyKind prog w Key where
 is:=aT3
 hash:=keyH w
 inj:=fun v a b ha hb=>by
  rcases ac8 ha with ⟨i,t,rfl,rfl⟩ | ⟨x,t,rfl,rfl⟩
  · rcases ac8 hb with ⟨j,u,rfl,e⟩ | ⟨y,u,rfl,e⟩
    · injection e with e1 _; rw [e1]
    · exact nomatch e
  · rcases ac8 hb with ⟨j,u,rfl,e⟩ | ⟨y,u,rfl,e⟩
    · exact nomatch e
    · injection e with e1 _; rw [e1]
 byValue:=fun k v h=>by
  rcases ac8 h with ⟨i,t,rfl,rfl⟩ | ⟨x,t,rfl,rfl⟩ <;> rfl
 pyHash:=fun hv h=>by
  rcases ac8 hv with ⟨i,t,rfl,rfl⟩ | ⟨x,t,rfl,rfl⟩
  · exact wpAny_pyHash_int h
  · exact wpAny_pyHash_str h
 eqBool:=fun hu hv h=>by
  rcases ac8 hu with ⟨i,t,rfl,rfl⟩ | ⟨x,t,rfl,rfl⟩
  · rcases ac8 hv with ⟨j,u,rfl,rfl⟩ | ⟨y,u,rfl,rfl⟩
    · rw [bP2] at h; exact wpAny_eqBool_int h
    · rw [bP1] at h; exact SeqAt.EqAt.int_str i t y u _ _ _ _ h
  · rcases ac8 hv with ⟨j,u,rfl,rfl⟩ | ⟨y,u,rfl,rfl⟩
    · rw [bP0] at h; exact SeqAt.EqAt.str_int x t j u _ _ _ _ h
    · rw [bO9] at h; exact wpAny_eqBool_str h
 «strs»:=fun k x t v h=>by
  rcases ac8 h with ⟨i,u,rfl,e⟩ | ⟨y,u,rfl,e⟩
  · exact nomatch e
  · injection e with e1 _
    subst e1
    cases v <;> rfl
theorem aK5 (prog:Program) (w:World) (i:Int) (t:Tok):(ac3 prog w).is (.inl i) (.int i t)=true:=bb8 i t
theorem aK4 (prog:Program) (w:World) (x:Str) (t:Tok):(ac3 prog w).is (.inr x) (.str x t)=true:=bb7 x t
inductive V where
 | non | bl (b:Bool) | int (i:Int) | str (x:Str) | byt (b:Array UInt8) | flt (b:UInt64) | ref (a:Addr) | ty (n:String)
 deriving DecidableEq
noncomputable def RelV:V→Value→Prop
 | .non,u=>u=Value.none
 | .bl b,u=>u=Value.bool b
 | .int i,u=>∃ t,u=Value.int i t
 | .str x,u=>∃ t,u=Value.str x t
 | .byt b,u=>∃ t,u=Value.bytes b t
 | .flt b,u=>∃ t,u=Value.float b t
 | .ref a,u=>u=Value.ref a
 | .ty n,u=>u=Value.type n
noncomputable abbrev Vals:List V→List Value→Prop:=Paired RelV
theorem Vals.length {xs:List V} {us:List Value} (r:Vals xs us):xs.length=us.length:=Paired.length r
theorem Vals.get:∀ {xs:List V} {us:List Value} {i:Nat} {x:V},Vals xs us→xs[i]?=some x→∃ u,us[i]?=some u∧RelV x u
 | _,_,_,_,.nil,e=>by simp at e
 | _,_,0,_,.cons r _,e=>by simp at e; subst e; exact ⟨_,rfl,r⟩
 | _,_,i + 1,x,.cons _ t,e=>by
   obtain ⟨u,h1,h2⟩:=Vals.get (i:=i) (x:=x) t (by simpa using e)
   exact ⟨u,by simpa using h1,h2⟩
theorem Vals.set {x:V} {u:Value} (r:RelV x u):∀ {xs:List V} {us:List Value} (i:Nat),Vals xs us→Vals (xs.set i x) (us.set i u)
 | _,_,_,.nil=> .nil
 | _,_,0,.cons _ t=> .cons r t
 | _,_,i + 1,.cons q t=> .cons q (Vals.set r i t)
theorem Vals.append:∀ {xs ys:List V} {us ws:List Value},Vals xs us→Vals ys ws→Vals (xs ++ ys) (us ++ ws)
 | _,_,_,_,.nil,s=>s
 | _,_,_,_,.cons r t,s=> .cons r (Vals.append t s)
theorem Vals.take:∀ {xs:List V} {us:List Value} (n:Nat),Vals xs us→Vals (xs.take n) (us.take n)
 | _,_,0,_=> .nil
 | _,_,_ + 1,.nil=> .nil
 | _,_,n + 1,.cons r t=> .cons r (Vals.take n t)
noncomputable def RelO:Option V→Option Value→Prop
 | some v,some u=>RelV v u
 | none,none=>True
 | _,_=>False
noncomputable def KV {κ:Type}:List (κ×V)→List (κ×Value)→Prop:=Paired fun (p:κ×V) (q:κ×Value)=>p.1=q.1∧RelV p.2 q.2
noncomputable def kV:Key→V
 | .inl i=> .int i
 | .inr x=> .str x
inductive HO where
 /-- a list -/
 | lst (xs:List V)
 /-- a tuple (never changes) -/
 | tup (xs:List V)
 /-- a dict whose keys are ints and texts; one whose keys are tuples of ints and texts (the empty one is both) -/
 | dK (kvs:List (Key×V)) | dT (kvs:List (List Key×V))
 /-- a set of ints: its members,its size -/
 | set (S:Int→Bool) (n:Nat)
 /-- an instance of the class at C,its dict at dx,its attributes -/
 | ins (C dx:Addr) (fs:List (Str×V))
 /-- the dict of the instance at x -/
 | own (x:Addr)
 /-- the dict of an exception -/
 | xd (fs:List (Str×V))
 /-- a bound method,f of x -/
 | met (f x:Addr)
 /-- a range object lo,lo + 1,.. below hi -/
 | rng (lo hi:Int)
 /-- a thing that is known to the object (the script; a dict while a loop walks it): read,never written while it is so -/
 | frz (o:Obj) (u:HO)
 /-- a code object's table: at each of these places nothing,or a code of that name -/
 | tbl (l:List (Pos×Str))
 /-- any other thing,by what is true of its one object (a def of one's own: SetO a S n:=HO.ext fun h=> ..) -/
 | ext (φ:Heap→Prop)
noncomputable abbrev Hp:=Addr→Option HO
noncomputable def upd (H:Hp) (a:Addr) (o:HO):Hp:=fun b=>if b=a then some o else H b
theorem ab5 {H:Hp} {a:Addr} {o:HO}:upd H a o a=some o:=by unfold upd; rw [if_pos rfl]
theorem ab2 {H:Hp} {a b:Addr} {o:HO} (h:b≠a):upd H a o b=H b:=by unfold upd; rw [if_neg h]
theorem bB2 {H:Hp} {a b:Addr} {o u:HO} (h:H a=some o) (h':H b=some u) (d:o≠u):a≠b:=by
 intro e; subst e; rw [h] at h'; exact d (Option.some.inj h')
theorem ab4 {H:Hp} {a b:Addr} {o:HO} (h:H a=some o) (h':H b=none):a≠b:=by
 intro e; subst e; rw [h] at h'; cases h'
section
variable (P:Program) (w:World)
noncomputable def ObjOk (H:Hp) (h:Heap) (a:Addr):HO→Prop
 | .lst xs=>xs.length≤sizeLine∧∃ (its:List Value) (n:Nat),Vals xs its∧h.get? a=some { cls:= .type "list",data:= .seq its.toArray n }
 | .tup xs=>xs.length≤sizeLine∧∃ its:List Value,Vals xs its∧IsTup h a its.toArray
 | .dK kvs=>kvs.length≤sizeLine∧(a == sysModules)=false∧∃ vs,KV kvs vs∧h.DictOf (ac3 P w) a vs
 | .dT kvs=>kvs.length≤sizeLine∧(a == sysModules)=false∧∃ xs:List (List Key×Addr×Value),
    Paired (fun (p:List Key×V) (q:List Key×Addr×Value)=>p.1=q.1∧H q.2.1=some (.tup (p.1.map kV))∧RelV p.2 q.2.2) kvs xs ∧
    ∃ o es ep,h.get? a=some o∧o.ExactDict∧o.data= .dict es ep∧es.toList=xs.map (entryOfKey (tupleKind (ac3 P w)))∧(xs.map (·.1)).Nodup
 | .set S n=>h.SetOf (intKind P w) a S n
 | .ins C dx fs=>H dx=some (.own a)∧fs.length≤1000∧dx≠a∧h.get? a=some (PySem.W.instObj C dx) ∧
    ∃ mA,h.Ns1 dx mA∧(∀ f,RelO (fs.lookup f) (mA f))∧PySem.Within mA (fs.map (·.1))
 | .own _=>∃ o,h.get? a=some o
 | .xd fs=>∃ mA,h.Ns1 a mA∧∀ f,RelO (fs.lookup f) (mA f)
 | .rng lo hi=>∃ t u v,h.get? a=some { cls:= .type "range",data:= .fields #[.int lo t,.int hi u,.int 1 v] }
 | .frz o u=>h.get? a=some o∧ObjOk H h a u
 | .tbl l=>(∀ y∈l,∀ z∈l,y.1.line=z.1.line→y.1.col=z.1.col→y.2=z.2)∧∃ ps:Array Value,h.get? a=some { cls:= .none,data:= .fields ps }∧TriplesOk ps.toList∧∀ x∈l,codeAmong x.1 ps.toList=none∨∃ c,codeAmong x.1 ps.toList=some (.ref c)∧H c=some (.own a)∧h.CodeRec (.ref c) x.2
 | .met f x=>h.get? a=some (PySem.W.methodObj (.ref f) (.ref x))
 | .ext φ=>φ h∧(∃ o,h.get? a=some o)∧∀ h1 h2:Heap,φ h1→(∀ o,h1.get? a=some o→h2.get? a=some o)→φ h2
noncomputable def HOk (H:Hp) (h:Heap):Prop:=∀ a o,H a=some o→ObjOk P w H h a o
end
section
variable {P:Program} {w:World} {H H':Hp} {h h':Heap} {a:Addr} {o:HO}
theorem ObjOk.lt (x:ObjOk P w H h a o):a < h.objs.size:=by
 cases o with
 | lst xs=>obtain ⟨_,_,_,_,e⟩:=x; exact Heap.lt_size e
 | tup xs=>obtain ⟨_,_,_,p⟩:=x; exact p.lt
 | dK kvs=>obtain ⟨_,_,_,_,o,_,_,e,_⟩:=x; exact Heap.lt_size e
 | dT kvs=>obtain ⟨_,_,_,_,o,_,_,e,_⟩:=x; exact Heap.lt_size e
 | set S n=>obtain ⟨o,_,_,_,e,_⟩:=x; exact Heap.lt_size e
 | ins C dx fs=>obtain ⟨_,_,_,e,_⟩:=x; exact Heap.lt_size e
 | own y=>obtain ⟨_,e⟩:=x; exact Heap.lt_size e
 | xd fs=>obtain ⟨_,⟨_,_,_,e,_⟩,_⟩:=x; exact Heap.lt_size e
 | rng lo hi=>obtain ⟨_,_,_,e⟩:=x; exact Heap.lt_size e
 | frz ob u=>obtain ⟨e,_⟩:=x; exact Heap.lt_size e
 | tbl l=>obtain ⟨_,_,e,_⟩:=x; exact Heap.lt_size e
 | met f y=>exact Heap.lt_size (show h.get? a=some _ from x)
 | ext φ=>obtain ⟨_,⟨_,e⟩,_⟩:=x; exact Heap.lt_size e
theorem Paired.mapP {α β:Type} {F G:α→β→Prop}:∀ {l₁:List α} {l₂:List β},Paired F l₁ l₂→(∀ a b,F a b→G a b)→Paired G l₁ l₂
 | _,_,.nil,_=> .nil
 | _,_,.cons r t,f=> .cons (f _ _ r) (Paired.mapP t f)
theorem ObjOk.stay (x:ObjOk P w H h a o) (k:∀ b u,(b=a∨H b=some (.own a))→h.get? b=some u→h'.get? b=some u)
 (ho:∀ b,H b=some (.own a)→H' b=some (.own a)) (ht:∀ b xs,H b=some (.tup xs)→H' b=some (.tup xs)):ObjOk P w H' h' a o:=by
 induction o with
 | lst xs=>obtain ⟨z,its,n,r,e⟩:=x; exact ⟨z,its,n,r,k _ _ (.inl rfl) e⟩
 | tup xs=>obtain ⟨z,its,r,ob,e,c⟩:=x; exact ⟨z,its,r,ob,k _ _ (.inl rfl) e,c⟩
 | dK kvs=>obtain ⟨z,y,vs,r,ob,es,ep,e,c⟩:=x; exact ⟨z,y,vs,r,ob,es,ep,k _ _ (.inl rfl) e,c⟩
 | dT kvs =>
   obtain ⟨z,y,xs,r,ob,es,ep,e,c⟩:=x
   exact ⟨z,y,xs,Paired.mapP r fun p q z=>⟨z.1,ht _ _ z.2.1,z.2.2⟩,ob,es,ep,k _ _ (.inl rfl) e,c⟩
 | set S n=>obtain ⟨ob,es,ep,t,e,c⟩:=x; exact ⟨ob,es,ep,t,k _ _ (.inl rfl) e,c⟩
 | ins C dx fs =>
   obtain ⟨d,z,ne,e,mA,⟨od,es,ep,e2,c⟩,r⟩:=x
   exact ⟨ho _ d,z,ne,k _ _ (.inl rfl) e,mA,⟨od,es,ep,k _ _ (.inr d) e2,c⟩,r⟩
 | own y=>obtain ⟨ob,e⟩:=x; exact ⟨ob,k _ _ (.inl rfl) e⟩
 | xd fs=>obtain ⟨mA,⟨od,es,ep,e,c⟩,r⟩:=x; exact ⟨mA,⟨od,es,ep,k _ _ (.inl rfl) e,c⟩,r⟩
 | rng lo hi=>obtain ⟨t,u,v,e⟩:=x; exact ⟨t,u,v,k _ _ (.inl rfl) e⟩
 | frz ob u ih=>obtain ⟨e,q⟩:=x; exact ⟨k _ _ (.inl rfl) e,ih q⟩
 | tbl l =>
   obtain ⟨cl,ps,e,t,q⟩:=x
   refine ⟨cl,ps,k _ _ (.inl rfl) e,t,fun y hy=>?_⟩
   rcases q y hy with z | ⟨c,z,hc,⟨c',o,vs,tt,ec,g,r⟩⟩
   · exact .inl z
   · cases ec
     exact .inr ⟨c,z,ho _ hc,⟨c,o,vs,tt,rfl,k _ _ (.inr hc) g,r⟩⟩
 | met f y =>
   have e:h.get? a=some (PySem.W.methodObj (.ref f) (.ref y)):=x
   show h'.get? a=some (PySem.W.methodObj (.ref f) (.ref y))
   exact k a _ (.inl rfl) e
 | ext φ=>obtain ⟨p,⟨o,e⟩,st⟩:=x; exact ⟨st _ _ p fun o q=>k _ _ (.inl rfl) q,⟨o,k _ _ (.inl rfl) e⟩,st⟩
theorem HOk.lt (x:HOk P w H h) (e:H a=some o):a < h.objs.size:=(x a o e).lt
theorem HOk.fresh (x:HOk P w H h) (e:h.objs.size≤a):H a=none:=by
 cases q:H a with
 | none=>rfl
 | some u=>exact absurd (Nat.lt_of_lt_of_le (x.lt q) e) (Nat.lt_irrefl _)
theorem HOk.kept (x:HOk P w H h) (k:∀ b u,h.get? b=some u→h'.get? b=some u):HOk P w H h':=fun a o e =>
 (x a o e).stay (fun b u _ q=>k b u q) (fun _ q=>q) fun _ _ q=>q
theorem HOk.laid (x:HOk P w H h) (k:∀ b u,h.get? b=some u→h'.get? b=some u) (hp:h.objs.size≤a) (new:ObjOk P w (upd H a o) h' a o):HOk P w (upd H a o) h':=fun b u e=>by
 have hn:=x.fresh hp
 by_cases hb:b=a
 · subst hb; rw [ab5] at e; cases e; exact new
 · rw [ab2 hb] at e
   exact (x b u e).stay (fun c v _ q=>k c v q) (fun c q=>by rw [ab2 (ab4 q hn)]; exact q) fun c xs q=>by rw [ab2 (ab4 q hn)]; exact q
end
noncomputable def Rd (H:Hp) (a:Addr) (u:HO):Prop:=H a=some u∨∃ o,H a=some (.frz o u)
theorem Rd.ok {P:Program} {w:World} {H:Hp} {h:Heap} {a:Addr} {u:HO} (r:Rd H a u) (x:HOk P w H h):ObjOk P w H h a u:=by
 rcases r with r | ⟨o,r⟩
 · exact x a u r
 · obtain ⟨_,q⟩:=x a _ r
   exact q
noncomputable def Mut:Option HO→Prop
 | some (.lst _)=>True
 | some (.dK _)=>True
 | some (.dT _)=>True
 | some (.set _ _)=>True
 | some (.ins _ _ _)=>True
 | some (.ext _)=>True
 | _=>False
section
variable {P:Program} {w:World} {H:Hp} {h h':Heap} {x e:Addr} {o':HO}
theorem HOk.write (ok:HOk P w H h) (mu:Mut (H x)) (he:e=x∨H e=some (.own x)) (k:∀ b u,b≠e→h.get? b=some u→h'.get? b=some u) (heo:∃ u,h'.get? e=some u)
 (new:ObjOk P w (upd H x o') h' x o'):HOk P w (upd H x o') h':=fun b u q=>by
 have nown:∀ c y,H c=some (.own y)→c≠x:=fun c y r z=>by subst z; rw [r] at mu; exact mu
 have ntup:∀ c xs,H c=some (.tup xs)→c≠x:=fun c xs r z=>by subst z; rw [r] at mu; exact mu
 by_cases hb:b=x
 · subst hb; rw [ab5] at q; cases q; exact new
 · rw [ab2 hb] at q
   by_cases hbe:b=e
   · have q':H b=some (.own x):=by
      rcases he with z | z
      · exact absurd (hbe.trans z) hb
      · rw [hbe]; exact z
     rw [q] at q'; cases q'
     obtain ⟨v,hv⟩:=heo
     exact ⟨v,by rw [hbe]; exact hv⟩
   · refine (ok b u q).stay (fun c v hc r=>k c v ?_ r) (fun c r=>by rw [ab2 (nown c b r)]; exact r) fun c xs r=>by rw [ab2 (ntup c xs r)]; exact r
     rcases hc with rfl | hc
     · exact hbe
     · rintro rfl
       rcases he with z | z
       · exact nown c b hc z
       · rw [hc] at z; cases z; exact hb rfl
end
structure Un (fs ex:List Addr) (H H':Hp) (h h':Heap):Prop where
 keep:∀ b o,h.get? b=some o→H b=none→b∉fs→b∉ex→h'.get? b=some o
 slot:∀ b o,h.get? b=some o→H b=none→b∈fs→b∉ex→∃ sl,h'.get? b=some { o with slots:=sl }
 free:∀ b o,h.get? b=some o→H b=none→b∉ex→H' b=none
 there:∀ b o,h.get? b=some o→b∉ex→∃ o',h'.get? b=some o'
 tups:∀ b xs,H b=some (.tup xs)→H' b=some (.tup xs)
 frzs:∀ b o u,H b=some (.frz o u)→H' b=some (.frz o u)
 tbls:∀ b l,H b=some (.tbl l)→H' b=some (.tbl l)∧∀ c o,H c=some (.own b)→h.get? c=some o→H' c=some (.own b)∧h'.get? c=some o
section
variable {fs fs' ex ex':List Addr} {H H1 H2:Hp} {h h1 h2 h':Heap} {a x e:Addr} {o:HO}
theorem Un.any (u:Un fs ex H H1 h h1) {b:Addr} {ob:Obj} (q:h.get? b=some ob) (n:H b=none) (hx:b∉ex):∃ sl,h1.get? b=some { ob with slots:=sl }:=by
 by_cases hb:b∈fs
 · exact u.slot b ob q n hb hx
 · exact ⟨ob.slots,u.keep b ob q n hb hx⟩
theorem Un.kept (k:∀ b u,h.get? b=some u→h'.get? b=some u):Un fs ex H H h h' :=
 ⟨fun b ob q _ _ _=>k b ob q,fun b ob q _ _ _=>⟨ob.slots,k b ob q⟩,fun _ _ _ n _=>n,fun b ob q _=>⟨ob,k b ob q⟩,fun _ _ q=>q,fun _ _ _ q=>q,fun _ _ q=>⟨q,fun c o e1 e2=>⟨e1,k c o e2⟩⟩⟩
theorem Un.refl:Un fs ex H H h h:=Un.kept fun _ _ q=>q
theorem Un.laid (k:∀ b u,h.get? b=some u→h'.get? b=some u) (hp:h.objs.size≤a) (hn:H a=none):Un fs ex H (upd H a o) h h' where
 keep:=fun b u q _ _ _=>k b u q
 slot:=fun b u q _ _ _=>⟨u.slots,k b u q⟩
 free:=fun b u q n _=>by rw [ab2 (Nat.ne_of_lt (Nat.lt_of_lt_of_le (Heap.lt_size q) hp))]; exact n
 there:=fun b u q _=>⟨u,k b u q⟩
 tups:=fun b xs q=>by rw [ab2 (ab4 q hn)]; exact q
 frzs:=fun b u xs q=>by rw [ab2 (ab4 q hn)]; exact q
 tbls:=fun b xs q=>⟨by rw [ab2 (ab4 q hn)]; exact q,fun c o e1 e2=>⟨by rw [ab2 (ab4 e1 hn)]; exact e1,k c o e2⟩⟩
theorem Un.write (mu:Mut (H x)) (he:e=x∨H e=some (.own x)) (k:∀ b u,b≠e→h.get? b=some u→h'.get? b=some u) (heo:∃ u,h'.get? e=some u):Un fs ex H (upd H x o) h h':=by
 have hx:∀ b,H b=none→b≠x:=fun b n z=>by subst z; rw [n] at mu; exact mu
 have hb:∀ b,H b=none→b≠e:=fun b n z=>by
  subst z
  rcases he with r | r
  · exact hx b n r
  · rw [n] at r; cases r
 have hm:∀ b u,H b=some u→¬ Mut (some u)→b≠x:=fun b u q nm z=>by subst z; rw [q] at mu; exact nm mu
 refine ⟨fun b u q n _ _=>k b u (hb b n) q,fun b u q n _ _=>⟨u.slots,k b u (hb b n) q⟩,fun b u q n _=>by rw [ab2 (hx b n)]; exact n,fun b u q _=>?_,
  fun b xs q=>by rw [ab2 (hm b _ q fun z=>z)]; exact q,fun b u xs q=>by rw [ab2 (hm b _ q fun z=>z)]; exact q,fun b ps q=>⟨by rw [ab2 (hm b _ q fun z=>z)]; exact q,fun c o e1 e2=>⟨by rw [ab2 (hm c _ e1 fun z=>z)]; exact e1,k c o (fun z=>by
   rcases he with r | r
   · exact hm c _ e1 (fun z=>z) (z.trans r)
   · rw [← z,e1] at r; cases r; rw [q] at mu; exact mu) e2⟩⟩⟩
 by_cases hbe:b=e
 · subst hbe; exact heo
 · exact ⟨u,k b u hbe q⟩
end
noncomputable def trk (h:Heap) (H:Hp):List Addr:=(List.range h.objs.size).filter fun a=>(H a).isSome
noncomputable def hidT (h:Heap) (H:Hp):Heap:=PySem.W.hideAll h (trk h H)
theorem bc5 (h:Heap) (H:Hp):(hidT h H).objs.size=h.objs.size:=PySem.W.hideAll_size _ _
theorem bl9 {h:Heap} {H:Hp} {b:Addr} {o:Obj} (e:h.get? b=some o) (n:H b=none):(hidT h H).get? b=some o :=
 PySem.W.hideAll_get _ e fun hm=>by
  have q:(H b).isSome=true:=(List.mem_filter.mp hm).2
  rw [n] at q; simp at q
theorem bA7 {h:Heap} {H:Hp} {b:Addr} {o:Obj} (e:(hidT h H).get? b=some o):h.get? b=some o∧H b=none:=by
 have e':h.get? b=some o:=PySem.W.of_hideAll (trk h H) e
 refine ⟨e',?_⟩
 cases q:H b with
 | none=>rfl
 | some x =>
   have hm:b∈trk h H:=List.mem_filter.mpr ⟨List.mem_range.mpr (Heap.lt_size e'),by simp [q]⟩
   have z:(hidT h H).get? b=none:=PySem.W.hideAll_none (trk h H) hm
   rw [z] at e; cases e
noncomputable def bG9 (g h:Heap) (L:Addr):List (Addr×Obj):=(List.range h.objs.size).filterMap fun a=>if a=L∨(g.get? a).isSome=true then none else (h.get? a).map fun o=>(a,o)
noncomputable def rest (g h:Heap) (L d:Addr):List (Addr×Obj):=(bG9 g h L).filter fun p=>decide (p.1≠d)
structure Mod (K:PySem.W.Frag) (mg:Str→Option Value) (base:Heap):Prop where
 kin:K.In base
 glob:base.Ns mainGlobals mg
 blt:∃ mb,base.Ns builtinsNs mb∧∀ x:Str,x ≠ "__name__" → mb x=bootBuiltins x
 nolimit:base.NoLimit
 bmod:∃ bm o,mg "__builtins__" = some (.ref bm)∧bm≠builtinsNs∧base.get? bm=some o∧o.cls= .type "module" ∧ o.dict=some builtinsNs∧o.data= .plain
structure Cx where
 prog:Program
 w:World
 K:PySem.W.Frag
 mg:Str→Option Value
 base:Heap
 A:Around
 N:List Str
 s₀:Shared
 H₀:Hp
 env:Env
 outer:List Env
 stack:List Env
 ex:List Addr
 fn:Str→Bool
 calm:Bool
 pn:List (Addr×Obj)
 xe:Value→Shared→Prop
noncomputable def frs (l:List Env):List Addr:=l.filterMap (·.frame)
noncomputable abbrev Cx.fs (X:Cx):List Addr:=frs X.outer
noncomputable def Vis (sc:Scope) (x:Str):Prop:=sc.names.lookup x=some .local∨sc.names.lookup x=some .cell∨sc.names.lookup x=some .free
noncomputable def Loc (sc:Scope) (x:Str):Prop:=sc.names.lookup x=some .local∨sc.names.lookup x=some .cell
noncomputable def Look (env:Env) (h:Heap) (m:Str→Option Value) (x:Str) (u:Value):Prop :=
 (env.kindOf x=some .local∧m x=some u)∨((env.kindOf x=some .cell∨env.kindOf x=some .free)∧∃ c,env.cells.lookup x=some c∧h.IsCell c (some u))
structure Cx.Ok (X:Cx):Prop where
 mod:Mod X.K X.mg X.base
 kind:X.env.scope.kind= .function
 glob:X.env.globals=mainGlobals
 blt:X.env.builtins=builtinsNs
 above:X.s₀.heap.objs.size≤X.env.locals
 inj:∀ x y c,X.env.cells.lookup x=some c→X.env.cells.lookup y=some c→x=y
 has:∀ x,(X.env.kindOf x=some .cell∨X.env.kindOf x=some .free)→∃ c,X.env.cells.lookup x=some c
 cab:∀ x c,X.fn x=true→X.env.cells.lookup x=some c→X.s₀.heap.objs.size≤c
 hd:X.calm=true→X.A.handled=none
 frames:X.A.frames=some X.stack
 stk:X.stack=X.outer∨(X.stack=X.env :: X.outer∧X.env.frame=some X.env.locals)
 exf:∀ b∈X.ex,b≠X.env.locals∧∀ x c,X.env.cells.lookup x=some c→c≠b
 bs:∀ b o,X.base.get? b=some o→X.s₀.heap.get? b=some o∧X.H₀ b=none
 bsz:X.base.objs.size≤X.s₀.heap.objs.size
 noex:∀ b o,X.base.get? b=some o→b∉X.ex
 exfs:∀ b∈X.ex,b∉X.fs
 funs:X.s₀.heap.FunFrames X.base X.outer
 frf:∀ b∈X.fs,X.H₀ b=none
structure Inv (X:Cx) (pins:List (Addr×Obj)) (σ:List (Option V)) (H:Hp) (s:Shared):Prop where
 ok:X.Ok
 os:s.os=X.s₀.os
 bare:AllBare s.gens
 base:Un X.fs X.ex X.H₀ H X.s₀.heap s.heap
 loc:∃ m,s.heap.Ns X.env.locals m∧∀ (i:Nat) (x:Str) (v:V),X.N[i]?=some x→σ[i]?=some (some v)→Vis X.env.scope x→∃ u,RelV v u∧Look X.env s.heap m x u
 cell:∀ x c,X.env.cells.lookup x=some c→∃ v,s.heap.IsCell c v
 free:H X.env.locals=none
 freeC:∀ x c,X.env.cells.lookup x=some c→H c=none
 pin:∀ p∈X.pn ++ pins,s.heap.get? p.1=some p.2∧H p.1=none∧p.1≠X.env.locals∧p.1∉X.fs∧∀ v,p.2.data≠ .cell v
 hok:HOk X.prog X.w H s.heap
 len:σ.length=X.N.length
section
variable {X:Cx} {pins:List (Addr×Obj)} {σ:List (Option V)} {H H':Hp} {s:Shared} {h':Heap}
theorem Cx.Ok.nofr (ok:X.Ok) {b:Addr} {o:Obj} (e:X.base.get? b=some o):b∉X.fs:=fun hb=>by
 have:=(ok.funs.mem hb).1
 rw [e] at this; cases this
theorem Inv.bs (I:Inv X pins σ H s):∀ b o,X.base.get? b=some o→s.heap.get? b=some o∧H b=none:=fun b o e =>
 ⟨I.base.keep b o (I.ok.bs b o e).1 (I.ok.bs b o e).2 (I.ok.nofr e) (I.ok.noex b o e),I.base.free b o (I.ok.bs b o e).1 (I.ok.bs b o e).2 (I.ok.noex b o e)⟩
theorem Inv.bk (I:Inv X pins σ H s):∀ b o,X.base.get? b=some o→s.heap.get? b=some o:=fun b o e=>(I.bs b o e).1
theorem Inv.mod (I:Inv X pins σ H s):Mod X.K X.mg X.base:=I.ok.mod
theorem Inv.kIn (I:Inv X pins σ H s):X.K.In s.heap:=I.ok.mod.kin.keeps I.bk
theorem Inv.nolimit (I:Inv X pins σ H s):s.heap.NoLimit:=I.ok.mod.nolimit.keeps I.bk
theorem Inv.fr (I:Inv X pins σ H s):∃ m,Fr X.base X.env.locals s.heap m :=
 let ⟨m,hn,_⟩:=I.loc
 ⟨m,hn,I.bk,Nat.le_trans I.ok.bsz I.ok.above⟩
theorem Inv.lt (I:Inv X pins σ H s):X.env.locals < s.heap.objs.size:=let ⟨_,hn,_⟩:=I.loc; hn.lt
theorem Inv.sz (I:Inv X pins σ H s):X.s₀.heap.objs.size≤s.heap.objs.size:=Nat.le_trans I.ok.above (Nat.le_of_lt I.lt)
theorem Inv.nofs (I:Inv X pins σ H s) {a:Addr} (h:s.heap.objs.size≤a):a∉X.fs:=fun hb=>by
 obtain ⟨_,o,ho,_⟩:=I.ok.funs.mem hb
 exact absurd (Nat.lt_of_lt_of_le (Heap.lt_size ho) (Nat.le_trans I.sz h)) (Nat.lt_irrefl _)
theorem Inv.cne (I:Inv X pins σ H s):∀ x c,X.env.cells.lookup x=some c→c≠X.env.locals:=fun x c e z=>by
 obtain ⟨v,o,ho,hd⟩:=I.cell x c e
 obtain ⟨m,⟨o',es,ep,ho',hd',_⟩,_⟩:=I.loc
 rw [z,ho'] at ho; cases ho; rw [hd'] at hd; cases hd
theorem Inv.funs (I:Inv X pins σ H s):s.heap.FunFrames X.base X.outer:=by
 have all:∀ (l:List Env),(∀ b∈frs l,b∈X.fs)→X.s₀.heap.FunFrames X.base l→s.heap.FunFrames X.base l:=by
  intro l
  induction l with
  | nil=>intro _ _; trivial
  | cons env r ih =>
    intro hs hl
    obtain ⟨hk,⟨L,o,hf,hn,ho,hd⟩,hr⟩:=hl
    have hL:L∈X.fs:=hs L (by unfold frs; rw [List.filterMap_cons,hf]; exact List.mem_cons_self)
    obtain ⟨sl,e⟩:=I.base.slot L o ho (I.ok.frf L hL) hL fun z=>I.ok.exfs L z hL
    exact ⟨hk,⟨L,_,hf,hn,e,hd⟩,ih (fun b hb=>hs b (by unfold frs; rw [List.filterMap_cons,hf]; exact List.mem_cons_of_mem _ hb)) hr⟩
 exact all X.outer (fun _ hb=>hb) I.ok.funs
theorem Inv.stack (I:Inv X pins σ H s):s.heap.FunFrames X.base X.stack:=by
 rcases I.ok.stk with e | ⟨e,hf⟩
 · rw [e]; exact I.funs
 · rw [e]
   obtain ⟨m,hn,_⟩:=I.loc
   refine .cons (by rw [I.ok.kind]; decide) hf hn ?_ I.funs
   exact Heap.get?_none_of_le (Nat.le_trans I.ok.bsz I.ok.above)
theorem Inv.stkSub (I:Inv X pins σ H s):∀ b∈frs X.stack,b∈X.env.locals :: X.fs:=fun b hb=>by
 rcases I.ok.stk with e | ⟨e,hf⟩
 · rw [e] at hb; exact List.mem_cons_of_mem _ hb
 · rw [e] at hb
   unfold frs at hb
   rw [List.filterMap_cons,hf] at hb
   exact hb
theorem Inv.stkFree (I:Inv X pins σ H s):∀ b∈frs X.stack,H b=none:=fun b hb=>by
 rcases List.mem_cons.mp (I.stkSub b hb) with e | hb
 · rw [e]; exact I.free
 · obtain ⟨_,o,ho,_⟩:=I.ok.funs.mem hb
   exact I.base.free b o ho (I.ok.frf b hb) fun z=>I.ok.exfs b z hb
theorem Inv.step {g':Array GenState} {t':Nat} {d':Drawn} {ch:List Addr} (I:Inv X pins σ H s)
 (hch:∀ b∈ch,(b∈X.ex∨X.s₀.heap.objs.size≤b)∧b≠X.env.locals∧(∀ x c,X.env.cells.lookup x=some c→c≠b)∧∀ p∈X.pn ++ pins,p.1≠b)
 (keep:∀ b o,b≠X.env.locals→b∉X.fs→b∉ch→s.heap.get? b=some o→H b=none→h'.get? b=some o)
 (slot:∀ b o,b≠X.env.locals→b∈X.fs→b∉ch→s.heap.get? b=some o→H b=none→∃ sl,h'.get? b=some { o with slots:=sl }) (free:∀ b o,b∉ch→s.heap.get? b=some o→H b=none→H' b=none)
 (there:∀ b o,b∉ch→s.heap.get? b=some o→∃ o',h'.get? b=some o')
 (tups:∀ b xs,H b=some (.tup xs)→H' b=some (.tup xs)) (frzs:∀ b o u,H b=some (.frz o u)→H' b=some (.frz o u)) (tbls:∀ b l,H b=some (.tbl l)→H' b=some (.tbl l)∧∀ c o,H c=some (.own b)→s.heap.get? c=some o→H' c=some (.own b)∧h'.get? c=some o)
 (ns:∀ m,s.heap.Ns X.env.locals m→h'.Ns X.env.locals m) (hok:HOk X.prog X.w H' h') (hg:AllBare g') :
 Inv X pins σ H' { s with heap:=h',gens:=g',drawn:=d',toks:=t' }:=by
 have neL:∀ b o,X.s₀.heap.get? b=some o→b≠X.env.locals:=fun b o e=>Nat.ne_of_lt (Nat.lt_of_lt_of_le (Heap.lt_size e) I.ok.above)
 have neC:∀ b o,X.s₀.heap.get? b=some o→b∉X.ex→b∉ch:=fun b o e hx hb=>by
  rcases (hch b hb).1 with z | z
  · exact hx z
  · exact absurd (Nat.lt_of_lt_of_le (Heap.lt_size e) z) (Nat.lt_irrefl _)
 have cellK:∀ x c,X.env.cells.lookup x=some c→∀ v,s.heap.IsCell c v→h'.IsCell c v:=fun x c e v ⟨o,ho,hd⟩=>by
  have nch:c∉ch:=fun z=>(hch c z).2.2.1 x c e rfl
  by_cases hc:c∈X.fs
  · obtain ⟨sl,q⟩:=slot c o (I.cne x c e) hc nch ho (I.freeC x c e)
    exact ⟨_,q,hd⟩
  · exact ⟨o,keep c o (I.cne x c e) hc nch ho (I.freeC x c e),hd⟩
 refine ⟨I.ok,I.os,hg,⟨fun b o e n hb hx=>?_,fun b o e n hb hx=>?_,fun b o e n hx=>?_,fun b o e hx=>?_,fun b xs e=>tups b xs (I.base.tups b xs e),fun b o xs e=>frzs b o xs (I.base.frzs b o xs e),fun b ps e=>⟨(tbls b ps (I.base.tbls b ps e).1).1,fun c o e1 e2=>let ⟨f1,f2⟩:=(I.base.tbls b ps e).2 c o e1 e2; (tbls b ps (I.base.tbls b ps e).1).2 c o f1 f2⟩⟩,?_,fun x c e=>?_,?_,fun x c e=>?_,fun p hp=>?_,hok,I.len⟩
 · exact keep b o (neL b o e) hb (neC b o e hx) (I.base.keep b o e n hb hx) (I.base.free b o e n hx)
 · obtain ⟨sl,e1⟩:=I.base.slot b o e n hb hx
   obtain ⟨sl',e2⟩:=slot b _ (neL b o e) hb (neC b o e hx) e1 (I.base.free b o e n hx)
   exact ⟨sl',e2⟩
 · obtain ⟨o',e1⟩:=I.base.there b o e hx
   exact free b o' (neC b o e hx) e1 (I.base.free b o e n hx)
 · obtain ⟨o',e1⟩:=I.base.there b o e hx
   exact there b o' (neC b o e hx) e1
 · obtain ⟨m,hn,hl⟩:=I.loc
   refine ⟨m,ns m hn,fun i x v e1 e2 e3=>?_⟩
   obtain ⟨u,r,l⟩:=hl i x v e1 e2 e3
   refine ⟨u,r,?_⟩
   rcases l with l | ⟨k,c,e,z⟩
   · exact .inl l
   · exact .inr ⟨k,c,e,cellK x c e _ z⟩
 · obtain ⟨v,z⟩:=I.cell x c e
   exact ⟨v,cellK x c e v z⟩
 · obtain ⟨m,⟨o,_,_,ho,_⟩,_⟩:=I.loc
   exact free _ o (fun z=>(hch _ z).2.1 rfl) ho I.free
 · obtain ⟨v,o,ho,hd⟩:=I.cell x c e
   exact free c o (fun z=>(hch c z).2.2.1 x c e rfl) ho (I.freeC x c e)
 · obtain ⟨e,n,ne,nf,d⟩:=I.pin p hp
   have nch:p.1∉ch:=fun z=>(hch p.1 z).2.2.2 p hp rfl
   exact ⟨keep p.1 p.2 ne nf nch e n,free p.1 p.2 nch e n,ne,nf,d⟩
theorem Inv.un {t':Nat} (I:Inv X pins σ H s) (u:Un X.fs [] H H' s.heap h') (hok:HOk X.prog X.w H' h'):Inv X pins σ H' { s with heap:=h',toks:=t' }:=by
 obtain ⟨m,⟨o,es,ep,ho,r⟩,_⟩:=id I.loc
 obtain ⟨sl,hL⟩:=u.any ho I.free (by simp)
 exact I.step (g':=s.gens) (d':=s.drawn) (ch:=[]) (fun _ z=>nomatch z) (fun b o _ hb _ e n=>u.keep b o e n hb (by simp)) (fun b o _ hb _ e n=>u.slot b o e n hb (by simp)) (fun b o _ e n=>u.free b o e n (by simp)) (fun b o _ e=>u.there b o e (by simp)) u.tups u.frzs u.tbls (fun m' hm=>by
  obtain ⟨o',es',ep',ho',r'⟩:=hm
  rw [ho] at ho'; cases ho'
  exact ⟨_,es',ep',hL,r'⟩) hok I.bare
theorem Inv.call {g':Array GenState} {t':Nat} {d':Drawn} {ch:List Addr} (I:Inv X pins σ H s) (u:Un (frs X.stack) ch H H' s.heap h') (hok:HOk X.prog X.w H' h') (hg:AllBare g')
 (hch:∀ b∈ch,(b∈X.ex∨X.s₀.heap.objs.size≤b)∧b≠X.env.locals∧(∀ x c,X.env.cells.lookup x=some c→c≠b)∧∀ p∈X.pn ++ pins,p.1≠b) :
 Inv X pins σ H' { s with heap:=h',gens:=g',drawn:=d',toks:=t' }:=by
 obtain ⟨m,⟨o,es,ep,ho,r⟩,_⟩:=id I.loc
 obtain ⟨sl,hL⟩:=u.any ho I.free fun z=>(hch _ z).2.1 rfl
 exact I.step (ch:=ch) hch (fun b o hL hb hc e n=>u.keep b o e n (fun z=>(List.mem_cons.mp (I.stkSub b z)).elim hL hb) hc) (fun b o _ _ hc e n=>u.any e n hc) (fun b o hc e n=>u.free b o e n hc) (fun b o hc e=>u.there b o e hc) u.tups u.frzs u.tbls (fun m' hm=>by
  obtain ⟨o',es',ep',ho',r'⟩:=hm
  rw [ho] at ho'; cases ho'
  exact ⟨_,es',ep',hL,r'⟩) hok hg
theorem Inv.turned {t':Nat} {it:Addr} (I:Inv X pins σ H s) (k:∀ b o,b≠it→s.heap.get? b=some o→h'.get? b=some o) (hn:H it=none) (hL:it≠X.env.locals)
 (h1:it∈X.ex∨X.s₀.heap.objs.size≤it) (h2:∀ x c,X.env.cells.lookup x=some c→c≠it) (h3:∀ p∈X.pn ++ pins,p.1≠it):Inv X pins σ H { s with heap:=h',toks:=t' }:=by
 have nit:∀ b u,H b=some u→b≠it:=fun b u e z=>by rw [z,hn] at e; cases e
 refine I.step (g':=s.gens) (d':=s.drawn) (ch:=[it]) (fun b hb=>?_) (fun b o _ _ hc e _=>k b o (fun z=>hc (by simp [z])) e) (fun b o _ _ hc e _=>⟨o.slots,k b o (fun z=>hc (by simp [z])) e⟩) (fun _ _ _ _ n=>n)
  (fun b o hc e=>⟨o,k b o (fun z=>hc (by simp [z])) e⟩) (fun _ _ e=>e) (fun _ _ _ e=>e) (fun _ _ e=>⟨e,fun c o e1 e2=>⟨e1,k c o (ab4 e1 hn) e2⟩⟩) (fun m hm=>?_) (fun b u e=>?_) I.bare
 · have e:b=it:=by simpa using hb
   subst e
   exact ⟨h1,hL,h2,h3⟩
 · obtain ⟨o,es,ep,ho,r⟩:=hm
   exact ⟨o,es,ep,k _ o (Ne.symm hL) ho,r⟩
 · refine (I.hok b u e).stay (fun c v hc q=>k c v ?_ q) (fun _ q=>q) fun _ _ q=>q
   rcases hc with z | z
   · rw [z]; exact nit b u e
   · exact nit c _ z
theorem Inv.tok (I:Inv X pins σ H s) (t:Nat):Inv X pins σ H { s with toks:=t }:=I.un (h':=s.heap) (t':=t) Un.refl I.hok
theorem Inv.kept {t':Nat} (I:Inv X pins σ H s) (k:∀ b u,s.heap.get? b=some u→h'.get? b=some u):Inv X pins σ H { s with heap:=h',toks:=t' }:=I.un (Un.kept k) (I.hok.kept k)
theorem Inv.laid {a:Addr} {o:HO} {t':Nat} (I:Inv X pins σ H s) (k:∀ b u,s.heap.get? b=some u→h'.get? b=some u) (hp:s.heap.objs.size≤a) (new:ObjOk X.prog X.w (upd H a o) h' a o) :
 Inv X pins σ (upd H a o) { s with heap:=h',toks:=t' }:=I.un (Un.laid k hp (I.hok.fresh hp)) (I.hok.laid k hp new)
theorem Inv.write {x e:Addr} {o:HO} {t':Nat} (I:Inv X pins σ H s) (mu:Mut (H x)) (he:e=x∨H e=some (.own x)) (k:∀ b u,b≠e→s.heap.get? b=some u→h'.get? b=some u) (heo:∃ u,h'.get? e=some u)
 (new:ObjOk X.prog X.w (upd H x o) h' x o):Inv X pins σ (upd H x o) { s with heap:=h',toks:=t' }:=I.un (Un.write mu he k heo) (I.hok.write mu he k heo new)
theorem Inv.pins_of {pins':List (Addr×Obj)} (I:Inv X pins σ H s) (h:∀ p∈pins',s.heap.get? p.1=some p.2∧H p.1=none∧p.1≠X.env.locals∧p.1∉X.fs∧∀ v,p.2.data≠ .cell v):Inv X pins' σ H s :=
 ⟨I.ok,I.os,I.bare,I.base,I.loc,I.cell,I.free,I.freeC,fun p hp=>(List.mem_append.mp hp).elim (fun z=>I.pin p (List.mem_append_left _ z)) (h p),I.hok,I.len⟩
theorem aQ0 {N:List Str} (hN:N.Nodup) {i j:Nat} {x:Str} (a:N[i]?=some x) (b:N[j]?=some x):i=j:=by
 obtain ⟨h1,e1⟩:=List.getElem?_eq_some_iff.mp a
 obtain ⟨h2,e2⟩:=List.getElem?_eq_some_iff.mp b
 exact (List.getElem_inj hN).mp (e1.trans e2.symm)
theorem aV2 {M:Model} {A:Around} {E:Value→Shared→Prop} {i:Nat} {x:Str} {v:V} {u:Value} {Q:Unit→Shared→Prop} (I:Inv X pins σ H s) (hN:X.N.Nodup) (hi:X.N[i]?=some x) (hx:Loc X.env.scope x) (r:RelV v u)
 (h:∀ s',Inv X pins (σ.set i (some v)) H s'→(∃ a,Heap.SameBut a s.heap s'.heap∧(a=X.env.locals∨X.env.cells.lookup x=some a))→Q () s') (hf:X.fn x=true∨X.env.scope.names.lookup x=some .local:=by first | exact .inl rfl | exact .inr rfl | assumption):wpAny M A (storeName X.env x u) Q E s:=by
 obtain ⟨m,hn,hl⟩:=id I.loc
 have hcls:(X.env.scope.kind == .class || (X.env.scope.kind == .module && X.env.locals != X.env.globals))=false:=by rw [I.ok.kind]; rfl
 have hiσ:i < σ.length:=by rw [I.len]; exact (List.getElem?_eq_some_iff.mp hi).1
 have cne:=I.cne
 have tracked:∀ {a:Addr} {h':Heap},(∃ o,s.heap.get? a=some o∧H a=none)→Heap.SameBut a s.heap h'→HOk X.prog X.w H h':=fun {a h'} ha hs b ob e=>by
  obtain ⟨_,_,hfree⟩:=ha
  refine (I.hok b ob e).stay (fun c w' hc q=>(hs.2 c ?_).trans q) (fun _ q=>q) fun _ _ q=>q
  rintro rfl
  rcases hc with rfl | hc
  · rw [hfree] at e; cases e
  · rw [hfree] at hc; cases hc
 rcases hx with hk | hk
 · refine wpAny_storeName_local hk hn (fun h' hn' hs=>?_) hcls
   obtain ⟨oL,_,_,hoL,_⟩:=id hn
   refine h _ ⟨I.ok,I.os,I.bare,⟨fun b o e n hb hx=>?_,fun b o e n hb hx=>?_,I.base.free,fun b o e hx=>?_,I.base.tups,I.base.frzs,fun b l q=>⟨(I.base.tbls b l q).1,fun c o e1 e2=>let ⟨f1,f2⟩:=(I.base.tbls b l q).2 c o e1 e2; ⟨f1,(hs.2 c (ab4 f1 I.free)).trans f2⟩⟩⟩,⟨_,hn',fun j y v' e1 e2 e3=>?_⟩,fun y c e=>?_,I.free,I.freeC,fun p hp=>?_,tracked ⟨oL,hoL,I.free⟩ hs,by simpa using I.len⟩ ⟨_,hs,.inl rfl⟩
   · exact (hs.2 b (Nat.ne_of_lt (Nat.lt_of_lt_of_le (Heap.lt_size e) I.ok.above))).trans (I.base.keep b o e n hb hx)
   · obtain ⟨sl,e1⟩:=I.base.slot b o e n hb hx
     exact ⟨sl,(hs.2 b (Nat.ne_of_lt (Nat.lt_of_lt_of_le (Heap.lt_size e) I.ok.above))).trans e1⟩
   · obtain ⟨o',e1⟩:=I.base.there b o e hx
     exact ⟨o',(hs.2 b (Nat.ne_of_lt (Nat.lt_of_lt_of_le (Heap.lt_size e) I.ok.above))).trans e1⟩
   · by_cases hj:j=i
     · subst hj
       rw [hi] at e1; cases e1
       rw [List.getElem?_set_self hiσ] at e2
       cases e2
       exact ⟨u,r,.inl ⟨hk,by simp⟩⟩
     · rw [List.getElem?_set_ne (Ne.symm hj)] at e2
       obtain ⟨u',r',q⟩:=hl j y v' e1 e2 e3
       refine ⟨u',r',?_⟩
       rcases q with ⟨k,e⟩ | ⟨k,c,e,z⟩
       · refine .inl ⟨k,?_⟩
         have:y≠x:=fun e=>hj (aQ0 hN e1 (e ▸ hi))
         simp [this,e]
       · exact .inr ⟨k,c,e,z.sameBut hs (cne y c e)⟩
   · obtain ⟨w',z⟩:=I.cell y c e
     exact ⟨w',z.sameBut hs (cne y c e)⟩
   · obtain ⟨e,n,ne,nf,d⟩:=I.pin p hp
     exact ⟨(hs.2 p.1 ne).trans e,n,ne,nf,d⟩
 · have hfn:X.fn x=true:=by
    rcases hf with z | z
    · exact z
    · rw [z] at hk; cases hk
   obtain ⟨c,hc⟩:=I.ok.has x (.inl hk)
   obtain ⟨w',z⟩:=I.cell x c hc
   refine wpAny_storeName_cell I.ok.kind hk hc z (fun h' hc' hs=>?_)
   obtain ⟨oc,hoc,hocd⟩:=id z
   refine h { s with heap:=h' } ⟨I.ok,I.os,I.bare,⟨fun b o e n hb hx=>?_,fun b o e n hb hx=>?_,I.base.free,fun b o e hx=>?_,I.base.tups,I.base.frzs,fun b l q=>⟨(I.base.tbls b l q).1,fun c' o e1 e2=>let ⟨f1,f2⟩:=(I.base.tbls b l q).2 c' o e1 e2; ⟨f1,(hs.2 c' (ab4 f1 (I.freeC x c hc))).trans f2⟩⟩⟩,⟨m,hn.sameBut hs (Ne.symm (cne x c hc)),fun j y v' e1 e2 e3=>?_⟩,fun y c' e=>?_,I.free,I.freeC,fun p hp=>?_,tracked ⟨oc,hoc,I.freeC x c hc⟩ hs,by simpa using I.len⟩ ⟨c,hs,.inr hc⟩
   · exact (hs.2 b (Nat.ne_of_lt (Nat.lt_of_lt_of_le (Heap.lt_size e) (I.ok.cab x c hfn hc)))).trans (I.base.keep b o e n hb hx)
   · obtain ⟨sl,e1⟩:=I.base.slot b o e n hb hx
     exact ⟨sl,(hs.2 b (Nat.ne_of_lt (Nat.lt_of_lt_of_le (Heap.lt_size e) (I.ok.cab x c hfn hc)))).trans e1⟩
   · obtain ⟨o',e1⟩:=I.base.there b o e hx
     exact ⟨o',(hs.2 b (Nat.ne_of_lt (Nat.lt_of_lt_of_le (Heap.lt_size e) (I.ok.cab x c hfn hc)))).trans e1⟩
   · by_cases hj:j=i
     · subst hj
       rw [hi] at e1; cases e1
       rw [List.getElem?_set_self hiσ] at e2
       cases e2
       exact ⟨u,r,.inr ⟨.inl hk,c,hc,hc'⟩⟩
     · rw [List.getElem?_set_ne (Ne.symm hj)] at e2
       obtain ⟨u',r',q⟩:=hl j y v' e1 e2 e3
       refine ⟨u',r',?_⟩
       rcases q with q | ⟨k,c',e,z'⟩
       · exact .inl q
       · refine .inr ⟨k,c',e,z'.sameBut hs ?_⟩
         rintro rfl
         exact hj (aQ0 hN e1 (I.ok.inj _ _ _ e hc ▸ hi))
   · by_cases hcc:c'=c
     · subst hcc; exact ⟨_,hc'⟩
     · obtain ⟨w2,z2⟩:=I.cell y c' e
       exact ⟨w2,z2.sameBut hs hcc⟩
   · obtain ⟨e,n,ne,nf,d⟩:=I.pin p hp
     refine ⟨(hs.2 p.1 ?_).trans e,n,ne,nf,d⟩
     intro q
     rw [q,hoc] at e
     have q':oc=p.2:=Option.some.inj e
     exact d w' (by rw [← q']; exact hocd)
theorem aO8 {M:Model} {A:Around} {E:Value→Shared→Prop} {i:Nat} {x:Str} {v:V} {u:Value} {Q:Unit→Shared→Prop} (I:Inv X pins σ H s) (hN:X.N.Nodup) (hi:X.N[i]?=some x) (hx:Loc X.env.scope x) (r:RelV v u)
 (h:∀ s',Inv X pins (σ.set i (some v)) H s'→Q () s') (hf:X.fn x=true∨X.env.scope.names.lookup x=some .local:=by first | exact .inl rfl | exact .inr rfl | assumption):wpAny M A (storeName X.env x u) Q E s :=
 aV2 I hN hi hx r (fun s' I' _=>h s' I') hf
theorem Inv.call' {s':Shared} {ch:List Addr} (I:Inv X pins σ H s) (ho:s'.os=s.os) (u:Un (frs X.stack) ch H H' s.heap s'.heap) (hok:HOk X.prog X.w H' s'.heap) (hg:AllBare s'.gens)
 (hch:∀ b∈ch,(b∈X.ex∨X.s₀.heap.objs.size≤b)∧b≠X.env.locals∧(∀ x c,X.env.cells.lookup x=some c→c≠b)∧∀ p∈X.pn ++ pins,p.1≠b):Inv X pins σ H' s':=by
 obtain ⟨h',g',d',t',o'⟩:=s'
 have e:o'=s.os:=ho
 subst e
 exact I.call (g':=g') (t':=t') (d':=d') u hok hg hch
end
noncomputable abbrev XK:=Value→Option Addr→Hp→Prop
noncomputable abbrev St:=List (Option V)
noncomputable abbrev VK:=V→Hp→Prop
noncomputable abbrev TE:=St→Hp→VK→Prop
noncomputable abbrev TT:=St→Hp→(Bool→Hp→Prop)→Prop
noncomputable abbrev TA:=St→Hp→(List V→Hp→Prop)→Prop
structure Ends where
 nx:St→Hp→Prop
 rt:VK
 bk:St→Hp→Prop:=fun _ _=>False
 ct:St→Hp→Prop:=fun _ _=>False
noncomputable abbrev TS:=Ends→St→Hp→Prop
noncomputable def EP (X:Cx) (pins:List (Addr×Obj)) (σ:St) (Q:VK) (u:Value) (s':Shared):Prop:=∃ v H',Inv X pins σ H' s'∧RelV v u∧Q v H'
noncomputable def TP (X:Cx) (pins:List (Addr×Obj)) (σ:St) (Q:Bool→Hp→Prop) (b:Bool) (s':Shared):Prop:=∃ H',Inv X pins σ H' s'∧Q b H'
noncomputable def AP (X:Cx) (pins:List (Addr×Obj)) (σ:St) (Q:List V→Hp→Prop) (us:List Value) (s':Shared):Prop:=∃ vs H',Inv X pins σ H' s'∧Vals vs us∧Q vs H'
noncomputable def SP (X:Cx) (pins:List (Addr×Obj)) (D:Ends) (f:Flow) (s':Shared):Prop :=
 match f with
 | .next=>∃ σ' H',Inv X pins σ' H' s'∧D.nx σ' H'
 | .brk=>∃ σ' H',Inv X pins σ' H' s'∧D.bk σ' H'
 | .cont=>∃ σ' H',Inv X pins σ' H' s'∧D.ct σ' H'
 | .ret u=>∃ v σ' H',Inv X pins σ' H' s'∧RelV v u∧D.rt v H'
noncomputable def PE (X:Cx) (e:Expr) (t:TE):Prop :=
 ∀ (pins:List (Addr×Obj)) (s:Shared) (σ:St) (H:Hp) (Q:VK),Inv X pins σ H s→t σ H Q→wpAny (model X.prog X.w) X.A (eval e X.env) (EP X pins σ Q) X.xe s
noncomputable def PT (X:Cx) (e:Expr) (t:TT):Prop :=
 ∀ (pins:List (Addr×Obj)) (s:Shared) (σ:St) (H:Hp) (Q:Bool→Hp→Prop),Inv X pins σ H s→t σ H Q→wpAny (model X.prog X.w) X.A (isTrue e X.env (eval e X.env)) (TP X pins σ Q) X.xe s
noncomputable def PW (X:Cx) (e:Expr) (t:TT):Prop :=
 ∀ (whole:Sem Value) (pins:List (Addr×Obj)) (s:Shared) (σ:St) (H:Hp) (Q:Bool→Hp→Prop),Inv X pins σ H s→t σ H Q→wpAny (model X.prog X.w) X.A (isTrue e X.env whole) (TP X pins σ Q) X.xe s
theorem PW.pt {X:Cx} {e:Expr} {t:TT} (h:PW X e t):PT X e t:=h _
noncomputable def PA (X:Cx) (es:List Expr) (t:TA):Prop :=
 ∀ (pos:Pos) (pins:List (Addr×Obj)) (s:Shared) (σ:St) (H:Hp) (Q:List V→Hp→Prop),Inv X pins σ H s→t σ H Q→wpAny (model X.prog X.w) X.A (spliced (backTo pos (starEach es X.env))) (AP X pins σ Q) X.xe s
noncomputable def PS (X:Cx) (st:Stmt) (t:TS):Prop :=
 ∀ (pins:List (Addr×Obj)) (s:Shared) (σ:St) (H:Hp) (D:Ends),Inv X pins σ H s→t D σ H→wpAny (model X.prog X.w) X.A (exec st X.env) (SP X pins D) X.xe s
noncomputable def PSs (X:Cx) (st:List Stmt) (t:TS):Prop :=
 ∀ (pins:List (Addr×Obj)) (s:Shared) (σ:St) (H:Hp) (D:Ends),Inv X pins σ H s→t D σ H→wpAny (model X.prog X.w) X.A (execs st X.env) (SP X pins D) X.xe s
theorem thn {α:Type} {t:Sem α} {Q Q':α→Shared→Prop} {M:Model} {A:Around} {E:Value→Shared→Prop} {s:Shared} (h:wpAny M A t Q E s) (hQ:∀ a s,Q a s→Q' a s):wpAny M A t Q' E s:=wpAny_mono h hQ fun _ _ x=>x
section
variable {X:Cx}
noncomputable def tVar (i:Nat):TE:=fun σ H Q=>∃ v,σ[i]?=some (some v)∧Q v H
noncomputable def tC (v:V):TE:=fun _ H Q=>Q v H
theorem bJ8 {i:Nat} {x:Str} {pos:Pos} (hN:X.N[i]?=some x) (hv:Vis X.env.scope x) (hd:(x == ("__debug__" : Str))=false:=by decide) (hcd:(x == ("__classdict__" : Str))=false:=by decide):PE X (.Name x pos) (tVar i):=by
 intro pins s σ H Q I h
 obtain ⟨v,e,h⟩:=h
 obtain ⟨m,hn,hl⟩:=I.loc
 obtain ⟨u,r,l⟩:=hl i x v hN e hv
 have fin:EP X pins σ Q u s:=⟨v,H,I,r,h⟩
 rcases l with ⟨hk,hm⟩ | ⟨hk,c,hc,hcell⟩
 · exact wpAny_Name (wpAny_loadName_local I.ok.kind hk hn hm fin) hd
 · rcases hk with hk | hk
   · exact wpAny_Name (wpAny_loadName_cell I.ok.kind hk hc hcell fin) hd
   · exact wpAny_Name (wpAny_loadName_free I.ok.kind hk hc hcell fin hcd) hd
theorem aa3 {i j pos}:PE X (.Constant (.int i) j pos) (tC (.int i)):=fun _ _ _ H _ I h=>wpAny_Constant_int ⟨.int i,H,I.tok _,⟨_,rfl⟩,h⟩
theorem aS5 {b j pos}:PE X (.Constant (.bool b) j pos) (tC (.bl b)):=fun _ _ _ H _ I h=>Constant_bool ⟨.bl b,H,I,rfl,h⟩
theorem bK0 {j pos}:PE X (.Constant .none j pos) (tC .non):=fun _ _ _ H _ I h=>Constant_none ⟨.non,H,I,rfl,h⟩
noncomputable def Gl (X:Cx) (x:Str):Prop:=X.env.kindOf x=some .globalImplicit
theorem aK7 {E:Value→Shared→Prop} {pins:List (Addr×Obj)} {s:Shared} {σ:St} {H:Hp} {x:Str} {u:Value} {pos:Pos} {Q:Value→Shared→Prop} (I:Inv X pins σ H s) (hg:Gl X x) (hm:X.mg x=some u) (h:Q u s)
 (hd:(x == ("__debug__" : Str))=false:=by decide):wpAny (model X.prog X.w) X.A (eval (.Name x pos) X.env) Q E s :=
 Calls.Name_function_global I.ok.kind hg (Calls.loadGlobal_global (by rw [I.ok.glob]; exact I.mod.glob.keeps I.bk) hm h) hd
theorem ax9 {E:Value→Shared→Prop} {pins:List (Addr×Obj)} {s:Shared} {σ:St} {H:Hp} {x:Str} {u:Value} {pos:Pos} {Q:Value→Shared→Prop} (I:Inv X pins σ H s) (hg:Gl X x) (hm:X.mg x=none) (hv:bootBuiltins x=some u) (h:Q u s)
 (hn:x ≠ "__name__" := by decide) (hd:(x == ("__debug__" : Str))=false:=by decide):wpAny (model X.prog X.w) X.A (eval (.Name x pos) X.env) Q E s:=by
 obtain ⟨mb,h1,h2⟩:=I.mod.blt
 exact Calls.Name_function_global I.ok.kind hg (Calls.loadGlobal_builtin (by rw [I.ok.glob]; exact I.mod.glob.keeps I.bk) hm (by rw [I.ok.blt]; exact h1.keeps I.bk) ((h2 x hn).trans hv) h) hd
theorem aA0 {x:Str} {v:V} {u:Value} {pos:Pos} (hg:Gl X x) (hm:X.mg x=some u) (r:RelV v u) (hd:(x == ("__debug__" : Str))=false:=by decide):PE X (.Name x pos) (tC v) :=
 fun _ _ _ H _ I h=>aK7 I hg hm ⟨v,H,I,r,h⟩ hd
theorem as7 {x:Str} {v:V} {u:Value} {pos:Pos} (hg:Gl X x) (hm:X.mg x=none) (hv:bootBuiltins x=some u) (r:RelV v u) (hn:x ≠ "__name__" := by decide) (hd:(x == ("__debug__" : Str))=false:=by decide):PE X (.Name x pos) (tC v) :=
 fun _ _ _ H _ I h=>ax9 I hg hm hv ⟨v,H,I,r,h⟩ hn hd
variable {a b:Expr} {ta tb:TE} {pos:Pos}
noncomputable def PC (X:Cx) (op:CmpOp) (a b:Expr) (t:TE):Prop :=
 ∀ (pins:List (Addr×Obj)) (s:Shared) (σ:St) (H:Hp) (Q:VK),Inv X pins σ H s→t σ H Q →
  wpAny (model X.prog X.w) X.A (eval a X.env) (fun v s₁=>wpAny (model X.prog X.w) X.A (eval b X.env) (fun u s₂=>wpAny (model X.prog X.w) X.A (compareOp op v u) (EP X pins σ Q) X.xe s₂) X.xe s₁) X.xe s
theorem bk5 (b:Expr) {op:CmpOp} (h:op≠ .In) (h2:op≠ .NotIn):behindInMarks op b=false:=by
 have e1:(op == CmpOp.In)=false:=by cases op <;> first | rfl | exact absurd rfl h
 have e2:(op == CmpOp.NotIn)=false:=by cases op <;> first | rfl | exact absurd rfl h2
 cases b <;> simp [behindInMarks,e1,e2]
noncomputable def tB (t:TE):TT:=fun σ H Q=>t σ H fun x H1=>∃ c,x= .bl c∧Q c H1
theorem bJ3 {op:CmpOp} {t:TE} (h:PC X op a b t) (h1:behindInMarks op b=false:=by first | exact bk5 _ (by decide) (by decide) | rfl):PT X (.Compare a [op] [b] pos) (tB t):=by
 intro pins s σ H Q I hw
 refine wpAny_isTrue_Compare1 (thn (h pins s σ H _ I hw) fun v s1 h1=>thn h1 fun u s2 h2=>thn h2 fun c s3 ⟨x,H1,I1,r1,q1⟩=>?_) h1
 obtain ⟨d,rfl,q⟩:=q1
 cases r1
 exact wpAny_truthy_bool ⟨H1,I1,q⟩
theorem ax4 {e:Expr} {t:TE} (h:PE X e t) (he:∀ whole,isTrue e X.env whole=(do let v ← whole; standAt e.pos; holding [v] (truthy v)):=by intro _; rfl):PT X e (tB t):=by
 intro pins s σ H Q I hw
 refine isTrue_plain (thn (h pins s σ H _ I hw) fun v s1 ⟨x,H1,I1,r1,q1⟩=>?_) (he _)
 obtain ⟨d,rfl,q⟩:=q1
 cases r1
 exact wpAny_truthy_bool ⟨H1,I1,q⟩
variable {tA tB':TT} {rest:List Expr}
noncomputable def tAnd (t u:TT):TT:=fun σ H Q=>t σ H fun c H1=>if c=true then u σ H1 Q else Q false H1
noncomputable def tOr (t u:TT):TT:=fun σ H Q=>t σ H fun c H1=>if c=true then Q true H1 else u σ H1 Q
noncomputable def tNot (t:TT):TT:=fun σ H Q=>t σ H fun c H1=>Q (!c) H1
theorem bz1 (ha:PT X a tA):PW X (.BoolOp .And [a] pos) tA:=by
 intro wh pins s σ H Q I h
 refine isTrue_and (thn (ha pins s σ H Q I h) fun c s1 e=>?_)
 cases c with
 | true=>exact isTrue_and_nil e
 | false=>exact e
theorem ax3 (ha:PT X a tA):PW X (.BoolOp .Or [a] pos) tA:=by
 intro wh pins s σ H Q I h
 refine isTrue_or (thn (ha pins s σ H Q I h) fun c s1 e=>?_)
 cases c with
 | false=>exact isTrue_or_nil e
 | true=>exact e
theorem bJ1 (ha:PT X a tA) (hb:PW X (.BoolOp .And (b :: rest) pos) tB'):PW X (.BoolOp .And (a :: b :: rest) pos) (tAnd tA tB'):=by
 intro wh pins s σ H Q I h
 refine isTrue_and (thn (ha pins s σ H _ I h) fun c s1 ⟨H1,I1,q1⟩=>?_)
 cases c with
 | true=>exact hb wh pins s1 σ H1 Q I1 q1
 | false=>exact ⟨H1,I1,q1⟩
theorem az6 (ha:PT X a tA) (hb:PW X (.BoolOp .Or (b :: rest) pos) tB'):PW X (.BoolOp .Or (a :: b :: rest) pos) (tOr tA tB'):=by
 intro wh pins s σ H Q I h
 refine isTrue_or (thn (ha pins s σ H _ I h) fun c s1 ⟨H1,I1,q1⟩=>?_)
 cases c with
 | true=>exact ⟨H1,I1,q1⟩
 | false=>exact hb wh pins s1 σ H1 Q I1 q1
theorem ax5 (ha:PT X a tA):PT X (.UnaryOp .Not a pos) (tNot tA):=by
 intro pins s σ H Q I h
 exact isTrue_not (ha pins s σ H (fun c H1=>Q (!c) H1) I h)
noncomputable def bH8 (ta tb:TE):TE:=fun σ H Q=>ta σ H fun x H1=>∃ c,x= .bl c∧if c=true then tb σ H1 Q else Q (.bl false) H1
noncomputable def bH4 (ta:TE):TE:=fun σ H Q=>ta σ H fun x H1=>∃ c,x= .bl c∧Q (.bl (!c)) H1
theorem aZ2 {op} {t:TE} (h:PE X a t):PE X (.BoolOp op [a] pos) t:=fun pins s σ H Q I hw=>BoolOp_one (h pins s σ H Q I hw)
theorem aZ4 (ha:PE X a ta) (hb:PE X (.BoolOp .And (b :: rest) pos) tb):PE X (.BoolOp .And (a :: b :: rest) pos) (bH8 ta tb):=by
 intro pins s σ H Q I h
 refine BoolOp_and (thn (ha pins s σ H _ I h) fun v s1 ⟨x,H1,I1,r1,q1⟩=>?_)
 obtain ⟨c,rfl,q1⟩:=q1
 cases r1
 refine wpAny_truthy_bool ?_
 cases c with
 | true=>exact hb pins s1 σ H1 Q I1 q1
 | false=>exact ⟨.bl false,H1,I1,rfl,q1⟩
theorem bJ9 (ha:PE X a ta):PE X (.UnaryOp .Not a pos) (bH4 ta):=by
 intro pins s σ H Q I h
 refine UnaryOp_ (thn (ha pins s σ H _ I h) fun v s1 ⟨x,H1,I1,r1,q1⟩=>?_)
 obtain ⟨c,rfl,q1⟩:=q1
 cases r1
 exact not_of (wpAny_truthy_bool ⟨.bl (!c),H1,I1,rfl,q1⟩)
end
noncomputable def SqL (K:PySem.W.Frag) (H:Hp) (a:Addr) (xs:List V):Prop :=
 Rd H a (.lst xs) ∨
  ∃ (o:Obj) (its:Array Value) (n:Nat),K.lookup a=some o∧o.cls= .type "list" ∧ o.dict=none∧o.data= .seq its n∧its.size≤sizeLine∧Vals xs its.toList
noncomputable def SqT (K:PySem.W.Frag) (H:Hp) (a:Addr) (xs:List V):Prop :=
 Rd H a (.tup xs) ∨
  ∃ (o:Obj) (its:Array Value) (n:Nat),K.lookup a=some o∧o.cls= .type "tuple" ∧ o.data= .seq its n∧its.size≤sizeLine∧Vals xs its.toList
noncomputable def absV:Value→Option V
 | .none=>some .non
 | .bool b=>some (.bl b)
 | .int i _=>some (.int i)
 | .str x _=>some (.str x)
 | .bytes b _=>some (.byt b)
 | .float b _=>some (.flt b)
 | .ref a=>some (.ref a)
 | .type n=>some (.ty n)
 | _=>none
theorem RelV.abs {x:V} {u:Value} (r:RelV x u):absV u=some x:=by
 cases x with
 | non=>cases r; rfl
 | bl _=>cases r; rfl
 | int _=>obtain ⟨t,rfl⟩:=r; rfl
 | str _=>obtain ⟨t,rfl⟩:=r; rfl
 | byt _=>obtain ⟨t,rfl⟩:=r; rfl
 | flt _=>obtain ⟨t,rfl⟩:=r; rfl
 | ref _=>cases r; rfl
 | ty _=>cases r; rfl
theorem RelV.inj {x y:V} {u:Value} (r:RelV x u) (q:RelV y u):x=y:=Option.some.inj (r.abs.symm.trans q.abs)
theorem Vals.inj:∀ {xs ys:List V} {us:List Value},Vals xs us→Vals ys us→xs=ys
 | _,_,_,.nil,.nil=>rfl
 | _,_,_,.cons r t,.cons r' t'=>by rw [r.inj r',Vals.inj t t']
section
variable {X:Cx} {pins:List (Addr×Obj)} {σ:St} {H:Hp} {s:Shared} {a:Addr} {xs ys:List V}
theorem SqL.of {K:PySem.W.Frag} (h:H a=some (.lst xs)):SqL K H a xs:= .inl (.inl h)
theorem SqT.of {K:PySem.W.Frag} (h:H a=some (.tup xs)):SqT K H a xs:= .inl (.inl h)
theorem Inv.list (I:Inv X pins σ H s) (h:SqL X.K H a xs):∃ its:List Value,Vals xs its∧PlainL s.heap a its.toArray∧xs.length≤sizeLine:=by
 rcases h with h | ⟨o,its,n,hk,hc,hd,hs,hz,r⟩
 · obtain ⟨z,its,n,r,e⟩:=h.ok I.hok
   exact ⟨its,r,⟨_,n,e,rfl,rfl,rfl⟩,z⟩
 · refine ⟨its.toList,r,⟨o,n,I.kIn a o hk,hc,hd,by simpa using hs⟩,?_⟩
   have e:=r.length
   simp only [Array.length_toList] at e
   omega
theorem Inv.tuple (I:Inv X pins σ H s) (h:SqT X.K H a xs):∃ its:List Value,Vals xs its∧IsTup s.heap a its.toArray∧xs.length≤sizeLine:=by
 rcases h with h | ⟨o,its,n,hk,hc,hs,hz,r⟩
 · obtain ⟨z,its,r,p⟩:=h.ok I.hok
   exact ⟨its,r,p,z⟩
 · refine ⟨its.toList,r,⟨o,I.kIn a o hk,hc,n,by simpa using hs⟩,?_⟩
   have e:=r.length
   simp only [Array.length_toList] at e
   omega
theorem Inv.list_inj (I:Inv X pins σ H s) (h:SqL X.K H a xs) (h':SqL X.K H a ys):xs=ys:=by
 obtain ⟨its,r,⟨o,n,e,_,_,d⟩,_⟩:=I.list h
 obtain ⟨its',r',⟨o',n',e',_,_,d'⟩,_⟩:=I.list h'
 rw [e] at e'; cases e'
 rw [d] at d'
 injection d' with d1 _
 have:its=its':=by simpa using congrArg Array.toList d1
 subst this
 exact r.inj r'
end
noncomputable abbrev Cx.wish (X:Cx) (E:Value→Shared→Prop):Cx:={ X with xe:=E }
noncomputable abbrev Cx.nox (X:Cx):Cx:=X.wish fun _ _=>False
theorem Cx.Ok.wish {X:Cx} (ok:X.Ok) (E:Value→Shared→Prop):(X.wish E).Ok :=
 ⟨ok.mod,ok.kind,ok.glob,ok.blt,ok.above,ok.inj,ok.has,ok.cab,ok.hd,ok.frames,ok.stk,ok.exf,ok.bs,ok.bsz,ok.noex,ok.exfs,ok.funs,ok.frf⟩
theorem Cx.Ok.unwish {X:Cx} {E:Value→Shared→Prop} (ok:(X.wish E).Ok):X.Ok :=
 ⟨ok.mod,ok.kind,ok.glob,ok.blt,ok.above,ok.inj,ok.has,ok.cab,ok.hd,ok.frames,ok.stk,ok.exf,ok.bs,ok.bsz,ok.noex,ok.exfs,ok.funs,ok.frf⟩
section
variable {X:Cx} {pins:List (Addr×Obj)} {σ:St} {H:Hp} {s:Shared} {E:Value→Shared→Prop}
theorem Inv.wish (I:Inv X pins σ H s) (E:Value→Shared→Prop):Inv (X.wish E) pins σ H s:=⟨I.ok.wish E,I.os,I.bare,I.base,I.loc,I.cell,I.free,I.freeC,I.pin,I.hok,I.len⟩
theorem Inv.unwish (I:Inv (X.wish E) pins σ H s):Inv X pins σ H s:=⟨I.ok.unwish,I.os,I.bare,I.base,I.loc,I.cell,I.free,I.freeC,I.pin,I.hok,I.len⟩
theorem SP.unwish {D:Ends} {f:Flow} {s':Shared} (h:SP (X.wish E) pins D f s'):SP X pins D f s':=by
 cases f with
 | next=>obtain ⟨σ',H',I,q⟩:=h; exact ⟨σ',H',I.unwish,q⟩
 | brk=>obtain ⟨σ',H',I,q⟩:=h; exact ⟨σ',H',I.unwish,q⟩
 | cont=>obtain ⟨σ',H',I,q⟩:=h; exact ⟨σ',H',I.unwish,q⟩
 | ret u=>obtain ⟨v,σ',H',I,r,q⟩:=h; exact ⟨v,σ',H',I.unwish,r,q⟩
theorem PSs.nox {st:List Stmt} {t:TS} (h:PSs X.nox st t):PSs X st t:=fun pins s σ H D I hw =>
 wpAny_mono (h pins s σ H D (I.wish _) hw) (fun _ _ q=>q.unwish) fun _ _ z=>False.elim z
end
section
variable {X:Cx} {st:Stmt} {rest:List Stmt} {t u:TS} {e:Expr} {te:TE} {pos:Pos}
noncomputable def bH5:TS:=fun D σ H=>D.nx σ H
noncomputable def tSeq (t u:TS):TS:=fun D σ H=>t { D with nx:=u D } σ H
theorem ac7:PSs X [] bH5:=fun _ _ σ H _ I h=>wpAny_execs_nil ⟨σ,H,I,h⟩
theorem aa1 (h1:PS X st t) (h2:PSs X rest u):PSs X (st :: rest) (tSeq t u):=by
 intro pins s σ H D I h
 refine wpAny_execs_cons (thn (h1 pins s σ H { D with nx:=u D } I h) fun f s1 q=>?_)
 cases f with
 | next =>
   obtain ⟨σ',H',I',q⟩:=q
   exact h2 pins s1 σ' H' D I' q
 | ret v=>exact q
 | brk=>exact q
 | cont=>exact q
theorem aa5 (h1:PS X st t):PSs X [st] t:=by
 intro pins s σ H D I h
 refine wpAny_execs_cons (thn (h1 pins s σ H D I h) fun f s1 q=>?_)
 cases f with
 | next=>exact wpAny_execs_nil q
 | ret v=>exact q
 | brk=>exact q
 | cont=>exact q
theorem Inv.quiet {pins:List (Addr×Obj)} {σ:St} {H:Hp} {s:Shared} (I:Inv X pins σ H s):interactive X.env=false:=by simp [interactive,I.ok.kind]
noncomputable def bH6 (te:TE):TS:=fun D σ H=>te σ H fun _ H1=>D.nx σ H1
theorem ag1 (he:PE X e te) (hs:swapsWith e none pos.line X.env=pure false:=by rfl):PS X (.Expr e pos) (bH6 te):=by
 intro pins s σ H D I h
 exact wpAny_Expr_any (thn (he pins s σ H _ I h) fun v s1 ⟨x,H1,I1,r1,q1⟩=>⟨σ,H1,I1,q1⟩) I.quiet hs
noncomputable def tRet (te:TE):TS:=fun D σ H=>te σ H D.rt
theorem ae0 (he:PE X e te):PS X (.Return (some e) pos) (tRet te):=by
 intro pins s σ H D I h
 exact wpAny_Return_some (thn (he pins s σ H _ I h) fun v s1 ⟨x,H1,I1,r1,q1⟩=>⟨x,σ,H1,I1,r1,q1⟩)
noncomputable def tIfS (c:TT) (t u:TS):TS:=fun D σ H=>c σ H fun b H1=>if b=true then t D σ H1 else u D σ H1
theorem ai5 {c:Expr} {a b:List Stmt} {tc:TT} (hc:PT X c tc) (ha:PSs X a t) (hb:PSs X b u):PS X (.If c a b pos) (tIfS tc t u):=by
 intro pins s σ H D I h
 refine wpAny_If (thn (hc pins s σ H _ I h) fun d s1 ⟨H1,I1,q1⟩=>?_)
 cases d with
 | true=>exact ha pins s1 σ H1 D I1 q1
 | false=>exact hb pins s1 σ H1 D I1 q1
noncomputable def bn8:TS:=fun _ _ _=>False
theorem an5:PS X st bn8:=fun _ _ _ _ _ _ h=>h.elim
end
noncomputable abbrev TG:=V→St→Hp→(St→Hp→Prop)→Prop
noncomputable def PG (X:Cx) (target:Expr) (t:TG):Prop :=
 ∀ (pins:List (Addr×Obj)) (s:Shared) (σ:St) (H:Hp) (v:V) (u:Value) (Q:St→Hp→Prop),Inv X pins σ H s→RelV v u→t v σ H Q →
  wpAny (model X.prog X.w) X.A (assign target X.env u) (fun _ s'=>∃ σ' H',Inv X pins σ' H' s'∧Q σ' H') X.xe s
section
variable {X:Cx} {pos:Pos}
noncomputable def aB3 (i:Nat):TG:=fun v σ H Q=>Q (σ.set i (some v)) H
theorem as4 {i:Nat} {x:Str} (hN:X.N.Nodup) (hi:X.N[i]?=some x) (hx:Loc X.env.scope x) (hf:X.fn x=true∨X.env.scope.names.lookup x=some .local:=by first | exact .inl rfl | exact .inr rfl | assumption):PG X (.Name x pos) (aB3 i):=by
 intro pins s σ H v u Q I r h
 exact wpAny_assign_Name (aO8 I hN hi hx r (fun s' I'=>⟨_,H,I',h⟩) hf)
noncomputable def tAsg (te:TE) (g:TG):TS:=fun D σ H=>te σ H fun x H1=>g x σ H1 D.nx
theorem ac5 {i:Nat} {x:Str} {e:Expr} {te:TE} {pos':Pos} (hN:X.N.Nodup) (hi:X.N[i]?=some x) (hx:Loc X.env.scope x) (he:PE X e te) (hs:swapsWith e (some (.Name x pos')) pos.line X.env=pure false:=by rfl) (hf:X.fn x=true∨X.env.scope.names.lookup x=some .local:=by first | exact .inl rfl | exact .inr rfl | assumption) :
 PS X (.Assign [.Name x pos'] e pos) (tAsg te (aB3 i)):=by
 intro pins s σ H D I h
 refine wpAny_Assign_Name (thn (he pins s σ H _ I h) fun v s1 ⟨y,H1,I1,r1,q1⟩=>?_) hs
 exact aO8 I1 hN hi hx r1 (fun s2 I2=>⟨_,H1,I2,q1⟩) hf
end
section
variable {X:Cx} {pos:Pos}
noncomputable def bn7 (c:TT) (tb:TS):TS:=fun D σ H=>∃ W:Nat→St→Hp→Prop,(∃ m,W m σ H)∧∀ m σ H,W m σ H →
 c σ H fun b H1=>if b=true then ∃ N:St→Hp→Prop,(∀ σ' H',N σ' H'→∃ m',m' < m∧W m' σ' H')∧tb { D with nx:=N,ct:=N,bk:=D.nx } σ H1 else D.nx σ H1
theorem bj4 {c:Expr} {body:List Stmt} {tc:TT} {tb:TS} (hp:PassesOwn (model X.prog X.w) X.A X.env X.xe) (hc:PT X c tc) (hb:PSs X body tb):PS X (.While c body [] pos) (bn7 tc tb):=by
 intro pins s σ H D I h
 obtain ⟨W,⟨m0,w0⟩,turn⟩:=h
 refine wpAny_While (codeAny_whileLoop (fun n s'=>∃ σ' H',Inv X pins σ' H' s'∧W n σ' H') ?_ m0 ⟨σ,H,I,w0⟩)
 rintro n s1 ⟨σ1,H1,I1,w1⟩
 refine wpAny_passesOwn hp (thn (hc pins s1 σ1 H1 _ I1 (turn n σ1 H1 w1)) fun b s2 ⟨H2,I2,q2⟩=>?_)
 cases b with
 | true =>
   obtain ⟨N,hN,q2⟩:=q2
   rw [if_pos rfl]
   refine wpAny_passesOwn hp (thn (hb pins s2 σ1 H2 _ I2 q2) fun f s3 q3=>?_)
   cases f with
   | next =>
     obtain ⟨σ3,H3,I3,n3⟩:=q3
     obtain ⟨m',hm,w3⟩:=hN σ3 H3 n3
     exact ⟨m',hm,σ3,H3,I3,w3⟩
   | cont =>
     obtain ⟨σ3,H3,I3,n3⟩:=q3
     obtain ⟨m',hm,w3⟩:=hN σ3 H3 n3
     exact ⟨m',hm,σ3,H3,I3,w3⟩
   | brk=>exact q3
   | ret v=>exact q3
 | false =>
   rw [if_neg Bool.false_ne_true]
   exact wpAny_execs_nil ⟨σ1,H2,I2,q2⟩
end
structure It where
 go:Nat→Hp→Prop
 yld:Nat→Hp→V→Hp→Prop
 stop:Nat→Hp→Prop
noncomputable def FpOk (X:Cx) (pins:List (Addr×Obj)) (H:Hp) (b:Addr):Prop :=
 H b=none∧b≠X.env.locals∧b∉X.fs∧(b∈X.ex∨X.s₀.heap.objs.size≤b)∧(∀ x c,X.env.cells.lookup x=some c→c≠b)∧∀ p∈X.pn ++ pins,p.1≠b
theorem Inv.fpOk {X:Cx} {pins:List (Addr×Obj)} {σ:St} {H H':Hp} {s:Shared} {b:Addr} (I:Inv X pins σ H s) (hb:s.heap.objs.size≤b) (hn:H' b=none):FpOk X pins H' b:=by
 refine ⟨hn,Nat.ne_of_gt (Nat.lt_of_lt_of_le I.lt hb),I.nofs hb,.inr (Nat.le_trans I.sz hb),fun x c e z=>?_,fun p hp z=>?_⟩
 · obtain ⟨v,q⟩:=I.cell x c e
   exact absurd (Nat.lt_of_lt_of_le q.lt (by rw [z]; exact hb)) (Nat.lt_irrefl _)
 · exact absurd (Nat.lt_of_lt_of_le (Heap.lt_size (I.pin p hp).1) (by rw [z]; exact hb)) (Nat.lt_irrefl _)
structure Turn (P:Program) (w:World) (K:PySem.W.Frag) (tg:Expr) (J:It) (fp:List Addr) (it:Addr) (tn:Nat→Heap→Prop):Prop where
 mem:it∈fp
 obj:∀ i h,tn i h→∀ b∈fp,∃ o,h.get? b=some o∧∀ v,o.data≠ .cell v
 keep:∀ i h h',tn i h→(∀ b∈fp,∀ o,h.get? b=some o→h'.get? b=some o)→tn i h'
 item:∀ (X:Cx),X.prog=P→X.w=w→X.K=K→X.calm=true→∀ (i:Nat) (pins:List (Addr×Obj)) (s:Shared) (σ:St) (H:Hp) (E:Value→Shared→Prop),Inv X pins σ H s→(∀ b∈fp,FpOk X pins H b)→tn i s.heap→J.go i H →
  wpAny (model P w) X.A (pyNext (.ref it)) (fun r s1=>∃ u,r=some u ∧
   wpAny (model P w) X.A (letOwnedTupleGo tg (.ref it) u) (fun _ s2=>∃ x H',Inv X pins σ H' s2∧RelV x u∧J.yld i H x H'∧tn (i + 1) s2.heap∧∀ b∈fp,H' b=none) E s1) E s
 done:∀ (X:Cx),X.prog=P→X.w=w→X.K=K→X.calm=true→∀ (i:Nat) (pins:List (Addr×Obj)) (s:Shared) (σ:St) (H:Hp) (E:Value→Shared→Prop),Inv X pins σ H s→(∀ b∈fp,FpOk X pins H b)→tn i s.heap→J.stop i H →
  wpAny (model P w) X.A (pyNext (.ref it)) (fun r s1=>r=none∧Inv X pins σ H s1) E s
 self:∀ (A:Around) (i:Nat) (s:Shared) (Q:Value→Shared→Prop) (E:Value→Shared→Prop),tn i s.heap→Q (.ref it) s→wpAny (model P w) A (pyIter (.ref it)) Q E s
noncomputable abbrev TI:=St→Hp→(It→Hp→Prop)→Prop
noncomputable def PIE (X:Cx) (pins:List (Addr×Obj)) (σ:St) (tg:Expr) (R:It→Hp→Prop) (itv:Value) (s2:Shared):Prop :=
 ∃ (it:Addr) (fp:List Addr) (tn:Nat→Heap→Prop) (J:It) (H':Hp),itv= .ref it∧Inv X pins σ H' s2∧Turn X.prog X.w X.K tg J fp it tn∧tn 0 s2.heap∧(∀ b∈fp,FpOk X pins H' b)∧R J H'
noncomputable def PI (X:Cx) (tg iter:Expr) (wi:TI):Prop :=
 ∀ (pins:List (Addr×Obj)) (s:Shared) (σ:St) (H:Hp) (R:It→Hp→Prop),Inv X pins σ H s→wi σ H R →
  wpAny (model X.prog X.w) X.A (eval iter X.env) (fun v s1=>wpAny (model X.prog X.w) X.A (pyIter v) (PIE X pins σ tg R) X.xe s1) X.xe s
theorem bP7 {M:Model} {A:Around} {E:Value→Shared→Prop} {s:Shared} {tg:Expr} {it:Addr} {u:Value} {o:Obj} {n:String} {vs:Array Value} {Q:Unit→Shared→Prop} (ho:s.heap.get? it=some o) (hc:o.cls= .type n) (hd:o.data= .fields vs)
 (hn:["enumerate", "zip", "dict_itemiterator", "dict_reverseitemiterator", "odict_iterator", "itertools.zip_longest", "itertools.pairwise"].contains n=false) (hQ:Q () s):wpAny M A (letOwnedTupleGo tg (.ref it) u) Q E s:=by
 unfold letOwnedTupleGo
 cases tg <;> first
  | exact wpAny_pure hQ
  | (cases u <;> first
      | exact wpAny_pure hQ
      | (refine wpAny_bind (wpAny_load ho ?_)
         rw [hc,hd]
         show wpAny M A (if (["enumerate", "zip", "dict_itemiterator", "dict_reverseitemiterator", "odict_iterator", "itertools.zip_longest", "itertools.pairwise"].contains n && vs[0]? == some (rawInt _))=true then _ else _) Q E s
         rw [if_neg (by intro h; rw [hn,Bool.false_and] at h; cases h)]
         exact wpAny_pure hQ))
noncomputable def Itl (K:PySem.W.Frag) (a:Addr):It :=
 ⟨fun i H=>∃ xs x,SqL K H a xs∧xs[i]?=some x,fun i H x H'=>H'=H∧∀ xs,SqL K H a xs→xs[i]?=some x,fun i H=>∃ xs,SqL K H a xs∧xs.length≤i⟩
noncomputable def Itr (lo:Int) (n:Nat):It:=⟨fun i _=>i < n,fun i H x H'=>H'=H∧x= .int (lo + i),fun i _=>n≤i⟩
theorem aV0 {P:Program} {w:World} {K:PySem.W.Frag} {tg:Expr} (a it:Addr):Turn P w K tg (Itl K a) [it] it (fun i h=>h.IsListIter it a i) where
 mem:=by simp
 obj:=fun i h st b hb=>by
  have e:b=it:=by simpa using hb
  subst e
  obtain ⟨o,e,c,d⟩:=st
  exact ⟨o,e,fun v z=>by rw [d] at z; cases z⟩
 keep:=fun i h h' st k=>st.at fun o e=>k it (by simp) o e
 item:=by
  intro X hP hw hK hc i pins s σ H E I hf st hg
  subst hP hw hK
  obtain ⟨xs,x,hq,hx⟩:=hg
  obtain ⟨its,rv,p,hz⟩:=I.list hq
  obtain ⟨u,hu,ru⟩:=rv.get hx
  obtain ⟨f0,f1,f2,f3,f4,f5⟩:=hf it (by simp)
  refine wpAny_pyNext_list_item st p.isList (x:=u) (by simpa using hu) fun h' st' sb=>?_
  have I1:Inv X pins σ H { s with heap:=h' }:=I.turned (t':=s.toks) (fun b o hb e=>(sb.2 b hb).trans e) f0 f1 f3 f4 f5
  obtain ⟨o,e,c,d⟩:=id st'
  exact ⟨u,rfl,bP7 (s:={ s with heap:=h' }) e c d (by decide) ⟨x,H,I1,ru,⟨rfl,fun ys hy=>by rw [I.list_inj hy hq]; exact hx⟩,st',fun b hb=>(hf b hb).1⟩⟩
 done:=by
  intro X hP hw hK hc i pins s σ H E I hf st hg
  subst hP hw hK
  obtain ⟨xs,hq,hx⟩:=hg
  obtain ⟨its,rv,p,hz⟩:=I.list hq
  obtain ⟨f0,f1,f2,f3,f4,f5⟩:=hf it (by simp)
  have hl:=rv.length
  exact wpAny_pyNext_list_end (I.ok.hd hc) st p.isList (by simp; omega) fun h' eb=>⟨rfl,I.turned (t':=s.toks) (fun b o hb e=>eb b o hb e) f0 f1 f3 f4 f5⟩
 self:=fun _ _ _ _ _ st h=>wpAny_pyIter_listiter st h
theorem aR7 {P:Program} {w:World} {K:PySem.W.Frag} {tg:Expr} (it:Addr) (lo:Int) (n:Nat):Turn P w K tg (Itr lo n) [it] it (fun i h=>IsRangeIter h it (lo + (i:Nat) * 1) ((n:Int) - (i:Nat)) 1) where
 mem:=by simp
 obj:=fun i h st b hb=>by
  have e:b=it:=by simpa using hb
  subst e
  exact ⟨_,st,fun v z=>by
   have z':Data.fields _=Data.cell v:=z
   cases z'⟩
 keep:=fun i h h' st k=>k it (by simp) _ st
 item:=by
  intro X hP hw hK hc i pins s σ H E I hf st hg
  subst hP hw hK
  obtain ⟨f0,f1,f2,f3,f4,f5⟩:=hf it (by simp)
  have W:=Walks.range (prog:=X.prog) (w:=X.w) (I.ok.hd hc) it lo 1 n
  refine W.item i s _ _ hg st fun v h' tk hv st' kk=>?_
  obtain ⟨t,rfl⟩:=hv
  have I1:Inv X pins σ H { s with heap:=h',toks:=tk }:=I.turned (fun b o hb e=>kk b o (by simpa using hb) e) f0 f1 f3 f4 f5
  refine ⟨_,rfl,bP7 (s:={ s with heap:=h',toks:=tk }) (n := "range_iterator") st' rfl rfl (by decide) ⟨.int (lo + i),H,I1,⟨t,?_⟩,⟨rfl,rfl⟩,st',fun b hb=>(hf b hb).1⟩⟩
  rw [Int.mul_one]
 done:=by
  intro X hP hw hK hc i pins s σ H E I hf st hg
  subst hP hw hK
  obtain ⟨f0,f1,f2,f3,f4,f5⟩:=hf it (by simp)
  exact wpAny_pyNext_range_end (I.ok.hd hc) st (by have:n≤i:=hg; omega) fun h' eb=>⟨rfl,I.turned (t':=s.toks) (fun b o hb e=>eb b o hb e) f0 f1 f3 f4 f5⟩
 self:=fun _ _ _ _ _ st h=>wpAny_pyIter_rangeiter st h
section
variable {X:Cx} {tg:Expr}
noncomputable def bD8 (K:PySem.W.Frag) (tl:TE):TI:=fun σ H R=>tl σ H fun x H1=>∃ a,x= .ref a∧(∃ xs,SqL K H1 a xs)∧R (Itl K a) H1
theorem bz5 {l:Expr} {tl:TE} (hl:PE X l tl):PI X tg l (bD8 X.K tl):=by
 intro pins s σ H R I h
 refine thn (hl pins s σ H _ I h) fun v s1 ⟨x,H1,I1,r1,q1⟩=>?_
 obtain ⟨a,e,⟨xs,hq⟩,q⟩:=q1
 subst e
 cases r1
 obtain ⟨its,rv,p,hz⟩:=I1.list hq
 refine wpAny_pyIter_list p.isList ?_
 refine ⟨s1.heap.objs.size,[s1.heap.objs.size],_,_,H1,rfl,I1.kept (t':=s1.toks) fun b o e=>Heap.get?_push_of_some _ e,aV0 a _,⟨_,Heap.get?_push_size _ rfl,rfl,rfl⟩,fun b hb=>?_,q⟩
 have e:b=s1.heap.objs.size:=by simpa using hb
 subst e
 exact I1.fpOk (Nat.le_refl _) (I1.hok.fresh (Nat.le_refl _))
theorem aP3 {pins:List (Addr×Obj)} {σ:St} {H:Hp} {s:Shared} {R:It→Hp→Prop} {E:Value→Shared→Prop} {lo hi:Int} {t u v:Tok} {tk:Nat} (I:Inv X pins σ H s) (h1:-(2 ^ 62)≤lo) (h2:lo < 2 ^ 62) (h3:-(2 ^ 62)≤hi) (h4:hi < 2 ^ 62)
 (q:R (Itr lo (hi - lo).toNat) H):wpAny (model X.prog X.w) X.A (pyIter (.ref s.heap.objs.size)) (PIE X pins σ tg R) E { s with heap:=s.heap.push { cls:= .type "range",data:= .fields #[.int lo t,.int hi u,.int 1 v] },toks:=tk }:=by
 refine wpAny_pyIter_range (IsRange.new ..) (small_one h1 h2 h3 h4) ?_
 have I1:Inv X pins σ H { s with heap:=s.heap.push { cls:= .type "range",data:= .fields #[.int lo t,.int hi u,.int 1 v] },toks:=tk }:=I.kept fun b o e=>Heap.get?_push_of_some _ e
 refine ⟨(s.heap.push { cls:= .type "range",data:= .fields #[.int lo t,.int hi u,.int 1 v] }).objs.size,[(s.heap.push { cls:= .type "range",data:= .fields #[.int lo t,.int hi u,.int 1 v] }).objs.size],_,_,H,rfl,
  I1.kept (t':=tk) fun b o e=>Heap.get?_push_of_some _ e,aR7 _ lo (hi - lo).toNat,?_,fun b hb=>?_,q⟩
 · have e1:lo + ((0:Nat):Int) * 1=lo:=by simp
   have e2:(((hi - lo).toNat:Nat):Int) - ((0:Nat):Int)=Builtin.Range.rangeSize lo hi 1:=by rw [rangeSize_one]; split <;> omega
   show IsRangeIter _ _ (lo + ((0:Nat):Int) * 1) ((((hi - lo).toNat:Nat):Int) - ((0:Nat):Int)) 1
   rw [e1,e2]
   exact Heap.get?_push_size _ rfl
 · have e:b=(s.heap.push { cls:= .type "range",data:= .fields #[.int lo t,.int hi u,.int 1 v] }).objs.size:=by simpa using hb
   subst e
   exact I1.fpOk (Nat.le_refl _) (I1.hok.fresh (Nat.le_refl _))
noncomputable def bP6 (ta:TA):TI:=fun σ H R=>ta σ H fun vs H1=>∃ j:Int,vs=[.int j]∧-(2 ^ 62)≤j∧j < 2 ^ 62∧R (Itr 0 j.toNat) H1
noncomputable def bP5 (ta:TA):TI:=fun σ H R=>ta σ H fun vs H1=>∃ i j:Int,vs=[.int i,.int j]∧(-(2 ^ 62)≤i∧i < 2 ^ 62∧-(2 ^ 62)≤j∧j < 2 ^ 62)∧R (Itr i (j - i).toNat) H1
theorem aE0 {a:Expr} {ta:TA} {p pos:Pos} (hg:Gl X "range") (hm:X.mg "range" = none) (ha:PA X [a] ta) (hs:starEach [a] X.env=[(false,eval a X.env)]:=by rfl):PI X tg (.Call (.Name "range" p) [a] [] pos) (bP6 ta):=by
 intro pins s σ H R I h
 refine Call_ (ax9 I hg hm boot_range (PyProof.Rows.callWith_type1 (thn (ha pos pins s σ H _ I h) fun us s1 ⟨vs,H1,I1,r1,q1⟩=>?_) hs rfl))
 obtain ⟨j,e,q1,q2,q⟩:=q1
 subst e
 cases r1 with
 | cons r rr =>
   cases rr
   obtain ⟨t,rfl⟩:=r
   exact call_range_1 (aP3 I1 (by omega) (by omega) q1 q2 (by simpa using q))
theorem aD9 {a b:Expr} {ta:TA} {p pos:Pos} (hg:Gl X "range") (hm:X.mg "range" = none) (ha:PA X [a,b] ta) (hs:starEach [a,b] X.env=[(false,eval a X.env),(false,eval b X.env)]:=by rfl) (hs2:starEach [b] X.env=[(false,eval b X.env)]:=by rfl) :
 PI X tg (.Call (.Name "range" p) [a,b] [] pos) (bP5 ta):=by
 intro pins s σ H R I h
 refine Call_ (ax9 I hg hm boot_range (PyProof.Rows.callWith_type1 (thn (ha pos pins s σ H _ I h) fun us s1 ⟨vs,H1,I1,r1,q1⟩=>?_) (by rw [hs,hs2]) (by rw [hs2]; rfl)))
 obtain ⟨i,j,e,⟨q1,q2,q3,q4⟩,q⟩:=q1
 subst e
 cases r1 with
 | cons r rr =>
   cases rr with
   | cons r' rr =>
     cases rr
     obtain ⟨t,rfl⟩:=r
     obtain ⟨t',rfl⟩:=r'
     exact call_range_2 (aP3 I1 q1 q2 q3 q4 q)
noncomputable def tFor (wi:TI) (g:TG) (tb:TS):TS:=fun D σ H=>wi σ H fun J H1=>∃ W:Nat→Nat→St→Hp→Prop,(∃ m,W 0 m σ H1)∧∀ i m σ H,W i m σ H →
 (J.stop i H∧D.nx σ H)∨(J.go i H∧∃ N:St→Hp→Prop,(∀ σ' H',N σ' H'→∃ m',m' < m∧W (i + 1) m' σ' H')∧∀ x H',J.yld i H x H'→g x σ H' fun σ2 H2=>tb { D with nx:=N,ct:=N,bk:=D.nx } σ2 H2)
noncomputable def aD6 (fp:List Addr) (h:Heap):List (Addr×Obj):=fp.filterMap fun b=>(h.get? b).map fun o=>(b,o)
theorem al0 {fp:List Addr} {h:Heap} {b:Addr} {o:Obj} (hb:b∈fp) (e:h.get? b=some o):(b,o)∈aD6 fp h:=List.mem_filterMap.mpr ⟨b,hb,by rw [e]; rfl⟩
theorem ba0 {fp:List Addr} {h:Heap} {p:Addr×Obj} (hp:p∈aD6 fp h):p.1∈fp∧h.get? p.1=some p.2:=by
 obtain ⟨b,hb,e⟩:=List.mem_filterMap.mp hp
 cases q:h.get? b with
 | none=>rw [q] at e; cases e
 | some o =>
   rw [q] at e
   have e':(b,o)=p:=Option.some.inj e
   subst e'
   exact ⟨hb,q⟩
theorem Inv.pinned {pins:List (Addr×Obj)} {σ:St} {H:Hp} {s:Shared} {fp:List Addr} (I:Inv X pins σ H s) (hf:∀ b∈fp,FpOk X pins H b) (ho:∀ b∈fp,∃ o,s.heap.get? b=some o∧∀ v,o.data≠ .cell v):Inv X (pins ++ aD6 fp s.heap) σ H s :=
 I.pins_of fun p hp=>(List.mem_append.mp hp).elim (fun z=>I.pin p (List.mem_append_right _ z)) fun z=>by
  obtain ⟨hb,e⟩:=ba0 z
  obtain ⟨f0,f1,f2,_⟩:=hf p.1 hb
  obtain ⟨o,e',d⟩:=ho p.1 hb
  rw [e] at e'; cases e'
  exact ⟨e,f0,f1,f2,d⟩
theorem Inv.unpinned {pins pl:List (Addr×Obj)} {σ:St} {H:Hp} {s:Shared} (I:Inv X (pins ++ pl) σ H s):Inv X pins σ H s:=I.pins_of fun p hp=>I.pin p (List.mem_append_right _ (List.mem_append_left _ hp))
theorem aY8 {iter:Expr} {body:List Stmt} {wi:TI} {g:TG} {tb:TS} {pos:Pos} (hp:PassesOwn (model X.prog X.w) X.A X.env X.xe) (hc:X.calm=true) (hi:PI X tg iter wi) (hg:PG X tg g) (hb:PSs X body tb)
 (hs:∀ x,foldedSetIterable iter X.env x=pure x:=by intro _; rfl):PS X (.For tg iter body [] pos) (tFor wi g tb):=by
 intro pins s σ H D I h
 refine wpAny_For (thn (hi pins s σ H _ I h) fun v s1 h1=>thn h1 fun itv s2 h2=>?_) hs
 obtain ⟨it,fp,tn,J,H2,e,I2,T,st2,f2,W,⟨m0,w0⟩,turn⟩:=h2
 subst e
 -- what stays true of the iterator's objects through the loop
 have stat:∀ {H':Hp},(∀ b∈fp,H' b=none)→∀ b∈fp,FpOk X pins H' b:=fun hn b hb=>⟨hn b hb,(f2 b hb).2⟩
 refine codeAny_forLoop_any (fun n s'=>∃ i σ' H',Inv X pins σ' H' s'∧tn i s'.heap∧(∀ b∈fp,H' b=none)∧W i n σ' H') ?_ m0 ⟨0,σ,H2,I2,st2,fun b hb=>(f2 b hb).1,w0⟩
 rintro n s3 ⟨i,σ3,H3,I3,st3,fr3,w3⟩
 rcases turn i n σ3 H3 w3 with ⟨stop,qn⟩ | ⟨go,N,hN,step⟩
 · refine wpAny_passesOwn hp (thn (T.done X rfl rfl rfl hc i pins s3 σ3 H3 X.xe I3 (stat fr3) st3 stop) fun r s4 ⟨hr,I4⟩=>?_)
   subst hr
   exact wpAny_execs_nil ⟨σ3,H3,I4,qn⟩
 · refine wpAny_passesOwn hp (thn (T.item X rfl rfl rfl hc i pins s3 σ3 H3 X.xe I3 (stat fr3) st3 go) fun r s4 ⟨u,hr,h4⟩=>?_)
   subst hr
   refine wpAny_passesOwn hp (thn h4 fun _ s5 ⟨x,H5,I5,r5,y5,st5,fr5⟩=>?_)
   have I5':=I5.pinned (stat fr5) (T.obj _ _ st5)
   refine wpAny_passesOwn hp (thn (hg _ s5 σ3 H5 x u _ I5' r5 (step x H5 y5)) fun _ s6 ⟨σ6,H6,I6,q6⟩=>?_)
   refine wpAny_passesOwn hp (thn (hb _ s6 σ6 H6 _ I6 q6) fun f s7 q7=>?_)
   have again:∀ {σ7:St} {H7:Hp},Inv X (pins ++ aD6 fp s5.heap) σ7 H7 s7→N σ7 H7→∃ m,m < n∧∃ i σ' H',Inv X pins σ' H' s7∧tn i s7.heap∧(∀ b∈fp,H' b=none)∧W i m σ' H':=fun {σ7 H7} I7 n7=>by
    obtain ⟨m',hm,w7⟩:=hN σ7 H7 n7
    refine ⟨m',hm,i + 1,σ7,H7,I7.unpinned,T.keep _ _ _ st5 fun b hb o e=>(I7.pin (b,o) (List.mem_append_right _ (List.mem_append_right _ (al0 hb e)))).1,fun b hb=>?_,w7⟩
    obtain ⟨o,e,d⟩:=T.obj _ _ st5 b hb
    exact (I7.pin (b,o) (List.mem_append_right _ (List.mem_append_right _ (al0 hb e)))).2.1
   cases f with
   | next=>obtain ⟨σ7,H7,I7,n7⟩:=q7; exact again I7 n7
   | cont=>obtain ⟨σ7,H7,I7,n7⟩:=q7; exact again I7 n7
   | brk=>obtain ⟨σ7,H7,I7,q7⟩:=q7; exact ⟨σ7,H7,I7.unpinned,q7⟩
   | ret v=>obtain ⟨x7,σ7,H7,I7,r7,q7⟩:=q7; exact ⟨x7,σ7,H7,I7.unpinned,r7,q7⟩
end
noncomputable abbrev R2:=V→V→Hp→VK→Prop
noncomputable def OpR (X:Cx) (f:Value→Value→Sem Value) (r:R2):Prop :=
 ∀ (pins:List (Addr×Obj)) (s:Shared) (σ:St) (H:Hp) (x y:V) (v u:Value) (Q:VK),Inv X pins σ H s→RelV x v→RelV y u→r x y H Q →
  wpAny (model X.prog X.w) X.A (f v u) (EP X pins σ Q) X.xe s
noncomputable def UnR (X:Cx) (f:Value→Sem Value) (r:V→Hp→VK→Prop):Prop :=
 ∀ (pins:List (Addr×Obj)) (s:Shared) (σ:St) (H:Hp) (x:V) (v:Value) (Q:VK),Inv X pins σ H s→RelV x v→r x H Q →
  wpAny (model X.prog X.w) X.A (f v) (EP X pins σ Q) X.xe s
noncomputable def ak7 (X:Cx) (f:Value) (r:List V→Hp→VK→Prop):Prop :=
 ∀ (pins:List (Addr×Obj)) (s:Shared) (σ:St) (H:Hp) (xs:List V) (us:List Value) (Q:VK),Inv X pins σ H s→Vals xs us→r xs H Q →
  wpAny (model X.prog X.w) X.A (call f us) (EP X pins σ Q) X.xe s
noncomputable def tOp (r:R2) (ta tb:TE):TE:=fun σ H Q=>ta σ H fun x H1=>tb σ H1 fun y H2=>r x y H2 Q
noncomputable def tUn (r:V→Hp→VK→Prop) (ta:TE):TE:=fun σ H Q=>ta σ H fun x H1=>r x H1 Q
noncomputable def rI (C:Int→Int→Prop) (g:Int→Int→V):R2:=fun x y H Q=>∃ i j,x= .int i∧y= .int j∧C i j∧Q (g i j) H
noncomputable def rI0 (g:Int→Int→V):R2:=fun x y H Q=>∃ i j,x= .int i∧y= .int j∧Q (g i j) H
noncomputable def rU (g:Int→V):V→Hp→VK→Prop:=fun x H Q=>∃ i,x= .int i∧Q (g i) H
section
variable {X:Cx} {a b c:Expr} {ta tb tc:TE} {pos:Pos}
theorem binT (ha:PE X a ta) (hb:PE X b tb) {pins:List (Addr×Obj)} {s:Shared} {σ:St} {H:Hp} {R:V→V→Hp→Prop} (I:Inv X pins σ H s)
 (h:ta σ H fun x H1=>tb σ H1 fun y H2=>R x y H2) {Q:Value→Shared→Prop} {f:Value→Value→Sem Value}
 (hf:∀ v u s2 x y H2,Inv X pins σ H2 s2→RelV x v→RelV y u→R x y H2→wpAny (model X.prog X.w) X.A (f v u) Q X.xe s2) :
 wpAny (model X.prog X.w) X.A (eval a X.env) (fun v s₁=>wpAny (model X.prog X.w) X.A (eval b X.env) (fun u s₂=>wpAny (model X.prog X.w) X.A (f v u) Q X.xe s₂) X.xe s₁) X.xe s:=by
 refine thn (ha pins s σ H _ I h) fun v s1 ⟨x,H1,I1,r1,q1⟩=>?_
 refine thn (hb pins s1 σ H1 _ I1 q1) fun u s2 ⟨y,H2,I2,r2,q2⟩=>?_
 exact hf v u s2 x y H2 I2 r1 r2 q2
theorem ac2 {op:Operator} {r:R2} (ho:OpR X (binaryOp op) r) (ha:PE X a ta) (hb:PE X b tb):PE X (.BinOp a op b pos) (tOp r ta tb):=by
 intro pins s σ H Q I h
 exact wpAny_BinOp (binT ha hb I h fun v u s2 x y H2 I2 rx ry q=>ho pins s2 σ H2 x y v u Q I2 rx ry q)
theorem pe_un {op:UnaryOp} {r:V→Hp→VK→Prop} (ho:UnR X (unaryOp op) r) (ha:PE X a ta):PE X (.UnaryOp op a pos) (tUn r ta):=by
 intro pins s σ H Q I h
 exact UnaryOp_ (thn (ha pins s σ H _ I h) fun v s1 ⟨x,H1,I1,r1,q1⟩=>ho pins s1 σ H1 x v Q I1 r1 q1)
theorem opI {f:Value→Value→Sem Value} {C:Int→Int→Prop} {g:Int→Int→Int}
 (rule:∀ (i j:Int) (t u:Tok) (s:Shared) (Q:Value→Shared→Prop) (E:Value→Shared→Prop),C i j→Q (.int (g i j) s.toks) { s with toks:=s.toks + 1 }→wpAny (model X.prog X.w) X.A (f (.int i t) (.int j u)) Q E s) :
 OpR X f (rI C fun i j=> .int (g i j)):=by
 intro pins s σ H x y v u Q I rx ry h
 obtain ⟨i,j,rfl,rfl,hc,q⟩:=h
 obtain ⟨t,rfl⟩:=rx
 obtain ⟨t',rfl⟩:=ry
 exact rule i j t t' s _ _ hc ⟨.int (g i j),H,I.tok _,⟨_,rfl⟩,q⟩
theorem opI0 {f:Value→Value→Sem Value} {g:Int→Int→Int}
 (rule:∀ (i j:Int) (t u:Tok) (s:Shared) (Q:Value→Shared→Prop) (E:Value→Shared→Prop),Q (.int (g i j) s.toks) { s with toks:=s.toks + 1 }→wpAny (model X.prog X.w) X.A (f (.int i t) (.int j u)) Q E s) :
 OpR X f (rI0 fun i j=> .int (g i j)):=by
 intro pins s σ H x y v u Q I rx ry h
 obtain ⟨i,j,rfl,rfl,q⟩:=h
 obtain ⟨t,rfl⟩:=rx
 obtain ⟨t',rfl⟩:=ry
 exact rule i j t t' s _ _ ⟨.int (g i j),H,I.tok _,⟨_,rfl⟩,q⟩
theorem opB0 {f:Value→Value→Sem Value} {g:Int→Int→Bool}
 (rule:∀ (i j:Int) (t u:Tok) (s:Shared) (Q:Value→Shared→Prop) (E:Value→Shared→Prop),Q (.bool (g i j)) s→wpAny (model X.prog X.w) X.A (f (.int i t) (.int j u)) Q E s) :
 OpR X f (rI0 fun i j=> .bl (g i j)):=by
 intro pins s σ H x y v u Q I rx ry h
 obtain ⟨i,j,rfl,rfl,q⟩:=h
 obtain ⟨t,rfl⟩:=rx
 obtain ⟨t',rfl⟩:=ry
 exact rule i j t t' s _ _ ⟨.bl (g i j),H,I,rfl,q⟩
noncomputable def CDiv (i j:Int):Prop:=0 < j∧j < 1073741824
noncomputable def CPow (i j:Int):Prop:=0≤j∧j≤1000000∧i.natAbs < 2 ^ 64
noncomputable def CMul (i j:Int):Prop:=(-(2 ^ 64) < i∧i < 2 ^ 64)∨(-(2 ^ 64) < j∧j < 2 ^ 64)
theorem CMul.ok {i j:Int} (h:CMul i j):IntMulOk i j:=by
 rcases h with ⟨h1,h2⟩ | ⟨h1,h2⟩
 · exact .of_left (intBits_le_64 h1 h2)
 · exact .of_right (intBits_le_64 h1 h2)
theorem ax7:OpR X (binaryOp .Add) (rI0 fun i j=> .int (i + j)):=opI0 fun _ _ _ _ _ _ _ q=>add_int q
theorem ax6:OpR X (binaryOp .Sub) (rI0 fun i j=> .int (i - j)):=opI0 fun _ _ _ _ _ _ _ q=>sub_int q
theorem bL1:OpR X (binaryOp .Mult) (rI CMul fun i j=> .int (i * j)):=opI fun _ _ _ _ _ _ _ hc q=>mul_int q hc.ok
theorem ah1:OpR X (binaryOp .FloorDiv) (rI CDiv fun i j=> .int (i / j)):=opI fun i j _ _ _ _ _ hc q=>by
 have h1:(0:Int) < j:=hc.1
 have h2:j < 1073741824:=hc.2
 exact floordiv_int (by omega) (by rw [Int.fdiv_eq_ediv_of_nonneg i (by omega)]; exact q) (.inl (PyProof.noPylong_small (by omega)))
theorem ag3:OpR X (binaryOp .Mod) (rI (fun _ j=>0 < j) fun i j=> .int (i % j)):=opI fun i j _ _ _ _ _ hc q=>by
 have h1:(0:Int) < j:=hc
 exact mod_int' (by omega) (by rw [Int.fmod_eq_emod_of_nonneg i (by omega)]; exact q)
theorem bq5:OpR X (binaryOp .Pow) (rI CPow fun i j=> .int (i ^ j.toNat)):=opI fun _ _ _ _ _ _ _ hc q=>pow_int_small hc.1 hc.2.1 hc.2.2 q
theorem unI {f:Value→Sem Value} {g:Int→Int}
 (rule:∀ (i:Int) (t:Tok) (s:Shared) (Q:Value→Shared→Prop) (E:Value→Shared→Prop),Q (.int (g i) s.toks) { s with toks:=s.toks + 1 }→wpAny (model X.prog X.w) X.A (f (.int i t)) Q E s) :
 UnR X f (rU fun i=> .int (g i)):=by
 intro pins s σ H x v Q I rx h
 obtain ⟨i,rfl,q⟩:=h
 obtain ⟨t,rfl⟩:=rx
 exact rule i t s _ _ ⟨.int (g i),H,I.tok _,⟨_,rfl⟩,q⟩
theorem bH1:UnR X (unaryOp .USub) (rU fun i=> .int (-i)):=unI fun _ _ _ _ _ q=>neg_int q
end
noncomputable def scal:V→V→Bool
 | .non,.non=>true | .non,.int _=>true | .int _,.non=>true | .non,.bl _=>true | .bl _,.non=>true | .non,.str _=>true | .str _,.non=>true
 | .int _,.int _=>true | .bl _,.bl _=>true | .str _,.str _=>true | .byt _,.byt _=>true
 | .int _,.str _=>true | .str _,.int _=>true | .bl _,.str _=>true | .str _,.bl _=>true
 | _,_=>false
noncomputable def rEq:R2:=fun x y H Q=>scal x y=true∧Q (.bl (decide (x=y))) H
noncomputable def rNe:R2:=fun x y H Q=>scal x y=true∧Q (.bl (!decide (x=y))) H
theorem bd8 {i j:Int}:decide (V.int i=V.int j)=(i == j):=by
 rw [Bool.eq_iff_iff]
 simp
theorem br9 {i j:Bool}:decide (V.bl i=V.bl j)=(i == j):=by
 rw [Bool.eq_iff_iff]
 simp
theorem bd7 {i j:Str}:decide (V.str i=V.str j)=(i == j):=by
 rw [Bool.eq_iff_iff]
 simp
theorem bd9 {i j:Array UInt8}:decide (V.byt i=V.byt j)=(i.toList == j.toList):=by
 rw [Bool.eq_iff_iff]
 cases i
 cases j
 simp
section
variable {X:Cx} {a b c:Expr} {ta tb tc:TE} {pos:Pos}
theorem ab8 {pins:List (Addr×Obj)} {σ:St} {H:Hp} {s:Shared} {Q:VK} {k k':Bool} (I:Inv X pins σ H s) (q:Q (.bl k) H) (e:k=k'):EP X pins σ Q (.bool k') s:=by
 subst e
 exact ⟨.bl k,H,I,rfl,q⟩
theorem aK0:OpR X (compareOp .Eq) rEq:=by
 intro pins s σ H x y v u Q I rx ry h
 obtain ⟨hs,q⟩:=h
 cases x with
 | non =>
   cases rx
   cases y with
   | non=>cases ry; exact PySem.EqNone.eq_none_none (ab8 I q (by simp))
   | bl j=>cases ry; exact PySem.EqNone.eq_none_bool (ab8 I q (by simp))
   | int j=>obtain ⟨t',rfl⟩:=ry; exact PySem.EqNone.eq_none_int (ab8 I q (by simp))
   | str j=>obtain ⟨t',rfl⟩:=ry; exact PySem.EqNone.eq_none_str (ab8 I q (by simp))
   | _=>exact absurd (show false=true from hs) Bool.false_ne_true
 | bl i =>
   cases rx
   cases y with
   | non=>cases ry; exact PySem.EqNone.eq_bool_none (ab8 I q (by simp))
   | bl j=>cases ry; exact eq_bool (ab8 I q br9)
   | str j=>obtain ⟨t',rfl⟩:=ry; exact PySem.EqMixed.eq_bool_str (ab8 I q (by simp))
   | _=>exact absurd (show false=true from hs) Bool.false_ne_true
 | int i =>
   obtain ⟨t,rfl⟩:=rx
   cases y with
   | non=>cases ry; exact PySem.EqNone.eq_int_none (ab8 I q (by simp))
   | int j=>obtain ⟨t',rfl⟩:=ry; exact eq_int (ab8 I q bd8)
   | str j=>obtain ⟨t',rfl⟩:=ry; exact PySem.EqMixed.eq_int_str (ab8 I q (by simp))
   | _=>exact absurd (show false=true from hs) Bool.false_ne_true
 | str i =>
   obtain ⟨t,rfl⟩:=rx
   cases y with
   | non=>cases ry; exact PySem.EqNone.eq_str_none (ab8 I q (by simp))
   | bl j=>cases ry; exact PySem.EqMixed.eq_str_bool (ab8 I q (by simp))
   | int j=>obtain ⟨t',rfl⟩:=ry; exact PySem.EqMixed.eq_str_int (ab8 I q (by simp))
   | str j=>obtain ⟨t',rfl⟩:=ry; exact eq_str (ab8 I q bd7)
   | _=>exact absurd (show false=true from hs) Bool.false_ne_true
 | byt i =>
   obtain ⟨t,rfl⟩:=rx
   cases y with
   | byt j=>obtain ⟨t',rfl⟩:=ry; exact PySem.W.eq_bytes (ab8 I q bd9)
   | _=>exact absurd (show false=true from hs) Bool.false_ne_true
 | _=>cases y <;> exact absurd (show false=true from hs) Bool.false_ne_true
theorem aJ9:OpR X (compareOp .NotEq) rNe:=by
 intro pins s σ H x y v u Q I rx ry h
 obtain ⟨hs,q⟩:=h
 cases x with
 | non =>
   cases rx
   cases y with
   | non=>cases ry; exact PySem.EqNone.ne_none_none (ab8 I q (by simp))
   | bl j=>cases ry; exact PySem.EqNone.ne_none_bool (ab8 I q (by simp))
   | int j=>obtain ⟨t',rfl⟩:=ry; exact PySem.EqNone.ne_none_int (ab8 I q (by simp))
   | str j=>obtain ⟨t',rfl⟩:=ry; exact PySem.EqNone.ne_none_str (ab8 I q (by simp))
   | _=>exact absurd (show false=true from hs) Bool.false_ne_true
 | bl i =>
   cases rx
   cases y with
   | non=>cases ry; exact PySem.EqNone.ne_bool_none (ab8 I q (by simp))
   | bl j=>cases ry; exact ne_bool (ab8 I q (congrArg not br9))
   | str j=>obtain ⟨t',rfl⟩:=ry; exact PySem.EqMixed.ne_bool_str (ab8 I q (by simp))
   | _=>exact absurd (show false=true from hs) Bool.false_ne_true
 | int i =>
   obtain ⟨t,rfl⟩:=rx
   cases y with
   | non=>cases ry; exact PySem.EqNone.ne_int_none (ab8 I q (by simp))
   | int j=>obtain ⟨t',rfl⟩:=ry; exact ne_int (ab8 I q (congrArg not bd8))
   | str j=>obtain ⟨t',rfl⟩:=ry; exact PySem.EqMixed.ne_int_str (ab8 I q (by simp))
   | _=>exact absurd (show false=true from hs) Bool.false_ne_true
 | str i =>
   obtain ⟨t,rfl⟩:=rx
   cases y with
   | non=>cases ry; exact PySem.EqNone.ne_str_none (ab8 I q (by simp))
   | bl j=>cases ry; exact PySem.EqMixed.ne_str_bool (ab8 I q (by simp))
   | int j=>obtain ⟨t',rfl⟩:=ry; exact PySem.EqMixed.ne_str_int (ab8 I q (by simp))
   | str j=>obtain ⟨t',rfl⟩:=ry; exact ne_str (ab8 I q (congrArg not bd7))
   | _=>exact absurd (show false=true from hs) Bool.false_ne_true
 | byt i =>
   obtain ⟨t,rfl⟩:=rx
   cases y with
   | byt j=>obtain ⟨t',rfl⟩:=ry; exact PySem.W.ne_bytes (ab8 I q (congrArg not bd9))
   | _=>exact absurd (show false=true from hs) Bool.false_ne_true
 | _=>cases y <;> exact absurd (show false=true from hs) Bool.false_ne_true
theorem bk2:OpR X (compareOp .Lt) (rI0 fun i j=> .bl (decide (i < j))):=opB0 fun _ _ _ _ _ _ _ q=>lt_int q
theorem bA4:OpR X (compareOp .Gt) (rI0 fun i j=> .bl (decide (j < i))):=opB0 fun _ _ _ _ _ _ _ q=>gt_int q
theorem op_ge:OpR X (compareOp .GtE) (rI0 fun i j=> .bl (decide (j≤i))):=opB0 fun _ _ _ _ _ _ _ q=>ge_int q
theorem bL2:OpR X (compareOp .Is) (fun x y H Q=>y= .non∧Q (.bl (decide (x= .non))) H):=by
 intro pins s σ H x y v u Q I rx ry h
 obtain ⟨rfl,q⟩:=h
 cases ry
 refine is_none_gen (ab8 I q ?_)
 cases x <;> first
  | (cases rx; rfl)
  | (obtain ⟨t,rfl⟩:=rx; rfl)
theorem ac9 (b:Expr) {op:CmpOp} (h:op≠ .In:=by decide) (h2:op≠ .NotIn:=by decide):behindInMarks op b=false:=by
 have e1:(op == CmpOp.In)=false:=by cases op <;> first | rfl | exact absurd rfl h
 have e2:(op == CmpOp.NotIn)=false:=by cases op <;> first | rfl | exact absurd rfl h2
 cases b <;> simp [behindInMarks,e1,e2]
theorem bz7 {op:CmpOp} {r:R2} (ho:OpR X (compareOp op) r) (ha:PE X a ta) (hb:PE X b tb) (hm:behindInMarks op b=false):PE X (.Compare a [op] [b] pos) (tOp r ta tb):=by
 intro pins s σ H Q I h
 exact wpAny_Compare1 (binT ha hb I h fun v u s2 x y H2 I2 rx ry q=>ho pins s2 σ H2 x y v u Q I2 rx ry q) hm
noncomputable def bH3 (t:TE):TT:=fun σ H Q=>t σ H fun x H'=>∃ k,x= .bl k∧Q k H'
theorem ab7 {op:CmpOp} {r:R2} (ho:OpR X (compareOp op) r) (ha:PE X a ta) (hb:PE X b tb) (hm:behindInMarks op b=false):PT X (.Compare a [op] [b] pos) (bH3 (tOp r ta tb)):=by
 intro pins s σ H Q I h
 refine wpAny_isTrue_Compare1 (thn (ha pins s σ H _ I h) fun v s1 ⟨x,H1,I1,r1,q1⟩=>thn (hb pins s1 σ H1 _ I1 q1) fun u s2 ⟨y,H2,I2,r2,q2⟩ =>
  thn (ho pins s2 σ H2 x y v u _ I2 r1 r2 q2) fun c s3 ⟨z,H3,I3,r3,k,e,q3⟩=>?_) hm
 subst e
 cases r3
 exact wpAny_truthy_bool ⟨H3,I3,q3⟩
theorem bb0:(sizeLine:Nat) < 2 ^ 63:=by rw [sizeLine_eq]; decide
theorem bs2 {x:V} {us:List Value} (r:Vals [x] us):∃ u,us=[u]∧RelV x u:=by
 cases r with
 | cons r1 r2=>cases r2; exact ⟨_,rfl,r1⟩
theorem vals2 {x y:V} {us:List Value} (r:Vals [x,y] us):∃ u w',us=[u,w']∧RelV x u∧RelV y w':=by
 cases r with
 | cons r1 r2 =>
   cases r2 with
   | cons r3 r4=>cases r4; exact ⟨_,_,rfl,r1,r3⟩
end
structure ObjM (h:Heap) (x dx C:Addr) (mA:Str→Option Value):Prop where
 obj:h.get? x=some (PySem.W.instObj C dx)
 ns:h.Ns1 dx mA
 ne:dx≠x
theorem ba8 {h:Heap} {dx:Addr} {mA:Str→Option Value} (n:h.Ns1 dx mA):∃ od,h.get? dx=some od∧∀ name,PySem.W.lookIn name od=some (mA name):=by
 obtain ⟨o,es,ep,ho,hd,hk,_,hm⟩:=n
 refine ⟨o,ho,fun name=>?_⟩
 have e:=hm name
 unfold nsFind findBy at e
 rw [← Array.find?_toList] at e
 unfold PySem.W.lookIn
 rw [hd]
 dsimp only
 split
 · rename_i y q
   rw [q] at e
   exact congrArg some e
 · rename_i q
   rw [q] at e
   have a:es.toList.any (·.refKey)=false:=by
    rw [List.any_eq_false]
    intro y hy
    obtain ⟨z,t,hkey⟩:=hk y (Array.mem_toList_iff.mp hy)
    simp [DictEntry.refKey,hkey]
   have a':¬ es.toList.any (·.refKey)=true:=by rw [a]; exact Bool.false_ne_true
   rw [if_neg a']
   exact congrArg some e
theorem ObjM.look {h:Heap} {x dx C:Addr} {mA:Str→Option Value} (I:ObjM h x dx C mA):∃ od,PySem.W.InstAt h x (PySem.W.instObj C dx) C (some od)∧∀ name,PySem.W.lookIn name od=some (mA name) :=
 let ⟨od,ho,hl⟩:=ba8 I.ns
 ⟨od,⟨I.obj,rfl,rfl,ho⟩,hl⟩
section
variable {prog:Program} {w:World} {A:Around} {E:Value→Shared→Prop} {s:Shared} {K:PySem.W.Frag} {x dx C f:Addr} {mA:Str→Option Value} {name:Str} {v:Value}
theorem bD9 {expr:Bool} {Q:Value→Shared→Prop} (X:K.In s.heap) (I:ObjM s.heap x dx C mA) (hg:PySem.W.plainGet K C name=true) (hh:PySem.W.hasDictIn K C=true)
 (ha:PySem.W.findIn K (.ref C) name=some none) (hv:mA name=some v) (hv':PySem.W.handedIn v=true) (h:Q v { s with toks:=s.toks + 1 }) :
 wpAny (model prog w) A (getAttr (.ref x) name expr) Q E s:=by
 obtain ⟨od,J,hl⟩:=I.look
 exact PySem.W.get_value X J (PySem.W.plainGet_of hg).1 (PySem.W.findObj_own hh ha rfl (by rw [hl,hv])) hv' h
theorem bm0 {pl:Sem Bool} {Q:Value×List Value→Shared→Prop} (X:K.In s.heap) (I:ObjM s.heap x dx C mA) (hg:PySem.W.plainGet K C name=true)
 (hf:PySem.W.findIn K (.ref C) name=some (some (.ref f))) (ht:PySem.W.isFn K (.ref f)=true) (hv:mA name=none) (h:Q (.ref f,[.ref x]) s) :
 wpAny (model prog w) A (getMethod (.ref x) name pl) Q E s:=by
 obtain ⟨od,J,hl⟩:=I.look
 exact PySem.W.method_fn X J (PySem.W.plainGet_of hg).1 (PySem.W.plainGet_of hg).2 hf (beq_iff_eq.mp ht) (by show (PySem.W.lookIn name od).map (·.isSome)=some false; rw [hl,hv]; rfl) h
theorem by5 {ns:List Str} {Q:Unit→Shared→Prop} (X:K.In s.heap) (I:ObjM s.heap x dx C mA)
 (hs:PySem.W.findIn K (.ref C) "__setattr__" = some (some (.builtin "object.__setattr__"))) (hp:PySem.W.plainOver K C=true) (ht:PySem.W.takerIn K C name=some none) (hh:PySem.W.hasDictIn K C=true)
 (hw:PySem.Within mA ns) (hsz:ns.length≤sizeLine)
 (h:∀ h',ObjM h' x dx C (fun y=>if y=name then some v else mA y)→Heap.SameBut dx s.heap h'→Q () { s with heap:=h',toks:=s.toks + 2 }) :
 wpAny (model prog w) A (setAttr (.ref x) name v) Q E s:=by
 obtain ⟨od,J,hl⟩:=I.look
 refine PySem.W.set_plain X J hs (PySem.W.osa_open (s:={ s with toks:=s.toks + 1 }) (r:=none) X J hp ht fun b=>?_)
 obtain ⟨cd,hc,hd'⟩:=PySem.W.any_some hh
 have hx:s.heap.get? x=some ⟨.ref C,some dx,.plain,#[]⟩:=I.obj
 refine wpAny_bind (wpAny_pure (wpAny_bind (wpAny_bind (wpAny_loadPart hx (wpAny_bind (PySem.W.Looks.here (s:={ s with toks:=s.toks + 1 }) (PySem.W.looks_clsIn X hc) ?_))))))
 rw [hd']
 refine wpAny_pure (a:=some dx) (wpAny_bind (wpAny_pure (wpAny_bind ?_)))
 refine wpAny_nsSet1 (s:={ s with toks:=s.toks + 1 }) I.ns fun h' hn2 hs2=>?_
 obtain ⟨oD,esD,epD,hoD,hdD,hcD⟩:=hn2.count (PySem.Within.cons name v hw)
 refine wpAny_bind (wpAny_lookBehind hoD (by rw [hdD]; exact pastItsLine_dict (Nat.le_trans hcD (by rw [List.length_cons]; omega))) ?_)
 exact wpAny_pure (h _ ⟨(hs2.2 _ (Ne.symm I.ne)).trans I.obj,hn2,I.ne⟩ hs2)
theorem bl0 {R:Result→Shared→Prop} {vs:List Value} {kw:List (Str×Value)} (X:K.In s.heap) (hm:PySem.W.makesIn K C=true)
 (hi:PySem.W.findIn K (.ref C) "__init__" = some (some (.ref f))) (hf:PySem.W.typeIn K (.ref f)=some (.type "function"))
 (h:codeAny (model prog w) (A.under (.builtin "type.__call__" ⟨.ref C :: vs,kw⟩)) (.call (.ref f) ⟨.ref (s.heap.objs.size + 1) :: vs,kw⟩) (PySem.W.InitBack (s.heap.objs.size + 1) R)
   { s with heap:=(s.heap.push PySem.W.emptyDict).push (PySem.W.instObj C s.heap.objs.size) }) :
 codeAny (model prog w) A (.call (.ref C) ⟨vs,kw⟩) R s:=by
 obtain ⟨hh,g,d,t,os⟩:=s
 exact PySem.W.make_core (PySem.W.makes_of X hm) (PySem.W.looks_findIn X hi) (fun self=>PySem.W.bind_fn X self hf) (.inl rfl) h
end
noncomputable def putF (f:Str) (v:V):List (Str×V)→List (Str×V)
 | []=>[(f,v)]
 | (g,x) :: r=>if g=f then (g,v) :: r else (g,x) :: putF f v r
theorem at3 (f g:Str) (v:V):∀ fs:List (Str×V),(putF f v fs).lookup g=if g=f then some v else fs.lookup g
 | []=>by
   show List.lookup g [(f,v)]=_
   by_cases h:g=f
   · have hb:(g == f)=true:=beq_iff_eq.mpr h
     simp only [List.lookup,hb,if_pos h]
   · have hb:(g == f)=false:=beq_eq_false_iff_ne.mpr h
     simp only [List.lookup,hb,if_neg h]
 | (k,x) :: r=>by
   have ih:=at3 f g v r
   rw [show putF f v ((k,x) :: r)=(if k=f then (k,v) :: r else (k,x) :: putF f v r) from rfl]
   by_cases hk:k=f
   · rw [if_pos hk]
     by_cases h:g=k
     · have hb:(g == k)=true:=beq_iff_eq.mpr h
       simp only [List.lookup,hb,if_pos (h.trans hk)]
     · have hb:(g == k)=false:=beq_eq_false_iff_ne.mpr h
       simp only [List.lookup,hb,if_neg (fun e:g=f=>h (e.trans hk.symm))]
   · rw [if_neg hk]
     by_cases h:g=k
     · have hb:(g == k)=true:=beq_iff_eq.mpr h
       simp only [List.lookup,hb,if_neg (fun e:g=f=>hk (h.symm.trans e))]
     · have hb:(g == k)=false:=beq_eq_false_iff_ne.mpr h
       simp only [List.lookup,hb]
       exact ih
theorem at7 (f:Str) (v:V):∀ fs:List (Str×V),f∈(putF f v fs).map (·.1)∧∀ g,g∈fs.map (·.1)→g∈(putF f v fs).map (·.1)
 | []=>⟨by simp [putF],fun g h=>by simp at h⟩
 | (k,x) :: r=>by
   obtain ⟨i1,i2⟩:=at7 f v r
   rw [show putF f v ((k,x) :: r)=(if k=f then (k,v) :: r else (k,x) :: putF f v r) from rfl]
   by_cases hk:k=f
   · rw [if_pos hk]
     subst hk
     exact ⟨by simp,fun g h=>by simpa using h⟩
   · rw [if_neg hk]
     refine ⟨?_,fun g h=>?_⟩
     · rw [List.map_cons]
       exact List.mem_cons_of_mem _ i1
     · rw [List.map_cons] at h ⊢
       rcases List.mem_cons.mp h with e | e
       · exact List.mem_cons.mpr (.inl e)
       · exact List.mem_cons_of_mem _ (i2 g e)
theorem at6 (f:Str) (v:V):∀ fs:List (Str×V),(putF f v fs).length≤fs.length + 1
 | []=>by simp [putF]
 | (k,x) :: r=>by
   have ih:=at6 f v r
   rw [show putF f v ((k,x) :: r)=(if k=f then (k,v) :: r else (k,x) :: putF f v r) from rfl]
   by_cases hk:k=f
   · rw [if_pos hk,List.length_cons,List.length_cons]; omega
   · rw [if_neg hk,List.length_cons,List.length_cons]; omega
theorem RelO.some_of {v:V} {o:Option Value} (r:RelO (some v) o):∃ u,o=some u∧RelV v u:=by
 cases o with
 | none=>exact (show False from r).elim
 | some u=>exact ⟨u,rfl,r⟩
theorem RelO.none_of {o:Option Value} (r:RelO none o):o=none:=by
 cases o with
 | none=>rfl
 | some u=>exact (show False from r).elim
theorem bc7 {v:V} {u:Value} (r:RelV v u):PySem.W.handedIn u=true:=by
 cases v with
 | non=>cases (show u=Value.none from r); rfl
 | bl b=>cases (show u=Value.bool b from r); rfl
 | int i=>obtain ⟨t,e⟩:=(show ∃ t,u=Value.int i t from r); cases e; rfl
 | str x=>obtain ⟨t,e⟩:=(show ∃ t,u=Value.str x t from r); cases e; rfl
 | byt b=>obtain ⟨t,e⟩:=(show ∃ t,u=Value.bytes b t from r); cases e; rfl
 | flt b=>obtain ⟨t,e⟩:=(show ∃ t,u=Value.float b t from r); cases e; rfl
 | ref a=>cases (show u=Value.ref a from r); rfl
 | ty n=>cases (show u=Value.type n from r); rfl
section
variable {P:Program} {w:World} {H H':Hp} {h h':Heap} {a C dx:Addr} {fs fs':List (Str×V)}
theorem aA7 (hok:HOk P w H h) (e:H a=some (.ins C dx fs)):∃ mA,ObjM h a dx C mA∧(∀ f,RelO (fs.lookup f) (mA f))∧PySem.Within mA (fs.map (·.1))∧fs.length≤1000∧H dx=some (.own a):=by
 obtain ⟨d,z,ne,ob,mA,n,r,q⟩:=(show ObjOk P w H h a (.ins C dx fs) from hok a _ e)
 exact ⟨mA,⟨ob,n,ne⟩,r,q,z,d⟩
end
structure Cls (K:PySem.W.Frag) (C:Addr):Prop where
 pg:PySem.W.plainGet K C Str.empty=true
 hd:PySem.W.hasDictIn K C=true
 po:PySem.W.plainOver K C=true
 sa:PySem.W.findIn K (.ref C) "__setattr__" = some (some (.builtin "object.__setattr__"))
theorem Cls.get {K:PySem.W.Frag} {C:Addr} (c:Cls K C) (f:Str):PySem.W.plainGet K C f=true:=c.pg
noncomputable def NoAttr (K:PySem.W.Frag) (C:Addr) (f:Str):Prop:=PySem.W.findIn K (.ref C) f=some none
theorem NoAttr.taker {K:PySem.W.Frag} {C:Addr} {f:Str} (n:NoAttr K C f):PySem.W.takerIn K C f=some none:=by
 unfold PySem.W.takerIn
 rw [show PySem.W.findIn K (.ref C) f=some none from n]
 rfl
structure Meth (K:PySem.W.Frag) (C:Addr) (m:Str) (f:Addr):Prop where
 at_:PySem.W.findIn K (.ref C) m=some (some (.ref f))
 fn:PySem.W.isFn K (.ref f)=true
 kp:PySem.W.keepIn K (.ref f)=true
section
variable {X:Cx} {pins:List (Addr×Obj)} {σ:St} {H:Hp} {s:Shared} {a C dx:Addr} {fs:List (Str×V)} {f:Str} {v:V} {A:Around} {E:Value→Shared→Prop}
theorem aT5 {b:Bool} {Q:Value→Shared→Prop} (I:Inv X pins σ H s) (e:H a=some (.ins C dx fs)) (c:Cls X.K C) (n:NoAttr X.K C f) (l:fs.lookup f=some v)
 (h:∀ u s',Inv X pins σ H s'→RelV v u→Q u s'):wpAny (model X.prog X.w) A (getAttr (.ref a) f b) Q E s:=by
 obtain ⟨mA,O,r,_,_,_⟩:=aA7 I.hok e
 obtain ⟨u,hu,ru⟩:=RelO.some_of (v:=v) (o:=mA f) (by rw [← l]; exact r f)
 exact bD9 I.kIn O (c.get f) c.hd n hu (bc7 ru) (h u _ (I.tok _) ru)
theorem ay3 {m:Str} {g:Addr} {pl:Sem Bool} {Q:Value×List Value→Shared→Prop} (I:Inv X pins σ H s) (e:H a=some (.ins C dx fs)) (c:Cls X.K C) (k:Meth X.K C m g) (l:fs.lookup m=none)
 (h:Q (.ref g,[.ref a]) s):wpAny (model X.prog X.w) A (getMethod (.ref a) m pl) Q E s:=by
 obtain ⟨mA,O,r,_,_,_⟩:=aA7 I.hok e
 have hn:mA m=none:=RelO.none_of (by rw [← l]; exact r m)
 exact bm0 I.kIn O (c.get m) k.at_ k.fn hn h
theorem aS0 {y:V} {u:Value} {Q:Unit→Shared→Prop} (I:Inv X pins σ H s) (e:H a=some (.ins C dx fs)) (c:Cls X.K C) (n:NoAttr X.K C f) (hl:fs.length < 1000) (ry:RelV y u)
 (h:∀ s',Inv X pins σ (upd H a (.ins C dx (putF f y fs))) s'→Q () s'):wpAny (model X.prog X.w) A (setAttr (.ref a) f u) Q E s:=by
 obtain ⟨mA,O,r,wi,_,ho⟩:=aA7 I.hok e
 have hz:(fs.map (·.1)).length≤sizeLine:=by rw [List.length_map,sizeLine_eq]; omega
 refine by5 I.kIn O c.sa c.po n.taker c.hd wi hz fun h' O' sb=>h _ ?_
 have hd:∃ o,h'.get? dx=some o:=let ⟨o,_,_,e',_⟩:=O'.ns; ⟨o,e'⟩
 refine I.write (x:=a) (e:=dx) (by rw [e]; exact True.intro) (.inr ho) (fun b q hb z=>(sb.2 b hb).trans z) hd ?_
 refine ⟨by rw [ab2 O.ne]; exact ho,?_,O.ne,O'.obj,_,O'.ns,fun g=>?_,fun g hg=>?_⟩
 · have:=at6 f y fs; omega
 · show RelO ((putF f y fs).lookup g) (if g=f then some u else mA g)
   rw [at3]
   by_cases q:g=f
   · rw [if_pos q,if_pos q]; exact ry
   · rw [if_neg q,if_neg q]; exact r g
 · by_cases q:g=f
   · rw [q]; exact (at7 f y fs).1
   · refine (at7 f y fs).2 g (wi g fun z=>hg ?_)
     show (if g=f then some u else mA g)=none
     rw [if_neg q]; exact z
theorem Inv.made (I:Inv X pins σ H s):Inv X pins σ (upd (upd H s.heap.objs.size (.own (s.heap.objs.size + 1))) (s.heap.objs.size + 1) (.ins C s.heap.objs.size []))
 { s with heap:=(s.heap.push PySem.W.emptyDict).push (PySem.W.instObj C s.heap.objs.size) }:=by
 have e1:(s.heap.push PySem.W.emptyDict).get? s.heap.objs.size=some PySem.W.emptyDict:=Heap.get?_push_size s.heap rfl
 have e2:((s.heap.push PySem.W.emptyDict).push (PySem.W.instObj C s.heap.objs.size)).get? (s.heap.objs.size + 1)=some (PySem.W.instObj C s.heap.objs.size):=by
  have:=Heap.get?_push_size (s.heap.push PySem.W.emptyDict) (o:=PySem.W.instObj C s.heap.objs.size) rfl
  rwa [Heap.size_push] at this
 have e3:(s.heap.push PySem.W.emptyDict).Ns s.heap.objs.size (fun _=>none):=⟨PySem.W.emptyDict,#[],_,e1,rfl,(fun e he=>absurd he (by simp)),fun _=>rfl⟩
 have I1:=I.laid (a:=s.heap.objs.size) (o:= .own (s.heap.objs.size + 1)) (h':=s.heap.push PySem.W.emptyDict) (t':=s.toks) (fun b u q=>Heap.get?_push_of_some _ q) (Nat.le_refl _) ⟨_,e1⟩
 refine I1.laid (a:=s.heap.objs.size + 1) (o:= .ins C s.heap.objs.size []) (t':=s.toks) (fun b u q=>Heap.get?_push_of_some _ q) (Nat.le_of_eq (Heap.size_push _ _)) ?_
 have ne:s.heap.objs.size≠s.heap.objs.size + 1:=Nat.ne_of_lt (Nat.lt_succ_self _)
 refine ⟨by rw [ab2 ne,ab5],Nat.zero_le _,ne,e2,fun _=>none,(Heap.Ns1.of_empty e3).at fun o q=>Heap.get?_push_of_some _ q,fun _=>True.intro,fun y hy=>absurd rfl hy⟩
theorem bG6 {prog:Program} {w:World} {env:Env} {e:Expr} {f:Str} {pos:Pos} {s:Shared} {Q:Value→Shared→Prop} (hb:attributeBase e f env (eval e env)=eval e env)
 (h:wpAny (model prog w) A (eval e env) (fun o s₁=>wpAny (model prog w) A (getAttr o f true) Q E s₁) E s):wpAny (model prog w) A (eval (.Attribute e f pos) env) Q E s :=
 Attribute_any_ h (by rw [arm_eval_Attribute,hb])
end
noncomputable def tFld (K:PySem.W.Frag) (ta:TE) (f:Str):TE:=fun σ H Q=>ta σ H fun x H1=>∃ a C dx fs v,x= .ref a∧H1 a=some (.ins C dx fs)∧Cls K C∧NoAttr K C f∧fs.lookup f=some v∧Q v H1
noncomputable def sFld (K:PySem.W.Frag) (ta tv:TE) (f:Str):TS:=fun D σ H=>tv σ H fun y H1=>ta σ H1 fun x H2=>∃ a C dx fs,x= .ref a∧H2 a=some (.ins C dx fs)∧Cls K C∧NoAttr K C f∧fs.length < 1000 ∧
 D.nx σ (upd H2 a (.ins C dx (putF f y fs)))
section
variable {X:Cx} {o e value:Expr} {f:Str} {pos pos' tpos:Pos} {ta tv:TE}
theorem bK1 (he:PE X e ta) (hb:attributeBase e f X.env (eval e X.env)=eval e X.env):PE X (.Attribute e f pos) (tFld X.K ta f):=by
 intro pins s σ H Q I h
 refine bG6 hb (thn (he pins s σ H _ I h) fun u s1 ⟨x,H1,I1,rx,a,C,dx,fs,v,ex,ea,c,n,l,q⟩=>?_)
 subst ex
 obtain rfl:u=Value.ref a:=rx
 exact aT5 I1 ea c n l fun u' s2 I2 ru=>⟨v,H1,I2,ru,q⟩
theorem aD4 (ha:PE X o ta) (hv:PE X value tv) (hs:swapsWith value (some (.Attribute o f pos')) pos.line X.env=pure false):PS X (.Assign [.Attribute o f pos'] value pos) (sFld X.K ta tv f):=by
 intro pins s σ H D I h
 refine plainObj_wpAny_Assign_Attribute (thn (hv pins s σ H _ I h) fun u s1 ⟨y,H1,I1,ry,q⟩=>thn (ha pins s1 σ H1 _ I1 q) fun ov s2 ⟨x,H2,I2,rx,a,C,dx,fs,ex,ea,c,n,l,q2⟩=>?_) hs
 subst ex
 obtain rfl:ov=Value.ref a:=rx
 exact aS0 I2 ea c n l ry fun s3 I3=>⟨σ,_,I3,q2⟩
end
section
variable {X:Cx} {pins:List (Addr×Obj)} {σ:St} {H:Hp} {s:Shared} {A:Around} {E:Value→Shared→Prop} {Q:Value→Shared→Prop} {c:Value} {b:Bool}
inductive TyOf (K:PySem.W.Frag) (H:Hp):V→Value→Prop where
 | non:TyOf K H .non (.type "NoneType")
 | bl (x:Bool):TyOf K H (.bl x) (.type "bool")
 | int (i:Int):TyOf K H (.int i) (.type "int")
 | str (x:Str):TyOf K H (.str x) (.type "str")
 | flt (x:UInt64):TyOf K H (.flt x) (.type "float")
 | lst {a:Addr} {xs:List V} (e:H a=some (.lst xs)):TyOf K H (.ref a) (.type "list")
 | frz {a:Addr} {o:Obj} {xs:List V} (e:H a=some (.frz o (.lst xs))):TyOf K H (.ref a) (.type "list")
 | tup {a:Addr} {xs:List V} (e:H a=some (.tup xs)):TyOf K H (.ref a) (.type "tuple")
 | dK {a:Addr} {kvs:List (Key×V)} (e:H a=some (.dK kvs)):TyOf K H (.ref a) (.type "dict")
 | dT {a:Addr} {kvs:List (List Key×V)} (e:H a=some (.dT kvs)):TyOf K H (.ref a) (.type "dict")
 | ins {a C dx:Addr} {fs:List (Str×V)} (e:H a=some (.ins C dx fs)) (cl:Cls K C) (ha:PySem.W.findIn K (.ref C) "__class__" = some (some (.builtin "object.__class__")))
    (hn:PySem.W.specialIn K (.builtin "object.__class__") "__get__" = some (some (.builtin "getset_descriptor.__get__"))) (htk:PySem.W.takesIn K (.builtin "object.__class__")=some true)
    (hm:PySem.W.mroIn K C (.type "object")=some true):TyOf K H (.ref a) (.ref C)
theorem bc0 {x:V} {u t:Value} (I:Inv X pins σ H s) (rx:RelV x u) (ty:TyOf X.K H x t) (e:PySem.W.kitOne X.K t c=some b) (h:∀ tk,Q (.bool b) { s with toks:=tk }) :
 wpAny (model X.prog X.w) A (call (.builtin "isinstance") [u,c]) Q E s:=by
 cases ty with
 | non=>cases (show u=Value.none from rx); exact PySem.W.kia_one PySem.W.kitx_none I.kIn True.intro e (fun z=>nomatch z) h
 | bl y=>cases (show u=Value.bool y from rx); exact PySem.W.kia_one PySem.W.kitx_bool I.kIn True.intro e (fun z=>nomatch z) h
 | int i=>obtain ⟨t,q⟩:=(show ∃ t,u=Value.int i t from rx); cases q; exact PySem.W.kia_one PySem.W.kitx_int I.kIn True.intro e (fun z=>nomatch z) h
 | str y=>obtain ⟨t,q⟩:=(show ∃ t,u=Value.str y t from rx); cases q; exact PySem.W.kia_one PySem.W.kitx_str I.kIn True.intro e (fun z=>nomatch z) h
 | flt y=>obtain ⟨t,q⟩:=(show ∃ t,u=Value.float y t from rx); cases q; exact PySem.W.kia_one PySem.W.kitx_float I.kIn True.intro e (fun z=>nomatch z) h
 | @lst a xs ea =>
   cases (show u=Value.ref a from rx)
   obtain ⟨_,_,n,_,h1⟩:=(show ObjOk X.prog X.w H s.heap a (.lst xs) from I.hok a _ ea)
   exact PySem.W.kia_one PySem.W.kitx_list I.kIn ⟨_,h1,rfl⟩ e (fun z=>nomatch z) h
 | @frz a ob xs ea =>
   cases (show u=Value.ref a from rx)
   obtain ⟨_,_,_,n,_,h1⟩:=(show ObjOk X.prog X.w H s.heap a (.frz ob (.lst xs)) from I.hok a _ ea)
   exact PySem.W.kia_one PySem.W.kitx_list I.kIn ⟨_,h1,rfl⟩ e (fun z=>nomatch z) h
 | @tup a xs ea =>
   cases (show u=Value.ref a from rx)
   obtain ⟨_,_,_,p⟩:=(show ObjOk X.prog X.w H s.heap a (.tup xs) from I.hok a _ ea)
   obtain ⟨o,h1,h2,_⟩:=p
   exact PySem.W.kia_one PySem.W.kitx_tuple I.kIn ⟨o,h1,h2⟩ e (fun z=>nomatch z) h
 | @dK a kvs ea =>
   cases (show u=Value.ref a from rx)
   obtain ⟨_,_,vs,_,p⟩:=(show ObjOk X.prog X.w H s.heap a (.dK kvs) from I.hok a _ ea)
   obtain ⟨o,es,ep,h1,h2,_⟩:=p
   exact PySem.W.kia_one PySem.W.kitx_dict I.kIn ⟨o,h1,h2.1⟩ e (fun z=>nomatch z) h
 | @dT a kvs ea =>
   cases (show u=Value.ref a from rx)
   obtain ⟨_,_,xs,_,o,es,ep,h1,h2,_⟩:=(show ObjOk X.prog X.w H s.heap a (.dT kvs) from I.hok a _ ea)
   exact PySem.W.kia_one PySem.W.kitx_dict I.kIn ⟨o,h1,h2.1⟩ e (fun z=>nomatch z) h
 | @ins a C dx fs ea cl ha hn htk hm =>
   cases (show u=Value.ref a from rx)
   obtain ⟨mA,O,_⟩:=aA7 I.hok ea
   obtain ⟨od,J,_⟩:=O.look
   exact PySem.W.kia_one (PySem.W.kitx_own (cl.get _) cl.hd ha hn htk hm) I.kIn J e (fun z=>nomatch z) h
end
structure Room (k:Nat) (A:Around):Prop where
 hd:A.handled=none
 dp:A.depth + 3 * k + 5 < recursionLimit
 un:A.units + 16 * k + 200 < cLine
theorem Room.mono {j k:Nat} {A:Around} (r:Room k A) (h:j≤k):Room j A:=⟨r.hd,by have:=r.dp; omega,by have:=r.un; omega⟩
theorem Room.deeper {k:Nat} {A:Around} (r:Room (k + 1) A) (env:Env):Room k (A.deeper env) :=
 ⟨r.hd,by have:=r.dp; show A.depth + 1 + 3 * k + 5 < _; omega,by have:=r.un; show A.units + 3 + 16 * k + 200 < _; omega⟩
theorem Room.in1 {k:Nat} {A:Around} (r:Room (k + 1) A):Room k A.in1 :=
 ⟨r.hd,by have:=r.dp; show A.depth + 3 * k + 5 < _; omega,by have:=r.un; show A.units + 1 + 16 * k + 200 < _; omega⟩
theorem aT1 {A:Around} {C:Addr} {us:List Value} {kw:List (Str×Value)}:(A.under (.builtin "type.__call__" ⟨.ref C :: us,kw⟩)).depth=A.depth + 1:=by
 first | rfl | simp [Around.under,Code.weight,Code.isCreation,Code.isGuard,Code.isCaller,Code.frames,Code.isFrame,guardIds]
theorem aT0 {A:Around} {C:Addr} {us:List Value} {kw:List (Str×Value)}:(A.under (.builtin "type.__call__" ⟨.ref C :: us,kw⟩)).units=A.units + 1:=by
 first | rfl | simp [Around.under,Code.cUnits,Code.frames,Code.isFrame]
theorem Room.make {k:Nat} {A:Around} (r:Room (k + 1) A) (C:Addr) (us:List Value) (kw:List (Str×Value)):Room k (A.under (.builtin "type.__call__" ⟨.ref C :: us,kw⟩)) :=
 ⟨r.hd,by have:=r.dp; rw [aT1]; omega,by have:=r.un; rw [aT0]; omega⟩
theorem Room.depth {k:Nat} {A:Around} (r:Room k A):A.depth < recursionLimit:=by have:=r.dp; omega
theorem Room.units {k:Nat} {A:Around} (r:Room k A):A.units + 64 < cLine:=by have:=r.un; omega
noncomputable def tNil:TA:=fun _ H Q=>Q [] H
noncomputable def af3 (ta:TE) (tr:TA):TA:=fun σ H Q=>ta σ H fun x H1=>tr σ H1 fun xs H2=>Q (x :: xs) H2
section
variable {X:Cx} {e:Expr} {es:List Expr} {te:TE} {t:TA} {pos:Pos}
theorem aa2:PA X [] tNil:=fun _ _ _ _ H Q I h=>Calls.spliced_nil ⟨[],H,I,.nil,h⟩
theorem aa0 (ha:PE X e te) (hr:PA X es t) (hs:starEach (e :: es) X.env=(false,eval e X.env) :: starEach es X.env:=by rfl):PA X (e :: es) (af3 te t):=by
 intro pos pins s σ H Q I h
 rw [hs]
 show wpAny _ _ (spliced ((false,eval e X.env) :: backTo pos (starEach es X.env))) _ _ s
 refine Calls.spliced_cons (thn (ha pins s σ H _ I h) fun u s1 ⟨x,H1,I1,r1,q1⟩=>?_)
 exact thn (hr pos pins s1 σ H1 _ I1 q1) fun us s2 ⟨xs,H2,I2,r2,q2⟩=>⟨x :: xs,H2,I2,.cons r1 r2,q2⟩
noncomputable def tTup (t:TA):TE:=fun σ H Q=>t σ H fun xs H1=>xs.length≤sizeLine∧∀ p,H1 p=none→Q (.ref p) (upd H1 p (.tup xs))
noncomputable def tLst (t:TA):TE:=fun σ H Q=>t σ H fun xs H1=>xs.length≤sizeLine∧∀ p,H1 p=none→Q (.ref p) (upd H1 p (.lst xs))
theorem as5 {x1} (h:PA X es t):PE X (.Tuple es x1 pos) (tTup t):=by
 intro pins s σ H Q I hq
 refine wpAny_Tuple_spliced (thn (h pos pins s σ H _ I hq) fun us s1 ⟨xs,H1,I1,r,z,q⟩=>⟨by rw [← r.length]; exact z,?_⟩)
 have hf:H1 s1.heap.objs.size=none:=I1.hok.fresh (Nat.le_refl _)
 refine ⟨.ref s1.heap.objs.size,upd H1 s1.heap.objs.size (.tup xs),I1.laid (t':=s1.toks) (fun b u e=>Heap.get?_push_of_some _ e) (Nat.le_refl _) ?_,rfl,q _ hf⟩
 exact ⟨z,us,r,⟨_,Heap.get?_push_size _ rfl,rfl,_,rfl⟩⟩
theorem as6 (h:PA X es t):PE X (.List es pos) (tLst t):=by
 intro pins s σ H Q I hq
 refine wpAny_List_spliced (thn (h pos pins s σ H _ I hq) fun us s1 ⟨xs,H1,I1,r,z,q⟩=>⟨by rw [← r.length]; exact z,?_⟩)
 have hf:H1 s1.heap.objs.size=none:=I1.hok.fresh (Nat.le_refl _)
 refine ⟨.ref s1.heap.objs.size,upd H1 s1.heap.objs.size (.lst xs),I1.laid (t':=s1.toks) (fun b u e=>Heap.get?_push_of_some _ e) (Nat.le_refl _) ?_,rfl,q _ hf⟩
 exact ⟨z,us,0,r,Heap.get?_push_size _ rfl⟩
end
noncomputable abbrev Sp:=List V→Hp→VK→XK→Prop
noncomputable abbrev CXT:=List Env→Hp→Shared→XK→Value→Shared→Prop
structure Env0 (P:Program) (w:World) (K:PySem.W.Frag) (mg:Str→Option Value) (base:Heap) (A:Around) (outer:List Env) (s:Shared) (H:Hp):Prop where
 frames:A.frames=some outer
 mod:Mod K mg base
 bs:∀ b o,base.get? b=some o→s.heap.get? b=some o∧H b=none
 bsz:base.objs.size≤s.heap.objs.size
 funs:s.heap.FunFrames base outer
 frf:∀ b∈frs outer,H b=none
 hok:HOk P w H s.heap
 bare:AllBare s.gens
noncomputable def CE (outer:List Env) (P:Program) (w:World) (H:Hp) (s:Shared) (Q:VK) (u:Value) (s':Shared):Prop :=
 ∃ v H',s'.os=s.os∧AllBare s'.gens∧Un (frs outer) [] H H' s.heap s'.heap∧HOk P w H' s'.heap∧RelV v u∧Q v H'
noncomputable def CR (CX:CXT) (outer:List Env) (P:Program) (w:World) (H:Hp) (s:Shared) (Q:VK) (E:XK) (r:Result) (s':Shared):Prop :=
 match r with
 | .ok (.ret u)=>CE outer P w H s Q u s'
 | .ok _=>False
 | .error e=>CX outer H s E e s'
structure FnOk (P:Program) (w:World) (K:PySem.W.Frag) (mg:Str→Option Value) (base:Heap) (CX:CXT) (k:Nat) (f:Addr) (fd:FuncData) (ps:List Str) (sp:Sp):Prop where
 len:∀ vs H Q E,sp vs H Q E→vs.length=ps.length
 run:∀ (A:Around) (outer:List Env) (s:Shared) (H:Hp) (args:Args) (us:List Value) (vs:List V) (Q:VK) (E:XK),Room k A→Env0 P w K mg base A outer s H→BindsTo s fd args (ps.zip us)→Vals vs us→sp vs H Q E →
  codeAny (model P w) A (.call (.ref f) args) (CR CX outer P w H s Q E) s
theorem FnOk.imp {P:Program} {w:World} {K:PySem.W.Frag} {mg:Str→Option Value} {base:Heap} {CX:CXT} {k:Nat} {f:Addr} {fd:FuncData} {ps:List Str} {sp sp':Sp} (F:FnOk P w K mg base CX k f fd ps sp)
 (h:∀ vs H Q E,sp' vs H Q E→sp vs H Q E):FnOk P w K mg base CX k f fd ps sp' :=
 ⟨fun vs H Q E q=>F.len vs H Q E (h _ _ _ _ q),fun A outer s H args us vs Q E hr he hb hv hs=>F.run A outer s H args us vs Q E hr he hb hv (h _ _ _ _ hs)⟩
theorem Env0.make {P:Program} {w:World} {K:PySem.W.Frag} {mg:Str→Option Value} {base:Heap} {A:Around} {outer:List Env} {s:Shared} {H:Hp} (e:Env0 P w K mg base A outer s H) (C:Addr) (us:List Value) (kw:List (Str×Value)) :
 Env0 P w K mg base (A.under (.builtin "type.__call__" ⟨.ref C :: us,kw⟩)) outer s H:=⟨by first | exact e.frames | (simpa [Around.under,Code.envs,Code.isFrame,pushEnvs] using e.frames),e.mod,e.bs,e.bsz,e.funs,e.frf,e.hok,e.bare⟩
theorem Env0.in1 {P:Program} {w:World} {K:PySem.W.Frag} {mg:Str→Option Value} {base:Heap} {A:Around} {outer:List Env} {s:Shared} {H:Hp} (e:Env0 P w K mg base A outer s H) :
 Env0 P w K mg base A.in1 outer s H:=⟨e.frames,e.mod,e.bs,e.bsz,e.funs,e.frf,e.hok,e.bare⟩
section
variable {X:Cx} {pins:List (Addr×Obj)} {σ:St} {H:Hp} {s s':Shared}
theorem Inv.env0 (I:Inv X pins σ H s):Env0 X.prog X.w X.K X.mg X.base X.A X.stack s H :=
 ⟨I.ok.frames,I.ok.mod,I.bs,Nat.le_trans I.ok.bsz I.sz,I.stack,I.stkFree,I.hok,I.bare⟩
theorem Inv.after {Q:VK} {u:Value} (I:Inv X pins σ H s) (h:CE X.stack X.prog X.w H s Q u s'):EP X pins σ Q u s':=by
 obtain ⟨v,H',os,bare,un,hok,r,q⟩:=h
 obtain ⟨hh,g,d,t,os'⟩:=s'
 obtain rfl:os'=s.os:=os
 exact ⟨v,H',I.call (h':=hh) (g':=g) (d':=d) (t':=t) (ch:=[]) un hok bare (fun b z=>absurd z (by simp)),r,q⟩
end
noncomputable def bi5 (sp:Sp) (dvs:List V) (E:XK) (t:TA):TE:=fun σ H Q=>t σ H fun vs H1=>sp (vs ++ dvs) H1 Q E
noncomputable def aH9 (C:Addr) (m:Str) (sp:Sp) (dvs:List V) (E:XK) (ta:TE) (t:TA):TE:=fun σ H Q=>ta σ H fun x H1=>∃ a dx fs,x= .ref a∧H1 a=some (.ins C dx fs)∧fs.lookup m=none ∧
 t σ H1 fun vs H2=>sp (x :: (vs ++ dvs)) H2 Q E
noncomputable def bs4 (C:Addr) (sp:Sp) (dvs:List V) (E:XK) (t:TA):TE:=fun σ H Q=>t σ H fun vs H1=>∀ x dx,H1 x=none→H1 dx=none→dx≠x →
 sp (.ref x :: (vs ++ dvs)) (upd (upd H1 dx (.own x)) x (.ins C dx [])) (fun v H2=>v= .non∧Q (.ref x) H2) E
noncomputable def Binds (K:PySem.W.Frag) (fd:FuncData) (ps:List Str) (ds:List Value):Prop :=
 ∀ (s:Shared) (us:List Value),K.In s.heap→(us ++ ds).length=ps.length→BindsTo s fd ⟨us,[]⟩ (ps.zip (us ++ ds))
theorem Binds.all {K:PySem.W.Frag} {fd:FuncData} {ps:List Str} (h:∀ us:List Value,us.length=ps.length→bindArgs fd ⟨us,[]⟩=pure (ps.zip us)):Binds K fd ps []:=fun s us _ hl=>by
 rw [List.append_nil] at hl ⊢
 exact .of_eq (h us hl)
noncomputable def aw1 (CX:CXT) (X:Cx) (E:XK):Prop:=∀ (pins:List (Addr×Obj)) (σ:St) (H:Hp) (s:Shared) (e:Value) (s':Shared),Inv X pins σ H s→CX X.stack H s E e s'→X.xe e s'
section
variable {X:Cx} {CX:CXT} {k:Nat} {f C:Addr} {fd:FuncData} {ps:List Str} {sp:Sp} {dvs:List V} {ds:List Value} {E:XK} {x m:Str} {p pos apos:Pos} {e o:Expr} {es:List Expr} {ta:TE} {t:TA}
theorem aY0 {pins:List (Addr×Obj)} {σ:St} {H:Hp} {s:Shared} {Q:VK} {us:List Value} {vs:List V} (F:FnOk X.prog X.w X.K X.mg X.base CX k f fd ps sp) (hr:Room k X.A) (hb:Binds X.K fd ps ds) (hd:Vals dvs ds) (hx:aw1 CX X E)
 (I:Inv X pins σ H s) (r:Vals vs us) (h:sp (vs ++ dvs) H Q E):wpAny (model X.prog X.w) X.A (call (.ref f) us) (EP X pins σ Q) X.xe s:=by
 have r2:Vals (vs ++ dvs) (us ++ ds):=r.append hd
 have hl:(us ++ ds).length=ps.length:=by rw [← r2.length]; exact F.len _ _ _ _ h
 refine wpAny_call (codeAny_mono (F.run X.A X.stack s H ⟨us,[]⟩ (us ++ ds) (vs ++ dvs) Q E hr I.env0 (hb s us I.kIn hl) r2 h) fun r s' hq=>?_)
 cases r with
 | error e=>exact hx pins σ H s e s' I hq
 | ok fl =>
   cases fl with
   | ret u=>exact I.after hq
   | next=>exact False.elim hq
   | brk=>exact False.elim hq
   | cont=>exact False.elim hq
theorem ae6 (F:FnOk X.prog X.w X.K X.mg X.base CX k f fd ps sp) (hr:Room k X.A) (hg:Gl X x) (hm:X.mg x=some (.ref f)) (hk:PySem.W.keepIn X.K (.ref f)=true) (hb:Binds X.K fd ps ds) (hd:Vals dvs ds) (hx:aw1 CX X E)
 (ha:PA X (e :: es) t) (hdb:(x == ("__debug__" : Str))=false:=by decide) (he:starEach (e :: es) X.env=(false,eval e X.env) :: starEach es X.env:=by rfl) (hpl:(backTo pos (starEach es X.env)).any (·.1)=false:=by rfl) :
 PE X (.Call (.Name x p) (e :: es) [] pos) (bi5 sp dvs E t):=by
 intro pins s σ H Q I h
 refine wpAny_Call_Name_kw (aK7 I hg hm ?_ hdb)
 refine PySem.W.callWith_K (h₀:=X.base) I.ok.mod.kin hk (thn (ha pos pins s σ H _ I h) fun us s1 ⟨vs,H1,I1,r,q⟩=>⟨I1.kIn,?_⟩) he hpl
 exact aY0 F hr hb hd hx I1 r q
theorem ag2 {pl:Sem Bool} (he:PE X o ta) (c:Cls X.K C) (hm:Meth X.K C m f) (F:FnOk X.prog X.w X.K X.mg X.base CX k f fd ps sp) (hr:Room k X.A) (hb:Binds X.K fd ps ds) (hd:Vals dvs ds) (hx:aw1 CX X E) (ha:PA X (e :: es) t)
 (hst:starEach (e :: es) X.env=(false,eval e X.env) :: starEach es X.env:=by rfl) (hpl:(backTo pos (starEach es X.env)).any (·.1)=false:=by rfl)
 (ht:eval (.Call (.Attribute o m apos) (e :: es) [] pos) X.env=(do
   let ov ← eval o X.env
   standAt apos.atName
   let (f,first) ← holding [ov] (getMethod ov m pl)
   callWith pos f first (backTo pos (starEach (e :: es) X.env)) (backToKw pos (keywordEach [] X.env))):=by rfl) :
 PE X (.Call (.Attribute o m apos) (e :: es) [] pos) (aH9 C m sp dvs E ta t):=by
 intro pins s σ H Q I h
 refine PySem.W.methodCall_KW (pl:=pl) (thn (he pins s σ H _ I h) fun u s1 ⟨x,H1,I1,rx,a,dx,fs,ex,ea,l,q⟩=>?_) ht
 subst ex
 obtain rfl:u=Value.ref a:=rx
 refine ay3 I1 ea c hm l ?_
 refine PySem.W.callWith_K (first:=[.ref a]) (h₀:=X.base) I.ok.mod.kin hm.kp (thn (ha pos pins s1 σ H1 _ I1 q) fun us s2 ⟨vs,H2,I2,r,q2⟩=>⟨I2.kIn,?_⟩) hst hpl
 exact aY0 (us:= .ref a :: us) (vs:= .ref a :: vs) F hr hb hd hx I2 (.cons rfl r) q2
theorem bj7 {pl:Sem Bool} (he:PE X o ta) (c:Cls X.K C) (hm:Meth X.K C m f) (F:FnOk X.prog X.w X.K X.mg X.base CX k f fd ps sp) (hr:Room k X.A) (hb:Binds X.K fd ps ds) (hd:Vals dvs ds) (hx:aw1 CX X E)
 (ht:eval (.Call (.Attribute o m apos) [] [] pos) X.env=(do
   let ov ← eval o X.env
   standAt apos.atName
   let (f,first) ← holding [ov] (getMethod ov m pl)
   callWith pos f first (backTo pos (starEach [] X.env)) (backToKw pos (keywordEach [] X.env))):=by rfl) :
 PE X (.Call (.Attribute o m apos) [] [] pos) (aH9 C m sp dvs E ta tNil):=by
 intro pins s σ H Q I h
 refine PySem.W.methodCall_KW (pl:=pl) (thn (he pins s σ H _ I h) fun u s1 ⟨x,H1,I1,rx,a,dx,fs,ex,ea,l,q⟩=>?_) ht
 subst ex
 obtain rfl:u=Value.ref a:=rx
 refine ay3 I1 ea c hm l ?_
 exact PySem.W.callWith_K0 (first:=[.ref a]) I1.kIn hm.kp (aY0 (us:=[.ref a]) (vs:=[.ref a]) F hr hb hd hx I1 (.cons rfl .nil) q)
structure Mk (K:PySem.W.Frag) (C f:Addr):Prop where
 makes:PySem.W.makesIn K C=true
 init:PySem.W.findIn K (.ref C) "__init__" = some (some (.ref f))
 fn:PySem.W.isFn K (.ref f)=true
 kp:PySem.W.keepIn K (.ref C)=true
theorem bj0 {pins:List (Addr×Obj)} {σ:St} {H:Hp} {s:Shared} {Q:VK} {us:List Value} {vs:List V} (M:Mk X.K C f) (F:FnOk X.prog X.w X.K X.mg X.base CX k f fd ps sp) (hr:Room (k + 1) X.A) (hb:Binds X.K fd ps ds) (hd:Vals dvs ds)
 (hx:aw1 CX X E) (I:Inv X pins σ H s) (r:Vals vs us)
 (h:∀ x dx,H x=none→H dx=none→dx≠x→sp (.ref x :: (vs ++ dvs)) (upd (upd H dx (.own x)) x (.ins C dx [])) (fun v H2=>v= .non∧Q (.ref x) H2) E) :
 wpAny (model X.prog X.w) X.A (call (.ref C) us) (EP X pins σ Q) X.xe s:=by
 have hq:=h (s.heap.objs.size + 1) s.heap.objs.size (I.hok.fresh (Nat.le_succ _)) (I.hok.fresh (Nat.le_refl _)) (Nat.ne_of_lt (Nat.lt_succ_self _))
 have I2:=Inv.made (C:=C) I
 have r2:Vals (V.ref (s.heap.objs.size + 1) :: (vs ++ dvs)) (Value.ref (s.heap.objs.size + 1) :: (us ++ ds)):= .cons rfl (r.append hd)
 have hl:(Value.ref (s.heap.objs.size + 1) :: us ++ ds).length=ps.length:=by
  have e:=r2.length
  rw [F.len _ _ _ _ hq] at e
  exact e.symm
 refine wpAny_call (bl0 (f:=f) I.kIn M.makes M.init (beq_iff_eq.mp M.fn) (codeAny_mono (F.run _ X.stack _ _ ⟨Value.ref (s.heap.objs.size + 1) :: us,[]⟩ (Value.ref (s.heap.objs.size + 1) :: (us ++ ds)) _ _ E (hr.make C us [])
  (I2.env0.make C us []) (hb _ (Value.ref (s.heap.objs.size + 1) :: us) I2.kIn hl) r2 hq) fun r s' hq'=>?_))
 cases r with
 | error e=>exact hx pins σ _ _ e s' I2 hq'
 | ok fl =>
   cases fl with
   | ret u =>
     obtain ⟨v,H',I3,rv,ev,q3⟩:=I2.after hq'
     subst ev
     exact ⟨rv,⟨V.ref (s.heap.objs.size + 1),H',I3,rfl,q3⟩⟩
   | next=>exact False.elim hq'
   | brk=>exact False.elim hq'
   | cont=>exact False.elim hq'
theorem aZ3 (M:Mk X.K C f) (F:FnOk X.prog X.w X.K X.mg X.base CX k f fd ps sp) (hr:Room (k + 1) X.A) (hg:Gl X x) (hm:X.mg x=some (.ref C)) (hb:Binds X.K fd ps ds) (hd:Vals dvs ds) (hx:aw1 CX X E)
 (ha:PA X (e :: es) t) (hdb:(x == ("__debug__" : Str))=false:=by decide) (he:starEach (e :: es) X.env=(false,eval e X.env) :: starEach es X.env:=by rfl) (hpl:(backTo pos (starEach es X.env)).any (·.1)=false:=by rfl) :
 PE X (.Call (.Name x p) (e :: es) [] pos) (bs4 C sp dvs E t):=by
 intro pins s σ H Q I h
 refine wpAny_Call_Name_kw (aK7 I hg hm ?_ hdb)
 refine PySem.W.callWith_K (h₀:=X.base) I.ok.mod.kin M.kp (thn (ha pos pins s σ H _ I h) fun us s1 ⟨vs,H1,I1,r,q⟩=>⟨I1.kIn,?_⟩) he hpl
 exact bj0 M F hr hb hd hx I1 r q
end
noncomputable def PK (X:Cx) (kws:List Keyword) (t:TA):Prop :=
 ∀ (pos:Pos) (pins:List (Addr×Obj)) (s:Shared) (σ:St) (H:Hp) (Q:List V→Hp→Prop),Inv X pins σ H s→t σ H Q→wpAny (model X.prog X.w) X.A (evalAll ((backToKw pos (keywordEach kws X.env)).map (·.2))) (AP X pins σ Q) X.xe s
section
variable {X:Cx} {CX:CXT} {k:Nat} {f C:Addr} {fd:FuncData} {ps ks:List Str} {sp:Sp} {E:XK} {x m:Str} {p pos apos kpos:Pos} {e o:Expr} {es:List Expr} {kws:List Keyword} {te ta:TE} {t tk:TA} {nm:Option Str}
theorem bq2:PK X [] tNil:=fun _ _ _ _ H Q I h=>wpAny_evalAll_nil ⟨[],H,I,.nil,h⟩
theorem aZ0 (ha:PE X e te) (hr:PK X kws t):PK X (⟨nm,e,kpos⟩ :: kws) (af3 te t):=by
 intro pos pins s σ H Q I h
 show wpAny _ _ (evalAll ((do let v ← eval e X.env; standAt pos; pure v) :: (backToKw pos (keywordEach kws X.env)).map (·.2))) _ _ s
 refine wpAny_evalAll_cons (wpAny_bind (thn (ha pins s σ H _ I h) fun u s1 ⟨x,H1,I1,r1,q1⟩=>wpAny_bind (wpAny_standAt (wpAny_pure ?_))))
 exact thn (hr pos pins s1 σ H1 _ I1 q1) fun us s2 ⟨xs,H2,I2,r2,q2⟩=>⟨x :: xs,H2,I2,.cons r1 r2,q2⟩
variable {g:List Value→List Value→List Value} {gV:List V→List V→List V}
end
structure FnScope (N P:List Str) (sc:Scope):Prop where
 kind:sc.kind= .function
 co:sc.isCoroutine=false
 gen:sc.isGenerator=false
 nd:N.Nodup
 pre:N.take P.length=P
 par:∀ x∈P,sc.names.lookup x=some .local∨sc.names.lookup x=some .cell
 nofree:∀ y∈sc.names,y.2≠ .free
theorem aH3 {kindOf:Str→Option NameKind} {x:Str}:∀ {binds:List (Str×Value)} {m:Str→Option Value},(∀ v,(x,v)∉binds)→bindL kindOf binds m x=m x
 | [],_,_=>rfl
 | (n,v) :: r,m,h=>by
   unfold bindL
   rw [aH3 fun w hw=>h w (List.mem_cons_of_mem _ hw)]
   split
   · have:x≠n:=by rintro rfl; exact h v List.mem_cons_self
     simp [this]
   · rfl
theorem aH5 {kindOf:Str→Option NameKind} {x:Str}:∀ {binds:List (Str×Value)} {m:Str→Option Value},(∀ v,(x,v)∉binds)→bindC kindOf binds m x=m x
 | [],_,_=>rfl
 | (n,v) :: r,m,h=>by
   unfold bindC
   rw [aH5 fun w hw=>h w (List.mem_cons_of_mem _ hw)]
   split
   · rfl
   · have:x≠n:=by rintro rfl; exact h v List.mem_cons_self
     simp [this]
theorem aH4 {kindOf:Str→Option NameKind} {x:Str} {v:Value}:∀ {P:List Str} {vs:List Value} {i:Nat} {m:Str→Option Value},P.Nodup→P[i]?=some x→vs[i]?=some v→kindOf x=some .local →
 bindL kindOf (P.zip vs) m x=some v
 | [],_,_,_,_,h,_,_=>by simp at h
 | _ :: _,[],_,_,_,_,h,_=>by simp at h
 | p :: P,w :: vs,0,m,nd,h1,h2,hk=>by
   simp at h1 h2; subst h1; subst h2
   show bindL kindOf ((p,w) :: P.zip vs) m p=_
   unfold bindL
   rw [aH3 fun v hv=>(List.nodup_cons.mp nd).1 (List.of_mem_zip hv).1,if_pos hk]
   simp
 | p :: P,w :: vs,i + 1,m,nd,h1,h2,hk=>by
   show bindL kindOf ((p,w) :: P.zip vs) m x=_
   unfold bindL
   exact aH4 (i:=i) (List.nodup_cons.mp nd).2 (by simpa using h1) (by simpa using h2) hk
theorem aH6 {kindOf:Str→Option NameKind} {x:Str} {v:Value}:∀ {P:List Str} {vs:List Value} {i:Nat} {m:Str→Option Value},P.Nodup→P[i]?=some x→vs[i]?=some v→kindOf x≠some .local →
 bindC kindOf (P.zip vs) m x=some v
 | [],_,_,_,_,h,_,_=>by simp at h
 | _ :: _,[],_,_,_,_,h,_=>by simp at h
 | p :: P,w :: vs,0,m,nd,h1,h2,hk=>by
   simp at h1 h2; subst h1; subst h2
   show bindC kindOf ((p,w) :: P.zip vs) m p=_
   unfold bindC
   rw [aH5 fun v hv=>(List.nodup_cons.mp nd).1 (List.of_mem_zip hv).1,if_neg hk]
   simp
 | p :: P,w :: vs,i + 1,m,nd,h1,h2,hk=>by
   show bindC kindOf ((p,w) :: P.zip vs) m x=_
   unfold bindC
   exact aH6 (i:=i) (List.nodup_cons.mp nd).2 (by simpa using h1) (by simpa using h2) hk
noncomputable def aq4 (N:List Str) (vs:List V):St:=vs.map some ++ List.replicate (N.length - vs.length) none
noncomputable def cxOf (CX:CXT) (P:Program) (w:World) (K:PySem.W.Frag) (mg:Str→Option Value) (base:Heap) (N:List Str) (qual:Str) (scope:Scope) (f:Addr) (cd:Value) (A:Around) (outer:List Env) (s:Shared) (H:Hp) (E:XK):Cx where
 prog:=P
 w:=w
 K:=K
 mg:=mg
 base:=base
 A:=A.deeper (envOfC qual scope s.heap.objs.size f cd)
 N:=N
 s₀:=s
 H₀:=H
 env:=envOfC qual scope s.heap.objs.size f cd
 outer:=outer
 stack:=envOfC qual scope s.heap.objs.size f cd :: outer
 ex:=[]
 calm:=true
 fn:=fun _=>true
 pn:=[]
 xe:=fun e s'=>wpAny (model P w) (A.deeper (envOfC qual scope s.heap.objs.size f cd)) (leaving (envOfC qual scope s.heap.objs.size f cd) e) (fun _ s''=>CX outer H s E e s'') (fun e' s''=>CX outer H s E e' s'') s'
theorem aR3 {sc:Scope} {n:Nat} {x:Str} (h:sc.names.lookup x=some .cell):∃ c,(cellsFrom n sc.names []).lookup x=some c:=by
 have q:=PySem.W.cellsFrom_some sc.names n [] (.inl h)
 exact Option.isSome_iff_exists.mp q
theorem bc2 {CX:CXT} {P:Program} {w:World} {K:PySem.W.Frag} {mg:Str→Option Value} {base:Heap} {N ps:List Str} {qual:Str} {scope:Scope} {f:Addr} {cd:Value} {A:Around} {outer:List Env} {s s1:Shared} {H:Hp} {E:XK} {us:List Value} {vs:List V}
 (S:FnScope N ps scope) (hd:A.handled=none) (e0:Env0 P w K mg base A outer s H) (hl:vs.length=ps.length) (r:Vals vs us)
 (x:InCallC s s.heap.objs.size (bindL (envOfC qual scope s.heap.objs.size f cd).kindOf (ps.zip us) fun _=>none) (cellsFrom (s.heap.objs.size + 1) scope.names []) (bindC (envOfC qual scope s.heap.objs.size f cd).kindOf (ps.zip us) fun _=>none) s1) :
 Inv (cxOf CX P w K mg base N qual scope f cd A outer s H E) [] (aq4 N vs) H s1:=by
 have hpl:ps.length≤N.length:=by have:=congrArg List.length S.pre; rw [List.length_take] at this; omega
 obtain ⟨h1,tk,rfl,hk⟩:=x.done
 have noA:∀ b:Addr,b∉(cxOf CX P w K mg base N qual scope f cd A outer s H E).ex:=fun b z=>absurd (show b∈([]:List Addr) from z) (by simp)
 refine ⟨⟨e0.mod,S.kind,rfl,rfl,Nat.le_refl _,fun y z c h1 h2=>?_,fun y hy=>?_,fun y c _ h=>?_,fun _=>hd,Around.frames_deeper e0.frames,.inr ⟨rfl,rfl⟩,fun b z=>absurd z (noA b),e0.bs,e0.bsz,fun b _ _=>noA b,fun b z=>absurd z (noA b),e0.funs,e0.frf⟩,
  rfl,e0.bare,Un.kept hk,⟨_,x.toInCall.ns,fun i y v h1 h2 h3=>?_⟩,fun y c h=>⟨_,x.cell y c h⟩,e0.hok.fresh (Nat.le_refl _),fun y c h=>?_,fun p hp=>absurd (show p∈([]:List (Addr×Obj)) from hp) (by simp),e0.hok.kept hk,?_⟩
 · exact name_of_addr x.apart (PySem.mem_of_lookup h1) (PySem.mem_of_lookup h2)
 · have hy:scope.names.lookup y=some .cell∨scope.names.lookup y=some .free:=hy
   rcases hy with hy | hy
   · exact aR3 hy
   · exact absurd rfl (S.nofree _ (PySem.mem_of_lookup hy))
 · exact Nat.le_of_lt (x.above y c (PySem.mem_of_lookup h))
 · have hi:i < vs.length:=by
    unfold aq4 at h2
    by_cases hi:i < vs.length
    · exact hi
    · rw [List.getElem?_append_right (by simpa using hi)] at h2
      rw [List.getElem?_replicate] at h2
      split at h2 <;> cases h2
   have ha:vs[i]?=some v:=by
    unfold aq4 at h2
    rw [List.getElem?_append_left (by simpa using hi),List.getElem?_map] at h2
    cases e:vs[i]? with
    | none=>rw [e] at h2; cases h2
    | some a=>rw [e] at h2; cases h2; rfl
   obtain ⟨u,hu,rv⟩:=r.get ha
   have hp:ps[i]?=some y:=by
    rw [← S.pre,List.getElem?_take_of_lt (by omega)]; exact h1
   have ndP:ps.Nodup:=by rw [← S.pre]; exact S.nd.sublist (List.take_sublist _ _)
   refine ⟨u,rv,?_⟩
   rcases S.par y (List.mem_of_getElem? hp) with k | k
   · exact .inl ⟨k,aH4 ndP hp hu k⟩
   · obtain ⟨c,e⟩:=aR3 (n:=s.heap.objs.size + 1) k
     refine .inr ⟨.inl k,c,e,?_⟩
     have q:=x.cell y c e
     rw [aH6 ndP hp hu (by show scope.names.lookup y≠_; rw [k]; decide)] at q
     exact q
 · exact e0.hok.fresh (Nat.le_of_lt (x.above y c (PySem.mem_of_lookup h)))
 · unfold aq4
   show _=N.length
   rw [List.length_append,List.length_map,List.length_replicate]
   omega
theorem fn_of {CX:CXT} {P:Program} {w:World} {K:PySem.W.Frag} {mg:Str→Option Value} {base:Heap} {k:Nat} {f:Addr} {name qual:Str} {params:Arguments} {body:List Stmt} {scope:Scope} {dV kV doc pm cdv ct oc:Value} {an od:Option Addr}
 {osl:Array (Option Value)} {N ps:List Str} {sp:Sp} (lk:K.lookup f=some ⟨oc,od,.func (PySem.W.fnOf name qual params body scope dV kV doc pm an cdv ct),osl⟩) (hcd:PySem.W.codeIn K cdv qual=true) (S:FnScope N ps scope)
 (len:∀ vs H Q E,sp vs H Q E→vs.length=ps.length)
 (hbody:∀ (A:Around) (outer:List Env) (s:Shared) (H:Hp) (vs:List V) (Q:VK) (E:XK),Room k (A.deeper (envOfC qual scope s.heap.objs.size f cdv))→sp vs H Q E →
   ∃ t,PSs (cxOf CX P w K mg base N qual scope f cdv A outer s H E) body t∧t { nx:=fun _ H'=>Q .non H',rt:=Q } (aq4 N vs) H) :
 FnOk P w K mg base CX (k + 1) f (PySem.W.fnOf name qual params body scope dV kV doc pm an cdv ct) ps sp:=by
 refine ⟨len,fun A outer s H args us vs Q E hr e0 hb r hsp=>?_⟩
 have hl:=len _ _ _ _ hsp
 have KX:K.In s.heap:=e0.mod.kin.keeps fun b o e=>(e0.bs b o e).1
 have lim:s.heap.NoLimit:=e0.mod.nolimit.keeps fun b o e=>(e0.bs b o e).1
 have hkind:∀ y∈ps.zip us,scope.names.lookup y.1=some .local∨(scope.names.lookup y.1=some .cell∧((cellsFrom (s.heap.objs.size + 1) scope.names []).lookup y.1).isSome=true):=fun ⟨n,v⟩ hy=>by
  rcases S.par n (List.of_mem_zip hy).1 with q | q
  · exact .inl q
  · exact .inr ⟨q,PySem.W.cellsFrom_some _ _ _ (.inl q)⟩
 refine codeAny_call_function hr.depth (KX _ _ lk) rfl S.co S.gen rfl (PySem.W.codeRec_of KX hcd) (hb _ _ _ _ ?_)
 refine wpAny_newFunctionEnv_cells S.kind hkind fun env he s1 x=>?_
 subst he
 refine ⟨lim.keeps x.toInCall.keep,codeAny_func ?_⟩
 obtain ⟨t,ht,hq⟩:=hbody A outer s H vs Q E (hr.deeper _) hsp
 have I:Inv (cxOf CX P w K mg base N qual scope f cdv A outer s H E) [] (aq4 N vs) H s1:=bc2 S hr.hd e0 hl r x
 refine wpAny_mono (ht [] s1 (aq4 N vs) H _ I hq) (fun fl s' hs=>?_) fun e s' hs=>hs
 have fin:∀ {σ':St} {H':Hp} {v:V} {u:Value},Inv (cxOf CX P w K mg base N qual scope f cdv A outer s H E) [] σ' H' s'→RelV v u→Q v H'→CE outer P w H s Q u s' :=
  fun {σ' H' v u} J rv q=>⟨v,H',J.os,J.bare,J.base,J.hok,rv,q⟩
 cases fl with
 | ret u =>
   obtain ⟨v,σ',H',J,rv,q⟩:=hs
   exact fin J rv q
 | next =>
   obtain ⟨σ',H',J,q⟩:=hs
   exact fin (v:=V.non) (u:=Value.none) J rfl q
 | brk =>
   obtain ⟨_,_,_,q⟩:=hs
   exact False.elim q
 | cont =>
   obtain ⟨_,_,_,q⟩:=hs
   exact False.elim q
section
variable {X:Cx} {x:Str} {p pos:Pos} {e:Expr} {es:List Expr} {t:TA} {id T:String} {r:List V→Hp→VK→Prop}
noncomputable def tCB (r:List V→Hp→VK→Prop) (t:TA):TE:=fun σ H Q=>t σ H fun vs H1=>r vs H1 Q
theorem ab9 (hc:ak7 X (.builtin id) r) (hg:Gl X x) (hm:X.mg x=none) (hv:bootBuiltins x=some (.builtin id)) (ha:PA X (e :: es) t) (hn:x ≠ "__name__" := by decide) (hdb:(x == ("__debug__" : Str))=false:=by decide)
 (he:starEach (e :: es) X.env=(false,eval e X.env) :: starEach es X.env:=by rfl) (hpl:(backTo pos (starEach es X.env)).any (·.1)=false:=by rfl):PE X (.Call (.Name x p) (e :: es) [] pos) (tCB r t):=by
 intro pins s σ H Q I h
 refine wpAny_Call_Name_kw (ax9 I hg hm hv ?_ hn hdb)
 exact PyProof.Rows.callWith_builtin1 (thn (ha pos pins s σ H _ I h) fun us s1 ⟨vs,H1,I1,r1,q1⟩=>hc pins s1 σ H1 vs us Q I1 r1 q1) he hpl
theorem ad2 (hc:ak7 X (.type T) r) (hg:Gl X x) (hm:X.mg x=none) (hv:bootBuiltins x=some (.type T)) (ha:PA X (e :: es) t) (hn:x ≠ "__name__" := by decide) (hdb:(x == ("__debug__" : Str))=false:=by decide)
 (he:starEach (e :: es) X.env=(false,eval e X.env) :: starEach es X.env:=by rfl) (hpl:(backTo pos (starEach es X.env)).any (·.1)=false:=by rfl):PE X (.Call (.Name x p) (e :: es) [] pos) (tCB r t):=by
 intro pins s σ H Q I h
 refine wpAny_Call_Name_kw (ax9 I hg hm hv ?_ hn hdb)
 exact PyProof.Rows.callWith_type1 (thn (ha pos pins s σ H _ I h) fun us s1 ⟨vs,H1,I1,r1,q1⟩=>hc pins s1 σ H1 vs us Q I1 r1 q1) he hpl
end
section
variable {κ:Type} [DecidableEq κ]
noncomputable def valV (kvs:List (κ×V)) (k:κ):Option V:=(kvs.find? fun kv=>decide (kv.1=k)).map (·.2)
noncomputable def putK (kvs:List (κ×V)) (k:κ) (v:V):List (κ×V) :=
 if (kvs.any fun kv=>decide (kv.1=k))=true then kvs.map (fun kv=>if kv.1=k then (kv.1,v) else kv) else kvs ++ [(k,v)]
theorem bi3 {k:κ}:valV ([]:List (κ×V)) k=none:=rfl
theorem ar2 {p:κ×V} {r:List (κ×V)} {k:κ} (e:p.1=k):valV (p :: r) k=some p.2:=by simp [valV,List.find?_cons,e]
theorem ar3 {p:κ×V} {r:List (κ×V)} {k:κ} (e:¬ p.1=k):valV (p :: r) k=valV r k:=by simp [valV,List.find?_cons,e]
theorem aO6 (k:κ):∀ kvs:List (κ×V),(kvs.any fun kv=>decide (kv.1=k))=(valV kvs k).isSome
 | []=>rfl
 | p :: r=>by
   rw [List.any_cons]
   by_cases e:p.1=k
   · simp only [ar2 e,decide_eq_true e,Bool.true_or,Option.isSome_some]
   · rw [ar3 e,decide_eq_false e,Bool.false_or]; exact aO6 k r
theorem at5 (kvs:List (κ×V)) (k:κ) (v:V):(putK kvs k v).length≤kvs.length + 1:=by
 unfold putK
 split
 · rw [List.length_map]; omega
 · rw [List.length_append,List.length_cons,List.length_nil]; omega
theorem RelO.isSome_eq {o:Option V} {u:Option Value} (r:RelO o u):o.isSome=u.isSome:=by
 cases o with
 | none=>cases u with
   | none=>rfl
   | some _=>exact (show False from r).elim
 | some _=>cases u with
   | none=>exact (show False from r).elim
   | some _=>rfl
theorem RelO.getD {o:Option V} {u:Option Value} {d:V} {d':Value} (r:RelO o u) (rd:RelV d d'):RelV (o.getD d) (u.getD d'):=by
 cases o with
 | none=>cases u with
   | none=>exact rd
   | some _=>exact (show False from r).elim
 | some _=>cases u with
   | none=>exact (show False from r).elim
   | some _=>exact r
theorem KV.val {kvs:List (κ×V)} {vs:List (κ×Value)} (r:KV kvs vs) (k:κ):RelO (valV kvs k) (valueAt vs k):=by
 unfold KV at r
 induction r with
 | nil=>exact True.intro
 | @cons p q ps qs h t ih =>
   obtain ⟨h1,h2⟩:=h
   by_cases e:p.1=k
   · have e':q.1=k:=h1.symm.trans e
     have b:valueAt (q :: qs) k=some q.2:=by simp [valueAt,List.find?_cons,e']
     rw [ar2 e,b]; exact h2
   · have e':¬ q.1=k:=fun z=>e (h1.trans z)
     have b:valueAt (q :: qs) k=valueAt qs k:=by simp [valueAt,List.find?_cons,e']
     rw [ar3 e,b]; exact ih
theorem KV.any {kvs:List (κ×V)} {vs:List (κ×Value)} (r:KV kvs vs) (k:κ):(kvs.any fun kv=>decide (kv.1=k))=vs.any fun kv=>decide (kv.1=k):=by
 unfold KV at r
 induction r with
 | nil=>rfl
 | cons h t ih=>rw [List.any_cons,List.any_cons,ih,h.1]
theorem KV.repl {kvs:List (κ×V)} {vs:List (κ×Value)} (r:KV kvs vs) (k:κ) {y:V} {u:Value} (ry:RelV y u) :
 KV (kvs.map fun kv=>if kv.1=k then (kv.1,y) else kv) (vs.map fun kv=>if kv.1=k then (kv.1,u) else kv):=by
 unfold KV at r ⊢
 induction r with
 | nil=>exact .nil
 | @cons p q ps qs h t ih =>
   rw [List.map_cons,List.map_cons]
   refine .cons ?_ ih
   obtain ⟨h1,h2⟩:=h
   by_cases e:p.1=k
   · rw [if_pos e,if_pos (h1.symm.trans e)]; exact ⟨h1,ry⟩
   · rw [if_neg e,if_neg (fun z=>e (h1.trans z))]; exact ⟨h1,h2⟩
theorem KV.put {kvs:List (κ×V)} {vs:List (κ×Value)} (r:KV kvs vs) (k:κ) {y:V} {u:Value} (ry:RelV y u):KV (putK kvs k y) (stored vs k u):=by
 unfold putK stored
 rw [r.any k]
 by_cases e:(vs.any fun kv=>decide (kv.1=k))=true
 · rw [if_pos e,if_pos e]; exact r.repl k ry
 · rw [if_neg e,if_neg e]; exact Paired.snoc r ⟨rfl,ry⟩
theorem KV.length {kvs:List (κ×V)} {vs:List (κ×Value)} (r:KV kvs vs):kvs.length=vs.length:=Paired.length r
end
theorem aT4 {P:Program} {w:World} {k:Key} {u:Value} (r:RelV (kV k) u):(ac3 P w).is k u=true:=by
 cases k with
 | inl i=>obtain ⟨t,e⟩:=(show ∃ t,u=Value.int i t from r); subst e; exact aK5 P w i t
 | inr x=>obtain ⟨t,e⟩:=(show ∃ t,u=Value.str x t from r); subst e; exact aK4 P w x t
theorem aF2 {P:Program} {w:World}:∀ {ks:List Key} {us:List Value},Vals (ks.map kV) us→ItemsAre (ac3 P w) ks us
 | [],_,r=>by rw [List.map_nil] at r; cases r; exact .nil
 | k :: ks,_,r=>by
   rw [List.map_cons] at r
   cases r with
   | cons h t=>exact .cons (aT4 h) (aF2 t)
noncomputable abbrev KT (H:Hp):List (List Key×V)→List (List Key×Addr×Value)→Prop:=Paired fun p q=>p.1=q.1∧H q.2.1=some (.tup (p.1.map kV))∧RelV p.2 q.2.2
theorem KT.val {H:Hp} {kvs:List (List Key×V)} {xs:List (List Key×Addr×Value)} (r:KT H kvs xs) (k:List Key):RelO (valV kvs k) ((atKey xs k).map (·.2)):=by
 induction r with
 | nil=>exact True.intro
 | @cons p q ps qs h t ih =>
   obtain ⟨h1,_,h2⟩:=h
   by_cases e:p.1=k
   · have e':q.1=k:=h1.symm.trans e
     have b:atKey (q :: qs) k=some q.2:=by simp [atKey,List.find?_cons,e']
     rw [ar2 e,b]; exact h2
   · have e':¬ q.1=k:=fun z=>e (h1.trans z)
     have b:atKey (q :: qs) k=atKey qs k:=by simp [atKey,List.find?_cons,e']
     rw [ar3 e,b]; exact ih
theorem KT.repl {H:Hp} {kvs:List (List Key×V)} {xs:List (List Key×Addr×Value)} (r:KT H kvs xs) (k:List Key) {y:V} {u:Value} (ry:RelV y u) :
 KT H (kvs.map fun kv=>if kv.1=k then (kv.1,y) else kv) (xs.map (putAt k u)):=by
 induction r with
 | nil=>exact .nil
 | @cons p q ps qs h t ih =>
   rw [List.map_cons,List.map_cons]
   refine .cons ?_ ih
   obtain ⟨h1,h2,h3⟩:=h
   unfold putAt
   by_cases e:p.1=k
   · rw [if_pos e,if_pos (h1.symm.trans e)]; exact ⟨h1,h2,ry⟩
   · rw [if_neg e,if_neg (fun z=>e (h1.trans z))]; exact ⟨h1,h2,h3⟩
theorem KT.put {H:Hp} {kvs:List (List Key×V)} {xs:List (List Key×Addr×Value)} (r:KT H kvs xs) (k:List Key) {b:Addr} {y:V} {u:Value} (hb:H b=some (.tup (k.map kV))) (ry:RelV y u) :
 KT H (putK kvs k y) (storedH xs k b u):=by
 have e:(kvs.any fun kv=>decide (kv.1=k))=(atKey xs k).isSome:=by
  rw [aO6,(r.val k).isSome_eq,Option.isSome_map]
 unfold putK storedH
 rw [e]
 by_cases q:(atKey xs k).isSome=true
 · rw [if_pos q,if_pos q]; exact r.repl k ry
 · rw [if_neg q,if_neg q]; exact Paired.snoc r ⟨rfl,hb,ry⟩
theorem KT.keeps {H H':Hp} {kvs:List (List Key×V)} {xs:List (List Key×Addr×Value)} (r:KT H kvs xs) (ht:∀ b ys,H b=some (.tup ys)→H' b=some (.tup ys)):KT H' kvs xs :=
 Paired.mapP r fun _ _ z=>⟨z.1,ht _ _ z.2.1,z.2.2⟩
section
variable {P:Program} {w:World} {H:Hp} {h:Heap} {a:Addr}
theorem bJ0 {u:HO} (ok:HOk P w H h) (e:Rd H a u):ObjOk P w H h a u:=e.ok ok
theorem aL5 {kvs:List (Key×V)} (ok:HOk P w H h) (e:Rd H a (.dK kvs)):kvs.length≤sizeLine∧(a == sysModules)=false∧∃ vs,KV kvs vs∧h.DictOf (ac3 P w) a vs :=
 show ObjOk P w H h a (.dK kvs) from bJ0 ok e
theorem dk_of {kvs:List (Key×V)} (ok:HOk P w H h) (e:H a=some (.dK kvs)):kvs.length≤sizeLine∧(a == sysModules)=false∧∃ vs,KV kvs vs∧h.DictOf (ac3 P w) a vs:=aL5 ok (.inl e)
theorem at8 {ks:List Key} (ok:HOk P w H h) (e:H a=some (.tup (ks.map kV))):(tupleKind (ac3 P w)).is h ks a:=by
 obtain ⟨_,its,r,o,h1,h2,n,h3⟩:=(show ObjOk P w H h a (.tup (ks.map kV)) from ok a _ e)
 exact ⟨o,its.toArray,n,h1,h2,h3,by simpa using aF2 r⟩
theorem aL2 {kvs:List (List Key×V)} (ok:HOk P w H h) (e:Rd H a (.dT kvs)):kvs.length≤sizeLine∧(a == sysModules)=false ∧
 ∃ xs,KT H kvs xs∧h.DictOfH (tupleKind (ac3 P w)) a xs:=by
 obtain ⟨z,y,xs,r,o,es,ep,h1,h2,h3,h4,h5⟩:=(show ObjOk P w H h a (.dT kvs) from bJ0 ok e)
 refine ⟨z,y,xs,r,o,es,ep,h1,h2,h3,h4,fun x hx=>?_,h5⟩
 have all:∀ {l:List (List Key×V)} {m:List (List Key×Addr×Value)},KT H l m→∀ x∈m,(tupleKind (ac3 P w)).is h x.1 x.2.1:=by
  intro l m q
  induction q with
  | nil=>intro x hx; exact nomatch hx
  | @cons p q ps qs hq t ih =>
    intro x hx
    rcases List.mem_cons.mp hx with e | hx
    · subst e
      exact at8 ok (by rw [← hq.1]; exact hq.2.1)
    · exact ih x hx
 exact all r x hx
theorem dt_of {kvs:List (List Key×V)} (ok:HOk P w H h) (e:H a=some (.dT kvs)):kvs.length≤sizeLine∧(a == sysModules)=false ∧
 ∃ xs,KT H kvs xs∧h.DictOfH (tupleKind (ac3 P w)) a xs:=aL2 ok (.inl e)
end
noncomputable def DGet (H:Hp) (a:Addr) (y:V) (r:Option V):Prop :=
 (∃ kvs k,Rd H a (.dK kvs)∧y=kV k∧r=valV kvs k)∨∃ kvs k b,Rd H a (.dT kvs)∧y= .ref b∧H b=some (.tup (k.map kV))∧r=valV kvs k
noncomputable def DPut (H:Hp) (a:Addr) (y v:V) (H':Hp):Prop :=
 (∃ kvs k,H a=some (.dK kvs)∧y=kV k∧kvs.length < sizeLine∧H'=upd H a (.dK (putK kvs k v))) ∨
 ∃ kvs k b,H a=some (.dT kvs)∧y= .ref b∧H b=some (.tup (k.map kV))∧kvs.length < sizeLine∧H'=upd H a (.dT (putK kvs k v))
theorem DGet.k {H:Hp} {a:Addr} {kvs:List (Key×V)} {k:Key} (e:H a=some (.dK kvs)):DGet H a (kV k) (valV kvs k):= .inl ⟨kvs,k,.inl e,rfl,rfl⟩
theorem DGet.t {H:Hp} {a b:Addr} {kvs:List (List Key×V)} {k:List Key} (e:H a=some (.dT kvs)) (eb:H b=some (.tup (k.map kV))):DGet H a (.ref b) (valV kvs k):= .inr ⟨kvs,k,b,.inl e,rfl,eb,rfl⟩
theorem DPut.k {H:Hp} {a:Addr} {kvs:List (Key×V)} {k:Key} {v:V} (e:H a=some (.dK kvs)) (hl:kvs.length < sizeLine):DPut H a (kV k) v (upd H a (.dK (putK kvs k v))):= .inl ⟨kvs,k,e,rfl,hl,rfl⟩
theorem DPut.t {H:Hp} {a b:Addr} {kvs:List (List Key×V)} {k:List Key} {v:V} (e:H a=some (.dT kvs)) (eb:H b=some (.tup (k.map kV))) (hl:kvs.length < sizeLine) :
 DPut H a (.ref b) v (upd H a (.dT (putK kvs k v))):= .inr ⟨kvs,k,b,e,rfl,eb,hl,rfl⟩
section
variable {X:Cx} {pins:List (Addr×Obj)} {σ:St} {H:Hp} {s:Shared} {a:Addr} {y v:V} {u r:Value} {o:Option V} {A:Around} {E:Value→Shared→Prop}
theorem Inv.big (I:Inv X pins σ H s):sysModules < s.heap.objs.size:=by
 have h:mainGlobals < s.heap.objs.size:=(I.mod.glob.keeps I.bk).lt
 exact Nat.lt_trans (by decide) h
theorem be2 {Q:Value→Shared→Prop} (hu:A.units + 1 < cLine) (I:Inv X pins σ H s) (g:DGet H a y (some v)) (ry:RelV y u) (h:∀ w' s',Inv X pins σ H s'→RelV v w'→Q w' s') :
 wpAny (model X.prog X.w) A (getItem (.ref a) u) Q E s:=by
 rcases g with ⟨kvs,k,e,ey,l⟩ | ⟨kvs,k,b,e,ey,eb,l⟩
 · subst ey
   obtain ⟨z,hd,vs,rel,dd⟩:=aL5 I.hok e
   obtain ⟨w',hw,rw'⟩:=RelO.some_of (v:=v) (o:=valueAt vs k) (by rw [l]; exact rel.val k)
   exact wpAny_getItem_of (aT4 ry) dd.mapOf hw (h w' _ (I.tok _) rw')
 · subst ey
   cases (show u=Value.ref b from ry)
   obtain ⟨z,hd,xs,rel,dd⟩:=aL2 I.hok e
   obtain ⟨w',hw,rw'⟩:=RelO.some_of (v:=v) (o:=(atKey xs k).map (·.2)) (by rw [l]; exact rel.val k)
   obtain ⟨p,hp,hp2⟩:=Option.map_eq_some_iff.mp hw
   refine wpAny_getItem_heap (tupleKind_room_in1 hu) (at8 I.hok eb) dd hp ?_
   rw [hp2]
   exact h w' _ (I.tok _) rw'
theorem d_in {Q:Value→Shared→Prop} (hu:A.units + 1 < cLine) (I:Inv X pins σ H s) (g:DGet H a y o) (ry:RelV y u) (h:∀ s',Inv X pins σ H s'→Q (.bool o.isSome) s') :
 wpAny (model X.prog X.w) A (compareOp .In u (.ref a)) Q E s:=by
 rcases g with ⟨kvs,k,e,ey,l⟩ | ⟨kvs,k,b,e,ey,eb,l⟩
 · subst ey
   obtain ⟨z,hd,vs,rel,dd⟩:=aL5 I.hok e
   refine wpAny_in_of (aT4 ry) hd dd.mapOf ?_
   rw [← (rel.val k).isSome_eq,← l]
   exact h _ (I.tok _)
 · subst ey
   cases (show u=Value.ref b from ry)
   obtain ⟨z,hd,xs,rel,dd⟩:=aL2 I.hok e
   refine wpAny_in_heap (tupleKind_room_in1 hu) (at8 I.hok eb) hd dd ?_
   have q:=(rel.val k).isSome_eq
   rw [Option.isSome_map] at q
   rw [← q,← l]
   exact h _ (I.tok _)
theorem be0 {h':Heap} {t':Nat} {ob:HO} (I:Inv X pins σ H s) (mu:Mut (H a)) (hs:Heap.SameBut a s.heap h') (he:∃ q,h'.get? a=some q) (new:ObjOk X.prog X.w (upd H a ob) h' a ob) :
 Inv X pins σ (upd H a ob) { s with heap:=h',toks:=t' } :=
 I.write (x:=a) (e:=a) mu (.inl rfl) (fun b q hb z=>(hs.2 b hb).trans z) he new
theorem bQ7 {P:Program} {w:World} {H':Hp} {h':Heap} {kvs:List (Key×V)} {vs:List (Key×Value)} (z:kvs.length≤sizeLine) (hd:(a == sysModules)=false) (rel:KV kvs vs) (dd:h'.DictOf (ac3 P w) a vs) :
 ObjOk P w H' h' a (.dK kvs):=⟨z,hd,vs,rel,dd⟩
theorem be1 {H':Hp} {Q:Unit→Shared→Prop} (hu:A.units + 1 < cLine) (I:Inv X pins σ H s) (g:DPut H a y v H') (ry:RelV y u) (rv:RelV v r) (h:∀ s',Inv X pins σ H' s'→Q () s') :
 wpAny (model X.prog X.w) A (setItem (.ref a) u r) Q E s:=by
 rcases g with ⟨kvs,k,e,ey,l,eH⟩ | ⟨kvs,k,b,e,ey,eb,l,eH⟩
 · subst ey eH
   obtain ⟨z,hd,vs,rel,dd⟩:=dk_of I.hok e
   have hz:vs.length≤sizeLine:=by rw [← rel.length]; exact z
   have hl:(putK kvs k v).length≤sizeLine:=by have:=at5 kvs k v; omega
   refine wpAny_setItem_pairs (hsz:=hz) (aT4 ry) dd fun h' dd' hs=>h _ ?_
   have he:∃ q,h'.get? a=some q:=let ⟨q,_,_,hq,_⟩:=dd'; ⟨q,hq⟩
   exact be0 I (by rw [e]; exact True.intro) hs he (bQ7 hl hd (rel.put k rv) dd')
 · subst ey eH
   cases (show u=Value.ref b from ry)
   obtain ⟨z,hd,xs,rel,dd⟩:=dt_of I.hok e
   have hz:xs.length≤sizeLine:=by rw [← Paired.length rel]; exact z
   have hl:(putK kvs k v).length≤sizeLine:=by have:=at5 kvs k v; omega
   refine wpAny_setItem_heap (hsz:=hz) (tupleKind_room_in1 hu) (at8 I.hok eb) dd fun h' dd' hs=>h _ ?_
   obtain ⟨q,es,ep,hq,h2,h3,h4,_,h5⟩:=dd'
   refine be0 I (by rw [e]; exact True.intro) hs ⟨q,hq⟩ ⟨hl,hd,_,(rel.put k eb rv).keeps fun c ys ec=>?_,q,es,ep,hq,h2,h3,h4,h5⟩
   rw [ab2 (bB2 ec e (fun z=>nomatch z))]
   exact ec
end
noncomputable def NoSl (i:Expr):Prop:=∀ ov iv,subscripted i false ov iv=operate [ov,iv] (getItem ov iv)
theorem bs5 {prog:Program} {w:World} {A:Around} {E:Value→Shared→Prop} {s:Shared} {env:Env} {value slice:Expr} {pos:Pos} {T id:String} {Q:Value→Shared→Prop}
 (hl:typeLookup (.type T) "__getitem__" = pure (some (.builtin id))) (hs:NoSl slice)
 (h:wpAny (model prog w) A (eval value env) (fun o s₁=>wpAny (model prog w) A (eval slice env) (fun i s₂=>s₂.TypeIs o T∧wpAny (model prog w) A (getItem o i) Q E s₂) E s₁) E s) :
 wpAny (model prog w) A (eval (.Subscript value slice pos) env) Q E s:=by
 refine Subscript_ (wpAny_mono h (fun o s₁ h₁=>wpAny_mono h₁ (fun i s₂ h₂=>?_) fun _ _ x=>x) fun _ _ x=>x)
 obtain ⟨hT,h₂⟩:=h₂
 unfold subscriptTail
 refine wpAny_bind ?_
 rw [getitemInPython_of_ne hT.not_modules]
 refine wpAny_bind (wpAny_specialOf hT hl ?_)
 have fin:wpAny (model prog w) A (subscripted slice false o i) (fun r s₃=>wpAny (model prog w) A (letTemporaryGo value o r >>= fun _=>pure r) Q E s₃) E s₂:=by
  rw [hs o i]
  exact wpAny_operating (wpAny_mono h₂ (fun r s₃ h₃=>wpAny_bind (wpAny_letTemporaryGo (wpAny_pure h₃))) fun _ _ x=>x)
 first
  | exact wpAny_pure (wpAny_bind fin)
  | exact wpAny_bind (wpAny_pure (wpAny_bind fin))
  | exact wpAny_bind fin
theorem aL6 {X:Cx} {pins:List (Addr×Obj)} {σ:St} {H:Hp} {s:Shared} {a:Addr} {y:V} {o:Option V} (I:Inv X pins σ H s) (g:DGet H a y o):s.TypeIs (.ref a) "dict" := by
 rcases g with ⟨kvs,k,e,_,_⟩ | ⟨kvs,k,b,e,_,_,_⟩
 · obtain ⟨_,_,vs,_,dd⟩:=aL5 I.hok e
   exact dd.typeIs
 · obtain ⟨_,_,xs,_,dd⟩:=aL2 I.hok e
   exact dd.typeIs
noncomputable def bH7 (td ty:TE):TE:=fun σ H Q=>td σ H fun x H1=>ty σ H1 fun y H2=>∃ a v,x= .ref a∧DGet H2 a y (some v)∧Q v H2
noncomputable def tDIn (ty td:TE):TE:=fun σ H Q=>ty σ H fun y H1=>td σ H1 fun x H2=>∃ a o,x= .ref a∧DGet H2 a y o∧Q (.bl o.isSome) H2
noncomputable def bI9 (td ty tv:TE):TS:=fun D σ H=>tv σ H fun v H1=>td σ H1 fun x H2=>ty σ H2 fun y H3=>∃ a H4,x= .ref a∧DPut H3 a y v H4∧D.nx σ H4
section
variable {X:Cx} {o i e value:Expr} {pos pos' tpos:Pos} {td ty tv:TE}
theorem aJ5 (hu:X.A.units + 1 < cLine) (ho:PE X o td) (hi:PE X i ty) (hs:NoSl i):PE X (.Subscript o i pos) (bH7 td ty):=by
 intro pins s σ H Q I h
 refine bs5 PySem.F.slot_dict_getitem.lookup hs (thn (ho pins s σ H _ I h) fun u s1 ⟨x,H1,I1,rx,q1⟩=>thn (hi pins s1 σ H1 _ I1 q1) fun iv s2 ⟨y,H2,I2,ry,a,v,ex,g,q2⟩=>?_)
 subst ex
 obtain rfl:u=Value.ref a:=rx
 exact ⟨aL6 I2 g,be2 hu I2 g ry fun w' s3 I3 rw'=>⟨v,H2,I3,rw',q2⟩⟩
theorem bK5 (hu:X.A.units + 1 < cLine) (hi:PE X i ty) (ho:PE X o td):PC X .In i o (tDIn ty td):=by
 intro pins s σ H Q I h
 refine thn (hi pins s σ H _ I h) fun iv s1 ⟨y,H1,I1,ry,q1⟩=>thn (ho pins s1 σ H1 _ I1 q1) fun u s2 ⟨x,H2,I2,rx,a,ov,ex,g,q2⟩=>?_
 subst ex
 obtain rfl:u=Value.ref a:=rx
 exact d_in hu I2 g ry fun s3 I3=>⟨.bl ov.isSome,H2,I3,rfl,q2⟩
theorem as3 (hu:X.A.units + 1 < cLine) (ho:PE X o td) (hi:PE X i ty) (hv:PE X value tv) (hs:swapsWith value (some (.Subscript o i pos')) pos.line X.env=pure false) :
 PS X (.Assign [.Subscript o i pos'] value pos) (bI9 td ty tv):=by
 intro pins s σ H D I h
 refine wpAny_Assign_Subscript (thn (hv pins s σ H _ I h) fun r s1 ⟨v,H1,I1,rv,q1⟩=>thn (ho pins s1 σ H1 _ I1 q1) fun u s2 ⟨x,H2,I2,rx,q2⟩=>thn (hi pins s2 σ H2 _ I2 q2) fun iv s3 ⟨y,H3,I3,ry,a,H4,ex,g,q3⟩=>?_) hs
 subst ex
 obtain rfl:u=Value.ref a:=rx
 exact be1 hu I3 g ry rv fun s4 I4=>⟨σ,H4,I4,q3⟩
end
theorem bm5 {P:Program} {w:World} {H:Hp} (h:Heap) (hb:sysModules < h.objs.size):ObjOk P w H (h.push { cls:= .type "dict",data:= .dict #[] }) h.objs.size (.dT []) :=
 ⟨Nat.zero_le _,beq_eq_false_iff_ne.mpr (Ne.symm (Nat.ne_of_lt hb)),[],.nil,_,#[],0,Heap.get?_push_size _ rfl,⟨rfl,rfl,rfl⟩,rfl,rfl,List.nodup_nil⟩
noncomputable def bn9:TE:=fun _ H Q=>∀ p,H p=none→Q (.ref p) (upd H p (.dT []))
section
variable {X:Cx} {pos:Pos}
theorem ag7:PE X (.Dict [] [] pos) bn9:=fun pins s σ H Q I h =>
 wpAny_Dict_empty ⟨.ref s.heap.objs.size,_,I.laid (a:=s.heap.objs.size) (o:= .dT []) (t':=s.toks) (fun _ _ q=>Heap.get?_push_of_some _ q) (Nat.le_refl _) (bm5 s.heap I.big),rfl,h _ (I.hok.fresh (Nat.le_refl _))⟩
end
structure M1 (X:Cx) (o:Expr) (m:Str) (apos:Pos) (e:Expr) (cpos:Pos):Prop where
 base:attributeBase o m X.env (eval o X.env)=eval o X.env
 few:((backTo cpos (starEach [e] X.env)).all (fun x=>!x.1) && (backToKw cpos (keywordEach [] X.env)).all (fun x=>x.1.isSome)
  && decide (([e]:List Expr).length + ([]:List Keyword).length + (if ([]:List Keyword).isEmpty then 0 else 1) < 30))=true
 line:(apos.endLine == cpos.line)=true
 trees:backTo cpos (starEach [e] X.env)=[(false,eval e X.env)]
structure M2 (X:Cx) (o:Expr) (m:Str) (apos:Pos) (e f:Expr) (cpos:Pos):Prop where
 base:attributeBase o m X.env (eval o X.env)=eval o X.env
 few:((backTo cpos (starEach [e,f] X.env)).all (fun x=>!x.1) && (backToKw cpos (keywordEach [] X.env)).all (fun x=>x.1.isSome)
  && decide (([e,f]:List Expr).length + ([]:List Keyword).length + (if ([]:List Keyword).isEmpty then 0 else 1) < 30))=true
 line:(apos.endLine == cpos.line)=true
 trees:backTo cpos (starEach [e,f] X.env)=[(false,eval e X.env),(false,eval f X.env)]
noncomputable def IsD (H:Hp) (a:Addr):Prop:=(∃ kvs,Rd H a (.dK kvs))∨∃ kvs,Rd H a (.dT kvs)
theorem br1 {X:Cx} {pins:List (Addr×Obj)} {σ:St} {H:Hp} {s:Shared} {a:Addr} (I:Inv X pins σ H s) (d:IsD H a) :
 s.TypeIs (.ref a) "dict" ∧ (∀ b,Value.ref a= .ref b→∃ ob,s.heap.get? b=some ob∧ob.dict=none)∧(a == sysModules)=false:=by
 rcases d with ⟨kvs,e⟩ | ⟨kvs,e⟩
 · obtain ⟨_,hd,vs,_,dd⟩:=aL5 I.hok e
   refine ⟨dd.typeIs,fun b q=>?_,hd⟩
   cases q
   obtain ⟨ob,_,_,h1,h2,_⟩:=dd
   exact ⟨ob,h1,h2.2.1⟩
 · obtain ⟨_,hd,xs,_,dd⟩:=aL2 I.hok e
   refine ⟨dd.typeIs,fun b q=>?_,hd⟩
   cases q
   obtain ⟨ob,_,_,h1,h2,_⟩:=dd
   exact ⟨ob,h1,h2.2.1⟩
section
variable {X:Cx} {pins:List (Addr×Obj)} {σ:St} {H:Hp} {s:Shared} {a:Addr} {y d:V} {u r:Value} {o:Option V} {A:Around} {E:Value→Shared→Prop}
theorem bR2 {Q:Value→Shared→Prop} (hu:A.units + 1 < cLine) (I:Inv X pins σ H s) (g:DGet H a y o) (ry:RelV y u) (h:∀ w' s',Inv X pins σ H s'→RelV (o.getD .non) w'→Q w' s') :
 wpAny (model X.prog X.w) A (call (.builtin "dict.get") [.ref a,u]) Q E s:=by
 rcases g with ⟨kvs,k,e,ey,l⟩ | ⟨kvs,k,b,e,ey,eb,l⟩
 · subst ey
   obtain ⟨z,hd,vs,rel,dd⟩:=aL5 I.hok e
   refine call_meetsIn PySem.F.slot_dict_get dd.typeIs PySem.F.entry_dict_get (PySem.F.args_dict_get_2 _ _) (meets_dict_get (ac3 X.prog X.w) a (aT4 ry) hd) ⟨_,dd.mapOf,h _ _ (I.tok _) ?_⟩
   rw [l]
   exact (rel.val k).getD rfl
 · subst ey
   cases (show u=Value.ref b from ry)
   obtain ⟨z,hd,xs,rel,dd⟩:=aL2 I.hok e
   refine call_meetsIn PySem.F.slot_dict_get dd.typeIs PySem.F.entry_dict_get (PySem.F.args_dict_get_2 _ _) (meetsH_dict_get (tupleKind (ac3 X.prog X.w)) a b hd) ⟨tupleKind_room_in1 hu,k,xs,at8 I.hok eb,dd,h _ _ (I.tok _) ?_⟩
   rw [l]
   exact (rel.val k).getD rfl
theorem bR1 {Q:Value→Shared→Prop} (hu:A.units + 1 < cLine) (I:Inv X pins σ H s) (g:DGet H a y o) (ry:RelV y u) (rd:RelV d r) (h:∀ w' s',Inv X pins σ H s'→RelV (o.getD d) w'→Q w' s') :
 wpAny (model X.prog X.w) A (call (.builtin "dict.get") [.ref a,u,r]) Q E s:=by
 rcases g with ⟨kvs,k,e,ey,l⟩ | ⟨kvs,k,b,e,ey,eb,l⟩
 · subst ey
   obtain ⟨z,hd,vs,rel,dd⟩:=aL5 I.hok e
   refine call_meetsIn PySem.F.slot_dict_get dd.typeIs PySem.F.entry_dict_get (PySem.F.args_dict_get_3 _ _ _) (meets_dict_get_default (ac3 X.prog X.w) a (aT4 ry) hd r) ⟨_,dd.mapOf,h _ _ (I.tok _) ?_⟩
   rw [l]
   exact (rel.val k).getD rd
 · subst ey
   cases (show u=Value.ref b from ry)
   obtain ⟨z,hd,xs,rel,dd⟩:=aL2 I.hok e
   refine call_meetsIn PySem.F.slot_dict_get dd.typeIs PySem.F.entry_dict_get (PySem.F.args_dict_get_3 _ _ _) (meetsH_dict_get_default (tupleKind (ac3 X.prog X.w)) a b hd r) ⟨tupleKind_room_in1 hu,k,xs,at8 I.hok eb,dd,h _ _ (I.tok _) ?_⟩
   rw [l]
   exact (rel.val k).getD rd
end
noncomputable def bo1 (td ty:TE):TE:=fun σ H Q=>td σ H fun x H1=>∃ a,x= .ref a∧IsD H1 a∧ty σ H1 fun y H2=>∃ o,DGet H2 a y o∧Q (o.getD .non) H2
noncomputable def bo0 (td ty tx:TE):TE:=fun σ H Q=>td σ H fun x H1=>∃ a,x= .ref a∧IsD H1 a∧ty σ H1 fun y H2=>tx σ H2 fun z H3=>∃ o,DGet H3 a y o∧Q (o.getD z) H3
section
variable {X:Cx} {o e f:Expr} {apos cpos:Pos} {td ty tx:TE}
theorem bj8 (hu:X.A.units + 1 < cLine) (ho:PE X o td) (he:PE X e ty) (m:M1 X o "get" apos e cpos):PE X (.Call (.Attribute o "get" apos) [e] [] cpos) (bo1 td ty):=by
 intro pins s σ H Q I h
 refine wpAny_Call_method m.base m.few m.line PySem.F.plainAttrs_dict PySem.F.slot_dict_get PySem.F.type_dict_get (thn (ho pins s σ H _ I h) fun u s1 ⟨x,H1,I1,rx,a,ex,d,q1⟩=>?_)
 subst ex
 obtain rfl:u=Value.ref a:=rx
 obtain ⟨t1,t2,_⟩:=br1 I1 d
 refine ⟨t1,t2,?_⟩
 rw [m.trees]
 refine Calls.callWith_builtin rfl (Calls.evalArgs_plain (Calls.spliced_cons (thn (he pins s1 σ H1 _ I1 q1) fun iv s2 ⟨y,H2,I2,ry,ov,g,q2⟩=>Calls.spliced_nil ?_)))
 exact bR2 hu I2 g ry fun w' s3 I3 rw'=>⟨_,H2,I3,rw',q2⟩
theorem aA1 (hu:X.A.units + 1 < cLine) (ho:PE X o td) (he:PE X e ty) (hf:PE X f tx) (m:M2 X o "get" apos e f cpos):PE X (.Call (.Attribute o "get" apos) [e,f] [] cpos) (bo0 td ty tx):=by
 intro pins s σ H Q I h
 refine wpAny_Call_method m.base m.few m.line PySem.F.plainAttrs_dict PySem.F.slot_dict_get PySem.F.type_dict_get (thn (ho pins s σ H _ I h) fun u s1 ⟨x,H1,I1,rx,a,ex,d,q1⟩=>?_)
 subst ex
 obtain rfl:u=Value.ref a:=rx
 obtain ⟨t1,t2,_⟩:=br1 I1 d
 refine ⟨t1,t2,?_⟩
 rw [m.trees]
 refine Calls.callWith_builtin rfl (Calls.evalArgs_plain (Calls.spliced_cons (thn (he pins s1 σ H1 _ I1 q1) fun iv s2 ⟨y,H2,I2,ry,q2⟩ =>
  Calls.spliced_cons (thn (hf pins s2 σ H2 _ I2 q2) fun fv s3 ⟨z,H3,I3,rz,ov,g,q3⟩=>Calls.spliced_nil ?_))))
 exact bR1 hu I3 g ry rz fun w' s4 I4 rw'=>⟨_,H3,I4,rw',q3⟩
end
end L2
namespace HT
open PySem PyProof.Rows
noncomputable def aq7:List Int→List Int→Bool
 | [],[]=>false
 | [],_ :: _=>true
 | _ :: _,[]=>false
 | x :: xs,y :: ys=>if x=y then aq7 xs ys else decide (x < y)
theorem ap0 (x y:Int) (xs ys:List Int):aq7 (x :: xs) (y :: ys)=if x=y then aq7 xs ys else decide (x < y):=rfl
theorem aw8 (y:Int) (ys:List Int):aq7 [] (y :: ys)=true:=rfl
theorem aw9 (x:Int) (xs:List Int):aq7 (x :: xs) []=false:=rfl
end HT
namespace L2
open PySem PySem.Spec PyProof.Rows
noncomputable abbrev TO:=St→Hp→(Option Int→Hp→Prop)→Prop
theorem ay2 {ns:List Int}:∀ {us:List Value},Vals (ns.map V.int) us→IntsAre us ns:=by
 induction ns with
 | nil=>intro us r; rw [List.map_nil] at r; cases r; exact .nil
 | cons n ns ih =>
   intro us r
   rw [List.map_cons] at r
   cases r with
   | cons r1 r2 =>
     obtain ⟨t,e⟩:=r1
     subst e
     exact .cons n t (ih r2)
noncomputable def ixN (n:Nat) (i:Int):Option Nat:=if 0≤i then (if i < n then some i.toNat else none) else if -(n:Int)≤i then some (i + n).toNat else none
noncomputable def atI {α:Type} (xs:List α) (i:Int):Option α:=(ixN xs.length i).bind fun j=>xs[j]?
theorem bb9 {n:Nat} {i:Int} {j:Nat} (h:ixN n i=some j):seqIndex? i n=some j∧j < n∧-(n:Int)≤i∧i < n:=by
 unfold ixN at h
 by_cases h0:0≤i
 · rw [if_pos h0] at h
   by_cases h1:i < n
   · rw [if_pos h1] at h
     have e:i.toNat=j:=Option.some.inj h
     exact ⟨by rw [seqIndex_of h0 h1,e],by omega,by omega,h1⟩
   · rw [if_neg h1] at h; cases h
 · rw [if_neg h0] at h
   by_cases h1:-(n:Int)≤i
   · rw [if_pos h1] at h
     have e:(i + n).toNat=j:=Option.some.inj h
     exact ⟨by rw [seqIndex_neg (by omega) h1,e],by omega,h1,by omega⟩
   · rw [if_neg h1] at h; cases h
theorem bh8 {α:Type} {xs:List α} {i:Int} {v:α} (h:atI xs i=some v):∃ j,seqIndex? i xs.length=some j∧xs[j]?=some v∧j < xs.length∧-(xs.length:Int)≤i∧i < xs.length:=by
 unfold atI at h
 cases e:ixN xs.length i with
 | none=>rw [e] at h; cases h
 | some j =>
   rw [e] at h
   obtain ⟨h1,h2,h3,h4⟩:=bb9 e
   exact ⟨j,h1,h,h2,h3,h4⟩
theorem aR5 {α:Type} (xs:List α) (v:α):atI (xs ++ [v]) (-1)=some v:=by
 have hl:(xs ++ [v]).length=xs.length + 1:=by simp
 have e:ixN (xs ++ [v]).length (-1)=some xs.length:=by
  unfold ixN
  rw [hl,if_neg (by decide),if_pos (by omega)]
  congr 1
  omega
 unfold atI
 rw [e]
 show (xs ++ [v])[xs.length]?=some v
 simp
noncomputable def bH0 (b:Expr):Prop:=∀ o i,subscripted b false o i=operate [o,i] (getItem o i)
noncomputable def IxR (X:Cx) (r:R2):Prop :=
 ∀ (value slice:Expr) (pins:List (Addr×Obj)) (s:Shared) (σ:St) (H:Hp) (x y:V) (v u:Value) (Q:VK),Inv X pins σ H s→RelV x v→RelV y u→r x y H Q →
  subscripted slice false v u=operate [v,u] (getItem v u)→wpAny (model X.prog X.w) X.A (subscriptTail value slice v u) (EP X pins σ Q) X.xe s
noncomputable def MtR (X:Cx) (id:String) (r:V→List V→Hp→VK→Prop):Prop :=
 ∀ (pins:List (Addr×Obj)) (s:Shared) (σ:St) (H:Hp) (x:V) (xs:List V) (v:Value) (us:List Value) (Q:VK),Inv X pins σ H s→RelV x v→Vals xs us→r x xs H Q →
  wpAny (model X.prog X.w) X.A (call (.builtin id) (v :: us)) (EP X pins σ Q) X.xe s
section
variable {X:Cx} {a b:Expr} {ta tb:TE} {pos:Pos}
theorem ae5 {r:R2} (hr:IxR X r) (ha:PE X a ta) (hb:PE X b tb) (hs:bH0 b):PE X (.Subscript a b pos) (tOp r ta tb):=by
 intro pins s σ H Q I h
 exact Subscript_ (binT ha hb I h fun v u s2 x y H2 I2 rx ry q=>hr a b pins s2 σ H2 x y v u Q I2 rx ry q (hs _ _))
noncomputable def rIxL (K:PySem.W.Frag):R2:=fun x y H Q=>∃ p xs i v,x= .ref p∧y= .int i∧SqL K H p xs∧atI xs i=some v∧Q v H
noncomputable def rIxT (K:PySem.W.Frag):R2:=fun x y H Q=>∃ p xs i v,x= .ref p∧y= .int i∧SqT K H p xs∧atI xs i=some v∧Q v H
theorem bD7:IxR X (rIxL X.K):=by
 intro value slice pins s σ H x y v u Q I rx ry h hs
 obtain ⟨p,xs,i,z,rfl,rfl,hq,he,q⟩:=h
 cases rx
 obtain ⟨t,rfl⟩:=ry
 obtain ⟨its,r,pl,hz⟩:=I.list hq
 obtain ⟨j,h1,h2,h3,h4,h5⟩:=bh8 he
 obtain ⟨w,ew,rw'⟩:=r.get h2
 have hl:=r.length
 have hn:=bb0
 have fin:EP X pins σ Q w s:=⟨z,H,I,rw',q⟩
 by_cases h0:0≤i
 · have hj:i.toNat=j:=by
    rw [seqIndex_of h0 h5] at h1
    exact Option.some.inj h1
   exact item_listR pl.isList h0 (by omega) (by rw [hj]; simpa using ew) fin hs
 · have hj:(i + (its.toArray.size:Int)).toNat=j:=by
    rw [seqIndex_neg (by omega) h4] at h1
    rw [List.size_toArray,← hl]
    exact Option.some.inj h1
   exact subscriptTail_builtinR (x:=w) pl.isList.typeIs slot_list_getitem.lookup
    (wpAny_getItem_list_neg (Q:=fun r s'=>r=w∧EP X pins σ Q r s') pl.isList (by omega) (by rw [List.size_toArray] <;> omega) (by omega) (by rw [hj]; simpa using ew) ⟨rfl,fin⟩) hs
theorem bP3:IxR X (rIxT X.K):=by
 intro value slice pins s σ H x y v u Q I rx ry h hs
 obtain ⟨p,xs,i,z,rfl,rfl,hq,he,q⟩:=h
 cases rx
 obtain ⟨t,rfl⟩:=ry
 obtain ⟨its,r,pl,hz⟩:=I.tuple hq
 obtain ⟨j,h1,h2,h3,h4,h5⟩:=bh8 he
 obtain ⟨w,ew,rw'⟩:=r.get h2
 have hl:=r.length
 have hn:=bb0
 have fin:EP X pins σ Q w s:=⟨z,H,I,rw',q⟩
 exact subscriptTail_builtinR (x:=w) pl.typeIs slot_tuple_getitem.lookup
  (getItem_tuple (j:=j) (Q:=fun r s'=>r=w∧EP X pins σ Q r s') pl (by omega) (by omega) (by rw [List.size_toArray,← hl]; exact h1) (by simpa using ew) ⟨rfl,fin⟩) hs
theorem aH1:ak7 X (.builtin "len") (fun xs H Q=>∃ p ys,xs=[.ref p]∧(SqL X.K H p ys∨SqT X.K H p ys)∧Q (.int ys.length) H):=by
 intro pins s σ H xs us Q I r h
 obtain ⟨p,ys,rfl,hq,q⟩:=h
 obtain ⟨u,rfl,rx⟩:=bs2 r
 cases rx
 have hn:=bb0
 rcases hq with hq | hq
 · obtain ⟨its,r',pl,hz⟩:=I.list hq
   have hlen:=r'.length
   exact Calls.call_len_list pl.isList (by simp only [List.size_toArray] <;> omega) ⟨.int ys.length,H,I.tok _,⟨s.toks + 1,by rw [List.size_toArray,hlen]⟩,q⟩
 · obtain ⟨its,r',pl,hz⟩:=I.tuple hq
   have hlen:=r'.length
   exact len_tuple pl (by simp only [List.size_toArray] <;> omega) ⟨.int ys.length,H,I.tok _,⟨s.toks + 1,by rw [List.size_toArray,hlen]⟩,q⟩
theorem aH0:ak7 X (.type "list") (fun xs H Q=>∃ p ys,xs=[.ref p]∧(SqL X.K H p ys∨SqT X.K H p ys)∧∀ l,H l=none→Q (.ref l) (upd H l (.lst ys))):=by
 intro pins s σ H xs us Q I r h
 obtain ⟨p,ys,rfl,hq,q⟩:=h
 obtain ⟨u,rfl,rx⟩:=bs2 r
 cases rx
 have fin:∀ (its:List Value),Vals ys its→ys.length≤sizeLine→∀ (h':Heap) (c':Nat),(∀ b o',s.heap.get? b=some o'→h'.get? b=some o') →
  h'.get? s.heap.objs.size=some { cls:= .type "list",dict:=none,data:= .seq its.toArray c',slots:=#[] }→EP X pins σ Q (.ref s.heap.objs.size) { s with heap:=h' }:=fun its r' hz h' c' kp e =>
  ⟨.ref s.heap.objs.size,_,I.laid (t':=s.toks) kp (Nat.le_refl _) (show ObjOk X.prog X.w _ h' _ (.lst ys) from ⟨hz,its,c',r',e⟩),rfl,q _ (I.hok.fresh (Nat.le_refl _))⟩
 rcases hq with hq | hq
 · obtain ⟨its,r',pl,hz⟩:=I.list hq
   have hlen:=r'.length
   obtain ⟨o,ho,hc,n,hd⟩:=pl.isList
   exact call_list_seq p (.inl rfl) ho hc hd (fun h' c' kp e=>fin its r' hz h' c' kp e) (by simp only [List.size_toArray] <;> omega)
 · obtain ⟨its,r',pl,hz⟩:=I.tuple hq
   have hlen:=r'.length
   obtain ⟨o,ho,hc,n,hd⟩:=pl
   exact call_list_seq p (.inr rfl) ho hc hd (fun h' c' kp e=>fin its r' hz h' c' kp e) (by simp only [List.size_toArray] <;> omega)
theorem aB9:ak7 X (.type "tuple") (fun xs H Q=>∃ p ys,xs=[.ref p]∧((SqL X.K H p ys∧∀ l,H l=none→Q (.ref l) (upd H l (.tup ys)))∨(SqT X.K H p ys∧Q (.ref p) H))):=by
 intro pins s σ H xs us Q I r h
 obtain ⟨p,ys,rfl,h⟩:=h
 obtain ⟨u,rfl,rx⟩:=bs2 r
 cases rx
 rcases h with ⟨hq,q⟩ | ⟨hq,q⟩
 · obtain ⟨its,r',pl,hz⟩:=I.list hq
   have hlen:=r'.length
   refine call_tuple_list pl.isList (fun h' kp=>?_) (by simp only [List.size_toArray] <;> omega)
   have I1:Inv X pins σ H { s with heap:=h' }:=I.kept (t':=s.toks) kp
   have I2:Inv X pins σ (upd H h'.objs.size (.tup ys)) { s with heap:=h'.push { cls:= .type "tuple",data:= .seq its.toArray } } :=
    I1.laid (t':=s.toks) (fun b o e=>Heap.get?_push_of_some _ e) (Nat.le_refl _) (show ObjOk X.prog X.w _ _ _ (.tup ys) from ⟨hz,its,r',IsTup.new _ _⟩)
   exact ⟨.ref h'.objs.size,_,I2,rfl,q _ (I1.hok.fresh (Nat.le_refl _))⟩
 · obtain ⟨its,r',pl,hz⟩:=I.tuple hq
   exact call_tuple_same pl ⟨.ref p,H,I,rfl,q⟩
noncomputable def tyV (K:PySem.W.Frag) (T:String) (x:V) (H:Hp):Prop:=match x with
 | .str _=>T = "str"
 | .int _=>T = "int"
 | .ref p=>(T = "list" ∧ ∃ xs,SqL K H p xs)∨(T = "tuple" ∧ ∃ o,K.lookup p=some o∧o.cls= .type "tuple" ∧ o.dict=none) ∨
    (T = "dict" ∧ ((∃ kvs,H p=some (.dK kvs))∨∃ kvs,H p=some (.dT kvs)))∨(T = "set" ∧ ∃ S n,H p=some (.set S n))
 | _=>False
theorem bn6 {pins:List (Addr×Obj)} {σ:St} {H:Hp} {s:Shared} {T:String} {x:V} {v:Value} (I:Inv X pins σ H s) (r:RelV x v) (ty:tyV X.K T x H) :
 s.TypeIs v T∧∀ a,v= .ref a→∃ ob,s.heap.get? a=some ob∧ob.dict=none:=by
 cases x with
 | str z =>
   obtain ⟨t,rfl⟩:=r
   cases (show T = "str" from ty)
   exact ⟨typeIs_str s z t,fun _ e=>nomatch e⟩
 | int i =>
   obtain ⟨t,rfl⟩:=r
   cases (show T = "int" from ty)
   exact ⟨typeIs_int s i t,fun _ e=>nomatch e⟩
 | ref p =>
   cases r
   rcases ty with ⟨rfl,xs,hq⟩ | ⟨rfl,o,hk,hc,hd⟩ | ⟨rfl,hk⟩ | ⟨rfl,S,n,hk⟩
   · obtain ⟨its,_,pl,_⟩:=I.list hq
     refine ⟨pl.isList.typeIs,fun a e=>?_⟩
     cases e
     obtain ⟨o,n,e,c,hd,_⟩:=pl
     exact ⟨o,e,hd⟩
   · refine ⟨⟨o,I.kIn p o hk,hc⟩,fun a e=>?_⟩
     cases e
     exact ⟨o,I.kIn _ o hk,hd⟩
   · have z:∃ o,s.heap.get? p=some o∧o.ExactDict:=by
      rcases hk with ⟨kvs,hk⟩ | ⟨kvs,hk⟩
      · obtain ⟨_,_,_,_,o,_,_,e,ex,_⟩:=I.hok p _ hk
        exact ⟨o,e,ex⟩
      · obtain ⟨_,_,_,_,o,_,_,e,ex,_⟩:=I.hok p _ hk
        exact ⟨o,e,ex⟩
     obtain ⟨o,e,ex⟩:=z
     refine ⟨⟨o,e,ex.1⟩,fun a e2=>?_⟩
     cases e2
     exact ⟨o,e,ex.2.1⟩
   · obtain ⟨o,_,_,_,e,ex,_⟩:=I.hok p _ hk
     refine ⟨⟨o,e,ex.1⟩,fun a e2=>?_⟩
     cases e2
     exact ⟨o,e,ex.2.1⟩
 | _=>exact False.elim ty
noncomputable def tBM0 (K:PySem.W.Frag) (T:String) (r:V→List V→Hp→VK→Prop) (to:TE):TE:=fun σ H Q=>to σ H fun x H1=>tyV K T x H1∧r x [] H1 Q
noncomputable def tBM (K:PySem.W.Frag) (T:String) (r:V→List V→Hp→VK→Prop) (to:TE) (t:TA):TE:=fun σ H Q=>to σ H fun x H1=>tyV K T x H1∧t σ H1 fun xs H2=>r x xs H2 Q
variable {o e:Expr} {es:List Expr} {to:TE} {t:TA} {name:Str} {apos cpos:Pos} {T id:String} {r:V→List V→Hp→VK→Prop}
theorem bK2 (pa:PlainAttrs T) (slot:Slot T name id) (hty:typeOf (.builtin id)=pure (.type "method_descriptor")) (hm:MtR X id r) (ho:PE X o to)
 (hbase:attributeBase o name X.env (eval o X.env)=eval o X.env:=by rfl) (hline:(apos.endLine == cpos.line)=true:=by rfl):PE X (.Call (.Attribute o name apos) [] [] cpos) (tBM0 X.K T r to):=by
 intro pins s σ H Q I h
 refine wpAny_Call_method0_late hbase hline (thn (ho pins s σ H _ I h) fun v s1 ⟨x,H1,I1,r1,ty,q1⟩=>?_)
 obtain ⟨h1,h2⟩:=bn6 I1 r1 ty
 exact ⟨T,id,pa,slot,hty,h1,h2,Calls.callWith_builtin rfl (PySem.evalArgs_none (hm pins s1 σ H1 x [] v [] Q I1 r1 .nil q1))⟩
theorem bK3 (pa:PlainAttrs T) (slot:Slot T name id) (hty:typeOf (.builtin id)=pure (.type "method_descriptor")) (hm:MtR X id r) (ho:PE X o to) (ha:PA X (e :: es) t)
 (hbase:attributeBase o name X.env (eval o X.env)=eval o X.env:=by rfl)
 (hfew:((backTo cpos (starEach (e :: es) X.env)).all (fun x=>!x.1) && (backToKw cpos (keywordEach [] X.env)).all (fun x=>x.1.isSome)
   && decide ((e :: es).length + ([]:List Keyword).length + (if ([]:List Keyword).isEmpty then 0 else 1) < 30))=true:=by rfl)
 (hline:(apos.endLine == cpos.line)=true:=by rfl) (hs:starEach (e :: es) X.env=(false,eval e X.env) :: starEach es X.env:=by rfl) (hplain:(backTo cpos (starEach es X.env)).any (·.1)=false:=by rfl) :
 PE X (.Call (.Attribute o name apos) (e :: es) [] cpos) (tBM X.K T r to t):=by
 intro pins s σ H Q I h
 refine wpAny_Call_method_late hbase hfew hline rfl (thn (ho pins s σ H _ I h) fun v s1 ⟨x,H1,I1,r1,ty,q1⟩=>?_)
 obtain ⟨h1,h2⟩:=bn6 I1 r1 ty
 refine ⟨T,id,pa,slot,hty,h1,h2,?_⟩
 have hA:=ha cpos pins s1 σ H1 _ I1 q1
 rw [hs] at hA ⊢
 refine Calls.callWith_builtin (by show (false || (backTo cpos (starEach es X.env)).any (·.1))=false; rw [hplain] <;> rfl) (Calls.evalArgs_plain ?_)
 exact thn hA fun us s2 ⟨vs,H2,I2,r2,q2⟩=>hm pins s2 σ H2 x vs v us Q I2 r1 r2 q2
end
noncomputable def MtM (X:Cx) (id:String) (r:V→List V→Hp→VK→Prop):Prop :=
 ∀ (pins:List (Addr×Obj)) (s:Shared) (σ:St) (H:Hp) (x:V) (xs:List V) (v:Value) (us:List Value) (Q:VK),Inv X pins σ H s→RelV x v→Vals xs us→r x xs H Q →
  wpAny (model X.prog X.w) X.A (call (.builtin id) (v :: us)) (EP X pins σ Q) X.xe s
theorem Vals.one:∀ {x:V} {us:List Value},Vals [x] us→∃ u,us=[u]∧RelV x u
 | _,_,.cons r .nil=>⟨_,rfl,r⟩
theorem Vals.zero:∀ {us:List Value},Vals [] us→us=[]
 | _,.nil=>rfl
theorem Vals.eraseIdx:∀ {xs:List V} {us:List Value} (i:Nat),Vals xs us→Vals (xs.eraseIdx i) (us.eraseIdx i)
 | _,_,_,.nil=> .nil
 | _,_,0,.cons _ t=>t
 | _,_,i + 1,.cons r t=> .cons r (Vals.eraseIdx i t)
theorem Vals.reverse {xs:List V} {us:List Value} (h:Vals xs us):Vals xs.reverse us.reverse:=by
 induction h with
 | nil=>exact .nil
 | cons r t ih=>rw [List.reverse_cons,List.reverse_cons]; exact Vals.append ih (.cons r .nil)
theorem aE7 {α:Type}:∀ (l:List α) (i:Nat),(l.eraseIdx i).length≤l.length
 | [],_=>Nat.le_refl _
 | _ :: _,0=>Nat.le_succ _
 | _ :: r,i + 1=>Nat.succ_le_succ (aE7 r i)
section
variable {X:Cx} {pins:List (Addr×Obj)} {σ:St} {H:Hp} {s:Shared} {l b:Addr} {xs ys zs:List V}
theorem Inv.lset {its its':List Value} {n:Nat} {f:Array Value→Array Value} {t':Nat} (I:Inv X pins σ H s) (hH:H l=some (.lst xs))
 (e:s.heap.get? l=some { cls:= .type "list",data:= .seq its.toArray n }) (hf:f its.toArray=its'.toArray) (hv:Vals ys its') (hz:ys.length≤sizeLine) :
 Inv X pins σ (upd H l (.lst ys)) { s with heap:=s.heap.update l (Obj.mapSeq f),toks:=t' }:=by
 have q:=PySem.IsL.update e f
 rw [hf] at q
 refine I.write (x:=l) (e:=l) (by rw [hH]; exact trivial) (.inl rfl) (fun b' u hb hu=>(Heap.get?_update_other s.heap (Obj.mapSeq f) (Ne.symm hb)).trans hu) ⟨_,q⟩ ?_
 exact ⟨hz,its',_,hv,q⟩
theorem Inv.lnew {its:List Value} {t':Nat} (I:Inv X pins σ H s) (hv:Vals ys its) (hz:ys.length≤sizeLine) :
 Inv X pins σ (upd H s.heap.objs.size (.lst ys)) { s with heap:=s.heap.push { cls:= .type "list",data:= .seq its.toArray },toks:=t' } :=
 I.laid (fun _ _ q=>Heap.get?_push_of_some _ q) (Nat.le_refl _) ⟨hz,its,0,hv,Heap.get?_push_size _ rfl⟩
theorem Inv.fresh (I:Inv X pins σ H s):H s.heap.objs.size=none:=I.hok.fresh (Nat.le_refl _)
theorem Inv.lstM (I:Inv X pins σ H s) (hH:H l=some (.lst xs)):xs.length≤sizeLine∧∃ (its:List Value) (n:Nat),Vals xs its∧xs.length=its.length∧s.heap.get? l=some { cls:= .type "list",data:= .seq its.toArray n }:=by
 obtain ⟨z,its,n,r,e⟩:=I.hok l _ hH
 exact ⟨z,its,n,r,r.length,e⟩
end
section
variable {X:Cx}
noncomputable def aY6:V→List V→Hp→VK→Prop:=fun x vs H Q=>∃ l xs y,x= .ref l∧vs=[y]∧H l=some (.lst xs)∧xs.length < sizeLine∧Q .non (upd H l (.lst (xs ++ [y])))
theorem aE3:MtM X "list.append" aY6:=by
 intro pins s σ H x vs v us Q I rx rv h
 obtain ⟨l,xs,y,rfl,rfl,hH,hz,q⟩:=h
 cases rx
 obtain ⟨u,rfl,ru⟩:=rv.one
 obtain ⟨z,its,n,r,hl,e⟩:=I.lstM hH
 refine call_meets F.slot_list_append ⟨_,e,rfl⟩ F.entry_list_append (F.args_list_append_2 _ _) (PySem.list_append l its.toArray n u (by rw [List.size_toArray]; omega)) ⟨e,?_⟩
 refine ⟨.non,_,I.lset (its':=its ++ [u]) hH e (by simp) (r.append (.cons ru .nil)) ?_,rfl,q⟩
 rw [List.length_append,List.length_singleton]
 omega
noncomputable def bq1:V→List V→Hp→VK→Prop:=fun x vs H Q=>∃ l xs i k y,x= .ref l∧vs=[.int i]∧H l=some (.lst xs)∧-(2 ^ 63)≤i∧i < 2 ^ 63∧seqIndex? i xs.length=some k∧xs[k]?=some y∧Q y (upd H l (.lst (xs.eraseIdx k)))
theorem bk7:MtM X "list.pop" bq1:=by
 intro pins s σ H x vs v us Q I rx rv h
 obtain ⟨l,xs,i,k,y,rfl,rfl,hH,h1,h2,hk,hy,q⟩:=h
 cases rx
 obtain ⟨u,rfl,ru⟩:=rv.one
 obtain ⟨t,rfl⟩:=ru
 obtain ⟨z,its,n,r,hl,e⟩:=I.lstM hH
 obtain ⟨w,hw,rw'⟩:=r.get hy
 refine call_meets F.slot_list_pop ⟨_,e,rfl⟩ F.entry_list_pop (F.args_list_pop_2 _ _)
  (MeetsSeq.list_pop_at l its.toArray n i t k w (fitsIndex_both h1 h2) (by rw [List.size_toArray,← hl]; exact hk) (by rw [← Array.getElem?_toList]; exact hw) (by rw [List.size_toArray]; omega)) ⟨e,?_⟩
 refine ⟨y,_,I.lset (its':=its.eraseIdx k) hH e ?_ (r.eraseIdx k) ?_,rw',q⟩
 · show its.toArray.eraseIdxIfInBounds k=(its.eraseIdx k).toArray
   rw [List.eraseIdxIfInBounds_toArray]
 · have:=aE7 xs k
   omega
noncomputable def aP4:V→List V→Hp→VK→Prop:=fun x vs H Q=>∃ l xs,x= .ref l∧vs=[]∧H l=some (.lst xs)∧Q .non (upd H l (.lst xs.reverse))
theorem aS9:MtM X "list.reverse" aP4:=by
 intro pins s σ H x vs v us Q I rx rv h
 obtain ⟨l,xs,rfl,rfl,hH,q⟩:=h
 cases rx
 have hus:=rv.zero
 subst hus
 obtain ⟨z,its,n,r,hl,e⟩:=I.lstM hH
 refine call_meets F.slot_list_reverse ⟨_,e,rfl⟩ F.entry_list_reverse (F.args_list_reverse_1 _) (AutoSeq1.list_reverse_list_0 l its.toArray n (by rw [List.size_toArray]; omega)) ⟨e,?_⟩
 refine ⟨.non,_,I.lset (its':=its.reverse) hH e (by simp) r.reverse ?_,rfl,q⟩
 rw [List.length_reverse]
 omega
noncomputable def rCat:R2:=fun x y H Q=>∃ l b xs zs,x= .ref l∧y= .ref b∧H l=some (.lst xs)∧H b=some (.lst zs)∧xs.length + zs.length≤sizeLine∧∀ p,H p=none→Q (.ref p) (upd H p (.lst (xs ++ zs)))
theorem bL3:OpR X (binaryOp .Add) rCat:=by
 intro pins s σ H x y v u Q I rx ry h
 obtain ⟨l,b,xs,zs,rfl,rfl,hH,hB,hz,q⟩:=h
 cases rx
 cases ry
 obtain ⟨z,its,n,r,hl,e⟩:=I.lstM hH
 obtain ⟨z2,its2,n2,r2,hl2,e2⟩:=I.lstM hB
 refine PySem.P.add_list e e2 ?_ (by rw [List.size_toArray,List.size_toArray]; omega)
 have ea:its.toArray ++ its2.toArray=(its ++ its2).toArray:=by simp
 rw [ea]
 exact ⟨.ref _,_,I.lnew (t':=s.toks) (r.append r2) (by rw [List.length_append]; omega),rfl,q _ I.fresh⟩
end
end L2
namespace Att
open PySem PySem.W PySem.Calls PyProof.Rows
theorem au0 {P:Params} {h:Heap}:∀ (ns:List Int) (vs:List Value),WellAll P h vs (ns.map WData.int)→IntsAre vs ns:=by
 intro ns
 induction ns with
 | nil =>
   intro vs w
   rw [List.map_nil] at w
   cases w
   exact .nil
 | cons n ns ih =>
   intro vs w
   rw [List.map_cons] at w
   cases w with
   | cons a b =>
     cases a
     exact .cons _ _ (ih _ b)
theorem aX7 {l:OpenLaw} {n:Nat} (hn:l.most=some n) {P:Params} {h:Heap} {args:List WData} {vals:List Value}
 (hpre:l.row.toRowW.claim.pre args=true) (hwl:WellAll P h vals args) :
 ∃ a vs ns,vals=[Value.ref a]∧args=[WData.list (ns.map WData.int)]∧h.get? a=some { cls:= .type "list",data:= .seq vs.toArray }∧IntsAre vs ns∧ns.length≤n:=by
 have hsh:WShape.hasAll [] args [.list .int]=true:=(pre_splitW hpre).1
 have hc:l.pre.holds [] { args:=args }=true:=(pre_splitW hpre).2
 obtain ⟨d,r,rfl,h1,h2⟩:=hasAllW_cons hsh
 obtain rfl:=hasAllW_nil h2
 obtain ⟨xs,rfl,h3⟩:=hasW_list h1
 obtain ⟨ns,rfl⟩:=items_int h3
 have hlen:ns.length≤n:=by
  unfold OpenLaw.pre at hc
  have h4:(WTm.not (.lt (.lit (.int (n:Int))) (.len (.arg 0)))).holds [] { args:=[.list (ns.map .int)] }=true:=by
   have h4:=(holds_andW hc).1
   rw [hn] at h4
   exact h4
  have h5:=condW_of h4 (w_not (w_lt w_lit (w_len_list (w_arg rfl))))
  rw [List.length_map] at h5
  refine Nat.le_of_not_lt fun q=>?_
  have q':(n:Int) < ((ns.length:Nat):Int):=by omega
  first
   | (rw [decide_eq_true q'] at h5; exact absurd h5 (by decide))
   | (simp at h5; omega)
 cases hwl with
 | cons w1 w2 =>
   cases w2
   cases w1 with
   | list ho hall=>exact ⟨_,_,ns,rfl,rfl,ho,au0 ns _ hall,hlen⟩
theorem aY9 (l:OpenLaw) (args:List WData):l.row.toRowW.claim.post args (.bool true) args=true :=
 postW_of (r:=l.row.toRowW) (X:=(true == true))
  (show WShape.has [] (.bool true) .bool=true by first | rfl | decide | simp [WShape.has,WShape.arms,WShape.armsAll])
  (show (WTm.eq .res (.lit (.bool true))).value [] { args:=args,res:=some (.bool true),after:=args }=some (.bool (true == true)) from w_eq_bool (w_res rfl) w_lit) rfl
theorem aO4 {l:OpenLaw} {n:Nat} {q:Program} {loose:List Str} {XP:(Str→Option Value)→Heap→Prop} {YP:World→Heap→Prop} {d:DefRec}
 (hn:l.most=some n) (hdf:d.params.defaults=[])
 (call:∀ (w:World) (s₀ s₁:Shared) (mg mb:Str→Option Value) (fa:Addr) (o:Obj) (pm cd doc:Value) (a:Addr) (vs:List Value) (ns:List Int),
   Ground q loose [] XP w s₀ mg mb s₁.heap→YP w s₁.heap →
   s₁.heap.get? fa=some o→o.data= .func (docDef d.name d.params d.body d.scope pm cd doc)→s₁.heap.CodeRec cd d.name→mg d.name=some (.ref fa) →
   s₁.heap.get? a=some { cls:= .type "list",data:= .seq vs.toArray }→IntsAre vs ns→ns.length≤n→s₁.gens=#[] →
   codeAny (model l.prog w) callerA (.call (.ref fa) ⟨[.ref a],[]⟩) (fun r s'=>r= .ok (.ret (.bool true))∧OldK s₁.heap s'.heap∧s'.os=s₁.os∧AllBare s'.gens) s₁) :
 WalkO q loose XP YP l.row.toRowW d [] (fun f vs=>PySem.call f vs):=by
 intro w s₀ s₁ mg mb G Y fa o pm cd doc dV kV ho hd hcd hD hmg hg args vals as hpre hlay hrd hwl hlo
 obtain rfl:dV= .none:=Dflts.none hD hdf
 obtain rfl:kV= .none:=Dflts.noKw hD
 obtain ⟨a,vs,ns,rfl,rfl,hobj,hints,hlen⟩:=aX7 hn hpre hwl
 refine enter_call (codeAny_mono (call w s₀ s₁ mg mb fa o pm cd doc a vs ns G Y ho (fd_plain hd) hcd hmg hobj hints hlen hg) fun r s' hq=>?_)
 obtain ⟨rfl,h2,h3,h4⟩:=hq
 exact ⟨.inl ⟨.bool true,.bool true,[],rfl,fun _=>rfl,.bool true,aY9 l _,fun _=>⟨List.Pairwise.nil,fun _ hm=>(nomatch hm)⟩⟩,h2,h3,h4⟩
end Att
namespace L2
open PySem PySem.Spec PyProof.Rows
theorem aC2:∀ {vs:List Value} {ns:List Int},IntsAre vs ns→Vals (ns.map V.int) vs
 | _,_,.nil=> .nil
 | _,_,.cons n t h=> .cons ⟨t,rfl⟩ (aC2 h)
noncomputable abbrev Tbs:=List (Addr×Pos×Str)
noncomputable def Tbs.at (T:Tbs) (b:Addr):List (Pos×Str):=(T.filter fun p=>p.1 == b).map (·.2)
noncomputable def Tbs.ok (T:Tbs):Prop:=∀ y∈T,∀ z∈T,y.2.1.line=z.2.1.line→y.2.1.col=z.2.1.col→y.2.2=z.2.2
theorem Tbs.mem {T:Tbs} {b:Addr} {y:Pos×Str}:y∈T.at b↔(b,y)∈T:=by
 unfold Tbs.at
 simp only [List.mem_map,List.mem_filter,beq_iff_eq]
 constructor
 · rintro ⟨⟨c,x⟩,⟨h1,h2⟩,h3⟩
   dsimp only at h2 h3
   subst h2 h3
   exact h1
 · intro h
   exact ⟨(b,y),⟨h,rfl⟩,rfl⟩
noncomputable def Only (T:Tbs) (H:Hp):Prop:=(∀ p∈T,H p.1=some (.tbl (T.at p.1)))∧∀ b,H b=none∨(∃ o xs,H b=some (.frz o (.lst xs)))∨H b=some (.tbl (T.at b))
theorem bl4 {P:Program} {w:World} {K:PySem.W.Frag} {mg mb:Str→Option Value} {CX:CXT} {k:Nat} {fa a:Addr} {fd:FuncData} {x:Str} {sp:Sp} {s₁:Shared} {vs:List Value} {ns:List Int} {T:Tbs}
 (KX:K.In s₁.heap) (hns:s₁.heap.Ns mainGlobals mg) (hb:s₁.heap.Ns builtinsNs mb) (hbb:∀ x:Str,x ≠ "__name__" → mb x=bootBuiltins x) (hlim:s₁.heap.NoLimit) (hg:s₁.gens=#[])
 (hbm:∃ bm ob,mg "__builtins__" = some (.ref bm)∧bm≠builtinsNs∧s₁.heap.get? bm=some ob∧ob.cls= .type "module" ∧ ob.dict=some builtinsNs∧ob.data= .plain)
 (hT:∀ p∈T,∃ c,PySem.W.CodeHd s₁.heap c p.1∧s₁.heap.get? p.1=some (PySem.W.tabObj #[])) (hTK:∀ p∈T,K.lookup p.1=none) (hTo:T.ok)
 (ha:s₁.heap.get? a=some { cls:= .type "list",data:= .seq vs.toArray }) (hi:IntsAre vs ns) (hl:ns.length≤sizeLine) (hr:Room k callerA)
 (F:∀ base:Heap,K.In base→base.Ns mainGlobals mg→(∀ c P,PySem.W.CodeHd s₁.heap c P→PySem.W.CodeHd base c P)→FnOk P w K mg base CX k fa fd [x] sp) (hbind:∀ (s:Shared) (u:Value),BindsTo s fd ⟨[u],[]⟩ [(x,u)])
 (hsp:∀ H:Hp,Only T H→SqL K H a (ns.map V.int)→sp [.ref a] H (fun v _=>v= .bl true) fun _ _ _=>False)
 (hCX:∀ H e s',CX [] H s₁ (fun _ _ _=>False) e s'→False) :
 codeAny (model P w) callerA (.call (.ref fa) ⟨[.ref a],[]⟩) (fun r s'=>r= .ok (.ret (.bool true))∧OldK s₁.heap s'.heap∧s'.os=s₁.os∧AllBare s'.gens) s₁:=by
 have rv:=aC2 hi
 have lenV:=hi.length
 -- from an abstract heap in which nothing but the script and the tables may be tracked
 have core:∀ H:Hp,Only T H→SqL K H a (ns.map V.int)→HOk P w H s₁.heap→(∀ b,H b≠none→b=a∨∃ p∈T,p.1=b)→(H a≠none→K.lookup a=none) →
  codeAny (model P w) callerA (.call (.ref fa) ⟨[.ref a],[]⟩) (fun r s'=>r= .ok (.ret (.bool true))∧OldK s₁.heap s'.heap∧s'.os=s₁.os∧AllBare s'.gens) s₁:=by
  intro H hO hS hok hA hK
  have base_of:∀ {b:Addr} {o:Obj},s₁.heap.get? b=some o→H b=none→(hidT s₁.heap H).get? b=some o:=fun e n=>bl9 e n
  have noB:∀ {b:Addr} {o:Obj},s₁.heap.get? b=some o→o≠{ cls:= .type "list",data:= .seq vs.toArray }→o≠PySem.W.tabObj #[]→H b=none:=fun {b o} e d1 d2=>by
   cases q:H b with
   | none=>rfl
   | some u =>
     rcases hA b (by rw [q]; simp) with e' | ⟨p,hp,e'⟩
     · subst e'
       rw [ha] at e
       exact absurd (Option.some.inj e).symm d1
     · subst e'
       obtain ⟨_,_,e2⟩:=hT p hp
       rw [e2] at e
       exact absurd (Option.some.inj e).symm d2
  have noA:∀ {b:Addr} {o:Obj} {es:Array DictEntry} {ep:Nat},s₁.heap.get? b=some o→o.data= .dict es ep→H b=none:=fun {b o es ep} e d =>
   noB e (fun z=>by rw [z] at d; cases d) (fun z=>by rw [z] at d; cases d)
  have nsK:∀ {b:Addr} {m:Str→Option Value},s₁.heap.Ns b m→(hidT s₁.heap H).Ns b m:=fun {b m} ⟨o,es,ep,e,d,r⟩=>⟨o,es,ep,base_of e (noA e d),d,r⟩
  have hKb:K.In (hidT s₁.heap H):=fun b o e=>base_of (KX b o e) (by
   cases q:H b with
   | none=>rfl
   | some u =>
     rcases hA b (by rw [q]; simp) with e' | ⟨p,hp,e'⟩
     · subst e'
       rw [hK (by rw [q]; simp)] at e; cases e
     · subst e'
       rw [hTK p hp] at e; cases e)
  have hbm':∃ bm ob,mg "__builtins__" = some (.ref bm)∧bm≠builtinsNs∧(hidT s₁.heap H).get? bm=some ob∧ob.cls= .type "module" ∧ ob.dict=some builtinsNs∧ob.data= .plain:=by
   obtain ⟨bm,ob,h1,h2,h3,h4,h5,h6⟩:=hbm
   exact ⟨bm,ob,h1,h2,base_of h3 (noB h3 (fun z=>by rw [z] at h6; cases h6) fun z=>by rw [z] at h6; cases h6),h4,h5,h6⟩
  have hcd:∀ c P,PySem.W.CodeHd s₁.heap c P→PySem.W.CodeHd (hidT s₁.heap H) c P:=fun c P h=>by
   obtain ⟨o,vs',file,tf,flags,tg,inF,text,tt,e,hc,r⟩:=h
   exact ⟨o,vs',file,tf,flags,tg,inF,text,tt,base_of e (noB e (fun z=>by rw [z] at hc; simp at hc) fun z=>by rw [z] at hc; simp at hc),hc,r⟩
  have hM:Mod K mg (hidT s₁.heap H):=⟨hKb,nsK hns,⟨mb,nsK hb,hbb⟩,(let ⟨mc,h1,h2⟩:=hlim; ⟨mc,nsK h1,h2⟩),hbm'⟩
  have e0:Env0 P w K mg (hidT s₁.heap H) callerA [] s₁ H:=⟨rfl,hM,fun b o e=>bA7 e,Nat.le_of_eq (bc5 _ _),trivial,fun b hb=>absurd (show b∈([]:List Addr) from hb) (by simp),hok,.of_eq hg⟩
  refine codeAny_mono ((F _ hKb (nsK hns) hcd).run callerA [] s₁ H ⟨[.ref a],[]⟩ [.ref a] [.ref a] _ _ hr e0 (hbind s₁ (.ref a)) (.cons rfl .nil) (hsp H hO hS)) fun r s' h=>?_
  cases r with
  | error e=>exact (hCX H e s' h).elim
  | ok fl =>
    cases fl with
    | next=>exact False.elim h
    | brk=>exact False.elim h
    | cont=>exact False.elim h
    | ret u =>
      obtain ⟨v,H',os,bare,un,hok',r',q⟩:=h
      have q':v= .bl true:=q
      subst q'
      obtain rfl:u=Value.bool true:=r'
      refine ⟨rfl,⟨fun b o e=>?_,fun b o e=>un.there b o e (by simp)⟩,os,bare⟩
      cases q:H b with
      | none=>exact .inl (un.keep b o e q (by intro z; exact absurd (show b∈([]:List Addr) from z) (by simp)) (by simp))
      | some u =>
        rcases hO.2 b with z | ⟨ob,xs,z⟩ | z
        · rw [q] at z; cases z
        · have z2:=un.frzs b ob _ z
          obtain ⟨e1,_⟩:=hok b _ z
          obtain ⟨e2,_⟩:=hok' b _ z2
          rw [e] at e1; cases e1
          exact .inl e2
        · have z2:=(un.tbls b _ z).1
          obtain ⟨_,ps,e2,_⟩:=hok' b _ z2
          have hb':∃ p∈T,p.1=b:=by
           rcases hA b (by rw [q]; simp) with e' | e'
           · subst e'
             obtain ⟨_,ps',e3,_⟩:=hok b _ z
             rw [ha] at e3; cases e3
           · exact e'
          obtain ⟨p,hp,e'⟩:=hb'
          obtain ⟨c,hc,e3⟩:=hT p hp
          rw [e'] at e3 hc
          rw [e] at e3
          cases e3
          refine .inr (.inl ⟨(hc.tab (ps:=#[]) e).isCodeTable,rfl,#[],ps,rfl,?_⟩)
          rw [e2]; simp
 have tabOk:∀ (H:Hp) (b:Addr),(∃ p∈T,p.1=b)→ObjOk P w H s₁.heap b (.tbl (T.at b)):=fun H b ⟨p,hp,e⟩=>by
  obtain ⟨c,hc,e3⟩:=hT p hp
  rw [e] at e3
  exact ⟨fun y hy z hz h1 h2=>hTo _ (Tbs.mem.mp hy) _ (Tbs.mem.mp hz) h1 h2,#[],e3,trivial,fun y hy=> .inl rfl⟩
 have hne:∀ p∈T,p.1≠a:=fun p hp z=>by
  obtain ⟨c,hc,e3⟩:=hT p hp
  rw [z,ha] at e3
  cases e3
 cases hk:K.lookup a with
 | some o =>
   -- the script is one of the module's own objects
   have e:=KX a o hk
   rw [ha] at e
   cases e
   have hTa:¬ ∃ p∈T,p.1=a:=fun ⟨p,hp,z⟩=>hne p hp z
   have dec:∀ b,Decidable (∃ p∈T,p.1=b):=fun b=>Classical.propDecidable _
   refine core (fun b=>if ∃ p∈T,p.1=b then some (.tbl (T.at b)) else none) ⟨fun p hp=>if_pos ⟨p,hp,rfl⟩,fun b=>?_⟩ (.inr ⟨_,vs.toArray,_,hk,rfl,rfl,rfl,by rw [List.size_toArray,lenV]; exact hl,by simpa using rv⟩) (fun b u z=>?_) (fun b z=>?_) fun z=>absurd (if_neg hTa) z
   · by_cases h:∃ p∈T,p.1=b
     · exact .inr (.inr (if_pos h))
     · exact .inl (if_neg h)
   · by_cases h:∃ p∈T,p.1=b
     · have z':=(if_pos h).symm.trans z
       cases z'
       exact tabOk _ b h
     · have z':=(if_neg h).symm.trans z
       cases z'
   · by_cases h:∃ p∈T,p.1=b
     · exact .inr h
     · exact absurd (if_neg h) z
 | none =>
   have dec:∀ b,Decidable (∃ p∈T,p.1=b):=fun b=>Classical.propDecidable _
   have hTa:∀ {b},(∃ p∈T,p.1=b)→b≠a:=fun ⟨p,hp,z⟩ e=>hne p hp (z.trans e)
   refine core (fun b=>if b=a then some (.frz { cls:= .type "list",data:= .seq vs.toArray } (.lst (ns.map V.int))) else if ∃ p∈T,p.1=b then some (.tbl (T.at b)) else none) ⟨fun p hp=>(if_neg (hne p hp)).trans (if_pos ⟨p,hp,rfl⟩),fun b=>?_⟩ (.inl (.inr ⟨{ cls:= .type "list",data:= .seq vs.toArray },if_pos rfl⟩)) (fun b u z=>?_) (fun b z=>?_) fun _=>hk
   · by_cases hb:b=a
     · exact .inr (.inl ⟨_,_,if_pos hb⟩)
     · by_cases h:∃ p∈T,p.1=b
       · exact .inr (.inr ((if_neg hb).trans (if_pos h)))
       · exact .inl ((if_neg hb).trans (if_neg h))
   · by_cases hb:b=a
     · have z':=(if_pos hb).symm.trans z
       cases z'
       subst hb
       exact ⟨ha,by rw [List.length_map]; exact hl,vs,_,rv,ha⟩
     · by_cases h:∃ p∈T,p.1=b
       · have z':=((if_neg hb).trans (if_pos h)).symm.trans z
         cases z'
         exact tabOk _ b h
       · have z':=((if_neg hb).trans (if_neg h)).symm.trans z
         cases z'
   · by_cases hb:b=a
     · exact .inl hb
     · by_cases h:∃ p∈T,p.1=b
       · exact .inr h
       · exact absurd ((if_neg hb).trans (if_neg h)) z
noncomputable abbrev Tns:=List (Str×Pos×Str)
structure TabsOf (mg:Str→Option Value) (h:Heap) (N:Tns) (T:Tbs):Prop where
 all:∀ n∈N,∃ P,(P,n.2)∈T∧∃ a o fd c,mg n.1=some (.ref a)∧h.get? a=some o∧o.data= .func fd∧fd.code= .ref c∧PySem.W.CodeHd h c P
theorem aC4 {p:Program} {loose:List Str} {mean:ExcName→Option Value} {mg mb:Str→Option Value} {h:Heap} (Tp:PyProof.Rows.Top p loose mean mg mb h):∀ (N:Tns),(∀ n∈N,n.1∈(PyProof.Rows.recsOf p).map (·.name)) →
 ∃ T:Tbs,TabsOf mg h N T∧(∀ q∈T,∃ c,PySem.W.CodeHd h c q.1∧h.get? q.1=some (PySem.W.tabObj #[]))∧∀ q∈T,∃ n∈N,n.2=q.2
 | [],_=>⟨[],⟨fun _ h=>nomatch h⟩,fun _ h=>(nomatch h),fun _ h=>(nomatch h)⟩
 | n :: N,hN=>by
   obtain ⟨T,h1,h2,h3⟩:=aC4 Tp N fun m hm=>hN m (List.mem_cons_of_mem _ hm)
   obtain ⟨d,hd,e⟩:=List.mem_map.mp (hN n List.mem_cons_self)
   obtain ⟨a,o,fd,c,P,e1,e2,e3,e4,e5,e6⟩:=Tp.tab d hd
   have hc:=PySem.W.CodeHd.of e5 e6
   refine ⟨(P,n.2) :: T,⟨fun m hm=>?_⟩,fun q hq=>?_,fun q hq=>?_⟩
   · rcases List.mem_cons.mp hm with z | z
     · subst z
       exact ⟨P,List.mem_cons_self,a,o,fd,c,by rw [← e]; exact e1,e2,e3,e4,hc⟩
     · obtain ⟨P',m1,r⟩:=h1.all m z
       exact ⟨P',List.mem_cons_of_mem _ m1,r⟩
   · rcases List.mem_cons.mp hq with z | z
     · subst z
       exact ⟨c,hc,e6.2⟩
     · exact h2 q z
   · rcases List.mem_cons.mp hq with z | z
     · subst z
       exact ⟨n,List.mem_cons_self,rfl⟩
     · obtain ⟨m,hm,e⟩:=h3 q z
       exact ⟨m,List.mem_cons_of_mem _ hm,e⟩
noncomputable def Tns.ok (N:Tns):Prop:=∀ y∈N,∀ z∈N,y.2.1.line=z.2.1.line→y.2.1.col=z.2.1.col→y.2.2=z.2.2
noncomputable def bq8 (K:PySem.W.Frag):Bool:=K.all fun p=>match p.2.cls,p.2.data with
 | .none,.fields vs=>!vs.isEmpty
 | _,_=>true
theorem ax8 {α:Type}:∀ {K:List (Nat×α)} {b:Nat} {o:α},K.lookup b=some o→(b,o)∈K
 | (c,x) :: r,b,o,h=>by
   rw [List.lookup_cons] at h
   by_cases z:b=c
   · subst z
     rw [beq_self_eq_true] at h
     cases h
     exact List.mem_cons_self
   · rw [beq_false_of_ne z] at h
     exact List.mem_cons_of_mem _ (ax8 h)
theorem aA2 {K:PySem.W.Frag} {h:Heap} {b:Addr} (X:K.In h) (hn:bq8 K=true) (e:h.get? b=some (PySem.W.tabObj #[])):K.lookup b=none:=by
 cases q:K.lookup b with
 | none=>rfl
 | some o =>
   have e2:=X b o q
   rw [e] at e2
   cases e2
   have:=List.all_eq_true.mp hn (b,PySem.W.tabObj #[]) (ax8 q)
   cases this
theorem bs1 {l:PySem.W.OpenLaw} {n k:Nat} {q:Program} {loose:List Str} {XP:(Str→Option Value)→Heap→Prop} {YP:World→Heap→Prop} {d:DefRec} {K:Params→PySem.W.Frag} {CX:World→CXT} {sp:World→Tbs→Sp} {x:Str} (N:Tns)
 (hn:l.most=some n) (hn2:n≤sizeLine) (hdf:d.params.defaults=[]) (hr:Room k callerA)
 (hY:∀ (w:World) (h:Heap),YP w h→(K w.params).In h) (hK:∀ w:World,N≠[]→bq8 (K w.params)=true) (hN:∀ n∈N,n.1∈(PyProof.Rows.recsOf q).map (·.name)) (hNo:Tns.ok N)
 (F:∀ (w:World) (mg:Str→Option Value) (fa:Addr) (h:Heap) (T:Tbs),(K w.params).In h→h.Ns mainGlobals mg→mg d.name=some (.ref fa)→TabsOf mg h N T →
   ∃ fd:FuncData,(∀ (s:Shared) (u:Value),BindsTo s fd ⟨[u],[]⟩ [(x,u)]) ∧
    ∀ base:Heap,(K w.params).In base→base.Ns mainGlobals mg→(∀ c P,PySem.W.CodeHd h c P→PySem.W.CodeHd base c P)→FnOk l.prog w (K w.params) mg base (CX w) k fa fd [x] (sp w T))
 (hsp:∀ (w:World) (T:Tbs) (H:Hp) (a:Addr) (ns:List Int),ns.length≤n→Only T H→SqL (K w.params) H a (ns.map V.int)→sp w T [.ref a] H (fun v _=>v= .bl true) fun _ _ _=>False)
 (hCX:∀ (w:World) (H:Hp) (s:Shared) (e:Value) (s':Shared),CX w [] H s (fun _ _ _=>False) e s'→False) :
 PySem.W.WalkO q loose XP YP l.row.toRowW d [] (fun f vs=>PySem.call f vs):=by
 refine Att.aO4 hn hdf fun w s₀ s₁ mg mb fa o pm cd doc a vs ns G Y ho hd hcd hmg hobj hints hlen hg=>?_
 have KX:=hY w _ Y
 obtain ⟨T,hT1,hT2,hT3⟩:=aC4 G.T N hN
 obtain ⟨fd,hb,hF⟩:=F w mg fa _ T KX G.T.g hmg hT1
 refine bl4 (T:=T) KX G.T.g G.T.b G.T.builtins G.T.nolimit hg G.T.bmain hT2 (fun p hp=>?_) (fun y hy z hz h1 h2=>?_) hobj hints (Nat.le_trans hlen hn2) hr hF hb (fun H hO hS=>hsp w T H a ns hlen hO hS) fun H e s'=>hCX w H s₁ e s'
 · obtain ⟨c,_,e⟩:=hT2 p hp
   obtain ⟨m,hm,_⟩:=hT3 p hp
   exact aA2 KX (hK w (fun z=>by rw [z] at hm; cases hm)) e
 · obtain ⟨m1,hm1,e1⟩:=hT3 y hy
   obtain ⟨m2,hm2,e2⟩:=hT3 z hz
   rw [← e1,← e2]
   exact hNo m1 hm1 m2 hm2 (by rw [e1]; exact h1 |>.trans (by rw [e2])) (by rw [e1]; exact h2 |>.trans (by rw [e2]))
noncomputable def ak1 (s:Stmt) (j:Nat):Stmt:=match s with
 | .ClassDef _ _ _ body _ _ _ _ _ _ _=>body.getD j (.Pass ⟨0,0,0,0⟩)
 | _=> .Pass ⟨0,0,0,0⟩
noncomputable def au7 (s:Stmt):Arguments:=match s with
 | .FunctionDef _ a _ _ _ _ _ _ _ _=>a
 | _=>{ posonlyargs:=[],args:=[],vararg:=none,kwonlyargs:=[],kw_defaults:=[],kwarg:=none,defaults:=[] }
noncomputable def ak3 (s:Stmt):List Stmt:=match s with
 | .FunctionDef _ _ b _ _ _ _ _ _ _=>b
 | _=>[]
noncomputable def aa9 (s:Stmt):Scope:=match s with
 | .FunctionDef _ _ _ _ _ _ sc _ _ _=>sc
 | _=>{ kind:= .function,names:=[],isGenerator:=false,isCoroutine:=false }
noncomputable abbrev CX0:CXT:=fun _ _ _ _ _ _=>False
noncomputable abbrev E0:XK:=fun _ _ _=>False
theorem ae8 {X:Cx}:aw1 CX0 X E0:=fun _ _ _ _ _ _ _ h=>h.elim
structure Fun (K:PySem.W.Frag) (x qual:Str) (st:Stmt) (f:Addr) (fd:FuncData):Prop where
 ex:∃ (oc:Value) (od:Option Addr) (kV doc pm:Value) (an:Option Addr) (cdv ct:Value) (osl:Array (Option Value)),
  fd=PySem.W.fnOf x qual (au7 st) (ak3 st) (aa9 st) .none kV doc pm an cdv ct∧K.lookup f=some ⟨oc,od,.func fd,osl⟩∧PySem.W.codeIn K cdv qual=true
 kp:PySem.W.keepIn K (.ref f)=true
section
variable {P:Program} {w:World} {K:PySem.W.Frag} {mg:Str→Option Value} {base:Heap}
theorem Fun.ok {x qual:Str} {st:Stmt} {f:Addr} {fd:FuncData} {N ps:List Str} {k:Nat} {sp:Sp} (F:Fun K x qual st f fd) (S:FnScope N ps (aa9 st)) (len:∀ vs H Q E,sp vs H Q E→vs.length=ps.length)
 (hbody:∀ (cdv:Value) (A:Around) (outer:List Env) (s:Shared) (H:Hp) (vs:List V) (Q:VK) (E:XK),Room k (A.deeper (envOfC qual (aa9 st) s.heap.objs.size f cdv))→sp vs H Q E →
   ∃ t,PSs (cxOf CX0 P w K mg base N qual (aa9 st) f cdv A outer s H E).nox (ak3 st) t∧t { nx:=fun _ H'=>Q .non H',rt:=Q } (aq4 N vs) H):FnOk P w K mg base CX0 (k + 1) f fd ps sp:=by
 obtain ⟨oc,od,kV,doc,pm,an,cdv,ct,osl,rfl,lk,hcd⟩:=F.ex
 refine fn_of lk hcd S len fun A outer s H vs Q E hr hsp=>?_
 obtain ⟨t,h,q⟩:=hbody cdv A outer s H vs Q E hr hsp
 exact ⟨t,h.nox,q⟩
theorem Fun.binds {x qual:Str} {st:Stmt} {f:Addr} {fd:FuncData} {ps:List Str} (F:Fun K x qual st f fd)
 (h:∀ (kV doc pm:Value) (an:Option Addr) (cdv ct:Value) (us:List Value),us.length=ps.length→bindArgs (PySem.W.fnOf x qual (au7 st) (ak3 st) (aa9 st) .none kV doc pm an cdv ct) ⟨us,[]⟩=pure (ps.zip us)):Binds K fd ps []:=by
 obtain ⟨oc,od,kV,doc,pm,an,cdv,ct,osl,rfl,lk,hcd⟩:=F.ex
 exact .all (h kV doc pm an cdv ct)
theorem bP8 {x qual:Str} {st:Stmt} {f:Addr} {oc:Value} {od an:Option Addr} {osl:Array (Option Value)} {kV doc pm cdv ct:Value} (l:K.lookup f=some ⟨oc,od,.func (PySem.W.fnOf x qual (au7 st) (ak3 st) (aa9 st) .none kV doc pm an cdv ct),osl⟩)
 (c:PySem.W.codeIn K cdv qual=true) (k:PySem.W.keepIn K (.ref f)=true):Fun K x qual st f (PySem.W.fnOf x qual (au7 st) (ak3 st) (aa9 st) .none kV doc pm an cdv ct):=⟨⟨oc,od,kV,doc,pm,an,cdv,ct,osl,rfl,l,c⟩,k⟩
end
theorem aB0 {A:Around} {k:Nat} (hr:Room k A):A.units + 1 < cLine:=Nat.lt_of_le_of_lt (Nat.add_le_add_left (by decide:1≤64) _) hr.units
section
variable {X:Cx}
theorem pv (i:Nat) {x:Str} {pos:Pos} (hN:X.N[i]?=some x:=by rfl) (hv:Vis X.env.scope x:=by first | exact Or.inl rfl | exact Or.inr (Or.inl rfl) | exact Or.inr (Or.inr rfl)) (hd:(x == ("__debug__" : Str))=false:=by decide)
 (hcd:(x == ("__classdict__" : Str))=false:=by decide):PE X (.Name x pos) (tVar i):=bJ8 hN hv hd hcd
end
noncomputable def Same (H H':Hp):Prop:=∀ b o,H b=some o→H' b=some o
theorem Same.refl (H:Hp):Same H H:=fun _ _ h=>h
theorem Same.trans {H H1 H2:Hp} (a:Same H H1) (b:Same H1 H2):Same H H2:=fun c o h=>b c o (a c o h)
theorem Same.free {H H':Hp} (e:Same H H') {l:Addr} (h:H' l=Option.none):H l=Option.none:=by
 cases q:H l with
 | none=>rfl
 | some o =>
   rw [e l o q] at h
   cases h
theorem Same.seq {K:PySem.W.Frag} {H H':Hp} {a:Addr} {xs:List V} (e:Same H H') (h:SqL K H a xs):SqL K H' a xs:=by
 rcases h with (h | ⟨o,h⟩) | h
 · exact .inl (.inl (e _ _ h))
 · exact .inl (.inr ⟨o,e _ _ h⟩)
 · exact .inr h
noncomputable def ae2 (env:Env):List (Str×NameKind)→List (Str×Addr)→List (Str×Addr)
 | [],acc=>acc
 | (n,k) :: r,acc=>if (k == NameKind.free)=true then ae2 env r ((n,(env.cells.lookup n).getD 0) :: acc) else ae2 env r acc
theorem al1 {env:Env} {y:Str} {c:Addr}:∀ {l:List (Str×NameKind)} {acc:List (Str×Addr)},(∀ z∈l,z.2= .free→∃ c,env.cells.lookup z.1=some c)→(ae2 env l acc).lookup y=some c →
 acc.lookup y=some c∨env.cells.lookup y=some c
 | [],acc,_,h=> .inl h
 | (n,k) :: r,acc,hh,h=>by
   unfold ae2 at h
   split at h
   · rename_i hk
     rcases al1 (fun z hz=>hh z (List.mem_cons_of_mem _ hz)) h with e | e
     · by_cases q:(y == n)=true
       · have e':y=n:=by simpa using q
         subst e'
         obtain ⟨c',hc⟩:=hh (y,k) List.mem_cons_self (by simpa using hk)
         dsimp only at hc
         rw [List.lookup_cons,beq_self_eq_true,hc] at e
         exact .inr (hc.trans e)
       · rw [Bool.not_eq_true] at q
         rw [List.lookup_cons,q] at e
         exact .inl e
     · exact .inr e
   · exact al1 (fun z hz=>hh z (List.mem_cons_of_mem _ hz)) h
theorem al2 {env:Env} {y:Str}:∀ {l:List (Str×NameKind)} {acc:List (Str×Addr)},((y,NameKind.free)∈l∨∃ c,acc.lookup y=some c)→∃ c,(ae2 env l acc).lookup y=some c
 | [],acc,h=>by
   rcases h with h | h
   · cases h
   · exact h
 | (n,k) :: r,acc,h=>by
   unfold ae2
   split
   · rename_i hk
     refine al2 ?_
     by_cases q:(y == n)=true
     · exact .inr ⟨_,by rw [List.lookup_cons,q]⟩
     · rw [Bool.not_eq_true] at q
       rcases h with h | ⟨c,h⟩
       · rcases List.mem_cons.mp h with e | e
         · cases e
           rw [beq_self_eq_true] at q
           cases q
         · exact .inl e
       · exact .inr ⟨c,by rw [List.lookup_cons,q]; exact h⟩
   · rename_i hk
     refine al2 ?_
     rcases h with h | h
     · rcases List.mem_cons.mp h with e | e
       · cases e
         exact absurd (by rfl) hk
       · exact .inl e
     · exact .inr h
theorem am3 {scope:Scope} {env:Env} {y:Str} {k:NameKind} (h:(relabel scope env).names.lookup y=some k):∃ k',(y,k')∈scope.names∧(k'=k∨(k'= .free∧k= .cell)):=by
 obtain ⟨⟨n,k0⟩,hm,e⟩:=List.mem_map.mp (PySem.mem_of_lookup h)
 dsimp only at e
 split at e
 · rename_i hc
   simp only [Bool.and_eq_true,beq_iff_eq] at hc
   cases e
   exact ⟨k0,hm,.inr ⟨hc.1.1,rfl⟩⟩
 · cases e
   exact ⟨_,hm,.inl rfl⟩
structure CompSc (osc sc:Scope) (x:Str) (cs:List Str):Prop where
 kind:sc.kind= .function
 cell:∀ y∈sc.names,y.2≠ .cell
 loc:∀ y∈sc.names,y.2= .local→sc.names.lookup y.1=some .local
 var:sc.names.lookup x=some .local
 cap:∀ y∈cs,(osc.names.lookup y=some .cell∨osc.names.lookup y=some .free)∧sc.names.lookup y=some .free
 free:∀ y∈sc.names,y.2= .free→osc.names.lookup y.1=some .cell∨osc.names.lookup y.1=some .free
 nd:(x :: cs).Nodup
noncomputable def aq3 (X:Cx) (scope:Scope) (cl:List (Str×Addr)) (C:Addr) (N:List Str) (fp:List Addr) (s₀:Shared) (H₀:Hp):Cx where
 prog:=X.prog
 w:=X.w
 K:=X.K
 mg:=X.mg
 base:=X.base
 A:=X.A
 N:=N
 s₀:=s₀
 H₀:=H₀
 env:=compEnvC scope cl C X.env
 outer:=X.stack
 stack:=X.stack
 ex:=fp
 fn:=fun _=>false
 calm:=X.calm
 pn:=[]
 xe:=fun _ _=>False
noncomputable def capV (σ:St) (ix:List Nat):St:=ix.map fun j=>(σ[j]?).join
section
variable {X:Cx} {pins:List (Addr×Obj)} {σ:St} {H:Hp} {s:Shared} {scope:Scope} {x:Str} {cs:List Str} {ix:List Nat} {fp:List Addr}
theorem aR2 (I:Inv X pins σ H s) (hsc:CompSc X.env.scope scope x cs):∀ y∈scope.names,y.2= .free→∃ c,X.env.cells.lookup y.1=some c:=fun y hy hk=>I.ok.has _ (hsc.free y hy hk)
theorem bl7 {h₁:Heap} {t₁:Nat} {m0:Str→Option Value} (I:Inv X pins σ H s) (hsc:CompSc X.env.scope scope x cs) (hix:ix.map (fun i=>X.N[i]?)=cs.map some) (hf:∀ b∈fp,FpOk X pins H b)
 (hlt:∀ b∈fp,b < s.heap.objs.size) (hn:h₁.Ns s.heap.objs.size m0) (hk:∀ b o,s.heap.get? b=some o→h₁.get? b=some o) :
 Inv (aq3 X scope (ae2 X.env scope.names []) s.heap.objs.size (x :: cs) fp s H) [] (none :: capV σ ix) H { s with heap:=h₁,toks:=t₁ }:=by
 have cin:=aR2 I hsc
 have old:∀ y c,(ae2 X.env scope.names []).lookup y=some c→X.env.cells.lookup y=some c:=fun y c e=>by
  rcases al1 cin e with z | z
  · cases z
  · exact z
 have lenix:ix.length=cs.length:=by
  have:=congrArg List.length hix
  rwa [List.length_map,List.length_map] at this
 refine ⟨⟨I.ok.mod,hsc.kind,I.ok.glob,I.ok.blt,Nat.le_refl _,fun y z c h1 h2=>I.ok.inj y z c (old y c h1) (old z c h2),fun y hy=>?_,fun y c h=>(nomatch h),I.ok.hd,I.ok.frames,.inl rfl,fun b hb=>⟨Nat.ne_of_lt (hlt b hb),fun y c e=>(hf b hb).2.2.2.2.1 y c (old y c e)⟩,
  I.bs,Nat.le_trans I.ok.bsz I.sz,fun b o e hb=>?_,fun b hb hb'=>?_,I.stack,I.stkFree⟩,rfl,I.bare,Un.kept hk,⟨m0,hn,fun i y v h1 h2 h3=>?_⟩,fun y c e=>?_,I.hok.fresh (Nat.le_refl _),fun y c e=>I.freeC y c (old y c e),fun p hp=>absurd (show p∈([]:List (Addr×Obj)) from hp) (by simp),I.hok.kept hk,?_⟩
 · have hy':(relabel scope X.env).names.lookup y=some .cell∨(relabel scope X.env).names.lookup y=some .free:=hy
   have:(y,NameKind.free)∈scope.names:=by
    rcases hy' with q | q
    · obtain ⟨k',hm,e | ⟨e,_⟩⟩:=am3 q
      · subst e
        exact absurd rfl (hsc.cell _ hm)
      · subst e
        exact hm
    · obtain ⟨k',hm,e | ⟨_,e⟩⟩:=am3 q
      · subst e
        exact hm
      · cases e
   exact al2 (.inl this)
 · rcases (hf b hb).2.2.2.1 with z | z
   · exact I.ok.noex b o e z
   · exact absurd (Nat.lt_of_lt_of_le (Heap.lt_size e) (Nat.le_trans I.ok.bsz z)) (Nat.lt_irrefl _)
 · rcases List.mem_cons.mp (I.stkSub b hb') with z | z
   · exact (hf b hb).2.1 z
   · exact (hf b hb).2.2.1 z
 · -- a captured name
   cases i with
   | zero =>
     have:(none :: capV σ ix:St)[0]?=some none:=rfl
     rw [this] at h2
     cases h2
   | succ j =>
     have h1':cs[j]?=some y:=h1
     have h2':(capV σ ix)[j]?=some (some v):=h2
     unfold capV at h2'
     rw [List.getElem?_map] at h2'
     cases ej:ix[j]? with
     | none=>rw [ej] at h2'; cases h2'
     | some k =>
       rw [ej] at h2'
       have h4:(σ[k]?).join=some v:=Option.some.inj h2'
       have h5:σ[k]?=some (some v):=by
        cases e:σ[k]? with
        | none=>rw [e] at h4; cases h4
        | some w=>rw [e] at h4; exact congrArg some h4
       have h6:X.N[k]?=some y:=by
        have q:=congrArg (fun l=>l[j]?) hix
        simp only [List.getElem?_map,ej,h1',Option.map_some] at q
        exact Option.some.inj q
       obtain ⟨c1,c2⟩:=hsc.cap y (List.mem_of_getElem? h1')
       obtain ⟨m,hn',hl⟩:=I.loc
       obtain ⟨u,r,l⟩:=hl k y v h6 h5 (c1.elim (fun z=> .inr (.inl z)) fun z=> .inr (.inr z))
       refine ⟨u,r,?_⟩
       rcases l with ⟨l,_⟩ | ⟨_,c,ec,hc⟩
       · have l':X.env.scope.names.lookup y=some .local:=l
         rcases c1 with z | z <;> (rw [z] at l'; cases l')
       · obtain ⟨c',ec'⟩:=al2 (env:=X.env) (y:=y) (l:=scope.names) (acc:=[]) (.inl (PySem.mem_of_lookup c2))
         have e':=old y c' ec'
         rw [ec] at e'
         cases e'
         refine .inr ⟨?_,c,ec',?_⟩
         · rcases h3 with z | z | z
           · have z':(relabel scope X.env).names.lookup y=some .local:=z
             obtain ⟨k',hm,e | ⟨_,e⟩⟩:=am3 z'
             · subst e
               have:=hsc.loc _ hm rfl
               dsimp only at this
               rw [c2] at this
               cases this
             · cases e
           · exact .inl z
           · exact .inr z
         · obtain ⟨o,ho,hd⟩:=hc
           exact ⟨o,hk c o ho,hd⟩
 · obtain ⟨v,o,ho,hd⟩:=I.cell y c (old y c e)
   exact ⟨v,o,hk c o ho,hd⟩
 · show (none :: capV σ ix:St).length=(x :: cs).length
   rw [List.length_cons,List.length_cons,capV,List.length_map,lenix]
end
noncomputable def PTs (X:Cx) (ifs:List Expr) (t:TT):Prop :=
 ∀ (pins:List (Addr×Obj)) (s:Shared) (σ:St) (H:Hp) (Q:Bool→Hp→Prop),Inv X pins σ H s→t σ H Q →
  wpAny (model X.prog X.w) X.A (forIn ifs true fun c r=>if r=true then do let ok ← isTrue c X.env (eval c X.env); pure (ForInStep.yield ok) else pure (ForInStep.yield r)) (TP X pins σ Q) X.xe s
noncomputable def tYes:TT:=fun _ H Q=>Q true H
theorem bz4 {X:Cx}:PTs X [] tYes:=fun _ _ _ H _ I h=>wpAny_tests_nil ⟨H,I,h⟩
theorem bz3 {X:Cx} {c:Expr} {t:TT} (h:PT X c t):PTs X [c] t:=fun pins s σ H Q I hq=>wpAny_tests_one (h pins s σ H Q I hq)
section
variable {prog:Program} {w:World} {A:Around} {R:Result→Shared→Prop} {s:Shared}
theorem aN9 {elt target iter:Expr} {ifs:List Expr} {scope:Scope} {pos:Pos} {it acc:Value} {env:Env} (I:Nat→Shared→Prop)
 (turn:∀ n s,I n s→wpAny (model prog w) A (pyNext it) (fun r s₁=>match r with
   | none=>R (.ok .next) s₁
   | some v=>wpAny (model prog w) A (letOwnedTupleGo target it v) (fun _ s₁=>wpAny (model prog w) A (assign target env v) (fun _ s₂ =>
      wpAny (model prog w) A (forIn ifs true fun c r=>if r=true then do let ok ← isTrue c env (eval c env); pure (ForInStep.yield ok) else pure (ForInStep.yield r)) (fun ok s₃ =>
       if ok=true then wpAny (model prog w) A (eval elt env) (fun x s₄ =>
        wpAny (model prog w) A (call (.builtin "list.append") [acc,x]) (fun _ s₅=>∃ m,m < n∧I m s₅) (fun _ _=>False) s₄) (fun _ _=>False) s₃
       else ∃ m,m < n∧I m s₃) (fun _ _=>False) s₂) (fun _ _=>False) s₁) (fun _ _=>False) s₁) (fun _ _=>False) s)
 (n:Nat) (h:I n s):codeAny (model prog w) A (.compLoop (.ListComp elt [⟨target,iter,ifs,0⟩] scope pos) 0 it acc env) R s:=by
 refine codeAny_loop rfl I (fun n s hI=>?_) n h
 have up:∀ {α:Type} {t:Sem α} {Q:α→Shared→Prop} {E:Value→Shared→Prop} {s:Shared},wpAny (model prog w) A t Q (fun _ _=>False) s→wpAny (model prog w) A t Q E s:=fun h=>wpAny_mono h (fun _ _ z=>z) fun _ _ z=>z.elim
 show wpAny _ A ((compTurn (.ListComp elt [⟨target,iter,ifs,0⟩] scope pos) 0 it acc env).onRaise _) _ _ s
 refine wpAny_noted (up ?_)
 rw [compTurn_list]
 refine wpAny_bind (wpAny_standAt (wpAny_bind (thn (turn n s hI) fun r s₁ h₁=>?_)))
 cases r with
 | none=>exact wpAny_pure h₁
 | some v =>
   refine wpAny_bind (thn h₁ fun _ s₁' h₁'=>wpAny_bind (thn h₁' fun _ s₂ h₂=>wpAny_bind (thn h₂ fun ok s₃ h₃=>?_)))
   cases ok with
   | false=>exact wpAny_pure ⟨rfl,h₃⟩
   | true=>exact wpAny_bind (wpAny_bind (thn h₃ fun x s₄ h₄=>wpAny_bind (thn h₄ fun _ s₅ h₅=>wpAny_pure (wpAny_pure ⟨rfl,h₅⟩))))
end
noncomputable def bS6 (J:It) (τ:V→St) (ti:TT) (te:TE) (p:Addr) (H1:Hp) (Q:VK):Prop :=
 ∃ W:Nat→Nat→List V→Hp→Prop,(∃ m,W 0 m [] (upd H1 p (.lst [])))∧∀ i m ys H2,W i m ys H2→H2 p=some (.lst ys)∧ys.length < sizeLine ∧
  ((J.stop i H2∧Q (.ref p) H2)∨(J.go i H2∧∀ v H3,J.yld i H2 v H3→ti (τ v) H3 fun b H4=>if b=true then te (τ v) H4 fun y H5=>H5 p=some (.lst ys)∧∃ m',m' < m∧W (i + 1) m' (ys ++ [y]) (upd H5 p (.lst (ys ++ [y])))
    else ∃ m',m' < m∧W (i + 1) m' ys H4))
noncomputable def bi4 (wi:TI) (ix:List Nat) (ti:TT) (te:TE):TE:=fun σ H Q=>wi σ H fun J H1=>∀ p,H1 p=none→bS6 J (fun v=>some v :: capV σ ix) ti te p H1 Q
section
variable {X:Cx} {pins:List (Addr×Obj)} {σ:St} {H:Hp} {s:Shared} {scope:Scope} {x:Str} {px pos:Pos} {cs:List Str} {ix:List Nat} {fp:List Addr} {elt iter:Expr} {ifs:List Expr} {ti:TT} {te:TE}
theorem ay7 {J:It} {it:Addr} {tn:Nat→Heap→Prop} {Qe:VK} {RR:Value→Addr→Result→Shared→Prop} {E:Value→Shared→Prop} (hcalm:X.calm=true) (I2:Inv X pins σ H s) (hsc:CompSc X.env.scope scope x cs) (hix:ix.map (fun i=>X.N[i]?)=cs.map some)
 (T:Turn X.prog X.w X.K (.Name x px) J fp it tn) (st0:tn 0 s.heap) (hf:∀ b∈fp,FpOk X pins H b)
 (hti:∀ C fp s₀ H₀,PTs (aq3 X scope (ae2 X.env scope.names []) C (x :: cs) fp s₀ H₀) ifs ti) (hte:∀ C fp s₀ H₀,PE (aq3 X scope (ae2 X.env scope.names []) C (x :: cs) fp s₀ H₀) elt te)
 (hW:∀ p,H p=none→bS6 J (fun v=>some v :: capV σ ix) ti te p H Qe)
 (hRR:∀ p C H' s',Inv X pins σ H' s'→FpOk X pins H' C→(∃ m,s'.heap.Ns C m)→Qe (.ref p) H'→RR (.ref p) C (.ok .next) s') :
 wpAny (model X.prog X.w) X.A (newList []) (fun acc s₃=>wpAny (model X.prog X.w) X.A (newFunctionEnv scope X.env.globals (ae2 X.env scope.names []) [] X.env.qual none .none (some X.env)) (fun cenv s₄ =>
  codeAny (model X.prog X.w) X.A (.compStart (.ListComp elt [⟨.Name x px,iter,ifs,0⟩] scope pos) 0 (.ref it) acc { cenv with scope:=relabel scope X.env }) (RR acc cenv.locals) s₄) E s₃) E s:=by
 refine wpAny_newObj_type (wpAny_newFunctionEnv hsc.cell (by intro y hy; simp at hy) (fun h₁ hns₁ hsb₁=>?_) hsc.kind)
 dsimp only at hns₁ hsb₁ ⊢
 have hD:H s.heap.objs.size=none:=I2.hok.fresh (Nat.le_refl _)
 have I3:Inv X pins σ (upd H s.heap.objs.size (.lst [])) { s with heap:=s.heap.push { cls:= .type "list",dict:=none,data:= .seq ([]:List Value).toArray } } :=
  I2.laid (t':=s.toks) (fun b u e=>Heap.get?_push_of_some _ e) (Nat.le_refl _) ⟨Nat.zero_le _,[],0,.nil,Heap.get?_push_size _ rfl⟩
 obtain ⟨W,⟨m0,w0⟩,turn⟩:=hW _ hD
 have hlt0:∀ b∈fp,b < s.heap.objs.size:=fun b hb=>by
  obtain ⟨o,e,_⟩:=T.obj 0 _ st0 b hb
  exact Heap.lt_size e
 have hlt:∀ b∈fp,b < (s.heap.push { cls:= .type "list",dict:=none,data:= .seq ([]:List Value).toArray }).objs.size:=fun b hb=>by
  rw [Heap.size_push]
  exact Nat.lt_succ_of_lt (hlt0 b hb)
 have hf3:∀ b∈fp,FpOk X pins (upd H s.heap.objs.size (.lst [])) b:=fun b hb=>⟨by rw [ab2 (Nat.ne_of_lt (hlt0 b hb))]; exact (hf b hb).1,(hf b hb).2⟩
 have kept:∀ b o,(s.heap.push { cls:= .type "list",dict:=none,data:= .seq ([]:List Value).toArray }).get? b=some o→h₁.get? b=some o:=fun b o e =>
  hsb₁.extBut b o (Nat.ne_of_lt (Heap.lt_size e)) (Heap.get?_push_of_some _ e)
 have kept0:∀ b o,s.heap.get? b=some o→h₁.get? b=some o:=fun b o e=>kept b o (Heap.get?_push_of_some _ e)
 have I4:=bl7 (t₁:=s.toks + ([]:List (Str×Value)).length) I3 hsc hix hf3 hlt hns₁ kept
 have st4:tn 0 h₁:=T.keep 0 _ _ st0 fun b _ o e=>kept0 b o e
 have loop:codeAny (model X.prog X.w) X.A (.compLoop (.ListComp elt [⟨.Name x px,iter,ifs,0⟩] scope pos) 0 (.ref it) (.ref s.heap.objs.size) (compEnvC scope (ae2 X.env scope.names []) (s.heap.push { cls:= .type "list",dict:=none,data:= .seq ([]:List Value).toArray }).objs.size X.env))
  (RR (.ref s.heap.objs.size) (s.heap.push { cls:= .type "list",dict:=none,data:= .seq ([]:List Value).toArray }).objs.size) { s with heap:=h₁,toks:=s.toks + ([]:List (Str×Value)).length }:=by
  generalize hY:aq3 X scope (ae2 X.env scope.names []) (s.heap.push { cls:= .type "list",dict:=none,data:= .seq ([]:List Value).toArray }).objs.size (x :: cs) fp { s with heap:=s.heap.push { cls:= .type "list",dict:=none,data:= .seq ([]:List Value).toArray } } (upd H s.heap.objs.size (.lst []))=Y at I4
  have hti':PTs Y ifs ti:=by rw [← hY]; exact hti _ _ _ _
  have hte':PE Y elt te:=by rw [← hY]; exact hte _ _ _ _
  have hcY:Y.calm=true:=by rw [← hY]; exact hcalm
  have hg:PG Y (.Name x px) (aB3 0):=by
   rw [← hY]
   exact as4 hsc.nd rfl (.inl (lookup_relabel_local hsc.var)) (.inr (lookup_relabel_local hsc.var))
  have f4:∀ {H':Hp},(∀ b∈fp,H' b=none)→∀ b∈fp,FpOk Y [] H' b:=fun {H'} hn b hb=>by
   rw [← hY]
   refine ⟨hn b hb,Nat.ne_of_lt (hlt b hb),fun z=>?_,.inl hb,fun y c e z=>?_,fun p hp=>absurd (show p∈([]:List (Addr×Obj)) from hp) (by simp)⟩
   · rcases List.mem_cons.mp (I3.stkSub b z) with q | q
     · exact (hf b hb).2.1 q
     · exact (hf b hb).2.2.1 q
   · rcases al1 (aR2 I2 hsc) e with q | q
     · cases q
     · exact (hf b hb).2.2.2.2.1 y c q z
  have fin:∀ {vo:Option V} {H':Hp} {s':Shared},Inv Y [] (vo :: capV σ ix) H' s'→Qe (.ref s.heap.objs.size) H'→RR (.ref s.heap.objs.size) (s.heap.push { cls:= .type "list",dict:=none,data:= .seq ([]:List Value).toArray }).objs.size (.ok .next) s':=fun {vo H' s'} J q=>by
   rw [← hY] at J
   have Ix:Inv X pins σ H' s':=I3.call' (ch:=fp) J.os J.base J.hok J.bare fun b hb=>⟨(hf b hb).2.2.2.1,(hf b hb).2.1,(hf b hb).2.2.2.2.1,(hf b hb).2.2.2.2.2⟩
   refine hRR _ _ H' s' Ix (I3.fpOk (Nat.le_refl _) J.free) ?_ q
   obtain ⟨m,hm,_⟩:=J.loc
   exact ⟨m,hm⟩
  have eY:compEnvC scope (ae2 X.env scope.names []) (s.heap.push { cls:= .type "list",dict:=none,data:= .seq ([]:List Value).toArray }).objs.size X.env=Y.env:=by rw [← hY]; rfl
  have eP:X.prog=Y.prog:=by rw [← hY]; rfl
  have eW:X.w=Y.w:=by rw [← hY]; rfl
  have eK:X.K=Y.K:=by rw [← hY]; rfl
  have eA:X.A=Y.A:=by rw [← hY]; rfl
  have eX:Y.xe=fun _ _=>False:=by rw [← hY]; rfl
  rw [eP,eW,eK] at T
  rw [eY,eP,eW,eA]
  refine aN9 (fun n s'=>∃ i ys vo H',Inv Y [] (vo :: capV σ ix) H' s'∧tn i s'.heap∧(∀ b∈fp,H' b=none)∧W i n ys H') ?_ m0 ⟨0,[],none,_,I4,st4,fun b hb=>(hf3 b hb).1,w0⟩
  rintro n s' ⟨i,ys,vo,H',I',st',fr',w'⟩
  obtain ⟨hp,hlen,ways⟩:=turn i n ys H' w'
  rcases ways with ⟨stop,q⟩ | ⟨go,step⟩
  · refine thn (T.done Y rfl rfl rfl hcY i [] s' (vo :: capV σ ix) H' (fun _ _=>False) I' (f4 fr') st' stop) fun r s1 ⟨hr,I1⟩=>?_
    subst hr
    exact fin I1 q
  · refine thn (T.item Y rfl rfl rfl hcY i [] s' (vo :: capV σ ix) H' (fun _ _=>False) I' (f4 fr') st' go) fun r s1 ⟨u,hr,h4⟩=>?_
    subst hr
    refine thn h4 fun _ s2 ⟨v,H2,J2,r2,y2,st2,fr2⟩=>?_
    have J2p:=J2.pinned (f4 fr2) (T.obj _ _ st2)
    have again:∀ {σ':St} {H7:Hp} {s7:Shared},Inv Y ([] ++ aD6 fp s2.heap) σ' H7 s7→tn (i + 1) s7.heap∧∀ b∈fp,H7 b=none:=fun {σ' H7 s7} I7=>by
     refine ⟨T.keep _ _ _ st2 fun b hb o e=>(I7.pin (b,o) (List.mem_append_right _ (List.mem_append_right _ (al0 hb e)))).1,fun b hb=>?_⟩
     obtain ⟨o,e,d⟩:=T.obj _ _ st2 b hb
     exact (I7.pin (b,o) (List.mem_append_right _ (List.mem_append_right _ (al0 hb e)))).2.1
    have hga:=hg _ s2 (vo :: capV σ ix) H2 v u (fun σ' H'=>σ'=some v :: capV σ ix∧H'=H2) J2p r2 ⟨rfl,rfl⟩
    rw [eX] at hga
    refine thn hga fun _ s3 ⟨σ3,H3,J3,e3,e3'⟩=>?_
    subst e3 e3'
    have htt:=hti' _ s3 _ H3 _ J3 (step v H3 y2)
    rw [eX] at htt
    refine thn htt fun b s4 ⟨H4,J4,q4⟩=>?_
    cases b with
    | false =>
      rw [if_neg Bool.false_ne_true] at q4 ⊢
      obtain ⟨m',hm,w4⟩:=q4
      exact ⟨m',hm,i + 1,ys,some v,H4,J4.unpinned,(again J4).1,(again J4).2,w4⟩
    | true =>
      rw [if_pos rfl] at q4 ⊢
      have hee:=hte' _ s4 _ H4 _ J4 q4
      rw [eX] at hee
      refine thn hee fun y s5 ⟨yv,H5,J5,r5,hp5,m',hm,w5⟩=>?_
      have hap:=aE3 (X:=Y) _ s5 _ H5 (.ref s.heap.objs.size) [yv] (.ref s.heap.objs.size) [y] (fun _ H6=>H6=upd H5 s.heap.objs.size (.lst (ys ++ [yv]))) J5 rfl (.cons r5 .nil) ⟨_,ys,yv,rfl,rfl,hp5,hlen,rfl⟩
      rw [eX] at hap
      refine thn hap fun _ s6 ⟨_,H6,J6,_,e6⟩=>?_
      subst e6
      exact ⟨m',hm,i + 1,ys ++ [yv],some v,_,J6.unpinned,(again J6).1,(again J6).2,w5⟩
 exact codeAny_compStart_list loop (T.self _ 0 _ _ _ st4 loop)
theorem bz6 {wi:TI} (hcalm:X.calm=true) (hi:PI X (.Name x px) iter wi) (hsc:CompSc X.env.scope scope x cs) (hix:ix.map (fun i=>X.N[i]?)=cs.map some)
 (hti:∀ C fp s₀ H₀,PTs (aq3 X scope (ae2 X.env scope.names []) C (x :: cs) fp s₀ H₀) ifs ti) (hte:∀ C fp s₀ H₀,PE (aq3 X scope (ae2 X.env scope.names []) C (x :: cs) fp s₀ H₀) elt te)
 (hcl:closureFor scope X.env=pure (ae2 X.env scope.names []):=by rfl) (hs:∀ x,foldedSetIterable iter X.env x=pure x:=by intro _; rfl) :
 PE X (.ListComp elt [⟨.Name x px,iter,ifs,0⟩] scope pos) (bi4 wi ix ti te):=by
 intro pins s σ H Q I h
 rw [eval_ListComp]
 refine wpAny_comprehension_free (use:=none) rfl hs hcl hsc.kind hsc.loc (thn (hi pins s σ H _ I h) fun v s1 h1=>thn h1 fun itv s2 h2=>?_)
 obtain ⟨it,fp,tn,J,H2,e,I2,T,st2,f2,hW⟩:=h2
 subst e
 refine ay7 (RR:=fun acc C=>compPost (model X.prog X.w) X.A X.xe none (EP X pins σ Q) acc C) hcalm I2 hsc hix T st2 f2 hti hte hW ?_
 rintro p C H' s' I' ⟨f0,f1,_,f3,f4,f5⟩ ⟨m,hm⟩ q
 exact ⟨m,hm,fun h' hs'=>⟨.ref p,H',I'.turned (t':=s'.toks) (fun b o hb e=>hs'.extBut b o hb e) f0 f1 f3 f4 f5,rfl,q⟩⟩
theorem aS4 {wi:TI} {y:Str} {py spos:Pos} {i:Nat} (hcalm:X.calm=true) (hN:X.N.Nodup) (hi':X.N[i]?=some y) (hy:Loc X.env.scope y) (hi:PI X (.Name x px) iter wi) (hsc:CompSc X.env.scope scope x cs) (hix:ix.map (fun i=>X.N[i]?)=cs.map some)
 (hti:∀ C fp s₀ H₀,PTs (aq3 X scope (ae2 X.env scope.names []) C (x :: cs) fp s₀ H₀) ifs ti) (hte:∀ C fp s₀ H₀,PE (aq3 X scope (ae2 X.env scope.names []) C (x :: cs) fp s₀ H₀) elt te)
 (hsw:swapsWith (.ListComp elt [⟨.Name x px,iter,ifs,0⟩] scope pos) (some (.Name y py)) spos.line X.env=pure true:=by rfl)
 (hcl:closureFor scope X.env=pure (ae2 X.env scope.names []):=by rfl) (hs:∀ x,foldedSetIterable iter X.env x=pure x:=by intro _; rfl)
 (hf:X.fn y=true∨X.env.scope.names.lookup y=some .local:=by first | exact .inl rfl | exact .inr rfl | assumption) :
 PS X (.Assign [.Name y py] (.ListComp elt [⟨.Name x px,iter,ifs,0⟩] scope pos) spos) (tAsg (bi4 wi ix ti te) (aB3 i)):=by
 intro pins s σ H D I h
 rw [exec_Assign_Name_used _ _ _ _ hsw]
 refine wpAny_bind (wpAny_standAt (wpAny_bind ?_))
 show wpAny _ X.A (do let _ ← comprehension (.ListComp elt [⟨.Name x px,iter,ifs,0⟩] scope pos) scope X.env _ (newList []) false (eval iter X.env) (some (assign (.Name y py) X.env))) _ _ s
 refine wpAny_bind (thn (wpAny_comprehension_free (Q:=fun _ s'=>SP X pins D .next s') rfl hs hcl hsc.kind hsc.loc (thn (hi pins s σ H _ I h) fun v s1 h1=>thn h1 fun itv s2 h2=>?_)) fun _ s' hq=>wpAny_pure (wpAny_pure hq))
 obtain ⟨it,fp,tn,J,H2,e,I2,T,st2,f2,hW⟩:=h2
 subst e
 refine ay7 (RR:=fun acc C=>compPost (model X.prog X.w) X.A X.xe (some (assign (.Name y py) X.env)) (fun _ s'=>SP X pins D .next s') acc C) hcalm I2 hsc hix T st2 f2 hti hte hW ?_
 rintro p C H' s' I' ⟨f0,f1,f2',f3,f4,f5⟩ ⟨m,hm⟩ q
 obtain ⟨oC,es,ep,hoC,hdC,rC⟩:=hm
 have Ip:Inv X (pins ++ [(C,oC)]) σ H' s':=I'.pins_of fun p hp=>(List.mem_append.mp hp).elim (fun z=>I'.pin p (List.mem_append_right _ z)) fun z=>by
  have e:p=(C,oC):=by simpa using z
  subst e
  exact ⟨hoC,f0,f1,f2',fun v z=>by rw [hdC] at z; cases z⟩
 have hg:PG X (.Name y py) (aB3 i):=as4 hN hi' hy hf
 refine thn (hg _ s' σ H' (.ref p) (.ref p) D.nx Ip rfl q) fun _ s3 ⟨σ3,H3,I3,q3⟩=>?_
 have hpin:=I3.pin (C,oC) (List.mem_append_right _ (List.mem_append_right _ (by simp)))
 refine ⟨m,⟨oC,es,ep,hpin.1,hdC,rC⟩,fun h' hs'=>?_⟩
 exact ⟨σ3,H3,(I3.unpinned).turned (t':=s3.toks) (fun b o hb e=>hs'.extBut b o hb e) hpin.2.1 f1 f3 f4 f5,q3⟩
end
mutual
noncomputable def Den (K:PySem.W.Frag) (H:Hp):PyData→V→Prop
 | .none,v=>v= .non
 | .bool b,v=>v= .bl b
 | .int i,v=>v= .int i
 | .str x,v=>v= .str x
 | .list ds,v=>∃ a xs,v= .ref a∧SqL K H a xs∧Dens K H ds xs
 | .tuple ds,v=>∃ a xs,v= .ref a∧SqT K H a xs∧Dens K H ds xs
 | .dict _,_=>False
noncomputable def Dens (K:PySem.W.Frag) (H:Hp):List PyData→List V→Prop
 | [],xs=>xs=[]
 | d :: ds,xs=>∃ x r,xs=x :: r∧Den K H d x∧Dens K H ds r
end
section
variable {X:Cx} {pins:List (Addr×Obj)} {σ:St} {H:Hp} {s:Shared}
mutual
theorem den_reads (I:Inv X pins σ H s):∀ (d:PyData) {v:V} {u:Value},Den X.K H d v→RelV v u→∃ as,Reads s.heap u d as
 | .none,v,u,h,r=>by
   rw [Den] at h
   subst h
   have r':u=Value.none:=r
   subst r'
   exact ⟨_,.none⟩
 | .bool b,v,u,h,r=>by
   rw [Den] at h
   subst h
   have r':u=Value.bool b:=r
   subst r'
   exact ⟨_,.bool b⟩
 | .int i,v,u,h,r=>by
   rw [Den] at h
   subst h
   obtain ⟨t,r'⟩:=(show ∃ t,u=Value.int i t from r)
   subst r'
   exact ⟨_,.int i t⟩
 | .str x,v,u,h,r=>by
   rw [Den] at h
   subst h
   obtain ⟨t,r'⟩:=(show ∃ t,u=Value.str x t from r)
   subst r'
   exact ⟨_,.str x t⟩
 | .list ds,v,u,h,r=>by
   rw [Den] at h
   obtain ⟨a,xs,rfl,hq,hd⟩:=h
   have r':u=Value.ref a:=r
   subst r'
   obtain ⟨its,rv,p,hz⟩:=I.list hq
   obtain ⟨as,ra⟩:=dens_reads I ds hd rv
   obtain ⟨o,ho,hc,n,hdat⟩:=p.isList
   exact ⟨_,.list ho hc hdat (by simpa using ra)⟩
 | .tuple ds,v,u,h,r=>by
   rw [Den] at h
   obtain ⟨a,xs,rfl,hq,hd⟩:=h
   have r':u=Value.ref a:=r
   subst r'
   obtain ⟨its,rv,p,hz⟩:=I.tuple hq
   obtain ⟨as,ra⟩:=dens_reads I ds hd rv
   obtain ⟨o,ho,hc,n,hdat⟩:=p
   exact ⟨_,.tuple ho hc hdat (by simpa using ra)⟩
 | .dict _,v,u,h,r=>by
   rw [Den] at h
   exact h.elim
theorem dens_reads (I:Inv X pins σ H s):∀ (ds:List PyData) {xs:List V} {us:List Value},Dens X.K H ds xs→Vals xs us→∃ as,ReadsAll s.heap us ds as
 | [],xs,us,h,r=>by
   rw [Dens] at h
   subst h
   cases r
   exact ⟨_,.nil⟩
 | d :: ds,xs,us,h,r=>by
   rw [Dens] at h
   obtain ⟨x,t,rfl,hx,ht⟩:=h
   cases r with
   | cons r1 r2 =>
     obtain ⟨as,ra⟩:=den_reads I d hx r1
     obtain ⟨bs,rb⟩:=dens_reads I ds ht r2
     exact ⟨_,.cons ra rb⟩
end
end
section
variable {X:Cx}
noncomputable def rEqD (K:PySem.W.Frag) (neg:Bool):R2:=fun x y H Q=>∃ d e,Den K H d x∧Den K H e y∧SeqAt.shaped d=true∧SeqAt.shaped e=true∧Q (.bl (if neg then !PyData.eqv d e else PyData.eqv d e)) H
theorem bL0 (hu:X.A.units + 64 < cLine):OpR X (compareOp .NotEq) (rEqD X.K true):=by
 intro pins s σ H x y v u Q I rx ry h
 obtain ⟨d,e,hd,he,sd,se,q⟩:=h
 obtain ⟨as,ra⟩:=den_reads I d hd rx
 obtain ⟨bs,rb⟩:=den_reads I e he ry
 exact ne_dataH ra rb sd se hu ⟨.bl _,H,I,rfl,q⟩
end
section
variable {X:Cx}
theorem bn3:ak7 X (.builtin "isinstance") (fun xs H Q=>∃ x c t b,xs=[x,.ty c]∧TyOf X.K H x t∧PySem.W.kitOne X.K t (.type c)=some b∧Q (.bl b) H):=by
 intro pins s σ H xs us Q I r h
 obtain ⟨x,c,t,b,rfl,ty,e,q⟩:=h
 obtain ⟨u,w',rfl,r1,r2⟩:=vals2 r
 have r3:w'=Value.type c:=r2
 subst r3
 exact bc0 I r1 ty e fun tk=>⟨.bl b,H,I.tok tk,rfl,q⟩
end
section
variable {prog:Program} {w:World} {A:Around} {R:Result→Shared→Prop} {I:Addr} {fp wr:List Addr} {n:Nat} {P:Nat→Value→Prop} {St:Nat→Heap→Prop}
theorem aL7 (W:Walks prog w A.in1 I fp wr n P St) (kw:List (Str×Value)) (bt:Nat→Nat→Bool) (cmp:CmpOf prog w A.in1 .Lt P bt) (S:Addr) (nS:S∉fp):∀ (k j:Nat) (s:Shared) (vb:Value) (c:Nat),
 n - (j + 1)=k→j + 1≤n→St (j + 1) s.heap→P (argBest bt j) vb→s.heap.get? S=some { cls:= .type "list",dict:=none,data:= .seq #[vb,vb] c,slots:=#[] } →
 (∀ v h' tk,P (argBest bt (n - 1)) v→(∀ b o,b∉wr→b≠S→s.heap.get? b=some o→h'.get? b=some o)→R (.ok (.ret v)) { s with heap:=h',toks:=tk }) →
 codeAny (model prog w) A (.builtin "min.loop" ⟨[.ref I,.none,.ref S],kw⟩) R s:=by
 have nW:S∉wr:=fun z=>nS (W.sub _ z)
 have nm:(toString "min" ++ toString ".loop" : String) = "min.loop" := by decide
 intro k
 induction k with
 | zero =>
   intro j s vb c e1 e2 st pb oS fin
   refine codeAny_builtin PySem.F.entry_min_loop ?_
   rw [Around.under_plainId PySem.F.plain_min_loop _]
   refine wpAny_bind (m:=seqItems? (.ref S)) (wpAny_seqItems oS rfl ?_)
   refine wpAny_bind (m:=tryCatch (pyNext (.ref I)) _) (wpAny_tryCatch (W.done s _ _ ((show j + 1=n by omega) ▸ st) fun h' tk kp=>?_))
   refine wpAny_bind (m:=updateSeq S (fun _=>#[])) ?_
   refine wpAny_updateSeq (kp S _ nW oS) rfl (wpAny_bind (wpAny_letGo (wpAny_pure ?_)))
   exact fin vb _ tk (by rw [show n - 1=j by omega]; exact pb) fun b o hw hS e=>(Heap.get?_update_other _ _ (Ne.symm hS)).trans (kp b o hw e)
 | succ k ih =>
   intro j s vb c e1 e2 st pb oS fin
   have lt:j + 1 < n:=by omega
   refine codeAny_builtin PySem.F.entry_min_loop ?_
   rw [Around.under_plainId PySem.F.plain_min_loop _]
   refine wpAny_bind (m:=seqItems? (.ref S)) (wpAny_seqItems oS rfl ?_)
   refine wpAny_bind (m:=tryCatch (pyNext (.ref I)) _) (wpAny_tryCatch (W.item (j + 1) s _ _ lt st fun v h' tk pv st' kp=>?_))
   have oS':=kp S _ nW oS
   refine wpAny_bind (m:=tryCatch (holding [v,v] (richCompare .Lt v vb >>= _)) _) (wpAny_tryCatch (wpAny_holding (wpAny_bind (cmp (j + 1) (argBest bt j) v vb _ _ _ pv pb ?_))))
   refine wpAny_bind (wpAny_holding (wpAny_truthy_bool (wpAny_bind (wpAny_letGo (wpAny_pure ?_)))))
   cases eb:bt (j + 1) (argBest bt j) with
   | true =>
     rw [if_pos rfl]
     refine wpAny_bind ?_
     refine wpAny_updateSeq oS' rfl (wpAny_bind (wpAny_letGo ?_))
     rw [nm]
     refine wpAny_pure ⟨plainId_quiet PySem.F.plain_min_loop _,ih (j + 1) _ v _ (by omega) lt (W.frame _ _ _ st' fun b hb o e=>?_) (by simp only [argBest,eb,if_true]; exact pv) (Heap.get?_update_self _ oS' rfl) fun v' h'' tk'' pv' kp''=>?_⟩
     · exact (Heap.get?_update_other _ _ (fun z:S=b=>nS (by rw [z]; exact hb))).trans e
     · exact fin v' h'' tk'' pv' fun b o hw hS e=>kp'' b o hw hS ((Heap.get?_update_other _ _ (Ne.symm hS)).trans (kp b o hw e))
   | false =>
     rw [if_neg Bool.false_ne_true]
     refine wpAny_bind (wpAny_letGo ?_)
     rw [nm]
     exact wpAny_pure ⟨plainId_quiet PySem.F.plain_min_loop _,ih (j + 1) _ vb c (by omega) lt st' (by simp only [argBest,eb,Bool.false_eq_true,if_false]; exact pb) oS' fun v' h'' tk'' pv' kp''=>fin v' h'' tk'' pv' fun b o hw hS e=>kp'' b o hw hS (kp b o hw e)⟩
end
theorem bi0 (a d:Value):argsOk "min" ⟨[a],[(Str.ofString "default",d)]⟩:=by unfold argsOk; kernel_rfl
section
variable {prog:Program} {w:World} {A:Around} {E:Value→Shared→Prop} {s:Shared}
theorem bh3 {x d:Value} {Q:Value→Shared→Prop}
 (h:wpAny (model prog w) A.in1 (pyIter x) (fun it s₂=>∃ I fp wr n P St bt,it= .ref I∧Walks prog w A.in1 I fp wr n P St∧St 0 s₂.heap∧(∀ b∈fp,b < s₂.heap.objs.size)∧CmpOf prog w A.in1 .Lt P bt ∧
   (n=0→∀ h' tk,(∀ b o,b∉wr→s₂.heap.get? b=some o→h'.get? b=some o)→Q d { s₂ with heap:=h',toks:=tk }) ∧
   (0 < n→∀ v h' tk,P (argBest bt (n - 1)) v→(∀ b o,b∉wr→s₂.heap.get? b=some o→h'.get? b=some o)→Q v { s₂ with heap:=h',toks:=tk })) E s) :
 wpAny (model prog w) A (call (.builtin "min") [x] [(Str.ofString "default",d)]) Q E s:=by
 have nm:(toString "min" ++ toString ".loop" : String) = "min.loop" := by decide
 refine kmk_tree PySem.F.kind_min PySem.F.plain_min PySem.F.entry_min (bi0 _ _) ?_
 refine wpAny_bind (m:=Builtin.Builtins.bindParams "min" ["key", "default"] 0 ⟨[],[(Str.ofString "default",d)]⟩) (wpAny_of_eq (show _=pure [none,some d] from rfl) ?_)
 refine wpAny_bind (wpAny_pure (wpAny_bind (wpAny_mono h (fun it s₂ h₂=>?_) fun _ _ e=>e)))
 obtain ⟨I,fp,wr,n,P,St,bt,rfl,W,st,lts,cmp,q0,q1⟩:=h₂
 refine wpAny_bind (wpAny_newObj_type ?_)
 have nS:s₂.heap.objs.size∉fp:=fun z=>Nat.lt_irrefl _ (lts _ z)
 have nW:s₂.heap.objs.size∉wr:=fun z=>nS (W.sub _ z)
 rw [nm]
 have st1:=W.frame _ _ (s₂.heap.push { cls:= .type "list",dict:=none,data:= .seq ([]:List Value).toArray }) st fun b _ o e=>Heap.get?_push_of_some _ e
 have oS:(s₂.heap.push { cls:= .type "list",dict:=none,data:= .seq ([]:List Value).toArray }).get? s₂.heap.objs.size=some { cls:= .type "list",dict:=none,data:= .seq ([]:List Value).toArray }:=Heap.get?_push_size _ rfl
 refine wpAny_pure ⟨plainId_quiet PySem.F.plain_min_loop _,codeAny_builtin PySem.F.entry_min_loop ?_⟩
 rw [Around.under_plainId PySem.F.plain_min_loop _]
 refine wpAny_bind (m:=seqItems? (.ref s₂.heap.objs.size)) (wpAny_seqItems oS rfl ?_)
 by_cases hn:n=0
 · refine wpAny_bind (m:=tryCatch (pyNext (.ref I)) _) (wpAny_tryCatch (W.done _ _ _ (hn ▸ st1) fun h' tk kp=>?_))
   refine wpAny_bind (m:=rule _) (wpAny_rule (wpAny_pure ?_))
   exact q0 hn h' tk fun b o hw e=>kp b o hw (Heap.get?_push_of_some _ e)
 · have lt:0 < n:=Nat.pos_of_ne_zero hn
   refine wpAny_bind (m:=tryCatch (pyNext (.ref I)) _) (wpAny_tryCatch (W.item 0 _ _ _ lt st1 fun v h' tk pv st' kp=>?_))
   have oS':=kp _ _ nW oS
   refine wpAny_bind (m:=updateSeq s₂.heap.objs.size (fun _=>#[v,v])) ?_
   refine wpAny_updateSeq oS' rfl ?_
   rw [nm]
   refine wpAny_pure ⟨plainId_quiet PySem.F.plain_min_loop _,aL7 W _ bt cmp _ nS _ 0 _ v _ rfl lt (W.frame _ _ _ st' fun b hb o e=>?_) pv (Heap.get?_update_self _ oS' rfl) fun v' h'' tk'' pv' kp''=>?_⟩
   · exact (Heap.get?_update_other _ _ (fun z:s₂.heap.objs.size=b=>nS (by rw [z]; exact hb))).trans e
   · exact q1 lt v' h'' tk'' pv' fun b o hw e=>kp'' b o hw (Nat.ne_of_lt (Heap.lt_size e)) ((Heap.get?_update_other _ _ (Nat.ne_of_gt (Heap.lt_size e))).trans (kp b o hw (Heap.get?_push_of_some _ e)))
end
section
variable {prog:Program} {w:World} {A:Around} {R:Result→Shared→Prop} {I:Addr} {fp wr:List Addr} {n:Nat} {P:Nat→Value→Prop} {St:Nat→Heap→Prop}
theorem aL8 (W:Walks prog w A.in1 I fp wr n P St) (kw:List (Str×Value)) (bt:Nat→Nat→Bool) (cmp:CmpOf prog w A.in1 .Gt P bt) (S:Addr) (nS:S∉fp):∀ (k j:Nat) (s:Shared) (vb:Value) (c:Nat),
 n - (j + 1)=k→j + 1≤n→St (j + 1) s.heap→P (argBest bt j) vb→s.heap.get? S=some { cls:= .type "list",dict:=none,data:= .seq #[vb,vb] c,slots:=#[] } →
 (∀ v h' tk,P (argBest bt (n - 1)) v→(∀ b o,b∉wr→b≠S→s.heap.get? b=some o→h'.get? b=some o)→R (.ok (.ret v)) { s with heap:=h',toks:=tk }) →
 codeAny (model prog w) A (.builtin "max.loop" ⟨[.ref I,.none,.ref S],kw⟩) R s:=by
 have nW:S∉wr:=fun z=>nS (W.sub _ z)
 have nm:(toString "max" ++ toString ".loop" : String) = "max.loop" := by decide
 intro k
 induction k with
 | zero =>
   intro j s vb c e1 e2 st pb oS fin
   refine codeAny_builtin PySem.F.entry_max_loop ?_
   rw [Around.under_plainId PySem.F.plain_max_loop _]
   refine wpAny_bind (m:=seqItems? (.ref S)) (wpAny_seqItems oS rfl ?_)
   refine wpAny_bind (m:=tryCatch (pyNext (.ref I)) _) (wpAny_tryCatch (W.done s _ _ ((show j + 1=n by omega) ▸ st) fun h' tk kp=>?_))
   refine wpAny_bind (m:=updateSeq S (fun _=>#[])) ?_
   refine wpAny_updateSeq (kp S _ nW oS) rfl (wpAny_bind (wpAny_letGo (wpAny_pure ?_)))
   exact fin vb _ tk (by rw [show n - 1=j by omega]; exact pb) fun b o hw hS e=>(Heap.get?_update_other _ _ (Ne.symm hS)).trans (kp b o hw e)
 | succ k ih =>
   intro j s vb c e1 e2 st pb oS fin
   have lt:j + 1 < n:=by omega
   refine codeAny_builtin PySem.F.entry_max_loop ?_
   rw [Around.under_plainId PySem.F.plain_max_loop _]
   refine wpAny_bind (m:=seqItems? (.ref S)) (wpAny_seqItems oS rfl ?_)
   refine wpAny_bind (m:=tryCatch (pyNext (.ref I)) _) (wpAny_tryCatch (W.item (j + 1) s _ _ lt st fun v h' tk pv st' kp=>?_))
   have oS':=kp S _ nW oS
   refine wpAny_bind (m:=tryCatch (holding [v,v] (richCompare .Gt v vb >>= _)) _) (wpAny_tryCatch (wpAny_holding (wpAny_bind (cmp (j + 1) (argBest bt j) v vb _ _ _ pv pb ?_))))
   refine wpAny_bind (wpAny_holding (wpAny_truthy_bool (wpAny_bind (wpAny_letGo (wpAny_pure ?_)))))
   cases eb:bt (j + 1) (argBest bt j) with
   | true =>
     rw [if_pos rfl]
     refine wpAny_bind ?_
     refine wpAny_updateSeq oS' rfl (wpAny_bind (wpAny_letGo ?_))
     rw [nm]
     refine wpAny_pure ⟨plainId_quiet PySem.F.plain_max_loop _,ih (j + 1) _ v _ (by omega) lt (W.frame _ _ _ st' fun b hb o e=>?_) (by simp only [argBest,eb,if_true]; exact pv) (Heap.get?_update_self _ oS' rfl) fun v' h'' tk'' pv' kp''=>?_⟩
     · exact (Heap.get?_update_other _ _ (fun z:S=b=>nS (by rw [z]; exact hb))).trans e
     · exact fin v' h'' tk'' pv' fun b o hw hS e=>kp'' b o hw hS ((Heap.get?_update_other _ _ (Ne.symm hS)).trans (kp b o hw e))
   | false =>
     rw [if_neg Bool.false_ne_true]
     refine wpAny_bind (wpAny_letGo ?_)
     rw [nm]
     exact wpAny_pure ⟨plainId_quiet PySem.F.plain_max_loop _,ih (j + 1) _ vb c (by omega) lt st' (by simp only [argBest,eb,Bool.false_eq_true,if_false]; exact pb) oS' fun v' h'' tk'' pv' kp''=>fin v' h'' tk'' pv' fun b o hw hS e=>kp'' b o hw hS (kp b o hw e)⟩
end
theorem bi1 (a d:Value):argsOk "max" ⟨[a],[(Str.ofString "default",d)]⟩:=by unfold argsOk; kernel_rfl
section
variable {prog:Program} {w:World} {A:Around} {E:Value→Shared→Prop} {s:Shared}
theorem bh4 {x d:Value} {Q:Value→Shared→Prop}
 (h:wpAny (model prog w) A.in1 (pyIter x) (fun it s₂=>∃ I fp wr n P St bt,it= .ref I∧Walks prog w A.in1 I fp wr n P St∧St 0 s₂.heap∧(∀ b∈fp,b < s₂.heap.objs.size)∧CmpOf prog w A.in1 .Gt P bt ∧
   (n=0→∀ h' tk,(∀ b o,b∉wr→s₂.heap.get? b=some o→h'.get? b=some o)→Q d { s₂ with heap:=h',toks:=tk }) ∧
   (0 < n→∀ v h' tk,P (argBest bt (n - 1)) v→(∀ b o,b∉wr→s₂.heap.get? b=some o→h'.get? b=some o)→Q v { s₂ with heap:=h',toks:=tk })) E s) :
 wpAny (model prog w) A (call (.builtin "max") [x] [(Str.ofString "default",d)]) Q E s:=by
 have nm:(toString "max" ++ toString ".loop" : String) = "max.loop" := by decide
 refine kmk_tree PySem.F.kind_max PySem.F.plain_max PySem.F.entry_max (bi1 _ _) ?_
 refine wpAny_bind (m:=Builtin.Builtins.bindParams "max" ["key", "default"] 0 ⟨[],[(Str.ofString "default",d)]⟩) (wpAny_of_eq (show _=pure [none,some d] from rfl) ?_)
 refine wpAny_bind (wpAny_pure (wpAny_bind (wpAny_mono h (fun it s₂ h₂=>?_) fun _ _ e=>e)))
 obtain ⟨I,fp,wr,n,P,St,bt,rfl,W,st,lts,cmp,q0,q1⟩:=h₂
 refine wpAny_bind (wpAny_newObj_type ?_)
 have nS:s₂.heap.objs.size∉fp:=fun z=>Nat.lt_irrefl _ (lts _ z)
 have nW:s₂.heap.objs.size∉wr:=fun z=>nS (W.sub _ z)
 rw [nm]
 have st1:=W.frame _ _ (s₂.heap.push { cls:= .type "list",dict:=none,data:= .seq ([]:List Value).toArray }) st fun b _ o e=>Heap.get?_push_of_some _ e
 have oS:(s₂.heap.push { cls:= .type "list",dict:=none,data:= .seq ([]:List Value).toArray }).get? s₂.heap.objs.size=some { cls:= .type "list",dict:=none,data:= .seq ([]:List Value).toArray }:=Heap.get?_push_size _ rfl
 refine wpAny_pure ⟨plainId_quiet PySem.F.plain_max_loop _,codeAny_builtin PySem.F.entry_max_loop ?_⟩
 rw [Around.under_plainId PySem.F.plain_max_loop _]
 refine wpAny_bind (m:=seqItems? (.ref s₂.heap.objs.size)) (wpAny_seqItems oS rfl ?_)
 by_cases hn:n=0
 · refine wpAny_bind (m:=tryCatch (pyNext (.ref I)) _) (wpAny_tryCatch (W.done _ _ _ (hn ▸ st1) fun h' tk kp=>?_))
   refine wpAny_bind (m:=rule _) (wpAny_rule (wpAny_pure ?_))
   exact q0 hn h' tk fun b o hw e=>kp b o hw (Heap.get?_push_of_some _ e)
 · have lt:0 < n:=Nat.pos_of_ne_zero hn
   refine wpAny_bind (m:=tryCatch (pyNext (.ref I)) _) (wpAny_tryCatch (W.item 0 _ _ _ lt st1 fun v h' tk pv st' kp=>?_))
   have oS':=kp _ _ nW oS
   refine wpAny_bind (m:=updateSeq s₂.heap.objs.size (fun _=>#[v,v])) ?_
   refine wpAny_updateSeq oS' rfl ?_
   rw [nm]
   refine wpAny_pure ⟨plainId_quiet PySem.F.plain_max_loop _,aL8 W _ bt cmp _ nS _ 0 _ v _ rfl lt (W.frame _ _ _ st' fun b hb o e=>?_) pv (Heap.get?_update_self _ oS' rfl) fun v' h'' tk'' pv' kp''=>?_⟩
   · exact (Heap.get?_update_other _ _ (fun z:s₂.heap.objs.size=b=>nS (by rw [z]; exact hb))).trans e
   · exact q1 lt v' h'' tk'' pv' fun b o hw e=>kp'' b o hw (Nat.ne_of_lt (Heap.lt_size e)) ((Heap.get?_update_other _ _ (Nat.ne_of_gt (Heap.lt_size e))).trans (kp b o hw (Heap.get?_push_of_some _ e)))
end
noncomputable def aH7 (X:Cx) (f:Value) (ks:List Str) (r:List V→List V→Hp→VK→Prop):Prop :=
 ∀ (pins:List (Addr×Obj)) (s:Shared) (σ:St) (H:Hp) (xs zs:List V) (us ws:List Value) (Q:VK),Inv X pins σ H s→Vals xs us→Vals zs ws→r xs zs H Q →
  wpAny (model X.prog X.w) X.A (call f us (ks.zip ws)) (EP X pins σ Q) X.xe s
noncomputable def tCBK (r:List V→List V→Hp→VK→Prop) (t tk:TA):TE:=fun σ H Q=>t σ H fun vs H1=>tk σ H1 fun zs H2=>r vs zs H2 Q
section
variable {X:Cx} {x:Str} {p pos:Pos} {e:Expr} {es:List Expr} {kws:List Keyword} {t tk:TA} {id:String} {ks:List Str} {r:List V→List V→Hp→VK→Prop}
theorem aE1 (hc:aH7 X (.builtin id) ks r) (hg:Gl X x) (hm:X.mg x=none) (hv:bootBuiltins x=some (.builtin id)) (ha:PA X (e :: es) t) (hk:PK X kws tk)
 (hks:(backToKw pos (keywordEach kws X.env)).filterMap (·.1)=ks:=by rfl) (hn:x ≠ "__name__" := by decide) (hdb:(x == ("__debug__" : Str))=false:=by decide)
 (he:backTo pos (starEach (e :: es) X.env)=(false,eval e X.env) :: backTo pos (starEach es X.env):=by rfl) (hpl:(backTo pos (starEach (e :: es) X.env)).any (·.1)=false:=by rfl)
 (hall:(backToKw pos (keywordEach kws X.env)).all (·.1.isSome)=true:=by rfl) (hkn:(backToKw pos (keywordEach kws X.env)).any (·.1.isNone)=false:=by rfl) :
 PE X (.Call (.Name x p) (e :: es) kws pos) (tCBK r t tk):=by
 intro pins s σ H Q I h
 refine wpAny_Call_Name_kw (ax9 I hg hm hv ?_ hn hdb)
 refine PyProof.Rows.callWith_kw (thn (ha pos pins s σ H _ I h) fun us s1 ⟨vs,H1,I1,r1,q1⟩=>thn (hk pos pins s1 σ H1 _ I1 q1) fun ws s2 ⟨zs,H2,I2,r2,q2⟩=>?_) he hpl hall hkn
 rw [hks]
 exact hc pins s2 σ H2 vs zs us ws Q I2 r1 r2 q2
end
theorem af7:∀ {ns:List Int} {us:List Value} {i:Nat} {u:Value},Vals (ns.map V.int) us→us[i]?=some u→∃ t,u= .int (ns.getD i 0) t
 | [],us,i,u,r,e=>by
   cases r
   cases e
 | n :: ns,us,i,u,r,e=>by
   rw [List.map_cons] at r
   cases r with
   | cons r1 r2 =>
     cases i with
     | zero =>
       cases e
       exact r1
     | succ i =>
       show ∃ t,u= .int (ns.getD i 0) t
       exact af7 (ns:=ns) (i:=i) r2 (by simpa using e)
theorem bh6 {X:Cx} (hc:X.calm=true):aH7 X (.builtin "min") ["default"] (fun xs zs H Q=>∃ p ns d,xs=[.ref p]∧zs=[d]∧SqL X.K H p (ns.map V.int)∧(ns=[]→Q d H)∧∀ m∈ns,(∀ x∈ns,m≤x)→Q (.int m) H):=by
 intro pins s σ H xs zs us ws Q I r rz h
 obtain ⟨p,ns,d,rfl,rfl,hq,q0,q1⟩:=h
 obtain ⟨u,rfl,ru⟩:=Vals.one r
 have ru':u=Value.ref p:=ru
 subst ru'
 obtain ⟨dv,rfl,rd⟩:=Vals.one rz
 obtain ⟨its,rv,pl,hz⟩:=I.list hq
 have ln:ns.length=its.length:=by rw [← rv.length,List.length_map]
 obtain ⟨ol,hol,hcl,hdl⟩:=id pl.isList
 have hlt:p < s.heap.objs.size:=Heap.lt_size hol
 refine bh3 (wpAny_pyIter_list pl.isList ⟨s.heap.objs.size,_,_,_,_,_,_,rfl,Walks.list (A:=X.A.in1) (I.ok.hd hc) _ p (Nat.ne_of_lt hlt) its.toArray,⟨⟨_,Heap.get?_push_size _ rfl,rfl,rfl⟩,⟨ol,Heap.get?_push_of_some _ hol,hcl,hdl⟩⟩,fun b hb=>?_,CmpOf.ints_lt (fun i=>ns.getD i 0) (fun i v e=>af7 rv (by simpa using e)),fun e h' tk kp=>?_,fun e v h' tk pv kp=>?_⟩)
 · rw [Heap.size_push]
   rcases List.mem_cons.mp hb with z | z
   · rw [z]; exact Nat.lt_succ_self _
   · have z':b=p:=by simpa using z
     rw [z']; exact Nat.lt_succ_of_lt hlt
 · have en:ns=[]:=List.length_eq_zero_iff.mp (by rw [ln]; simpa using e)
   refine ⟨d,H,I.kept fun b o q=>kp b o (fun z=>?_) (Heap.get?_push_of_some _ q),rd,q0 en⟩
   have z':b=s.heap.objs.size:=by simpa using z
   exact absurd (Heap.lt_size q) (by rw [z']; exact Nat.lt_irrefl _)
 · have e':0 < its.length:=by simpa using e
   have e1:its.toArray.size - 1=ns.length - 1:=by rw [List.size_toArray,ln]
   rw [e1] at pv
   obtain ⟨b1,b2⟩:=argBest_lt (fun i=>ns.getD i 0) (ns.length - 1)
   rw [List.getElem?_toArray] at pv
   obtain ⟨t,rfl⟩:=af7 rv pv
   have up:∀ i,i < ns.length→ns.getD i 0∈ns:=fun i hi=>by
    rw [List.getD_eq_getElem?_getD,List.getElem?_eq_getElem hi]
    exact List.getElem_mem hi
   refine ⟨.int _,H,I.kept fun b o q=>kp b o (fun z=>?_) (Heap.get?_push_of_some _ q),⟨t,rfl⟩,q1 _ (up _ (by omega)) fun x hx=>?_⟩
   · have z':b=s.heap.objs.size:=by simpa using z
     exact absurd (Heap.lt_size q) (by rw [z']; exact Nat.lt_irrefl _)
   · obtain ⟨j,hj,rfl⟩:=List.getElem_of_mem hx
     have:=b2 j (by omega)
     rwa [show ns.getD j 0=ns[j] by rw [List.getD_eq_getElem?_getD,List.getElem?_eq_getElem hj]; rfl] at this
theorem bh7 {X:Cx} (hc:X.calm=true):aH7 X (.builtin "max") ["default"] (fun xs zs H Q=>∃ p ns d,xs=[.ref p]∧zs=[d]∧SqL X.K H p (ns.map V.int)∧(ns=[]→Q d H)∧∀ m∈ns,(∀ x∈ns,x≤m)→Q (.int m) H):=by
 intro pins s σ H xs zs us ws Q I r rz h
 obtain ⟨p,ns,d,rfl,rfl,hq,q0,q1⟩:=h
 obtain ⟨u,rfl,ru⟩:=Vals.one r
 have ru':u=Value.ref p:=ru
 subst ru'
 obtain ⟨dv,rfl,rd⟩:=Vals.one rz
 obtain ⟨its,rv,pl,hz⟩:=I.list hq
 have ln:ns.length=its.length:=by rw [← rv.length,List.length_map]
 obtain ⟨ol,hol,hcl,hdl⟩:=id pl.isList
 have hlt:p < s.heap.objs.size:=Heap.lt_size hol
 refine bh4 (wpAny_pyIter_list pl.isList ⟨s.heap.objs.size,_,_,_,_,_,_,rfl,Walks.list (A:=X.A.in1) (I.ok.hd hc) _ p (Nat.ne_of_lt hlt) its.toArray,⟨⟨_,Heap.get?_push_size _ rfl,rfl,rfl⟩,⟨ol,Heap.get?_push_of_some _ hol,hcl,hdl⟩⟩,fun b hb=>?_,CmpOf.ints_gt (fun i=>ns.getD i 0) (fun i v e=>af7 rv (by simpa using e)),fun e h' tk kp=>?_,fun e v h' tk pv kp=>?_⟩)
 · rw [Heap.size_push]
   rcases List.mem_cons.mp hb with z | z
   · rw [z]; exact Nat.lt_succ_self _
   · have z':b=p:=by simpa using z
     rw [z']; exact Nat.lt_succ_of_lt hlt
 · have en:ns=[]:=List.length_eq_zero_iff.mp (by rw [ln]; simpa using e)
   refine ⟨d,H,I.kept fun b o q=>kp b o (fun z=>?_) (Heap.get?_push_of_some _ q),rd,q0 en⟩
   have z':b=s.heap.objs.size:=by simpa using z
   exact absurd (Heap.lt_size q) (by rw [z']; exact Nat.lt_irrefl _)
 · have e':0 < its.length:=by simpa using e
   have e1:its.toArray.size - 1=ns.length - 1:=by rw [List.size_toArray,ln]
   rw [e1] at pv
   obtain ⟨b1,b2⟩:=argBest_gt (fun i=>ns.getD i 0) (ns.length - 1)
   rw [List.getElem?_toArray] at pv
   obtain ⟨t,rfl⟩:=af7 rv pv
   have up:∀ i,i < ns.length→ns.getD i 0∈ns:=fun i hi=>by
    rw [List.getD_eq_getElem?_getD,List.getElem?_eq_getElem hi]
    exact List.getElem_mem hi
   refine ⟨.int _,H,I.kept fun b o q=>kp b o (fun z=>?_) (Heap.get?_push_of_some _ q),⟨t,rfl⟩,q1 _ (up _ (by omega)) fun x hx=>?_⟩
   · have z':b=s.heap.objs.size:=by simpa using z
     exact absurd (Heap.lt_size q) (by rw [z']; exact Nat.lt_irrefl _)
   · obtain ⟨j,hj,rfl⟩:=List.getElem_of_mem hx
     have:=b2 j (by omega)
     rwa [show ns.getD j 0=ns[j] by rw [List.getD_eq_getElem?_getD,List.getElem?_eq_getElem hj]; rfl] at this
noncomputable def dd (ns:List Int):List Int:=ns.foldl step_dedup []
theorem aS3 (ns:List Int):(List.range ns.length).map (fun i=>ns.getD i 0)=ns:=by
 apply List.ext_getElem?
 intro i
 rw [List.getElem?_map]
 by_cases h:i < ns.length
 · rw [List.getElem?_range h,List.getElem?_eq_getElem h,Option.map_some,List.getD_eq_getElem?_getD,List.getElem?_eq_getElem h]
   rfl
 · rw [List.getElem?_eq_none (by rw [List.length_range]; omega),List.getElem?_eq_none (by omega)]
   rfl
theorem aL0 (ns:List Int):firstMet (fun i=>ns.getD i 0) ns.length=dd ns:=by
 unfold firstMet dd
 rw [aS3]
theorem bQ8:∀ (ns acc:List Int),ns.Nodup→(∀ x∈ns,x∉acc)→ns.foldl step_dedup acc=acc ++ ns
 | [],acc,_,_=>by rw [List.foldl_nil,List.append_nil]
 | n :: r,acc,h,hd=>by
   have hn:=List.nodup_cons.mp h
   have e:step_dedup acc n=acc ++ [n]:=by
    unfold step_dedup
    rw [if_neg]
    intro z
    obtain ⟨y,hy,e⟩:=List.any_eq_true.mp z
    have e':y=n:=by simpa using e
    subst e'
    exact hd y List.mem_cons_self hy
   rw [List.foldl_cons,e,bQ8 r (acc ++ [n]) hn.2 fun x hx z=>?_,List.append_assoc]
   · rfl
   · rcases List.mem_append.mp z with z | z
     · exact hd x (List.mem_cons_of_mem _ hx) z
     · have e':x=n:=by simpa using z
       subst e'
       exact hn.1 hx
theorem bm7 {ns:List Int} (h:ns.Nodup):dd ns=ns:=by
 unfold dd
 rw [bQ8 ns [] h fun _ _ z=>nomatch z]
 rfl
section
variable {X:Cx}
theorem bh2 (hc:X.calm=true):ak7 X (.type "set") (fun xs H Q=>∃ p ns,xs=[.ref p]∧SqL X.K H p (ns.map V.int)∧ns.length < 4000∧∀ q,H q=none→Q (.ref q) (upd H q (.set (fun k=>(dd ns).any (· == k)) (dd ns).length))):=by
 intro pins s σ H xs us Q I r h
 obtain ⟨p,ns,rfl,hq,hl,q⟩:=h
 obtain ⟨u,rfl,ru⟩:=Vals.one r
 have ru':u=Value.ref p:=ru
 subst ru'
 obtain ⟨its,rv,pl,hz⟩:=I.list hq
 have ln:its.length=ns.length:=by rw [← rv.length,List.length_map]
 refine PySem.call_set_list (ns:=ns) (I.ok.hd hc) pl.isList (by simpa using ay2 rv) (by rw [List.size_toArray,ln]; unfold scanBound; omega) fun h' tk hS kp=>?_
 have es:its.toArray.size=ns.length:=by rw [List.size_toArray,ln]
 rw [es,aL0] at hS
 exact ⟨.ref s.heap.objs.size,_,I.laid (o:= .set _ _) (fun b o e=>kp b o (Heap.lt_size e) e) (Nat.le_refl _) hS,rfl,q _ (I.hok.fresh (Nat.le_refl _))⟩
theorem bh5:ak7 X (.builtin "len") (fun xs H Q=>∃ a S n,xs=[.ref a]∧H a=some (.set S n)∧Q (.int n) H):=by
 intro pins s σ H xs us Q I r h
 obtain ⟨a,S,n,rfl,ha,q⟩:=h
 obtain ⟨u,rfl,ru⟩:=Vals.one r
 have ru':u=Value.ref a:=ru
 subst ru'
 obtain ⟨o,es,ep,t,ho,hex,hd,_,_,hb,hf,hn⟩:=(show s.heap.SetOf (intKind X.prog X.w) a S n from I.hok a _ ha)
 refine call_len_set ho hex hd hf (Int.lt_of_lt_of_le (Int.ofNat_lt.mpr hb) (by unfold scanBound; decide)) ?_
 rw [hn]
 exact ⟨.int n,H,I.tok _,⟨_,rfl⟩,q⟩
end
noncomputable def RawD (h:Heap) (d:Addr) (es:Array DictEntry) (ep:Nat):Prop:=∃ o,h.get? d=some o∧o.ExactDict∧o.data= .dict es ep
section
variable {prog:Program} {w:World} {A:Around} {E:Value→Shared→Prop} {s:Shared} {d it:Addr} {es:Array DictEntry} {ep i:Nat}
theorem RawD.typeIs (x:RawD s.heap d es ep):s.TypeIs (.ref d) "dict" := by
 obtain ⟨o,ho,hx,_⟩:=x
 exact ⟨o,ho,hx.1⟩
theorem bj1 {Q:Value→Shared→Prop} (hs:(d == sysModules)=false) (x:RawD s.heap d es ep)
 (hQ:Q (.ref s.heap.objs.size) { s with heap:=s.heap.push { cls:= .type "dict_keyiterator",data:= .fields #[.ref d,.int 0 0,.int es.size 0,.int ep 0] } }):wpAny (model prog w) A (pyIter (.ref d)) Q E s:=by
 have hT:=x.typeIs
 obtain ⟨o,ho,hx,hd⟩:=x
 refine wpAny_pyIter_slot hT PySem.F.slot_dict_iter (wpAny_call_entry PySem.F.slot_dict_iter hT PySem.F.entry_dict_iter ?_ (PySem.F.args_dict_iter_1 _))
 unfold Builtin.«dict.__iter__» Builtin.Dict.dictSlotNone
 refine wpAny_bind (wpAny_bind (wpAny_notOrdered_dict hT (wpAny_pure ?_)))
 refine wpAny_bind (m:=Builtin.Dict.showsAll d) ?_
 unfold Builtin.Dict.showsAll
 rw [if_neg (by rw [hs]; exact Bool.false_ne_true)]
 refine wpAny_pure (wpAny_bind (wpAny_dictEntries ho hd (wpAny_bind (wpAny_dictEpoch ho hd ?_))))
 exact wpAny_bind (wpAny_newObj_type (wpAny_pure ⟨_,rfl, "dict_keyiterator",_,⟨_,Heap.get?_push_size _ rfl,rfl⟩,PySem.F.slot_dict_keyiterator_next.lookup,hQ⟩))
theorem bj2 {Q:Option Value→Shared→Prop} (hit:s.heap.IsKeyIter it d i es.size ep) (x:RawD s.heap d es ep) (hlt:i < es.size)
 (hQ:∀ h',h'.IsKeyIter it d (i + 1) es.size ep→Heap.SameBut it s.heap h'→Q (some es[i].key) { s with heap:=h' }):wpAny (model prog w) A (pyNext (.ref it)) Q E s:=by
 obtain ⟨o,ho,hc,hd⟩:=id hit
 obtain ⟨od,hod,_,hdd⟩:=id x
 unfold pyNext
 refine wpAny_bind (wpAny_attempt (wpAny_callSpecial?_slot (name:=Str.ofString "__next__") hit.typeIs PySem.F.slot_dict_keyiterator_next (wpAny_call_entry PySem.F.slot_dict_keyiterator_next hit.typeIs PySem.F.entry_dict_keyiterator_next ?_ (PySem.F.args_dict_keyiterator_next_1 _))))
 refine wpAny_bind (wpAny_pure (wpAny_bind (wpAny_bind ?_)))
 first | refine wpAny_bind (wpAny_typeNameOfWhole_keyiter hit.typeIs (wpAny_pure ?_)) | refine wpAny_bind (wpAny_typeNameOf_keyiter hit.typeIs (wpAny_pure ?_))
 refine wpAny_bind (wpAny_fieldsOf ho hd ?_)
 simp only [show Builtin.Dict_items.ownsTuple "dict_keyiterator" = false from by decide,Bool.false_eq_true,if_false]
 show wpAny _ _ (if (Value.ref d == Value.none)=true then _ else _) _ _ s
 rw [if_neg (show ¬ ((Value.ref d == Value.none)=true) from Bool.false_ne_true)]
 refine wpAny_bind (wpAny_pure (wpAny_bind (wpAny_dictEntries hod hdd ?_)))
 rw [if_neg (by simp)]
 refine wpAny_bind (wpAny_pure (wpAny_bind (wpAny_dictEpoch hod hdd ?_)))
 rw [if_neg (by simp)]
 refine wpAny_pure ?_
 simp only [show ¬ ((i:Int) < 0) from by omega,if_false,Int.toNat_natCast,Array.getElem?_eq_getElem hlt]
 refine wpAny_bind ?_
 first | refine wpAny_bind (wpAny_typeNameOfWhole_keyiter hit.typeIs (wpAny_pure ?_)) | refine wpAny_bind (wpAny_typeNameOf_keyiter hit.typeIs (wpAny_pure ?_))
 refine wpAny_bind (wpAny_isOneOf_keyiter hit.typeIs ?_)
 refine wpAny_bind (m:=setField (.ref it) 1 (rawInt ((i:Int) + 1))) (wpAny_setField ho hd (by simp) ?_)
 have hit':(s.heap.update it (Obj.mapFields (·.setIfInBounds 1 (rawInt ((i:Int) + 1))))).IsKeyIter it d (i + 1) es.size ep :=
  ⟨_,Heap.get?_update_self _ ho (Obj.isFreed_of_fields (Obj.data_mapFields hd _)),(Obj.cls_mapFields ..).trans hc,by rw [Obj.data_mapFields hd]; simp [rawInt]⟩
 refine wpAny_bind (wpAny_holding ?_)
 refine wpAny_bind (wpAny_isOneOf_keyiter (s:={ s with heap:=s.heap.update it (Obj.mapFields (·.setIfInBounds 1 (rawInt ((i:Int) + 1)))) }) hit'.typeIs ?_)
 exact wpAny_pure (wpAny_pure ⟨_,rfl,wpAny_pure (hQ _ hit' (Heap.SameBut.update ..))⟩)
theorem bz0 {Q:Option Value→Shared→Prop} (hh:A.handled=none) (hit:s.heap.IsKeyIter it d es.size es.size ep) (x:RawD s.heap d es ep)
 (hQ:∀ h',Heap.ExtBut it s.heap h'→Q none { s with heap:=h' }):wpAny (model prog w) A (pyNext (.ref it)) Q E s:=by
 obtain ⟨o,ho,hc,hd⟩:=id hit
 obtain ⟨od,hod,_,hdd⟩:=id x
 unfold pyNext
 refine wpAny_bind (wpAny_attempt (wpAny_callSpecial?_slot (name:=Str.ofString "__next__") hit.typeIs PySem.F.slot_dict_keyiterator_next (wpAny_call_entry PySem.F.slot_dict_keyiterator_next hit.typeIs PySem.F.entry_dict_keyiterator_next ?_ (PySem.F.args_dict_keyiterator_next_1 _))))
 refine wpAny_bind (wpAny_pure (wpAny_bind (wpAny_bind ?_)))
 first | refine wpAny_bind (wpAny_typeNameOfWhole_keyiter hit.typeIs (wpAny_pure ?_)) | refine wpAny_bind (wpAny_typeNameOf_keyiter hit.typeIs (wpAny_pure ?_))
 refine wpAny_bind (wpAny_fieldsOf ho hd ?_)
 simp only [show Builtin.Dict_items.ownsTuple "dict_keyiterator" = false from by decide,Bool.false_eq_true,if_false]
 show wpAny _ _ (if (Value.ref d == Value.none)=true then _ else _) _ _ s
 rw [if_neg (show ¬ ((Value.ref d == Value.none)=true) from Bool.false_ne_true)]
 refine wpAny_bind (wpAny_pure (wpAny_bind (wpAny_dictEntries hod hdd ?_)))
 rw [if_neg (by simp)]
 refine wpAny_bind (wpAny_pure (wpAny_bind (wpAny_dictEpoch hod hdd ?_)))
 rw [if_neg (by simp)]
 refine wpAny_pure ?_
 simp only [show ¬ ((es.size:Int) < 0) from by omega,if_false,Int.toNat_natCast,Array.getElem?_eq_none (Nat.le_refl _)]
 refine wpAny_bind ?_
 first | refine wpAny_bind (wpAny_typeNameOfWhole_keyiter hit.typeIs (wpAny_pure ?_)) | refine wpAny_bind (wpAny_typeNameOf_keyiter hit.typeIs (wpAny_pure ?_))
 refine wpAny_bind (m:=setField (.ref it) 0 .none) (wpAny_setField ho hd (by simp) ?_)
 refine wpAny_bind (m:=newExc (.type "StopIteration") []) ?_
 simp only [newExc,newTuple]
 refine wpAny_bind (wpAny_newObj_type ?_ (by size_fits))
 refine wpAny_bind (m:=firstArgMember _ _) (wpAny_of_eq (a:=Value.none) (by first | rfl | (simp only [firstArgMember]; rfl)) ?_)
 refine wpAny_newObj_type ?_ (by size_fits)
 simp only [raiseNew]
 refine wpAny_bind (wpAny_handled ?_)
 rw [show A.in1.handled=none from hh]
 refine wpAny_bind (wpAny_pure (wpAny_throw ?_))
 refine wpAny_bind (wpAny_isInstance (T := "StopIteration") (b:=true) ⟨_,Heap.get?_push_size _ rfl,rfl⟩ isSubtype_stop ?_)
 exact wpAny_pure (hQ _ (((Heap.SameBut.update ..).extBut.push _).push _))
theorem aY4 (hh:A.handled=none) (I d:Addr) (hne:d≠I) (es:Array DictEntry) (ep:Nat) :
 Walks prog w A I [I,d] [I] es.size (fun i v=>∃ e,es[i]?=some e∧v=e.key) (fun i h=>h.IsKeyIter I d i es.size ep∧RawD h d es ep) where
 sub:=fun b hb=>by
  have e:b=I:=by simpa using hb
  rw [e]
  exact List.mem_cons_self
 frame:=fun _ _ _ st hk=>⟨st.1.at fun o e=>hk I (by simp) o e,let ⟨o,ho,r⟩:=st.2; ⟨o,hk d (by simp) o ho,r⟩⟩
 item:=fun i s Q E hi st hQ=>bj2 st.1 st.2 hi fun h' hit' hs'=>by
  obtain ⟨o,ho,r⟩:=st.2
  exact hQ _ h' s.toks ⟨es[i],Array.getElem?_eq_getElem hi,rfl⟩ ⟨hit',o,hs'.extBut d o hne ho,r⟩ fun b o hb e=>hs'.extBut b o (fun z=>hb (by simp [z])) e
 done:=fun s Q E st hQ=>bz0 hh st.1 st.2 fun h' he'=>hQ h' s.toks fun b o hb e=>he' b o (fun z=>hb (by simp [z])) e
 self:=fun _ _ _ _ st hQ=>wpAny_pyIter_keyiter st.1 hQ
theorem aY5 (lo:(d == sysModules)=false):PySem.W.KdlSrc prog w "dict" d d es.size (fun i v=>∃ e,es[i]?=some e∧v=e.key) (fun h=>RawD h d es ep) where
 type:=fun _ x=>x.typeIs
 there:=fun _ x=>let ⟨_,ho,_⟩:=x; ⟨Heap.lt_size ho,Heap.lt_size ho⟩
 keep:=fun _ _ x hk=>let ⟨o,ho,r⟩:=x; ⟨o,hk d (.inl rfl) o ho,r⟩
 notList:=by decide
 notTuple:=by decide
 hint:=fun _ _ _ _ x hq=>PySem.W.kdl_hint_dict x.typeIs hq
 iter:=fun _ _ hh x=>⟨_,_,(fun _ _ hq=>bj1 lo x hq),aY4 hh _ d (let ⟨_,ho,_⟩:=x; Nat.ne_of_lt (Heap.lt_size ho)) es ep,⟨⟨_,Heap.get?_push_size _ rfl,rfl,rfl⟩,let ⟨o,ho,r⟩:=x; ⟨o,Heap.get?_push_of_some _ ho,r⟩⟩⟩
end
theorem aF1 {P:Program} {w:World} {x:List Key×Addr×Value}:(entryOfKey (tupleKind (ac3 P w)) x).key= .ref x.2.1:=rfl
theorem aU3 {X:Cx} (hc:X.calm=true):ak7 X (.type "list") (fun xs H Q=>∃ a kvs,xs=[.ref a]∧H a=some (.dT kvs) ∧
 ∀ (ks:List Addr) (l:Addr),ks.length=kvs.length→(∀ (i:Nat) k v b,kvs[i]?=some (k,v)→ks[i]?=some b→H b=some (.tup (k.map kV)))→H l=none→Q (.ref l) (upd H l (.lst (ks.map V.ref)))):=by
 intro pins s σ H xs us Q I r h
 obtain ⟨a,kvs,rfl,ha,q⟩:=h
 obtain ⟨u,rfl,ru⟩:=Vals.one r
 have ru':u=Value.ref a:=ru
 subst ru'
 obtain ⟨z,hd,ys,rel,o,es,ep,ho,hx,hdat,hes,hnd⟩:=(show ObjOk X.prog X.w H s.heap a (.dT kvs) from I.hok a _ ha)
 have len1:kvs.length=ys.length:=Paired.length rel
 have len2:es.size=ys.length:=by
  have e:=congrArg List.length hes
  rwa [List.length_map,Array.length_toList] at e
 refine PySem.W.kdl_call (aY5 hd) (I.ok.hd hc) ⟨o,ho,hx,hdat⟩ (by rw [len2,← len1]; exact z) fun h' tk acc' c' kp hD hacc=>?_
 have keys:acc'.toList=(ys.map fun y=>y.2.1).map Value.ref:=by
  apply List.ext_getElem?
  intro i
  rw [List.getElem?_map,List.getElem?_map]
  cases ey:ys[i]? with
  | none =>
    have hi:ys.length≤i:=List.getElem?_eq_none_iff.mp ey
    rw [List.getElem?_eq_none (by rw [Array.length_toList,hacc.1]; omega)]
    rfl
  | some y =>
    have hi:i < ys.length:=(List.getElem?_eq_some_iff.mp ey).1
    have hi':i < acc'.size:=by rw [hacc.1,len2]; exact hi
    obtain ⟨e,he,hv⟩:=hacc.2 i acc'[i] (Array.getElem?_eq_getElem hi')
    have he':es.toList[i]?=some e:=by rw [Array.getElem?_toList]; exact he
    rw [hes,List.getElem?_map,ey] at he'
    have ee:entryOfKey (tupleKind (ac3 X.prog X.w)) y=e:=Option.some.inj he'
    rw [Array.getElem?_toList,Array.getElem?_eq_getElem hi',hv,← ee,aF1]
    rfl
 have rv:∀ l:List Addr,Vals (l.map V.ref) (l.map Value.ref):=fun l=>by
  induction l with
  | nil=>exact .nil
  | cons x t ih=>exact .cons rfl ih
 refine ⟨.ref s.heap.objs.size,_,I.laid kp (Nat.le_refl _) ?_,rfl,q (ys.map fun y=>y.2.1) _ (by rw [List.length_map]; exact len1.symm) (fun i k v b e1 e2=>?_) (I.hok.fresh (Nat.le_refl _))⟩
 · refine ⟨by rw [List.length_map,List.length_map,← len1]; exact z,acc'.toList,c',by rw [keys]; exact rv _,?_⟩
   rw [Array.toArray_toList]
   exact hD
 · rw [List.getElem?_map] at e2
   cases ey:ys[i]? with
   | none=>rw [ey] at e2; cases e2
   | some y =>
     rw [ey] at e2
     have eb:y.2.1=b:=Option.some.inj e2
     have pr:∀ {l1:List (List Key×V)} {l2:List (List Key×Addr×Value)},Paired (fun (p:List Key×V) (q:List Key×Addr×Value)=>p.1=q.1∧H q.2.1=some (.tup (p.1.map kV))∧RelV p.2 q.2.2) l1 l2 →
      ∀ {i:Nat} {p q},l1[i]?=some p→l2[i]?=some q→H q.2.1=some (.tup (p.1.map kV)):=by
      intro l1 l2 hp
      induction hp with
      | nil=>intro i p q e; cases e
      | cons h1 _ ih =>
        intro i p q e1 e2
        cases i with
        | zero=>cases e1; cases e2; exact h1.2.1
        | succ i=>exact ih e1 e2
     rw [← eb]
     exact pr rel e1 ey
end L2
namespace Gd
open PySem L2
theorem ak6:bootBuiltins "len" = some (.builtin "len"):=by decide +kernel
theorem bS0:bootBuiltins "min" = some (.builtin "min"):=by decide +kernel
theorem bS1:bootBuiltins "max" = some (.builtin "max"):=by decide +kernel
theorem ae7:bootBuiltins "isinstance" = some (.builtin "isinstance"):=by decide +kernel
theorem aH2:bootBuiltins "sorted" = some (.builtin "sorted"):=by decide +kernel
theorem bR9:bootBuiltins "set" = some (.type "set"):=by decide +kernel
theorem an3:bootBuiltins "list" = some (.type "list"):=by decide +kernel
theorem al4:bootBuiltins "tuple" = some (.type "tuple"):=by decide +kernel
theorem bG5:bootBuiltins "bool" = some (.type "bool"):=by decide +kernel
theorem bS2:bootBuiltins "int" = some (.type "int"):=by decide +kernel
theorem aP1 {H H':Hp} {q:Addr} {o:HO} (h:H q=none) (e:Same H H'):Same H (upd H' q o):=fun b u z=>by
 rw [ab2 (ab4 z h)]
 exact e b u z
theorem ae4 {H:Hp} {q:Addr} {o:HO} (h:H q=none):Same H (upd H q o):=aP1 h (Same.refl H)
noncomputable def bb4 (e:PySem.Expr):Scope:=match e with
 | .ListComp _ _ sc _=>sc
 | _=>{ kind:= .function,names:=[],isGenerator:=false,isCoroutine:=false,more:=[] }
noncomputable def bH9 (s:Stmt):PySem.Expr:=match s with
 | .Assign _ v _=>v
 | .Return (some v) _=>v
 | .Expr v _=>v
 | .For _ it _ _ _=>it
 | .If t _ _ _=>t
 | _=> .Constant .none 0 ⟨0,0,0,0⟩
noncomputable def nth (l:List Stmt) (i:Nat):Stmt:=l.getD i (.Pass ⟨0,0,0,0⟩)
noncomputable abbrev AL:=List (List Int×Int)
noncomputable abbrev kI (k:List Int):List Key:=k.map Sum.inl
noncomputable def encD (D:AL):List (List Key×V):=D.map fun p=>(kI p.1,V.int p.2)
noncomputable def look (D:AL) (k:List Int):Option Int:=(D.find? fun p=>decide (p.1=k)).map (·.2)
noncomputable def But (c:Addr) (H H':Hp):Prop:=∀ b o,H b=some o→b≠c→H' b=some o
theorem But.seq {K:PySem.W.Frag} {c a:Addr} {H H':Hp} {xs:List V} {kvs:List (List Key×V)} (hc:H c=some (.dT kvs)) (e:But c H H') (h:SqL K H a xs):SqL K H' a xs:=by
 rcases h with (h | ⟨o,h⟩) | h
 · exact .inl (.inl (e _ _ h (bB2 h hc (by intro z; cases z))))
 · exact .inl (.inr ⟨o,e _ _ h (bB2 h hc (by intro z; cases z))⟩)
 · exact .inr h
end Gd
namespace L2
open PySem PySem.Spec PyProof.Rows
theorem aZ1 {α:Type} (next:Nat→Nat):∀ (fuel k:Nat) (left:List α) (out:Array α),left.length≤fuel→∀ e,e∈(pickOrder.go next fuel k left out).toList↔e∈out.toList∨e∈left
 | 0,k,left,out,h,e=>by
   have:left=[]:=List.length_eq_zero_iff.mp (Nat.le_zero.mp h)
   subst this
   unfold pickOrder.go
   simp
 | fuel + 1,k,left,out,h,e=>by
   unfold pickOrder.go
   cases q:left[next k % left.length]? with
   | none =>
     have:left=[]:=by
      cases left with
      | nil=>rfl
      | cons x r =>
        have:next k % (x :: r).length < (x :: r).length:=Nat.mod_lt _ (by simp)
        rw [List.getElem?_eq_getElem this] at q
        cases q
     subst this
     simp
   | some x =>
     dsimp only
     obtain ⟨hl,hx⟩:=List.getElem?_eq_some_iff.mp q
     rw [aZ1 next fuel (k + 1) _ _ (by rw [List.length_eraseIdx,if_pos hl]; omega)]
     simp only [Array.toList_push,List.mem_append,List.mem_singleton]
     constructor
     · rintro ((h | h) | h)
       · exact .inl h
       · exact .inr (by rw [h,← hx]; exact List.getElem_mem hl)
       · exact .inr (List.mem_of_mem_eraseIdx h)
     · rintro (h | h)
       · exact .inl (.inl h)
       · by_cases z:e=x
         · exact .inl (.inr z)
         · refine .inr ?_
           obtain ⟨i,hi,ei⟩:=List.getElem_of_mem h
           rw [List.mem_eraseIdx_iff_getElem]
           refine ⟨i,hi,fun w=>z ?_,ei⟩
           rw [← ei,← hx]
           simp only [w]
theorem az9 {α:Type} (next:Nat→Nat) (xs:Array α) (e:α):e∈(pickOrder next xs).toList↔e∈xs.toList:=by
 unfold pickOrder
 rw [aZ1 next xs.size 0 xs.toList #[] (by simp)]
 simp
end L2
namespace Mi
open PySem L2
inductive D where
 | non | bl (b:Bool) | int (i:Int) | str (x:Str) | ty (n:String)
 | lst (xs:List D) | tup (xs:List D) | scr (xs:List D)
 | dK (ks:List Key) (vs:List D) | dT (ks:List (List Key)) (vs:List D)
 | obj (c:Nat) (ns:List Str) (vs:List D)
noncomputable abbrev Env:=List (Option D)
inductive Res (α:Type) where
 | ok (a:α) | exc (c:Nat) | bad
inductive Out (α:Type) where
 | ok (a:α) (ρ:Env) | exc (c:Nat) (ρ:Env) | bad
inductive SO where
 | nx (ρ:Env) | rt (d:D) (ρ:Env) | bk (ρ:Env) | ct (ρ:Env) | exc (c:Nat) (ρ:Env) | bad
@[simp] noncomputable def Res.bind {α β:Type}:Res α→(α→Res β)→Res β
 | .ok a,f=>f a
 | .exc c,_=> .exc c
 | .bad,_=> .bad
@[simp] noncomputable def Res.calm {α:Type}:Res α→Res α
 | .ok a=> .ok a
 | _=> .bad
@[simp] noncomputable def Out.bind {α β:Type}:Out α→(α→Env→Out β)→Out β
 | .ok a ρ,f=>f a ρ
 | .exc c ρ,_=> .exc c ρ
 | .bad,_=> .bad
@[simp] noncomputable def Res.up {α:Type} (ρ:Env):Res α→Out α
 | .ok a=> .ok a ρ
 | .exc c=> .exc c ρ
 | .bad=> .bad
noncomputable def rg {α:Type} (l:List (Option α)) (i:Nat):Option α:=(l[i]?).join
@[simp] noncomputable def vr (i:Nat):Env→Res D:=fun ρ=>match rg ρ i with | some d=> .ok d | none=> .bad
noncomputable def cst (d:D):Env→Res D:=fun _=> .ok d
noncomputable def un (f:D→Res D) (a:Env→Res D):Env→Res D:=fun ρ=>(a ρ).bind f
noncomputable def bn (f:D→D→Res D) (a b:Env→Res D):Env→Res D:=fun ρ=>(a ρ).bind fun x=>(b ρ).bind fun y=>f x y
noncomputable def ab1:Nat:=1000000
noncomputable def iI (g:Int→Int→Int):D→D→Res D | .int i,.int j=> .ok (.int (g i j)) | _,_=> .bad
noncomputable def iB (g:Int→Int→Bool):D→D→Res D | .int i,.int j=> .ok (.bl (g i j)) | _,_=> .bad
noncomputable def iC (C:Int→Int→Bool) (g:Int→Int→Int):D→D→Res D | .int i,.int j=>if C i j=true then .ok (.int (g i j)) else .bad | _,_=> .bad
noncomputable def addI:=iI fun i j=>i + j
noncomputable def subI:=iI fun i j=>i - j
noncomputable def mulI:=iC (fun i j=>decide ((-(2 ^ 64) < i∧i < 2 ^ 64)∨(-(2 ^ 64) < j∧j < 2 ^ 64))) fun i j=>i * j
noncomputable def ao2:=iC (fun _ j=>decide (0 < j∧j < 1073741824)) fun i j=>i / j
noncomputable def modI:=iC (fun _ j=>decide (0 < j)) fun i j=>i % j
noncomputable def powI:=iC (fun i j=>decide (0≤j∧j≤1000000∧i.natAbs < 2 ^ 64)) fun i j=>i ^ j.toNat
noncomputable def ltI:=iB fun i j=>decide (i < j)
noncomputable def gtI:=iB fun i j=>decide (j < i)
noncomputable def geI:=iB fun i j=>decide (j≤i)
@[simp] theorem addI_int (i j:Int):addI (.int i) (.int j)= .ok (.int (i + j)):=rfl
@[simp] theorem subI_int (i j:Int):subI (.int i) (.int j)= .ok (.int (i - j)):=rfl
@[simp] theorem bk6 (i j:Int):mulI (.int i) (.int j)=if (-(2 ^ 64) < i∧i < 2 ^ 64)∨(-(2 ^ 64) < j∧j < 2 ^ 64) then .ok (.int (i * j)) else .bad:=by simp [mulI,iC]
@[simp] theorem bc9 (i j:Int):ao2 (.int i) (.int j)=if 0 < j∧j < 1073741824 then .ok (.int (i / j)) else .bad:=by simp [ao2,iC]
@[simp] theorem bk8 (i j:Int):modI (.int i) (.int j)=if 0 < j then .ok (.int (i % j)) else .bad:=by simp [modI,iC]
@[simp] theorem bj5 (i j:Int):powI (.int i) (.int j)=if 0≤j∧j≤1000000∧i.natAbs < 2 ^ 64 then .ok (.int (i ^ j.toNat)) else .bad:=by simp [powI,iC]
@[simp] theorem ltI_int (i j:Int):ltI (.int i) (.int j)= .ok (.bl (decide (i < j))):=rfl
@[simp] theorem gtI_int (i j:Int):gtI (.int i) (.int j)= .ok (.bl (decide (j < i))):=rfl
@[simp] theorem geI_int (i j:Int):geI (.int i) (.int j)= .ok (.bl (decide (j≤i))):=rfl
noncomputable def negI:D→Res D | .int i=> .ok (.int (-i)) | _=> .bad
noncomputable def notB:D→Res D | .bl b=> .ok (.bl (!b)) | _=> .bad
noncomputable def eqS (neg:Bool):D→D→Res D
 | .int i,.int j=> .ok (.bl (neg.xor (decide (i=j))))
 | .str i,.str j=> .ok (.bl (neg.xor (decide (i=j))))
 | .bl i,.bl j=> .ok (.bl (neg.xor (decide (i=j))))
 | .non,.int _=> .ok (.bl neg)
 | .int _,.non=> .ok (.bl neg)
 | .non,.non=> .ok (.bl (!neg))
 | _,_=> .bad
noncomputable def aK8:D→Bool | .non=>true | _=>false
noncomputable def lenD:D→Res D
 | .lst xs=> .ok (.int xs.length)
 | .tup xs=> .ok (.int xs.length)
 | .scr xs=> .ok (.int xs.length)
 | _=> .bad
noncomputable def atD (xs:List D) (i:Int):Res D:=match atI xs i with | some d=> .ok d | none=> .bad
noncomputable def ixL:D→D→Res D | .lst xs,.int i=>atD xs i | .scr xs,.int i=>atD xs i | _,_=> .bad
noncomputable def ixT:D→D→Res D | .tup xs,.int i=>atD xs i | _,_=> .bad
noncomputable def catL:D→D→Res D | .lst xs,.lst ys=>if xs.length + ys.length≤ab1 then .ok (.lst (xs ++ ys)) else .bad | _,_=> .bad
noncomputable def ap9:D→Res D | .lst xs=> .ok (.lst xs) | .scr xs=> .ok (.lst xs) | .tup xs=> .ok (.lst xs) | _=> .bad
noncomputable def aF0:D→Option Key | .int i=>some (.inl i) | .str x=>some (.inr x) | _=>none
noncomputable def aj3:List D→Option (List Key)
 | []=>some []
 | d :: r=>match aF0 d,aj3 r with | some k,some ks=>some (k :: ks) | _,_=>none
section
variable {κ:Type} [DecidableEq κ]
noncomputable def ah2:List κ→List D→κ→Option D
 | k :: ks,d :: ds,j=>if k=j then some d else ah2 ks ds j
 | _,_,_=>none
noncomputable def hasK (ks:List κ) (j:κ):Bool:=ks.any fun k=>decide (k=j)
noncomputable def putV:List κ→List D→κ→D→List D
 | k :: ks,d :: ds,j,x=>(if k=j then x else d) :: putV ks ds j x
 | _,_,_,_=>[]
noncomputable def an4:List κ→List D→κ→D→List D
 | k :: ks,d :: ds,j,x=>if k=j then x :: ds else d :: an4 ks ds j x
 | _,_,_,_=>[]
end
noncomputable def aB2:D→D→Option (Option D)
 | .dT ks vs,.tup k=>(aj3 k).map fun k=>ah2 ks vs k
 | .dK ks vs,k=>(aF0 k).map fun k=>ah2 ks vs k
 | _,_=>none
noncomputable def aG1 (d k:D):Res D:=match aB2 d k with | some (some x)=> .ok x | _=> .bad
noncomputable def dinD (neg:Bool) (k d:D):Res D:=match aB2 d k with | some x=> .ok (.bl (neg.xor x.isSome)) | none=> .bad
noncomputable def aq1 (d k x:D):Res D:=match aB2 d k with | some (some y)=> .ok y | some none=> .ok x | none=> .bad
noncomputable def bd6:D→D→D→Option D
 | .dT ks vs,.tup k,x=>(aj3 k).bind fun k=>if ks.length < ab1 then some (if hasK ks k=true then .dT ks (putV ks vs k x) else .dT (ks ++ [k]) (vs ++ [x])) else none
 | .dK ks vs,k,x=>(aF0 k).bind fun k=>if ks.length < ab1 then some (if hasK ks k=true then .dK ks (putV ks vs k x) else .dK (ks ++ [k]) (vs ++ [x])) else none
 | _,_,_=>none
noncomputable def fldD (c:Nat) (f:Str):D→Res D
 | .obj c' ns vs=>if c'=c then (match ah2 ns vs f with | some x=> .ok x | none=> .bad) else .bad
 | _=> .bad
noncomputable def bj3 (c₀:Nat) (f:Str) (x:D):D→Option D
 | .obj c ns vs=>if c=c₀∧ns.length < 900 then some (if hasK ns f=true then .obj c ns (an4 ns vs f x) else .obj c (ns ++ [f]) (vs ++ [x])) else none
 | _=>none
noncomputable def truB:D→Res Bool | .bl b=> .ok b | _=> .bad
noncomputable def andD (a b:Env→Res D):Env→Res D:=fun ρ=>((a ρ).bind truB).bind fun c=>if c=true then b ρ else .ok (.bl false)
noncomputable def esN:Env→Res (List D):=fun _=> .ok []
noncomputable def esC (a:Env→Res D) (r:Env→Res (List D)):Env→Res (List D):=fun ρ=>(a ρ).bind fun x=>(r ρ).bind fun xs=> .ok (x :: xs)
noncomputable def mkL (r:Env→Res (List D)):Env→Res D:=fun ρ=>(r ρ).bind fun xs=>if xs.length≤ab1 then .ok (.lst xs) else .bad
noncomputable def mkT (r:Env→Res (List D)):Env→Res D:=fun ρ=>(r ρ).bind fun xs=>if xs.length≤ab1 then .ok (.tup xs) else .bad
noncomputable def capD (ρ:Env) (ix:List Nat):Env:=ix.map fun j=>rg ρ j
noncomputable def ag9 (ti:Env→Res Bool) (te:Env→Res D) (cap:Env):List D→Res (List D)
 | []=> .ok []
 | d :: r=>(ti (some d :: cap)).calm.bind fun c=>if c=true then (te (some d :: cap)).calm.bind fun x=>(ag9 ti te cap r).bind fun xs=> .ok (x :: xs) else ag9 ti te cap r
noncomputable def comp (src:Env→Res (List D)) (ix:List Nat) (ti:Env→Res Bool) (te:Env→Res D):Env→Res D:=fun ρ=>(src ρ).bind fun xs=>if xs.length < ab1 then (ag9 ti te (capD ρ ix) xs).bind fun ys=> .ok (.lst ys) else .bad
noncomputable def srcL (a:Env→Res D):Env→Res (List D):=fun ρ=>(a ρ).bind fun d=>match d with | .lst xs=> .ok xs | .scr xs=> .ok xs | _=> .bad
noncomputable def rng (lo hi:Int):List D:=(List.range (hi - lo).toNat).map fun i:Nat=>D.int (lo + i)
noncomputable def srcR (a b:Env→Res D):Env→Res (List D):=fun ρ=>(a ρ).bind fun x=>(b ρ).bind fun y=>match x,y with
 | .int i,.int j=>if -(2 ^ 62)≤i∧i < 2 ^ 62∧-(2 ^ 62)≤j∧j < 2 ^ 62 then .ok (rng i j) else .bad
 | _,_=> .bad
noncomputable def bi6 (b:Env→Res D):Env→Res (List D):=srcR (cst (.int 0)) b
noncomputable def seqS (a b:Env→SO):Env→SO:=fun ρ=>match a ρ with | .nx ρ'=>b ρ' | o=>o
noncomputable def af9:Env→SO:=fun ρ=> .nx ρ
@[simp] noncomputable def aw2 {α:Type}:Out α→(α→Env→SO)→SO
 | .ok a ρ,f=>f a ρ
 | .exc c ρ,_=> .exc c ρ
 | .bad,_=> .bad
noncomputable abbrev MD:=Env→Out D
noncomputable def liP {α:Type} (a:Env→Res α):Env→Out α:=fun ρ=>(a ρ).up ρ
noncomputable def retS (a:MD):Env→SO:=fun ρ=>aw2 (a ρ) fun d ρ'=> .rt d ρ'
noncomputable def ap3 (a:MD):Env→SO:=fun ρ=>aw2 (a ρ) fun _ ρ'=> .nx ρ'
noncomputable def setS (i:Nat) (a:MD):Env→SO:=fun ρ=>aw2 (a ρ) fun d ρ'=> .nx (ρ'.set i (some d))
noncomputable def ifS (c:Env→Out Bool) (a b:Env→SO):Env→SO:=fun ρ=>aw2 (c ρ) fun t ρ'=>if t=true then a ρ' else b ρ'
noncomputable def forS (tgt:D→Env→Option Env) (body:Env→SO):List D→Env→SO
 | [],ρ=> .nx ρ
 | d :: ds,ρ=>match tgt d ρ with
   | none=> .bad
   | some ρ1=>match body ρ1 with
     | .nx ρ'=>forS tgt body ds ρ'
     | .ct ρ'=>forS tgt body ds ρ'
     | .bk ρ'=> .nx ρ'
     | o=>o
noncomputable def aT2 (src:Env→Out (List D)) (tgt:D→Env→Option Env) (body:Env→SO):Env→SO:=fun ρ=>aw2 (src ρ) fun xs ρ'=>forS tgt body xs ρ'
noncomputable def whS (c:Env→Out Bool) (body:Env→SO):Nat→Env→SO
 | 0,_=> .bad
 | n + 1,ρ=>aw2 (c ρ) fun t ρ1=>if t=true then (match body ρ1 with
    | .nx ρ'=>whS c body n ρ'
    | .ct ρ'=>whS c body n ρ'
    | .bk ρ'=> .nx ρ'
    | o=>o) else .nx ρ1
noncomputable def tgN (i:Nat):D→Env→Option Env:=fun d ρ=>some (ρ.set i (some d))
noncomputable def run (k:Nat) (body:Env→SO) (ds:List D):Out D:=match body (ds.map some ++ List.replicate (k - ds.length) none) with
 | .nx ρ=> .ok .non ρ
 | .rt d ρ=> .ok d ρ
 | .exc c ρ=> .exc c ρ
 | _=> .bad
structure Cm where
 f:Nat→Addr
 K:PySem.W.Frag
 tb:Tbs
noncomputable instance:CoeFun Cm fun _=>Nat→Addr:=⟨Cm.f⟩
noncomputable def SqF (K:PySem.W.Frag) (B:Hp) (a:Addr) (xs:List V):Prop:=(∃ o,B a=some (.frz o (.lst xs))) ∨
 ∃ (o:Obj) (its:Array Value) (n:Nat),K.lookup a=some o∧o.cls= .type "list" ∧ o.dict=none∧o.data= .seq its n∧its.size≤sizeLine∧Vals xs its.toList
theorem SqF.mono {K:PySem.W.Frag} {B B':Hp} {a:Addr} {xs:List V} (h:SqF K B a xs) (e:Same B B'):SqF K B' a xs:=by
 rcases h with ⟨o,h⟩ | h
 · exact .inl ⟨o,e _ _ h⟩
 · exact .inr h
theorem SqF.sq {K:PySem.W.Frag} {H:Hp} {a:Addr} {xs:List V} (h:SqF K H a xs):SqL K H a xs:=by
 rcases h with ⟨o,h⟩ | h
 · exact .inl (.inr ⟨o,h⟩)
 · exact .inr h
section
variable (cm:Cm)
mutual
noncomputable def Dn (B:Hp):D→V→Prop
 | .non,v=>v= .non
 | .bl b,v=>v= .bl b
 | .int i,v=>v= .int i
 | .str x,v=>v= .str x
 | .ty n,v=>v= .ty n
 | .lst ds,v=>∃ a xs,v= .ref a∧B a=some (.lst xs)∧Dns B ds xs
 | .scr ds,v=>∃ a xs,v= .ref a∧SqF cm.K B a xs∧Dns B ds xs
 | .tup ds,v=>∃ a xs,v= .ref a∧B a=some (.tup xs)∧Dns B ds xs
 | .dK ks ds,v=>∃ (a:Addr) (kvs:List (Key×V)),v= .ref a∧B a=some (.dK kvs)∧kvs.map (·.1)=ks∧Dns B ds (kvs.map (·.2))
 | .dT ks ds,v=>∃ (a:Addr) (kvs:List (List Key×V)),v= .ref a∧B a=some (.dT kvs)∧kvs.map (·.1)=ks∧Dns B ds (kvs.map (·.2))
 | .obj c ns ds,v=>∃ (a dx:Addr) (fs:List (Str×V)),v= .ref a∧B a=some (.ins (cm c) dx fs)∧fs.map (·.1)=ns∧Dns B ds (fs.map (·.2))
noncomputable def Dns (B:Hp):List D→List V→Prop
 | [],xs=>xs=[]
 | d :: ds,xs=>∃ x r,xs=x :: r∧Dn B d x∧Dns B ds r
end
inductive Sh where
 | fz | ct (s:Sh) | ob (fs:List (Str×Sh))
mutual
noncomputable def Ow (B H:Hp):D→Sh→V→List Addr→Prop
 | d,.fz,v,A=>Dn cm B d v∧A=[]
 | .lst ds,.ct s,v,A=>∃ a xs A',v= .ref a∧H a=some (.lst xs)∧A=a :: A'∧Ows B H ds s xs A'
 | .dK ks ds,.ct s,v,A=>∃ (a:Addr) (kvs:List (Key×V)) (A':List Addr),v= .ref a∧H a=some (.dK kvs)∧kvs.map (·.1)=ks∧A=a :: A'∧Ows B H ds s (kvs.map (·.2)) A'
 | .dT ks ds,.ct s,v,A=>∃ (a:Addr) (kvs:List (List Key×V)) (A':List Addr),v= .ref a∧H a=some (.dT kvs)∧kvs.map (·.1)=ks∧A=a :: A'∧Ows B H ds s (kvs.map (·.2)) A'
 | .obj c ns ds,.ob fs,v,A=>∃ (a dx:Addr) (xs:List (Str×V)) (A':List Addr),v= .ref a∧H a=some (.ins (cm c) dx xs)∧xs.map (·.1)=ns∧A=a :: A'∧Owf B H ds ns fs (xs.map (·.2)) A'
 | _,_,_,_=>False
noncomputable def Ows (B H:Hp):List D→Sh→List V→List Addr→Prop
 | [],_,xs,A=>xs=[]∧A=[]
 | d :: ds,s,xs,A=>∃ x r A1 A2,xs=x :: r∧A=A1 ++ A2∧Ow B H d s x A1∧Ows B H ds s r A2
noncomputable def Owf (B H:Hp):List D→List Str→List (Str×Sh)→List V→List Addr→Prop
 | [],_,_,xs,A=>xs=[]∧A=[]
 | d :: ds,ns,fs,xs,A=>∃ n ns' x r A1 A2,ns=n :: ns'∧xs=x :: r∧A=A1 ++ A2∧Ow B H d ((fs.lookup n).getD .fz) x A1∧Owf B H ds ns' fs r A2
end
inductive Md where
 | F | R | O (s:Sh)
noncomputable def LoV (B U H:Hp) (m:Md) (d:D) (v:V) (A:List Addr):Prop :=
 match m with
 | .F=>Dn cm B d v∧A=[]
 | .R=>Dn cm U d v∧A=[]
 | .O sh=>Ow cm B H d sh v A
noncomputable def Lo (B U H:Hp) (m:Md) (o:Option D) (s:Option V) (A:List Addr):Prop :=
 match o with
 | none=>A=[]
 | some d=>∃ v,s=some v∧LoV cm B U H m d v A
structure Rel (ms:List Md) (B U:Hp) (As:Nat→List Addr) (σ:St) (H:Hp) (ρ:Env):Prop where
 bu:Same B U
 uh:Same U H
 nd:∀ i,(As i).Nodup
 dj:∀ i j a,i≠j→a∈As i→a∉As j
 un:∀ i a,a∈As i→U a=none
 lo:∀ i,Lo cm B U H (ms.getD i .F) (rg ρ i) (rg σ i) (As i)
 len:ρ.length=σ.length
 tb:∀ p∈cm.tb,∃ l,B p.1=some (.tbl l)∧p.2∈l
end
noncomputable def aq9 (o:HO):Prop:=∃ xs,o= .tup xs
structure Ex (B U B' U':Hp):Prop where
 b:Same B B'
 u:Same U U'
 nb:∀ a o,B' a=some o→B a=some o∨U a=none∨aq9 o
theorem Ex.refl (B U:Hp):Ex B U B U:=⟨Same.refl _,Same.refl _,fun _ _ h=> .inl h⟩
theorem Ex.trans {B U B1 U1 B2 U2:Hp} (a:Ex B U B1 U1) (b:Ex B1 U1 B2 U2):Ex B U B2 U2 :=
 ⟨a.b.trans b.b,a.u.trans b.u,fun c o h=>by
  rcases b.nb c o h with h | h | h
  · exact a.nb c o h
  · exact .inr (.inl (a.u.free h))
  · exact .inr (.inr h)⟩
section
variable {cm:Cm}
mutual
theorem Dn.mono {B B':Hp} (e:Same B B'):∀ {d:D} {v:V},Dn cm B d v→Dn cm B' d v
 | .non,_,h=>by rw [Dn] at h ⊢; exact h
 | .bl _,_,h=>by rw [Dn] at h ⊢; exact h
 | .int _,_,h=>by rw [Dn] at h ⊢; exact h
 | .str _,_,h=>by rw [Dn] at h ⊢; exact h
 | .ty _,_,h=>by rw [Dn] at h ⊢; exact h
 | .lst ds,_,h=>by
   rw [Dn] at h ⊢
   obtain ⟨a,xs,r,h1,h2⟩:=h
   exact ⟨a,xs,r,e _ _ h1,Dns.mono e h2⟩
 | .scr ds,_,h=>by
   rw [Dn] at h ⊢
   obtain ⟨a,xs,r,h1,h2⟩:=h
   exact ⟨a,xs,r,h1.mono e,Dns.mono e h2⟩
 | .tup ds,_,h=>by
   rw [Dn] at h ⊢
   obtain ⟨a,xs,r,h1,h2⟩:=h
   exact ⟨a,xs,r,e _ _ h1,Dns.mono e h2⟩
 | .dK ks ds,_,h=>by
   rw [Dn] at h ⊢
   obtain ⟨a,xs,r,h1,h2,h3⟩:=h
   exact ⟨a,xs,r,e _ _ h1,h2,Dns.mono e h3⟩
 | .dT ks ds,_,h=>by
   rw [Dn] at h ⊢
   obtain ⟨a,xs,r,h1,h2,h3⟩:=h
   exact ⟨a,xs,r,e _ _ h1,h2,Dns.mono e h3⟩
 | .obj c ns ds,_,h=>by
   rw [Dn] at h ⊢
   obtain ⟨a,dx,xs,r,h1,h2,h3⟩:=h
   exact ⟨a,dx,xs,r,e _ _ h1,h2,Dns.mono e h3⟩
theorem Dns.mono {B B':Hp} (e:Same B B'):∀ {ds:List D} {xs:List V},Dns cm B ds xs→Dns cm B' ds xs
 | [],_,h=>by rw [Dns] at h ⊢; exact h
 | d :: ds,_,h=>by
   rw [Dns] at h ⊢
   obtain ⟨x,r,h0,h1,h2⟩:=h
   exact ⟨x,r,h0,Dn.mono e h1,Dns.mono e h2⟩
end
theorem Dns.len {B:Hp}:∀ {ds:List D} {xs:List V},Dns cm B ds xs→ds.length=xs.length
 | [],_,h=>by rw [Dns] at h; subst h; rfl
 | d :: ds,_,h=>by
   rw [Dns] at h
   obtain ⟨x,r,rfl,_,h2⟩:=h
   rw [List.length_cons,List.length_cons,Dns.len h2]
theorem Dns.get {B:Hp}:∀ {ds:List D} {xs:List V} {i:Nat} {d:D},Dns cm B ds xs→ds[i]?=some d→∃ x,xs[i]?=some x∧Dn cm B d x
 | [],_,_,_,_,e=>by cases e
 | d :: ds,_,i,d',h,e=>by
   rw [Dns] at h
   obtain ⟨x,r,rfl,h1,h2⟩:=h
   cases i with
   | zero=>cases e; exact ⟨x,rfl,h1⟩
   | succ i=>exact Dns.get (i:=i) h2 (by simpa using e)
theorem Dns.geti {B:Hp}:∀ {ds:List D} {xs:List V} {i:Nat} {x:V},Dns cm B ds xs→xs[i]?=some x→∃ d,ds[i]?=some d∧Dn cm B d x
 | [],_,_,_,h,e=>by rw [Dns] at h; subst h; cases e
 | d :: ds,_,i,x',h,e=>by
   rw [Dns] at h
   obtain ⟨x,r,rfl,h1,h2⟩:=h
   cases i with
   | zero=>cases e; exact ⟨d,rfl,h1⟩
   | succ i=>exact Dns.geti (i:=i) h2 (by simpa using e)
theorem Dns.append {B:Hp}:∀ {ds es:List D} {xs ys:List V},Dns cm B ds xs→Dns cm B es ys→Dns cm B (ds ++ es) (xs ++ ys)
 | [],_,_,_,h,k=>by rw [Dns] at h; subst h; exact k
 | d :: ds,_,_,_,h,k=>by
   rw [Dns] at h
   obtain ⟨x,r,rfl,h1,h2⟩:=h
   rw [List.cons_append,List.cons_append,Dns]
   exact ⟨x,_,rfl,h1,Dns.append h2 k⟩
theorem Dns.one {B:Hp} {d:D} {v:V} (h:Dn cm B d v):Dns cm B [d] [v]:=by
 rw [Dns]
 exact ⟨v,[],rfl,h,by rw [Dns]⟩
theorem Dns.drop {B:Hp}:∀ {ds:List D} {xs:List V} (n:Nat),Dns cm B ds xs→Dns cm B (ds.drop n) (xs.drop n)
 | [],_,n,h=>by rw [Dns] at h; subst h; rw [List.drop_nil,List.drop_nil,Dns]
 | d :: ds,_,n,h=>by
   cases n with
   | zero=>exact h
   | succ n =>
     rw [Dns] at h
     obtain ⟨x,r,rfl,h1,h2⟩:=h
     exact Dns.drop n h2
theorem Dns.take {B:Hp}:∀ {ds:List D} {xs:List V} (n:Nat),Dns cm B ds xs→Dns cm B (ds.take n) (xs.take n)
 | [],_,n,h=>by rw [Dns] at h; subst h; rw [List.take_nil,List.take_nil,Dns]
 | d :: ds,_,n,h=>by
   cases n with
   | zero=>rw [List.take_zero,List.take_zero,Dns]
   | succ n =>
     rw [Dns] at h
     obtain ⟨x,r,rfl,h1,h2⟩:=h
     rw [List.take_succ_cons,List.take_succ_cons,Dns]
     exact ⟨x,_,rfl,h1,Dns.take n h2⟩
theorem Dns.reverse {B:Hp}:∀ {ds:List D} {xs:List V},Dns cm B ds xs→Dns cm B ds.reverse xs.reverse
 | [],_,h=>by rw [Dns] at h; subst h; rw [List.reverse_nil,List.reverse_nil,Dns]
 | d :: ds,_,h=>by
   rw [Dns] at h
   obtain ⟨x,r,rfl,h1,h2⟩:=h
   rw [List.reverse_cons,List.reverse_cons]
   exact Dns.append (Dns.reverse h2) (Dns.one h1)
theorem Dns.erase {B:Hp}:∀ {ds:List D} {xs:List V} (n:Nat),Dns cm B ds xs→Dns cm B (ds.eraseIdx n) (xs.eraseIdx n)
 | [],_,n,h=>by rw [Dns] at h; subst h; rw [List.eraseIdx_nil,List.eraseIdx_nil,Dns]
 | d :: ds,_,n,h=>by
   rw [Dns] at h
   obtain ⟨x,r,rfl,h1,h2⟩:=h
   cases n with
   | zero=>exact h2
   | succ n =>
     rw [List.eraseIdx_cons_succ,List.eraseIdx_cons_succ,Dns]
     exact ⟨x,_,rfl,h1,Dns.erase n h2⟩
mutual
theorem Ow.mono {B B' H H':Hp} (e:Same B B'):∀ {d:D} {s:Sh} {v:V} {A:List Addr},(∀ a∈A,H' a=H a)→Ow cm B H d s v A→Ow cm B' H' d s v A
 | d,.fz,v,A,k,h=>by
   rw [Ow] at h ⊢
   exact ⟨h.1.mono e,h.2⟩
 | .lst ds,.ct s,v,A,k,h=>by
   rw [Ow] at h ⊢
   obtain ⟨a,xs,A',r,h1,h2,h3⟩:=h
   subst h2
   exact ⟨a,xs,A',r,by rw [k a List.mem_cons_self]; exact h1,rfl,Ows.mono e (fun b hb=>k b (List.mem_cons_of_mem _ hb)) h3⟩
 | .dK ks ds,.ct s,v,A,k,h=>by
   rw [Ow] at h ⊢
   obtain ⟨a,xs,A',r,h1,h2,h3,h4⟩:=h
   subst h3
   exact ⟨a,xs,A',r,by rw [k a List.mem_cons_self]; exact h1,h2,rfl,Ows.mono e (fun b hb=>k b (List.mem_cons_of_mem _ hb)) h4⟩
 | .dT ks ds,.ct s,v,A,k,h=>by
   rw [Ow] at h ⊢
   obtain ⟨a,xs,A',r,h1,h2,h3,h4⟩:=h
   subst h3
   exact ⟨a,xs,A',r,by rw [k a List.mem_cons_self]; exact h1,h2,rfl,Ows.mono e (fun b hb=>k b (List.mem_cons_of_mem _ hb)) h4⟩
 | .obj c ns ds,.ob fs,v,A,k,h=>by
   rw [Ow] at h ⊢
   obtain ⟨a,dx,xs,A',r,h1,h2,h3,h4⟩:=h
   subst h3
   exact ⟨a,dx,xs,A',r,by rw [k a List.mem_cons_self]; exact h1,h2,rfl,Owf.mono e (fun b hb=>k b (List.mem_cons_of_mem _ hb)) h4⟩
 | .non,.ct _,_,_,_,h=>by simp [Ow] at h
 | .bl _,.ct _,_,_,_,h=>by simp [Ow] at h
 | .int _,.ct _,_,_,_,h=>by simp [Ow] at h
 | .str _,.ct _,_,_,_,h=>by simp [Ow] at h
 | .ty _,.ct _,_,_,_,h=>by simp [Ow] at h
 | .tup _,.ct _,_,_,_,h=>by simp [Ow] at h
 | .scr _,.ct _,_,_,_,h=>by simp [Ow] at h
 | .obj _ _ _,.ct _,_,_,_,h=>by simp [Ow] at h
 | .non,.ob _,_,_,_,h=>by simp [Ow] at h
 | .bl _,.ob _,_,_,_,h=>by simp [Ow] at h
 | .int _,.ob _,_,_,_,h=>by simp [Ow] at h
 | .str _,.ob _,_,_,_,h=>by simp [Ow] at h
 | .ty _,.ob _,_,_,_,h=>by simp [Ow] at h
 | .tup _,.ob _,_,_,_,h=>by simp [Ow] at h
 | .scr _,.ob _,_,_,_,h=>by simp [Ow] at h
 | .lst _,.ob _,_,_,_,h=>by simp [Ow] at h
 | .dK _ _,.ob _,_,_,_,h=>by simp [Ow] at h
 | .dT _ _,.ob _,_,_,_,h=>by simp [Ow] at h
theorem Ows.mono {B B' H H':Hp} (e:Same B B'):∀ {ds:List D} {s:Sh} {xs:List V} {A:List Addr},(∀ a∈A,H' a=H a)→Ows cm B H ds s xs A→Ows cm B' H' ds s xs A
 | [],_,_,_,_,h=>by rw [Ows] at h ⊢; exact h
 | d :: ds,s,xs,A,k,h=>by
   rw [Ows] at h ⊢
   obtain ⟨x,r,A1,A2,h0,h1,h2,h3⟩:=h
   subst h1
   exact ⟨x,r,A1,A2,h0,rfl,Ow.mono e (fun b hb=>k b (List.mem_append_left _ hb)) h2,Ows.mono e (fun b hb=>k b (List.mem_append_right _ hb)) h3⟩
theorem Owf.mono {B B' H H':Hp} (e:Same B B'):∀ {ds:List D} {ns:List Str} {fs:List (Str×Sh)} {xs:List V} {A:List Addr},(∀ a∈A,H' a=H a)→Owf cm B H ds ns fs xs A→Owf cm B' H' ds ns fs xs A
 | [],_,_,_,_,_,h=>by rw [Owf] at h ⊢; exact h
 | d :: ds,ns,fs,xs,A,k,h=>by
   rw [Owf] at h ⊢
   obtain ⟨n,ns',x,r,A1,A2,hn,h0,h1,h2,h3⟩:=h
   subst h1
   exact ⟨n,ns',x,r,A1,A2,hn,h0,rfl,Ow.mono e (fun b hb=>k b (List.mem_append_left _ hb)) h2,Owf.mono e (fun b hb=>k b (List.mem_append_right _ hb)) h3⟩
end
end
section
variable {cm:Cm}
mutual
theorem Ow.dn {B H G:Hp} (e:Same B G):∀ {d:D} {s:Sh} {v:V} {A:List Addr},(∀ a∈A,∀ o,H a=some o→G a=some o)→Ow cm B H d s v A→Dn cm G d v
 | d,.fz,v,A,k,h=>by
   rw [Ow] at h
   exact h.1.mono e
 | .lst ds,.ct s,v,A,k,h=>by
   rw [Ow] at h
   obtain ⟨a,xs,A',r,h1,h2,h3⟩:=h
   subst h2
   rw [Dn]
   exact ⟨a,xs,r,k a List.mem_cons_self _ h1,Ows.dn e (fun b hb=>k b (List.mem_cons_of_mem _ hb)) h3⟩
 | .dK ks ds,.ct s,v,A,k,h=>by
   rw [Ow] at h
   obtain ⟨a,xs,A',r,h1,h2,h3,h4⟩:=h
   subst h3
   rw [Dn]
   exact ⟨a,xs,r,k a List.mem_cons_self _ h1,h2,Ows.dn e (fun b hb=>k b (List.mem_cons_of_mem _ hb)) h4⟩
 | .dT ks ds,.ct s,v,A,k,h=>by
   rw [Ow] at h
   obtain ⟨a,xs,A',r,h1,h2,h3,h4⟩:=h
   subst h3
   rw [Dn]
   exact ⟨a,xs,r,k a List.mem_cons_self _ h1,h2,Ows.dn e (fun b hb=>k b (List.mem_cons_of_mem _ hb)) h4⟩
 | .obj c ns ds,.ob fs,v,A,k,h=>by
   rw [Ow] at h
   obtain ⟨a,dx,xs,A',r,h1,h2,h3,h4⟩:=h
   subst h3
   rw [Dn]
   exact ⟨a,dx,xs,r,k a List.mem_cons_self _ h1,h2,Owf.dn e (fun b hb=>k b (List.mem_cons_of_mem _ hb)) h4⟩
 | .non,.ct _,_,_,_,h=>by simp [Ow] at h
 | .bl _,.ct _,_,_,_,h=>by simp [Ow] at h
 | .int _,.ct _,_,_,_,h=>by simp [Ow] at h
 | .str _,.ct _,_,_,_,h=>by simp [Ow] at h
 | .ty _,.ct _,_,_,_,h=>by simp [Ow] at h
 | .tup _,.ct _,_,_,_,h=>by simp [Ow] at h
 | .scr _,.ct _,_,_,_,h=>by simp [Ow] at h
 | .obj _ _ _,.ct _,_,_,_,h=>by simp [Ow] at h
 | .non,.ob _,_,_,_,h=>by simp [Ow] at h
 | .bl _,.ob _,_,_,_,h=>by simp [Ow] at h
 | .int _,.ob _,_,_,_,h=>by simp [Ow] at h
 | .str _,.ob _,_,_,_,h=>by simp [Ow] at h
 | .ty _,.ob _,_,_,_,h=>by simp [Ow] at h
 | .tup _,.ob _,_,_,_,h=>by simp [Ow] at h
 | .scr _,.ob _,_,_,_,h=>by simp [Ow] at h
 | .lst _,.ob _,_,_,_,h=>by simp [Ow] at h
 | .dK _ _,.ob _,_,_,_,h=>by simp [Ow] at h
 | .dT _ _,.ob _,_,_,_,h=>by simp [Ow] at h
theorem Ows.dn {B H G:Hp} (e:Same B G):∀ {ds:List D} {s:Sh} {xs:List V} {A:List Addr},(∀ a∈A,∀ o,H a=some o→G a=some o)→Ows cm B H ds s xs A→Dns cm G ds xs
 | [],_,_,_,_,h=>by rw [Ows] at h; rw [Dns]; exact h.1
 | d :: ds,s,xs,A,k,h=>by
   rw [Ows] at h
   obtain ⟨x,r,A1,A2,h0,h1,h2,h3⟩:=h
   subst h1
   rw [Dns]
   exact ⟨x,r,h0,Ow.dn e (fun b hb=>k b (List.mem_append_left _ hb)) h2,Ows.dn e (fun b hb=>k b (List.mem_append_right _ hb)) h3⟩
theorem Owf.dn {B H G:Hp} (e:Same B G):∀ {ds:List D} {ns:List Str} {fs:List (Str×Sh)} {xs:List V} {A:List Addr},(∀ a∈A,∀ o,H a=some o→G a=some o)→Owf cm B H ds ns fs xs A→Dns cm G ds xs
 | [],_,_,_,_,_,h=>by rw [Owf] at h; rw [Dns]; exact h.1
 | d :: ds,ns,fs,xs,A,k,h=>by
   rw [Owf] at h
   obtain ⟨n,ns',x,r,A1,A2,hn,h0,h1,h2,h3⟩:=h
   subst h1
   rw [Dns]
   exact ⟨x,r,h0,Ow.dn e (fun b hb=>k b (List.mem_append_left _ hb)) h2,Owf.dn e (fun b hb=>k b (List.mem_append_right _ hb)) h3⟩
end
mutual
theorem Ow.at2 {B H:Hp}:∀ {d:D} {s:Sh} {v:V} {A:List Addr} {a:Addr},Ow cm B H d s v A→a∈A→∃ o,H a=some o∧¬ aq9 o
 | d,.fz,v,A,a,h,m=>by
   rw [Ow] at h
   rw [h.2] at m
   cases m
 | .lst ds,.ct s,v,A,a,h,m=>by
   rw [Ow] at h
   obtain ⟨b,xs,A',r,h1,h2,h3⟩:=h
   subst h2
   rcases List.mem_cons.mp m with e | m
   · refine ⟨_,by rw [e]; exact h1,?_⟩
     rintro ⟨_,z⟩
     cases z
   · exact Ows.at2 h3 m
 | .dK ks ds,.ct s,v,A,a,h,m=>by
   rw [Ow] at h
   obtain ⟨b,xs,A',r,h1,h2,h3,h4⟩:=h
   subst h3
   rcases List.mem_cons.mp m with e | m
   · refine ⟨_,by rw [e]; exact h1,?_⟩
     rintro ⟨_,z⟩
     cases z
   · exact Ows.at2 h4 m
 | .dT ks ds,.ct s,v,A,a,h,m=>by
   rw [Ow] at h
   obtain ⟨b,xs,A',r,h1,h2,h3,h4⟩:=h
   subst h3
   rcases List.mem_cons.mp m with e | m
   · refine ⟨_,by rw [e]; exact h1,?_⟩
     rintro ⟨_,z⟩
     cases z
   · exact Ows.at2 h4 m
 | .obj c ns ds,.ob fs,v,A,a,h,m=>by
   rw [Ow] at h
   obtain ⟨b,dx,xs,A',r,h1,h2,h3,h4⟩:=h
   subst h3
   rcases List.mem_cons.mp m with e | m
   · refine ⟨_,by rw [e]; exact h1,?_⟩
     rintro ⟨_,z⟩
     cases z
   · exact Owf.at2 h4 m
 | .non,.ct _,_,_,_,h,_=>by simp [Ow] at h
 | .bl _,.ct _,_,_,_,h,_=>by simp [Ow] at h
 | .int _,.ct _,_,_,_,h,_=>by simp [Ow] at h
 | .str _,.ct _,_,_,_,h,_=>by simp [Ow] at h
 | .ty _,.ct _,_,_,_,h,_=>by simp [Ow] at h
 | .tup _,.ct _,_,_,_,h,_=>by simp [Ow] at h
 | .scr _,.ct _,_,_,_,h,_=>by simp [Ow] at h
 | .obj _ _ _,.ct _,_,_,_,h,_=>by simp [Ow] at h
 | .non,.ob _,_,_,_,h,_=>by simp [Ow] at h
 | .bl _,.ob _,_,_,_,h,_=>by simp [Ow] at h
 | .int _,.ob _,_,_,_,h,_=>by simp [Ow] at h
 | .str _,.ob _,_,_,_,h,_=>by simp [Ow] at h
 | .ty _,.ob _,_,_,_,h,_=>by simp [Ow] at h
 | .tup _,.ob _,_,_,_,h,_=>by simp [Ow] at h
 | .scr _,.ob _,_,_,_,h,_=>by simp [Ow] at h
 | .lst _,.ob _,_,_,_,h,_=>by simp [Ow] at h
 | .dK _ _,.ob _,_,_,_,h,_=>by simp [Ow] at h
 | .dT _ _,.ob _,_,_,_,h,_=>by simp [Ow] at h
theorem Ows.at2 {B H:Hp}:∀ {ds:List D} {s:Sh} {xs:List V} {A:List Addr} {a:Addr},Ows cm B H ds s xs A→a∈A→∃ o,H a=some o∧¬ aq9 o
 | [],_,_,_,_,h,m=>by rw [Ows] at h; rw [h.2] at m; cases m
 | d :: ds,s,xs,A,a,h,m=>by
   rw [Ows] at h
   obtain ⟨x,r,A1,A2,h0,h1,h2,h3⟩:=h
   subst h1
   rcases List.mem_append.mp m with m | m
   · exact Ow.at2 h2 m
   · exact Ows.at2 h3 m
theorem Owf.at2 {B H:Hp}:∀ {ds:List D} {ns:List Str} {fs:List (Str×Sh)} {xs:List V} {A:List Addr} {a:Addr},Owf cm B H ds ns fs xs A→a∈A→∃ o,H a=some o∧¬ aq9 o
 | [],_,_,_,_,_,h,m=>by rw [Owf] at h; rw [h.2] at m; cases m
 | d :: ds,ns,fs,xs,A,a,h,m=>by
   rw [Owf] at h
   obtain ⟨n,ns',x,r,A1,A2,hn,h0,h1,h2,h3⟩:=h
   subst h1
   rcases List.mem_append.mp m with m | m
   · exact Ow.at2 h2 m
   · exact Owf.at2 h3 m
end
theorem Ow.at {B H:Hp} {d:D} {s:Sh} {v:V} {A:List Addr} {a:Addr} (h:Ow cm B H d s v A) (m:a∈A):∃ o,H a=some o:=let ⟨o,e,_⟩:=Ow.at2 h m; ⟨o,e⟩
theorem Owf.at {B H:Hp} {ds:List D} {ns:List Str} {fs:List (Str×Sh)} {xs:List V} {A:List Addr} {a:Addr} (h:Owf cm B H ds ns fs xs A) (m:a∈A):∃ o,H a=some o:=let ⟨o,e,_⟩:=Owf.at2 h m; ⟨o,e⟩
theorem Ows.of {B H:Hp}:∀ {ds:List D} {xs:List V},Dns cm B ds xs→Ows cm B H ds .fz xs []
 | [],_,h=>by rw [Dns] at h; rw [Ows]; exact ⟨h,rfl⟩
 | d :: ds,_,h=>by
   rw [Dns] at h
   obtain ⟨x,r,h0,h1,h2⟩:=h
   rw [Ows]
   exact ⟨x,r,[],[],h0,rfl,by rw [Ow]; exact ⟨h1,rfl⟩,Ows.of h2⟩
theorem Ows.fz {B H:Hp}:∀ {ds:List D} {xs:List V} {A:List Addr},Ows cm B H ds .fz xs A→Dns cm B ds xs∧A=[]
 | [],_,_,h=>by rw [Ows] at h; rw [Dns]; exact h
 | d :: ds,_,_,h=>by
   rw [Ows] at h
   obtain ⟨x,r,A1,A2,h0,h1,h2,h3⟩:=h
   rw [Ow] at h2
   obtain ⟨h4,h5⟩:=Ows.fz h3
   rw [Dns]
   exact ⟨⟨x,r,h0,h2.1,h4⟩,by rw [h1,h2.2,h5]; rfl⟩
theorem Lo.at2 {B U H:Hp} {m:Md} {o:Option D} {s:Option V} {A:List Addr} {a:Addr} (h:Lo cm B U H m o s A) (ha:a∈A):∃ o,H a=some o∧¬ aq9 o:=by
 unfold Lo at h
 cases o with
 | none=>simp only at h; rw [h] at ha; cases ha
 | some d =>
   obtain ⟨v,_,h⟩:=h
   cases m with
   | F=>have h:Dn cm B d v∧A=[]:=h; rw [h.2] at ha; cases ha
   | R=>have h:Dn cm U d v∧A=[]:=h; rw [h.2] at ha; cases ha
   | O sh=>exact Ow.at2 h ha
theorem Lo.at {B U H:Hp} {m:Md} {o:Option D} {s:Option V} {A:List Addr} {a:Addr} (h:Lo cm B U H m o s A) (ha:a∈A):∃ o,H a=some o:=let ⟨o,e,_⟩:=h.at2 ha; ⟨o,e⟩
theorem Lo.mono {B U H B' U' H':Hp} {m:Md} {o:Option D} {s:Option V} {A:List Addr} (h:Lo cm B U H m o s A) (e:Same B B') (f:Same U U') (k:∀ a∈A,H' a=H a):Lo cm B' U' H' m o s A:=by
 unfold Lo at h ⊢
 cases o with
 | none=>exact h
 | some d =>
   obtain ⟨v,hv,h⟩:=h
   refine ⟨v,hv,?_⟩
   cases m with
   | F=>exact ⟨h.1.mono e,h.2⟩
   | R=>exact ⟨h.1.mono f,h.2⟩
   | O sh=>exact Ow.mono e k h
variable {ms:List Md} {B U H B' U' H':Hp} {As:Nat→List Addr} {σ:St} {ρ:Env}
theorem Rel.at (R:Rel cm ms B U As σ H ρ) {i:Nat} {a:Addr} (h:a∈As i):∃ o,H a=some o:=(R.lo i).at h
theorem Rel.nt (R:Rel cm ms B U As σ H ρ) {i:Nat} {a:Addr} {o:HO} (h:a∈As i) (e:H a=some o) (z:aq9 o):False:=by
 obtain ⟨o',e',n⟩:=(R.lo i).at2 h
 rw [e] at e'; cases e'; exact n z
theorem Rel.fresh (R:Rel cm ms B U As σ H ρ) {p:Addr} (h:H p=none) (i:Nat):p∉As i:=fun m=>by
 obtain ⟨o,e⟩:=R.at m
 rw [h] at e
 cases e
theorem Rel.grow (R:Rel cm ms B U As σ H ρ) (e:Same B B') (f:Same U U') (g:Same H H') (bu:Same B' U') (uh:Same U' H') (un:∀ i a,a∈As i→U' a=none):Rel cm ms B' U' As σ H' ρ :=
 ⟨bu,uh,R.nd,R.dj,un,fun i=>(R.lo i).mono e f fun a ha=>by
  obtain ⟨o,q⟩:=R.at ha
  rw [q,g a o q],R.len,fun p hp=>let ⟨l,h1,h2⟩:=R.tb p hp; ⟨l,e _ _ h1,h2⟩⟩
theorem Rel.bh (R:Rel cm ms B U As σ H ρ):Same B H:=R.bu.trans R.uh
theorem Rel.new (R:Rel cm ms B U As σ H ρ) {p:Addr} {o:HO} (h:H p=none):Rel cm ms B U As σ (upd H p o) ρ :=
 R.grow (Same.refl _) (Same.refl _) (Gd.ae4 h) R.bu (R.uh.trans (Gd.ae4 h)) R.un
theorem aD0 {G G':Hp} {p:Addr} {o:HO} (e:Same G G'):Same (upd G p o) (upd G' p o):=fun b u q=>by
 by_cases z:b=p
 · subst z; rw [ab5] at q ⊢; exact q
 · rw [ab2 z] at q ⊢; exact e b u q
theorem Rel.newB (R:Rel cm ms B U As σ H ρ) {p:Addr} {o:HO} (h:H p=none):Rel cm ms (upd B p o) (upd U p o) As σ (upd H p o) ρ :=
 R.grow (Gd.ae4 (R.bh.free h)) (Gd.ae4 (R.uh.free h)) (Gd.ae4 h) (aD0 R.bu) (aD0 R.uh) fun i a ha=>by
  rw [ab2 (fun z:a=p=>R.fresh h i (z ▸ ha))]
  exact R.un i a ha
theorem Ex.newB (R:Rel cm ms B U As σ H ρ) {p:Addr} {o:HO} (h:H p=none):Ex B U (upd B p o) (upd U p o) :=
 ⟨Gd.ae4 (R.bh.free h),Gd.ae4 (R.uh.free h),fun a u q=>by
  by_cases z:a=p
  · subst z; exact .inr (.inl (R.uh.free h))
  · rw [ab2 z] at q; exact .inl q⟩
noncomputable def frz (B H:Hp) (A:List Addr):Hp:=fun a=>if a∈A then H a else B a
theorem ad4 {A:List Addr} (e:Same B H):Same B (frz B H A):=fun a o q=>by
 unfold frz
 split
 · exact e a o q
 · exact q
theorem aK9 {A:List Addr} (e:Same B H):Same (frz B H A) H:=fun a o q=>by
 unfold frz at q
 split at q
 · exact q
 · exact e a o q
theorem aB4 {A:List Addr} (e:Same B U):Same (frz B H A) (frz U H A):=fun a o q=>by
 unfold frz at q ⊢
 split
 · rename_i z; rw [if_pos z] at q; exact q
 · rename_i z; rw [if_neg z] at q; exact e a o q
end
noncomputable abbrev KT (α β:Type):=α→β→Hp→Hp→Hp→List Addr→Prop
inductive Kd where
 | F | U | X
noncomputable def hp:Kd→Hp→Hp→Hp→Hp
 | .F,B,_,_=>B
 | .U,_,U,_=>U
 | .X,_,_,H=>H
structure Gw (B U H B' U' H':Hp):Prop extends Ex B U B' U' where
 h:Same H H'
 fr:∀ a o,U' a=some o→U a=some o∨H a=none∨aq9 o
theorem Gw.refl (B U H:Hp):Gw B U H B U H:=⟨Ex.refl _ _,Same.refl _,fun _ _ h=> .inl h⟩
theorem Gw.trans {B U H B1 U1 H1 B2 U2 H2:Hp} (a:Gw B U H B1 U1 H1) (b:Gw B1 U1 H1 B2 U2 H2):Gw B U H B2 U2 H2 :=
 ⟨a.toEx.trans b.toEx,a.h.trans b.h,fun c o h=>by
  rcases b.fr c o h with h | h | h
  · exact a.fr c o h
  · exact .inr (.inl (a.h.free h))
  · exact .inr (.inr h)⟩
structure New (N:List Addr) (H U:Hp) (As:Nat→List Addr):Prop where
 nd:N.Nodup
 fr:∀ a∈N,H a=none
 un:∀ a∈N,U a=none
theorem New.nil {H U:Hp} {As:Nat→List Addr}:New [] H U As:=⟨List.nodup_nil,fun _ h=>(nomatch h),fun _ h=>(nomatch h)⟩
section
variable (cm:Cm)
noncomputable def Cn (G H:Hp):D→V→Prop
 | .lst ds,v=>∃ a xs,v= .ref a∧H a=some (.lst xs)∧Dns cm G ds xs
 | .scr ds,v=>∃ a xs,v= .ref a∧SqF cm.K H a xs∧Dns cm G ds xs
 | .tup ds,v=>∃ a xs,v= .ref a∧H a=some (.tup xs)∧Dns cm G ds xs
 | .dK ks ds,v=>∃ (a:Addr) (kvs:List (Key×V)),v= .ref a∧H a=some (.dK kvs)∧kvs.map (·.1)=ks∧Dns cm G ds (kvs.map (·.2))
 | .dT ks ds,v=>∃ (a:Addr) (kvs:List (List Key×V)),v= .ref a∧H a=some (.dT kvs)∧kvs.map (·.1)=ks∧Dns cm G ds (kvs.map (·.2))
 | .obj c ns ds,v=>∃ (a dx:Addr) (fs:List (Str×V)),v= .ref a∧H a=some (.ins (cm c) dx fs)∧fs.map (·.1)=ns∧Dns cm G ds (fs.map (·.2))
 | d,v=>Dn cm G d v
noncomputable def KR (k:Kd):KT D V:=fun d v B U H _=>Dn cm (hp k B U H) d v
noncomputable def KC (k:Kd):KT D V:=fun d v B U H _=>Cn cm (hp k B U H) H d v
noncomputable def KO (s:Sh):KT D V:=fun d v B U H N=>Ow cm B H d s v N
noncomputable def KB:KT Bool Bool:=fun b c _ _ _ _=>b=c
noncomputable def KL (k:Kd):KT (List D) (List V):=fun d v B U H _=>Dns cm (hp k B U H) d v
noncomputable def Po {α β:Type} (K:KT α β) (E:XK) (ms:List Md) (B U:Hp) (As:Nat→List Addr) (σ:St) (H:Hp) (ρ:Env) (r:Res α) (Q:β→Hp→Prop):Prop :=
 match r with
 | .ok d=>∀ v B' U' H' N,Rel cm ms B' U' As σ H' ρ→Gw B U H B' U' H'→New N H U' As→K d v B' U' H' N→Q v H'
 | .exc c=>∀ B' U' H',Rel cm ms B' U' As σ H' ρ→Gw B U H B' U' H'→∀ oa,E (.ref (cm c)) oa H'
 | .bad=>False
noncomputable def PJ {α β:Type} (K:KT α β) (E:XK) (ms:List Md) (t:St→Hp→(β→Hp→Prop)→Prop) (m:Env→Res α):Prop :=
 ∀ B U As σ H ρ Q,Rel cm ms B U As σ H ρ→Po cm K E ms B U As σ H ρ (m ρ) Q→t σ H Q
end
section
variable {cm:Cm} {E:XK} {ms:List Md} {B U H:Hp} {As:Nat→List Addr} {σ:St} {ρ:Env}
theorem New.up {N:List Addr} {H1:Hp} (h:New N H1 U As) (s:Same H H1):New N H U As:=⟨h.nd,fun a ha=>s.free (h.fr a ha),h.un⟩
theorem Po.at {α β:Type} {K:KT α β} {B1 U1 H1:Hp} {r:Res α} {Q:β→Hp→Prop} (P:Po cm K E ms B U As σ H ρ r Q) (e:Gw B U H B1 U1 H1):Po cm K E ms B1 U1 As σ H1 ρ r Q:=by
 cases r with
 | ok d=>exact fun v B' U' H' N R' e' n' k=>P v B' U' H' N R' (e.trans e') (n'.up e.h) k
 | exc c=>exact fun B' U' H' R' e'=>P B' U' H' R' (e.trans e')
 | bad=>exact P
theorem PJ.bnd {α β γ δ:Type} {Ka:KT α β} {Kc:KT γ δ} {ta:St→Hp→(β→Hp→Prop)→Prop} {ma:Env→Res α} (ha:PJ cm Ka E ms ta ma) (R:Rel cm ms B U As σ H ρ) {k:α→Res γ} {Q:δ→Hp→Prop}
 (P:Po cm Kc E ms B U As σ H ρ ((ma ρ).bind k) Q) {body:β→Hp→Prop}
 (h:∀ x v B1 U1 H1 N,ma ρ= .ok x→Rel cm ms B1 U1 As σ H1 ρ→Gw B U H B1 U1 H1→New N H U1 As→Ka x v B1 U1 H1 N→Po cm Kc E ms B1 U1 As σ H1 ρ (k x) Q→body v H1):ta σ H body:=by
 refine ha B U As σ H ρ body R ?_
 cases e:ma ρ with
 | ok x =>
   rw [e] at P
   exact fun v B1 U1 H1 N R1 e1 n1 k1=>h x v B1 U1 H1 N e R1 e1 n1 k1 (Po.at (r:=k x) P e1)
 | exc c=>rw [e] at P; exact P
 | bad=>rw [e] at P; exact P
theorem an0 {k:Kd} {B1 U1 H1:Hp} (e:Gw B U H B1 U1 H1):Same (hp k B U H) (hp k B1 U1 H1):=by
 cases k with
 | F=>exact e.b
 | U=>exact e.u
 | X=>exact e.h
theorem Cn.mono {G G' H H':Hp} (e:Same G G') (f:Same H H') {d:D} {v:V} (h:Cn cm G H d v):Cn cm G' H' d v:=by
 cases d with
 | lst ds=>obtain ⟨a,xs,r,h1,h2⟩:=h; exact ⟨a,xs,r,f _ _ h1,h2.mono e⟩
 | scr ds=>obtain ⟨a,xs,r,h1,h2⟩:=h; exact ⟨a,xs,r,h1.mono f,h2.mono e⟩
 | tup ds=>obtain ⟨a,xs,r,h1,h2⟩:=h; exact ⟨a,xs,r,f _ _ h1,h2.mono e⟩
 | dK ks ds=>obtain ⟨a,xs,r,h1,h2,h3⟩:=h; exact ⟨a,xs,r,f _ _ h1,h2,h3.mono e⟩
 | dT ks ds=>obtain ⟨a,xs,r,h1,h2,h3⟩:=h; exact ⟨a,xs,r,f _ _ h1,h2,h3.mono e⟩
 | obj c ns ds=>obtain ⟨a,dx,xs,r,h1,h2,h3⟩:=h; exact ⟨a,dx,xs,r,f _ _ h1,h2,h3.mono e⟩
 | non=>exact Dn.mono e h
 | bl _=>exact Dn.mono e h
 | int _=>exact Dn.mono e h
 | str _=>exact Dn.mono e h
 | ty _=>exact Dn.mono e h
theorem Dn.cn {G H:Hp} (f:Same G H) {d:D} {v:V} (h:Dn cm G d v):Cn cm G H d v:=by
 cases d with
 | lst ds=>rw [Dn] at h; obtain ⟨a,xs,r,h1,h2⟩:=h; exact ⟨a,xs,r,f _ _ h1,h2⟩
 | scr ds=>rw [Dn] at h; obtain ⟨a,xs,r,h1,h2⟩:=h; exact ⟨a,xs,r,h1.mono f,h2⟩
 | tup ds=>rw [Dn] at h; obtain ⟨a,xs,r,h1,h2⟩:=h; exact ⟨a,xs,r,f _ _ h1,h2⟩
 | dK ks ds=>rw [Dn] at h; obtain ⟨a,xs,r,h1,h2,h3⟩:=h; exact ⟨a,xs,r,f _ _ h1,h2,h3⟩
 | dT ks ds=>rw [Dn] at h; obtain ⟨a,xs,r,h1,h2,h3⟩:=h; exact ⟨a,xs,r,f _ _ h1,h2,h3⟩
 | obj c ns ds=>rw [Dn] at h; obtain ⟨a,dx,xs,r,h1,h2,h3⟩:=h; exact ⟨a,dx,xs,r,f _ _ h1,h2,h3⟩
 | non=>exact h
 | bl _=>exact h
 | int _=>exact h
 | str _=>exact h
 | ty _=>exact h
theorem Cn.dn {H:Hp} {d:D} {v:V} (h:Cn cm H H d v):Dn cm H d v:=by
 cases d with
 | lst ds=>obtain ⟨a,xs,r,h1,h2⟩:=h; rw [Dn]; exact ⟨a,xs,r,h1,h2⟩
 | scr ds=>obtain ⟨a,xs,r,h1,h2⟩:=h; rw [Dn]; exact ⟨a,xs,r,h1,h2⟩
 | tup ds=>obtain ⟨a,xs,r,h1,h2⟩:=h; rw [Dn]; exact ⟨a,xs,r,h1,h2⟩
 | dK ks ds=>obtain ⟨a,xs,r,h1,h2,h3⟩:=h; rw [Dn]; exact ⟨a,xs,r,h1,h2,h3⟩
 | dT ks ds=>obtain ⟨a,xs,r,h1,h2,h3⟩:=h; rw [Dn]; exact ⟨a,xs,r,h1,h2,h3⟩
 | obj c ns ds=>obtain ⟨a,dx,xs,r,h1,h2,h3⟩:=h; rw [Dn]; exact ⟨a,dx,xs,r,h1,h2,h3⟩
 | non=>exact h
 | bl _=>exact h
 | int _=>exact h
 | str _=>exact h
 | ty _=>exact h
theorem Rel.hp (R:Rel cm ms B U As σ H ρ) (k:Kd):Same (hp k B U H) H:=by
 cases k with
 | F=>exact R.bh
 | U=>exact R.uh
 | X=>exact Same.refl _
theorem PJ.imp {α β:Type} {K K':KT α β} {t:St→Hp→(β→Hp→Prop)→Prop} {m:Env→Res α} (h:PJ cm K E ms t m) (f:∀ B U As σ H ρ d v N,Rel cm ms B U As σ H ρ→K d v B U H N→K' d v B U H N):PJ cm K' E ms t m:=by
 intro B U As σ H ρ Q R P
 refine h B U As σ H ρ Q R ?_
 cases e:m ρ with
 | ok d=>rw [e] at P; exact fun v B' U' H' N R' e' n' k=>P v B' U' H' N R' e' n' (f _ _ _ _ _ _ _ _ _ R' k)
 | exc c=>rw [e] at P; exact P
 | bad=>rw [e] at P; exact P
section
variable {t:TE} {m:Env→Res D} {k:Kd} {s:Sh}
theorem fu (h:PJ cm (KR cm .F) E ms t m):PJ cm (KR cm .U) E ms t m:=h.imp fun _ _ _ _ _ _ _ _ _ R q=>Dn.mono R.bu q
theorem ux (h:PJ cm (KR cm .U) E ms t m):PJ cm (KR cm .X) E ms t m:=h.imp fun _ _ _ _ _ _ _ _ _ R q=>Dn.mono R.uh q
theorem fx (h:PJ cm (KR cm .F) E ms t m):PJ cm (KR cm .X) E ms t m:=ux (fu h)
theorem rc (h:PJ cm (KR cm k) E ms t m):PJ cm (KC cm k) E ms t m:=h.imp fun _ _ _ _ _ _ _ _ _ R q=>Dn.cn (R.hp k) q
theorem cx (h:PJ cm (KC cm k) E ms t m):PJ cm (KR cm .X) E ms t m:=h.imp fun _ _ _ _ _ _ _ _ _ R q=>Cn.dn (Cn.mono (R.hp k) (Same.refl _) q)
theorem Rel.freeze {A:List Addr} (R:Rel cm ms B U As σ H ρ) (h:∀ a∈A,U a=none∧∀ i,a∉As i):Rel cm ms (Mi.frz B H A) (Mi.frz U H A) As σ H ρ∧Ex B U (Mi.frz B H A) (Mi.frz U H A):=by
 refine ⟨R.grow (ad4 R.bh) (ad4 R.uh) (Same.refl _) (aB4 R.bu) (aK9 R.uh) fun i a ha=>?_,ad4 R.bh,ad4 R.uh,fun a o q=>?_⟩
 · unfold Mi.frz
   split
   · rename_i z; exact absurd ha ((h a z).2 i)
   · exact R.un i a ha
 · unfold Mi.frz at q
   split at q
   · rename_i z; exact .inr (.inl (h a z).1)
   · exact .inl q
theorem Rel.apart (R:Rel cm ms B U As σ H ρ) {N:List Addr} {U':Hp} (n:New N H U' As):∀ a∈N,∀ i,a∉As i:=fun a ha i=>R.fresh (n.fr a ha) i
theorem oF (h:PJ cm (KO cm s) E ms t m):PJ cm (KR cm .F) E ms t m:=by
 intro B U As σ H ρ Q R P
 refine h B U As σ H ρ Q R ?_
 cases e:m ρ with
 | ok d =>
   rw [e] at P
   intro v B' U' H' N R' e' n' ow
   obtain ⟨R2,e2⟩:=R'.freeze fun a ha=>⟨n'.un a ha,R.apart n' a ha⟩
   refine P v _ _ H' [] R2 ⟨e'.toEx.trans e2,e'.h,fun a o q=>?_⟩ New.nil (Ow.dn (ad4 R'.bh) (fun a ha o q=>?_) ow)
   · unfold Mi.frz at q
     split at q
     · rename_i z; exact .inr (.inl (n'.fr a z))
     · exact e'.fr a o q
   · unfold Mi.frz
     rw [if_pos ha]
     exact q
 | exc c=>rw [e] at P; exact P
 | bad=>rw [e] at P; exact P
theorem oc (h:PJ cm (KO cm (.ct .fz)) E ms t m):PJ cm (KC cm .F) E ms t m:=rc (oF h)
end
theorem ag0 {α:Type} {l:List (Option α)} {i:Nat} {x:α} (h:rg l i=some x):l[i]?=some (some x):=by
 unfold rg at h
 cases e:l[i]? with
 | none=>rw [e] at h; cases h
 | some o=>rw [e] at h; exact congrArg some h
theorem aP7 {K:KT D V} {i:Nat} (f:∀ (B U:Hp) (A:List Addr) (H:Hp) (d:D) (v:V) (s:Option V),Same B U→Same U H→Lo cm B U H (ms.getD i .F) (some d) s A→s=some v→K d v B U H []):PJ cm K E ms (tVar i) (vr i):=by
 intro B U As σ H ρ Q R P
 unfold vr at P
 have l:=R.lo i
 cases e:rg ρ i with
 | none=>rw [e] at P; exact P.elim
 | some d =>
   rw [e] at P l
   obtain ⟨v,hv,q⟩:=id l
   exact ⟨v,ag0 hv,P v B U H [] R (Gw.refl _ _ _) New.nil (f B U _ H d v _ R.bu R.uh l hv)⟩
theorem an8 {B U H:Hp} {m:Md} {d:D} {v:V} {s:Option V} {A:List Addr} (l:Lo cm B U H m (some d) s A) (hs:s=some v):LoV cm B U H m d v A:=by
 obtain ⟨w,hw,q⟩:=l
 rw [hs] at hw
 cases hw
 exact q
theorem xF {i:Nat} (hm:ms.getD i .F= .F):PJ cm (KR cm .F) E ms (tVar i) (vr i):=aP7 fun B U As H d v s _ _ l hs=>by
 rw [hm] at l
 exact (an8 l hs).1
theorem xR {i:Nat} (hm:ms.getD i .F= .R):PJ cm (KR cm .U) E ms (tVar i) (vr i):=aP7 fun B U As H d v s _ _ l hs=>by
 rw [hm] at l
 exact (an8 l hs).1
theorem xO {i:Nat} {sh:Sh} (hm:ms.getD i .F= .O sh):PJ cm (KR cm .X) E ms (tVar i) (vr i):=aP7 fun B U As H d v s b u l hs=>by
 rw [hm] at l
 exact Ow.dn (b.trans u) (fun _ _ _ q=>q) (an8 l hs)
theorem Ow.cn {B H:Hp} {d:D} {v:V} {A:List Addr} (f:Same B H) (h:Ow cm B H d (.ct .fz) v A):Cn cm B H d v:=by
 cases d with
 | lst ds=>rw [Ow] at h; obtain ⟨a,xs,A',r,h1,h2,h3⟩:=h; exact ⟨a,xs,r,h1,(Ows.fz h3).1⟩
 | dK ks ds=>rw [Ow] at h; obtain ⟨a,xs,A',r,h1,h2,h3,h4⟩:=h; exact ⟨a,xs,r,h1,h2,(Ows.fz h4).1⟩
 | dT ks ds=>rw [Ow] at h; obtain ⟨a,xs,A',r,h1,h2,h3,h4⟩:=h; exact ⟨a,xs,r,h1,h2,(Ows.fz h4).1⟩
 | scr ds=>simp [Ow] at h
 | tup ds=>simp [Ow] at h
 | obj c ns ds=>simp [Ow] at h
 | non=>simp [Ow] at h
 | bl _=>simp [Ow] at h
 | int _=>simp [Ow] at h
 | str _=>simp [Ow] at h
 | ty _=>simp [Ow] at h
theorem xC {i:Nat} (hm:ms.getD i .F= .O (.ct .fz)):PJ cm (KC cm .F) E ms (tVar i) (vr i):=aP7 fun B U As H d v s b u l hs=>by
 rw [hm] at l
 exact Ow.cn (b.trans u) (an8 l hs)
theorem p_c {d:D} {v:V} (h:∀ G,Dn cm G d v):PJ cm (KR cm .F) E ms (tC v) (cst d):=fun B U As σ H ρ Q R P=>P v B U H [] R (Gw.refl _ _ _) New.nil (h _)
theorem pI {i:Int}:PJ cm (KR cm .F) E ms (tC (.int i)) (cst (.int i)):=p_c fun _=>by rw [Dn]
theorem pB {b:Bool}:PJ cm (KR cm .F) E ms (tC (.bl b)) (cst (.bl b)):=p_c fun _=>by rw [Dn]
theorem pN:PJ cm (KR cm .F) E ms (tC .non) (cst .non):=p_c fun _=>by rw [Dn]
theorem pT {n:String}:PJ cm (KR cm .F) E ms (tC (.ty n)) (cst (.ty n)):=p_c fun _=>by rw [Dn]
end
noncomputable def isNb (neg:Bool) (x y:D):Res D:=if aK8 y=true then .ok (.bl (neg.xor (aK8 x))) else .bad
noncomputable def tst (m:Env→Res D):Env→Res Bool:=fun ρ=>(m ρ).bind truB
noncomputable def andT (a b:Env→Res Bool):Env→Res Bool:=fun ρ=>(a ρ).bind fun c=>if c=true then b ρ else .ok false
noncomputable def orT (a b:Env→Res Bool):Env→Res Bool:=fun ρ=>(a ρ).bind fun c=>if c=true then .ok true else b ρ
noncomputable def notT (a:Env→Res Bool):Env→Res Bool:=fun ρ=>(a ρ).bind fun c=> .ok (!c)
section
variable {cm:Cm} {E:XK} {ms:List Md}
noncomputable def S2 (cm:Cm) (r:R2) (f:D→D→Res D):Prop:=∀ H x y v u,Dn cm H x v→Dn cm H y u→match f x y with
 | .ok d=>∃ w,(∀ G,Dn cm G d w)∧∀ Q:VK,Q w H→r v u H Q
 | .exc _=>False
 | .bad=>True
noncomputable def S1 (cm:Cm) (r:V→Hp→VK→Prop) (f:D→Res D):Prop:=∀ H x v,Dn cm H x v→match f x with
 | .ok d=>∃ w,(∀ G,Dn cm G d w)∧∀ Q:VK,Q w H→r v H Q
 | .exc _=>False
 | .bad=>True
section
variable {r:R2} {r1:V→Hp→VK→Prop} {rb:List V→Hp→VK→Prop} {f:D→D→Res D} {f1:D→Res D} {ta tb:TE} {ma mb:Env→Res D}
theorem p_op (h:S2 cm r f) (ha:PJ cm (KR cm .X) E ms ta ma) (hb:PJ cm (KR cm .X) E ms tb mb):PJ cm (KR cm .F) E ms (tOp r ta tb) (bn f ma mb):=by
 intro B U As σ H ρ Q R P
 refine ha.bnd R P fun x v B1 U1 H1 N1 _ R1 e1 n1 d1 P1=>hb.bnd R1 P1 fun y u B2 U2 H2 N2 _ R2 e2 n2 d2 P2=>?_
 have q:=h H2 x y v u (Dn.mono e2.h d1) d2
 cases e:f x y with
 | ok d =>
   rw [e] at q P2
   obtain ⟨w,hw,k⟩:=q
   exact k Q (P2 w B2 U2 H2 [] R2 (Gw.refl _ _ _) New.nil (hw _))
 | exc c=>rw [e] at q; exact q.elim
 | bad=>rw [e] at P2; exact P2.elim
theorem p_un (h:S1 cm r1 f1) (ha:PJ cm (KR cm .X) E ms ta ma):PJ cm (KR cm .F) E ms (tUn r1 ta) (un f1 ma):=by
 intro B U As σ H ρ Q R P
 refine ha.bnd R P fun x v B1 U1 H1 N1 _ R1 e1 n1 d1 P1=>?_
 have q:=h H1 x v d1
 cases e:f1 x with
 | ok d =>
   rw [e] at q P1
   obtain ⟨w,hw,k⟩:=q
   exact k Q (P1 w B1 U1 H1 [] R1 (Gw.refl _ _ _) New.nil (hw _))
 | exc c=>rw [e] at q; exact q.elim
 | bad=>rw [e] at P1; exact P1.elim
theorem aw7 (h:S1 cm (fun v H Q=>rb [v] H Q) f1) (ha:PJ cm (KR cm .X) E ms ta ma):PJ cm (KR cm .F) E ms (tCB rb (af3 ta tNil)) (un f1 ma):=p_un h ha
theorem aZ8 (h:S2 cm (fun v u H Q=>rb [v,u] H Q) f) (ha:PJ cm (KR cm .X) E ms ta ma) (hb:PJ cm (KR cm .X) E ms tb mb):PJ cm (KR cm .F) E ms (tCB rb (af3 ta (af3 tb tNil))) (bn f ma mb):=p_op h ha hb
end
theorem S2.imp {r r':R2} {f:D→D→Res D} (h:S2 cm r f) (k:∀ x y H Q,r x y H Q→r' x y H Q):S2 cm r' f:=by
 intro H x y v u hx hy
 have q:=h H x y v u hx hy
 cases e:f x y with
 | ok d =>
   rw [e] at q
   obtain ⟨w,hw,q⟩:=q
   exact ⟨w,hw,fun Q z=>k _ _ _ _ (q Q z)⟩
 | exc c=>rw [e] at q; exact q
 | bad=>trivial
theorem sI0 {g:Int→Int→Int}:S2 cm (rI0 fun i j=> .int (g i j)) (iI g):=by
 intro H x y v u hx hy
 cases x with
 | int i =>
   cases y with
   | int j =>
     rw [Dn] at hx; rw [Dn] at hy
     subst hx hy
     exact ⟨.int (g i j),fun _=>by rw [Dn],fun Q q=>⟨i,j,rfl,rfl,q⟩⟩
   | _=>trivial
 | _=>trivial
theorem sB0 {g:Int→Int→Bool}:S2 cm (rI0 fun i j=> .bl (g i j)) (iB g):=by
 intro H x y v u hx hy
 cases x with
 | int i =>
   cases y with
   | int j =>
     rw [Dn] at hx; rw [Dn] at hy
     subst hx hy
     exact ⟨.bl (g i j),fun _=>by rw [Dn],fun Q q=>⟨i,j,rfl,rfl,q⟩⟩
   | _=>trivial
 | _=>trivial
theorem sIc {C:Int→Int→Prop} {c:Int→Int→Bool} {g:Int→Int→Int} (hc:∀ i j,c i j=true→C i j):S2 cm (rI C fun i j=> .int (g i j)) (iC c g):=by
 intro H x y v u hx hy
 cases x with
 | int i =>
   cases y with
   | int j =>
     rw [Dn] at hx; rw [Dn] at hy
     subst hx hy
     unfold iC
     dsimp only
     by_cases z:c i j=true
     · rw [if_pos z]
       exact ⟨.int (g i j),fun _=>by rw [Dn],fun Q q=>⟨i,j,rfl,rfl,hc i j z,q⟩⟩
     · rw [if_neg z]
       trivial
   | _=>trivial
 | _=>trivial
theorem aS2:S2 cm (rI0 fun i j=> .int (i + j)) addI:=sI0
theorem aS1:S2 cm (rI0 fun i j=> .int (i - j)) subI:=sI0
theorem s_lt:S2 cm (rI0 fun i j=> .bl (decide (i < j))) ltI:=sB0
theorem s_gt:S2 cm (rI0 fun i j=> .bl (decide (j < i))) gtI:=sB0
theorem s_ge:S2 cm (rI0 fun i j=> .bl (decide (j≤i))) geI:=sB0
theorem s_mul:S2 cm (rI CMul fun i j=> .int (i * j)) mulI:=sIc fun _ _ h=>by simpa [CMul] using h
theorem al8:S2 cm (rI CDiv fun i j=> .int (i / j)) ao2:=sIc fun _ _ h=>by simpa [CDiv] using h
theorem am2:S2 cm (rI (fun _ j=>0 < j) fun i j=> .int (i % j)) modI:=sIc fun _ _ h=>of_decide_eq_true h
theorem bI5:S2 cm (rI CPow fun i j=> .int (i ^ j.toNat)) powI:=sIc fun _ _ h=>by simpa [CPow] using h
theorem s_neg:S1 cm (rU fun i=> .int (-i)) negI:=by
 intro H x v hx
 cases x with
 | int i =>
   rw [Dn] at hx
   subst hx
   exact ⟨.int (-i),fun _=>by rw [Dn],fun Q q=>⟨i,rfl,q⟩⟩
 | _=>trivial
theorem bI8 (neg:Bool):S2 cm (fun x y H Q=>scal x y=true∧Q (.bl (neg.xor (decide (x=y)))) H) (eqS neg):=by
 intro H x y v u hx hy
 cases x with
 | int i =>
   cases y with
   | int j =>
     rw [Dn] at hx; rw [Dn] at hy
     subst hx hy
     exact ⟨_,fun _=>by rw [Dn],fun Q q=>⟨rfl,by simpa using q⟩⟩
   | non =>
     rw [Dn] at hx; rw [Dn] at hy
     subst hx hy
     exact ⟨_,fun _=>by rw [Dn],fun Q q=>⟨rfl,by simpa using q⟩⟩
   | _=>trivial
 | str i =>
   cases y with
   | str j =>
     rw [Dn] at hx; rw [Dn] at hy
     subst hx hy
     exact ⟨_,fun _=>by rw [Dn],fun Q q=>⟨rfl,by simpa using q⟩⟩
   | _=>trivial
 | bl i =>
   cases y with
   | bl j =>
     rw [Dn] at hx; rw [Dn] at hy
     subst hx hy
     exact ⟨_,fun _=>by rw [Dn],fun Q q=>⟨rfl,by simpa using q⟩⟩
   | _=>trivial
 | non =>
   cases y with
   | int j =>
     rw [Dn] at hx; rw [Dn] at hy
     subst hx hy
     exact ⟨_,fun _=>by rw [Dn],fun Q q=>⟨rfl,by simpa using q⟩⟩
   | non =>
     rw [Dn] at hx; rw [Dn] at hy
     subst hx hy
     exact ⟨_,fun _=>by rw [Dn],fun Q q=>⟨rfl,by simpa using q⟩⟩
   | _=>trivial
 | _=>cases y <;> trivial
theorem s_eq:S2 cm rEq (eqS false):=(bI8 false).imp fun x y H Q h=>⟨h.1,by simpa using h.2⟩
theorem s_ne:S2 cm rNe (eqS true):=(bI8 true).imp fun x y H Q h=>⟨h.1,by simpa using h.2⟩
theorem Dn.non {G:Hp} {d:D} {v:V} (h:Dn cm G d v):decide (v= .non)=aK8 d:=by
 cases d with
 | non=>rw [Dn] at h; subst h; rfl
 | bl _=>rw [Dn] at h; subst h; rfl
 | int _=>rw [Dn] at h; subst h; rfl
 | str _=>rw [Dn] at h; subst h; rfl
 | ty _=>rw [Dn] at h; subst h; rfl
 | lst _=>rw [Dn] at h; obtain ⟨a,xs,e,_⟩:=h; subst e; rfl
 | scr _=>rw [Dn] at h; obtain ⟨a,xs,e,_⟩:=h; subst e; rfl
 | tup _=>rw [Dn] at h; obtain ⟨a,xs,e,_⟩:=h; subst e; rfl
 | dK _ _=>rw [Dn] at h; obtain ⟨a,xs,e,_⟩:=h; subst e; rfl
 | dT _ _=>rw [Dn] at h; obtain ⟨a,xs,e,_⟩:=h; subst e; rfl
 | obj _ _ _=>rw [Dn] at h; obtain ⟨a,dx,xs,e,_⟩:=h; subst e; rfl
theorem s_is:S2 cm (fun x y H Q=>y= .non∧Q (.bl (decide (x= .non))) H) (isNb false):=by
 intro H x y v u hx hy
 unfold isNb
 by_cases e:aK8 y=true
 · rw [if_pos e]
   have:decide (u= .non)=true:=by rw [Dn.non hy]; exact e
   refine ⟨_,fun _=>by rw [Dn],fun Q q=>⟨of_decide_eq_true this,?_⟩⟩
   rw [Dn.non hx]
   simpa using q
 · rw [if_neg e]
   trivial
theorem aw6:S1 cm (fun v H Q=>∃ p ys,[v]=[.ref p]∧(SqL cm.K H p ys∨SqT cm.K H p ys)∧Q (.int ys.length) H) lenD:=by
 intro H x v hx
 cases x with
 | lst ds =>
   rw [Dn] at hx
   obtain ⟨a,xs,rfl,h1,h2⟩:=hx
   exact ⟨.int ds.length,fun _=>by rw [Dn],fun Q q=>⟨a,xs,rfl,.inl (SqL.of h1),by rw [← h2.len]; exact q⟩⟩
 | scr ds =>
   rw [Dn] at hx
   obtain ⟨a,xs,rfl,h1,h2⟩:=hx
   exact ⟨.int ds.length,fun _=>by rw [Dn],fun Q q=>⟨a,xs,rfl,.inl h1.sq,by rw [← h2.len]; exact q⟩⟩
 | tup ds =>
   rw [Dn] at hx
   obtain ⟨a,xs,rfl,h1,h2⟩:=hx
   exact ⟨.int ds.length,fun _=>by rw [Dn],fun Q q=>⟨a,xs,rfl,.inr (SqT.of h1),by rw [← h2.len]; exact q⟩⟩
 | _=>trivial
theorem p_not {ta:TE} {ma:Env→Res D} (ha:PJ cm (KR cm .X) E ms ta ma):PJ cm (KR cm .F) E ms (bH4 ta) (un notB ma):=by
 intro B U As σ H ρ Q R P
 refine ha.bnd R P fun x v B1 U1 H1 N1 _ R1 e1 n1 d1 P1=>?_
 cases x with
 | bl b =>
   have d1:Dn cm H1 (.bl b) v:=d1
   rw [Dn] at d1
   exact ⟨b,d1,P1 _ B1 U1 H1 [] R1 (Gw.refl _ _ _) New.nil (show Dn cm _ (.bl (!b)) _ by rw [Dn])⟩
 | _=>exact P1.elim
theorem bK6 {t:TE} {m:Env→Res D} (h:PJ cm (KR cm .X) E ms t m):PJ cm KB E ms (fun σ H Q=>t σ H fun x H1=>∃ c,x= .bl c∧Q c H1) (tst m):=by
 intro B U As σ H ρ Q R P
 refine h.bnd R P fun x v B1 U1 H1 N1 _ R1 e1 n1 d1 P1=>?_
 cases x with
 | bl b =>
   have d1:Dn cm H1 (.bl b) v:=d1
   rw [Dn] at d1
   exact ⟨b,d1,P1 _ B1 U1 H1 [] R1 (Gw.refl _ _ _) New.nil rfl⟩
 | _=>exact P1.elim
theorem pt_B {t:TE} {m:Env→Res D} (h:PJ cm (KR cm .X) E ms t m):PJ cm KB E ms (tB t) (tst m):=bK6 h
theorem pt_T {t:TE} {m:Env→Res D} (h:PJ cm (KR cm .X) E ms t m):PJ cm KB E ms (bH3 t) (tst m):=bK6 h
theorem bJ4 {t u:TT} {m n:Env→Res Bool} (h:PJ cm KB E ms t m) (k:PJ cm KB E ms u n):PJ cm KB E ms (tAnd t u) (andT m n):=by
 intro B U As σ H ρ Q R P
 refine h.bnd R P fun x v B1 U1 H1 N1 _ R1 e1 n1 d1 P1=>?_
 cases d1
 cases x with
 | true=>exact k B1 U1 As σ H1 ρ Q R1 P1
 | false=>exact P1 _ B1 U1 H1 [] R1 (Gw.refl _ _ _) New.nil rfl
theorem az8 {t u:TT} {m n:Env→Res Bool} (h:PJ cm KB E ms t m) (k:PJ cm KB E ms u n):PJ cm KB E ms (tOr t u) (orT m n):=by
 intro B U As σ H ρ Q R P
 refine h.bnd R P fun x v B1 U1 H1 N1 _ R1 e1 n1 d1 P1=>?_
 cases d1
 cases x with
 | false=>exact k B1 U1 As σ H1 ρ Q R1 P1
 | true=>exact P1 _ B1 U1 H1 [] R1 (Gw.refl _ _ _) New.nil rfl
theorem ao7 {t:TT} {m:Env→Res Bool} (h:PJ cm KB E ms t m):PJ cm KB E ms (tNot t) (notT m):=by
 intro B U As σ H ρ Q R P
 refine h.bnd R P fun x v B1 U1 H1 N1 _ R1 e1 n1 d1 P1=>?_
 cases d1
 exact P1 _ B1 U1 H1 [] R1 (Gw.refl _ _ _) New.nil rfl
theorem bA3 {k:Kd} {ta tb:TE} {ma mb:Env→Res D} (ha:PJ cm (KR cm .X) E ms ta ma) (hb:PJ cm (KR cm k) E ms tb mb):PJ cm (KR cm k) E ms (bH8 ta tb) (andD ma mb):=by
 intro B U As σ H ρ Q R P
 unfold andD at P
 have P':Po cm (KR cm k) E ms B U As σ H ρ ((ma ρ).bind fun x=>(truB x).bind fun c=>if c=true then mb ρ else .ok (.bl false)) Q:=by
  cases e:ma ρ <;> (rw [e] at P; exact P)
 refine ha.bnd R P' fun x v B1 U1 H1 N1 _ R1 e1 n1 d1 P1=>?_
 cases x with
 | bl b =>
   have d1:Dn cm H1 (.bl b) v:=d1
   rw [Dn] at d1
   refine ⟨b,d1,?_⟩
   cases b with
   | true=>exact hb B1 U1 As σ H1 ρ Q R1 P1
   | false=>exact P1 _ B1 U1 H1 [] R1 (Gw.refl _ _ _) New.nil (show Dn cm _ (.bl false) _ by rw [Dn])
 | _=>exact P1.elim
end
section
variable {cm:Cm} {E:XK} {ms:List Md} {K:PySem.W.Frag}
theorem ak0 {n:Nat} (h:n≤ab1):n < sizeLine:=by
 have:=sizeLine_eq
 unfold ab1 at h
 omega
theorem bh9 {G:Hp} {ds:List D} {xs:List V} {i:Int} {d:D} (h:Dns cm G ds xs) (e:atI ds i=some d):∃ v,atI xs i=some v∧Dn cm G d v:=by
 unfold atI at e ⊢
 rw [← h.len]
 cases q:ixN ds.length i with
 | none=>rw [q] at e; cases e
 | some j =>
   rw [q] at e
   exact h.get e
theorem ai6 {k:Kd} {ta tb:TE} {ma mb:Env→Res D} (ha:PJ cm (KC cm k) E ms ta ma) (hb:PJ cm (KR cm .X) E ms tb mb):PJ cm (KR cm k) E ms (tOp (rIxL cm.K) ta tb) (bn ixL ma mb):=by
 intro B U As σ H ρ Q R P
 refine ha.bnd R P fun x v B1 U1 H1 N1 _ R1 e1 n1 d1 P1=>hb.bnd R1 P1 fun y u B2 U2 H2 N2 _ R2 e2 n2 d2 P2=>?_
 have c:=Cn.mono (an0 e2) e2.h d1
 have d2:Dn cm H2 y u:=d2
 have fin:∀ (ds:List D) (i:Int),Po cm (KR cm k) E ms B2 U2 As σ H2 ρ (atD ds i) Q→∀ xs,Dns cm (hp k B2 U2 H2) ds xs→∃ w,atI xs i=some w∧Q w H2:=fun ds i P3 xs h=>by
  unfold atD at P3
  cases q:atI ds i with
  | none=>rw [q] at P3; exact P3.elim
  | some d =>
    rw [q] at P3
    obtain ⟨w,hw,dw⟩:=bh9 h q
    exact ⟨w,hw,P3 w B2 U2 H2 [] R2 (Gw.refl _ _ _) New.nil dw⟩
 cases x with
 | lst ds =>
   cases y with
   | int i =>
     rw [Dn] at d2
     obtain ⟨a,xs,r,h1,h2⟩:=c
     obtain ⟨w,hw,q⟩:=fin ds i P2 xs h2
     exact ⟨a,xs,i,w,r,d2,SqL.of h1,hw,q⟩
   | _=>exact P2.elim
 | scr ds =>
   cases y with
   | int i =>
     rw [Dn] at d2
     obtain ⟨a,xs,r,h1,h2⟩:=c
     obtain ⟨w,hw,q⟩:=fin ds i P2 xs h2
     exact ⟨a,xs,i,w,r,d2,h1.sq,hw,q⟩
   | _=>exact P2.elim
 | _=>cases y <;> exact P2.elim
theorem bk1 {k:Kd} {ta tb:TE} {ma mb:Env→Res D} (ha:PJ cm (KC cm k) E ms ta ma) (hb:PJ cm (KR cm .X) E ms tb mb):PJ cm (KR cm k) E ms (tOp (rIxT K) ta tb) (bn ixT ma mb):=by
 intro B U As σ H ρ Q R P
 refine ha.bnd R P fun x v B1 U1 H1 N1 _ R1 e1 n1 d1 P1=>hb.bnd R1 P1 fun y u B2 U2 H2 N2 _ R2 e2 n2 d2 P2=>?_
 have c:=Cn.mono (an0 e2) e2.h d1
 have d2:Dn cm H2 y u:=d2
 cases x with
 | tup ds =>
   cases y with
   | int i =>
     rw [Dn] at d2
     obtain ⟨a,xs,r,h1,h2⟩:=c
     have P3:Po cm (KR cm k) E ms B2 U2 As σ H2 ρ (atD ds i) Q:=P2
     unfold atD at P3
     cases q:atI ds i with
     | none=>rw [q] at P3; exact P3.elim
     | some d =>
       rw [q] at P3
       obtain ⟨w,hw,dw⟩:=bh9 h2 q
       exact ⟨a,xs,i,w,r,d2,SqT.of h1,hw,P3 w B2 U2 H2 [] R2 (Gw.refl _ _ _) New.nil dw⟩
   | _=>exact P2.elim
 | _=>cases y <;> exact P2.elim
theorem ak2 {k:Kd}:PJ cm (KL cm k) E ms tNil esN:=fun B U As σ H ρ Q R P=>P [] B U H [] R (Gw.refl _ _ _) New.nil (show Dns cm _ [] [] by rw [Dns])
theorem ac4 {k:Kd} {ta:TE} {tr:TA} {ma:Env→Res D} {mr:Env→Res (List D)} (ha:PJ cm (KR cm k) E ms ta ma) (hr:PJ cm (KL cm k) E ms tr mr):PJ cm (KL cm k) E ms (af3 ta tr) (esC ma mr):=by
 intro B U As σ H ρ Q R P
 refine ha.bnd R P fun x v B1 U1 H1 N1 _ R1 e1 n1 d1 P1=>hr.bnd R1 P1 fun y u B2 U2 H2 N2 _ R2 e2 n2 d2 P2=>?_
 refine P2 (v :: u) B2 U2 H2 [] R2 (Gw.refl _ _ _) New.nil ?_
 show Dns cm _ (x :: y) (v :: u)
 rw [Dns]
 exact ⟨v,u,rfl,Dn.mono (an0 e2) d1,d2⟩
variable {B U H:Hp} {As:Nat→List Addr} {σ:St} {ρ:Env}
theorem Gw.newO (R:Rel cm ms B U As σ H ρ) {p:Addr} {o:HO} (h:H p=none):Gw B U H B U (upd H p o):=⟨Ex.refl _ _,Gd.ae4 h,fun _ _ q=> .inl q⟩
theorem Gw.newB (R:Rel cm ms B U As σ H ρ) {p:Addr} {o:HO} (h:H p=none):Gw B U H (upd B p o) (upd U p o) (upd H p o):=⟨Ex.newB R h,Gd.ae4 h,fun a u q=>by
 by_cases z:a=p
 · subst z; exact .inr (.inl h)
 · rw [ab2 z] at q; exact .inl q⟩
theorem New.one (R:Rel cm ms B U As σ H ρ) {p:Addr} (h:H p=none):New [p] H U As:=⟨by simp,fun a ha=>by rw [List.mem_singleton.mp ha]; exact h,fun a ha=>by rw [List.mem_singleton.mp ha]; exact R.uh.free h⟩
theorem ak9 (R:Rel cm ms B U As σ H ρ) {ds:List D} {xs:List V} {Q:VK} (P:Po cm (KO cm (.ct .fz)) E ms B U As σ H ρ (.ok (.lst ds)) Q) (h:Dns cm B ds xs) {p:Addr} (hp:H p=none):Q (.ref p) (upd H p (.lst xs)) :=
 P (.ref p) B U _ [p] (R.new hp) (Gw.newO R hp) (New.one R hp) (by
  show Ow cm B _ (.lst ds) (.ct .fz) (.ref p) [p]
  rw [Ow]
  exact ⟨p,xs,[],rfl,ab5,rfl,Ows.of h⟩)
theorem aQ2 (R:Rel cm ms B U As σ H ρ) {ds:List D} {xs:List V} {Q:VK} (P:Po cm (KR cm .F) E ms B U As σ H ρ (.ok (.tup ds)) Q) (h:Dns cm B ds xs) {p:Addr} (hp:H p=none):Q (.ref p) (upd H p (.tup xs)) :=
 P (.ref p) _ _ _ [] (R.newB hp) (Gw.newB R hp) New.nil (by
  show Dn cm (upd B p (.tup xs)) (.tup ds) (.ref p)
  rw [Dn]
  exact ⟨p,xs,rfl,ab5,h.mono (Gd.ae4 (R.bh.free hp))⟩)
section
variable {t:TA} {m:Env→Res (List D)}
theorem bj9 (h:PJ cm (KL cm .F) E ms t m):PJ cm (KO cm (.ct .fz)) E ms (tLst t) (mkL m):=by
 intro B U As σ H ρ Q R P
 refine h.bnd R P fun ds xs B1 U1 H1 N1 _ R1 e1 n1 d1 P1=>?_
 by_cases z:ds.length≤ab1
 · rw [if_pos z] at P1
   have d1:Dns cm B1 ds xs:=d1
   exact ⟨Nat.le_of_lt (ak0 (by rw [← d1.len]; exact z)),fun p hp=>ak9 R1 P1 d1 hp⟩
 · rw [if_neg z] at P1
   exact P1.elim
theorem aJ7 (h:PJ cm (KL cm .F) E ms t m):PJ cm (KR cm .F) E ms (tTup t) (mkT m):=by
 intro B U As σ H ρ Q R P
 refine h.bnd R P fun ds xs B1 U1 H1 N1 _ R1 e1 n1 d1 P1=>?_
 by_cases z:ds.length≤ab1
 · rw [if_pos z] at P1
   have d1:Dns cm B1 ds xs:=d1
   exact ⟨Nat.le_of_lt (ak0 (by rw [← d1.len]; exact z)),fun p hp=>aQ2 R1 P1 d1 hp⟩
 · rw [if_neg z] at P1
   exact P1.elim
end
theorem aE2:PJ cm (KO cm (.ct .fz)) E ms bn9 (cst (.dT [] [])):=by
 intro B U As σ H ρ Q R P p hp
 refine P (.ref p) B U _ [p] (R.new hp) (Gw.newO R hp) (New.one R hp) ?_
 show Ow cm B _ (.dT [] []) (.ct .fz) (.ref p) [p]
 rw [Ow]
 exact ⟨p,[],[],rfl,ab5,rfl,rfl,Ows.of (by rw [List.map_nil,Dns])⟩
theorem bR8 {G:Hp} {x y:D} {v u:V} (hx:Cn cm G H x v) (hy:Cn cm G H y u) {C:Res D→Prop} (hb:C .bad→False) (P:C (catL x y)) {Q:VK}
 (h:∀ ds es xs ys,Dns cm G (ds ++ es) (xs ++ ys)→C (.ok (.lst (ds ++ es)))→∀ p,H p=none→Q (.ref p) (upd H p (.lst (xs ++ ys)))):rCat v u H Q:=by
 cases x with
 | lst ds =>
   cases y with
   | lst es =>
     obtain ⟨a,xs,r,h1,h2⟩:=hx
     obtain ⟨b,ys,r',h3,h4⟩:=hy
     have P':C (if ds.length + es.length≤ab1 then .ok (.lst (ds ++ es)) else .bad):=P
     by_cases z:ds.length + es.length≤ab1
     · rw [if_pos z] at P'
       exact ⟨a,b,xs,ys,r,r',h1,h3,Nat.le_of_lt (ak0 (by rw [← h2.len,← h4.len]; exact z)),h ds es xs ys (h2.append h4) P'⟩
     · rw [if_neg z] at P'
       exact (hb P').elim
   | _=>exact (hb P).elim
 | _=>cases y <;> exact (hb P).elim
theorem p_cat {ta tb:TE} {ma mb:Env→Res D} (ha:PJ cm (KC cm .F) E ms ta ma) (hb:PJ cm (KC cm .F) E ms tb mb):PJ cm (KO cm (.ct .fz)) E ms (tOp rCat ta tb) (bn catL ma mb):=by
 intro B U As σ H ρ Q R P
 refine ha.bnd R P fun x v B1 U1 H1 N1 _ R1 e1 n1 d1 P1=>hb.bnd R1 P1 fun y u B2 U2 H2 N2 _ R2 e2 n2 d2 P2=>?_
 exact bR8 (G:=B2) (Cn.mono e2.b e2.h d1) d2 (C:=fun r=>Po cm (KO cm (.ct .fz)) E ms B2 U2 As σ H2 ρ r Q) (fun h=>h) P2 fun ds es xs ys h P3 p hp=>ak9 R2 P3 h hp
theorem ba9 {G:Hp} {x:D} {v:V} (hx:Cn cm G H x v) {C:Res D→Prop} (hb:C .bad→False) (P:C (ap9 x)) {Q:VK}
 (h:∀ ds xs,Dns cm G ds xs→C (.ok (.lst ds))→∀ p,H p=none→Q (.ref p) (upd H p (.lst xs))):∃ p ys,[v]=[.ref p]∧(SqL cm.K H p ys∨SqT cm.K H p ys)∧∀ l,H l=none→Q (.ref l) (upd H l (.lst ys)):=by
 cases x with
 | lst ds =>
   obtain ⟨a,xs,r,h1,h2⟩:=hx
   exact ⟨a,xs,by rw [r],.inl (SqL.of h1),h ds xs h2 P⟩
 | scr ds =>
   obtain ⟨a,xs,r,h1,h2⟩:=hx
   exact ⟨a,xs,by rw [r],.inl h1.sq,h ds xs h2 P⟩
 | tup ds =>
   obtain ⟨a,xs,r,h1,h2⟩:=hx
   exact ⟨a,xs,by rw [r],.inr (SqT.of h1),h ds xs h2 P⟩
 | _=>exact (hb P).elim
theorem aP8 {ta:TE} {ma:Env→Res D} (ha:PJ cm (KC cm .F) E ms ta ma) :
 PJ cm (KO cm (.ct .fz)) E ms (tCB (fun xs H Q=>∃ p ys,xs=[.ref p]∧(SqL cm.K H p ys∨SqT cm.K H p ys)∧∀ l,H l=none→Q (.ref l) (upd H l (.lst ys))) (af3 ta tNil)) (un ap9 ma):=by
 intro B U As σ H ρ Q R P
 refine ha.bnd R P fun x v B1 U1 H1 N1 _ R1 e1 n1 d1 P1=>?_
 exact ba9 (G:=B1) d1 (C:=fun r=>Po cm (KO cm (.ct .fz)) E ms B1 U1 As σ H1 ρ r Q) (fun h=>h) P1 fun ds xs h P3 p hp=>ak9 R1 P3 h hp
noncomputable def tupL:D→Res D | .lst xs=> .ok (.tup xs) | _=> .bad
theorem as8 {ta:TE} {ma:Env→Res D} (ha:PJ cm (KC cm .F) E ms ta ma) :
 PJ cm (KR cm .F) E ms (tCB (fun xs H Q=>∃ p ys,xs=[.ref p]∧((SqL K H p ys∧∀ l,H l=none→Q (.ref l) (upd H l (.tup ys)))∨(SqT K H p ys∧Q (.ref p) H))) (af3 ta tNil)) (un tupL ma):=by
 intro B U As σ H ρ Q R P
 refine ha.bnd R P fun x v B1 U1 H1 N1 _ R1 e1 n1 d1 P1=>?_
 cases x with
 | lst ds =>
   obtain ⟨a,xs,r,h1,h2⟩:=d1
   exact ⟨a,xs,by rw [r],.inl ⟨SqL.of h1,fun p hp=>aQ2 R1 P1 h2 hp⟩⟩
 | _=>exact P1.elim
theorem ap1 {G:Hp}:∀ {ds:List D} {xs:List V} {k:List Key},aj3 ds=some k→Dns cm G ds xs→xs=k.map kV
 | [],_,_,e,h=>by rw [Dns] at h; cases e; rw [h]; rfl
 | d :: ds,_,k,e,h=>by
   rw [Dns] at h
   obtain ⟨x,r,rfl,h1,h2⟩:=h
   unfold aj3 at e
   cases q:aF0 d with
   | none=>rw [q] at e; cases e
   | some k0 =>
     cases q2:aj3 ds with
     | none=>rw [q,q2] at e; cases e
     | some ks =>
       rw [q,q2] at e
       cases e
       rw [ap1 q2 h2,List.map_cons]
       congr 1
       cases d with
       | int i=>cases q; rw [Dn] at h1; exact h1
       | str x=>cases q; rw [Dn] at h1; exact h1
       | _=>cases q
theorem aQ6 {G:Hp} {d:D} {v:V} {k:Key} (e:aF0 d=some k) (h:Dn cm G d v):v=kV k:=by
 cases d with
 | int i=>cases e; rw [Dn] at h; exact h
 | str x=>cases e; rw [Dn] at h; exact h
 | _=>cases e
noncomputable def OI (cm:Cm) (G:Hp):Option D→Option V→Prop
 | some d,r=>∃ v,r=some v∧Dn cm G d v
 | none,r=>r=none
section
variable {κ:Type} [DecidableEq κ]
theorem aA3 {G:Hp}:∀ {kvs:List (κ×V)} {ds:List D} (j:κ),Dns cm G ds (kvs.map (·.2))→OI cm G (ah2 (kvs.map (·.1)) ds j) (valV kvs j)
 | [],ds,j,h=>by
   cases ds with
   | nil=>exact bi3
   | cons d ds=>rw [Dns] at h; obtain ⟨x,r,e,_⟩:=h; cases e
 | p :: kvs,ds,j,h=>by
   cases ds with
   | nil=>rw [Dns] at h; cases h
   | cons d ds =>
     rw [List.map_cons,Dns] at h
     obtain ⟨x,r,e,h1,h2⟩:=h
     cases e
     rw [List.map_cons]
     unfold ah2
     by_cases q:p.1=j
     · rw [if_pos q]
       exact ⟨p.2,ar2 q,h1⟩
     · rw [if_neg q,ar3 q]
       exact aA3 j h2
end
theorem aB1 {G:Hp} {d k:D} {v u:V} {o:Option D} (hd:Cn cm G H d v) (hk:Dn cm H k u) (e:aB2 d k=some o):∃ a r,v= .ref a∧IsD H a∧DGet H a u r∧OI cm G o r:=by
 cases d with
 | dT ks vs =>
   obtain ⟨a,kvs,rfl,h1,h2,h3⟩:=hd
   cases k with
   | tup kd =>
     have e:(aj3 kd).map (fun k=>ah2 ks vs k)=some o:=e
     obtain ⟨kk,ek,eo⟩:=Option.map_eq_some_iff.mp e
     rw [Dn] at hk
     obtain ⟨b,xs,rfl,h4,h5⟩:=hk
     have ex:=ap1 ek h5
     subst ex
     refine ⟨a,valV kvs kk,rfl,.inr ⟨kvs,.inl h1⟩,DGet.t h1 h4,?_⟩
     have l:=aA3 (κ:=List Key) kk h3
     rw [h2,eo] at l
     exact l
   | _=>cases e
 | dK ks vs =>
   obtain ⟨a,kvs,rfl,h1,h2,h3⟩:=hd
   have e:(aF0 k).map (fun k=>ah2 ks vs k)=some o:=by cases k <;> exact e
   obtain ⟨kk,ek,eo⟩:=Option.map_eq_some_iff.mp e
   have ex:=aQ6 ek hk
   subst ex
   refine ⟨a,valV kvs kk,rfl,.inl ⟨kvs,.inl h1⟩,DGet.k h1,?_⟩
   have l:=aA3 (κ:=Key) kk h3
   rw [h2,eo] at l
   exact l
 | _=>cases k <;> cases e
theorem aZ7 {k:Kd} {td tk:TE} {md mk:Env→Res D} (hd:PJ cm (KC cm k) E ms td md) (hk:PJ cm (KR cm .X) E ms tk mk):PJ cm (KR cm k) E ms (bH7 td tk) (bn aG1 md mk):=by
 intro B U As σ H ρ Q R P
 refine hd.bnd R P fun x v B1 U1 H1 N1 _ R1 e1 n1 d1 P1=>hk.bnd R1 P1 fun y u B2 U2 H2 N2 _ R2 e2 n2 d2 P2=>?_
 unfold aG1 at P2
 cases q:aB2 x y with
 | none=>rw [q] at P2; exact P2.elim
 | some o =>
   obtain ⟨a,r,ea,_,g,l⟩:=aB1 (Cn.mono (an0 e2) e2.h d1) d2 q
   cases o with
   | none=>rw [q] at P2; exact P2.elim
   | some d =>
     rw [q] at P2
     obtain ⟨w,rfl,dw⟩:=l
     exact ⟨a,w,ea,g,P2 w B2 U2 H2 [] R2 (Gw.refl _ _ _) New.nil dw⟩
theorem p_din {k:Kd} {td tk:TE} {md mk:Env→Res D} (hk:PJ cm (KR cm .X) E ms tk mk) (hd:PJ cm (KC cm k) E ms td md):PJ cm (KR cm .F) E ms (tDIn tk td) (bn (dinD false) mk md):=by
 intro B U As σ H ρ Q R P
 refine hk.bnd R P fun y u B1 U1 H1 N1 _ R1 e1 n1 d1 P1=>hd.bnd R1 P1 fun x v B2 U2 H2 N2 _ R2 e2 n2 d2 P2=>?_
 unfold dinD at P2
 cases q:aB2 x y with
 | none=>rw [q] at P2; exact P2.elim
 | some o =>
   rw [q] at P2
   obtain ⟨a,r,ea,_,g,l⟩:=aB1 d2 (Dn.mono e2.h d1) q
   refine ⟨a,r,ea,g,P2 _ B2 U2 H2 [] R2 (Gw.refl _ _ _) New.nil ?_⟩
   show Dn cm _ (.bl (false.xor o.isSome)) _
   rw [Dn]
   cases o with
   | none=>rw [show r=none from l]; rfl
   | some d=>obtain ⟨w,rfl,_⟩:=l; rfl
noncomputable def bc1:D→Bool | .dT _ _=>true | .dK _ _=>true | _=>false
theorem Cn.dic {G:Hp} {d:D} {v:V} (h:Cn cm G H d v) (e:bc1 d=true):∃ a,v= .ref a∧IsD H a:=by
 cases d with
 | dT ks vs=>obtain ⟨a,kvs,r,h1,_⟩:=h; exact ⟨a,r,.inr ⟨kvs,.inl h1⟩⟩
 | dK ks vs=>obtain ⟨a,kvs,r,h1,_⟩:=h; exact ⟨a,r,.inl ⟨kvs,.inl h1⟩⟩
 | _=>cases e
noncomputable def bc8 (md mk mx:Env→Res D):Env→Res D:=fun ρ=>(md ρ).bind fun d=>if bc1 d=true then (mk ρ).bind fun k=>(mx ρ).bind fun x=>aq1 d k x else .bad
theorem aJ8 {k:Kd} {td tk tx:TE} {md mk mx:Env→Res D} (hd:PJ cm (KC cm k) E ms td md) (hk:PJ cm (KR cm .X) E ms tk mk) (hx:PJ cm (KR cm k) E ms tx mx):PJ cm (KR cm k) E ms (bo0 td tk tx) (bc8 md mk mx):=by
 intro B U As σ H ρ Q R P
 refine hd.bnd R P fun x v B1 U1 H1 N1 _ R1 e1 n1 d1 P1=>?_
 by_cases z:bc1 x=true
 · rw [if_pos z] at P1
   obtain ⟨a,ea,hI⟩:=Cn.dic d1 z
   refine ⟨a,ea,hI,hk.bnd R1 P1 fun y u B2 U2 H2 N2 _ R2 e2 n2 d2 P2=>hx.bnd R2 P2 fun w ww B3 U3 H3 N3 _ R3 e3 n3 d3 P3=>?_⟩
   unfold aq1 at P3
   have c:=Cn.mono (an0 (e2.trans e3)) (e2.trans e3).h d1
   cases q:aB2 x y with
   | none=>rw [q] at P3; exact P3.elim
   | some o =>
     rw [q] at P3
     obtain ⟨a',r,ea',_,g,l⟩:=aB1 c (Dn.mono e3.h d2) q
     rw [ea] at ea'
     cases ea'
     cases o with
     | none =>
       refine ⟨r,g,?_⟩
       rw [show r=none from l]
       exact P3 ww B3 U3 H3 [] R3 (Gw.refl _ _ _) New.nil d3
     | some d =>
       obtain ⟨w',rfl,dw⟩:=l
       exact ⟨_,g,P3 w' B3 U3 H3 [] R3 (Gw.refl _ _ _) New.nil dw⟩
 · rw [if_neg z] at P1
   exact P1.elim
noncomputable def bE0 (md mk:Env→Res D):Env→Res D:=fun ρ=>(md ρ).bind fun d=>if bc1 d=true then (mk ρ).bind fun k=>aq1 d k .non else .bad
theorem bA2 {k:Kd} {td tk:TE} {md mk:Env→Res D} (hd:PJ cm (KC cm k) E ms td md) (hk:PJ cm (KR cm .X) E ms tk mk):PJ cm (KR cm k) E ms (bo1 td tk) (bE0 md mk):=by
 intro B U As σ H ρ Q R P
 refine hd.bnd R P fun x v B1 U1 H1 N1 _ R1 e1 n1 d1 P1=>?_
 by_cases z:bc1 x=true
 · rw [if_pos z] at P1
   obtain ⟨a,ea,hI⟩:=Cn.dic d1 z
   refine ⟨a,ea,hI,hk.bnd R1 P1 fun y u B2 U2 H2 N2 _ R2 e2 n2 d2 P3=>?_⟩
   unfold aq1 at P3
   have c:=Cn.mono (an0 e2) e2.h d1
   cases q:aB2 x y with
   | none=>rw [q] at P3; exact P3.elim
   | some o =>
     rw [q] at P3
     obtain ⟨a',r,ea',_,g,l⟩:=aB1 c d2 q
     rw [ea] at ea'
     cases ea'
     cases o with
     | none =>
       refine ⟨r,g,?_⟩
       rw [show r=none from l]
       exact P3 .non B2 U2 H2 [] R2 (Gw.refl _ _ _) New.nil (show Dn cm _ .non .non by rw [Dn])
     | some d =>
       obtain ⟨w',rfl,dw⟩:=l
       exact ⟨_,g,P3 w' B2 U2 H2 [] R2 (Gw.refl _ _ _) New.nil dw⟩
 · rw [if_neg z] at P1
   exact P1.elim
end
section
variable {cm:Cm} {E:XK} {ms:List Md} {K:PySem.W.Frag} {B U H:Hp} {As:Nat→List Addr} {σ:St} {ρ:Env}
theorem aQ4 {G:Hp}:∀ {fs:List (Str×V)} {ds:List D} {f:Str} {d:D},Dns cm G ds (fs.map (·.2))→ah2 (fs.map (·.1)) ds f=some d→∃ v,fs.lookup f=some v∧Dn cm G d v
 | [],ds,f,d,h,e=>by cases ds <;> cases e
 | p :: fs,ds,f,d,h,e=>by
   cases ds with
   | nil=>cases e
   | cons d0 ds =>
     rw [List.map_cons,Dns] at h
     obtain ⟨x,r,e0,h1,h2⟩:=h
     cases e0
     rw [List.map_cons] at e
     unfold ah2 at e
     by_cases q:p.1=f
     · rw [if_pos q] at e
       cases e
       exact ⟨p.2,by rw [List.lookup_cons,← q,beq_self_eq_true],h1⟩
     · rw [if_neg q] at e
       obtain ⟨v,hv,dv⟩:=aQ4 h2 e
       have:(f == p.1)=false:=beq_eq_false_iff_ne.mpr fun z=>q z.symm
       exact ⟨v,by rw [List.lookup_cons,this]; exact hv,dv⟩
theorem bE2 {c:Nat} {f:Str} {x d:D} (h:fldD c f x= .ok d):∃ ns vs,x= .obj c ns vs∧ah2 ns vs f=some d:=by
 cases x with
 | obj c' ns vs =>
   unfold fldD at h; dsimp only at h
   by_cases e:c'=c
   · rw [if_pos e] at h
     subst e
     cases q:ah2 ns vs f with
     | none=>rw [q] at h; cases h
     | some y=>rw [q] at h; cases h; exact ⟨ns,vs,rfl,q⟩
   · rw [if_neg e] at h
     cases h
 | _=>cases h
theorem bm3 {c:Nat} {f:Str} {x:D} {e:Nat} (h:fldD c f x= .exc e):False:=by
 cases x with
 | obj c' ns vs =>
   have h:(if c'=c then (match ah2 ns vs f with | some x=>Res.ok x | none=> .bad) else .bad)= .exc e:=h
   by_cases e:c'=c
   · rw [if_pos e] at h
     cases q:ah2 ns vs f <;> (rw [q] at h; cases h)
   · rw [if_neg e] at h
     cases h
 | _=>cases h
theorem aZ6 {k:Kd} {c:Nat} {f:Str} {ta:TE} {ma:Env→Res D} (hc:Cls K (cm c)) (hn:NoAttr K (cm c) f) (ha:PJ cm (KC cm k) E ms ta ma):PJ cm (KR cm k) E ms (tFld K ta f) (un (fldD c f) ma):=by
 intro B U As σ H ρ Q R P
 refine ha.bnd R P fun x v B1 U1 H1 N1 _ R1 e1 n1 d1 P1=>?_
 cases e:fldD c f x with
 | ok d =>
   rw [e] at P1
   obtain ⟨ns,vs,rfl,l⟩:=bE2 e
   obtain ⟨a,dx,fs,r,h1,h2,h3⟩:=d1
   subst h2
   obtain ⟨w,hw,dw⟩:=aQ4 h3 l
   exact ⟨a,_,dx,fs,w,r,h1,hc,hn,hw,P1 w B1 U1 H1 [] R1 (Gw.refl _ _ _) New.nil dw⟩
 | exc c'=>exact (bm3 e).elim
 | bad=>rw [e] at P1; exact P1.elim
noncomputable def ItIs (J:It) (H:Hp) (vs:List V):Prop:=∀ H2,Same H H2→(∀ i,vs.length≤i→J.stop i H2)∧(∀ i,i < vs.length→J.go i H2)∧∀ i x H',i < vs.length→J.yld i H2 x H'→H'=H2∧vs[i]?=some x
noncomputable def KI (cm:Cm) (k g:Kd):KT (List D) It:=fun ds J B U H _=>∃ vs,ItIs J (hp g B U H) vs∧Dns cm (hp k B U H) ds vs
theorem aF3 {a:Addr} {xs:List V} (h:H a=some (.lst xs)∨SqF K H a xs):ItIs (Itl K a) H xs:=fun H2 s=>by
 have q:SqL K H2 a xs:=by
  rcases h with h | h
  · exact .inl (.inl (s _ _ h))
  · exact (h.mono s).sq
 exact ⟨fun i hi=>⟨xs,q,hi⟩,fun i hi=>⟨xs,xs[i],q,List.getElem?_eq_getElem hi⟩,fun i x H' hi y=>⟨y.1,y.2 xs q⟩⟩
theorem aQ7 (lo:Int) (n:Nat):ItIs (Itr lo n) H ((List.range n).map fun i:Nat=>V.int (lo + i)):=fun H2 s=>by
 have hl:((List.range n).map fun i:Nat=>V.int (lo + i)).length=n:=by rw [List.length_map,List.length_range]
 refine ⟨fun i hi=>by rw [hl] at hi; exact hi,fun i hi=>by rw [hl] at hi; exact hi,fun i x H' hi y=>⟨y.1,?_⟩⟩
 rw [hl] at hi
 rw [List.getElem?_map,List.getElem?_range hi,y.2]
 rfl
theorem aL4 {G:Hp} (lo:Int):∀ n:Nat,Dns cm G ((List.range n).map fun i:Nat=>D.int (lo + i)) ((List.range n).map fun i:Nat=>V.int (lo + i))
 | 0=>by rw [List.range_zero,List.map_nil,List.map_nil,Dns]
 | n + 1=>by
   rw [List.range_succ,List.map_append,List.map_append]
   exact (aL4 lo n).append (Dns.one (by rw [Dn]))
theorem bP4 {k:Kd} {ta:TE} {ma:Env→Res D} (ha:PJ cm (KC cm k) E ms ta ma):PJ cm (KI cm k .X) E ms (bD8 cm.K ta) (srcL ma):=by
 intro B U As σ H ρ Q R P
 refine ha.bnd R P fun x v B1 U1 H1 N1 _ R1 e1 n1 d1 P1=>?_
 cases x with
 | lst ds =>
   obtain ⟨a,xs,r,h1,h2⟩:=d1
   exact ⟨a,r,⟨xs,SqL.of h1⟩,P1 _ B1 U1 H1 [] R1 (Gw.refl _ _ _) New.nil ⟨xs,aF3 (.inl h1),h2⟩⟩
 | scr ds =>
   obtain ⟨a,xs,r,h1,h2⟩:=d1
   exact ⟨a,r,⟨xs,h1.sq⟩,P1 _ B1 U1 H1 [] R1 (Gw.refl _ _ _) New.nil ⟨xs,aF3 (.inr h1),h2⟩⟩
 | _=>exact P1.elim
theorem i_r2 {g:Kd} {ta tb:TE} {ma mb:Env→Res D} (ha:PJ cm (KR cm .X) E ms ta ma) (hb:PJ cm (KR cm .X) E ms tb mb):PJ cm (KI cm .F g) E ms (bP5 (af3 ta (af3 tb tNil))) (srcR ma mb):=by
 intro B U As σ H ρ Q R P
 refine ha.bnd R P fun x v B1 U1 H1 N1 _ R1 e1 n1 d1 P1=>hb.bnd R1 P1 fun y u B2 U2 H2 N2 _ R2 e2 n2 d2 P2=>?_
 have d1:Dn cm H1 x v:=d1
 have d2:Dn cm H2 y u:=d2
 cases x with
 | int i =>
   cases y with
   | int j =>
     rw [Dn] at d1; rw [Dn] at d2
     subst d1 d2
     have P2:Po cm (KI cm .F g) E ms B2 U2 As σ H2 ρ (if -(2 ^ 62)≤i∧i < 2 ^ 62∧-(2 ^ 62)≤j∧j < 2 ^ 62 then .ok (rng i j) else .bad) Q:=P2
     by_cases z:-(2 ^ 62)≤i∧i < 2 ^ 62∧-(2 ^ 62)≤j∧j < 2 ^ 62
     · rw [if_pos z] at P2
       exact ⟨i,j,rfl,z,P2 _ B2 U2 H2 [] R2 (Gw.refl _ _ _) New.nil ⟨_,aQ7 i _,aL4 i _⟩⟩
     · rw [if_neg z] at P2
       exact P2.elim
   | _=>exact P2.elim
 | _=>cases y <;> exact P2.elim
theorem i_r1 {g:Kd} {tb:TE} {mb:Env→Res D} (hb:PJ cm (KR cm .X) E ms tb mb):PJ cm (KI cm .F g) E ms (bP6 (af3 tb tNil)) (bi6 mb):=by
 intro B U As σ H ρ Q R P
 have P:Po cm (KI cm .F g) E ms B U As σ H ρ ((mb ρ).bind fun y=>match D.int 0,y with
  | .int i,.int j=>if -(2 ^ 62)≤i∧i < 2 ^ 62∧-(2 ^ 62)≤j∧j < 2 ^ 62 then .ok (rng i j) else .bad
  | _,_=> .bad) Q:=P
 refine hb.bnd R P fun y u B2 U2 H2 N2 _ R2 e2 n2 d2 P2=>?_
 have d2:Dn cm H2 y u:=d2
 cases y with
 | int j =>
   rw [Dn] at d2
   subst d2
   have P2:Po cm (KI cm .F g) E ms B2 U2 As σ H2 ρ (if -(2 ^ 62)≤(0:Int)∧(0:Int) < 2 ^ 62∧-(2 ^ 62)≤j∧j < 2 ^ 62 then .ok (rng 0 j) else .bad) Q:=P2
   by_cases z:-(2 ^ 62)≤(0:Int)∧(0:Int) < 2 ^ 62∧-(2 ^ 62)≤j∧j < 2 ^ 62
   · rw [if_pos z] at P2
     refine ⟨j,rfl,z.2.2.1,z.2.2.2,P2 _ B2 U2 H2 [] R2 (Gw.refl _ _ _) New.nil ?_⟩
     have e:(j - 0).toNat=j.toNat:=by rw [Int.sub_zero]
     unfold rng
     rw [e]
     exact ⟨_,aQ7 0 _,aL4 0 _⟩
   · rw [if_neg z] at P2
     exact P2.elim
 | _=>exact P2.elim
theorem aY2 {α:Type} {l:List (Option α)} {x:Option α} {i:Nat}:rg (x :: l) (i + 1)=rg l i:=by unfold rg; rw [List.getElem?_cons_succ]
theorem aY1 {α:Type} {l:List (Option α)} {x:Option α}:rg (x :: l) 0=x:=by unfold rg; rw [List.getElem?_cons_zero]; rfl
theorem bo4 {α:Type} {l:List (Option α)} {ix:List Nat} {j:Nat}:rg (ix.map fun i=>rg l i) j=match ix[j]? with | some i=>rg l i | none=>none:=by
 unfold rg
 rw [List.getElem?_map]
 cases ix[j]? <;> rfl
theorem aQ1:∀ {l:List Nat} {i j:Nat},l.Nodup→(h1:i < l.length)→(h2:j < l.length)→l[i]=l[j]→i=j
 | [],_,_,_,h1,_,_=>by simp at h1
 | x :: l,0,0,_,_,_,_=>rfl
 | x :: l,0,j + 1,nd,h1,h2,e=>by
   have h3:j < l.length:=by simpa using h2
   exact absurd (show x∈l from by rw [show x=l[j] from e]; exact List.getElem_mem h3) (List.nodup_cons.mp nd).1
 | x :: l,i + 1,0,nd,h1,h2,e=>by
   have h3:i < l.length:=by simpa using h1
   exact absurd (show x∈l from by rw [show x=l[i] from e.symm]; exact List.getElem_mem h3) (List.nodup_cons.mp nd).1
 | x :: l,i + 1,j + 1,nd,h1,h2,e=>by
   rw [aQ1 (List.nodup_cons.mp nd).2 (by simpa using h1) (by simpa using h2) e]
noncomputable def asIn (As:Nat→List Addr) (ix:List Nat):Nat→List Addr
 | 0=>[]
 | j + 1=>match ix[j]? with | some i=>As i | none=>[]
noncomputable def msIn (m:Md) (ms:List Md) (ix:List Nat):List Md:=m :: ix.map fun i=>ms.getD i .F
theorem Rel.inner (R:Rel cm ms B U As σ H ρ) {ix:List Nat} (hix:ix.Nodup) {m:Md} {d:D} {v:V} (hd:Lo cm B U H m (some d) (some v) []) :
 Rel cm (msIn m ms ix) B U (asIn As ix) (some v :: capV σ ix) H (some d :: capD ρ ix) where
 bu:=R.bu
 uh:=R.uh
 nd:=fun i=>by
  cases i with
  | zero=>exact List.nodup_nil
  | succ j =>
    show (match ix[j]? with | some i=>As i | none=>[]).Nodup
    cases ix[j]? with
    | none=>exact List.nodup_nil
    | some i=>exact R.nd i
 dj:=fun i j a hne ha hb=>by
  cases i with
  | zero=>cases ha
  | succ i =>
    cases j with
    | zero=>cases hb
    | succ j =>
      have ha:a∈(match ix[i]? with | some i=>As i | none=>[]):=ha
      have hb:a∈(match ix[j]? with | some i=>As i | none=>[]):=hb
      cases ei:ix[i]? with
      | none=>rw [ei] at ha; cases ha
      | some x =>
        cases ej:ix[j]? with
        | none=>rw [ej] at hb; cases hb
        | some y =>
          rw [ei] at ha
          rw [ej] at hb
          by_cases e:x=y
          · subst e
            obtain ⟨h1,e1⟩:=List.getElem?_eq_some_iff.mp ei
            obtain ⟨h2,e2⟩:=List.getElem?_eq_some_iff.mp ej
            have:=aQ1 hix h1 h2 (e1.trans e2.symm)
            exact hne (by rw [this])
          · exact R.dj x y a e ha hb
 tb:=R.tb
 un:=fun i a ha=>by
  cases i with
  | zero=>cases ha
  | succ i =>
    have ha:a∈(match ix[i]? with | some i=>As i | none=>[]):=ha
    cases ei:ix[i]? with
    | none=>rw [ei] at ha; cases ha
    | some x=>rw [ei] at ha; exact R.un x a ha
 lo:=fun i=>by
  cases i with
  | zero =>
    rw [aY1,aY1]
    exact hd
  | succ j =>
    rw [aY2,aY2]
    unfold capV capD
    have e1:rg (ix.map fun j=>rg ρ j) j=match ix[j]? with | some i=>rg ρ i | none=>none:=bo4
    have e2:rg (ix.map fun j=>(σ[j]?).join) j=match ix[j]? with | some i=>rg σ i | none=>none:=bo4
    rw [e1,e2]
    show Lo cm B U H ((m :: ix.map fun i=>ms.getD i .F).getD (j + 1) .F) _ _ (match ix[j]? with | some i=>As i | none=>[])
    rw [List.getD_cons_succ,List.getD_eq_getElem?_getD,List.getElem?_map]
    cases ix[j]? with
    | none=>exact rfl
    | some i=>exact R.lo i
 len:=by
  rw [List.length_cons,List.length_cons,capV,capD,List.length_map,List.length_map]
theorem Rel.poke (R:Rel cm ms B U As σ H ρ) {p:Addr} {o:HO} (hu:U p=none) (ha:∀ i,p∉As i):Rel cm ms B U As σ (upd H p o) ρ :=
 ⟨R.bu,fun a u q=>by rw [ab2 (ab4 q hu)]; exact R.uh a u q,R.nd,R.dj,R.un,fun i=>(R.lo i).mono (Same.refl _) (Same.refl _) fun a h=>ab2 (fun z:a=p=>ha i (z ▸ h)),R.len,R.tb⟩
theorem aF9 {α:Type} {l:List α} {i:Nat} {x:α} (h:l[i]?=some x):l.drop i=x :: l.drop (i + 1):=by
 obtain ⟨h1,h2⟩:=List.getElem?_eq_some_iff.mp h
 rw [List.drop_eq_getElem_cons h1,h2]
theorem bE7 {k k':Kd} {m0:Md} {K':KT D V} {wi:TI} {ix:List Nat} {ti:TT} {te:TE} {src:Env→Res (List D)} {mi:Env→Res Bool} {me:Env→Res D}
 (hs:PJ cm (KI cm k .X) E ms wi src) (hix:ix.Nodup) (h0:∀ B U H d v,Same B U→Same U H→Dn cm (hp k B U H) d v→Lo cm B U H m0 (some d) (some v) [])
 (hti:PJ cm KB E0 (msIn m0 ms ix) ti mi) (hte:PJ cm (KR cm k') E0 (msIn m0 ms ix) te me)
 (fin:∀ B U As σ H ρ B1 U1 H1 Q zs ys p,Rel cm ms B1 U1 As σ H1 ρ→Gw B U H B1 U1 H1→H p=none→U1 p=none→(∀ i,p∉As i)→H1 p=some (.lst ys)→Dns cm (hp k' B1 U1 H1) zs ys→Po cm K' E ms B U As σ H ρ (.ok (.lst zs)) Q→Q (.ref p) H1)
 (hk':k'= .F∨k'= .U):PJ cm K' E ms (bi4 wi ix ti te) (comp src ix mi me):=by
 intro B U As σ H ρ Q R P
 refine hs.bnd R P fun ds J B1 U1 H1 N1 _ R1 e1 n1 ⟨vs,hJ,hd⟩ P1 p hp=>?_
 by_cases z:ds.length < ab1
 · rw [if_pos z] at P1
   have hvl:ds.length=vs.length:=hd.len
   have hpA:∀ i,p∉As i:=fun i=>R1.fresh hp i
   have grow':∀ {B2 U2 H2 B3 U3 H3:Hp},Gw B2 U2 H2 B3 U3 H3→Same (Mi.hp k' B2 U2 (fun _=>none)) (Mi.hp k' B3 U3 (fun _=>none)):=fun g=>by
    rcases hk' with e | e <;> subst e
    · exact g.b
    · exact g.u
   have hpe:∀ {B2 U2 H2:Hp},Mi.hp k' B2 U2 H2=Mi.hp k' B2 U2 (fun _=>none):=fun {B2 U2 H2}=>by rcases hk' with e | e <;> subst e <;> rfl
   refine ⟨fun i m ys H2=>i≤ds.length∧m=ds.length - i∧H2 p=some (.lst ys)∧ys.length≤i∧∃ B2 U2 zs,Rel cm ms B2 U2 As σ H2 ρ∧Gw B1 U1 H1 B2 U2 H2∧U2 p=none∧Dns cm (Mi.hp k' B2 U2 (fun _=>none)) zs ys ∧
    Po cm K' E ms B1 U1 As σ H1 ρ ((ag9 mi me (capD ρ ix) (ds.drop i)).bind fun r=> .ok (.lst (zs ++ r))) Q,⟨ds.length,Nat.zero_le _,rfl,ab5,Nat.le_refl _,B1,U1,[],R1.new hp,Gw.newO R1 hp,R1.uh.free hp,by rw [Dns],P1⟩,?_⟩
   rintro i m ys H2 ⟨hi,rfl,hy,hle,B2,U2,zs,R2,g2,u2,dz,P2⟩
   have hpe2:=hJ H2 g2.h
   refine ⟨hy,Nat.lt_of_le_of_lt hle (ak0 (Nat.le_of_lt (Nat.lt_of_le_of_lt hi z))),?_⟩
   by_cases hlt:i < ds.length
   · refine .inr ⟨hpe2.2.1 i (by omega),fun v H3 hyl=>?_⟩
     obtain ⟨rfl,ev⟩:=hpe2.2.2 i v H3 (by omega) hyl
     obtain ⟨d,ed,dd⟩:=hd.geti ev
     rw [aF9 ed,ag9] at P2
     have RI:=R2.inner hix (h0 B2 U2 H3 d v R2.bu R2.uh (Dn.mono (an0 g2) dd))
     refine hti B2 U2 _ _ H3 _ _ RI ?_
     cases eb:mi (some d :: capD ρ ix) with
     | ok c =>
       rw [eb] at P2
       intro b B3 U3 H4 N3 R3' g3 n3 hb
       cases hb
       have up3:U3 p=none:=by
        cases q:U3 p with
        | none=>rfl
        | some o =>
          rcases g3.fr p o q with z | z | ⟨xs,z⟩
          · rw [u2] at z; cases z
          · rw [hy] at z; cases z
          · subst z; have:=R3'.uh p _ q; rw [g3.h _ _ hy] at this; cases this
       have R3:Rel cm ms B3 U3 As σ H4 ρ:=R2.grow g3.b g3.u g3.h R3'.bu R3'.uh fun j a ha=>by
        cases q:U3 a with
        | none=>rfl
        | some o =>
          rcases g3.fr a o q with z | z | z
          · rw [R2.un j a ha] at z; cases z
          · obtain ⟨o',q'⟩:=R2.at ha
            rw [z] at q'; cases q'
          · obtain ⟨o',q'⟩:=R2.at ha
            have e1:=g3.h _ _ q'
            rw [R3'.uh a _ q] at e1; cases e1; exact (R2.nt ha q' z).elim
       cases c with
       | false =>
         rw [if_neg Bool.false_ne_true]
         exact ⟨ds.length - (i + 1),by omega,hlt,rfl,g3.h _ _ hy,by omega,B3,U3,zs,R3,g2.trans g3,up3,dz.mono (grow' g3),P2⟩
       | true =>
         rw [if_pos rfl]
         refine hte B3 U3 _ _ H4 _ _ R3' ?_
         cases ee:me (some d :: capD ρ ix) with
         | ok x =>
           have P3:Po cm K' E ms B1 U1 As σ H1 ρ (((me (some d :: capD ρ ix)).calm.bind fun x=>(ag9 mi me (capD ρ ix) (ds.drop (i + 1))).bind fun xs=> .ok (x :: xs)).bind fun r=> .ok (.lst (zs ++ r))) Q:=P2
           rw [ee] at P3
           intro y B4 U4 H5 N4 R4' g4 n4 hx
           have y5:H5 p=some (.lst ys):=g4.h _ _ (g3.h _ _ hy)
           have up4:U4 p=none:=by
            cases q:U4 p with
            | none=>rfl
            | some o =>
              rcases g4.fr p o q with z | z | ⟨xs,z⟩
              · rw [up3] at z; cases z
              · rw [g3.h _ _ hy] at z; cases z
              · subst z; have:=R4'.uh p _ q; rw [y5] at this; cases this
           have R4:Rel cm ms B4 U4 As σ H5 ρ:=R3.grow g4.b g4.u g4.h R4'.bu R4'.uh fun j a ha=>by
            cases q:U4 a with
            | none=>rfl
            | some o =>
              rcases g4.fr a o q with z | z | z
              · rw [R3.un j a ha] at z; cases z
              · obtain ⟨o',q'⟩:=R3.at ha
                rw [z] at q'; cases q'
              · obtain ⟨o',q'⟩:=R3.at ha
                have e1:=g4.h _ _ q'
                rw [R4'.uh a _ q] at e1; cases e1; exact (R3.nt ha q' z).elim
           have g5:Gw B1 U1 H1 B4 U4 (upd H5 p (.lst (ys ++ [y]))):=by
            have g:=(g2.trans g3).trans g4
            exact ⟨g.toEx,fun a o q=>by rw [ab2 (ab4 q hp)]; exact g.h a o q,g.fr⟩
           refine ⟨y5,ds.length - (i + 1),by omega,hlt,rfl,ab5,by rw [List.length_append,List.length_singleton]; omega,B4,U4,zs ++ [x],R4.poke up4 hpA,g5,up4,(dz.mono (grow' (g3.trans g4))).append (Dns.one ?_),?_⟩
           · have hx:Dn cm (Mi.hp k' B4 U4 H5) x y:=hx
             rw [hpe] at hx
             exact hx
           · cases eg:ag9 mi me (capD ρ ix) (ds.drop (i + 1)) with
             | ok r =>
               rw [eg] at P3
               show Po cm K' E ms B1 U1 As σ H1 ρ (.ok (.lst (zs ++ [x] ++ r))) Q
               rw [List.append_assoc]
               exact P3
             | exc c=>rw [eg] at P3; exact P3
             | bad=>rw [eg] at P3; exact P3
         | exc c =>
           have P3:Po cm K' E ms B1 U1 As σ H1 ρ (((me (some d :: capD ρ ix)).calm.bind fun x=>(ag9 mi me (capD ρ ix) (ds.drop (i + 1))).bind fun xs=> .ok (x :: xs)).bind fun r=> .ok (.lst (zs ++ r))) Q:=P2
           rw [ee] at P3
           exact P3.elim
         | bad =>
           have P3:Po cm K' E ms B1 U1 As σ H1 ρ (((me (some d :: capD ρ ix)).calm.bind fun x=>(ag9 mi me (capD ρ ix) (ds.drop (i + 1))).bind fun xs=> .ok (x :: xs)).bind fun r=> .ok (.lst (zs ++ r))) Q:=P2
           rw [ee] at P3
           exact P3.elim
     | exc c=>rw [eb] at P2; exact P2.elim
     | bad=>rw [eb] at P2; exact P2.elim
   · have e:i=ds.length:=by omega
     subst e
     rw [List.drop_length,ag9] at P2
     refine .inl ⟨hpe2.1 _ (by omega),?_⟩
     have P3:Po cm K' E ms B1 U1 As σ H1 ρ (.ok (.lst (zs ++ []))) Q:=P2
     rw [List.append_nil] at P3
     exact fin B1 U1 As σ H1 ρ B2 U2 H2 Q zs ys p R2 g2 hp u2 hpA hy (by rw [hpe]; exact dz) P3
 · rw [if_neg z] at P1
   exact P1.elim
theorem inF {B U H:Hp} {d:D} {v:V} (_:Same B U) (_:Same U H) (h:Dn cm (hp .F B U H) d v):Lo cm B U H .F (some d) (some v) []:=⟨v,rfl,h,rfl⟩
theorem finO {B U:Hp} {As:Nat→List Addr} {σ:St} {H:Hp} {ρ:Env} {B1 U1 H1:Hp} {Q:VK} {zs:List D} {ys:List V} {p:Addr} (R:Rel cm ms B1 U1 As σ H1 ρ) (g:Gw B U H B1 U1 H1) (hp:H p=none) (u:U1 p=none) (ha:∀ i,p∉As i) (h:H1 p=some (.lst ys))
 (d:Dns cm (Mi.hp .F B1 U1 H1) zs ys) (P:Po cm (KO cm (.ct .fz)) E ms B U As σ H ρ (.ok (.lst zs)) Q):Q (.ref p) H1 :=
 P (.ref p) B1 U1 H1 [p] R g ⟨by simp,fun a q=>by rw [List.mem_singleton.mp q]; exact hp,fun a q=>by rw [List.mem_singleton.mp q]; exact u⟩ (by
  show Ow cm B1 H1 (.lst zs) (.ct .fz) (.ref p) [p]
  rw [Ow]
  exact ⟨p,ys,[],rfl,h,rfl,Ows.of d⟩)
section
variable {wi:TI} {ix:List Nat} {ti:TT} {te:TE} {src:Env→Res (List D)} {mi:Env→Res Bool} {me:Env→Res D}
theorem bJ2:PJ cm KB E ms tYes (fun _=> .ok true):=fun B U As σ H ρ Q R P=>P _ B U H [] R (Gw.refl _ _ _) New.nil rfl
theorem aP9 (hs:PJ cm (KI cm .F .X) E ms wi src) (hix:ix.Nodup) (hti:PJ cm KB E0 (msIn .F ms ix) ti mi) (hte:PJ cm (KR cm .F) E0 (msIn .F ms ix) te me):PJ cm (KO cm (.ct .fz)) E ms (bi4 wi ix ti te) (comp src ix mi me) :=
 bE7 hs hix (fun _ _ _ _ _=>inF) hti hte (fun _ _ _ _ _ _ _ _ _ _ _ _ _=>finO) (.inl rfl)
end
end
structure NewM (N:List Addr) (U:Hp) (As:Nat→List Addr):Prop where
 nd:N.Nodup
 un:∀ a∈N,U a=none
 ap:∀ a∈N,∀ i,a∉As i
theorem NewM.nil {U:Hp} {As:Nat→List Addr}:NewM [] U As:=⟨List.nodup_nil,fun _ h=>(nomatch h),fun _ h=>(nomatch h)⟩
noncomputable def Kp (pr:Nat→Bool) (σ σ':St):Prop:=∀ j,pr j=true→rg σ' j=rg σ j
theorem Kp.refl (pr:Nat→Bool) (σ:St):Kp pr σ σ:=fun _ _=>rfl
theorem Kp.trans {pr:Nat→Bool} {σ σ1 σ2:St} (a:Kp pr σ σ1) (b:Kp pr σ1 σ2):Kp pr σ σ2:=fun j h=>(b j h).trans (a j h)
section
variable (cm:Cm)
noncomputable def Mo {α β:Type} (K:KT α β) (E:XK) (ms:List Md) (B U:Hp) (σ:St) (r:Out α) (Q:β→Hp→Prop):Prop :=
 match r with
 | .ok d ρ'=>∀ v B' U' As' H' N,Rel cm ms B' U' As' σ H' ρ'→Ex B U B' U'→NewM N U' As'→K d v B' U' H' N→Q v H'
 | .exc c ρ'=>∀ B' U' As' H',Rel cm ms B' U' As' σ H' ρ'→Ex B U B' U'→∀ oa,E (.ref (cm c)) oa H'
 | .bad=>False
noncomputable def MJ {α β:Type} (K:KT α β) (E:XK) (ms:List Md) (t:St→Hp→(β→Hp→Prop)→Prop) (m:Env→Out α):Prop :=
 ∀ B U As σ H ρ Q,Rel cm ms B U As σ H ρ→Mo cm K E ms B U σ (m ρ) Q→t σ H Q
noncomputable def So (E:XK) (Kr:KT D V) (pr:Nat→Bool) (ms:List Md) (B U:Hp) (σ:St) (r:SO) (D:Ends):Prop :=
 match r with
 | .nx ρ'=>∀ σ' B' U' As' H',Rel cm ms B' U' As' σ' H' ρ'→Ex B U B' U'→Kp pr σ σ'→D.nx σ' H'
 | .bk ρ'=>∀ σ' B' U' As' H',Rel cm ms B' U' As' σ' H' ρ'→Ex B U B' U'→Kp pr σ σ'→D.bk σ' H'
 | .ct ρ'=>∀ σ' B' U' As' H',Rel cm ms B' U' As' σ' H' ρ'→Ex B U B' U'→Kp pr σ σ'→D.ct σ' H'
 | .rt d ρ'=>∀ v σ' B' U' As' H' N,Rel cm ms B' U' As' σ' H' ρ'→Ex B U B' U'→Kp pr σ σ'→NewM N U' As'→Kr d v B' U' H' N→D.rt v H'
 | .exc c ρ'=>∀ σ' B' U' As' H',Rel cm ms B' U' As' σ' H' ρ'→Ex B U B' U'→Kp pr σ σ'→∀ oa,E (.ref (cm c)) oa H'
 | .bad=>False
noncomputable def SJ (E:XK) (Kr:KT D V) (pr:Nat→Bool) (ms:List Md) (t:TS) (m:Env→SO):Prop :=
 ∀ B U As σ H ρ D,Rel cm ms B U As σ H ρ→So cm E Kr pr ms B U σ (m ρ) D→t D σ H
end
section
variable {cm:Cm} {E:XK} {Kr:KT D V} {pr:Nat→Bool} {ms:List Md} {K:PySem.W.Frag} {B U H B1 U1 H1:Hp} {As:Nat→List Addr} {σ σ1:St} {ρ:Env}
theorem Mo.at {α β:Type} {K:KT α β} {r:Out α} {Q:β→Hp→Prop} (P:Mo cm K E ms B U σ r Q) (e:Ex B U B1 U1):Mo cm K E ms B1 U1 σ r Q:=by
 cases r with
 | ok d ρ'=>exact fun v B' U' As' H' N R' e' n' k=>P v B' U' As' H' N R' (e.trans e') n' k
 | exc c ρ'=>exact fun B' U' As' H' R' e'=>P B' U' As' H' R' (e.trans e')
 | bad=>exact P
theorem So.at {r:SO} {D:Ends} (P:So cm E Kr pr ms B U σ r D) (e:Ex B U B1 U1) (k:Kp pr σ σ1):So cm E Kr pr ms B1 U1 σ1 r D:=by
 cases r with
 | nx ρ'=>exact fun σ' B' U' As' H' R' e' k'=>P σ' B' U' As' H' R' (e.trans e') (k.trans k')
 | bk ρ'=>exact fun σ' B' U' As' H' R' e' k'=>P σ' B' U' As' H' R' (e.trans e') (k.trans k')
 | ct ρ'=>exact fun σ' B' U' As' H' R' e' k'=>P σ' B' U' As' H' R' (e.trans e') (k.trans k')
 | rt d ρ'=>exact fun v σ' B' U' As' H' N R' e' k'=>P v σ' B' U' As' H' N R' (e.trans e') (k.trans k')
 | exc c ρ'=>exact fun σ' B' U' As' H' R' e' k'=>P σ' B' U' As' H' R' (e.trans e') (k.trans k')
 | bad=>exact P
theorem upM {α β:Type} {K:KT α β} {t:St→Hp→(β→Hp→Prop)→Prop} {m:Env→Res α} (h:PJ cm K E ms t m):MJ cm K E ms t (fun ρ=>(m ρ).up ρ):=by
 intro B U As σ H ρ Q R P
 replace P:Mo cm K E ms B U σ ((m ρ).up ρ) Q:=P
 refine h B U As σ H ρ Q R ?_
 cases e:m ρ with
 | ok d =>
   rw [e] at P
   exact fun v B' U' H' N R' g n k=>P v B' U' As H' N R' g.toEx ⟨n.nd,n.un,R.apart n⟩ k
 | exc c =>
   rw [e] at P
   exact fun B' U' H' R' g=>P B' U' As H' R' g.toEx
 | bad=>rw [e] at P; exact P
theorem MJ.bnd {α β γ δ:Type} {Ka:KT α β} {Kc:KT γ δ} {ta:St→Hp→(β→Hp→Prop)→Prop} {ma:Env→Out α} (ha:MJ cm Ka E ms ta ma) (R:Rel cm ms B U As σ H ρ) {k:α→Env→Out γ} {Q:δ→Hp→Prop}
 (P:Mo cm Kc E ms B U σ ((ma ρ).bind k) Q) {body:β→Hp→Prop}
 (h:∀ x ρ' v B1 U1 As1 H1 N,Rel cm ms B1 U1 As1 σ H1 ρ'→Ex B U B1 U1→NewM N U1 As1→Ka x v B1 U1 H1 N→Mo cm Kc E ms B1 U1 σ (k x ρ') Q→body v H1):ta σ H body:=by
 refine ha B U As σ H ρ body R ?_
 cases e:ma ρ with
 | ok x ρ' =>
   rw [e] at P
   exact fun v B1 U1 As1 H1 N R1 e1 n1 k1=>h x ρ' v B1 U1 As1 H1 N R1 e1 n1 k1 (Mo.at (r:=k x ρ') P e1)
 | exc c ρ'=>rw [e] at P; exact P
 | bad=>rw [e] at P; exact P
theorem MJ.bndS {α β:Type} {Ka:KT α β} {ta:St→Hp→(β→Hp→Prop)→Prop} {ma:Env→Out α} (ha:MJ cm Ka E ms ta ma) (R:Rel cm ms B U As σ H ρ) {k:α→Env→SO} {D:Ends}
 (P:So cm E Kr pr ms B U σ (aw2 (ma ρ) k) D) {body:β→Hp→Prop}
 (h:∀ x ρ' v B1 U1 As1 H1 N,Rel cm ms B1 U1 As1 σ H1 ρ'→Ex B U B1 U1→NewM N U1 As1→Ka x v B1 U1 H1 N→So cm E Kr pr ms B1 U1 σ (k x ρ') D→body v H1):ta σ H body:=by
 refine ha B U As σ H ρ body R ?_
 cases e:ma ρ with
 | ok x ρ' =>
   rw [e] at P
   exact fun v B1 U1 As1 H1 N R1 e1 n1 k1=>h x ρ' v B1 U1 As1 H1 N R1 e1 n1 k1 (So.at (r:=k x ρ') P e1 (Kp.refl _ _))
 | exc c ρ'=>rw [e] at P; exact fun B' U' As' H' R' e'=>P σ B' U' As' H' R' e' (Kp.refl _ _)
 | bad=>rw [e] at P; exact P
theorem ag6 {α:Type} {l:List (Option α)} {i j:Nat} {x:Option α}:rg (l.set i x) j=if i=j∧i < l.length then x else rg l j:=by
 unfold rg
 rw [List.getElem?_set]
 by_cases e:i=j
 · subst e
   by_cases h:i < l.length
   · rw [if_pos rfl,if_pos h,if_pos ⟨rfl,h⟩]
     rfl
   · rw [if_pos rfl,if_neg h,if_neg fun z=>h z.2,List.getElem?_eq_none (by omega)]
 · rw [if_neg e,if_neg fun z=>e z.1]
theorem Rel.store (R:Rel cm ms B U As σ H ρ) {i:Nat} {d:D} {v:V} {N:List Addr} (n:NewM N U As) (l:Lo cm B U H (ms.getD i .F) (some d) (some v) N) :
 ∃ As',Rel cm ms B U As' (σ.set i (some v)) H (ρ.set i (some d)):=by
 by_cases hi:i < ρ.length
 · refine ⟨fun j=>if j=i then N else As j,R.bu,R.uh,fun j=>?_,fun j k a hne ha hb=>?_,fun j a ha=>?_,fun j=>?_,by rw [List.length_set,List.length_set]; exact R.len,R.tb⟩
   · show (if j=i then N else As j).Nodup
     split
     · exact n.nd
     · exact R.nd j
   · replace ha:a∈(if j=i then N else As j):=ha
     replace hb:a∈(if k=i then N else As k):=hb
     split at ha
     · split at hb
       · rename_i h1 h2
         exact hne (h1.trans h2.symm)
       · exact n.ap a ha k hb
     · split at hb
       · exact n.ap a hb j ha
       · exact R.dj j k a hne ha hb
   · replace ha:a∈(if j=i then N else As j):=ha
     split at ha
     · exact n.un a ha
     · exact R.un j a ha
   · rw [ag6,ag6]
     show Lo cm B U H (ms.getD j .F) _ _ (if j=i then N else As j)
     by_cases e:i=j
     · subst e
       rw [if_pos ⟨rfl,hi⟩,if_pos ⟨rfl,by rw [← R.len]; exact hi⟩,if_pos rfl]
       exact l
     · rw [if_neg fun z=>e z.1,if_neg fun z=>e z.1,if_neg fun z=>e z.symm]
       exact R.lo j
 · have h2:=R.len
   have e1:σ.set i (some v)=σ:=List.set_eq_of_length_le (by omega)
   have e2:ρ.set i (some d)=ρ:=List.set_eq_of_length_le (by omega)
   rw [e1,e2]
   exact ⟨As,R⟩
theorem Kp.set {i:Nat} {x:Option V} (h:pr i=false):Kp pr σ (σ.set i x):=fun j hj=>by
 rw [ag6,if_neg]
 rintro ⟨e,_⟩
 rw [e,hj] at h
 cases h
theorem bI4 {K':KT D V} {i:Nat} {te:TE} {m:Env→Out D} (h:MJ cm K' E ms te m) (hk:∀ B U H d v N,K' d v B U H N→∃ N',(N'=[]∨N'=N)∧Lo cm B U H (ms.getD i .F) (some d) (some v) N') (hp:pr i=false):SJ cm E Kr pr ms (tAsg te (aB3 i)) (setS i m):=by
 intro B U As σ H ρ D R P
 refine h.bndS R P fun x ρ' v B1 U1 As1 H1 N R1 e1 n1 k1 P1=>?_
 obtain ⟨N',hN,l⟩:=hk B1 U1 H1 x v N k1
 have n2:NewM N' U1 As1:=by
  rcases hN with e | e
  · subst e; exact NewM.nil
  · subst e; exact n1
 obtain ⟨As2,R2⟩:=R1.store n2 l
 exact P1 _ B1 U1 As2 H1 R2 (Ex.refl _ _) (Kp.set hp)
theorem ad5 {i:Nat} {te:TE} {m:Env→Out D} (h:MJ cm (KR cm .F) E ms te m) (hm:ms.getD i .F= .F) (hp:pr i=false):SJ cm E Kr pr ms (tAsg te (aB3 i)) (setS i m) :=
 bI4 h (fun B U H d v N k=>⟨[],.inl rfl,by rw [hm]; exact ⟨v,rfl,k,rfl⟩⟩) hp
theorem ax2 {i:Nat} {s:Sh} {te:TE} {m:Env→Out D} (h:MJ cm (KO cm s) E ms te m) (hm:ms.getD i .F= .O s) (hp:pr i=false):SJ cm E Kr pr ms (tAsg te (aB3 i)) (setS i m) :=
 bI4 h (fun B U H d v N k=>⟨N,.inr rfl,by rw [hm]; exact ⟨v,rfl,k⟩⟩) hp
theorem ai3:SJ cm E Kr pr ms bH5 af9:=fun B U As σ H ρ D R P=>P σ B U As H R (Ex.refl _ _) (Kp.refl _ _)
theorem ab3 {t u:TS} {m n:Env→SO} (h:SJ cm E Kr pr ms t m) (k:SJ cm E Kr pr ms u n):SJ cm E Kr pr ms (tSeq t u) (seqS m n):=by
 intro B U As σ H ρ D R P
 refine h B U As σ H ρ _ R ?_
 unfold seqS at P
 cases e:m ρ with
 | nx ρ'=>rw [e] at P; exact fun σ' B' U' As' H' R' e' kp=>k B' U' As' σ' H' ρ' D R' (So.at P e' kp)
 | bk ρ'=>rw [e] at P; exact P
 | ct ρ'=>rw [e] at P; exact P
 | rt d ρ'=>rw [e] at P; exact P
 | exc c ρ'=>rw [e] at P; exact P
 | bad=>rw [e] at P; exact P
theorem aj6 {K':KT D V} {te:TE} {m:Env→Out D} (h:MJ cm K' E ms te m):SJ cm E Kr pr ms (bH6 te) (ap3 m):=by
 intro B U As σ H ρ D R P
 refine h.bndS R P fun x ρ' v B1 U1 As1 H1 N R1 e1 n1 k1 P1=>?_
 exact P1 σ B1 U1 As1 H1 R1 (Ex.refl _ _) (Kp.refl _ _)
theorem ah5 {te:TE} {m:Env→Out D} (h:MJ cm Kr E ms te m):SJ cm E Kr pr ms (tRet te) (retS m):=by
 intro B U As σ H ρ D R P
 refine h.bndS R P fun x ρ' v B1 U1 As1 H1 N R1 e1 n1 k1 P1=>?_
 exact P1 v σ B1 U1 As1 H1 N R1 (Ex.refl _ _) (Kp.refl _ _) n1 k1
theorem s_if {c:TT} {t u:TS} {mc:Env→Out Bool} {m n:Env→SO} (hc:MJ cm KB E ms c mc) (h:SJ cm E Kr pr ms t m) (k:SJ cm E Kr pr ms u n):SJ cm E Kr pr ms (tIfS c t u) (ifS mc m n):=by
 intro B U As σ H ρ D R P
 refine hc.bndS R P fun x ρ' v B1 U1 As1 H1 N R1 e1 n1 k1 P1=>?_
 cases k1
 cases x with
 | true=>exact h B1 U1 As1 σ H1 ρ' D R1 P1
 | false=>exact k B1 U1 As1 σ H1 ρ' D R1 P1
theorem as0:SJ cm E Kr pr ms bn8 (fun _=> .bad):=fun _ _ _ _ _ _ _ _ P=>P
noncomputable def TJ (cm:Cm) (k:Kd) (pr:Nat→Bool) (ms:List Md) (g:TG) (tg:D→Env→Option Env):Prop:=∀ B U As σ H ρ d v ρ1 Q,Rel cm ms B U As σ H ρ→Dn cm (hp k B U H) d v→tg d ρ=some ρ1→(∀ σ1 As1,Rel cm ms B U As1 σ1 H ρ1→Kp pr σ σ1→Q σ1 H)→g v σ H Q
theorem tgF {i:Nat} (hm:ms.getD i .F= .F) (hp:pr i=false):TJ cm .F pr ms (aB3 i) (tgN i):=by
 intro B U As σ H ρ d v ρ1 Q R hd e h
 cases e
 obtain ⟨As2,R2⟩:=R.store (i:=i) (d:=d) (v:=v) NewM.nil (by rw [hm]; exact ⟨v,rfl,hd,rfl⟩)
 exact h _ As2 R2 (Kp.set hp)
theorem by7 {k:Kd} {wi:TI} {g:TG} {tb:TS} {src:Env→Out (List D)} {tg:D→Env→Option Env} {body:Env→SO} (hs:MJ cm (KI cm k .U) E ms wi src) (hk:k= .F∨k= .U) (hg:TJ cm k pr ms g tg) (hb:SJ cm E Kr pr ms tb body) :
 SJ cm E Kr pr ms (tFor wi g tb) (aT2 src tg body):=by
 intro B U As σ H ρ D R P
 refine hs.bndS R P fun ds ρ0 J B1 U1 As1 H1 N R1 e1 n1 ⟨vs,hJ,hd⟩ P1=>?_
 have hvl:ds.length=vs.length:=hd.len
 have hp1:∀ {B2 U2 H2:Hp},Ex B1 U1 B2 U2→Same (hp k B1 U1 H1) (hp k B2 U2 H2):=fun e=>by
  rcases hk with z | z <;> subst z
  · exact e.b
  · exact e.u
 refine ⟨fun i m σ' H'=>i≤ds.length∧m=ds.length - i∧∃ B2 U2 As2 ρ2,Rel cm ms B2 U2 As2 σ' H' ρ2∧Ex B1 U1 B2 U2∧Kp pr σ σ'∧So cm E Kr pr ms B1 U1 σ (forS tg body (ds.drop i) ρ2) D,⟨_,Nat.zero_le _,rfl,B1,U1,As1,ρ0,R1,Ex.refl _ _,Kp.refl _ _,P1⟩,?_⟩
 rintro i m σ' H' ⟨hi,rfl,B2,U2,As2,ρ2,R2,e2,k2,P2⟩
 have hj:=hJ H' (e2.u.trans R2.uh)
 by_cases hlt:i < ds.length
 · refine .inr ⟨hj.2.1 i (by omega),fun σ'' H''=>i + 1≤ds.length∧∃ B2 U2 As2 ρ2,Rel cm ms B2 U2 As2 σ'' H'' ρ2∧Ex B1 U1 B2 U2∧Kp pr σ σ''∧So cm E Kr pr ms B1 U1 σ (forS tg body (ds.drop (i + 1)) ρ2) D,fun σ'' H'' ⟨h1,h2⟩=>⟨ds.length - (i + 1),by omega,h1,rfl,h2⟩,fun x Hx hy=>?_⟩
   obtain ⟨rfl,ev⟩:=hj.2.2 i x Hx (by omega) hy
   obtain ⟨d,ed,dd⟩:=hd.geti ev
   rw [aF9 ed,forS] at P2
   cases et:tg d ρ2 with
   | none=>rw [et] at P2; exact P2.elim
   | some ρ3 =>
     rw [et] at P2
     refine hg B2 U2 As2 σ' Hx ρ2 d x ρ3 _ R2 (Dn.mono (hp1 e2) dd) et fun σ3 As3 R3 k3=>?_
     refine hb B2 U2 As3 σ3 Hx ρ3 _ R3 ?_
     dsimp only at P2
     cases eb:body ρ3 with
     | nx ρ4 =>
       rw [eb] at P2
       exact fun σ4 B4 U4 As4 H4 R4 e4 k4=>⟨hlt,B4,U4,As4,ρ4,R4,e2.trans e4,(k2.trans k3).trans k4,P2⟩
     | ct ρ4 =>
       rw [eb] at P2
       exact fun σ4 B4 U4 As4 H4 R4 e4 k4=>⟨hlt,B4,U4,As4,ρ4,R4,e2.trans e4,(k2.trans k3).trans k4,P2⟩
     | bk ρ4 =>
       rw [eb] at P2
       exact fun σ4 B4 U4 As4 H4 R4 e4 k4=>P2 σ4 B4 U4 As4 H4 R4 (e2.trans e4) ((k2.trans k3).trans k4)
     | rt d ρ4 =>
       rw [eb] at P2
       exact fun v σ4 B4 U4 As4 H4 N R4 e4 k4=>P2 v σ4 B4 U4 As4 H4 N R4 (e2.trans e4) ((k2.trans k3).trans k4)
     | exc c ρ4 =>
       rw [eb] at P2
       exact fun σ4 B4 U4 As4 H4 R4 e4 k4=>P2 σ4 B4 U4 As4 H4 R4 (e2.trans e4) ((k2.trans k3).trans k4)
     | bad=>rw [eb] at P2; exact P2.elim
 · have e:i=ds.length:=by omega
   subst e
   rw [List.drop_length,forS] at P2
   exact .inl ⟨hj.1 _ (by omega),P2 σ' B2 U2 As2 H' R2 e2 k2⟩
theorem by6 {c:TT} {tb:TS} {mc:Env→Out Bool} {body:Env→SO} (n:Nat) (hc:MJ cm KB E ms c mc) (hb:SJ cm E Kr pr ms tb body):SJ cm E Kr pr ms (bn7 c tb) (whS mc body n):=by
 intro B U As σ H ρ D R P
 refine ⟨fun m σ' H'=>∃ B2 U2 As2 ρ2,Rel cm ms B2 U2 As2 σ' H' ρ2∧Ex B U B2 U2∧Kp pr σ σ'∧So cm E Kr pr ms B U σ (whS mc body m ρ2) D,⟨n,B,U,As,ρ,R,Ex.refl _ _,Kp.refl _ _,P⟩,?_⟩
 rintro m σ' H' ⟨B2,U2,As2,ρ2,R2,e2,k2,P2⟩
 cases m with
 | zero=>exact P2.elim
 | succ m =>
   rw [whS] at P2
   refine hc B2 U2 As2 σ' H' ρ2 _ R2 ?_
   cases e:mc ρ2 with
   | ok x ρ3 =>
     rw [e] at P2
     intro v B3 U3 As3 H3 N R3 e3 n3 k3
     cases k3
     cases x with
     | false =>
       rw [if_neg Bool.false_ne_true]
       exact P2 σ' B3 U3 As3 H3 R3 (e2.trans e3) k2
     | true =>
       rw [if_pos rfl]
       have P2:So cm E Kr pr ms B U σ (match body ρ3 with
        | .nx ρ'=>whS mc body m ρ'
        | .ct ρ'=>whS mc body m ρ'
        | .bk ρ'=> .nx ρ'
        | o=>o) D:=P2
       refine ⟨fun σ'' H''=>∃ B4 U4 As4 ρ4,Rel cm ms B4 U4 As4 σ'' H'' ρ4∧Ex B U B4 U4∧Kp pr σ σ''∧So cm E Kr pr ms B U σ (whS mc body m ρ4) D,fun σ'' H'' h=>⟨m,Nat.lt_succ_self m,h⟩,?_⟩
       refine hb B3 U3 As3 σ' H3 ρ3 _ R3 ?_
       cases eb:body ρ3 with
       | nx ρ4 =>
         rw [eb] at P2
         exact fun σ4 B4 U4 As4 H4 R4 e4 k4=>⟨B4,U4,As4,ρ4,R4,(e2.trans e3).trans e4,k2.trans k4,P2⟩
       | ct ρ4 =>
         rw [eb] at P2
         exact fun σ4 B4 U4 As4 H4 R4 e4 k4=>⟨B4,U4,As4,ρ4,R4,(e2.trans e3).trans e4,k2.trans k4,P2⟩
       | bk ρ4 =>
         rw [eb] at P2
         exact fun σ4 B4 U4 As4 H4 R4 e4 k4=>P2 σ4 B4 U4 As4 H4 R4 ((e2.trans e3).trans e4) (k2.trans k4)
       | rt d ρ4 =>
         rw [eb] at P2
         exact fun v σ4 B4 U4 As4 H4 N R4 e4 k4=>P2 v σ4 B4 U4 As4 H4 N R4 ((e2.trans e3).trans e4) (k2.trans k4)
       | exc c ρ4 =>
         rw [eb] at P2
         exact fun σ4 B4 U4 As4 H4 R4 e4 k4=>P2 σ4 B4 U4 As4 H4 R4 ((e2.trans e3).trans e4) (k2.trans k4)
       | bad=>rw [eb] at P2; exact P2.elim
   | exc c ρ3=>rw [e] at P2; exact fun B3 U3 As3 H3 R3 e3=>P2 σ' B3 U3 As3 H3 R3 (e2.trans e3) k2
   | bad=>rw [e] at P2; exact P2.elim
end
inductive Ap where
 | F | U | X | O (i:Nat) | Bo (i:Nat)
deriving DecidableEq
noncomputable def wbGo:List Ap→Nat→Env→Env→Env
 | [],_,_,ρ=>ρ
 | .O i :: r,j,ρc,ρ=>wbGo r (j + 1) ρc (ρ.set i (rg ρc j))
 | _ :: r,j,ρc,ρ=>wbGo r (j + 1) ρc ρ
noncomputable def aU4 (plan:List Ap) (fm:List D→Out D) (ds:List D) (ρ:Env):Out D:=match fm ds with
 | .ok d ρc=> .ok d (wbGo plan 0 ρc ρ)
 | .exc c ρc=> .exc c (wbGo plan 0 ρc ρ)
 | .bad=> .bad
noncomputable def ao4 (fm:List D→Out D) (ds:List D):Res D:=match fm ds with
 | .ok d _=> .ok d
 | .exc c _=> .exc c
 | .bad=> .bad
noncomputable def an9 (ms:List Md) (ρ:Env):Env:=(List.range ms.length).map fun i=>match ms.getD i .F with | .O _=>rg ρ i | _=>none
section
variable (cm:Cm)
noncomputable def spM (ms:List Md) (Kr:KT D V) (fm:List D→Out D):Sp:=fun vs H Q E=>∃ B U As ds,Rel cm ms B U As (vs.map some) H (ds.map some)∧vs.length=ms.length∧match fm ds with
 | .ok d ρ'=>∀ v B' U' As' H' N,Rel cm ms B' U' As' (vs.map some) H' (an9 ms ρ')→Ex B U B' U'→NewM N U' As'→Kr d v B' U' H' N→Q v H'
 | .exc c ρ'=>∀ B' U' As' H',Rel cm ms B' U' As' (vs.map some) H' (an9 ms ρ')→Ex B U B' U'→∀ oa,E (.ref (cm c)) oa H'
 | .bad=>False
noncomputable def A1 (p:Ap) (B U H:Hp) (σ:St) (ρ:Env) (d:D) (v:V):Prop:=match p with
 | .F=>Dn cm B d v
 | .U=>Dn cm U d v
 | .X=>Dn cm H d v
 | .O i=>rg σ i=some v∧rg ρ i=some d
 | .Bo i=>rg σ i=some v∧rg ρ i=some d
noncomputable def Ag (B U H:Hp) (σ:St) (ρ:Env):List Ap→List D→List V→Prop
 | [],ds,vs=>ds=[]∧vs=[]
 | p :: ps,ds,vs=>∃ d dr v vr,ds=d :: dr∧vs=v :: vr∧A1 cm p B U H σ ρ d v∧Ag B U H σ ρ ps dr vr
end
section
variable {cm:Cm} {E:XK} {ms:List Md} {B U H:Hp} {As:Nat→List Addr} {σ:St} {ρ:Env}
theorem A1.mono {p:Ap} {B' U' H':Hp} {d:D} {v:V} (h:A1 cm p B U H σ ρ d v) (g:Gw B U H B' U' H'):A1 cm p B' U' H' σ ρ d v:=by
 cases p with
 | F=>exact Dn.mono g.b h
 | U=>exact Dn.mono g.u h
 | X=>exact Dn.mono g.h h
 | O i=>exact h
 | Bo i=>exact h
noncomputable def A1J (cm:Cm) (E:XK) (ms:List Md) (p:Ap) (t:TE) (m:Env→Res D):Prop:=∀ B U As σ H ρ Q,Rel cm ms B U As σ H ρ→Po cm (fun d v B U H _=>A1 cm p B U H σ ρ d v) E ms B U As σ H ρ (m ρ) Q→t σ H Q
noncomputable def AJ (cm:Cm) (E:XK) (ms:List Md) (ps:List Ap) (t:TA) (m:Env→Res (List D)):Prop:=∀ B U As σ H ρ Q,Rel cm ms B U As σ H ρ→Po cm (fun d v B U H _=>Ag cm B U H σ ρ ps d v) E ms B U As σ H ρ (m ρ) Q→t σ H Q
theorem aF {t:TE} {m:Env→Res D} (h:PJ cm (KR cm .F) E ms t m):A1J cm E ms .F t m:=fun B U As σ H ρ Q R P=>h B U As σ H ρ Q R P
theorem aU {t:TE} {m:Env→Res D} (h:PJ cm (KR cm .U) E ms t m):A1J cm E ms .U t m:=fun B U As σ H ρ Q R P=>h B U As σ H ρ Q R P
theorem aX {t:TE} {m:Env→Res D} (h:PJ cm (KR cm .X) E ms t m):A1J cm E ms .X t m:=fun B U As σ H ρ Q R P=>h B U As σ H ρ Q R P
theorem bS5 {i:Nat} {p:Ap} (hp:∀ B U H σ ρ d v,rg σ i=some v→rg ρ i=some d→A1 cm p B U H σ ρ d v):A1J cm E ms p (tVar i) (vr i):=by
 intro B U As σ H ρ Q R P
 unfold vr at P
 have l:=R.lo i
 cases e:rg ρ i with
 | none=>rw [e] at P; exact P.elim
 | some d =>
   rw [e] at P l
   obtain ⟨v,hv,q⟩:=l
   exact ⟨v,ag0 hv,P v B U H [] R (Gw.refl _ _ _) New.nil (hp _ _ _ _ _ _ _ hv e)⟩
theorem aB {i:Nat}:A1J cm E ms (.Bo i) (tVar i) (vr i):=bS5 fun _ _ _ _ _ _ _ h k=>⟨h,k⟩
theorem ae9:AJ cm E ms [] tNil esN:=fun B U As σ H ρ Q R P=>P [] B U H [] R (Gw.refl _ _ _) New.nil ⟨rfl,rfl⟩
theorem A1J.bnd {p:Ap} {γ δ:Type} {Kc:KT γ δ} {ta:TE} {ma:Env→Res D} (ha:A1J cm E ms p ta ma) (R:Rel cm ms B U As σ H ρ) {k:D→Res γ} {Q:δ→Hp→Prop}
 (P:Po cm Kc E ms B U As σ H ρ ((ma ρ).bind k) Q) {body:V→Hp→Prop}
 (h:∀ x v B1 U1 H1,Rel cm ms B1 U1 As σ H1 ρ→Gw B U H B1 U1 H1→A1 cm p B1 U1 H1 σ ρ x v→Po cm Kc E ms B1 U1 As σ H1 ρ (k x) Q→body v H1):ta σ H body:=by
 refine ha B U As σ H ρ body R ?_
 cases e:ma ρ with
 | ok x =>
   rw [e] at P
   exact fun v B1 U1 H1 N R1 e1 n1 k1=>h x v B1 U1 H1 R1 e1 k1 (Po.at (r:=k x) P e1)
 | exc c=>rw [e] at P; exact P
 | bad=>rw [e] at P; exact P
theorem AJ.bnd {ps:List Ap} {γ δ:Type} {Kc:KT γ δ} {ta:TA} {ma:Env→Res (List D)} (ha:AJ cm E ms ps ta ma) (R:Rel cm ms B U As σ H ρ) {k:List D→Res γ} {Q:δ→Hp→Prop}
 (P:Po cm Kc E ms B U As σ H ρ ((ma ρ).bind k) Q) {body:List V→Hp→Prop}
 (h:∀ x v B1 U1 H1,Rel cm ms B1 U1 As σ H1 ρ→Gw B U H B1 U1 H1→Ag cm B1 U1 H1 σ ρ ps x v→Po cm Kc E ms B1 U1 As σ H1 ρ (k x) Q→body v H1):ta σ H body:=by
 refine ha B U As σ H ρ body R ?_
 cases e:ma ρ with
 | ok x =>
   rw [e] at P
   exact fun v B1 U1 H1 N R1 e1 n1 k1=>h x v B1 U1 H1 R1 e1 k1 (Po.at (r:=k x) P e1)
 | exc c=>rw [e] at P; exact P
 | bad=>rw [e] at P; exact P
theorem aa8 {p:Ap} {ps:List Ap} {ta:TE} {tr:TA} {ma:Env→Res D} {mr:Env→Res (List D)} (ha:A1J cm E ms p ta ma) (hr:AJ cm E ms ps tr mr):AJ cm E ms (p :: ps) (af3 ta tr) (esC ma mr):=by
 intro B U As σ H ρ Q R P
 refine ha.bnd R P fun x v B1 U1 H1 R1 e1 d1 P1=>hr.bnd R1 P1 fun y u B2 U2 H2 R2 e2 d2 P2=>?_
 exact P2 (v :: u) B2 U2 H2 [] R2 (Gw.refl _ _ _) New.nil ⟨x,y,v,u,rfl,rfl,d1.mono e2,d2⟩
noncomputable def fits (ms:List Md) (pure:Bool):Ap→Md→Bool
 | .F,.F=>true
 | .F,.R=>true
 | .U,.R=>true
 | .X,.R=>pure
 | .Bo _,.R=>true
 | _,_=>false
theorem Ag.len:∀ {ps:List Ap} {ds:List D} {vs:List V},Ag cm B U H σ ρ ps ds vs→ds.length=ps.length∧vs.length=ps.length
 | [],_,_,h=>by obtain ⟨rfl,rfl⟩:=h; exact ⟨rfl,rfl⟩
 | p :: ps,_,_,h=>by
   obtain ⟨d,dr,v,vr,rfl,rfl,_,h⟩:=h
   have:=Ag.len h
   exact ⟨by rw [List.length_cons,List.length_cons,this.1],by rw [List.length_cons,List.length_cons,this.2]⟩
theorem Ag.get:∀ {ps:List Ap} {ds:List D} {vs:List V} {j:Nat} {p:Ap},Ag cm B U H σ ρ ps ds vs→ps[j]?=some p→∃ d v,ds[j]?=some d∧vs[j]?=some v∧A1 cm p B U H σ ρ d v
 | [],_,_,_,_,_,e=>by cases e
 | p :: ps,_,_,j,q,h,e=>by
   obtain ⟨d,dr,v,vr,rfl,rfl,h1,h⟩:=h
   cases j with
   | zero=>cases e; exact ⟨d,v,rfl,rfl,h1⟩
   | succ j=>exact Ag.get (j:=j) h (by simpa using e)
theorem ah0 {α:Type} {l:List α} {i:Nat}:rg (l.map some) i=l[i]?:=by
 unfold rg
 rw [List.getElem?_map]
 cases l[i]? <;> rfl
theorem Rel.read (R:Rel cm ms B U As σ H ρ) {i:Nat} {d:D} {v:V} (hv:rg σ i=some v) (hd:rg ρ i=some d):Dn cm H d v:=by
 have l:=R.lo i
 rw [hd] at l
 have q:=an8 l hv
 cases e:ms.getD i .F with
 | F=>rw [e] at q; exact Dn.mono R.bh q.1
 | R=>rw [e] at q; exact Dn.mono R.uh q.1
 | O s=>rw [e] at q; exact Ow.dn R.bh (fun _ _ _ q=>q) q
theorem A1.read (R:Rel cm ms B U As σ H ρ) {p:Ap} {d:D} {v:V} (h:A1 cm p B U H σ ρ d v):Dn cm H d v:=by
 cases p with
 | F=>exact Dn.mono R.bh h
 | U=>exact Dn.mono R.uh h
 | X=>exact h
 | O i=>exact R.read h.1 h.2
 | Bo i=>exact R.read h.1 h.2
noncomputable def ov (B U:Hp):Hp:=fun a=>match B a with | some o=>some o | none=>U a
theorem aR4 {msC:List Md} {Kr:KT D V} {fm:List D→Out D} {ps:List Ap} {ds:List D} {vs:List V} {Q:VK} (R:Rel cm ms B U As σ H ρ) (A:Ag cm B U H σ ρ ps ds vs) (hl:ps.length=msC.length)
 (hf:∀ (j:Nat) p,ps[j]?=some p→fits ms true p (msC.getD j .F)=true) (hU:∀ d v B U U' H N,Kr d v B U H N→Kr d v B U' H N) (P:Po cm Kr E ms B U As σ H ρ (ao4 fm ds) Q):spM cm msC Kr fm vs H Q E:=by
 have hlen:=A.len
 have Rc:Rel cm msC B H (fun _=>[]) (vs.map some) H (ds.map some):=by
  refine ⟨R.bh,Same.refl _,fun _=>List.nodup_nil,fun _ _ _ _ h=>(nomatch h),fun _ _ h=>(nomatch h),fun j=>?_,by rw [List.length_map,List.length_map,hlen.1,hlen.2],R.tb⟩
  rw [ah0,ah0]
  cases e:ps[j]? with
  | none =>
    have:ps.length≤j:=List.getElem?_eq_none_iff.mp e
    rw [List.getElem?_eq_none (by omega)]
    rfl
  | some p =>
    obtain ⟨d,v,ed,ev,h1⟩:=A.get e
    rw [ed,ev]
    refine ⟨v,rfl,?_⟩
    have hr:=A1.read R h1
    have q:=hf j p e
    cases em:msC.getD j .F with
    | F =>
      rw [em] at q
      cases p with
      | F=>exact ⟨h1,rfl⟩
      | _=>cases q
    | R=>exact ⟨hr,rfl⟩
    | O s=>rw [em] at q; cases p <;> cases q
 refine ⟨B,H,fun _=>[],ds,Rc,by omega,?_⟩
 have main:∀ {B' U' H':Hp} {As':Nat→List Addr} {ρc:Env},Rel cm msC B' U' As' (vs.map some) H' ρc→Ex B H B' U'→Rel cm ms B' (ov B' U) As σ H' ρ∧Gw B U H B' (ov B' U) H':=fun {B' U' H' As' ρc} R' e'=>by
  have same:∀ a o,U a=some o→∀ o',B' a=some o'→o'=o:=fun a o q o' q'=>by
   have h1:=e'.u a o (R.uh a o q)
   have h2:=R'.bu a o' q'
   rw [h1] at h2
   exact (Option.some.inj h2).symm
  have su:Same U (ov B' U):=fun a o q=>by
   unfold ov
   cases z:B' a with
   | none=>exact q
   | some o'=>rw [same a o q o' z]
  have sh:Same H H':=e'.u.trans R'.uh
  have uh:Same (ov B' U) H':=fun a o q=>by
   unfold ov at q
   cases z:B' a with
   | none=>rw [z] at q; exact sh a o (R.uh a o q)
   | some o'=>rw [z] at q; cases q; exact R'.bh a _ z
  have bu:Same B' (ov B' U):=fun a o q=>by unfold ov; rw [q]
  have new:∀ a o,B' a=some o→B a=some o∨H a=none∨aq9 o:=e'.nb
  refine ⟨R.grow e'.b su sh bu uh fun i a ha=>?_,⟨e'.b,su,fun a o q=>?_⟩,sh,fun a o q=>?_⟩
  · unfold ov
    cases z:B' a with
    | none=>exact R.un i a ha
    | some o =>
      obtain ⟨o',q'⟩:=R.at ha
      rcases new a o z with q | q | q
      · have:=R.bu a o q; rw [R.un i a ha] at this; cases this
      · rw [q] at q'; cases q'
      · have e1:=sh _ _ q'
        rw [R'.bh a o z] at e1; cases e1; exact (R.nt ha q' q).elim
  · rcases new a o q with q | q | q
    · exact .inl q
    · exact .inr (.inl (R.uh.free q))
    · exact .inr (.inr q)
  · unfold ov at q
    cases z:B' a with
    | none=>rw [z] at q; exact .inl q
    | some o' =>
      rw [z] at q
      cases q
      rcases new a _ z with q | q
      · exact .inl (R.bu a _ q)
      · exact .inr q
 cases e:fm ds with
 | ok d ρ' =>
   unfold ao4 at P
   rw [e] at P
   intro v B' U' As' H' N R' e' n' k
   obtain ⟨R2,g2⟩:=main R' e'
   refine P v B' _ H' N R2 g2 ⟨n'.nd,fun a ha=>e'.u.free (n'.un a ha),fun a ha=>?_⟩ (hU d v B' U' (ov B' U) H' N k)
   unfold ov
   have h1:=n'.un a ha
   cases z:B' a with
   | none=>exact R.uh.free (e'.u.free h1)
   | some o=>have:=R'.bu a o z; rw [h1] at this; cases this
 | exc c ρ' =>
   unfold ao4 at P
   rw [e] at P
   intro B' U' As' H' R' e'
   obtain ⟨R2,g2⟩:=main R' e'
   exact P B' _ H' R2 g2
 | bad =>
   unfold ao4 at P
   rw [e] at P
   exact P
theorem hF {d:D} {v:V} {B U U' H:Hp} {N:List Addr} (h:KR cm .F d v B U H N):KR cm .F d v B U' H N:=h
theorem hO {s:Sh} {d:D} {v:V} {B U U' H:Hp} {N:List Addr} (h:KO cm s d v B U H N):KO cm s d v B U' H N:=h
theorem bq4 {msC:List Md} {Kr:KT D V} {fm:List D→Out D} {ps:List Ap} {t:TA} {m:Env→Res (List D)} (h:AJ cm E ms ps t m) (hl:ps.length=msC.length)
 (hf:∀ (j:Nat) p,ps[j]?=some p→fits ms true p (msC.getD j .F)=true) (hU:∀ d v B U U' H N,Kr d v B U H N→Kr d v B U' H N):PJ cm Kr E ms (bi5 (spM cm msC Kr fm) [] E t) (fun ρ=>(m ρ).bind (ao4 fm)):=by
 intro B U As σ H ρ Q R P
 refine h.bnd R P fun ds vs B1 U1 H1 R1 e1 A P1=>?_
 rw [List.append_nil]
 exact aR4 R1 A hl hf hU P1
noncomputable def am0 (c:Nat) (m:Str):D→Bool
 | .obj c' ns _=>decide (c'=c) && !ns.contains m
 | _=>false
theorem at4 {m:Str}:∀ {fs:List (Str×V)},(fs.map (·.1)).contains m=false→fs.lookup m=none
 | [],_=>rfl
 | p :: fs,h=>by
   rw [List.map_cons,List.contains_cons,Bool.or_eq_false_iff] at h
   rw [List.lookup_cons,h.1]
   exact at4 h.2
theorem aE4 {c:Nat} {m:Str} {d:D} {v:V} (h:am0 c m d=true) (hd:Dn cm H d v):∃ a dx fs,v= .ref a∧H a=some (.ins (cm c) dx fs)∧fs.lookup m=none:=by
 cases d with
 | obj c' ns ds =>
   have h:(decide (c'=c) && !ns.contains m)=true:=h
   rw [Bool.and_eq_true] at h
   have e:=of_decide_eq_true h.1
   subst e
   rw [Dn] at hd
   obtain ⟨a,dx,fs,r,h1,h2,_⟩:=hd
   refine ⟨a,dx,fs,r,h1,at4 ?_⟩
   rw [h2]
   simpa using h.2
 | _=>cases h
theorem bq3 {c:Nat} {mn:Str} {msC:List Md} {Kr:KT D V} {fm:List D→Out D} {p:Ap} {ps:List Ap} {ta:TE} {ma:Env→Res D} {t:TA} {m:Env→Res (List D)} (ha:A1J cm E ms p ta ma) (h:AJ cm E ms ps t m) (hl:(p :: ps).length=msC.length)
 (hf:∀ (j:Nat) q,(p :: ps)[j]?=some q→fits ms true q (msC.getD j .F)=true) (hU:∀ d v B U U' H N,Kr d v B U H N→Kr d v B U' H N) :
 PJ cm Kr E ms (aH9 (cm c) mn (spM cm msC Kr fm) [] E ta t) (fun ρ=>(ma ρ).bind fun o=>if am0 c mn o=true then (m ρ).bind fun ds=>ao4 fm (o :: ds) else .bad):=by
 intro B U As σ H ρ Q R P
 refine ha.bnd R P fun o v B1 U1 H1 R1 e1 a1 P1=>?_
 by_cases z:am0 c mn o=true
 · rw [if_pos z] at P1
   obtain ⟨a,dx,fs,rfl,h1,h2⟩:=aE4 z (A1.read R1 a1)
   refine ⟨a,dx,fs,rfl,h1,h2,h.bnd R1 P1 fun ds vs B2 U2 H2 R2 e2 A P2=>?_⟩
   rw [List.append_nil]
   exact aR4 (ps:=p :: ps) (ds:=o :: ds) R2 ⟨o,ds,_,vs,rfl,rfl,a1.mono e2,A⟩ hl hf hU P2
 · rw [if_neg z] at P1
   exact P1.elim
end
section
variable {cm:Cm} {E:XK} {ms:List Md} {B U H:Hp} {As:Nat→List Addr} {σ:St} {ρ:Env}
noncomputable def posO:List Ap→Nat→Option Nat
 | [],_=>none
 | p :: r,i=>if p= .O i then some 0 else (posO r i).map (· + 1)
theorem aj7:∀ {ps:List Ap} {i j:Nat},posO ps i=some j→ps[j]?=some (.O i)
 | [],_,_,h=>by cases h
 | p :: r,i,j,h=>by
   unfold posO at h
   by_cases e:p= .O i
   · rw [if_pos e] at h; cases h; rw [e]; rfl
   · rw [if_neg e] at h
     obtain ⟨k,hk,rfl⟩:=Option.map_eq_some_iff.mp h
     rw [List.getElem?_cons_succ]
     exact aj7 hk
noncomputable def lent:List Ap→List Nat
 | []=>[]
 | .O i :: r=>i :: lent r
 | _ :: r=>lent r
noncomputable def borr:List Ap→List Nat
 | []=>[]
 | .Bo i :: r=>i :: borr r
 | _ :: r=>borr r
theorem an7:∀ {ps:List Ap} {i j:Nat},ps[j]?=some (.O i)→i∈lent ps
 | [],_,_,h=>by cases h
 | p :: r,i,j,h=>by
   cases j with
   | zero=>cases h; exact List.mem_cons_self
   | succ j =>
     have:=an7 (ps:=r) (j:=j) (by simpa using h)
     cases p <;> first | exact this | exact List.mem_cons_of_mem _ this
theorem aA4:∀ {ps:List Ap} {i:Nat},i∈lent ps→∃ j,posO ps i=some j
 | [],_,h=>by cases h
 | p :: r,i,h=>by
   unfold posO
   by_cases e:p= .O i
   · exact ⟨0,by rw [if_pos e]⟩
   · rw [if_neg e]
     have:i∈lent r:=by
      cases p with
      | O k =>
        rcases List.mem_cons.mp h with z | z
        · exact absurd (by rw [z]) e
        · exact z
      | _=>exact h
     obtain ⟨j,hj⟩:=aA4 this
     exact ⟨j + 1,by rw [hj]; rfl⟩
theorem aQ3:∀ {ps:List Ap} {i j:Nat},ps[j]?=some (.Bo i)→i∈borr ps
 | [],_,_,h=>by cases h
 | p :: r,i,j,h=>by
   cases j with
   | zero=>cases h; exact List.mem_cons_self
   | succ j =>
     have:=aQ3 (ps:=r) (j:=j) (by simpa using h)
     cases p <;> first | exact this | exact List.mem_cons_of_mem _ this
theorem aE6:∀ {ps:List Ap} {i j k:Nat},(lent ps).Nodup→ps[j]?=some (.O i)→ps[k]?=some (.O i)→j=k
 | [],_,_,_,_,h,_=>by cases h
 | p :: r,i,j,k,nd,h1,h2=>by
   cases j with
   | zero =>
     cases k with
     | zero=>rfl
     | succ k =>
       cases h1
       exact absurd (an7 (ps:=r) (j:=k) (by simpa using h2)) (List.nodup_cons.mp nd).1
   | succ j =>
     cases k with
     | zero =>
       cases h2
       exact absurd (an7 (ps:=r) (j:=j) (by simpa using h1)) (List.nodup_cons.mp nd).1
     | succ k =>
       have nd':(lent r).Nodup:=by
        cases p with
        | O x=>exact (List.nodup_cons.mp nd).2
        | _=>exact nd
       rw [aE6 nd' (j:=j) (k:=k) (by simpa using h1) (by simpa using h2)]
theorem ar8:∀ {ps:List Ap} {j:Nat} {ρc ρ:Env},(wbGo ps j ρc ρ).length=ρ.length
 | [],_,_,_=>rfl
 | p :: r,j,ρc,ρ=>by
   cases p with
   | O i=>rw [wbGo,ar8,List.length_set]
   | F=>rw [wbGo,ar8]; all_goals simp
   | U=>rw [wbGo,ar8]; all_goals simp
   | X=>rw [wbGo,ar8]; all_goals simp
   | Bo i=>rw [wbGo,ar8]; all_goals simp
theorem aO5:∀ {ps:List Ap} {j0:Nat} {ρc ρ:Env} {i:Nat},(lent ps).Nodup→i < ρ.length→rg (wbGo ps j0 ρc ρ) i=match posO ps i with | some j=>rg ρc (j0 + j) | none=>rg ρ i
 | [],_,_,_,_,_,_=>rfl
 | p :: r,j0,ρc,ρ,i,nd,hi=>by
   have step:∀ ρ':Env,ρ'.length=ρ.length→(lent r).Nodup→(p≠ .O i)→rg ρ' i=rg ρ i→rg (wbGo r (j0 + 1) ρc ρ') i=match posO (p :: r) i with | some j=>rg ρc (j0 + j) | none=>rg ρ i:=fun ρ' hl nd' hp e=>by
    rw [aO5 nd' (by rw [hl]; exact hi),posO,if_neg hp]
    cases posO r i with
    | none=>exact e
    | some j =>
      show rg ρc (j0 + 1 + j)=rg ρc (j0 + (j + 1))
      rw [show j0 + 1 + j=j0 + (j + 1) by omega]
   cases p with
   | O k =>
     rw [wbGo]
     by_cases e:k=i
     · subst e
       have hn:posO r k=none:=by
        cases q:posO r k with
        | none=>rfl
        | some j=>exact absurd (an7 (aj7 q)) (List.nodup_cons.mp nd).1
       rw [aO5 (List.nodup_cons.mp nd).2 (by rw [List.length_set]; exact hi),hn,posO,if_pos rfl,ag6,if_pos ⟨rfl,hi⟩]
       rfl
     · exact step _ (List.length_set ..) (List.nodup_cons.mp nd).2 (fun z=>e (by cases z; rfl)) (by rw [ag6,if_neg fun z=>e z.1])
   | F=>rw [wbGo]; exact step ρ rfl nd (fun z=>by cases z) rfl; all_goals simp
   | U=>rw [wbGo]; exact step ρ rfl nd (fun z=>by cases z) rfl; all_goals simp
   | X=>rw [wbGo]; exact step ρ rfl nd (fun z=>by cases z) rfl; all_goals simp
   | Bo k=>rw [wbGo]; exact step ρ rfl nd (fun z=>by cases z) rfl; all_goals simp
noncomputable def fit1 (ms:List Md):Ap→Md→Prop
 | .F,.F=>True
 | .F,.R=>True
 | .U,.R=>True
 | .Bo _,.R=>True
 | .O i,.O s=>ms.getD i .F= .O s
 | _,_=>False
noncomputable def fitM (ms:List Md):List Ap→List Md→Prop
 | [],[]=>True
 | p :: ps,m :: r=>fit1 ms p m∧fitM ms ps r
 | _,_=>False
theorem fitM.len:∀ {ps:List Ap} {mc:List Md},fitM ms ps mc→ps.length=mc.length
 | [],[],_=>rfl
 | [],_ :: _,h=>h.elim
 | _ :: _,[],h=>h.elim
 | p :: ps,m :: r,h=>by rw [List.length_cons,List.length_cons,fitM.len h.2]
theorem fitM.get:∀ {ps:List Ap} {mc:List Md} {j:Nat} {p:Ap},fitM ms ps mc→ps[j]?=some p→fit1 ms p (mc.getD j .F)
 | [],_,_,_,_,e=>by cases e
 | _ :: _,[],_,_,h,_=>h.elim
 | p :: ps,m :: r,j,q,h,e=>by
   cases j with
   | zero=>cases e; exact h.1
   | succ j=>rw [List.getD_cons_succ]; exact fitM.get (j:=j) h.2 (by simpa using e)
theorem at9 {mc:List Md} {ρc:Env} {j:Nat} {s:Sh} (h:mc.getD j .F= .O s):rg (an9 mc ρc) j=rg ρc j:=by
 have hj:j < mc.length:=by
  by_cases z:j < mc.length
  · exact z
  · rw [List.getD_eq_getElem?_getD,List.getElem?_eq_none (by omega)] at h; cases h
 unfold an9
 show ((((List.range mc.length).map _)[j]?).join)=_
 rw [List.getElem?_map,List.getElem?_range hj]
 show (some (match mc.getD j .F with | .O _=>rg ρc j | _=>none)).join=_
 rw [h]
 rfl
open Classical in
theorem bn4 {msC:List Md} {Kr:KT D V} {fm:List D→Out D} {ps:List Ap} {ds:List D} {vs:List V} {Q:VK} (R:Rel cm ms B U As σ H ρ) (A:Ag cm B U H σ ρ ps ds vs) (hf:fitM ms ps msC) (hd:(lent ps).Nodup)
 (hb:∀ i∈borr ps,i∉lent ps) (hU:∀ d v B U U' H N,Kr d v B U H N→Kr d v B U' H N) (P:Mo cm Kr E ms B U σ (aU4 ps fm ds ρ) Q):spM cm msC Kr fm vs H Q E:=by
 have hlen:=A.len
 have hl:=hf.len
 have lentO:∀ {i j:Nat},ps[j]?=some (.O i)→∃ d v s,ds[j]?=some d∧vs[j]?=some v∧rg σ i=some v∧rg ρ i=some d∧msC.getD j .F= .O s∧ms.getD i .F= .O s:=fun {i j} e=>by
  obtain ⟨d,v,ed,ev,h1⟩:=A.get e
  have q:=hf.get e
  cases em:msC.getD j .F with
  | O s=>rw [em] at q; exact ⟨d,v,s,ed,ev,h1.1,h1.2,rfl,q⟩
  | F=>rw [em] at q; exact q.elim
  | R=>rw [em] at q; exact q.elim
 have FPd:∃ Uc:Hp,(∀ a,(∃ j i:Nat,ps[j]?=some (.O i)∧a∈As i)→Uc a=none)∧(∀ a,(¬ ∃ j i:Nat,ps[j]?=some (.O i)∧a∈As i)→Uc a=H a) :=
  ⟨fun a=>if (∃ j i:Nat,ps[j]?=some (.O i)∧a∈As i) then none else H a,fun a h=>if_pos h,fun a h=>if_neg h⟩
 obtain ⟨Uc,uc1,uc2⟩:=FPd
 have notFP:∀ {a o},U a=some o→¬ ∃ j i:Nat,ps[j]?=some (.O i)∧a∈As i:=fun {a o} q ⟨j,i,_,ha⟩=>by
  rw [R.un i a ha] at q; cases q
 have sUc:Same U Uc:=fun a o q=>by rw [uc2 a (notFP q)]; exact R.uh a o q
 have ucH:Same Uc H:=fun a o q=>by
  by_cases z:∃ j i:Nat,ps[j]?=some (.O i)∧a∈As i
  · rw [uc1 a z] at q; cases q
  · rw [uc2 a z] at q; exact q
 -- what is owned and not lent
 have other:∀ {i a},i∉lent ps→a∈As i→∃ o,Uc a=some o∧H a=some o:=fun {i a} hi ha=>by
  obtain ⟨o,q⟩:=R.at ha
  refine ⟨o,?_,q⟩
  rw [uc2 a]
  · exact q
  · rintro ⟨j,k,ek,hk⟩
    by_cases e:k=i
    · subst e; exact hi (an7 ek)
    · exact R.dj k i a e hk ha
 have Rc:Rel cm msC B Uc (fun j=>match ps[j]? with | some (.O i)=>As i | _=>[]) (vs.map some) H (ds.map some):=by
  refine ⟨R.bu.trans sUc,ucH,fun j=>?_,fun j k a hne ha hk=>?_,fun j a ha=>?_,fun j=>?_,by rw [List.length_map,List.length_map,hlen.1,hlen.2],R.tb⟩
  · try dsimp only
    split
    · exact R.nd _
    · exact List.nodup_nil
  · try dsimp only at ha hk
    split at ha
    · rename_i i e1
      split at hk
      · rename_i i' e2
        by_cases e:i=i'
        · subst e; exact hne (aE6 hd e1 e2)
        · exact R.dj i i' a e ha hk
      · cases hk
    · cases ha
  · try dsimp only at ha
    split at ha
    · rename_i i e1
      exact uc1 a ⟨j,i,e1,ha⟩
    · cases ha
  · rw [ah0,ah0]
    cases e:ps[j]? with
    | none =>
      have:ps.length≤j:=List.getElem?_eq_none_iff.mp e
      rw [List.getElem?_eq_none (by omega)]
      rfl
    | some p =>
      obtain ⟨d,v,ed,ev,h1⟩:=A.get e
      rw [ed,ev]
      refine ⟨v,rfl,?_⟩
      have q:=hf.get e
      cases p with
      | F =>
        have h1:Dn cm B d v:=h1
        cases em:msC.getD j .F with
        | F=>exact ⟨h1,rfl⟩
        | R=>exact ⟨Dn.mono (R.bu.trans sUc) h1,rfl⟩
        | O s=>rw [em] at q; exact q.elim
      | U =>
        have h1:Dn cm U d v:=h1
        cases em:msC.getD j .F with
        | F=>rw [em] at q; exact q.elim
        | R=>exact ⟨Dn.mono sUc h1,rfl⟩
        | O s=>rw [em] at q; exact q.elim
      | X=>cases em:msC.getD j .F <;> (rw [em] at q; exact q.elim)
      | Bo i =>
        cases em:msC.getD j .F with
        | F=>rw [em] at q; exact q.elim
        | O s=>rw [em] at q; exact q.elim
        | R =>
          refine ⟨?_,rfl⟩
          have l:=R.lo i
          rw [h1.2] at l
          have w:=an8 l h1.1
          cases e2:ms.getD i .F with
          | F=>rw [e2] at w; exact Dn.mono (R.bu.trans sUc) w.1
          | R=>rw [e2] at w; exact Dn.mono sUc w.1
          | O s =>
            rw [e2] at w
            refine Ow.dn (R.bu.trans sUc) (fun a ha o q=>?_) w
            obtain ⟨o',q1,q2⟩:=other (hb i (aQ3 e)) ha
            rw [q2] at q; cases q; exact q1
      | O i =>
        obtain ⟨d',v',s,ed',ev',h2,h3,h4,h5⟩:=lentO e
        rw [h4]
        have l:=R.lo i
        rw [h1.2,h5] at l
        exact an8 l h1.1
 refine ⟨B,Uc,_,ds,Rc,by omega,?_⟩
 have main:∀ {B' U' H':Hp} {As':Nat→List Addr} {ρc:Env},Rel cm msC B' U' As' (vs.map some) H' (an9 msC ρc)→Ex B Uc B' U' →
  Rel cm ms B' (ov B' U) (fun i=>match posO ps i with | some j=>As' j | none=>As i) σ H' (wbGo ps 0 ρc ρ)∧Ex B U B' (ov B' U)∧∀ N,NewM N U' As'→NewM N (ov B' U) (fun i=>match posO ps i with | some j=>As' j | none=>As i):=fun {B' U' H' As' ρc} R' e'=>by
  have su:Same U (ov B' U):=fun a o q=>by
   unfold ov
   cases z:B' a with
   | none=>exact q
   | some o' =>
     have h1:=e'.u a o (sUc a o q)
     have h2:=R'.bu a o' z
     rw [h1] at h2; cases h2; rfl
  have uh:Same (ov B' U) H':=fun a o q=>by
   unfold ov at q
   cases z:B' a with
   | none=>rw [z] at q; exact R'.uh a o (e'.u a o (sUc a o q))
   | some o'=>rw [z] at q; cases q; exact R'.bh a _ z
  have bu:Same B' (ov B' U):=fun a o q=>by unfold ov; rw [q]
  have free:∀ {a},U' a=none→ov B' U a=none:=fun {a} h=>by
   unfold ov
   cases z:B' a with
   | none=>exact sUc.free (e'.u.free h)
   | some o=>have:=R'.bu a o z; rw [h] at this; cases this
  have there:∀ {i a},posO ps i=none→a∈As i→∃ o,U' a=some o∧H a=some o∧H' a=some o:=fun {i a} hi ha=>by
   obtain ⟨o,q1,q2⟩:=other (fun z=>by obtain ⟨j,hj⟩:=aA4 z; rw [hi] at hj; cases hj) ha
   exact ⟨o,e'.u a o q1,q2,R'.uh a o (e'.u a o q1)⟩
  refine ⟨⟨bu,uh,fun i=>?_,fun i k a hne ha hk=>?_,fun i a ha=>?_,fun i=>?_,by rw [ar8]; exact R.len,R'.tb⟩,⟨e'.b,su,fun a o q=>?_⟩,fun N n=>⟨n.nd,fun a ha=>free (n.un a ha),fun a ha i=>?_⟩⟩
  · try dsimp only
    split
    · exact R'.nd _
    · exact R.nd _
  · try dsimp only at ha hk
    split at ha
    · rename_i j ej
      split at hk
      · rename_i j' ej'
        refine R'.dj j j' a (fun z=>hne ?_) ha hk
        subst z
        have h1:=aj7 ej
        have h2:=aj7 ej'
        rw [h1] at h2; cases h2; rfl
      · rename_i ek
        obtain ⟨o,q,_⟩:=there ek hk
        rw [R'.un j a ha] at q; cases q
    · rename_i ei
      obtain ⟨o,q,_⟩:=there ei ha
      split at hk
      · rename_i j' ej'
        rw [R'.un j' a hk] at q; cases q
      · exact R.dj i k a hne ha hk
  · try dsimp only at ha
    split at ha
    · rename_i j ej
      exact free (R'.un j a ha)
    · rename_i ei
      obtain ⟨o,q,_⟩:=there ei ha
      unfold ov
      cases z:B' a with
      | none=>exact R.un i a ha
      | some o' =>
        rcases e'.nb a o' z with w | w | w
        · have:=R.bu a o' w; rw [R.un i a ha] at this; cases this
        · obtain ⟨o2,q1,q2⟩:=other (fun z=>by obtain ⟨j,hj⟩:=aA4 z; rw [ei] at hj; cases hj) ha
          rw [w] at q1; cases q1
        · obtain ⟨o2,_,q2,q3⟩:=there ei ha
          rw [R'.bh a o' z] at q3; cases q3
          exact (R.nt ha q2 w).elim
  · try dsimp only
    cases ep:posO ps i with
    | some j =>
      obtain ⟨d,v,s,ed,ev,h2,h3,h4,h5⟩:=lentO (aj7 ep)
      have hi:i < ρ.length:=by
       have:=ag0 h3
       exact (List.getElem?_eq_some_iff.mp this).1
      rw [aO5 hd hi,ep]
      try dsimp only
      have l:=R'.lo j
      rw [at9 h4,ah0,ev,h4] at l
      rw [h2,h5,Nat.zero_add]
      exact l
    | none =>
      try dsimp only
      by_cases hi:i < ρ.length
      · rw [aO5 hd hi,ep]
        refine (R.lo i).mono e'.b su fun a ha=>?_
        obtain ⟨o,_,q1,q2⟩:=there ep ha
        rw [q1,q2]
      · have h1:rg (wbGo ps 0 ρc ρ) i=none:=by
         unfold rg
         rw [List.getElem?_eq_none (by rw [ar8]; omega)]
         rfl
        have h2:rg ρ i=none:=by
         unfold rg
         rw [List.getElem?_eq_none (by omega)]
         rfl
        have l:=R.lo i
        rw [h2] at l
        rw [h1]
        exact l
  · rcases e'.nb a o q with w | w | w
    · exact .inl w
    · exact .inr (.inl (sUc.free w))
    · exact .inr (.inr w)
  · try dsimp only
    cases ep:posO ps i with
    | some j=>exact n.ap a ha j
    | none =>
      intro z
      obtain ⟨o,q,_⟩:=there ep z
      rw [n.un a ha] at q; cases q
 cases e:fm ds with
 | ok d ρ' =>
   unfold aU4 at P
   rw [e] at P
   intro v B' U' As' H' N R' e' n' k
   obtain ⟨R2,e2,n2⟩:=main R' e'
   exact P v B' _ _ H' N R2 e2 (n2 N n') (hU d v B' U' (ov B' U) H' N k)
 | exc c ρ' =>
   unfold aU4 at P
   rw [e] at P
   intro B' U' As' H' R' e'
   obtain ⟨R2,e2,n2⟩:=main R' e'
   exact P B' _ _ H' R2 e2
 | bad =>
   unfold aU4 at P
   rw [e] at P
   exact P
end
noncomputable def aE5 (c:Nat) (fm:List D→Out D) (ds:List D):Res D:=match fm (.obj c [] [] :: ds) with
 | .ok .non ρ'=>(match rg ρ' 0 with | some d=> .ok d | none=> .bad)
 | .ok _ _=> .bad
 | .exc c _=> .exc c
 | .bad=> .bad
section
variable {cm:Cm} {E:XK} {ms:List Md} {B U H:Hp} {As:Nat→List Addr} {σ:St} {ρ:Env} {K:PySem.W.Frag}
theorem bD0 {c:Nat} {sh:List (Str×Sh)} {msC:List Md} {fm:List D→Out D} {ps:List Ap} {ds:List D} {vs:List V} {Q:VK} (R:Rel cm ms B U As σ H ρ) (A:Ag cm B U H σ ρ ps ds vs) (hl:ps.length + 1=msC.length) (h0:msC.getD 0 .F= .O (.ob sh))
 (hf:∀ (j:Nat) p,ps[j]?=some p→fits ms true p (msC.getD (j + 1) .F)=true) (P:Po cm (KO cm (.ob sh)) E ms B U As σ H ρ (aE5 c fm ds) Q) (x dx:Addr) (hx:H x=none) (hdx:H dx=none) (hne:dx≠x) :
 spM cm msC (KR cm .F) fm (.ref x :: vs) (upd (upd H dx (.own x)) x (.ins (cm c) dx [])) (fun v H2=>v= .non∧Q (.ref x) H2) E:=by
 have hlen:=A.len
 have sH:Same H (upd (upd H dx (.own x)) x (.ins (cm c) dx [])):=Gd.aP1 hx (Gd.ae4 hdx)
 have hUc:∃ Uc:Hp,Uc x=none∧∀ a,a≠x→Uc a=upd (upd H dx (.own x)) x (.ins (cm c) dx []) a:=⟨fun a=>if a=x then none else upd (upd H dx (.own x)) x (.ins (cm c) dx []) a,if_pos rfl,fun a h=>if_neg h⟩
 obtain ⟨Uc,u1,u2⟩:=hUc
 have sUc:Same H Uc:=fun a o q=>by rw [u2 a (ab4 q hx)]; exact sH a o q
 have ucH:Same Uc (upd (upd H dx (.own x)) x (.ins (cm c) dx [])):=fun a o q=>by
  by_cases z:a=x
  · subst z; rw [u1] at q; cases q
  · rw [u2 a z] at q; exact q
 have freeU:∀ {a},Uc a=none→H a=none:=fun h=>sUc.free h
 have Rc:Rel cm msC B Uc (fun j=>match j with | 0=>[x] | _ + 1=>[]) ((.ref x :: vs).map some) (upd (upd H dx (.own x)) x (.ins (cm c) dx [])) ((.obj c [] [] :: ds).map some):=by
  refine ⟨R.bh.trans sUc,ucH,fun j=>?_,fun j k a hne' ha hk=>?_,fun j a ha=>?_,fun j=>?_,by rw [List.length_map,List.length_map,List.length_cons,List.length_cons,hlen.1,hlen.2],R.tb⟩
  · cases j with
    | zero=>simp
    | succ j=>exact List.nodup_nil
  · cases j with
    | zero =>
      cases k with
      | zero=>exact hne' rfl
      | succ k=>cases hk
    | succ j=>cases ha
  · cases j with
    | zero=>rw [List.mem_singleton.mp ha]; exact u1
    | succ j=>cases ha
  · rw [ah0,ah0]
    cases j with
    | zero =>
      rw [h0]
      refine ⟨.ref x,rfl,?_⟩
      show Ow cm B _ (.obj c [] []) (.ob sh) (.ref x) [x]
      rw [Ow]
      exact ⟨x,dx,[],[],rfl,ab5,rfl,rfl,by rw [Owf]; exact ⟨rfl,rfl⟩⟩
    | succ j =>
      rw [List.getElem?_cons_succ,List.getElem?_cons_succ]
      cases e:ps[j]? with
      | none =>
        have:ps.length≤j:=List.getElem?_eq_none_iff.mp e
        rw [List.getElem?_eq_none (by omega)]
        rfl
      | some p =>
        obtain ⟨d,v,ed,ev,h1⟩:=A.get e
        rw [ed,ev]
        refine ⟨v,rfl,?_⟩
        have hr:=A1.read R h1
        have q:=hf j p e
        cases em:msC.getD (j + 1) .F with
        | F =>
          rw [em] at q
          cases p with
          | F=>exact ⟨h1,rfl⟩
          | _=>cases q
        | R=>exact ⟨Dn.mono sUc hr,rfl⟩
        | O s=>rw [em] at q; cases p <;> cases q
 refine ⟨B,Uc,_,.obj c [] [] :: ds,Rc,by rw [List.length_cons]; omega,?_⟩
 have main:∀ {B' U' H':Hp} {As':Nat→List Addr} {ρc:Env},Rel cm msC B' U' As' ((.ref x :: vs).map some) H' ρc→Ex B Uc B' U'→Rel cm ms B' (ov B' U) As σ H' ρ∧Gw B U H B' (ov B' U) H'∧∀ a,U' a=none→ov B' U a=none:=fun {B' U' H' As' ρc} R' e'=>by
  have sU:Same U U':=(R.uh.trans sUc).trans e'.u
  have su:Same U (ov B' U):=fun a o q=>by
   unfold ov
   cases z:B' a with
   | none=>exact q
   | some o' =>
     have h1:=sU a o q
     have h2:=R'.bu a o' z
     rw [h1] at h2; cases h2; rfl
  have sh:Same H H':=(sUc.trans e'.u).trans R'.uh
  have uh:Same (ov B' U) H':=fun a o q=>by
   unfold ov at q
   cases z:B' a with
   | none=>rw [z] at q; exact sh a o (R.uh a o q)
   | some o'=>rw [z] at q; cases q; exact R'.bh a _ z
  have bu:Same B' (ov B' U):=fun a o q=>by unfold ov; rw [q]
  have new:∀ a o,B' a=some o→B a=some o∨H a=none∨aq9 o:=fun a o q=>(e'.nb a o q).imp id fun z=>z.imp freeU id
  refine ⟨R.grow e'.b su sh bu uh fun i a ha=>?_,⟨⟨e'.b,su,fun a o q=>?_⟩,sh,fun a o q=>?_⟩,fun a h=>?_⟩
  · unfold ov
    cases z:B' a with
    | none=>exact R.un i a ha
    | some o =>
      obtain ⟨o',q'⟩:=R.at ha
      rcases new a o z with q | q | q
      · have:=R.bu a o q; rw [R.un i a ha] at this; cases this
      · rw [q] at q'; cases q'
      · have e1:=sh _ _ q'
        rw [R'.bh a o z] at e1; cases e1; exact (R.nt ha q' q).elim
  · rcases new a o q with q | q | q
    · exact .inl q
    · exact .inr (.inl (R.uh.free q))
    · exact .inr (.inr q)
  · unfold ov at q
    cases z:B' a with
    | none=>rw [z] at q; exact .inl q
    | some o' =>
      rw [z] at q
      cases q
      rcases new a _ z with q | q
      · exact .inl (R.bu a _ q)
      · exact .inr q
  · unfold ov
    cases z:B' a with
    | none=>exact sU.free h
    | some o=>have:=R'.bu a o z; rw [h] at this; cases this
 unfold aE5 at P
 cases e:fm (.obj c [] [] :: ds) with
 | ok d ρ' =>
   rw [e] at P
   intro v B' U' As' H' N R' e' n' k
   obtain ⟨R2,g2,fr2⟩:=main R' e'
   cases d with
   | non =>
     have k:Dn cm B' .non v:=k
     rw [Dn] at k
     refine ⟨k,?_⟩
     replace P:Po cm (KO cm (.ob sh)) E ms B U As σ H ρ (match rg ρ' 0 with | some d=> .ok d | none=> .bad) Q:=P
     have l:=R'.lo 0
     rw [at9 h0,h0] at l
     cases e0:rg ρ' 0 with
     | none=>rw [e0] at P; exact P.elim
     | some d =>
       rw [e0] at P l
       have w:=an8 l (v:= .ref x) rfl
       exact P (.ref x) B' _ H' (As' 0) R2 g2 ⟨R'.nd 0,fun a ha=>freeU (e'.u.free (R'.un 0 a ha)),fun a ha=>fr2 a (R'.un 0 a ha)⟩ w
   | _=>exact P.elim
 | exc c' ρ' =>
   rw [e] at P
   intro B' U' As' H' R' e'
   obtain ⟨R2,g2,fr2⟩:=main R' e'
   exact P B' _ H' R2 g2
 | bad=>rw [e] at P; exact P
theorem bK9 {c:Nat} {sh:List (Str×Sh)} {msC:List Md} {fm:List D→Out D} {ps:List Ap} {t:TA} {m:Env→Res (List D)} (h:AJ cm E ms ps t m) (hl:ps.length + 1=msC.length) (h0:msC.getD 0 .F= .O (.ob sh))
 (hf:∀ (j:Nat) p,ps[j]?=some p→fits ms true p (msC.getD (j + 1) .F)=true):PJ cm (KO cm (.ob sh)) E ms (bs4 (cm c) (spM cm msC (KR cm .F) fm) [] E t) (fun ρ=>(m ρ).bind (aE5 c fm)):=by
 intro B U As σ H ρ Q R P
 refine h.bnd R P fun ds vs B1 U1 H1 R1 e1 A P1=>?_
 intro x dx hx hdx hne
 rw [List.append_nil]
 exact bD0 R1 A hl h0 hf P1 x dx hx hdx hne
structure Pth (cm:Cm) (ms:List Md) (t:TE) (get:Env→Option D) (set:Env→D→Env):Prop where
 rd:∀ {B U:Hp} {As:Nat→List Addr} {σ:St} {H:Hp} {ρ:Env} {d:D},Rel cm ms B U As σ H ρ→get ρ=some d→∃ v A,(∀ Q:VK,Q v H→t σ H Q)∧Ow cm B H d (.ct .fz) v A∧(∀ a∈A,∃ i,a∈As i) ∧
  ∀ B1 U1 H1,Rel cm ms B1 U1 As σ H1 ρ→Same B B1→Same H H1→∀ a∈A,∀ o' d',Ow cm B1 (upd H1 a o') d' (.ct .fz) v A→Rel cm ms B1 U1 As σ (upd H1 a o') (set ρ d')
theorem Rel.mut (R:Rel cm ms B U As σ H ρ) {i:Nat} {a:Addr} {o':HO} {d d':D} {v:V} {sh:Sh} (hm:ms.getD i .F= .O sh) (hv:rg σ i=some v) (hd:rg ρ i=some d) (ha:a∈As i) (w:Ow cm B (upd H a o') d' sh v (As i)) :
 Rel cm ms B U As σ (upd H a o') (ρ.set i (some d')):=by
 have hi:i < ρ.length:=(List.getElem?_eq_some_iff.mp (ag0 hd)).1
 refine ⟨R.bu,fun b u q=>?_,R.nd,R.dj,R.un,fun j=>?_,by rw [List.length_set]; exact R.len,R.tb⟩
 · rw [ab2 (ab4 q (R.un i a ha))]
   exact R.uh b u q
 · rw [ag6]
   by_cases e:i=j
   · subst e
     rw [if_pos ⟨rfl,hi⟩,hm]
     exact ⟨v,hv,w⟩
   · rw [if_neg fun z=>e z.1]
     exact (R.lo j).mono (Same.refl _) (Same.refl _) fun b hb=>ab2 (fun z:b=a=>R.dj i j a e ha (z ▸ hb))
noncomputable def al5 (i:Nat):Env→Option D:=fun ρ=>rg ρ i
noncomputable def ao6 (i:Nat):Env→D→Env:=fun ρ d=>ρ.set i (some d)
theorem pthV {i:Nat} (hm:ms.getD i .F= .O (.ct .fz)):Pth cm ms (tVar i) (al5 i) (ao6 i) where
 rd:=fun {B U As σ H ρ d} R e=>by
  replace e:rg ρ i=some d:=e
  have l:=R.lo i
  rw [e,hm] at l
  obtain ⟨v,hv,w⟩:=l
  exact ⟨v,As i,fun Q q=>⟨v,ag0 hv,q⟩,w,fun a ha=>⟨i,ha⟩,fun B1 U1 H1 R1 _ _ a ha o' d' w'=>R1.mut hm hv e ha w'⟩
theorem Owf.upd {sh:List (Str×Sh)} {f:Str} {B H:Hp}:∀ {fs:List (Str×V)} {ds:List D} {A:List Addr} {d:D},Owf cm B H ds (fs.map (·.1)) sh (fs.map (·.2)) A→A.Nodup→ah2 (fs.map (·.1)) ds f=some d →
 ∃ v A1,fs.lookup f=some v∧Ow cm B H d ((sh.lookup f).getD .fz) v A1∧(∀ a∈A1,a∈A)∧∀ B1 H1 d',Same B B1→(∀ b∈A,b∉A1→H1 b=H b)→Ow cm B1 H1 d' ((sh.lookup f).getD .fz) v A1→Owf cm B1 H1 (an4 (fs.map (·.1)) ds f d') (fs.map (·.1)) sh (fs.map (·.2)) A
 | [],ds,A,d,h,nd,e=>by cases ds <;> cases e
 | p :: fs,ds,A,d,h,nd,e=>by
   cases ds with
   | nil=>cases e
   | cons d0 ds =>
     rw [List.map_cons,List.map_cons,Owf] at h
     obtain ⟨n,ns',x,r,X1,X2,hn,h0,h1,h2,h3⟩:=h
     cases hn
     cases h0
     subst h1
     obtain ⟨nd1,nd2,nd3⟩:=List.nodup_append.mp nd
     rw [List.map_cons] at e
     unfold ah2 at e
     by_cases q:p.1=f
     · rw [if_pos q] at e
       cases e
       rw [q] at h2
       refine ⟨p.2,X1,by rw [List.lookup_cons,← q,beq_self_eq_true],h2,fun a ha=>List.mem_append_left _ ha,fun B1 H1 d' sb k w=>?_⟩
       rw [List.map_cons,List.map_cons,an4,if_pos q,Owf]
       exact ⟨p.1,_,p.2,_,X1,X2,rfl,rfl,rfl,by rw [q]; exact w,Owf.mono sb (fun b hb=>k b (List.mem_append_right _ hb) fun z=>nd3 b z b hb rfl) h3⟩
     · rw [if_neg q] at e
       obtain ⟨v,A1,hv,ow,hA,cl⟩:=Owf.upd h3 nd2 e
       have hb:(f == p.1)=false:=beq_eq_false_iff_ne.mpr fun z=>q z.symm
       refine ⟨v,A1,by rw [List.lookup_cons,hb]; exact hv,ow,fun a ha=>List.mem_append_right _ (hA a ha),fun B1 H1 d' sb k w=>?_⟩
       rw [List.map_cons,List.map_cons,an4,if_neg q,Owf]
       exact ⟨p.1,_,p.2,_,X1,X2,rfl,rfl,rfl,Ow.mono sb (fun b hb=>k b (List.mem_append_left _ hb) fun z=>nd3 b hb b (hA b z) rfl) h2,cl B1 H1 d' sb (fun b hb hb1=>k b (List.mem_append_right _ hb) hb1) w⟩
noncomputable def getF (c:Nat) (f:Str) (i:Nat):Env→Option D:=fun ρ=>match rg ρ i with
 | some (.obj c' ns vs)=>if c'=c then ah2 ns vs f else none
 | _=>none
noncomputable def setF (f:Str) (i:Nat):Env→D→Env:=fun ρ d=>match rg ρ i with
 | some (.obj c ns vs)=>ρ.set i (some (.obj c ns (an4 ns vs f d)))
 | _=>ρ
theorem pthF {c:Nat} {f:Str} {i:Nat} {sh:List (Str×Sh)} (hc:Cls K (cm c)) (hn:NoAttr K (cm c) f) (hm:ms.getD i .F= .O (.ob sh)) (hf:(sh.lookup f).getD .fz= .ct .fz):Pth cm ms (tFld K (tVar i) f) (getF c f i) (setF f i) where
 rd:=fun {B U As σ H ρ d} R e=>by
  have l:=R.lo i
  unfold getF at e
  cases e0:rg ρ i with
  | none=>rw [e0] at e; cases e
  | some d0 =>
    cases d0 with
    | obj c' ns vs =>
      rw [e0] at e
      replace e:(if c'=c then ah2 ns vs f else none)=some d:=e
      by_cases q:c'=c
      · subst q
        rw [if_pos rfl] at e
        rw [e0,hm] at l
        obtain ⟨v,hv,w⟩:=l
        have w0:Ow cm B H (.obj c' ns vs) (.ob sh) v (As i):=w
        rw [Ow] at w0
        obtain ⟨a,dx,xs,A',rfl,h1,h2,h3,h4⟩:=w0
        subst h2
        have nd:=R.nd i
        rw [h3] at nd
        obtain ⟨nd1,nd2⟩:=List.nodup_cons.mp nd
        obtain ⟨u,A1,hu,ow,hA,cl⟩:=Owf.upd h4 nd2 e
        rw [hf] at ow
        refine ⟨u,A1,fun Q q=>⟨.ref a,ag0 hv,a,_,dx,xs,u,rfl,h1,hc,hn,hu,q⟩,ow,fun b hb=>⟨i,by rw [h3]; exact List.mem_cons_of_mem _ (hA b hb)⟩,fun B1 U1 H1 R1 sb sh1 b hb o' d' w'=>?_⟩
        have hbi:b∈As i:=by rw [h3]; exact List.mem_cons_of_mem _ (hA b hb)
        have:setF f i ρ d'=ρ.set i (some (.obj c' (xs.map (·.1)) (an4 (xs.map (·.1)) vs f d'))):=by unfold setF; rw [e0]
        rw [this]
        refine R1.mut hm hv e0 hbi ?_
        rw [h3,Ow]
        have nab:a≠b:=fun z=>nd1 (by rw [z]; exact hA b hb)
        refine ⟨a,dx,xs,A',rfl,by rw [ab2 nab]; exact sh1 _ _ h1,rfl,rfl,cl B1 _ d' sb (fun y hy hy1=>?_) (by rw [hf]; exact w')⟩
        have:y≠b:=fun z=>hy1 (by rw [z]; exact hb)
        rw [ab2 this]
        obtain ⟨o,ho⟩:=Owf.at h4 hy
        rw [ho,sh1 _ _ ho]
      · rw [if_neg q] at e
        cases e
    | _=>rw [e0] at e; cases e
noncomputable def lstK (set:Env→D→Env) (ρ:Env):Option (D×List D)→Out D
 | some (d,es)=> .ok d (set ρ (.lst es))
 | none=> .bad
noncomputable def lst0 (get:Env→Option D) (set:Env→D→Env) (f:List D→Option (D×List D)):Env→Out D:=fun ρ=>match get ρ with
 | some (.lst xs)=>lstK set ρ (f xs)
 | _=> .bad
noncomputable def lstR (set:Env→D→Env) (f:List D→D→Option (D×List D)) (ρ:Env) (xs:List D):Res D→Out D
 | .ok x=>lstK set ρ (f xs x)
 | .exc c=> .exc c ρ
 | .bad=> .bad
noncomputable def lst1 (get:Env→Option D) (set:Env→D→Env) (f:List D→D→Option (D×List D)) (me:Env→Res D):Env→Out D:=fun ρ=>match get ρ with
 | some (.lst xs)=>lstR set f ρ xs (me ρ)
 | _=> .bad
theorem Ow.lst {d:D} {v:V} {A:List Addr} {ds:List D} (w:Ow cm B H d (.ct .fz) v A) (e:d= .lst ds):∃ a xs,v= .ref a∧H a=some (.lst xs)∧A=[a]∧Dns cm B ds xs:=by
 subst e
 rw [Ow] at w
 obtain ⟨a,xs,A',r,h1,h2,h3⟩:=w
 obtain ⟨h4,h5⟩:=Ows.fz h3
 exact ⟨a,xs,r,h1,by rw [h2,h5],h4⟩
theorem Ow.lst' {a:Addr} {ds:List D} {xs:List V} (h:H a=some (.lst xs)) (d:Dns cm B ds xs):Ow cm B H (.lst ds) (.ct .fz) (.ref a) [a]:=by
 rw [Ow]
 exact ⟨a,xs,[],rfl,h,rfl,Ows.of d⟩
section
variable {t:TE} {get:Env→Option D} {set:Env→D→Env}
theorem m_bm0 {r:V→List V→Hp→VK→Prop} {f:List D→Option (D×List D)} (p:Pth cm ms t get set)
 (hr:∀ (G H:Hp) (a:Addr) (ds:List D) (xs:List V) (d:D) (es:List D) (Q:VK),H a=some (.lst xs)→Dns cm G ds xs→f ds=some (d,es)→(∀ v ys,Dn cm G d v→Dns cm G es ys→Q v (upd H a (.lst ys)))→r (.ref a) [] H Q) :
 MJ cm (KR cm .F) E ms (tBM0 K "list" r t) (lst0 get set f):=by
 intro B U As σ H ρ Q R P
 unfold lst0 at P
 cases e:get ρ with
 | none=>rw [e] at P; exact P.elim
 | some d0 =>
   cases d0 with
   | lst ds =>
     rw [e] at P
     replace P:Mo cm (KR cm .F) E ms B U σ (lstK set ρ (f ds)) Q:=P
     cases ef:f ds with
     | none=>rw [ef] at P; exact P.elim
     | some de =>
       obtain ⟨d,es⟩:=de
       rw [ef] at P
       obtain ⟨v,A,ht,w,hA,cl⟩:=p.rd R e
       obtain ⟨a,xs,rfl,h1,rfl,h2⟩:=w.lst rfl
       refine ht _ ⟨.inl ⟨rfl,xs,SqL.of h1⟩,hr B H a ds xs d es Q h1 h2 ef fun v ys hv hy=>?_⟩
       exact P v B U As _ [] (cl B U H R (Same.refl _) (Same.refl _) a List.mem_cons_self _ _ (Ow.lst' ab5 hy)) (Ex.refl _ _) NewM.nil hv
   | _=>rw [e] at P; exact P.elim
theorem m_bm1 {k:Kd} {r:V→List V→Hp→VK→Prop} {f:List D→D→Option (D×List D)} {te:TE} {me:Env→Res D} (p:Pth cm ms t get set) (he:PJ cm (KR cm k) E ms te me)
 (hr:∀ (B U H:Hp) (a:Addr) (ds:List D) (xs:List V) (x:D) (u:V) (d:D) (es:List D) (Q:VK),Same B U→Same U H→H a=some (.lst xs)→Dns cm B ds xs→Dn cm (hp k B U H) x u→f ds x=some (d,es)→(∀ v ys,Dn cm B d v→Dns cm B es ys→Q v (upd H a (.lst ys)))→r (.ref a) [u] H Q) :
 MJ cm (KR cm .F) E ms (tBM K "list" r t (af3 te tNil)) (lst1 get set f me):=by
 intro B U As σ H ρ Q R P
 unfold lst1 at P
 cases e:get ρ with
 | none=>rw [e] at P; exact P.elim
 | some d0 =>
   cases d0 with
   | lst ds =>
     rw [e] at P
     replace P:Mo cm (KR cm .F) E ms B U σ (lstR set f ρ ds (me ρ)) Q:=P
     obtain ⟨v,A,ht,w,hA,cl⟩:=p.rd R e
     obtain ⟨a,xs,rfl,h1,rfl,h2⟩:=w.lst rfl
     refine ht _ ⟨.inl ⟨rfl,xs,SqL.of h1⟩,he B U As σ H ρ _ R ?_⟩
     cases em:me ρ with
     | ok x =>
       rw [em] at P
       replace P:Mo cm (KR cm .F) E ms B U σ (lstK set ρ (f ds x)) Q:=P
       intro u B1 U1 H1 N R1 g1 n1 hu
       cases ef:f ds x with
       | none=>rw [ef] at P; exact P.elim
       | some de =>
         obtain ⟨d,es⟩:=de
         rw [ef] at P
         refine hr B1 U1 H1 a ds xs x u d es Q R1.bu R1.uh (g1.h _ _ h1) (h2.mono g1.b) hu ef fun v ys hv hy=>?_
         exact P v B1 U1 As _ [] (cl B1 U1 H1 R1 g1.b g1.h a List.mem_cons_self _ _ (Ow.lst' ab5 hy)) g1.toEx NewM.nil hv
     | exc c=>rw [em] at P; exact fun B1 U1 H1 R1 g1=>P B1 U1 As H1 R1 g1.toEx
     | bad=>rw [em] at P; exact P.elim
   | _=>rw [e] at P; exact P.elim
noncomputable def appF (xs:List D) (x:D):Option (D×List D):=if xs.length < ab1 then some (.non,xs ++ [x]) else none
noncomputable def popF (xs:List D) (x:D):Option (D×List D):=match x with
 | .int i=>if 0≤i∧i < xs.length∧xs.length≤ab1 then xs[i.toNat]?.map fun d=>(d,xs.eraseIdx i.toNat) else none
 | _=>none
theorem bD1 {te:TE} {me:Env→Res D} (p:Pth cm ms t get set) (he:PJ cm (KR cm .X) E ms te me):MJ cm (KR cm .F) E ms (tBM K "list" bq1 t (af3 te tNil)) (lst1 get set popF me) :=
 m_bm1 (f:=popF) p he fun B U H a ds xs x u d es Q _ _ h1 h2 hu ef k=>by
  cases x with
  | int i =>
    have hu:Dn cm H (.int i) u:=hu
    rw [Dn] at hu
    subst hu
    replace ef:(if 0≤i∧i < ds.length∧ds.length≤ab1 then ds[i.toNat]?.map fun d=>(d,ds.eraseIdx i.toNat) else none)=some (d,es):=ef
    by_cases z:0≤i∧i < ds.length∧ds.length≤ab1
    · rw [if_pos z] at ef
      obtain ⟨y,ey,e2⟩:=Option.map_eq_some_iff.mp ef
      cases e2
      obtain ⟨w,hw,dw⟩:=h2.get ey
      obtain ⟨z1,z2,z3⟩:=z
      unfold ab1 at z3
      refine ⟨a,xs,i,i.toNat,w,rfl,rfl,h1,by omega,by omega,?_,hw,k w _ dw (h2.erase _)⟩
      refine (bb9 ?_).1
      unfold ixN
      rw [if_pos z1,if_pos (by rw [← h2.len]; exact z2)]
    · rw [if_neg z] at ef
      cases ef
  | _=>cases ef
noncomputable def revF (xs:List D):Option (D×List D):=some (.non,xs.reverse)
theorem ba5 (p:Pth cm ms t get set):MJ cm (KR cm .F) E ms (tBM0 K "list" aP4 t) (lst0 get set revF) :=
 m_bm0 (f:=revF) p fun G H a ds xs d es Q h1 h2 ef k=>by
  unfold revF at ef
  cases ef
  exact ⟨a,xs,rfl,rfl,h1,k .non _ (by rw [Dn]) h2.reverse⟩
noncomputable def bi2 (i:Nat) (x:D) (ρ:Env):Out D:=match rg ρ i with
 | some (.lst xs)=>lstK (ao6 i) ρ (appF xs x)
 | _=> .bad
noncomputable def appM (i:Nat) (me:Env→Out D):Env→Out D:=fun ρ=>match rg ρ i with
 | some (.lst _)=>(me ρ).bind (bi2 i)
 | _=> .bad
theorem ba6 {i:Nat} {te:TE} {me:Env→Out D} (hm:ms.getD i .F= .O (.ct .fz)) (he:MJ cm (KR cm .F) E ms te me):MJ cm (KR cm .F) E ms (tBM K "list" aY6 (tVar i) (af3 te tNil)) (appM i me):=by
 intro B U As σ H ρ Q R P
 unfold appM at P
 cases e:rg ρ i with
 | none=>rw [e] at P; exact P.elim
 | some d0 =>
   cases d0 with
   | lst ds =>
     rw [e] at P
     replace P:Mo cm (KR cm .F) E ms B U σ ((me ρ).bind (bi2 i)) Q:=P
     have l:=R.lo i
     rw [e,hm] at l
     obtain ⟨v,hv,w⟩:=l
     obtain ⟨a,xs,rfl,h1,_,h2⟩:=Ow.lst w rfl
     refine ⟨.ref a,ag0 hv,.inl ⟨rfl,xs,SqL.of h1⟩,he.bnd R P fun x ρ' u B1 U1 As1 H1 N R1 e1 n1 hu P1=>?_⟩
     have l1:=R1.lo i
     unfold bi2 at P1
     cases e2:rg ρ' i with
     | none=>rw [e2] at P1; exact P1.elim
     | some d2 =>
       cases d2 with
       | lst ds2 =>
         rw [e2] at P1
         rw [e2,hm,hv] at l1
         have w1:=an8 l1 rfl
         obtain ⟨a',xs2,ea,h3,h4,h5⟩:=Ow.lst w1 rfl
         cases ea
         replace P1:Mo cm (KR cm .F) E ms B1 U1 σ (lstK (ao6 i) ρ' (appF ds2 x)) Q:=P1
         unfold appF at P1
         by_cases z:ds2.length < ab1
         · rw [if_pos z] at P1
           refine ⟨a,xs2,u,rfl,rfl,h3,ak0 (Nat.le_of_lt (by rw [← h5.len]; exact z)),?_⟩
           refine P1 .non B1 U1 As1 _ [] (R1.mut hm hv e2 (by rw [h4]; exact List.mem_cons_self) ?_) (Ex.refl _ _) NewM.nil (show Dn cm B1 .non .non by rw [Dn])
           rw [h4]
           exact Ow.lst' ab5 (h5.append (Dns.one hu))
         · rw [if_neg z] at P1
           exact P1.elim
       | _=>rw [e2] at P1; exact P1.elim
   | _=>rw [e] at P; exact P.elim
end
end
section
variable {cm:Cm} {E:XK} {Kr:KT D V} {pr:Nat→Bool} {ms:List Md} {B U H:Hp} {As:Nat→List Addr} {σ:St} {ρ:Env} {K:PySem.W.Frag}
noncomputable def bd5 (set:Env→D→Env) (x d:D) (ρ:Env):Res D→SO
 | .ok k=>(match bd6 d k x with | some d'=> .nx (set ρ d') | none=> .bad)
 | .exc c=> .exc c ρ
 | .bad=> .bad
noncomputable def aL3 (get:Env→Option D) (set:Env→D→Env) (mk:Env→Res D) (mv:Env→Out D):Env→SO:=fun ρ=>aw2 (mv ρ) fun x ρ1=>match get ρ1 with
 | some d=>bd5 set x d ρ1 (mk ρ1)
 | none=> .bad
section
variable {κ:Type} [DecidableEq κ]
theorem aC0 {kvs:List (κ×V)} {k:κ}:(kvs.any fun kv=>decide (kv.1=k))=hasK (kvs.map (·.1)) k:=by
 unfold hasK
 rw [List.any_map]
 rfl
theorem aP6 {kvs:List (κ×V)} {k:κ} {v:V} (h:hasK (kvs.map (·.1)) k=true):(putK kvs k v).map (·.1)=kvs.map (·.1):=by
 unfold putK
 rw [aC0,if_pos h,List.map_map]
 refine List.map_congr_left fun p _=>?_
 show (if p.1=k then (p.1,v) else p).1=p.1
 split <;> rfl
theorem ah6 {kvs:List (κ×V)} {k:κ} {v:V} (h:¬ hasK (kvs.map (·.1)) k=true):putK kvs k v=kvs ++ [(k,v)]:=by
 unfold putK
 rw [aC0,if_neg h]
theorem az7 {G:Hp} {x:D} {v:V} {k:κ} (hx:Dn cm G x v):∀ {kvs:List (κ×V)} {ds:List D},Dns cm G ds (kvs.map (·.2))→Dns cm G (putV (kvs.map (·.1)) ds k x) ((kvs.map fun kv=>if kv.1=k then (kv.1,v) else kv).map (·.2))
 | [],ds,h=>by cases ds <;> exact (by rw [List.map_nil,List.map_nil,List.map_nil]; unfold putV; rw [Dns])
 | p :: kvs,ds,h=>by
   cases ds with
   | nil=>rw [Dns] at h; cases h
   | cons d ds =>
     rw [List.map_cons,Dns] at h
     obtain ⟨y,r,e,h1,h2⟩:=h
     cases e
     rw [List.map_cons,List.map_cons,List.map_cons,putV,Dns]
     refine ⟨_,_,rfl,?_,az7 hx h2⟩
     by_cases q:p.1=k
     · rw [if_pos q,if_pos q]; exact hx
     · rw [if_neg q,if_neg q]; exact h1
end
theorem Ow.dT {d:D} {v:V} {A:List Addr} {ks:List (List Key)} {ds:List D} (w:Ow cm B H d (.ct .fz) v A) (e:d= .dT ks ds):∃ (a:Addr) (kvs:List (List Key×V)),v= .ref a∧H a=some (.dT kvs)∧kvs.map (·.1)=ks∧A=[a]∧Dns cm B ds (kvs.map (·.2)):=by
 subst e
 rw [Ow] at w
 obtain ⟨a,xs,A',r,h1,h2,h3,h4⟩:=w
 obtain ⟨h5,h6⟩:=Ows.fz h4
 exact ⟨a,xs,r,h1,h2,by rw [h3,h6],h5⟩
theorem Ow.dK {d:D} {v:V} {A:List Addr} {ks:List Key} {ds:List D} (w:Ow cm B H d (.ct .fz) v A) (e:d= .dK ks ds):∃ (a:Addr) (kvs:List (Key×V)),v= .ref a∧H a=some (.dK kvs)∧kvs.map (·.1)=ks∧A=[a]∧Dns cm B ds (kvs.map (·.2)):=by
 subst e
 rw [Ow] at w
 obtain ⟨a,xs,A',r,h1,h2,h3,h4⟩:=w
 obtain ⟨h5,h6⟩:=Ows.fz h4
 exact ⟨a,xs,r,h1,h2,by rw [h3,h6],h5⟩
theorem Ow.dT' {a:Addr} {kvs:List (List Key×V)} {ds:List D} (h:H a=some (.dT kvs)) (d:Dns cm B ds (kvs.map (·.2))):Ow cm B H (.dT (kvs.map (·.1)) ds) (.ct .fz) (.ref a) [a]:=by
 rw [Ow]
 exact ⟨a,kvs,[],rfl,h,rfl,rfl,Ows.of d⟩
theorem Ow.dK' {a:Addr} {kvs:List (Key×V)} {ds:List D} (h:H a=some (.dK kvs)) (d:Dns cm B ds (kvs.map (·.2))):Ow cm B H (.dK (kvs.map (·.1)) ds) (.ct .fz) (.ref a) [a]:=by
 rw [Ow]
 exact ⟨a,kvs,[],rfl,h,rfl,rfl,Ows.of d⟩
theorem bE6 {d k x d':D} {v u w:V} {A:List Addr} (hw:Ow cm B H d (.ct .fz) v A) (hk:Dn cm H k u) (hx:Dn cm B x w) (e:bd6 d k x=some d'):∃ a o',v= .ref a∧a∈A∧DPut H a u w (upd H a o')∧Ow cm B (upd H a o') d' (.ct .fz) v A:=by
 cases d with
 | dT ks vs =>
   obtain ⟨a,kvs,rfl,h1,h2,rfl,h3⟩:=hw.dT rfl
   cases k with
   | tup kd =>
     replace e:((aj3 kd).bind fun k=>if ks.length < ab1 then some (if hasK ks k=true then D.dT ks (putV ks vs k x) else .dT (ks ++ [k]) (vs ++ [x])) else none)=some d':=e
     obtain ⟨kk,ek,e⟩:=Option.bind_eq_some_iff.mp e
     rw [Dn] at hk
     obtain ⟨b,xs,rfl,h4,h5⟩:=hk
     have ex:=ap1 ek h5
     subst ex
     by_cases z:ks.length < ab1
     · rw [if_pos z] at e
       cases e
       have hl:kvs.length < sizeLine:=ak0 (Nat.le_of_lt (by rw [← h2,List.length_map] at z; exact z))
       refine ⟨a,_,rfl,List.mem_cons_self,DPut.t h1 h4 hl,?_⟩
       subst h2
       by_cases q:hasK (kvs.map (·.1)) kk=true
       · rw [if_pos q]
         have hp:putK kvs kk w=kvs.map fun kv=>if kv.1=kk then (kv.1,w) else kv:=by unfold putK; rw [aC0,if_pos q]
         have:=Ow.dT' (cm:=cm) (B:=B) (H:=upd H a (.dT (putK kvs kk w))) (ds:=putV (kvs.map (·.1)) vs kk x) ab5 (by rw [hp]; exact az7 hx h3)
         rw [aP6 q] at this
         exact this
       · rw [if_neg q]
         have:=Ow.dT' (cm:=cm) (B:=B) (H:=upd H a (.dT (putK kvs kk w))) (ds:=vs ++ [x]) ab5 (by rw [ah6 q,List.map_append]; exact h3.append (Dns.one hx))
         rw [ah6 q,List.map_append] at this
         rw [ah6 q]
         exact this
     · rw [if_neg z] at e
       cases e
   | _=>cases e
 | dK ks vs =>
   obtain ⟨a,kvs,rfl,h1,h2,rfl,h3⟩:=hw.dK rfl
   replace e:((aF0 k).bind fun k=>if ks.length < ab1 then some (if hasK ks k=true then D.dK ks (putV ks vs k x) else .dK (ks ++ [k]) (vs ++ [x])) else none)=some d':=by cases k <;> exact e
   obtain ⟨kk,ek,e⟩:=Option.bind_eq_some_iff.mp e
   have ex:=aQ6 ek hk
   subst ex
   by_cases z:ks.length < ab1
   · rw [if_pos z] at e
     cases e
     have hl:kvs.length < sizeLine:=ak0 (Nat.le_of_lt (by rw [← h2,List.length_map] at z; exact z))
     refine ⟨a,_,rfl,List.mem_cons_self,DPut.k h1 hl,?_⟩
     subst h2
     by_cases q:hasK (kvs.map (·.1)) kk=true
     · rw [if_pos q]
       have hp:putK kvs kk w=kvs.map fun kv=>if kv.1=kk then (kv.1,w) else kv:=by unfold putK; rw [aC0,if_pos q]
       have:=Ow.dK' (cm:=cm) (B:=B) (H:=upd H a (.dK (putK kvs kk w))) (ds:=putV (kvs.map (·.1)) vs kk x) ab5 (by rw [hp]; exact az7 hx h3)
       rw [aP6 q] at this
       exact this
     · rw [if_neg q]
       have:=Ow.dK' (cm:=cm) (B:=B) (H:=upd H a (.dK (putK kvs kk w))) (ds:=vs ++ [x]) ab5 (by rw [ah6 q,List.map_append]; exact h3.append (Dns.one hx))
       rw [ah6 q,List.map_append] at this
       rw [ah6 q]
       exact this
   · rw [if_neg z] at e
     cases e
 | _=>cases k <;> cases e
section
variable {t:TE} {get:Env→Option D} {set:Env→D→Env} {tk tv:TE} {mk:Env→Res D} {mv:Env→Out D}
theorem aD1 (p:Pth cm ms t get set) (hk:PJ cm (KR cm .X) E ms tk mk) (hv:MJ cm (KR cm .F) E ms tv mv):SJ cm E Kr pr ms (bI9 t tk tv) (aL3 get set mk mv):=by
 intro B U As σ H ρ D R P
 refine hv.bndS R P fun x ρ1 w B1 U1 As1 H1 N R1 e1 n1 hx P1=>?_
 cases e:get ρ1 with
 | none=>rw [e] at P1; exact P1.elim
 | some d =>
   rw [e] at P1
   replace P1:So cm E Kr pr ms B1 U1 σ (bd5 set x d ρ1 (mk ρ1)) D:=P1
   obtain ⟨v,A,ht,ow,hA,cl⟩:=p.rd R1 e
   refine ht _ (hk B1 U1 As1 σ H1 ρ1 _ R1 ?_)
   cases em:mk ρ1 with
   | ok k =>
     rw [em] at P1
     replace P1:So cm E Kr pr ms B1 U1 σ (match bd6 d k x with | some d'=> .nx (set ρ1 d') | none=> .bad) D:=P1
     intro u B2 U2 H2 N2 R2 g2 n2 hu
     cases ed:bd6 d k x with
     | none=>rw [ed] at P1; exact P1.elim
     | some d' =>
       rw [ed] at P1
       have ow2:Ow cm B2 H2 d (.ct .fz) v A:=Ow.mono g2.b (fun a ha=>by
        obtain ⟨o,ho⟩:=Ow.at ow ha
        rw [ho,g2.h _ _ ho]) ow
       obtain ⟨a,o',ea,ha,dp,ow3⟩:=bE6 ow2 hu (Dn.mono g2.b hx) ed
       exact ⟨a,_,ea,dp,P1 σ B2 U2 As1 _ (cl B2 U2 H2 R2 g2.b g2.h a ha o' d' ow3) g2.toEx (Kp.refl _ _)⟩
   | exc c=>rw [em] at P1; exact fun B2 U2 H2 R2 g2=>P1 σ B2 U2 As1 H2 R2 g2.toEx (Kp.refl _ _)
   | bad=>rw [em] at P1; exact P1.elim
end
theorem aD3 {f:Str} {y:V}:∀ {fs:List (Str×V)},(putF f y fs).map (·.1)=if hasK (fs.map (·.1)) f=true then fs.map (·.1) else fs.map (·.1) ++ [f]
 | []=>rfl
 | p :: fs=>by
   obtain ⟨g,z⟩:=p
   unfold putF hasK
   rw [List.map_cons,List.any_cons]
   by_cases q:g=f
   · rw [if_pos q,decide_eq_true q,Bool.true_or,if_pos rfl,List.map_cons]
   · rw [if_neg q,decide_eq_false q,Bool.false_or,List.map_cons,aD3]
     unfold hasK
     split
     · rfl
     · rw [List.cons_append]
theorem Owf.put {sh:List (Str×Sh)} {f:Str} {x:D} {y:V} {N:List Addr} (hx:Ow cm B H x ((sh.lookup f).getD .fz) y N) (hN:N.Nodup):∀ {fs:List (Str×V)} {ds:List D} {A:List Addr},Owf cm B H ds (fs.map (·.1)) sh (fs.map (·.2)) A→A.Nodup→(∀ a∈N,a∉A) →
 ∃ A2,Owf cm B H (if hasK (fs.map (·.1)) f=true then an4 (fs.map (·.1)) ds f x else ds ++ [x]) ((putF f y fs).map (·.1)) sh ((putF f y fs).map (·.2)) A2∧A2.Nodup∧∀ a∈A2,a∈A∨a∈N
 | [],ds,A,h,nd,hd=>by
   cases ds with
   | nil =>
     refine ⟨N,?_,hN,fun a ha=> .inr ha⟩
     show Owf cm B H [x] [f] sh [y] N
     rw [Owf]
     exact ⟨f,[],y,[],N,[],rfl,rfl,by rw [List.append_nil],hx,by rw [Owf]; exact ⟨rfl,rfl⟩⟩
   | cons d ds =>
     rw [Owf] at h
     obtain ⟨_,_,_,_,_,_,e,_⟩:=h
     cases e
 | p :: fs,ds,A,h,nd,hd=>by
   obtain ⟨g,z⟩:=p
   cases ds with
   | nil =>
     rw [Owf] at h
     cases h.1
   | cons d ds =>
     rw [List.map_cons,List.map_cons,Owf] at h
     obtain ⟨n,ns',u,r,X1,X2,hn,h0,h1,h2,h3⟩:=h
     cases hn
     cases h0
     subst h1
     obtain ⟨nd1,nd2,nd3⟩:=List.nodup_append.mp nd
     unfold putF
     by_cases q:g=f
     · have hk:hasK (((g,z) :: fs).map (·.1)) f=true:=by
        unfold hasK
        rw [List.map_cons,List.any_cons,decide_eq_true q,Bool.true_or]
       rw [if_pos q,hk,if_pos rfl,List.map_cons,an4,if_pos q,List.map_cons,List.map_cons]
       refine ⟨N ++ X2,?_,List.nodup_append.mpr ⟨hN,nd2,fun a ha b hb e=>hd a ha (List.mem_append_right _ (e ▸ hb))⟩,fun a ha=>?_⟩
       · rw [Owf]
         exact ⟨g,_,y,_,N,X2,rfl,rfl,rfl,by rw [q]; exact hx,h3⟩
       · rcases List.mem_append.mp ha with z | z
         · exact .inr z
         · exact .inl (List.mem_append_right _ z)
     · obtain ⟨A2,w,nda,hA⟩:=Owf.put hx hN h3 nd2 (fun a ha hb=>hd a ha (List.mem_append_right _ hb))
       have hk:hasK (((g,z) :: fs).map (·.1)) f=hasK (fs.map (·.1)) f:=by
        unfold hasK
        rw [List.map_cons,List.any_cons,decide_eq_false q,Bool.false_or]
       rw [if_neg q,hk,List.map_cons,List.map_cons,List.map_cons,an4,if_neg q]
       have dis:∀ a∈X1,∀ b∈A2,a≠b:=fun a ha b hb e=>by
        rcases hA b hb with z | z
        · exact nd3 a ha b z e
        · exact hd b z (List.mem_append_left _ (e ▸ ha))
       refine ⟨X1 ++ A2,?_,List.nodup_append.mpr ⟨nd1,nda,dis⟩,fun a ha=>?_⟩
       · have:(if hasK (fs.map (·.1)) f=true then d :: an4 (fs.map (·.1)) ds f x else (d :: ds) ++ [x])=d :: (if hasK (fs.map (·.1)) f=true then an4 (fs.map (·.1)) ds f x else ds ++ [x]):=by split <;> rfl
         rw [this,Owf]
         exact ⟨g,_,z,_,X1,A2,rfl,rfl,rfl,h2,w⟩
       · rcases List.mem_append.mp ha with z | z
         · exact .inl (List.mem_append_left _ z)
         · rcases hA a z with z | z
           · exact .inl (List.mem_append_right _ z)
           · exact .inr z
noncomputable def fldS (c:Nat) (f:Str) (i:Nat) (me:Env→Out D):Env→SO:=fun ρ=>aw2 (me ρ) fun x ρ1=>match rg ρ1 i with
 | some d=>(match bj3 c f x d with | some d'=> .nx (ρ1.set i (some d')) | none=> .bad)
 | none=> .bad
theorem bI7 {K':KT D V} {c:Nat} {f:Str} {i:Nat} {sh:List (Str×Sh)} {te:TE} {me:Env→Out D} (hc:Cls K (cm c)) (hn:NoAttr K (cm c) f) (hm:ms.getD i .F= .O (.ob sh)) (he:MJ cm K' E ms te me)
 (hk:∀ B U H d v N,K' d v B U H N→∃ N',(N'=[]∨N'=N)∧Ow cm B H d ((sh.lookup f).getD .fz) v N'):SJ cm E Kr pr ms (sFld K (tVar i) te f) (fldS c f i me):=by
 intro B U As σ H ρ D R P
 refine he.bndS R P fun x ρ1 y B1 U1 As1 H1 N R1 e1 n1 hx P1=>?_
 obtain ⟨N',hN,ow⟩:=hk _ _ _ _ _ _ hx
 have n2:NewM N' U1 As1:=by
  rcases hN with e | e
  · subst e; exact NewM.nil
  · subst e; exact n1
 have l:=R1.lo i
 cases e:rg ρ1 i with
 | none=>rw [e] at P1; exact P1.elim
 | some d =>
   rw [e] at P1
   replace P1:So cm E Kr pr ms B1 U1 σ (match bj3 c f x d with | some d'=> .nx (ρ1.set i (some d')) | none=> .bad) D:=P1
   rw [e,hm] at l
   obtain ⟨v,hv,w⟩:=l
   cases d with
   | obj c' ns vs =>
     have ep:bj3 c f x (.obj c' ns vs)=if c'=c∧ns.length < 900 then some (if hasK ns f=true then .obj c' ns (an4 ns vs f x) else .obj c' (ns ++ [f]) (vs ++ [x])) else none:=rfl
     rw [ep] at P1
     by_cases q:c'=c∧ns.length < 900
     · rw [if_pos q] at P1
       obtain ⟨q1,q2⟩:=q
       subst q1
       have w:Ow cm B1 H1 (.obj c' ns vs) (.ob sh) v (As1 i):=w
       rw [Ow] at w
       obtain ⟨a,dx,fs,A',rfl,h1,h2,h3,h4⟩:=w
       subst h2
       have nd:=R1.nd i
       rw [h3] at nd
       obtain ⟨nd1,nd2⟩:=List.nodup_cons.mp nd
       have hai:a∈As1 i:=by rw [h3]; exact List.mem_cons_self
       obtain ⟨A2,w2,nda,hA⟩:=Owf.put ow n2.nd h4 nd2 (fun b hb hb2=>n2.ap b hb i (by rw [h3]; exact List.mem_cons_of_mem _ hb2))
       have haA:a∉A2:=fun z=>by
        rcases hA a z with z | z
        · exact nd1 z
        · exact n2.ap a z i hai
       refine ⟨.ref a,ag0 hv,a,_,dx,fs,rfl,h1,hc,hn,by rw [List.length_map] at q2; omega,?_⟩
       have w3:Ow cm B1 (upd H1 a (.ins (cm c') dx (putF f y fs))) (if hasK (fs.map (·.1)) f=true then .obj c' (fs.map (·.1)) (an4 (fs.map (·.1)) vs f x) else .obj c' (fs.map (·.1) ++ [f]) (vs ++ [x])) (.ob sh) (.ref a) (a :: A2):=by
        have w4:=Owf.mono (H':=upd H1 a (.ins (cm c') dx (putF f y fs))) (Same.refl B1) (fun b hb=>ab2 (fun z:b=a=>haA (z ▸ hb))) w2
        have ek:=aD3 (f:=f) (y:=y) (fs:=fs)
        by_cases k:hasK (fs.map (·.1)) f=true
        · rw [if_pos k] at ek w4 ⊢
          rw [Ow]
          rw [ek] at w4
          exact ⟨a,dx,_,A2,rfl,ab5,ek,rfl,w4⟩
        · rw [if_neg k] at ek w4 ⊢
          rw [Ow]
          rw [ek] at w4
          exact ⟨a,dx,_,A2,rfl,ab5,ek,rfl,w4⟩
       have hi:i < ρ1.length:=(List.getElem?_eq_some_iff.mp (ag0 e)).1
       refine P1 σ B1 U1 (fun j=>if j=i then a :: A2 else As1 j) _ ⟨R1.bu,fun b u z=>?_,fun j=>?_,fun j k b hne hb hk=>?_,fun j b hb=>?_,fun j=>?_,by rw [List.length_set]; exact R1.len,R1.tb⟩ (Ex.refl _ _) (Kp.refl _ _)
       · rw [ab2 (ab4 z (R1.un i a hai))]
         exact R1.uh b u z
       · show (if j=i then a :: A2 else As1 j).Nodup
         split
         · exact List.nodup_cons.mpr ⟨haA,nda⟩
         · exact R1.nd j
       · replace hb:b∈(if j=i then a :: A2 else As1 j):=hb
         replace hk:b∈(if k=i then a :: A2 else As1 k):=hk
         have key:∀ {j},j≠i→b∈a :: A2→b∈As1 j→False:=fun {j} hj hb2 hb3=>by
          rcases List.mem_cons.mp hb2 with z | z
          · exact R1.dj i j b (Ne.symm hj) (by rw [z]; exact hai) hb3
          · rcases hA b z with z | z
            · exact R1.dj i j b (Ne.symm hj) (by rw [h3]; exact List.mem_cons_of_mem _ z) hb3
            · exact n2.ap b z j hb3
         split at hb
         · rename_i z1
           split at hk
           · rename_i z2; exact hne (z1.trans z2.symm)
           · rename_i z2; exact key z2 hb hk
         · rename_i z1
           split at hk
           · exact key z1 hk hb
           · exact R1.dj j k b hne hb hk
       · replace hb:b∈(if j=i then a :: A2 else As1 j):=hb
         split at hb
         · rcases List.mem_cons.mp hb with z | z
           · rw [z]; exact R1.un i a hai
           · rcases hA b z with z | z
             · exact R1.un i b (by rw [h3]; exact List.mem_cons_of_mem _ z)
             · exact n2.un b z
         · exact R1.un j b hb
       · rw [ag6]
         show Lo cm B1 U1 _ (ms.getD j .F) _ _ (if j=i then a :: A2 else As1 j)
         by_cases z:i=j
         · subst z
           rw [if_pos ⟨rfl,hi⟩,if_pos rfl,hm]
           exact ⟨.ref a,hv,w3⟩
         · rw [if_neg fun y=>z y.1,if_neg fun y=>z y.symm]
           exact (R1.lo j).mono (Same.refl _) (Same.refl _) fun b hb=>ab2 (fun y:b=a=>R1.dj i j a z hai (y ▸ hb))
     · rw [if_neg q] at P1
       exact P1.elim
   | _=>exact P1.elim
theorem bI6 {c:Nat} {f:Str} {i:Nat} {sh:List (Str×Sh)} {te:TE} {me:Env→Out D} (hc:Cls K (cm c)) (hn:NoAttr K (cm c) f) (hm:ms.getD i .F= .O (.ob sh)) (hf:(sh.lookup f).getD .fz= .fz) (he:MJ cm (KR cm .F) E ms te me):SJ cm E Kr pr ms (sFld K (tVar i) te f) (fldS c f i me) :=
 bI7 hc hn hm he fun B U H d v N k=>⟨[],.inl rfl,by rw [hf,Ow]; exact ⟨k,rfl⟩⟩
theorem aP2 {c:Nat} {f:Str} {i:Nat} {sh:List (Str×Sh)} {s:Sh} {te:TE} {me:Env→Out D} (hc:Cls K (cm c)) (hn:NoAttr K (cm c) f) (hm:ms.getD i .F= .O (.ob sh)) (hf:(sh.lookup f).getD .fz=s) (he:MJ cm (KO cm s) E ms te me):SJ cm E Kr pr ms (sFld K (tVar i) te f) (fldS c f i me) :=
 bI7 hc hn hm he fun B U H d v N k=>⟨N,.inr rfl,by rw [hf]; exact k⟩
noncomputable def spZ (cm:Cm) (ms:List Md) (Kr:KT D V) (fm:List D→Out D):Sp:=fun vs H Q _=>spM cm ms Kr fm vs H Q E0
noncomputable def prO (ms:List Md) (np:Nat):Nat→Bool:=fun j=>decide (j < np) && (match ms.getD j .F with | .O _=>true | _=>false)
theorem aY3 {α:Type} {l:List (Option α)} {n i:Nat}:rg (l ++ List.replicate n none) i=rg l i:=by
 unfold rg
 by_cases h:i < l.length
 · rw [List.getElem?_append_left h]
 · rw [List.getElem?_append_right (by omega),List.getElem?_eq_none (show l.length≤i by omega)]
   by_cases h2:i - l.length < n
   · rw [List.getElem?_replicate,if_pos h2]; rfl
   · rw [List.getElem?_replicate,if_neg h2]
noncomputable def runO (k:Nat) (body:Env→SO) (ds:List D):Out D:=match body (ds.map some ++ List.replicate (k - ds.length) none) with
 | .rt d ρ=> .ok d ρ
 | .exc c ρ=> .exc c ρ
 | _=> .bad
theorem Rel.enter {more:List Md} {vs:List V} {ds:List D} {n:Nat} (R:Rel cm ms B U As (vs.map some) H (ds.map some)) (hl:vs.length=ms.length):Rel cm (ms ++ more) B U As (vs.map some ++ List.replicate n none) H (ds.map some ++ List.replicate n none):=by
 have hd:ds.length=vs.length:=by have:=R.len; rw [List.length_map,List.length_map] at this; exact this
 refine ⟨R.bu,R.uh,R.nd,R.dj,R.un,fun i=>?_,by rw [List.length_append,List.length_append,R.len,List.length_replicate,List.length_replicate],R.tb⟩
 rw [aY3,aY3]
 have l:=R.lo i
 by_cases h:i < ms.length
 · rw [List.getD_eq_getElem?_getD,List.getElem?_append_left h,← List.getD_eq_getElem?_getD]
   exact l
 · have:rg (ds.map some) i=none:=by rw [ah0,List.getElem?_eq_none (by omega)]
   rw [this] at l ⊢
   exact l
theorem Rel.leave {more:List Md} {vs:List V} {σ':St} {ρ':Env} {n:Nat} (hl:vs.length=ms.length) (R:Rel cm (ms ++ more) B U As σ' H ρ') (k:Kp (prO ms ms.length) (vs.map some ++ List.replicate n none) σ') :
 ∃ As',Rel cm ms B U As' (vs.map some) H (an9 ms ρ')∧∀ N,NewM N U As→NewM N U As':=by
 refine ⟨fun i=>if prO ms ms.length i=true then As i else [],⟨R.bu,R.uh,fun i=>?_,fun i j a hne ha hb=>?_,fun i a ha=>?_,fun i=>?_,?_,R.tb⟩,fun N n=>⟨n.nd,n.un,fun a ha i=>?_⟩⟩
 · show (if prO ms ms.length i=true then As i else []).Nodup
   split
   · exact R.nd i
   · exact List.nodup_nil
 · replace ha:a∈(if prO ms ms.length i=true then As i else []):=ha
   replace hb:a∈(if prO ms ms.length j=true then As j else []):=hb
   split at ha
   · split at hb
     · exact R.dj i j a hne ha hb
     · cases hb
   · cases ha
 · replace ha:a∈(if prO ms ms.length i=true then As i else []):=ha
   split at ha
   · exact R.un i a ha
   · cases ha
 · show Lo cm B U H (ms.getD i .F) (rg (an9 ms ρ') i) (rg (vs.map some) i) (if prO ms ms.length i=true then As i else [])
   by_cases hi:i < ms.length
   · have eg:(ms ++ more).getD i .F=ms.getD i .F:=by
      rw [List.getD_eq_getElem?_getD,List.getElem?_append_left hi,← List.getD_eq_getElem?_getD]
     cases em:ms.getD i .F with
     | O s =>
       have hp:prO ms ms.length i=true:=by unfold prO; rw [em,decide_eq_true hi]; rfl
       rw [if_pos hp,at9 em]
       have l:=R.lo i
       rw [eg,em,k i hp,aY3] at l
       exact l
     | F =>
       have hp:prO ms ms.length i=false:=by unfold prO; rw [em]; simp
       have hk:rg (an9 ms ρ') i=none:=by
        unfold an9 rg
        rw [List.getElem?_map,List.getElem?_range hi]
        show (some (match ms.getD i .F with | .O _=>_ | _=>none)).join=none
        rw [em]; rfl
       rw [hp,hk]
       exact rfl
     | R =>
       have hp:prO ms ms.length i=false:=by unfold prO; rw [em]; simp
       have hk:rg (an9 ms ρ') i=none:=by
        unfold an9 rg
        rw [List.getElem?_map,List.getElem?_range hi]
        show (some (match ms.getD i .F with | .O _=>_ | _=>none)).join=none
        rw [em]; rfl
       rw [hp,hk]
       exact rfl
   · have hp:prO ms ms.length i=false:=by unfold prO; rw [decide_eq_false hi]; rfl
     have hk:rg (an9 ms ρ') i=none:=by
      unfold an9 rg
      rw [List.getElem?_eq_none (by rw [List.length_map,List.length_range]; omega)]
      rfl
     rw [hp,hk]
     exact rfl
 · unfold an9
   rw [List.length_map,List.length_map,List.length_range,hl]
 · show a∉(if prO ms ms.length i=true then As i else [])
   split
   · exact n.ap a ha i
   · simp
theorem ad8 {more:List Md} {t:TS} {body:Env→SO} {N:List Str} {vs:List V} {Q:VK} {fm:List D→Out D} (hb:SJ cm E0 Kr (prO ms ms.length) (ms ++ more) t body) (hN:N.length=ms.length + more.length) (hfm:fm=run N.length body) (hr:∀ B U H,Kr .non .non B U H [])
 (h:spM cm ms Kr fm vs H Q E0):t { nx:=fun _ H'=>Q .non H',rt:=Q } (L2.aq4 N vs) H:=by
 obtain ⟨B,U,As,ds,R,hl,P⟩:=h
 subst hfm
 have hd:ds.length=vs.length:=by have:=R.len; rw [List.length_map,List.length_map] at this; exact this
 unfold L2.aq4
 refine hb B U As _ H (ds.map some ++ List.replicate (N.length - vs.length) none) _ (R.enter hl) ?_
 unfold run at P
 rw [hd] at P
 cases e:body (ds.map some ++ List.replicate (N.length - vs.length) none) with
 | nx ρ' =>
   rw [e] at P
   intro σ' B' U' As' H' R' e' k'
   obtain ⟨As2,R2,n2⟩:=R'.leave hl k'
   exact P .non B' U' As2 H' [] R2 e' NewM.nil (hr _ _ _)
 | rt d ρ' =>
   rw [e] at P
   intro v σ' B' U' As' H' N' R' e' k' n' kr
   obtain ⟨As2,R2,n2⟩:=R'.leave hl k'
   exact P v B' U' As2 H' N' R2 e' (n2 _ n') kr
 | exc c ρ' =>
   rw [e] at P
   intro σ' B' U' As' H' R' e' k' oa
   obtain ⟨As2,R2,n2⟩:=R'.leave hl k'
   exact P B' U' As2 H' R2 e' oa
 | bk ρ'=>rw [e] at P; exact P.elim
 | ct ρ'=>rw [e] at P; exact P.elim
 | bad=>rw [e] at P; exact P.elim
theorem aR0 {more:List Md} {t:TS} {body:Env→SO} {N:List Str} {vs:List V} {Q:VK} {fm:List D→Out D} (hb:SJ cm E0 Kr (prO ms ms.length) (ms ++ more) t body) (hN:N.length=ms.length + more.length) (hfm:fm=runO N.length body)
 (h:spM cm ms Kr fm vs H Q E0):t { nx:=fun _ H'=>Q .non H',rt:=Q } (L2.aq4 N vs) H:=by
 obtain ⟨B,U,As,ds,R,hl,P⟩:=h
 subst hfm
 have hd:ds.length=vs.length:=by have:=R.len; rw [List.length_map,List.length_map] at this; exact this
 unfold L2.aq4
 refine hb B U As _ H (ds.map some ++ List.replicate (N.length - vs.length) none) _ (R.enter hl) ?_
 unfold runO at P
 rw [hd] at P
 cases e:body (ds.map some ++ List.replicate (N.length - vs.length) none) with
 | nx ρ'=>rw [e] at P; exact P.elim
 | rt d ρ' =>
   rw [e] at P
   intro v σ' B' U' As' H' N' R' e' k' n' kr
   obtain ⟨As2,R2,n2⟩:=R'.leave hl k'
   exact P v B' U' As2 H' N' R2 e' (n2 _ n') kr
 | exc c ρ' =>
   rw [e] at P
   intro σ' B' U' As' H' R' e' k' oa
   obtain ⟨As2,R2,n2⟩:=R'.leave hl k'
   exact P B' U' As2 H' R2 e' oa
 | bk ρ'=>rw [e] at P; exact P.elim
 | ct ρ'=>rw [e] at P; exact P.elim
 | bad=>rw [e] at P; exact P.elim
theorem ad1 {vs:List V} {Q:VK} {fm:List D→Out D} (h:spM cm ms Kr fm vs H Q E):vs.length=ms.length:=by
 obtain ⟨_,_,_,_,_,hl,_⟩:=h
 exact hl
end
end Mi
namespace Mi
open PySem PySem.Spec L2
mutual
noncomputable def toPy:D→Option PyData
 | .non=>some .none
 | .bl b=>some (.bool b)
 | .int i=>some (.int i)
 | .str x=>some (.str x)
 | .lst xs=>(toPys xs).map .list
 | .scr xs=>(toPys xs).map .list
 | .tup xs=>(toPys xs).map .tuple
 | .ty _=>none
 | .dK _ _=>none
 | .dT _ _=>none
 | .obj _ _ _=>none
noncomputable def toPys:List D→Option (List PyData)
 | []=>some []
 | d :: r=>match toPy d,toPys r with
   | some p,some q=>some (p :: q)
   | _,_=>none
end
section
variable {cm:Cm} {E:XK} {Kr:KT D V} {pr:Nat→Bool} {ms:List Md} {B U H:Hp} {As:Nat→List Addr} {σ:St} {ρ:Env} {K:PySem.W.Frag}
mutual
theorem den_of:∀ {d:D} {p:PyData} {v:V},toPy d=some p→Dn cm H d v→L2.Den cm.K H p v
 | .non,p,v,e,h=>by rw [Dn] at h; cases e; rw [L2.Den]; exact h
 | .bl _,p,v,e,h=>by rw [Dn] at h; cases e; rw [L2.Den]; exact h
 | .int _,p,v,e,h=>by rw [Dn] at h; cases e; rw [L2.Den]; exact h
 | .str _,p,v,e,h=>by rw [Dn] at h; cases e; rw [L2.Den]; exact h
 | .lst xs,p,v,e,h=>by
   rw [Dn] at h
   obtain ⟨a,ys,rfl,h1,h2⟩:=h
   rw [toPy] at e
   obtain ⟨ps,e1,rfl⟩:=Option.map_eq_some_iff.mp e
   rw [L2.Den]
   exact ⟨a,ys,rfl,SqL.of h1,dens_of e1 h2⟩
 | .scr xs,p,v,e,h=>by
   rw [Dn] at h
   obtain ⟨a,ys,rfl,h1,h2⟩:=h
   rw [toPy] at e
   obtain ⟨ps,e1,rfl⟩:=Option.map_eq_some_iff.mp e
   rw [L2.Den]
   exact ⟨a,ys,rfl,h1.sq,dens_of e1 h2⟩
 | .tup xs,p,v,e,h=>by
   rw [Dn] at h
   obtain ⟨a,ys,rfl,h1,h2⟩:=h
   rw [toPy] at e
   obtain ⟨ps,e1,rfl⟩:=Option.map_eq_some_iff.mp e
   rw [L2.Den]
   exact ⟨a,ys,rfl,SqT.of h1,dens_of e1 h2⟩
 | .ty _,p,v,e,h=>by cases e
 | .dK _ _,p,v,e,h=>by cases e
 | .dT _ _,p,v,e,h=>by cases e
 | .obj _ _ _,p,v,e,h=>by cases e
theorem dens_of:∀ {ds:List D} {ps:List PyData} {xs:List V},toPys ds=some ps→Dns cm H ds xs→L2.Dens cm.K H ps xs
 | [],ps,xs,e,h=>by rw [Dns] at h; rw [toPys] at e; cases e; rw [L2.Dens]; exact h
 | d :: ds,ps,xs,e,h=>by
   rw [Dns] at h
   obtain ⟨x,r,rfl,h1,h2⟩:=h
   rw [toPys] at e
   cases e1:toPy d with
   | none=>rw [e1] at e; cases e
   | some p =>
     cases e2:toPys ds with
     | none=>rw [e1,e2] at e; cases e
     | some q =>
       rw [e1,e2] at e
       cases e
       rw [L2.Dens]
       exact ⟨x,r,rfl,den_of e1 h1,dens_of e2 h2⟩
end
noncomputable def eqD (neg:Bool) (x y:D):Res D:=match toPy x,toPy y with
 | some p,some q=>if SeqAt.shaped p=true∧SeqAt.shaped q=true then .ok (.bl (neg.xor (PyData.eqv p q))) else .bad
 | _,_=> .bad
theorem bo3 {neg:Bool}:S2 cm (rEqD cm.K neg) (eqD neg):=by
 intro H x y v u hx hy
 unfold eqD
 cases e1:toPy x with
 | none=>trivial
 | some p =>
   cases e2:toPy y with
   | none=>trivial
   | some q =>
     dsimp only
     by_cases z:SeqAt.shaped p=true∧SeqAt.shaped q=true
     · rw [if_pos z]
       refine ⟨.bl _,fun _=>by rw [Dn],fun Q h=>⟨p,q,den_of e1 hx,den_of e2 hy,z.1,z.2,?_⟩⟩
       cases neg <;> simpa using h
     · rw [if_neg z]; trivial
noncomputable def aU9:D→Option String
 | .non=>some "NoneType" | .bl _=>some "bool" | .int _=>some "int" | .str _=>some "str" | .lst _=>some "list" | .tup _=>some "tuple" | .dK _ _=>some "dict" | .dT _ _=>some "dict"
 | .ty _=>none | .obj _ _ _=>none | .scr _=>none
noncomputable def kit (t n:String):Option Bool:=PySem.W.kitOne [] (.type t) (.type n)
noncomputable def isT (x y:D):Res D:=match y,aU9 x with
 | .ty n,some t=>(match kit t n with | some b=> .ok (.bl b) | none=> .bad)
 | _,_=> .bad
theorem aU8 {d:D} {v:V} {t:String} (e:aU9 d=some t) (h:Dn cm H d v):TyOf K H v (.type t):=by
 cases d with
 | non=>rw [Dn] at h; cases e; subst h; exact .non
 | bl b=>rw [Dn] at h; cases e; subst h; exact .bl b
 | int i=>rw [Dn] at h; cases e; subst h; exact .int i
 | str x=>rw [Dn] at h; cases e; subst h; exact .str x
 | lst _=>rw [Dn] at h; cases e; obtain ⟨a,xs,rfl,h1,_⟩:=h; exact .lst h1
 | scr _=>cases e
 | tup _=>rw [Dn] at h; cases e; obtain ⟨a,xs,rfl,h1,_⟩:=h; exact .tup h1
 | dK _ _=>rw [Dn] at h; cases e; obtain ⟨a,xs,rfl,h1,_⟩:=h; exact .dK h1
 | dT _ _=>rw [Dn] at h; cases e; obtain ⟨a,xs,rfl,h1,_⟩:=h; exact .dT h1
 | ty _=>cases e
 | obj _ _ _=>cases e
theorem aX9:S2 cm (fun v u H Q=>∃ x c t b,[v,u]=[x,.ty c]∧TyOf K H x t∧PySem.W.kitOne K t (.type c)=some b∧Q (.bl b) H) isT:=by
 intro H x y v u hx hy
 unfold isT
 cases y with
 | ty n =>
   cases e:aU9 x with
   | none=>trivial
   | some t =>
     dsimp only
     cases e2:kit t n with
     | none=>trivial
     | some b =>
       rw [Dn] at hy
       subst hy
       exact ⟨.bl b,fun _=>by rw [Dn],fun Q h=>⟨v,n,_,b,rfl,aU8 e hx,e2,h⟩⟩
 | _=>trivial
theorem Rel.take (R:Rel cm ms B U As σ H ρ) (i:Nat):Rel cm ms B U (fun j=>if j=i then [] else As j) σ H (ρ.set i none)∧∀ a∈As i,U a=none∧∀ j,a∉(fun j=>if j=i then [] else As j) j:=by
 refine ⟨⟨R.bu,R.uh,fun j=>?_,fun j k a hne ha hb=>?_,fun j a ha=>?_,fun j=>?_,by rw [List.length_set]; exact R.len,R.tb⟩,fun a ha=>⟨R.un i a ha,fun j hj=>?_⟩⟩
 · show (if j=i then [] else As j).Nodup
   split
   · exact List.nodup_nil
   · exact R.nd j
 · replace ha:a∈(if j=i then [] else As j):=ha
   replace hb:a∈(if k=i then [] else As k):=hb
   split at ha
   · cases ha
   · split at hb
     · cases hb
     · exact R.dj j k a hne ha hb
 · replace ha:a∈(if j=i then [] else As j):=ha
   split at ha
   · cases ha
   · exact R.un j a ha
 · show Lo cm B U H (ms.getD j .F) (rg (ρ.set i none) j) (rg σ j) (if j=i then [] else As j)
   rw [ag6]
   by_cases e:i=j
   · subst e
     rw [if_pos rfl]
     by_cases h:i < ρ.length
     · rw [if_pos ⟨rfl,h⟩]; exact rfl
     · rw [if_neg fun z=>h z.2]
       have:rg ρ i=none:=by unfold rg; rw [List.getElem?_eq_none (by omega)]; rfl
       rw [this]; exact rfl
   · rw [if_neg fun z=>e z.1,if_neg fun z=>e z.symm]
     exact R.lo j
 · replace hj:a∈(if j=i then [] else As j):=hj
   split at hj
   · cases hj
   · rename_i z; exact R.dj i j a (fun q=>z q.symm) ha hj
noncomputable def ac6:D→Bool | .int _=>true | .bl _=>true | .non=>true | .str _=>true | _=>false
noncomputable def bi8:D→Bool
 | .lst xs=>xs.all ac6
 | .scr xs=>xs.all ac6
 | .tup xs=>xs.all ac6
 | .dK _ xs=>xs.all ac6
 | .dT _ xs=>xs.all ac6
 | .obj _ _ xs=>xs.all ac6
 | d=>ac6 d
noncomputable def chkS (m:Env→Res D):Env→Res D:=fun ρ=>(m ρ).bind fun d=>if bi8 d=true then .ok d else .bad
theorem aj5 {G G':Hp} {d:D} {v:V} (h:ac6 d=true) (q:Dn cm G d v):Dn cm G' d v:=by
 cases d with
 | int _=>rw [Dn] at q ⊢; exact q
 | bl _=>rw [Dn] at q ⊢; exact q
 | non=>rw [Dn] at q ⊢; exact q
 | str _=>rw [Dn] at q ⊢; exact q
 | _=>cases h
theorem ai2 {G G':Hp}:∀ {ds:List D} {xs:List V},ds.all ac6=true→Dns cm G ds xs→Dns cm G' ds xs
 | [],_,_,q=>by rw [Dns] at q ⊢; exact q
 | d :: ds,_,h,q=>by
   rw [List.all_cons,Bool.and_eq_true] at h
   rw [Dns] at q ⊢
   obtain ⟨x,r,e,h1,h2⟩:=q
   exact ⟨x,r,e,aj5 h.1 h1,ai2 h.2 h2⟩
theorem cS {k k':Kd} {t:TE} {m:Env→Res D} (h:PJ cm (KC cm k) E ms t m):PJ cm (KC cm k') E ms t (chkS m):=by
 intro B U As σ H ρ Q R P
 refine h.bnd R P fun x v B1 U1 H1 N1 _ R1 e1 n1 d1 P1=>?_
 by_cases z:bi8 x=true
 · rw [if_pos z] at P1
   refine P1 v B1 U1 H1 [] R1 (Gw.refl _ _ _) New.nil ?_
   cases x with
   | lst ds=>obtain ⟨a,xs,r,h1,h2⟩:=d1; exact ⟨a,xs,r,h1,ai2 z h2⟩
   | scr ds=>obtain ⟨a,xs,r,h1,h2⟩:=d1; exact ⟨a,xs,r,h1,ai2 z h2⟩
   | tup ds=>obtain ⟨a,xs,r,h1,h2⟩:=d1; exact ⟨a,xs,r,h1,ai2 z h2⟩
   | dK ks ds=>obtain ⟨a,xs,r,h1,h2,h3⟩:=d1; exact ⟨a,xs,r,h1,h2,ai2 z h3⟩
   | dT ks ds=>obtain ⟨a,xs,r,h1,h2,h3⟩:=d1; exact ⟨a,xs,r,h1,h2,ai2 z h3⟩
   | obj c ns ds=>obtain ⟨a,dx,xs,r,h1,h2,h3⟩:=d1; exact ⟨a,dx,xs,r,h1,h2,ai2 z h3⟩
   | int _=>exact aj5 (G:=hp k B1 U1 H1) z d1
   | bl _=>exact aj5 (G:=hp k B1 U1 H1) z d1
   | non=>exact aj5 (G:=hp k B1 U1 H1) z d1
   | str _=>exact aj5 (G:=hp k B1 U1 H1) z d1
   | ty _=>cases z
 · rw [if_neg z] at P1
   exact P1.elim
theorem rS {k:Kd} {t:TE} {m:Env→Res D} (h:PJ cm (KR cm .X) E ms t m):PJ cm (KR cm .F) E ms t (fun ρ=>(m ρ).bind fun d=>if ac6 d=true then .ok d else .bad):=by
 intro B U As σ H ρ Q R P
 refine h.bnd R P fun x v B1 U1 H1 N1 _ R1 e1 n1 d1 P1=>?_
 by_cases z:ac6 x=true
 · rw [if_pos z] at P1
   exact P1 v B1 U1 H1 [] R1 (Gw.refl _ _ _) New.nil (aj5 z d1)
 · rw [if_neg z] at P1
   exact P1.elim
noncomputable def kD:Key→D | .inl i=> .int i | .inr x=> .str x
noncomputable def bD6:D→Res D | .dT ks _=> .ok (.lst (ks.map fun k=> .tup (k.map kD))) | _=> .bad
theorem br8 {G:Hp}:∀ k:List Key,Dns cm G (k.map kD) (k.map kV)
 | []=>by rw [List.map_nil,List.map_nil,Dns]
 | x :: k=>by
   rw [List.map_cons,List.map_cons,Dns]
   refine ⟨_,_,rfl,?_,br8 k⟩
   cases x with
   | inl i=>show Dn cm G (.int i) (.int i); rw [Dn]
   | inr i=>show Dn cm G (.str i) (.str i); rw [Dn]
theorem Dns.of_get {G:Hp}:∀ {ds:List D} {xs:List V},ds.length=xs.length→(∀ (i:Nat) d x,ds[i]?=some d→xs[i]?=some x→Dn cm G d x)→Dns cm G ds xs
 | [],xs,h,_=>by
   rw [Dns]
   exact List.length_eq_zero_iff.mp h.symm
 | d :: ds,[],h,_=>by cases h
 | d :: ds,x :: xs,h,k=>by
   rw [Dns]
   exact ⟨x,xs,rfl,k 0 d x rfl rfl,Dns.of_get (by simpa using h) fun i d x e1 e2=>k (i + 1) d x (by simpa using e1) (by simpa using e2)⟩
theorem bA1 {k:Kd} {ta:TE} {ma:Env→Res D} (ha:PJ cm (KC cm k) E ms ta ma):PJ cm (KO cm (.ct .fz)) E ms (tCB (fun xs H Q=>∃ a kvs,xs=[.ref a]∧H a=some (.dT kvs) ∧
 ∀ (ks:List Addr) (l:Addr),ks.length=kvs.length→(∀ (i:Nat) k v b,kvs[i]?=some (k,v)→ks[i]?=some b→H b=some (.tup (k.map kV)))→H l=none→Q (.ref l) (upd H l (.lst (ks.map V.ref)))) (af3 ta tNil)) (un bD6 ma):=by
 intro B U As σ H ρ Q R P
 refine ha.bnd R P fun x v B1 U1 H1 N1 _ R1 e1 n1 d1 P1=>?_
 cases x with
 | dT ks ds =>
   obtain ⟨a,kvs,rfl,h1,h2,h3⟩:=d1
   refine ⟨a,kvs,rfl,h1,fun bs l hl hk hn=>?_⟩
   have tupAt:∀ b∈bs,∃ o,H1 b=some o∧aq9 o:=fun b hb=>by
    obtain ⟨i,hi,e⟩:=List.getElem_of_mem hb
    have h4:bs[i]?=some b:=by rw [← e]; exact List.getElem?_eq_getElem hi
    have h5:kvs[i]?=some (kvs[i]'(by omega)):=List.getElem?_eq_getElem (by omega)
    exact ⟨_,hk i _ _ b (by rw [h5]) h4,_,rfl⟩
   have R2:Rel cm ms (Mi.frz B1 H1 bs) (Mi.frz U1 H1 bs) As σ H1 ρ:=R1.grow (ad4 R1.bh) (ad4 R1.uh) (Same.refl _) (aB4 R1.bu) (aK9 R1.uh) fun i a ha=>by
    unfold Mi.frz
    split
    · rename_i z
      obtain ⟨o,e,t⟩:=tupAt a z
      exact (R1.nt ha e t).elim
    · exact R1.un i a ha
   have g2:Gw B1 U1 H1 (Mi.frz B1 H1 bs) (Mi.frz U1 H1 bs) H1:=by
    refine ⟨⟨ad4 R1.bh,ad4 R1.uh,fun a o q=>?_⟩,Same.refl _,fun a o q=>?_⟩
    · unfold Mi.frz at q
      split at q
      · rename_i z
        obtain ⟨o',e,t⟩:=tupAt a z
        rw [e] at q; cases q
        exact .inr (.inr t)
      · exact .inl q
    · unfold Mi.frz at q
      split at q
      · rename_i z
        obtain ⟨o',e,t⟩:=tupAt a z
        rw [e] at q; cases q
        exact .inr (.inr t)
      · exact .inl q
   have P2:Po cm (KO cm (.ct .fz)) E ms (Mi.frz B1 H1 bs) (Mi.frz U1 H1 bs) As σ H1 ρ (.ok (.lst (ks.map fun k=> .tup (k.map kD)))) Q:=Po.at P1 g2
   refine ak9 R2 P2 (Dns.of_get (by rw [List.length_map,List.length_map,hl,← h2,List.length_map]) fun i d x ed ex=>?_) hn
   rw [List.getElem?_map] at ed ex
   obtain ⟨kk,ek,rfl⟩:=Option.map_eq_some_iff.mp ed
   obtain ⟨b,eb,rfl⟩:=Option.map_eq_some_iff.mp ex
   rw [← h2,List.getElem?_map] at ek
   obtain ⟨kv,ekv,rfl⟩:=Option.map_eq_some_iff.mp ek
   have hb:=hk i kv.1 kv.2 b ekv eb
   rw [Dn]
   refine ⟨b,_,rfl,?_,br8 kv.1⟩
   unfold Mi.frz
   rw [if_pos (List.mem_of_getElem? eb)]
   exact hb
 | _=>exact P1.elim
noncomputable def ad6:List D→Option (List Int)
 | []=>some []
 | .int i :: r=>(ad6 r).map (i :: ·)
 | _ :: _=>none
theorem af6 {G:Hp}:∀ {ds:List D} {ns:List Int} {xs:List V},ad6 ds=some ns→Dns cm G ds xs→xs=ns.map V.int
 | [],ns,xs,e,h=>by rw [Dns] at h; cases e; rw [h]; rfl
 | d :: ds,ns,xs,e,h=>by
   rw [Dns] at h
   obtain ⟨x,r,rfl,h1,h2⟩:=h
   cases d with
   | int i =>
     rw [ad6] at e
     obtain ⟨ms,e1,rfl⟩:=Option.map_eq_some_iff.mp e
     rw [Dn] at h1
     rw [af6 e1 h2,h1,List.map_cons]
   | _=>cases e
noncomputable def af0:List Int→Int→Int
 | [],m=>m
 | x :: r,m=>af0 r (if x < m then x else m)
noncomputable def aj9:List Int→Int→Int
 | [],m=>m
 | x :: r,m=>aj9 r (if m < x then x else m)
theorem am7:∀ (l:List Int) (m:Int),(af0 l m=m∨af0 l m∈l)∧af0 l m≤m∧∀ x∈l,af0 l m≤x
 | [],m=>⟨.inl rfl,Int.le_refl _,fun _ h=>(nomatch h)⟩
 | x :: r,m=>by
   unfold af0
   obtain ⟨h1,h2,h3⟩:=am7 r (if x < m then x else m)
   refine ⟨?_,?_,fun y hy=>?_⟩
   · rcases h1 with h1 | h1
     · by_cases z:x < m
       · rw [if_pos z] at h1 ⊢; exact .inr (by rw [h1]; exact List.mem_cons_self)
       · rw [if_neg z] at h1 ⊢; exact .inl h1
     · exact .inr (List.mem_cons_of_mem _ h1)
   · split at h2 <;> split <;> omega
   · rcases List.mem_cons.mp hy with z | z
     · subst z; split at h2 <;> split <;> omega
     · exact h3 y z
theorem ao9:∀ (l:List Int) (m:Int),(aj9 l m=m∨aj9 l m∈l)∧m≤aj9 l m∧∀ x∈l,x≤aj9 l m
 | [],m=>⟨.inl rfl,Int.le_refl _,fun _ h=>(nomatch h)⟩
 | x :: r,m=>by
   unfold aj9
   obtain ⟨h1,h2,h3⟩:=ao9 r (if m < x then x else m)
   refine ⟨?_,?_,fun y hy=>?_⟩
   · rcases h1 with h1 | h1
     · by_cases z:m < x
       · rw [if_pos z] at h1 ⊢; exact .inr (by rw [h1]; exact List.mem_cons_self)
       · rw [if_neg z] at h1 ⊢; exact .inl h1
     · exact .inr (List.mem_cons_of_mem _ h1)
   · split at h2 <;> split <;> omega
   · rcases List.mem_cons.mp hy with z | z
     · subst z; split at h2 <;> split <;> omega
     · exact h3 y z
noncomputable def extD (f:List Int→Int→Int) (x d:D):Res D:=match x with
 | .lst ds=>(match ad6 ds with | some []=>(if ac6 d=true then .ok d else .bad) | some (n :: ns)=> .ok (.int (f ns n)) | none=> .bad)
 | _=> .bad
theorem bK7 {ta td:TE} {ma md:Env→Res D} (ha:PJ cm (KR cm .X) E ms ta ma) (hd:PJ cm (KR cm .X) E ms td md) :
 PJ cm (KR cm .F) E ms (tCBK (fun xs zs H Q=>∃ p ns d,xs=[.ref p]∧zs=[d]∧SqL K H p (ns.map V.int)∧(ns=[]→Q d H)∧∀ m∈ns,(∀ x∈ns,m≤x)→Q (.int m) H) (af3 ta tNil) (af3 td tNil)) (bn (extD af0) ma md):=by
 intro B U As σ H ρ Q R P
 refine ha.bnd R P fun x v B1 U1 H1 N1 _ R1 e1 n1 d1 P1=>hd.bnd R1 P1 fun y u B2 U2 H2 N2 _ R2 e2 n2 d2 P2=>?_
 have d1:Dn cm H1 x v:=d1
 cases x with
 | lst ds =>
   rw [Dn] at d1
   obtain ⟨a,xs,rfl,h1,h2⟩:=d1
   replace P2:Po cm (KR cm .F) E ms B2 U2 As σ H2 ρ (match ad6 ds with | some []=>(if ac6 y=true then .ok y else .bad) | some (n :: ns)=> .ok (.int (af0 ns n)) | none=> .bad) Q:=P2
   cases ei:ad6 ds with
   | none=>rw [ei] at P2; exact P2.elim
   | some ns =>
     have ex:=af6 ei h2
     subst ex
     cases ns with
     | nil =>
       rw [ei] at P2
       replace P2:Po cm (KR cm .F) E ms B2 U2 As σ H2 ρ (if ac6 y=true then .ok y else .bad) Q:=P2
       by_cases z:ac6 y=true
       · rw [if_pos z] at P2
         exact ⟨a,[],u,rfl,rfl,SqL.of (e2.h _ _ h1),fun _=>P2 u B2 U2 H2 [] R2 (Gw.refl _ _ _) New.nil (aj5 z d2),fun m hm=>(nomatch hm)⟩
       · rw [if_neg z] at P2; exact P2.elim
     | cons n ns =>
       rw [ei] at P2
       refine ⟨a,n :: ns,u,rfl,rfl,SqL.of (e2.h _ _ h1),(fun z=>by cases z),fun m hm hle=>?_⟩
       obtain ⟨s1,s2,s3⟩:=am7 ns n
       have em:m=af0 ns n:=by
        have l1:af0 ns n∈n :: ns:=by
         rcases s1 with z | z
         · rw [z]; exact List.mem_cons_self
         · exact List.mem_cons_of_mem _ z
        have l2:=hle _ l1
        rcases List.mem_cons.mp hm with z | z
        · rw [z] at l2 ⊢; omega
        · have:=s3 m z; omega
       rw [em]
       exact P2 _ B2 U2 H2 [] R2 (Gw.refl _ _ _) New.nil (show Dn cm _ (.int (af0 ns n)) _ by rw [Dn])
 | _=>exact P2.elim
theorem bK8 {ta td:TE} {ma md:Env→Res D} (ha:PJ cm (KR cm .X) E ms ta ma) (hd:PJ cm (KR cm .X) E ms td md) :
 PJ cm (KR cm .F) E ms (tCBK (fun xs zs H Q=>∃ p ns d,xs=[.ref p]∧zs=[d]∧SqL K H p (ns.map V.int)∧(ns=[]→Q d H)∧∀ m∈ns,(∀ x∈ns,x≤m)→Q (.int m) H) (af3 ta tNil) (af3 td tNil)) (bn (extD aj9) ma md):=by
 intro B U As σ H ρ Q R P
 refine ha.bnd R P fun x v B1 U1 H1 N1 _ R1 e1 n1 d1 P1=>hd.bnd R1 P1 fun y u B2 U2 H2 N2 _ R2 e2 n2 d2 P2=>?_
 have d1:Dn cm H1 x v:=d1
 cases x with
 | lst ds =>
   rw [Dn] at d1
   obtain ⟨a,xs,rfl,h1,h2⟩:=d1
   replace P2:Po cm (KR cm .F) E ms B2 U2 As σ H2 ρ (match ad6 ds with | some []=>(if ac6 y=true then .ok y else .bad) | some (n :: ns)=> .ok (.int (aj9 ns n)) | none=> .bad) Q:=P2
   cases ei:ad6 ds with
   | none=>rw [ei] at P2; exact P2.elim
   | some ns =>
     have ex:=af6 ei h2
     subst ex
     cases ns with
     | nil =>
       rw [ei] at P2
       replace P2:Po cm (KR cm .F) E ms B2 U2 As σ H2 ρ (if ac6 y=true then .ok y else .bad) Q:=P2
       by_cases z:ac6 y=true
       · rw [if_pos z] at P2
         exact ⟨a,[],u,rfl,rfl,SqL.of (e2.h _ _ h1),fun _=>P2 u B2 U2 H2 [] R2 (Gw.refl _ _ _) New.nil (aj5 z d2),fun m hm=>(nomatch hm)⟩
       · rw [if_neg z] at P2; exact P2.elim
     | cons n ns =>
       rw [ei] at P2
       refine ⟨a,n :: ns,u,rfl,rfl,SqL.of (e2.h _ _ h1),(fun z=>by cases z),fun m hm hle=>?_⟩
       obtain ⟨s1,s2,s3⟩:=ao9 ns n
       have em:m=aj9 ns n:=by
        have l1:aj9 ns n∈n :: ns:=by
         rcases s1 with z | z
         · rw [z]; exact List.mem_cons_self
         · exact List.mem_cons_of_mem _ z
        have l2:=hle _ l1
        rcases List.mem_cons.mp hm with z | z
        · rw [z] at l2 ⊢; omega
        · have:=s3 m z; omega
       rw [em]
       exact P2 _ B2 U2 H2 [] R2 (Gw.refl _ _ _) New.nil (show Dn cm _ (.int (aj9 ns n)) _ by rw [Dn])
 | _=>exact P2.elim
noncomputable def aE9:D→Res D
 | .lst ds=>(match ad6 ds with | some ns=>(if ns.length < 4000 then .ok (.int (dd ns).length) else .bad) | none=> .bad)
 | _=> .bad
theorem bk0 {ta:TE} {ma:Env→Res D} (ha:PJ cm (KR cm .X) E ms ta ma):PJ cm (KR cm .F) E ms
 (tCB (fun xs H Q=>∃ a S n,xs=[.ref a]∧H a=some (.set S n)∧Q (.int n) H) (af3 (tCB (fun xs H Q=>∃ p ns,xs=[.ref p]∧SqL K H p (ns.map V.int)∧ns.length < 4000∧∀ q,H q=none→Q (.ref q) (upd H q (.set (fun k=>(dd ns).any (· == k)) (dd ns).length))) (af3 ta tNil)) tNil)) (un aE9 ma):=by
 intro B U As σ H ρ Q R P
 refine ha.bnd R P fun x v B1 U1 H1 N1 _ R1 e1 n1 d1 P1=>?_
 have d1:Dn cm H1 x v:=d1
 cases x with
 | lst ds =>
   rw [Dn] at d1
   obtain ⟨a,xs,rfl,h1,h2⟩:=d1
   replace P1:Po cm (KR cm .F) E ms B1 U1 As σ H1 ρ (match ad6 ds with | some ns=>(if ns.length < 4000 then .ok (.int (dd ns).length) else .bad) | none=> .bad) Q:=P1
   cases ei:ad6 ds with
   | none=>rw [ei] at P1; exact P1.elim
   | some ns =>
     have ex:=af6 ei h2
     subst ex
     rw [ei] at P1
     replace P1:Po cm (KR cm .F) E ms B1 U1 As σ H1 ρ (if ns.length < 4000 then .ok (.int (dd ns).length) else .bad) Q:=P1
     by_cases z:ns.length < 4000
     · rw [if_pos z] at P1
       exact ⟨a,ns,rfl,SqL.of h1,z,fun q hq=>⟨q,_,_,rfl,ab5,P1 _ B1 U1 _ [] (R1.new hq) (Gw.newO R1 hq) New.nil (show Dn cm _ (.int _) _ by rw [Dn])⟩⟩
     · rw [if_neg z] at P1; exact P1.elim
 | _=>exact P1.elim
noncomputable def keyP:D→Option (Int×Int×List Int)
 | .tup [.int a,.int b,.lst xs]=>(ad6 xs).map fun ns=>(a,b,ns)
 | _=>none
theorem bb6 {x:D} {a b:Int} {ns:List Int} (h:keyP x=some (a,b,ns)):∃ xs,x= .tup [.int a,.int b,.lst xs]∧ad6 xs=some ns:=by
 unfold keyP at h
 split at h
 · obtain ⟨ms,e,e2⟩:=Option.map_eq_some_iff.mp h
   cases e2
   exact ⟨_,rfl,e⟩
 · cases h
theorem at8 {x:D} {v:V} {a b:Int} {ns:List Int} (e:keyP x=some (a,b,ns)) (hx:Dn cm H x v):∃ p l,v= .ref p∧SqT K H p [.int a,.int b,.ref l]∧SqL K H l (ns.map V.int):=by
 obtain ⟨xs,rfl,e9⟩:=bb6 e
 rw [Dn] at hx
 obtain ⟨p,ys,rfl,h1,h2⟩:=hx
 rw [Dns] at h2
 obtain ⟨x1,r1,rfl,d1,h3⟩:=h2
 rw [Dns] at h3
 obtain ⟨x2,r2,rfl,d2,h4⟩:=h3
 rw [Dns] at h4
 obtain ⟨x3,r3,rfl,d3,h5⟩:=h4
 rw [Dns] at h5
 rw [Dn] at d1; rw [Dn] at d2; rw [Dn] at d3
 obtain ⟨l,zs,rfl,h6,h7⟩:=d3
 subst d1 d2 h5
 rw [af6 e9 h7] at h6
 exact ⟨p,l,rfl,SqT.of h1,SqL.of h6⟩
end
end Mi
namespace Mi
open PySem L2
noncomputable def ax1:List Ap→List Md→Bool
 | [],[]=>true
 | p :: ps,m :: r=>fits [] true p m && ax1 ps r
 | _,_=>false
theorem ah8:∀ {ps:List Ap} {mc:List Md},ax1 ps mc=true→ps.length=mc.length
 | [],[],_=>rfl
 | [],_ :: _,h=>by cases h
 | _ :: _,[],h=>by cases h
 | p :: ps,m :: r,h=>by
   have h:(fits [] true p m && ax1 ps r)=true:=h
   rw [Bool.and_eq_true] at h
   rw [List.length_cons,List.length_cons,ah8 h.2]
theorem ah9 {ms:List Md}:∀ {ps:List Ap} {mc:List Md},ax1 ps mc=true→∀ (j:Nat) p,ps[j]?=some p→fits ms true p (mc.getD j .F)=true
 | [],_,_,_,_,e=>by cases e
 | _ :: _,[],h,_,_,_=>by cases h
 | p :: ps,m :: r,h,j,q,e=>by
   have h:(fits [] true p m && ax1 ps r)=true:=h
   rw [Bool.and_eq_true] at h
   cases j with
   | zero =>
     cases e
     have:=h.1
     cases p <;> cases m <;> first | exact this | cases this
   | succ j=>rw [List.getD_cons_succ]; exact ah9 h.2 j q (by simpa using e)
noncomputable def pc (fm:List D→Out D) (a:Env→Res (List D)):Env→Res D:=fun ρ=>(a ρ).bind (ao4 fm)
noncomputable def pm (c:Nat) (mn:Str) (fm:List D→Out D) (o:Env→Res D) (a:Env→Res (List D)):Env→Res D:=fun ρ=>(o ρ).bind fun o=>if am0 c mn o=true then (a ρ).bind fun ds=>ao4 fm (o :: ds) else .bad
noncomputable def pk (c:Nat) (fm:List D→Out D) (a:Env→Res (List D)):Env→Res D:=fun ρ=>(a ρ).bind (aE5 c fm)
noncomputable def mc (ps:List Ap) (fm:List D→Out D) (a:Env→Res (List D)):Env→Out D:=fun ρ=>((a ρ).up ρ).bind (aU4 ps fm)
section
variable {cm:Cm} {Kr:KT D V} {pr:Nat→Bool} {ms:List Md} {K:PySem.W.Frag}
theorem KR.u {d:D} {v:V} {B U U' H:Hp} {N:List Addr} (h:KR cm .F d v B U H N):KR cm .F d v B U' H N:=h
theorem KO.u {s:Sh} {d:D} {v:V} {B U U' H:Hp} {N:List Addr} (h:KO cm s d v B U H N):KO cm s d v B U' H N:=h
theorem ao8 {msC:List Md} {fm:List D→Out D} {ps:List Ap} {t:TA} {m:Env→Res (List D)} (h:AJ cm E0 ms ps t m) (hf:ax1 ps msC=true):PJ cm (KR cm .F) E0 ms (bi5 (spZ cm msC (KR cm .F) fm) [] E0 t) (pc fm m) :=
 bq4 h (ah8 hf) (ah9 hf) fun _ _ _ _ _ _ _ h=>h
theorem bK4 {s:Sh} {msC:List Md} {fm:List D→Out D} {ps:List Ap} {t:TA} {m:Env→Res (List D)} (h:AJ cm E0 ms ps t m) (hf:ax1 ps msC=true):PJ cm (KO cm s) E0 ms (bi5 (spZ cm msC (KO cm s) fm) [] E0 t) (pc fm m) :=
 bq4 h (ah8 hf) (ah9 hf) fun _ _ _ _ _ _ _ h=>h
theorem aD5 {c:Nat} {mn:Str} {msC:List Md} {fm:List D→Out D} {p:Ap} {ps:List Ap} {ta:TE} {ma:Env→Res D} {t:TA} {m:Env→Res (List D)} (ha:A1J cm E0 ms p ta ma) (h:AJ cm E0 ms ps t m) (hf:ax1 (p :: ps) msC=true) :
 PJ cm (KR cm .F) E0 ms (aH9 (cm c) mn (spZ cm msC (KR cm .F) fm) [] E0 ta t) (pm c mn fm ma m):=bq3 ha h (ah8 hf) (ah9 hf) fun _ _ _ _ _ _ _ h=>h
theorem bJ6 {s:Sh} {c:Nat} {mn:Str} {msC:List Md} {fm:List D→Out D} {p:Ap} {ps:List Ap} {ta:TE} {ma:Env→Res D} {t:TA} {m:Env→Res (List D)} (ha:A1J cm E0 ms p ta ma) (h:AJ cm E0 ms ps t m) (hf:ax1 (p :: ps) msC=true) :
 PJ cm (KO cm s) E0 ms (aH9 (cm c) mn (spZ cm msC (KO cm s) fm) [] E0 ta t) (pm c mn fm ma m):=bq3 ha h (ah8 hf) (ah9 hf) fun _ _ _ _ _ _ _ h=>h
theorem bJ7 {c:Nat} {sh:List (Str×Sh)} {msC:List Md} {fm:List D→Out D} {ps:List Ap} {t:TA} {m:Env→Res (List D)} (h:AJ cm E0 ms ps t m) (hf:ax1 ps msC=true) :
 PJ cm (KO cm (.ob sh)) E0 ms (bs4 (cm c) (spZ cm (.O (.ob sh) :: msC) (KR cm .F) fm) [] E0 t) (pk c fm m) :=
 bK9 h (by rw [List.length_cons,ah8 hf]) rfl fun j p e=>by rw [List.getD_cons_succ]; exact ah9 hf j p e
theorem rnon {B U H:Hp} {N:List Addr}:KR cm .F .non .non B U H N:=show Dn cm B .non .non by rw [Dn]
end
theorem au6 {cm:Cm} {G:Hp}:∀ ns:List Int,Dns cm G (ns.map D.int) (ns.map V.int)
 | []=>by rw [List.map_nil,List.map_nil,Dns]
 | n :: r=>by
   rw [List.map_cons,List.map_cons,Dns]
   exact ⟨_,_,rfl,by rw [Dn],au6 r⟩
theorem bO7 {cm:Cm} {fm:List D→Out D} (h:∀ ns:List Int,ns.length≤63→∃ ρ,fm [.scr (ns.map D.int)]= .ok (.bl true) ρ) {vs:List V} {H:Hp} {Q:VK} {a:Addr} {ns:List Int} (hv:vs=[.ref a]) (hs:SqF cm.K H a (ns.map V.int)) (hl:ns.length≤63) (ht:∀ p∈cm.tb,∃ l,H p.1=some (.tbl l)∧p.2∈l) (hq:∀ H',Q (.bl true) H') :
 spM cm [.R] (KR cm .F) fm vs H Q E0:=by
 subst hv
 obtain ⟨ρ,e⟩:=h ns hl
 refine ⟨H,H,fun _=>[],[.scr (ns.map D.int)],⟨Same.refl _,Same.refl _,fun _=>List.nodup_nil,fun _ _ _ _ z=>(nomatch z),fun _ _ z=>(nomatch z),fun i=>?_,rfl,ht⟩,rfl,?_⟩
 · rw [ah0,ah0]
   cases i with
   | zero=>exact ⟨.ref a,rfl,by show Dn cm H (.scr _) _; rw [Dn]; exact ⟨a,_,rfl,hs,au6 ns⟩,rfl⟩
   | succ i=>exact rfl
 · rw [e]
   intro v B' U' As' H' N R' e' n' k
   have k:Dn cm B' (.bl true) v:=k
   rw [Dn] at k
   rw [k]
   exact hq H'
theorem bI0 {K:PySem.W.Frag} {H:Hp} {a:Addr} {xs:List V} {T:Tbs} (o:Only T H) (h:SqL K H a xs):SqF K H a xs:=by
 rcases h with (h | h) | h
 · rcases o.2 a with z | ⟨ob,ys,z⟩ | z
   · rw [z] at h; cases h
   · rw [z] at h; cases h
   · rw [z] at h; cases h
 · exact .inl h
 · exact .inr h
theorem tb_of {H:Hp} {T:Tbs} (o:Only T H):∀ p∈T,∃ l,H p.1=some (.tbl l)∧p.2∈l:=fun p hp=>⟨_,o.1 p hp,Tbs.mem.mpr hp⟩
noncomputable def sc1 (m:Env→Res D):Env→Res D:=fun ρ=>(m ρ).bind fun d=>if ac6 d=true then .ok d else .bad
end Mi
namespace L2
open PySem PySem.Spec PyProof.Rows
section
variable {X:Cx} (K:PySem.W.Frag)
theorem ab0 (h:X.K=K):IxR X (rIxL K):=by subst h; exact bD7
theorem aA6 (h:X.K=K):IxR X (rIxT K):=by subst h; exact bP3
theorem ab6 (h:X.K=K):ak7 X (.builtin "len") (fun xs H Q=>∃ p ys,xs=[.ref p]∧(SqL K H p ys∨SqT K H p ys)∧Q (.int ys.length) H):=by subst h; exact aH1
theorem af5 (h:X.K=K):ak7 X (.type "list") (fun xs H Q=>∃ p ys,xs=[.ref p]∧(SqL K H p ys∨SqT K H p ys)∧∀ l,H l=none→Q (.ref l) (upd H l (.lst ys))):=by subst h; exact aH0
theorem ad7 (h:X.K=K):ak7 X (.type "tuple") (fun xs H Q=>∃ p ys,xs=[.ref p]∧((SqL K H p ys∧∀ l,H l=none→Q (.ref l) (upd H l (.tup ys)))∨(SqT K H p ys∧Q (.ref p) H))):=by subst h; exact aB9
theorem aU2 (h:X.K=K) (hc:X.calm=true):ak7 X (.type "set") (fun xs H Q=>∃ p ns,xs=[.ref p]∧SqL K H p (ns.map V.int)∧ns.length < 4000∧∀ q,H q=none→Q (.ref q) (upd H q (.set (fun k=>(dd ns).any (· == k)) (dd ns).length))):=by subst h; exact bh2 hc
theorem aU5 (h:X.K=K) (hc:X.calm=true):aH7 X (.builtin "min") ["default"] (fun xs zs H Q=>∃ p ns d,xs=[.ref p]∧zs=[d]∧SqL K H p (ns.map V.int)∧(ns=[]→Q d H)∧∀ m∈ns,(∀ x∈ns,m≤x)→Q (.int m) H):=by subst h; exact bh6 hc
theorem aU6 (h:X.K=K) (hc:X.calm=true):aH7 X (.builtin "max") ["default"] (fun xs zs H Q=>∃ p ns d,xs=[.ref p]∧zs=[d]∧SqL K H p (ns.map V.int)∧(ns=[]→Q d H)∧∀ m∈ns,(∀ x∈ns,x≤m)→Q (.int m) H):=by subst h; exact bh7 hc
theorem aZ9 (h:X.K=K) (hu:X.A.units + 64 < cLine):OpR X (compareOp .NotEq) (rEqD K true):=by subst h; exact bL0 hu
theorem ak5 (h:X.K=K):ak7 X (.builtin "isinstance") (fun xs H Q=>∃ x c t b,xs=[x,.ty c]∧TyOf K H x t∧PySem.W.kitOne K t (.type c)=some b∧Q (.bl b) H):=by subst h; exact bn3
theorem am4 {e:Expr} {ta:TE} {f:Str} {pos:Pos} (h:X.K=K) (he:PE X e ta) (hb:attributeBase e f X.env (eval e X.env)=eval e X.env):PE X (.Attribute e f pos) (tFld K ta f):=by subst h; exact bK1 he hb
theorem bj6 {tg l:Expr} {tl:TE} (h:X.K=K) (hl:PE X l tl):PI X tg l (bD8 K tl):=by subst h; exact bz5 hl
end
end L2
namespace Mi
open PySem L2
noncomputable def spT (K:PySem.W.Frag) (T:Tbs):Sp:=fun vs H Q _=>∃ (a:Addr) (ns:List Int),vs=[.ref a]∧SqF K H a (ns.map V.int)∧ns.length≤63∧(∀ p∈T,∃ l,H p.1=some (.tbl l)∧p.2∈l)∧∀ H',Q (.bl true) H'
section
variable {cm:Cm} {E:XK} {ms:List Md}
theorem fF (i:Nat) (hm:ms.getD i .F= .F:=by rfl):PJ cm (KR cm .F) E ms (tVar i) (vr i):=xF hm
theorem fR (i:Nat) (hm:ms.getD i .F= .R:=by rfl):PJ cm (KR cm .U) E ms (tVar i) (vr i):=xR hm
theorem fO (i:Nat) {sh:Sh} (hm:ms.getD i .F= .O sh:=by rfl):PJ cm (KR cm .X) E ms (tVar i) (vr i):=xO hm
theorem fC (i:Nat) (hm:ms.getD i .F= .O (.ct .fz):=by rfl):PJ cm (KC cm .F) E ms (tVar i) (vr i):=xC hm
end
end Mi
namespace L2
open PySem
theorem lenV0 {P:List Value→Prop} (h:P []):∀ us:List Value,us.length=0→P us:=by
 intro us hl
 rw [List.length_eq_zero_iff.mp hl]; exact h
theorem bb3 {P:List Value→Prop} (h:∀ a0:Value,P [a0]):∀ us:List Value,us.length=1→P us:=by
 intro us hl
 cases us with
 | nil=>cases hl
 | cons a us=>exact lenV0 (P:=fun us=>P (a :: us)) (h a) us (Nat.succ.inj hl)
theorem aE8 {P:List Value→Prop} (h:∀ a0 a1:Value,P [a0,a1]):∀ us:List Value,us.length=2→P us:=by
 intro us hl
 cases us with
 | nil=>cases hl
 | cons a us=>exact bb3 (P:=fun us=>P (a :: us)) (h a) us (Nat.succ.inj hl)
theorem bb2 {P:List Value→Prop} (h:∀ a0 a1 a2:Value,P [a0,a1,a2]):∀ us:List Value,us.length=3→P us:=by
 intro us hl
 cases us with
 | nil=>cases hl
 | cons a us=>exact aE8 (P:=fun us=>P (a :: us)) (h a) us (Nat.succ.inj hl)
theorem bO5 {P:List Value→Prop} (h:∀ a0 a1 a2 a3:Value,P [a0,a1,a2,a3]):∀ us:List Value,us.length=4→P us:=by
 intro us hl
 cases us with
 | nil=>cases hl
 | cons a us=>exact bb2 (P:=fun us=>P (a :: us)) (h a) us (Nat.succ.inj hl)
theorem lenV5 {P:List Value→Prop} (h:∀ a0 a1 a2 a3 a4:Value,P [a0,a1,a2,a3,a4]):∀ us:List Value,us.length=5→P us:=by
 intro us hl
 cases us with
 | nil=>cases hl
 | cons a us=>exact bO5 (P:=fun us=>P (a :: us)) (h a) us (Nat.succ.inj hl)
theorem lenV6 {P:List Value→Prop} (h:∀ a0 a1 a2 a3 a4 a5:Value,P [a0,a1,a2,a3,a4,a5]):∀ us:List Value,us.length=6→P us:=by
 intro us hl
 cases us with
 | nil=>cases hl
 | cons a us=>exact lenV5 (P:=fun us=>P (a :: us)) (h a) us (Nat.succ.inj hl)
end L2
namespace L2
open PySem PySem.Spec PyProof.Rows
section
variable {P:Program} {w:World} {H H':Hp} {h h':Heap} {a:Addr} {o:HO}
theorem ObjOk.ex (x:ObjOk P w H h a o):∃ u,h.get? a=some u:=by
 cases o with
 | lst xs=>obtain ⟨_,_,_,_,e⟩:=x; exact ⟨_,e⟩
 | tup xs=>obtain ⟨_,_,_,_,e,_⟩:=x; exact ⟨_,e⟩
 | dK kvs=>obtain ⟨_,_,_,_,o,_,_,e,_⟩:=x; exact ⟨_,e⟩
 | dT kvs=>obtain ⟨_,_,_,_,o,_,_,e,_⟩:=x; exact ⟨_,e⟩
 | set S n=>obtain ⟨o,_,_,_,e,_⟩:=x; exact ⟨_,e⟩
 | ins C dx fs=>obtain ⟨_,_,_,e,_⟩:=x; exact ⟨_,e⟩
 | own y=>obtain ⟨_,e⟩:=x; exact ⟨_,e⟩
 | xd fs=>obtain ⟨_,⟨_,_,_,e,_⟩,_⟩:=x; exact ⟨_,e⟩
 | rng lo hi=>obtain ⟨_,_,_,e⟩:=x; exact ⟨_,e⟩
 | frz ob u=>obtain ⟨e,_⟩:=x; exact ⟨_,e⟩
 | tbl l=>obtain ⟨_,_,e,_⟩:=x; exact ⟨_,e⟩
 | met f y=>exact ⟨_,show h.get? a=some _ from x⟩
 | ext φ=>obtain ⟨_,⟨_,e⟩,_⟩:=x; exact ⟨_,e⟩
theorem HOk.none (x:HOk P w H h) (e:h.get? a=Option.none):H a=Option.none:=by
 cases q:H a with
 | none=>rfl
 | some u=>obtain ⟨v,r⟩:=(x a u q).ex; rw [e] at r; cases r
end
noncomputable def CX1 (P:Program) (w:World):CXT:=fun outer H s E e s'=>∃ (ea C:Addr) (a0:Value) (B:Heap) (H':Hp),e= .ref ea∧s'.os=s.os∧AllBare s'.gens∧Un (frs outer) (frs outer) H H' s.heap B∧HOk P w H' B ∧
 Heap.FlyingW B outer ea (.ref C) a0 s'.heap∧(∀ b∈frs outer,∀ o,s.heap.get? b=some o→∃ sl,s'.heap.get? b=some { o with slots:=sl })∧(∀ b∈frs outer,H' b=none)∧E (.ref C) none H'
structure Own (X:Cx) (E:XK):Prop where
 xe:X.xe=fun e s'=>wpAny (model X.prog X.w) X.A (leaving X.env e) (fun _ s''=>CX1 X.prog X.w X.outer X.H₀ X.s₀ E e s'') (fun e' s''=>CX1 X.prog X.w X.outer X.H₀ X.s₀ E e' s'')  s'
 ex:X.ex=[]
 stk:X.stack=X.env :: X.outer
 fr:X.env.frame=some X.env.locals
section
variable {X:Cx} {E:XK} {pins:List (Addr×Obj)} {σ:St} {H:Hp} {s:Shared}
theorem Inv.above (I:Inv X pins σ H s):X.s₀.heap.get? X.env.locals=none:=Heap.get?_none_of_le I.ok.above
theorem Own.own (O:Own X E):PassesOwn (model X.prog X.w) X.A X.env X.xe:=by
 rw [O.xe]
 exact PassesOwn.leaving
end
noncomputable def mroK (K:PySem.W.Frag) (C:Addr):List Value:=match K.lookup C with
 | some ⟨_,_,.cls cd,_⟩=>cd.mro
 | _=>[]
noncomputable abbrev vBm:List Value:=[.type "ValueError",.type "Exception",.type "BaseException",.type "object"]
noncomputable def excK (K:PySem.W.Frag) (C:Addr):Bool:=PySem.W.excIn K C vBm "ValueError.__new__"
noncomputable abbrev Cx.hand (X:Cx) (ea:Addr) (oe:Obj):Cx:={ X with A:=X.A.mark (some (.ref ea)),calm:=false,pn:=(ea,oe) :: X.pn,xe:=fun _ _=>False }
section
variable {X:Cx} {pins:List (Addr×Obj)} {σ:St} {H:Hp} {s:Shared} {ea:Addr} {oe:Obj}
theorem Cx.Ok.hand (ok:X.Ok):(X.hand ea oe).Ok:=⟨ok.mod,ok.kind,ok.glob,ok.blt,ok.above,ok.inj,ok.has,ok.cab,fun z=>(nomatch z),ok.frames,ok.stk,ok.exf,ok.bs,ok.bsz,ok.noex,ok.exfs,ok.funs,ok.frf⟩
theorem Inv.hand (I:Inv X pins σ H s) {vs:Array Value} (he:s.heap.get? ea=some oe) (hn:H ea=none) (hd:oe.data= .fields vs):Inv (X.hand ea oe) pins σ H s:=by
 refine ⟨I.ok.hand,I.os,I.bare,I.base,I.loc,I.cell,I.free,I.freeC,fun p hp=>?_,I.hok,I.len⟩
 rcases List.mem_cons.mp (show p∈(ea,oe) :: (X.pn ++ pins) from hp) with rfl | hp
 · refine ⟨he,hn,fun z=>?_,fun z=>?_,fun v z=>by rw [hd] at z; cases z⟩
   · obtain ⟨m,⟨o,es,ep,ho,hd',_⟩,_⟩:=I.loc
     replace z:ea=X.env.locals:=z
     rw [z,ho] at he
     cases he
     rw [hd] at hd'
     cases hd'
   · obtain ⟨_,o,ho,nf⟩:=I.funs.mem z
     replace ho:s.heap.get? ea=some o:=ho
     rw [he] at ho
     cases ho
     exact nf _ hd
 · exact I.pin p hp
theorem Inv.exc (I:Inv (X.hand ea oe) pins σ H s):s.heap.get? ea=some oe:=(I.pin (ea,oe) List.mem_cons_self).1
end
end L2
namespace PySem.W
open PySem PySem.Spec PySem.Calls PyProof.Rows
open Builtin Builtin.ObjectAttr Builtin.Getset_descriptor in
open Builtin Builtin.ObjectAttr Builtin.Getset_descriptor in
noncomputable def bP9 (K:Frag) (D:Addr):Bool:=findIn K (.ref D) "__getattribute__" == some (some (.builtin "BaseException.__getattribute__")) && (findIn K (.ref D) "__getattr__" == some none && (findIn K (.ref D) "__class__" == some (some (.builtin "object.__class__")) &&
 (specialIn K (.builtin "object.__class__") "__get__" == some (some (.builtin "getset_descriptor.__get__")) && (takesIn K (.builtin "object.__class__") == some true && (mroIn K D (.type "object") == some true && (mroIn K D (.type "BaseException") == some true && (clsIn K D).isSome))))))
end PySem.W
namespace Mi
open PySem L2
section
variable {cm:Cm} {Kr:KT D V} {E:XK} {pr:Nat→Bool} {ms:List Md} {K:PySem.W.Frag}
theorem Rel.slot {B U H:Hp} {As:Nat→List Addr} {σ:St} {ρ:Env} {j:Nat} {x:Option V} (R:Rel cm ms B U As σ H ρ) (h:rg ρ j=none):Rel cm ms B U As (σ.set j x) H ρ:=by
 refine ⟨R.bu,R.uh,R.nd,R.dj,R.un,fun i=>?_,by rw [List.length_set]; exact R.len,R.tb⟩
 have l:=R.lo i
 by_cases z:i=j
 · subst z
   rw [h] at l ⊢
   exact l
 · have:rg (σ.set j x) i=rg σ i:=by unfold rg; rw [List.getElem?_set_ne (Ne.symm z)]
   rw [this]
   exact l
theorem Kp.slot {σ σ':St} {j:Nat} {x:Option V} (k:Kp pr σ σ') (hp:pr j=false):Kp pr σ (σ'.set j x):=fun i hi=>by
 have:i≠j:=fun z=>by rw [z,hp] at hi; cases hi
 have e:rg (σ'.set j x) i=rg σ' i:=by unfold rg; rw [List.getElem?_set_ne (Ne.symm this)]
 rw [e]
 exact k i hi
end
noncomputable abbrev DI (β:Type):=List (List Int×β)
section
variable {β:Type}
noncomputable def encD (f:β→D) (F:DI β):D:= .dT (F.map fun p=>p.1.map Sum.inl) (F.map fun p=>f p.2)
noncomputable def DI.get (F:DI β) (k:List Int):Option β:=(F.find? fun p=>decide (p.1=k)).map (·.2)
noncomputable def DI.put (F:DI β) (k:List Int) (v:β):DI β:=if (F.get k).isSome=true then F.map fun p=>if p.1=k then (p.1,v) else p else F ++ [(k,v)]
theorem ap2 {j k:List Int}:j.map (Sum.inl:Int→Key)=k.map Sum.inl↔j=k:=by
 constructor
 · intro h
   induction j generalizing k with
   | nil=>cases k with | nil=>rfl | cons _ _=>cases h
   | cons x j ih =>
     cases k with
     | nil=>cases h
     | cons y k =>
       rw [List.map_cons,List.map_cons] at h
       injection h with h1 h2
       injection h1 with h1
       rw [h1,ih h2]
 · intro h; rw [h]
theorem am8:∀ k:List Int,aj3 (k.map D.int)=some (k.map Sum.inl)
 | []=>rfl
 | x :: k=>by rw [List.map_cons,aj3,am8 k]; rfl
theorem aQ5 {f:β→D} {k:List Int}:∀ F:DI β,ah2 (F.map fun p=>p.1.map (Sum.inl:Int→Key)) (F.map fun p=>f p.2) (k.map Sum.inl)=(DI.get F k).map f
 | []=>rfl
 | p :: F=>by
   rw [List.map_cons,List.map_cons,ah2,aQ5 F]
   unfold DI.get
   rw [List.find?_cons]
   by_cases h:p.1=k
   · rw [if_pos (ap2.mpr h),decide_eq_true h]; rfl
   · rw [if_neg (fun z=>h (ap2.mp z)),decide_eq_false h]
theorem ao1 {f:β→D} {F:DI β} {k:List Int}:aB2 (encD f F) (.tup (k.map D.int))=some ((F.get k).map f):=by
 show (aj3 (k.map D.int)).map (fun k=>ah2 (F.map fun p=>p.1.map (Sum.inl:Int→Key)) (F.map fun p=>f p.2) k)=_
 rw [am8,Option.map_some,aQ5]
theorem bc6 {k:List Int}:∀ F:DI β,hasK (F.map fun p=>p.1.map (Sum.inl:Int→Key)) (k.map Sum.inl)=(DI.get F k).isSome
 | []=>rfl
 | p :: F=>by
   have ih:=bc6 (k:=k) F
   unfold hasK DI.get at *
   rw [List.map_cons,List.any_cons,List.find?_cons,ih]
   by_cases h:p.1=k
   · rw [decide_eq_true (ap2.mpr h),decide_eq_true h]; rfl
   · rw [decide_eq_false (fun z=>h (ap2.mp z)),decide_eq_false h]; rfl
theorem aP5 {f:β→D} {k:List Int} {v:β}:∀ F:DI β,putV (F.map fun p=>p.1.map (Sum.inl:Int→Key)) (F.map fun p=>f p.2) (k.map Sum.inl) (f v)=(F.map fun p=>if p.1=k then (p.1,v) else p).map fun p=>f p.2
 | []=>rfl
 | p :: F=>by
   rw [List.map_cons,List.map_cons,putV,aP5 F,List.map_cons,List.map_cons]
   by_cases h:p.1=k
   · rw [if_pos (ap2.mpr h),if_pos h]
   · rw [if_neg (fun z=>h (ap2.mp z)),if_neg h]
theorem bm6 {f:β→D} {F:DI β} {k:List Int} {v:β} (h:F.length < ab1):bd6 (encD f F) (.tup (k.map D.int)) (f v)=some (encD f (F.put k v)):=by
 show ((aj3 (k.map D.int)).bind fun k=>if (F.map fun p=>p.1.map (Sum.inl:Int→Key)).length < ab1 then some (if hasK (F.map fun p=>p.1.map (Sum.inl:Int→Key)) k=true then D.dT (F.map fun p=>p.1.map (Sum.inl:Int→Key)) (putV (F.map fun p=>p.1.map (Sum.inl:Int→Key)) (F.map fun p=>f p.2) k (f v)) else D.dT ((F.map fun p=>p.1.map (Sum.inl:Int→Key)) ++ [k]) ((F.map fun p=>f p.2) ++ [f v])) else none)=some (D.dT ((F.put k v).map fun p=>p.1.map Sum.inl) ((F.put k v).map fun p=>f p.2))
 rw [am8,Option.bind_some,if_pos (by rw [List.length_map]; exact h),bc6]
 unfold DI.put
 by_cases q:(DI.get F k).isSome=true
 · rw [if_pos q,if_pos q,aP5,List.map_map,List.map_map]
   refine congrArg (fun z=>some (D.dT z _)) ?_
   refine List.map_congr_left fun p _=>?_
   show _=((if p.1=k then (p.1,v) else p).1).map Sum.inl
   split <;> rfl
 · rw [if_neg q,if_neg q,List.map_append,List.map_append]
   rfl
end
open PySem.Spec (countIn same sameAll)
theorem aC3 {α:Type} {f:α→D} {g:α→PyData} (h:∀ a,toPy (f a)=some (g a)):∀ l:List α,toPys (l.map f)=some (l.map g)
 | []=>rfl
 | a :: l=>by rw [List.map_cons,toPys,h a,aC3 h l]; rfl
theorem aV1 {α:Type} {f:α→D} {g:α→PyData} (h:∀ a,toPy (f a)=some (g a)) (l:List α):toPy (.lst (l.map f))=some (.list (l.map g)):=by
 rw [toPy,aC3 h]; rfl
end Mi
namespace Cl
open PySem L2 Mi
inductive OutC (σ α:Type) where
 | ok (a:α) (s:σ) | exc (c:Nat) (s:σ) | bad
inductive FlC (σ β:Type) where
 | nx (s:σ) | rt (b:β) (s:σ) | bk (s:σ) | ct (s:σ) | exc (c:Nat) (s:σ) | bad
noncomputable def SimR {α γ:Type} (e:α→γ) (r:Res γ) (q:Res α):Prop:=match q with
 | .ok a=>r= .ok (e a)
 | .exc x=>r= .exc x
 | .bad=>True
section
variable {σ α β γ δ:Type} {rep:σ→Mi.Env}
noncomputable def SimO (rep:σ→Mi.Env) (e:α→γ) (r:Out γ) (q:OutC σ α):Prop:=match q with
 | .ok a s=>r= .ok (e a) (rep s)
 | .exc x s=>r= .exc x (rep s)
 | .bad=>True
noncomputable def SimS (rep:σ→Mi.Env) (e:β→D) (r:SO) (q:FlC σ β):Prop:=match q with
 | .nx s=>r= .nx (rep s)
 | .rt b s=>r= .rt (e b) (rep s)
 | .bk s=>r= .bk (rep s)
 | .ct s=>r= .ct (rep s)
 | .exc x s=>r= .exc x (rep s)
 | .bad=>True
noncomputable def EJ (rep:σ→Mi.Env) (e:α→γ) (m:Mi.Env→Res γ) (c:σ→Res α):Prop:=∀ s,SimR e (m (rep s)) (c s)
noncomputable def NJ (rep:σ→Mi.Env) (e:α→γ) (m:Mi.Env→Out γ) (c:σ→OutC σ α):Prop:=∀ s,SimO rep e (m (rep s)) (c s)
noncomputable def TJ (rep:σ→Mi.Env) (e:β→D) (m:Mi.Env→SO) (c:σ→FlC σ β):Prop:=∀ s,SimS rep e (m (rep s)) (c s)
theorem SimR.bnd {e:α→γ} {e':β→δ} {r:Res γ} {q:Res α} {k:γ→Res δ} {l:α→Res β} (h:SimR e r q) (hk:∀ a,SimR e' (k (e a)) (l a)):SimR e' (r.bind k) (q.bind l):=by
 cases q with
 | ok a=>have h:r= .ok (e a):=h; rw [h]; exact hk a
 | exc x=>have h:r= .exc x:=h; rw [h]; exact rfl
 | bad=>trivial
theorem SimR.calm {e:α→γ} {r:Res γ} {q:Res α} (h:SimR e r q):SimR e r.calm q.calm:=by
 cases q with
 | ok a=>have h:r= .ok (e a):=h; rw [h]; exact rfl
 | exc x=>trivial
 | bad=>trivial
@[simp] noncomputable def vC (g:σ→Option α):σ→Res α:=fun s=>match g s with | some a=> .ok a | none=> .bad
@[simp] noncomputable def pC (g:σ→α):σ→Res α:=fun s=> .ok (g s)
@[simp] noncomputable def kC (a:α):σ→Res α:=fun _=> .ok a
@[simp] noncomputable def unC (f:α→Res β) (c:σ→Res α):σ→Res β:=fun s=>(c s).bind f
@[simp] noncomputable def bnC (f:α→β→Res γ) (a:σ→Res α) (b:σ→Res β):σ→Res γ:=fun s=>(a s).bind fun x=>(b s).bind fun y=>f x y
theorem bQ1 {e:α→D} {i:Nat} {g:σ→Option α} (h:∀ s,rg (rep s) i=(g s).map e):EJ rep e (vr i) (vC g):=fun s=>by
 unfold vC vr
 rw [h s]
 cases g s with
 | none=>trivial
 | some a=>exact rfl
theorem bQ4 {e:α→D} {i:Nat} {g:σ→α} (h:∀ s,rg (rep s) i=some (e (g s))):EJ rep e (vr i) (pC g):=fun s=>by
 unfold vr pC
 rw [h s]
 exact rfl
theorem ay6 {e:α→D} {d:D} {a:α} (h:e a=d):EJ rep e (cst d) (kC a):=fun s=>by subst h; exact rfl
theorem ae3 {e:α→D} {e':β→D} {F:D→Res D} {f:α→Res β} {m:Mi.Env→Res D} {c:σ→Res α} (h:∀ a,SimR e' (F (e a)) (f a)) (h1:EJ rep e m c):EJ rep e' (un F m) (unC f c):=fun s=>(h1 s).bnd h
theorem aa4 {e:α→D} {e1:β→D} {e2:γ→D} {F:D→D→Res D} {f:α→β→Res γ} {m n:Mi.Env→Res D} {c:σ→Res α} {c':σ→Res β} (h:∀ a b,SimR e2 (F (e a) (e1 b)) (f a b)) (h1:EJ rep e m c) (h2:EJ rep e1 n c'):EJ rep e2 (bn F m n) (bnC f c c'):=fun s=>(h1 s).bnd fun a=>(h2 s).bnd fun b=>h a b
theorem aT7 {e:α→D} {e':β→D} {m:Mi.Env→Res D} {c:σ→Res α} {f:α→Res β} (h:∀ a,SimR e' (.ok (e a)) (f a)) (h1:EJ rep e m c):EJ rep e' m (unC f c):=fun s=>by
 have h1:=h1 s
 unfold unC
 cases q:c s with
 | ok a=>rw [q] at h1; have h1:m (rep s)= .ok (e a):=h1; rw [h1]; exact h a
 | exc x=>rw [q] at h1; exact h1
 | bad=>trivial
noncomputable def eN:Unit→D:=fun _=> .non
noncomputable def eL (e:α→D):List α→D:=fun xs=> .lst (xs.map e)
noncomputable def eS:List Int→D:=fun xs=> .scr (xs.map D.int)
noncomputable def eTs (e:α→D):List α→D:=fun xs=> .tup (xs.map e)
noncomputable def eT2 (e:α→D) (e':β→D):α×β→D:=fun p=> .tup [e p.1,e' p.2]
noncomputable def eT3 (e:α→D) (e':β→D) (e'':γ→D):α×β×γ→D:=fun p=> .tup [e p.1,e' p.2.1,e'' p.2.2]
noncomputable def eO (e:α→D):Option α→D:=fun o=>match o with | none=> .non | some a=>e a
noncomputable abbrev eK:Int×Int×List Int→D:=eT3 D.int D.int (eL D.int)
@[simp] noncomputable def optC (o:Option α):Res α:=match o with | some a=> .ok a | none=> .bad
@[simp] noncomputable def idC (a:α):Res α:= .ok a
theorem bG8 {e:α→D} (o:Option α):SimR e (.ok (eO e o)) (optC o):=by cases o <;> trivial
theorem bQ6 {e:α→D} {F:(Mi.Env→Res D)→Mi.Env→Res D} {m:Mi.Env→Res D} {c:σ→Res α} (hF:∀ ρ a,m ρ= .ok (e a)→F m ρ= .ok (e a)) (hx:∀ ρ x,m ρ= .exc x→F m ρ= .exc x) (h:EJ rep e m c):EJ rep e (F m) c:=fun s=>by
 have h:=h s
 cases q:c s with
 | ok a=>rw [q] at h; exact hF _ _ h
 | exc x=>rw [q] at h; exact hx _ _ h
 | bad=>trivial
theorem am1 {e:α→D} {m:Mi.Env→Res D} {c:σ→Res α} (hs:∀ a,ac6 (e a)=true) (h:EJ rep e m c):EJ rep e (sc1 m) c :=
 bQ6 (F:=sc1) (fun ρ a q=>by unfold sc1; rw [q]; show (if _ then _ else _)=_; rw [if_pos (hs a)]) (fun ρ x q=>by unfold sc1; rw [q]; rfl) h
theorem br7 {e:α→D} {m:Mi.Env→Res D} {c:σ→Res α} (hs:∀ a,bi8 (e a)=true) (h:EJ rep e m c):EJ rep e (chkS m) c :=
 bQ6 (F:=chkS) (fun ρ a q=>by unfold chkS; rw [q]; show (if _ then _ else _)=_; rw [if_pos (hs a)]) (fun ρ x q=>by unfold chkS; rw [q]; rfl) h
theorem bn5 {e:α→D} (h:∀ a,ac6 (e a)=true) (xs:List α):(xs.map e).all ac6=true:=by
 rw [List.all_map,List.all_eq_true]
 exact fun a _=>h a
theorem bo2 {e:α→D} (h:∀ a,ac6 (e a)=true) (xs:List α):bi8 (eL e xs)=true:=bn5 h xs
theorem bl6 {e:α→D} (h:∀ a,ac6 (e a)=true) (o:Option α):ac6 (eO e o)=true:=by
 cases o with
 | none=>rfl
 | some a=>exact h a
@[simp] noncomputable def addC (a b:Int):Res Int:= .ok (a + b)
@[simp] noncomputable def subC (a b:Int):Res Int:= .ok (a - b)
@[simp] noncomputable def mulC (a b:Int):Res Int:=if (-(2 ^ 64) < a∧a < 2 ^ 64)∨(-(2 ^ 64) < b∧b < 2 ^ 64) then .ok (a * b) else .bad
@[simp] noncomputable def au2 (a b:Int):Res Int:=if 0 < b∧b < 1073741824 then .ok (a / b) else .bad
@[simp] noncomputable def modC (a b:Int):Res Int:=if 0 < b then .ok (a % b) else .bad
@[simp] noncomputable def powC (a b:Int):Res Int:=if 0≤b∧b≤1000000∧a.natAbs < 2 ^ 64 then .ok (a ^ b.toNat) else .bad
@[simp] noncomputable def ltC (a b:Int):Res Bool:= .ok (decide (a < b))
@[simp] noncomputable def gtC (a b:Int):Res Bool:= .ok (decide (b < a))
@[simp] noncomputable def geC (a b:Int):Res Bool:= .ok (decide (b≤a))
@[simp] noncomputable def negC (a:Int):Res Int:= .ok (-a)
@[simp] noncomputable def notC (a:Bool):Res Bool:= .ok (!a)
@[simp] noncomputable def eqC [DecidableEq α] (neg:Bool) (a b:α):Res Bool:= .ok (neg.xor (decide (a=b)))
theorem aS7 (a b:Int):SimR D.int (addI (.int a) (.int b)) (addC a b):=rfl
theorem aS6 (a b:Int):SimR D.int (subI (.int a) (.int b)) (subC a b):=rfl
theorem SimR.ite {e:α→γ} {p:Prop} [Decidable p] {r r':Res γ} {q q':Res α} (h:SimR e r q) (h':SimR e r' q'):SimR e (if p then r else r') (if p then q else q'):=by
 by_cases z:p
 · rw [if_pos z,if_pos z]; exact h
 · rw [if_neg z,if_neg z]; exact h'
theorem o_mul (a b:Int):SimR D.int (mulI (.int a) (.int b)) (mulC a b):=by rw [bk6]; exact SimR.ite rfl trivial
theorem al9 (a b:Int):SimR D.int (ao2 (.int a) (.int b)) (au2 a b):=by rw [bc9]; exact SimR.ite rfl trivial
theorem am6 (a b:Int):SimR D.int (modI (.int a) (.int b)) (modC a b):=by rw [bk8]; exact SimR.ite rfl trivial
theorem bL9 (a b:Int):SimR D.int (powI (.int a) (.int b)) (powC a b):=by rw [bj5]; exact SimR.ite rfl trivial
theorem o_lt (a b:Int):SimR D.bl (ltI (.int a) (.int b)) (ltC a b):=rfl
theorem o_gt (a b:Int):SimR D.bl (gtI (.int a) (.int b)) (gtC a b):=rfl
theorem o_ge (a b:Int):SimR D.bl (geI (.int a) (.int b)) (geC a b):=rfl
theorem o_neg (a:Int):SimR D.int (negI (.int a)) (negC a):=rfl
theorem o_not (a:Bool):SimR D.bl (notB (.bl a)) (notC a):=rfl
theorem an6 (neg:Bool) (a b:Int):SimR D.bl (eqS neg (.int a) (.int b)) (eqC neg a b):=rfl
@[simp] noncomputable def isnC (neg:Bool) (f:α→Bool) (a:α):Res Bool:= .ok (neg.xor (f a))
theorem bQ5 {e:α→D} {m:Mi.Env→Res D} {c:σ→Res α} {neg:Bool} {f:α→Bool} (h:∀ a,aK8 (e a)=f a) (h1:EJ rep e m c):EJ rep D.bl (bn (isNb neg) m (cst .non)) (unC (isnC neg f) c):=fun s=>(h1 s).bnd fun a=>by
 show isNb neg (e a) .non= .ok (.bl (neg.xor (f a)))
 rw [← h a]
 rfl
@[simp] noncomputable def nonO (o:Option α):Bool:=o.isNone
theorem isn_O {e:α→D} (h:∀ a,aK8 (e a)=false) (o:Option α):aK8 (eO e o)=nonO o:=by
 cases o with
 | none=>rfl
 | some a=>exact h a
theorem ac0 {m:Mi.Env→Res D} {c:σ→Res Bool} (h:EJ rep D.bl m c):EJ rep (id:Bool→Bool) (tst m) c:=fun s=>by
 have h:=h s
 cases q:c s with
 | ok a=>rw [q] at h; have h:m (rep s)= .ok (.bl a):=h; show tst m (rep s)= .ok a; unfold tst; rw [h]; rfl
 | exc x=>rw [q] at h; have h:m (rep s)= .exc x:=h; show tst m (rep s)= .exc x; unfold tst; rw [h]; rfl
 | bad=>trivial
@[simp] noncomputable def andC (a b:σ→Res Bool):σ→Res Bool:=fun s=>(a s).bind fun c=>if c=true then b s else .ok false
@[simp] noncomputable def orC (a b:σ→Res Bool):σ→Res Bool:=fun s=>(a s).bind fun c=>if c=true then .ok true else b s
theorem bE5 {a b:Mi.Env→Res Bool} {c d:σ→Res Bool} (h1:EJ rep (id:Bool→Bool) a c) (h2:EJ rep (id:Bool→Bool) b d):EJ rep (id:Bool→Bool) (andT a b) (andC c d):=fun s=>(h1 s).bnd fun t=>SimR.ite (h2 s) rfl
theorem aq0 {a b:Mi.Env→Res Bool} {c d:σ→Res Bool} (h1:EJ rep (id:Bool→Bool) a c) (h2:EJ rep (id:Bool→Bool) b d):EJ rep (id:Bool→Bool) (orT a b) (orC c d):=fun s=>(h1 s).bnd fun t=>SimR.ite rfl (h2 s)
theorem ap4 {a:Mi.Env→Res Bool} {c:σ→Res Bool} (h1:EJ rep (id:Bool→Bool) a c):EJ rep (id:Bool→Bool) (notT a) (unC notC c):=fun s=>(h1 s).bnd fun t=>rfl
theorem bd4 {a b:Mi.Env→Res D} {c d:σ→Res Bool} (h1:EJ rep D.bl a c) (h2:EJ rep D.bl b d):EJ rep D.bl (andD a b) (andC c d):=fun s=>by
 have:=ac0 h1 s
 exact SimR.bnd (e:=(id:Bool→Bool)) this fun t=>SimR.ite (h2 s) rfl
structure Dat (e:α→D) [DecidableEq α] where
 py:α→PyData
 dep:Nat
 h0:∀ a,toPy (e a)=some (py a)
 lay:∀ a,(py a).canLay0=true
 depth:∀ a,(py a).depth≤dep
 eqv:∀ a b,PyData.eqv (py a) (py b)=decide (a=b)
 nomix:∀ a b,SeqAt.noMix (py a) (py b)=true
theorem Dat.shp {e:α→D} [DecidableEq α] (A:Dat e) (hd:A.dep≤64) (a:α):SeqAt.shaped (A.py a)=true:=by
 unfold SeqAt.shaped
 rw [A.lay a,Bool.true_and]
 exact decide_eq_true (Nat.le_trans (A.depth a) hd)
theorem bM3 {e:α→D} [DecidableEq α] (A:Dat e) (hd:A.dep≤64) (neg:Bool) (a b:α):SimR D.bl (eqD neg (e a) (e b)) (eqC neg a b):=by
 show eqD neg (e a) (e b)= .ok (.bl (neg.xor (decide (a=b))))
 unfold eqD
 rw [A.h0,A.h0]
 show (if _ then _ else _)=_
 rw [if_pos ⟨A.shp hd a,A.shp hd b⟩,A.eqv]
noncomputable def bR0:Dat D.int:=⟨PyData.int,1,fun _=>rfl,fun a=>by simp [PyData.canLay0],fun a=>by simp [PyData.depth],fun a b=>by simp only [PyData.eqv]; exact Bool.beq_eq_decide_eq _ _,fun a b=>by simp [SeqAt.noMix]⟩
theorem ay4 {g:α→PyData} [DecidableEq α] (h:∀ a b,PyData.eqv (g a) (g b)=decide (a=b)):∀ t u:List α,PyData.eqvAll (t.map g) (u.map g)=decide (t=u)
 | [],[]=>by simp [PyData.eqvAll]
 | [],_ :: _=>by simp [PyData.eqvAll]
 | _ :: _,[]=>by simp [PyData.eqvAll]
 | r :: t,q :: u=>by
   rw [List.map_cons,List.map_cons,PyData.eqvAll,h,ay4 h t u]
   by_cases h1:r=q <;> by_cases h2:t=u <;> simp [h1,h2]
end
section
variable {σ α β γ δ:Type} {rep:σ→Mi.Env}
theorem ap8 {g:α→PyData} (h:∀ a b,SeqAt.noMix (g a) (g b)=true):∀ t u:List α,SeqAt.noMixAll (t.map g) (u.map g)=true
 | [],[]=>by simp [SeqAt.noMixAll]
 | [],_ :: _=>by simp [SeqAt.noMixAll]
 | _ :: _,[]=>by simp [SeqAt.noMixAll]
 | r :: t,q :: u=>by rw [List.map_cons,List.map_cons,SeqAt.noMixAll,h,ap8 h t u]; rfl
theorem ay0 {g:α→PyData} (h:∀ a,(g a).canLay0=true):∀ l:List α,PyData.canLayAll0 (l.map g)=true
 | []=>by simp [PyData.canLayAll0]
 | a :: l=>by simp [PyData.canLayAll0,h a,ay0 h l]
theorem aq2 {g:α→PyData} {n:Nat} (h:∀ a,(g a).depth≤n):∀ l:List α,PyData.depthAll (l.map g)≤n
 | []=>by simp [PyData.depthAll]
 | a :: l=>by rw [List.map_cons,PyData.depthAll]; have:=h a; have:=aq2 h l; omega
noncomputable def bQ9 {e:α→D} [DecidableEq α] (A:Dat e):Dat (eL e):=⟨fun l=> .list (l.map A.py),A.dep + 1,fun l=>aV1 A.h0 l,fun l=>by rw [PyData.canLay0]; exact ay0 A.lay l,fun l=>by rw [PyData.depth]; have:=aq2 A.depth l; omega,fun a b=>by rw [PyData.eqv]; exact ay4 A.eqv a b,fun a b=>by rw [SeqAt.noMix]; exact ap8 A.nomix a b⟩
@[simp] noncomputable def cbC (b:Bool) (_:α):Res Bool:= .ok b
theorem aF8 {e:α→D} {n:String} {b:Bool} {m:Mi.Env→Res D} {c:σ→Res α} (h:∀ a,isT (e a) (.ty n)= .ok (.bl b)) (h1:EJ rep e m c):EJ rep D.bl (bn isT m (cst (.ty n))) (unC (cbC b) c):=fun s=>(h1 s).bnd fun a=>h a
@[simp] noncomputable def nilC:σ→Res (List α):=fun _=> .ok []
@[simp] noncomputable def ap6 (a:σ→Res α) (r:σ→Res (List α)):σ→Res (List α):=fun s=>(a s).bind fun x=>(r s).bind fun xs=> .ok (x :: xs)
theorem au4 {e:α→D}:EJ rep (List.map e) esN (nilC:σ→Res (List α)):=fun s=>rfl
theorem af4 {e:α→D} {m:Mi.Env→Res D} {n:Mi.Env→Res (List D)} {c:σ→Res α} {d:σ→Res (List α)} (h1:EJ rep e m c) (h2:EJ rep (List.map e) n d):EJ rep (List.map e) (esC m n) (ap6 c d):=fun s=>(h1 s).bnd fun a=>(h2 s).bnd fun b=>rfl
@[simp] noncomputable def mkC (c:σ→Res (List α)):σ→Res (List α):=fun s=>(c s).bind fun xs=>if xs.length≤ab1 then .ok xs else .bad
theorem au5 {e:α→D} {m:Mi.Env→Res (List D)} {c:σ→Res (List α)} (h:EJ rep (List.map e) m c):EJ rep (eL e) (mkL m) (mkC c):=fun s=>(h s).bnd fun xs=>by rw [List.length_map]; exact SimR.ite rfl trivial
@[simp] noncomputable def prC (a:σ→Res α) (b:σ→Res β):σ→Res (α×β):=fun s=>(a s).bind fun x=>(b s).bind fun y=> .ok (x,y)
theorem an1 {e:α→D} {e':β→D} {m n:Mi.Env→Res D} {c:σ→Res α} {d:σ→Res β} (h1:EJ rep e m c) (h2:EJ rep e' n d):EJ rep (eT2 e e') (mkT (esC m (esC n esN))) (prC c d):=fun s=>by
 have h1:=h1 s
 have h2:=h2 s
 unfold prC
 cases q1:c s with
 | bad=>trivial
 | exc x=>rw [q1] at h1; have h1:m (rep s)= .exc x:=h1; show mkT _ (rep s)= .exc x; simp only [mkT,esC,h1,Res.bind]
 | ok a =>
   rw [q1] at h1; have h1:m (rep s)= .ok (e a):=h1
   cases q2:d s with
   | bad=>trivial
   | exc x=>rw [q2] at h2; have h2:n (rep s)= .exc x:=h2; show mkT _ (rep s)= .exc x; simp only [mkT,esC,h1,h2,Res.bind]
   | ok b=>rw [q2] at h2; have h2:n (rep s)= .ok (e' b):=h2; show mkT _ (rep s)= .ok (eT2 e e' (a,b)); simp only [mkT,esC,esN,h1,h2,Res.bind,List.length_cons,List.length_nil]; rw [if_pos (by decide)]; rfl
@[simp] noncomputable def lenC (xs:List α):Res Int:= .ok xs.length
theorem as9 {e:α→D} (xs:List α):SimR D.int (lenD (eL e xs)) (lenC xs):=by show Res.ok (D.int _)=Res.ok (D.int _); rw [List.length_map]
theorem bq7 (xs:List Int):SimR D.int (lenD (eS xs)) (lenC xs):=by show Res.ok (D.int _)=Res.ok (D.int _); rw [List.length_map]
theorem bG7 {e:α→γ} (xs:List α) (i:Int):atI (xs.map e) i=(atI xs i).map e:=by
 unfold atI
 rw [List.length_map]
 cases ixN xs.length i with
 | none=>rfl
 | some j=>simp only [Option.bind_some,List.getElem?_map]
@[simp] noncomputable def ixC (xs:List α) (i:Int):Res α:=match atI xs i with | some a=> .ok a | none=> .bad
theorem bs0 {e:α→D} (xs:List α) (i:Int):SimR e (atD (xs.map e) i) (ixC xs i):=by
 unfold atD ixC
 rw [bG7]
 cases atI xs i <;> trivial
theorem aj8 {e:α→D} (xs:List α) (i:Int):SimR e (ixL (eL e xs) (.int i)) (ixC xs i):=bs0 xs i
theorem bM2 (xs:List Int) (i:Int):SimR D.int (ixL (eS xs) (.int i)) (ixC xs i):=bs0 xs i
@[simp] noncomputable def fstC (p:α×β):Res α:= .ok p.1
@[simp] noncomputable def sndC (p:α×β):Res β:= .ok p.2
theorem bm4 {e:α→D} {e':β→D} {F:D→D→Res D} {f:α→Res β} {k:D} {m:Mi.Env→Res D} {c:σ→Res α} (h:∀ a,SimR e' (F (e a) k) (f a)) (h1:EJ rep e m c):EJ rep e' (bn F m (cst k)) (unC f c):=fun s=>(h1 s).bnd fun a=>h a
theorem o_p0 {e:α→D} {e':β→D} (p:α×β):SimR e (ixT (eT2 e e' p) (.int 0)) (fstC p):=rfl
theorem o_p1 {e:α→D} {e':β→D} (p:α×β):SimR e' (ixT (eT2 e e' p) (.int 1)) (sndC p):=rfl
@[simp] noncomputable def catC (xs ys:List α):Res (List α):=if xs.length + ys.length≤ab1 then .ok (xs ++ ys) else .bad
theorem o_cat {e:α→D} (xs ys:List α):SimR (eL e) (catL (eL e xs) (eL e ys)) (catC xs ys):=by
 show SimR (eL e) (if (xs.map e).length + (ys.map e).length≤ab1 then .ok (.lst (xs.map e ++ ys.map e)) else .bad) (catC xs ys)
 rw [List.length_map,List.length_map]
 exact SimR.ite (by show Res.ok (D.lst _)=Res.ok (D.lst _); rw [List.map_append]) trivial
theorem bq6 {e:α→D} (xs:List α):SimR (eL e) (ap9 (eL e xs)) (idC xs):=rfl
theorem ba3 {e:α→D} (xs:List α):SimR (eL e) (ap9 (eTs e xs)) (idC xs):=rfl
theorem ba1 {e:α→D} (xs:List α):SimR (eTs e) (tupL (eL e xs)) (idC xs):=rfl
@[simp] noncomputable def aJ6 (p:α×α):Res (List α):= .ok [p.1,p.2]
theorem ap7 {e:α→D} (p:α×α):SimR (eTs e) (.ok (eT2 e e p)) (aJ6 p):=rfl
@[simp] noncomputable def dinC (neg:Bool) (k:List Int) (F:DI β):Res Bool:= .ok (neg.xor (F.get k).isSome)
@[simp] noncomputable def dgC (F:DI β) (k:List Int):Res β:=match F.get k with | some b=> .ok b | none=> .bad
@[simp] noncomputable def dg2C (F:DI β) (k:List Int) (x:β):Res β:= .ok ((F.get k).getD x)
@[simp] noncomputable def dg1C (F:DI β) (k:List Int):Res (Option β):= .ok (F.get k)
theorem o_din {e:β→D} (neg:Bool) (k:List Int) (F:DI β):SimR D.bl (dinD neg (eTs D.int k) (encD e F)) (dinC neg k F):=by
 show dinD neg (.tup (k.map D.int)) (encD e F)= .ok (.bl (neg.xor (F.get k).isSome))
 unfold dinD
 rw [ao1]
 simp
theorem ba4 {e:β→D} (F:DI β) (k:List Int):SimR e (aG1 (encD e F) (eTs D.int k)) (dgC F k):=by
 show SimR e (aG1 (encD e F) (.tup (k.map D.int))) _
 unfold aG1 dgC
 rw [ao1]
 cases F.get k <;> trivial
@[simp] noncomputable def bm1 (cd:σ→Res (DI β)) (ck:σ→Res (List Int)) (cx:σ→Res β):σ→Res β:=fun s=>(cd s).bind fun F=>(ck s).bind fun k=>(cx s).bind fun x=>dg2C F k x
theorem aL1 {e:β→D} {md mk mx:Mi.Env→Res D} {cd:σ→Res (DI β)} {ck:σ→Res (List Int)} {cx:σ→Res β} (h1:EJ rep (encD e) md cd) (h2:EJ rep (eTs D.int) mk ck) (h3:EJ rep e mx cx) :
 EJ rep e (bc8 md mk mx) (bm1 cd ck cx):=fun s=>(h1 s).bnd fun F=>by
 show SimR e (if true=true then _ else _) _
 rw [if_pos rfl]
 refine (h2 s).bnd fun k=>(h3 s).bnd fun x=>?_
 show aq1 (encD e F) (.tup (k.map D.int)) (e x)= .ok (e ((F.get k).getD x))
 unfold aq1
 rw [ao1]
 cases F.get k <;> rfl
theorem bE4 {e:β→D} {md mk:Mi.Env→Res D} {cd:σ→Res (DI β)} {ck:σ→Res (List Int)} (h1:EJ rep (encD e) md cd) (h2:EJ rep (eTs D.int) mk ck):EJ rep (eO e) (bE0 md mk) (bnC dg1C cd ck):=fun s=>(h1 s).bnd fun F=>by
 show SimR (eO e) (if true=true then _ else _) _
 rw [if_pos rfl]
 refine (h2 s).bnd fun k=>?_
 show aq1 (encD e F) (.tup (k.map D.int)) .non= .ok (eO e (F.get k))
 unfold aq1
 rw [ao1]
 cases F.get k <;> rfl
@[simp] noncomputable def bO8 (F:DI β):Res (List (List Int)):= .ok (F.map (·.1))
theorem bM1 {e:β→D} (F:DI β):SimR (eL (eTs D.int)) (bD6 (encD e F)) (bO8 F):=by
 show Res.ok (D.lst ((F.map fun p=>p.1.map (Sum.inl:Int→Key)).map fun k=> .tup (k.map kD)))=Res.ok (D.lst ((F.map (·.1)).map (eTs D.int)))
 rw [List.map_map,List.map_map]
 refine congrArg (fun z=>Res.ok (D.lst z)) (List.map_congr_left fun p _=>?_)
 show D.tup ((p.1.map (Sum.inl:Int→Key)).map kD)=D.tup (p.1.map D.int)
 rw [List.map_map]
 rfl
@[simp] noncomputable def bq9 (xs:List Int) (d:Int):Res Int:= .ok (match xs with | []=>d | x :: r=>af0 r x)
@[simp] noncomputable def bO3 (xs:List Int) (d:Int):Res Int:= .ok (match xs with | []=>d | x :: r=>aj9 r x)
theorem ah7:∀ l:List Int,ad6 (l.map D.int)=some l
 | []=>rfl
 | x :: l=>by rw [List.map_cons,ad6,ah7 l]; rfl
theorem bB0 (xs:List Int) (d:Int):SimR D.int (extD af0 (eL D.int xs) (.int d)) (bq9 xs d):=by
 show extD af0 (.lst (xs.map D.int)) (.int d)=_
 unfold extD
 dsimp only
 rw [ah7]
 cases xs <;> rfl
theorem bM0 (xs:List Int) (d:Int):SimR D.int (extD aj9 (eL D.int xs) (.int d)) (bO3 xs d):=by
 show extD aj9 (.lst (xs.map D.int)) (.int d)=_
 unfold extD
 dsimp only
 rw [ah7]
 cases xs <;> rfl
@[simp] noncomputable def aK6 (xs:List Int):Res Int:=if xs.length < 4000 then .ok (dd xs).length else .bad
theorem bk4 (xs:List Int):SimR D.int (aE9 (eL D.int xs)) (aK6 xs):=by
 show SimR D.int (aE9 (.lst (xs.map D.int))) _
 unfold aE9 aK6
 dsimp only
 rw [ah7]
 exact SimR.ite rfl trivial
end
section
variable {σ σ' α β γ δ:Type} {rep:σ→Mi.Env} {rep':σ'→Mi.Env}
noncomputable def repI (rep:σ→Mi.Env) (e:α→D) (ix:List Nat):α×σ→Mi.Env:=fun p=>some (e p.1) :: capD (rep p.2) ix
noncomputable def ak4 (ti:α→Res Bool) (te:α→Res β):List α→Res (List β)
 | []=> .ok []
 | a :: r=>(ti a).calm.bind fun c=>if c=true then (te a).calm.bind fun x=>(ak4 ti te r).bind fun xs=> .ok (x :: xs) else ak4 ti te r
noncomputable def aG9 (src:σ→Res (List α)) (ti:α×σ→Res Bool) (te:α×σ→Res β):σ→Res (List β):=fun s=>(src s).bind fun xs=>if xs.length < ab1 then ak4 (fun a=>ti (a,s)) (fun a=>te (a,s)) xs else .bad
theorem bd3 {e:α→D} {e':β→D} {ix:List Nat} {src:Mi.Env→Res (List D)} {ti:Mi.Env→Res Bool} {te:Mi.Env→Res D} {csrc:σ→Res (List α)} {cti:α×σ→Res Bool} {cte:α×σ→Res β}
 (hs:EJ rep (List.map e) src csrc) (ht:EJ (repI rep e ix) (id:Bool→Bool) ti cti) (he:EJ (repI rep e ix) e' te cte):EJ rep (eL e') (comp src ix ti te) (aG9 csrc cti cte):=fun s=>(hs s).bnd fun xs=>by
 rw [List.length_map]
 refine SimR.ite ?_ trivial
 have key:∀ l:List α,SimR (List.map e') (ag9 ti te (capD (rep s) ix) (l.map e)) (ak4 (fun a=>cti (a,s)) (fun a=>cte (a,s)) l):=by
  intro l
  induction l with
  | nil=>rfl
  | cons a l ih =>
    rw [List.map_cons]
    unfold ag9 ak4
    refine SimR.bnd (ht (a,s)).calm fun t=>SimR.ite (SimR.bnd (he (a,s)).calm fun x=>SimR.bnd ih fun xs=>?_) ih
    rfl
 have:=key xs
 cases q:ak4 (fun a=>cti (a,s)) (fun a=>cte (a,s)) xs with
 | ok ys=>rw [q] at this; have this:ag9 ti te (capD (rep s) ix) (xs.map e)= .ok (ys.map e'):=this; rw [this]; rfl
 | exc x=>rw [q] at this; have this:ag9 ti te (capD (rep s) ix) (xs.map e)= .exc x:=this; rw [this]; rfl
 | bad=>trivial
theorem bQ0:EJ rep (id:Bool→Bool) (fun _=> .ok true) (fun _=> .ok true):=fun s=>rfl
theorem bE3 {e:α→D} {m:Mi.Env→Res D} {c:σ→Res (List α)} (h:EJ rep (eL e) m c):EJ rep (List.map e) (srcL m) c:=fun s=>by
 have h:=h s
 cases q:c s with
 | ok a=>rw [q] at h; have h:m (rep s)= .ok (eL e a):=h; show srcL m (rep s)= .ok (a.map e); unfold srcL; rw [h]; rfl
 | exc x=>rw [q] at h; have h:m (rep s)= .exc x:=h; show srcL m (rep s)= .exc x; unfold srcL; rw [h]; rfl
 | bad=>trivial
noncomputable def rngI (lo hi:Int):List Int:=(List.range (hi - lo).toNat).map fun i:Nat=>lo + i
noncomputable def rngC (lo hi:Int):Res (List Int):=@ite _ (-(2 ^ 62)≤lo∧lo < 2 ^ 62∧-(2 ^ 62)≤hi∧hi < 2 ^ 62) (Classical.propDecidable _) (.ok (rngI lo hi)) .bad
theorem by8 (lo hi:Int):(rngI lo hi).map D.int=rng lo hi:=by unfold rngI rng; rw [List.map_map]; rfl
theorem as2 {lo hi:Int} (h1:-(2 ^ 62)≤lo) (h2:lo < 2 ^ 62) (h3:-(2 ^ 62)≤hi) (h4:hi < 2 ^ 62):rngC lo hi= .ok (rngI lo hi):=by unfold rngC; rw [if_pos ⟨h1,h2,h3,h4⟩]
theorem bd2 {a b:Mi.Env→Res D} {ca cb:σ→Res Int} (h1:EJ rep D.int a ca) (h2:EJ rep D.int b cb):EJ rep (List.map D.int) (srcR a b) (bnC rngC ca cb):=fun s=>(h1 s).bnd fun i=>(h2 s).bnd fun j=>by
 show SimR _ (if -(2 ^ 62)≤i∧i < 2 ^ 62∧-(2 ^ 62)≤j∧j < 2 ^ 62 then _ else _) _
 by_cases h:-(2 ^ 62)≤i∧i < 2 ^ 62∧-(2 ^ 62)≤j∧j < 2 ^ 62
 · rw [if_pos h,as2 h.1 h.2.1 h.2.2.1 h.2.2.2]; exact congrArg Res.ok (by8 i j).symm
 · unfold rngC; rw [if_neg h,if_neg h]; trivial
theorem bd1 {b:Mi.Env→Res D} {cb:σ→Res Int} (h2:EJ rep D.int b cb):EJ rep (List.map D.int) (bi6 b) (unC (rngC 0) cb):=fun s=>bd2 (ay6 (a:=(0:Int)) rfl) h2 s
noncomputable def OutC.res:OutC σ α→Res α
 | .ok a _=> .ok a
 | .exc x _=> .exc x
 | .bad=> .bad
@[simp] theorem res_ok (a:α) (s:σ):(OutC.ok a s).res= .ok a:=rfl
@[simp] theorem res_exc (x:Nat) (s:σ):(OutC.exc x s:OutC σ α).res= .exc x:=rfl
@[simp] theorem res_bad:(OutC.bad:OutC σ α).res= .bad:=rfl
@[simp] noncomputable def bndO (r:Res α) (s:σ) (k:α→OutC σ β):OutC σ β:=match r with
 | .ok a=>k a
 | .exc x=> .exc x s
 | .bad=> .bad
theorem SimO.res {e:α→D} {fm:List D→Out D} {ds:List D} {q:OutC σ α} (h:SimO rep e (fm ds) q):SimR e (ao4 fm ds) q.res:=by
 unfold ao4
 cases q with
 | ok a s=>have h:fm ds= .ok (e a) (rep s):=h; rw [h]; rfl
 | exc x s=>have h:fm ds= .exc x (rep s):=h; rw [h]; rfl
 | bad=>trivial
@[simp] noncomputable def pc1C {α0:Type} (f:α0→OutC σ' γ) (c0:σ→Res α0):σ→Res γ:=fun s=>(c0 s).bind fun x0=>(f x0).res
@[simp] noncomputable def pk1C {α0:Type} (f:α0→Res γ) (c0:σ→Res α0):σ→Res γ:=fun s=>(c0 s).bind fun x0=>f x0
theorem row1 {α0:Type} {e0:α0→D} {m0:Mi.Env→Res D} {c0:σ→Res α0} {eR:γ→δ} {k:List D→Res δ} {f:α0→Res γ} (hf:∀ x0,SimR eR (k [e0 x0]) (f x0)) (h0:EJ rep e0 m0 c0):EJ rep eR (fun ρ=>((esC m0 esN) ρ).bind k) (pk1C f c0):=fun s=>by
 have g0:=h0 s
 unfold pk1C
 cases q0:c0 s with
 | bad=>trivial
 | exc x=>rw [q0] at g0; have g0:m0 (rep s)= .exc x:=g0; show (_:Res _)= .exc x; simp only [esC,g0,Res.bind]
 | ok x0 =>
   rw [q0] at g0; have g0:m0 (rep s)= .ok (e0 x0):=g0
   have z:=hf x0
   simp only [esC,esN,g0,Res.bind]
   exact z
theorem aR1 {α0:Type} {e0:α0→D} {m0:Mi.Env→Res D} {c0:σ→Res α0} {eR:γ→D} {fm:List D→Out D} {f:α0→OutC σ' γ} (hf:∀ x0,SimO rep' eR (fm [e0 x0]) (f x0)) (h0:EJ rep e0 m0 c0):EJ rep eR (pc fm (esC m0 esN)) (pc1C f c0):=row1 (k:=ao4 fm) (f:=fun x0=>(f x0).res) (fun x0=>(hf x0).res) h0
theorem br5 {α0:Type} {e0:α0→D} {m0:Mi.Env→Res D} {c0:σ→Res α0} {eR:γ→D} {c:Nat} {fm:List D→Out D} {f:α0→Res γ} (hf:∀ x0,SimR eR (aE5 c fm [e0 x0]) (f x0)) (h0:EJ rep e0 m0 c0):EJ rep eR (pk c fm (esC m0 esN)) (pk1C f c0):=row1 hf h0
theorem bQ2 {α0:Type} {e0:α0→D} {m0:Mi.Env→Res D} {c0:σ→Res α0} {eR:γ→D} {c:Nat} {mn:Str} {fm:List D→Out D} {f:α0→OutC σ' γ} (ho:∀ a,am0 c mn (e0 a)=true) (hf:∀ x0,SimO rep' eR (fm [e0 x0]) (f x0)) (h0:EJ rep e0 m0 c0):EJ rep eR (pm c mn fm m0 esN) (pc1C f c0):=fun s=>by
 have g0:=h0 s
 unfold pm pc1C
 cases q0:c0 s with
 | bad=>trivial
 | exc x=>rw [q0] at g0; have g0:m0 (rep s)= .exc x:=g0; show (_:Res _)= .exc x; simp only [esC,g0,Res.bind,ho,if_true]
 | ok x0 =>
   rw [q0] at g0; have g0:m0 (rep s)= .ok (e0 x0):=g0
   have z:=(hf x0).res
   simp only [esC,esN,g0,Res.bind,ho,if_true]
   exact z
@[simp] noncomputable def pc2C {α0 α1:Type} (f:α0→α1→OutC σ' γ) (c0:σ→Res α0) (c1:σ→Res α1):σ→Res γ:=fun s=>(c0 s).bind fun x0=>(c1 s).bind fun x1=>(f x0 x1).res
@[simp] noncomputable def pk2C {α0 α1:Type} (f:α0→α1→Res γ) (c0:σ→Res α0) (c1:σ→Res α1):σ→Res γ:=fun s=>(c0 s).bind fun x0=>(c1 s).bind fun x1=>f x0 x1
theorem row2 {α0 α1:Type} {e0:α0→D} {e1:α1→D} {m0 m1:Mi.Env→Res D} {c0:σ→Res α0} {c1:σ→Res α1} {eR:γ→δ} {k:List D→Res δ} {f:α0→α1→Res γ} (hf:∀ x0 x1,SimR eR (k [e0 x0,e1 x1]) (f x0 x1)) (h0:EJ rep e0 m0 c0) (h1:EJ rep e1 m1 c1):EJ rep eR (fun ρ=>((esC m0 (esC m1 esN)) ρ).bind k) (pk2C f c0 c1):=fun s=>by
 have g0:=h0 s
 have g1:=h1 s
 unfold pk2C
 cases q0:c0 s with
 | bad=>trivial
 | exc x=>rw [q0] at g0; have g0:m0 (rep s)= .exc x:=g0; show (_:Res _)= .exc x; simp only [esC,g0,Res.bind]
 | ok x0 =>
   rw [q0] at g0; have g0:m0 (rep s)= .ok (e0 x0):=g0
   cases q1:c1 s with
   | bad=>trivial
   | exc x=>rw [q1] at g1; have g1:m1 (rep s)= .exc x:=g1; show (_:Res _)= .exc x; simp only [esC,g0,g1,Res.bind]
   | ok x1 =>
     rw [q1] at g1; have g1:m1 (rep s)= .ok (e1 x1):=g1
     have z:=hf x0 x1
     simp only [esC,esN,g0,g1,Res.bind]
     exact z
theorem au3 {α0 α1:Type} {e0:α0→D} {e1:α1→D} {m0 m1:Mi.Env→Res D} {c0:σ→Res α0} {c1:σ→Res α1} {eR:γ→D} {fm:List D→Out D} {f:α0→α1→OutC σ' γ} (hf:∀ x0 x1,SimO rep' eR (fm [e0 x0,e1 x1]) (f x0 x1)) (h0:EJ rep e0 m0 c0) (h1:EJ rep e1 m1 c1):EJ rep eR (pc fm (esC m0 (esC m1 esN))) (pc2C f c0 c1):=row2 (k:=ao4 fm) (f:=fun x0 x1=>(f x0 x1).res) (fun x0 x1=>(hf x0 x1).res) h0 h1
theorem ay5 {α0 α1:Type} {e0:α0→D} {e1:α1→D} {m0 m1:Mi.Env→Res D} {c0:σ→Res α0} {c1:σ→Res α1} {eR:γ→D} {c:Nat} {mn:Str} {fm:List D→Out D} {f:α0→α1→OutC σ' γ} (ho:∀ a,am0 c mn (e0 a)=true) (hf:∀ x0 x1,SimO rep' eR (fm [e0 x0,e1 x1]) (f x0 x1)) (h0:EJ rep e0 m0 c0) (h1:EJ rep e1 m1 c1):EJ rep eR (pm c mn fm m0 (esC m1 esN)) (pc2C f c0 c1):=fun s=>by
 have g0:=h0 s
 have g1:=h1 s
 unfold pm pc2C
 cases q0:c0 s with
 | bad=>trivial
 | exc x=>rw [q0] at g0; have g0:m0 (rep s)= .exc x:=g0; show (_:Res _)= .exc x; simp only [esC,g0,Res.bind,ho,if_true]
 | ok x0 =>
   rw [q0] at g0; have g0:m0 (rep s)= .ok (e0 x0):=g0
   cases q1:c1 s with
   | bad=>trivial
   | exc x=>rw [q1] at g1; have g1:m1 (rep s)= .exc x:=g1; show (_:Res _)= .exc x; simp only [esC,g0,g1,Res.bind,ho,if_true]
   | ok x1 =>
     rw [q1] at g1; have g1:m1 (rep s)= .ok (e1 x1):=g1
     have z:=(hf x0 x1).res
     simp only [esC,esN,g0,g1,Res.bind,ho,if_true]
     exact z
@[simp] noncomputable def pc3C {α0 α1 α2:Type} (f:α0→α1→α2→OutC σ' γ) (c0:σ→Res α0) (c1:σ→Res α1) (c2:σ→Res α2):σ→Res γ:=fun s=>(c0 s).bind fun x0=>(c1 s).bind fun x1=>(c2 s).bind fun x2=>(f x0 x1 x2).res
@[simp] noncomputable def pk3C {α0 α1 α2:Type} (f:α0→α1→α2→Res γ) (c0:σ→Res α0) (c1:σ→Res α1) (c2:σ→Res α2):σ→Res γ:=fun s=>(c0 s).bind fun x0=>(c1 s).bind fun x1=>(c2 s).bind fun x2=>f x0 x1 x2
theorem row3 {α0 α1 α2:Type} {e0:α0→D} {e1:α1→D} {e2:α2→D} {m0 m1 m2:Mi.Env→Res D} {c0:σ→Res α0} {c1:σ→Res α1} {c2:σ→Res α2} {eR:γ→δ} {k:List D→Res δ} {f:α0→α1→α2→Res γ} (hf:∀ x0 x1 x2,SimR eR (k [e0 x0,e1 x1,e2 x2]) (f x0 x1 x2)) (h0:EJ rep e0 m0 c0) (h1:EJ rep e1 m1 c1) (h2:EJ rep e2 m2 c2):EJ rep eR (fun ρ=>((esC m0 (esC m1 (esC m2 esN))) ρ).bind k) (pk3C f c0 c1 c2):=fun s=>by
 have g0:=h0 s
 have g1:=h1 s
 have g2:=h2 s
 unfold pk3C
 cases q0:c0 s with
 | bad=>trivial
 | exc x=>rw [q0] at g0; have g0:m0 (rep s)= .exc x:=g0; show (_:Res _)= .exc x; simp only [esC,g0,Res.bind]
 | ok x0 =>
   rw [q0] at g0; have g0:m0 (rep s)= .ok (e0 x0):=g0
   cases q1:c1 s with
   | bad=>trivial
   | exc x=>rw [q1] at g1; have g1:m1 (rep s)= .exc x:=g1; show (_:Res _)= .exc x; simp only [esC,g0,g1,Res.bind]
   | ok x1 =>
     rw [q1] at g1; have g1:m1 (rep s)= .ok (e1 x1):=g1
     cases q2:c2 s with
     | bad=>trivial
     | exc x=>rw [q2] at g2; have g2:m2 (rep s)= .exc x:=g2; show (_:Res _)= .exc x; simp only [esC,g0,g1,g2,Res.bind]
     | ok x2 =>
       rw [q2] at g2; have g2:m2 (rep s)= .ok (e2 x2):=g2
       have z:=hf x0 x1 x2
       simp only [esC,esN,g0,g1,g2,Res.bind]
       exact z
theorem br6 {α0 α1 α2:Type} {e0:α0→D} {e1:α1→D} {e2:α2→D} {m0 m1 m2:Mi.Env→Res D} {c0:σ→Res α0} {c1:σ→Res α1} {c2:σ→Res α2} {eR:γ→D} {fm:List D→Out D} {f:α0→α1→α2→OutC σ' γ} (hf:∀ x0 x1 x2,SimO rep' eR (fm [e0 x0,e1 x1,e2 x2]) (f x0 x1 x2)) (h0:EJ rep e0 m0 c0) (h1:EJ rep e1 m1 c1) (h2:EJ rep e2 m2 c2):EJ rep eR (pc fm (esC m0 (esC m1 (esC m2 esN)))) (pc3C f c0 c1 c2):=row3 (k:=ao4 fm) (f:=fun x0 x1 x2=>(f x0 x1 x2).res) (fun x0 x1 x2=>(hf x0 x1 x2).res) h0 h1 h2
theorem br4 {α0 α1 α2:Type} {e0:α0→D} {e1:α1→D} {e2:α2→D} {m0 m1 m2:Mi.Env→Res D} {c0:σ→Res α0} {c1:σ→Res α1} {c2:σ→Res α2} {eR:γ→D} {c:Nat} {mn:Str} {fm:List D→Out D} {f:α0→α1→α2→OutC σ' γ} (ho:∀ a,am0 c mn (e0 a)=true) (hf:∀ x0 x1 x2,SimO rep' eR (fm [e0 x0,e1 x1,e2 x2]) (f x0 x1 x2)) (h0:EJ rep e0 m0 c0) (h1:EJ rep e1 m1 c1) (h2:EJ rep e2 m2 c2):EJ rep eR (pm c mn fm m0 (esC m1 (esC m2 esN))) (pc3C f c0 c1 c2):=fun s=>by
 have g0:=h0 s
 have g1:=h1 s
 have g2:=h2 s
 unfold pm pc3C
 cases q0:c0 s with
 | bad=>trivial
 | exc x=>rw [q0] at g0; have g0:m0 (rep s)= .exc x:=g0; show (_:Res _)= .exc x; simp only [esC,g0,Res.bind,ho,if_true]
 | ok x0 =>
   rw [q0] at g0; have g0:m0 (rep s)= .ok (e0 x0):=g0
   cases q1:c1 s with
   | bad=>trivial
   | exc x=>rw [q1] at g1; have g1:m1 (rep s)= .exc x:=g1; show (_:Res _)= .exc x; simp only [esC,g0,g1,Res.bind,ho,if_true]
   | ok x1 =>
     rw [q1] at g1; have g1:m1 (rep s)= .ok (e1 x1):=g1
     cases q2:c2 s with
     | bad=>trivial
     | exc x=>rw [q2] at g2; have g2:m2 (rep s)= .exc x:=g2; show (_:Res _)= .exc x; simp only [esC,g0,g1,g2,Res.bind,ho,if_true]
     | ok x2 =>
       rw [q2] at g2; have g2:m2 (rep s)= .ok (e2 x2):=g2
       have z:=(hf x0 x1 x2).res
       simp only [esC,esN,g0,g1,g2,Res.bind,ho,if_true]
       exact z
end
section
variable {σ σ' α β γ δ:Type} {rep:σ→Mi.Env} {eR:β→D}
@[simp] noncomputable def upC (c:σ→Res α):σ→OutC σ α:=fun s=>match c s with
 | .ok a=> .ok a s
 | .exc x=> .exc x s
 | .bad=> .bad
theorem aa7 {e:α→γ} {m:Mi.Env→Res γ} {c:σ→Res α} (h:EJ rep e m c):NJ rep e (liP m) (upC c):=fun s=>by
 have h:=h s
 unfold upC liP
 cases q:c s with
 | ok a=>rw [q] at h; have h:m (rep s)= .ok (e a):=h; rw [h]; rfl
 | exc x=>rw [q] at h; have h:m (rep s)= .exc x:=h; rw [h]; rfl
 | bad=>trivial
@[simp] noncomputable def bdO (o:OutC σ α) (k:α→σ→OutC σ β):OutC σ β:=match o with
 | .ok a s=>k a s
 | .exc x s=> .exc x s
 | .bad=> .bad
theorem SimO.bd {e:α→γ} {e':β→δ} {r:Out γ} {q:OutC σ α} {k:γ→Mi.Env→Out δ} {l:α→σ→OutC σ β} (h:SimO rep e r q) (hk:∀ a s,SimO rep e' (k (e a) (rep s)) (l a s)):SimO rep e' (r.bind k) (bdO q l):=by
 cases q with
 | ok a s=>have h:r= .ok (e a) (rep s):=h; rw [h]; exact hk a s
 | exc x s=>have h:r= .exc x (rep s):=h; rw [h]; exact rfl
 | bad=>trivial
theorem nj_as {e:α→D} {e':β→D} {m:Mi.Env→Out D} {c:σ→OutC σ α} {f:α→Res β} (h:∀ a,SimR e' (.ok (e a)) (f a)) (h1:NJ rep e m c):NJ rep e' m (fun s=>bdO (c s) fun a s=>bndO (f a) s fun b=> .ok b s):=fun s=>by
 have h1:=h1 s
 dsimp only
 cases q:c s with
 | ok a s1 =>
   rw [q] at h1; have h1:m (rep s)= .ok (e a) (rep s1):=h1
   rw [h1]
   have:=h a
   show SimO rep e' (.ok (e a) (rep s1)) (bndO (f a) s1 fun b=> .ok b s1)
   cases q2:f a with
   | ok b=>rw [q2] at this; have this:Res.ok (e a)= .ok (e' b):=this; injection this with this; rw [this]; rfl
   | exc x=>rw [q2] at this; cases this
   | bad=>trivial
 | exc x s1=>rw [q] at h1; exact h1
 | bad=>trivial
@[simp] noncomputable def l1C (g:σ→Option (List α)) (p:σ→List α→σ) (f:List α→δ→Option (γ×List α)) (c:σ→Res δ):σ→OutC σ γ:=fun s=>match g s with
 | none=> .bad
 | some xs=>bndO (c s) s fun x=>match f xs x with
   | some (r,ys)=> .ok r (p s ys)
   | none=> .bad
@[simp] noncomputable def l0C (g:σ→Option (List α)) (p:σ→List α→σ) (f:List α→List α):σ→OutC σ Unit:=fun s=>match g s with
 | none=> .bad
 | some xs=> .ok () (p s (f xs))
noncomputable def appC (xs:List α) (x:α):Option (Unit×List α):=if xs.length < ab1 then some ((),xs ++ [x]) else none
noncomputable def popC (xs:List α) (i:Int):Option (α×List α):=if 0≤i∧i < xs.length∧xs.length≤ab1 then xs[i.toNat]?.map fun d=>(d,xs.eraseIdx i.toNat) else none
noncomputable def SimF {δ':Type} (e:α→D) (e1:δ→D) (e2:γ→D) (F:List D→D→Option (D×List D)) (f:List α→δ→Option (γ×List α)):Prop:=∀ xs x,match f xs x with
 | some (r,ys)=>F (xs.map e) (e1 x)=some (e2 r,ys.map e)
 | none=>True
theorem aF7 {e:α→γ}:∀ (xs:List α) (i:Nat),(xs.map e).eraseIdx i=(xs.eraseIdx i).map e
 | [],i=>by simp
 | x :: xs,0=>by simp
 | x :: xs,i + 1=>by rw [List.map_cons,List.eraseIdx_cons_succ,List.eraseIdx_cons_succ,List.map_cons,aF7 xs i]
theorem f_app {e:α→D}:SimF (δ':=Unit) e e eN appF appC:=fun xs x=>by
 unfold appC appF
 rw [List.length_map]
 by_cases h:xs.length < ab1
 · rw [if_pos h,if_pos h]
   show some (D.non,xs.map e ++ [e x])=some (eN (),(xs ++ [x]).map e)
   rw [List.map_append]; rfl
 · rw [if_neg h]; trivial
theorem f_pop {e:α→D}:SimF (δ':=Unit) e D.int e popF popC:=fun xs i=>by
 unfold popC popF
 dsimp only
 rw [List.length_map]
 by_cases h:0≤i∧i < xs.length∧xs.length≤ab1
 · rw [if_pos h,if_pos h,List.getElem?_map]
   cases xs[i.toNat]? with
   | none=>trivial
   | some a =>
     show some (e a,(xs.map e).eraseIdx i.toNat)=some (e a,(xs.eraseIdx i.toNat).map e)
     rw [aF7]
 · rw [if_neg h]; trivial
theorem nj_l1 {e:α→D} {e1:δ→D} {e2:γ→D} {get:Mi.Env→Option D} {set:Mi.Env→D→Mi.Env} {g:σ→Option (List α)} {p:σ→List α→σ} {F:List D→D→Option (D×List D)} {f:List α→δ→Option (γ×List α)} {m:Mi.Env→Res D} {c:σ→Res δ}
 (hg:∀ s,get (rep s)=(g s).map (eL e)) (hs:∀ s xs,set (rep s) (eL e xs)=rep (p s xs)) (hF:SimF (δ':=Unit) e e1 e2 F f) (h1:EJ rep e1 m c):NJ rep e2 (lst1 get set F m) (l1C g p f c):=fun s=>by
 have h1:=h1 s
 unfold lst1 l1C
 rw [hg]
 cases g s with
 | none=>trivial
 | some xs =>
   show SimO rep e2 (lstR set F (rep s) (xs.map e) (m (rep s))) (bndO (c s) s _)
   cases q:c s with
   | bad=>trivial
   | exc x=>rw [q] at h1; have h1:m (rep s)= .exc x:=h1; rw [h1]; rfl
   | ok x =>
     rw [q] at h1; have h1:m (rep s)= .ok (e1 x):=h1
     rw [h1]
     have:=hF xs x
     show SimO rep e2 (lstK set (rep s) (F (xs.map e) (e1 x))) (match f xs x with | some (r,ys)=>OutC.ok r (p s ys) | none=> .bad)
     cases q2:f xs x with
     | none=>trivial
     | some r =>
       rw [q2] at this
       obtain ⟨r,ys⟩:=r
       have this:F (xs.map e) (e1 x)=some (e2 r,ys.map e):=this
       rw [this]
       show Out.ok _ _=Out.ok _ _
       rw [← hs]; rfl
theorem nj_l0 {e:α→D} {get:Mi.Env→Option D} {set:Mi.Env→D→Mi.Env} {g:σ→Option (List α)} {p:σ→List α→σ} {F:List D→Option (D×List D)} {f:List α→List α}
 (hg:∀ s,get (rep s)=(g s).map (eL e)) (hs:∀ s xs,set (rep s) (eL e xs)=rep (p s xs)) (hF:∀ xs:List α,F (xs.map e)=some (.non,(f xs).map e)):NJ rep eN (lst0 get set F) (l0C g p f):=fun s=>by
 unfold lst0 l0C
 rw [hg]
 cases g s with
 | none=>trivial
 | some xs =>
   show SimO rep eN (lstK set (rep s) (F (xs.map e))) (OutC.ok () (p s (f xs)))
   rw [hF]
   show Out.ok _ _=Out.ok _ _
   rw [← hs]; rfl
theorem f_rev {e:α→D} (xs:List α):revF (xs.map e)=some (.non,xs.reverse.map e):=by unfold revF; rw [List.map_reverse]
@[simp] noncomputable def apMC (g:σ→Option (List α)) (p:σ→List α→σ) (c:σ→OutC σ α):σ→OutC σ Unit:=fun s=>match g s with
 | none=> .bad
 | some _=>bdO (c s) fun x s=>match g s with
   | none=> .bad
   | some xs=>(match appC xs x with | some (r,ys)=> .ok r (p s ys) | none=> .bad)
theorem bM4 {e:α→D} {i:Nat} {g:σ→Option (List α)} {p:σ→List α→σ} {m:Mi.Env→Out D} {c:σ→OutC σ α} (hg:∀ s,rg (rep s) i=(g s).map (eL e)) (hs:∀ s xs,(rep s).set i (some (eL e xs))=rep (p s xs)) (h1:NJ rep e m c):NJ rep eN (appM i m) (apMC g p c):=fun s=>by
 have h1:=h1 s
 unfold appM apMC
 rw [hg]
 cases g s with
 | none=>trivial
 | some xs0 =>
   show SimO rep eN ((m (rep s)).bind (bi2 i)) (bdO (c s) _)
   refine h1.bd fun x s=>?_
   unfold bi2
   rw [hg]
   cases g s with
   | none=>trivial
   | some xs =>
     have:=f_app (e:=e) xs x
     show SimO rep eN (lstK (ao6 i) (rep s) (appF (xs.map e) (e x))) (match appC xs x with | some (r,ys)=>OutC.ok r (p s ys) | none=> .bad)
     cases q2:appC xs x with
     | none=>trivial
     | some r =>
       rw [q2] at this
       obtain ⟨r,ys⟩:=r
       have this:appF (xs.map e) (e x)=some (eN r,ys.map e):=this
       rw [this]
       show Out.ok _ _=Out.ok _ _
       rw [← hs]; rfl
end
section
variable {σ σ' α β γ δ:Type} {rep:σ→Mi.Env} {eR:β→D}
@[simp] noncomputable def bdS (o:OutC σ α) (k:α→σ→FlC σ β):FlC σ β:=match o with
 | .ok a s=>k a s
 | .exc x s=> .exc x s
 | .bad=> .bad
theorem SimS.bd {e:α→γ} {r:Out γ} {q:OutC σ α} {k:γ→Mi.Env→SO} {l:α→σ→FlC σ β} (h:SimO rep e r q) (hk:∀ a s,SimS rep eR (k (e a) (rep s)) (l a s)):SimS rep eR (aw2 r k) (bdS q l):=by
 cases q with
 | ok a s=>have h:r= .ok (e a) (rep s):=h; rw [h]; exact hk a s
 | exc x s=>have h:r= .exc x (rep s):=h; rw [h]; exact rfl
 | bad=>trivial
theorem SimS.ite {p:Prop} [Decidable p] {r r':SO} {q q':FlC σ β} (h:SimS rep eR r q) (h':SimS rep eR r' q'):SimS rep eR (if p then r else r') (if p then q else q'):=by
 by_cases z:p
 · rw [if_pos z,if_pos z]; exact h
 · rw [if_neg z,if_neg z]; exact h'
@[simp] noncomputable def seqC (a b:σ→FlC σ β):σ→FlC σ β:=fun s=>match a s with
 | .nx s'=>b s'
 | o=>o
theorem aa6 {a b:Mi.Env→SO} {c d:σ→FlC σ β} (h1:TJ rep eR a c) (h2:TJ rep eR b d):TJ rep eR (seqS a b) (seqC c d):=fun s=>by
 have h1:=h1 s
 unfold seqS seqC
 cases q:c s with
 | nx s'=>rw [q] at h1; have h1:a (rep s)= .nx (rep s'):=h1; rw [h1]; exact h2 s'
 | rt b s'=>rw [q] at h1; have h1:a (rep s)= .rt (eR b) (rep s'):=h1; rw [h1]; rfl
 | bk s'=>rw [q] at h1; have h1:a (rep s)= .bk (rep s'):=h1; rw [h1]; rfl
 | ct s'=>rw [q] at h1; have h1:a (rep s)= .ct (rep s'):=h1; rw [h1]; rfl
 | exc x s'=>rw [q] at h1; have h1:a (rep s)= .exc x (rep s'):=h1; rw [h1]; rfl
 | bad=>trivial
@[simp] noncomputable def ai1:σ→FlC σ β:=fun s=> .nx s
@[simp] noncomputable def badC:σ→FlC σ β:=fun _=> .bad
theorem ad0:TJ rep eR af9 ai1:=fun s=>rfl
theorem aO7 {m:Mi.Env→SO}:TJ rep eR m badC:=fun s=>trivial
@[simp] noncomputable def retC (c:σ→OutC σ β):σ→FlC σ β:=fun s=>bdS (c s) fun b s=> .rt b s
theorem ad9 {m:Mi.Env→Out D} {c:σ→OutC σ β} (h:NJ rep eR m c):TJ rep eR (retS m) (retC c):=fun s=>SimS.bd (h s) fun b s=>rfl
@[simp] noncomputable def ar0 (c:σ→OutC σ α):σ→FlC σ β:=fun s=>bdS (c s) fun _ s=> .nx s
theorem af8 {e:α→D} {m:Mi.Env→Out D} {c:σ→OutC σ α} (h:NJ rep e m c):TJ rep eR (ap3 m) (ar0 c):=fun s=>SimS.bd (h s) fun b s=>rfl
@[simp] noncomputable def setC (u:α→σ→σ) (c:σ→OutC σ α):σ→FlC σ β:=fun s=>bdS (c s) fun a s=> .nx (u a s)
theorem bH2 {e:α→D} {i:Nat} {m:Mi.Env→Out D} {c:σ→OutC σ α} {u:α→σ→σ} (hu:∀ a s,(rep s).set i (some (e a))=rep (u a s)) (h:NJ rep e m c):TJ rep eR (setS i m) (setC u c):=fun s=>SimS.bd (h s) fun a s=>by show SO.nx _=SO.nx _; rw [hu]
@[simp] noncomputable def ifC (t:σ→OutC σ Bool) (a b:σ→FlC σ β):σ→FlC σ β:=fun s=>bdS (t s) fun c s=>if c=true then a s else b s
theorem aj4 {t:Mi.Env→Out Bool} {a b:Mi.Env→SO} {ct:σ→OutC σ Bool} {c d:σ→FlC σ β} (ht:NJ rep (id:Bool→Bool) t ct) (h1:TJ rep eR a c) (h2:TJ rep eR b d):TJ rep eR (ifS t a b) (ifC ct c d):=fun s=>SimS.bd (ht s) fun t s=>SimS.ite (h1 s) (h2 s)
noncomputable def forC (u:α→σ→σ) (body:σ→FlC σ β):List α→σ→FlC σ β
 | [],s=> .nx s
 | a :: r,s=>match body (u a s) with
   | .nx s'=>forC u body r s'
   | .ct s'=>forC u body r s'
   | .bk s'=> .nx s'
   | o=>o
theorem aJ4 {e:α→D} {tgt:D→Mi.Env→Option Mi.Env} {body:Mi.Env→SO} {u:α→σ→σ} {c:σ→FlC σ β} (hu:∀ a s,tgt (e a) (rep s)=some (rep (u a s))) (h:TJ rep eR body c):∀ (xs:List α) (s:σ),SimS rep eR (forS tgt body (xs.map e) (rep s)) (forC u c xs s)
 | [],s=>rfl
 | a :: r,s=>by
   have hb:=h (u a s)
   rw [List.map_cons]
   unfold forS forC
   rw [hu]
   dsimp only
   cases q:c (u a s) with
   | nx s'=>rw [q] at hb; have hb:body (rep (u a s))= .nx (rep s'):=hb; rw [hb]; exact aJ4 hu h r s'
   | ct s'=>rw [q] at hb; have hb:body (rep (u a s))= .ct (rep s'):=hb; rw [hb]; exact aJ4 hu h r s'
   | bk s'=>rw [q] at hb; have hb:body (rep (u a s))= .bk (rep s'):=hb; rw [hb]; rfl
   | rt b s'=>rw [q] at hb; have hb:body (rep (u a s))= .rt (eR b) (rep s'):=hb; rw [hb]; rfl
   | exc x s'=>rw [q] at hb; have hb:body (rep (u a s))= .exc x (rep s'):=hb; rw [hb]; rfl
   | bad=>trivial
@[simp] noncomputable def ba7 (src:σ→Res (List α)) (u:α→σ→σ) (body:σ→FlC σ β):σ→FlC σ β:=fun s=>match src s with
 | .ok xs=>forC u body xs s
 | .exc x=> .exc x s
 | .bad=> .bad
theorem aH8 {e:α→D} {src:Mi.Env→Res (List D)} {csrc:σ→Res (List α)} {tgt:D→Mi.Env→Option Mi.Env} {body:Mi.Env→SO} {u:α→σ→σ} {c:σ→FlC σ β} (hs:EJ rep (List.map e) src csrc) (hu:∀ a s,tgt (e a) (rep s)=some (rep (u a s))) (h:TJ rep eR body c):TJ rep eR (aT2 (liP src) tgt body) (ba7 csrc u c):=fun s=>by
 have hs:=hs s
 unfold aT2 liP ba7
 cases q:csrc s with
 | ok xs=>rw [q] at hs; have hs:src (rep s)= .ok (xs.map e):=hs; rw [hs]; exact aJ4 hu h xs s
 | exc x=>rw [q] at hs; have hs:src (rep s)= .exc x:=hs; rw [hs]; rfl
 | bad=>trivial
noncomputable def whC (t:σ→OutC σ Bool) (body:σ→FlC σ β):Nat→σ→FlC σ β
 | 0,_=> .bad
 | n + 1,s=>match t s with
   | .ok true s1=>(match body s1 with
     | .nx s'=>whC t body n s'
     | .ct s'=>whC t body n s'
     | .bk s'=> .nx s'
     | o=>o)
   | .ok false s1=> .nx s1
   | .exc x s1=> .exc x s1
   | .bad=> .bad
theorem bs3 {t:Mi.Env→Out Bool} {body:Mi.Env→SO} {ct:σ→OutC σ Bool} {c:σ→FlC σ β} (ht:NJ rep (id:Bool→Bool) t ct) (h:TJ rep eR body c):∀ n,TJ rep eR (whS t body n) (whC ct c n)
 | 0=>fun s=>trivial
 | n + 1=>fun s=>by
   have hs:=ht s
   unfold whS whC
   cases q:ct s with
   | ok b s1 =>
     rw [q] at hs; have hs:t (rep s)= .ok b (rep s1):=hs
     rw [hs]
     cases b with
     | false=>rfl
     | true =>
       have hb:=h s1
       show SimS rep eR (match body (rep s1) with | .nx ρ'=>whS t body n ρ' | .ct ρ'=>whS t body n ρ' | .bk ρ'=> .nx ρ' | o=>o) _
       dsimp only
       cases q:c s1 with
       | nx s'=>rw [q] at hb; have hb:body (rep s1)= .nx (rep s'):=hb; rw [hb]; exact bs3 ht h n s'
       | ct s'=>rw [q] at hb; have hb:body (rep s1)= .ct (rep s'):=hb; rw [hb]; exact bs3 ht h n s'
       | bk s'=>rw [q] at hb; have hb:body (rep s1)= .bk (rep s'):=hb; rw [hb]; rfl
       | rt b s'=>rw [q] at hb; have hb:body (rep s1)= .rt (eR b) (rep s'):=hb; rw [hb]; rfl
       | exc x s'=>rw [q] at hb; have hb:body (rep s1)= .exc x (rep s'):=hb; rw [hb]; rfl
       | bad=>trivial
   | exc x s1=>rw [q] at hs; have hs:t (rep s)= .exc x (rep s1):=hs; rw [hs]; rfl
   | bad=>trivial
@[simp] noncomputable def aT8 (g:σ→Option (DI α)) (p:σ→DI α→σ) (ck:σ→Res (List Int)) (cv:σ→OutC σ α):σ→FlC σ β:=fun s=>bdS (cv s) fun x s=>match g s with
 | none=> .bad
 | some F=>(match ck s with
   | .ok k=>if F.length < ab1 then .nx (p s (F.put k x)) else .bad
   | .exc y=> .exc y s
   | .bad=> .bad)
theorem ar9 {e:α→D} {get:Mi.Env→Option D} {set:Mi.Env→D→Mi.Env} {g:σ→Option (DI α)} {p:σ→DI α→σ} {mk:Mi.Env→Res D} {ck:σ→Res (List Int)} {mv:Mi.Env→Out D} {cv:σ→OutC σ α} (hg:∀ s,get (rep s)=(g s).map (encD e)) (hs:∀ s F,set (rep s) (encD e F)=rep (p s F))
 (hk:EJ rep (eTs D.int) mk ck) (hv:NJ rep e mv cv):TJ rep eR (aL3 get set mk mv) (aT8 g p ck cv):=fun s=>SimS.bd (hv s) fun x s=>by
 have hk:=hk s
 rw [hg]
 cases g s with
 | none=>trivial
 | some F =>
   show SimS rep eR (bd5 set (e x) (encD e F) (rep s) (mk (rep s))) _
   dsimp only
   cases q:ck s with
   | bad=>trivial
   | exc y=>rw [q] at hk; have hk:mk (rep s)= .exc y:=hk; rw [hk]; rfl
   | ok k =>
     rw [q] at hk; have hk:mk (rep s)= .ok (.tup (k.map D.int)):=hk
     rw [hk]
     show SimS rep eR (bd5 set (e x) (encD e F) (rep s) (.ok (.tup (k.map D.int)))) (if F.length < ab1 then FlC.nx (p s (F.put k x)) else .bad)
     by_cases h:F.length < ab1
     · rw [if_pos h]
       unfold bd5
       dsimp only
       rw [bm6 h]
       show SO.nx _=SO.nx _
       rw [hs]
     · rw [if_neg h]; trivial
@[simp] noncomputable def runC (d:Option β):FlC σ β→OutC σ β
 | .nx s=>(match d with | some b=> .ok b s | none=> .bad)
 | .rt b s=> .ok b s
 | .exc x s=> .exc x s
 | _=> .bad
theorem bd0 {k:Nat} {ds:List D} {body:Mi.Env→SO} {c:σ→FlC σ β} {s:σ} {d:β} (hd:eR d= .non) (h:TJ rep eR body c) (hr:ds.map some ++ List.replicate (k - ds.length) none=rep s):SimO rep eR (Mi.run k body ds) (runC (some d) (c s)):=by
 have h:=h s
 unfold Mi.run
 rw [hr]
 cases q:c s with
 | nx s'=>rw [q] at h; have h:body (rep s)= .nx (rep s'):=h; rw [h]; show Out.ok .non _=Out.ok (eR d) _; rw [hd]
 | rt b s'=>rw [q] at h; have h:body (rep s)= .rt (eR b) (rep s'):=h; rw [h]; rfl
 | exc x s'=>rw [q] at h; have h:body (rep s)= .exc x (rep s'):=h; rw [h]; rfl
 | _=>trivial
theorem ao3 {k:Nat} {ds:List D} {body:Mi.Env→SO} {c:σ→FlC σ β} {s:σ} (h:TJ rep eR body c) (hr:ds.map some ++ List.replicate (k - ds.length) none=rep s):SimO rep eR (Mi.run k body ds) (runC none (c s)):=by
 have h:=h s
 unfold Mi.run
 rw [hr]
 cases q:c s with
 | rt b s'=>rw [q] at h; have h:body (rep s)= .rt (eR b) (rep s'):=h; rw [h]; rfl
 | exc x s'=>rw [q] at h; have h:body (rep s)= .exc x (rep s'):=h; rw [h]; rfl
 | _=>trivial
theorem br3 {k:Nat} {ds:List D} {body:Mi.Env→SO} {c:σ→FlC σ β} {s:σ} (h:TJ rep eR body c) (hr:ds.map some ++ List.replicate (k - ds.length) none=rep s):SimO rep eR (runO k body ds) (runC none (c s)):=by
 have h:=h s
 unfold runO
 rw [hr]
 cases q:c s with
 | rt b s'=>rw [q] at h; have h:body (rep s)= .rt (eR b) (rep s'):=h; rw [h]; rfl
 | exc x s'=>rw [q] at h; have h:body (rep s)= .exc x (rep s'):=h; rw [h]; rfl
 | _=>trivial
end
section
variable {σ α β:Type} {rep:σ→Mi.Env} {eR:β→D}
theorem xp {e:α→D} {i:Nat} {g:σ→α} (h:∀ s,rg (rep s) i=some (e (g s)):=by exact fun _=>rfl):EJ rep e (vr i) (pC g):=bQ4 h
theorem xv {e:α→D} {i:Nat} {g:σ→Option α} (h:∀ s,rg (rep s) i=(g s).map e:=by exact fun _=>rfl):EJ rep e (vr i) (vC g):=bQ1 h
theorem xk {e:α→D} {d:D} {a:α} (h:e a=d:=by rfl):EJ rep e (cst d) (kC a):=ay6 h
theorem xs {e:α→D} {i:Nat} {m:Mi.Env→Out D} {c:σ→OutC σ α} {u:α→σ→σ} (h:NJ rep e m c) (hu:∀ a s,(rep s).set i (some (e a))=rep (u a s):=by exact fun _ _=>rfl):TJ rep eR (setS i m) (setC u c):=bH2 hu h
end
section
variable {σ σ' α β γ δ τ:Type}
theorem aF6 {u:α→σ→σ} {c:σ→FlC σ β} (R:τ→σ→Prop) (step:τ→α→τ):∀ (l:List α) (b:τ) (s:σ),R b s →
 (∀ b a s,a∈l→R b s→∃ s',(c (u a s)= .nx s'∨c (u a s)= .ct s')∧R (step b a) s')→∃ s',forC u c l s= .nx s'∧R (l.foldl step b) s'
 | [],b,s,h,_=>⟨s,rfl,h⟩
 | a :: l,b,s,h,st=>by
   obtain ⟨s2,e2,h2⟩:=st b a s List.mem_cons_self h
   obtain ⟨s',e,h'⟩:=aF6 R step l (step b a) s2 h2 fun b c s hb=>st b c s (List.mem_cons_of_mem _ hb)
   refine ⟨s',?_,h'⟩
   unfold forC
   rcases e2 with e2 | e2 <;> (rw [e2]; exact e)
theorem aQ9 {u:α→σ→σ} {c:σ→FlC σ β} (R:σ→Prop) (l:List α) (s:σ) (h:R s) (st:∀ a s,a∈l→R s→∃ s',(c (u a s)= .nx s'∨c (u a s)= .ct s')∧R s'):∃ s',forC u c l s= .nx s'∧R s':=by
 obtain ⟨s',e,h'⟩:=aF6 (τ:=Unit) (fun _ s=>R s) (fun _ _=>()) l () s h fun _ a s ha hs=>st a s ha hs
 exact ⟨s',e,h'⟩
theorem bm2 {u:α→σ→σ} {c:σ→FlC σ β} (R:List α→σ→Prop) (l:List α) (s:σ) (h:R [] s) (st:∀ p a r s,l=p ++ a :: r→R p s→∃ s',(c (u a s)= .nx s'∨c (u a s)= .ct s')∧R (p ++ [a]) s'):∃ s',forC u c l s= .nx s'∧R l s':=by
 have key:∀ (r p:List α) (s:σ),l=p ++ r→R p s→∃ s',forC u c r s= .nx s'∧R l s':=by
  intro r
  induction r with
  | nil=>intro p s e h; rw [List.append_nil] at e; exact ⟨s,rfl,by rw [e]; exact h⟩
  | cons a r ih =>
    intro p s e h
    obtain ⟨s2,e2,h2⟩:=st p a r s e h
    obtain ⟨s',e',h'⟩:=ih (p ++ [a]) s2 (by rw [e]; simp) h2
    refine ⟨s',?_,h'⟩
    unfold forC
    rcases e2 with e2 | e2 <;> (rw [e2]; exact e')
 exact key l [] s rfl h
theorem aU7 {t:σ→OutC σ Bool} {c:σ→FlC σ β} (R:Nat→σ→Prop) (S:σ→Prop) (st:∀ n s,R n s→(t s= .ok false s∧S s)∨(t s= .ok true s∧∃ m s2,m < n∧(c s= .nx s2∨c s= .ct s2)∧R m s2)) :
 ∀ (fuel n:Nat) (s:σ),R n s→n < fuel→∃ s',whC t c fuel s= .nx s'∧S s'
 | 0,n,s,h,hl=>absurd hl (Nat.not_lt_zero _)
 | fuel + 1,n,s,h,hl=>by
   unfold whC
   rcases st n s h with ⟨e,hs⟩ | ⟨e,m,s2,hm,eb,h2⟩
   · rw [e]
     exact ⟨s,rfl,hs⟩
   · rw [e]
     obtain ⟨s',e',hs⟩:=aU7 R S st fuel m s2 h2 (by omega)
     refine ⟨s',?_,hs⟩
     dsimp only
     rcases eb with eb | eb <;> (rw [eb]; exact e')
theorem aG8 {ti:α→Res Bool} {te:α→Res β} (p:α→Bool) (g:α→β):∀ l:List α,(∀ a∈l,ti a= .ok (p a))→(∀ a∈l,p a=true→te a= .ok (g a))→ak4 ti te l= .ok ((l.filter p).map g)
 | [],_,_=>rfl
 | a :: l,h1,h2=>by
   have ih:=aG8 p g l (fun b hb=>h1 b (List.mem_cons_of_mem _ hb)) fun b hb=>h2 b (List.mem_cons_of_mem _ hb)
   unfold ak4
   rw [h1 a List.mem_cons_self]
   show (if p a=true then _ else _)=_
   cases hp:p a with
   | true =>
     rw [if_pos rfl,h2 a List.mem_cons_self hp,ih,List.filter_cons,if_pos hp]
     rfl
   | false=>rw [if_neg Bool.false_ne_true,ih,List.filter_cons,if_neg (by rw [hp]; exact Bool.false_ne_true)]
theorem bh1 {src:σ→Res (List α)} {ti:α×σ→Res Bool} {te:α×σ→Res β} {s:σ} {l:List α} (p:α→Bool) (g:α→β) (hs:src s= .ok l) (hl:l.length < ab1) (h1:∀ a∈l,ti (a,s)= .ok (p a)) (h2:∀ a∈l,p a=true→te (a,s)= .ok (g a)) :
 aG9 src ti te s= .ok ((l.filter p).map g):=by
 unfold aG9
 rw [hs]
 show (if l.length < ab1 then _ else _)=_
 rw [if_pos hl]
 exact aG8 p g l h1 h2
theorem bn0 {src:σ→Res (List α)} {te:α×σ→Res β} {s:σ} {l:List α} (g:α→β) (hs:src s= .ok l) (hl:l.length < ab1) (h2:∀ a∈l,te (a,s)= .ok (g a)) :
 aG9 src (fun _=> .ok true) te s= .ok (l.map g):=by
 rw [bh1 (fun _=>true) g hs hl (fun _ _=>rfl) fun a ha _=>h2 a ha,List.filter_eq_self.mpr fun _ _=>rfl]
theorem aw0 (xs:List α) {i:Int} (h:0≤i):atI xs i=xs[i.toNat]?:=by
 unfold atI ixN
 rw [if_pos h]
 by_cases z:i < xs.length
 · rw [if_pos z]; rfl
 · rw [if_neg z,List.getElem?_eq_none (by omega)]; rfl
theorem aR5 (xs:List α):atI xs (-1)=xs.getLast?:=by
 unfold atI ixN
 rw [if_neg (by omega),List.getLast?_eq_getElem?]
 cases xs with
 | nil=>rfl
 | cons x r =>
   rw [if_pos (by simp only [List.length_cons]; omega)]
   show (x :: r)[(-1 + ((x :: r).length:Int)).toNat]?=_
   rw [show (-1 + ((x :: r).length:Int)).toNat=(x :: r).length - 1 by omega]
theorem aA5 (lo hi:Int):(rngI lo hi).length=(hi - lo).toNat:=by unfold rngI; simp
theorem ar7 {lo hi x:Int}:x∈rngI lo hi↔lo≤x∧x < hi:=by
 unfold rngI
 rw [List.mem_map]
 constructor
 · rintro ⟨i,hi',rfl⟩
   have:=List.mem_range.mp hi'
   omega
 · rintro ⟨h1,h2⟩
   exact ⟨(x - lo).toNat,List.mem_range.mpr (by omega),by omega⟩
theorem aS8 (lo hi:Int):(rngI lo hi).Nodup:=by
 unfold rngI
 unfold List.Nodup
 rw [List.pairwise_map]
 refine List.Pairwise.imp ?_ (List.nodup_range (n:=(hi - lo).toNat))
 intro a b h z
 exact h (by omega)
theorem bz2 {P:List Int→Prop} {F:DI β} {k:List Int} {v:β} (h:∀ p∈F,P p.1) (hk:P k):∀ p∈F.put k v,P p.1:=by
 intro p hp
 unfold DI.put at hp
 split at hp
 · obtain ⟨q,hq,rfl⟩:=List.mem_map.mp hp
   split <;> exact h q hq
 · rcases List.mem_append.mp hp with z | z
   · exact h p z
   · rw [List.mem_singleton.mp z]; exact hk
theorem aY7 {F:DI β} {k:List Int} {v:β}:(F.put k v).length≤F.length + 1:=by
 unfold DI.put
 split
 · rw [List.length_map]; omega
 · rw [List.length_append]; simp
noncomputable def DI.nd (F:DI β):Prop:=(F.map (·.1)).Nodup
theorem bM5 {F:DI β} {k:List Int} {v:β} (h:DI.nd F):DI.nd (F.put k v):=by
 unfold DI.nd DI.put at *
 by_cases q:(F.get k).isSome=true
 · rw [if_pos q,List.map_map]
   have:(F.map ((·.1) ∘ fun p=>if p.1=k then (p.1,v) else p))=F.map (·.1):=List.map_congr_left fun p _=>by
    show (if p.1=k then (p.1,v) else p).1=p.1
    split <;> rfl
   rw [this]; exact h
 · rw [if_neg q,List.map_append]
   refine List.nodup_append.mpr ⟨h,by simp,fun a ha b hb=>?_⟩
   have e:b=k:=by simpa using hb
   subst e
   rintro rfl
   obtain ⟨p,hp,e⟩:=List.mem_map.mp ha
   apply q
   unfold DI.get
   rw [Option.isSome_map,List.find?_isSome]
   exact ⟨p,hp,by simpa using e⟩
theorem aT6 {F:DI β} (h:DI.nd F) {k:List Int} {v:β} (hm:(k,v)∈F):F.get k=some v:=by
 unfold DI.nd at h
 induction F with
 | nil=>cases hm
 | cons p F ih =>
   rw [List.map_cons,List.nodup_cons] at h
   unfold DI.get
   rw [List.find?_cons]
   by_cases e:p.1=k
   · rw [decide_eq_true e]
     rcases List.mem_cons.mp hm with z | z
     · rw [← z]; rfl
     · exact absurd (List.mem_map.mpr ⟨(k,v),z,e.symm⟩) h.1
   · rw [decide_eq_false e]
     rcases List.mem_cons.mp hm with z | z
     · exact absurd (by rw [← z]) e
     · exact ih h.2 z
end
section
variable {σ α β γ δ:Type} {rep:σ→Mi.Env} {eR:β→D}
@[simp] noncomputable def bO6 (_:α):Res Int:= .ok 2
theorem bA9 {e:α→D} {e':γ→D} (p:α×γ):SimR D.int (lenD (eT2 e e' p)) (bO6 p):=rfl
end
section
variable {σ σ' α β γ δ:Type} {rep:σ→Mi.Env} {rep':σ'→Mi.Env}
@[simp] noncomputable def pc6C {α0 α1 α2 α3 α4 α5:Type} (f:α0→α1→α2→α3→α4→α5→OutC σ' γ) (c0:σ→Res α0) (c1:σ→Res α1) (c2:σ→Res α2) (c3:σ→Res α3) (c4:σ→Res α4) (c5:σ→Res α5):σ→Res γ:=fun s=>(c0 s).bind fun x0=>(c1 s).bind fun x1=>(c2 s).bind fun x2=>(c3 s).bind fun x3=>(c4 s).bind fun x4=>(c5 s).bind fun x5=>(f x0 x1 x2 x3 x4 x5).res
@[simp] noncomputable def pk6C {α0 α1 α2 α3 α4 α5:Type} (f:α0→α1→α2→α3→α4→α5→Res γ) (c0:σ→Res α0) (c1:σ→Res α1) (c2:σ→Res α2) (c3:σ→Res α3) (c4:σ→Res α4) (c5:σ→Res α5):σ→Res γ:=fun s=>(c0 s).bind fun x0=>(c1 s).bind fun x1=>(c2 s).bind fun x2=>(c3 s).bind fun x3=>(c4 s).bind fun x4=>(c5 s).bind fun x5=>f x0 x1 x2 x3 x4 x5
theorem row6 {α0 α1 α2 α3 α4 α5:Type} {e0:α0→D} {e1:α1→D} {e2:α2→D} {e3:α3→D} {e4:α4→D} {e5:α5→D} {m0 m1 m2 m3 m4 m5:Mi.Env→Res D} {c0:σ→Res α0} {c1:σ→Res α1} {c2:σ→Res α2} {c3:σ→Res α3} {c4:σ→Res α4} {c5:σ→Res α5} {eR:γ→δ} {k:List D→Res δ} {f:α0→α1→α2→α3→α4→α5→Res γ} (hf:∀ x0 x1 x2 x3 x4 x5,SimR eR (k [e0 x0,e1 x1,e2 x2,e3 x3,e4 x4,e5 x5]) (f x0 x1 x2 x3 x4 x5)) (h0:EJ rep e0 m0 c0) (h1:EJ rep e1 m1 c1) (h2:EJ rep e2 m2 c2) (h3:EJ rep e3 m3 c3) (h4:EJ rep e4 m4 c4) (h5:EJ rep e5 m5 c5):EJ rep eR (fun ρ=>((esC m0 (esC m1 (esC m2 (esC m3 (esC m4 (esC m5 esN)))))) ρ).bind k) (pk6C f c0 c1 c2 c3 c4 c5):=fun s=>by
 have g0:=h0 s
 have g1:=h1 s
 have g2:=h2 s
 have g3:=h3 s
 have g4:=h4 s
 have g5:=h5 s
 unfold pk6C
 cases q0:c0 s with
 | bad=>trivial
 | exc x=>rw [q0] at g0; have g0:m0 (rep s)= .exc x:=g0; show (_:Res _)= .exc x; simp only [esC,g0,Res.bind]
 | ok x0 =>
   rw [q0] at g0; have g0:m0 (rep s)= .ok (e0 x0):=g0
   cases q1:c1 s with
   | bad=>trivial
   | exc x=>rw [q1] at g1; have g1:m1 (rep s)= .exc x:=g1; show (_:Res _)= .exc x; simp only [esC,g0,g1,Res.bind]
   | ok x1 =>
     rw [q1] at g1; have g1:m1 (rep s)= .ok (e1 x1):=g1
     cases q2:c2 s with
     | bad=>trivial
     | exc x=>rw [q2] at g2; have g2:m2 (rep s)= .exc x:=g2; show (_:Res _)= .exc x; simp only [esC,g0,g1,g2,Res.bind]
     | ok x2 =>
       rw [q2] at g2; have g2:m2 (rep s)= .ok (e2 x2):=g2
       cases q3:c3 s with
       | bad=>trivial
       | exc x=>rw [q3] at g3; have g3:m3 (rep s)= .exc x:=g3; show (_:Res _)= .exc x; simp only [esC,g0,g1,g2,g3,Res.bind]
       | ok x3 =>
         rw [q3] at g3; have g3:m3 (rep s)= .ok (e3 x3):=g3
         cases q4:c4 s with
         | bad=>trivial
         | exc x=>rw [q4] at g4; have g4:m4 (rep s)= .exc x:=g4; show (_:Res _)= .exc x; simp only [esC,g0,g1,g2,g3,g4,Res.bind]
         | ok x4 =>
           rw [q4] at g4; have g4:m4 (rep s)= .ok (e4 x4):=g4
           cases q5:c5 s with
           | bad=>trivial
           | exc x=>rw [q5] at g5; have g5:m5 (rep s)= .exc x:=g5; show (_:Res _)= .exc x; simp only [esC,g0,g1,g2,g3,g4,g5,Res.bind]
           | ok x5 =>
             rw [q5] at g5; have g5:m5 (rep s)= .ok (e5 x5):=g5
             have z:=hf x0 x1 x2 x3 x4 x5
             simp only [esC,esN,g0,g1,g2,g3,g4,g5,Res.bind]
             exact z
theorem bQ3 {α0 α1 α2 α3 α4 α5:Type} {e0:α0→D} {e1:α1→D} {e2:α2→D} {e3:α3→D} {e4:α4→D} {e5:α5→D} {m0 m1 m2 m3 m4 m5:Mi.Env→Res D} {c0:σ→Res α0} {c1:σ→Res α1} {c2:σ→Res α2} {c3:σ→Res α3} {c4:σ→Res α4} {c5:σ→Res α5} {eR:γ→D} {fm:List D→Out D} {f:α0→α1→α2→α3→α4→α5→OutC σ' γ} (hf:∀ x0 x1 x2 x3 x4 x5,SimO rep' eR (fm [e0 x0,e1 x1,e2 x2,e3 x3,e4 x4,e5 x5]) (f x0 x1 x2 x3 x4 x5)) (h0:EJ rep e0 m0 c0) (h1:EJ rep e1 m1 c1) (h2:EJ rep e2 m2 c2) (h3:EJ rep e3 m3 c3) (h4:EJ rep e4 m4 c4) (h5:EJ rep e5 m5 c5):EJ rep eR (pc fm (esC m0 (esC m1 (esC m2 (esC m3 (esC m4 (esC m5 esN))))))) (pc6C f c0 c1 c2 c3 c4 c5):=row6 (k:=ao4 fm) (f:=fun x0 x1 x2 x3 x4 x5=>(f x0 x1 x2 x3 x4 x5).res) (fun x0 x1 x2 x3 x4 x5=>(hf x0 x1 x2 x3 x4 x5).res) h0 h1 h2 h3 h4 h5
end
end Cl
namespace Mi
open PySem L2
section
variable {cm:Cm} {E:XK} {ms:List Md} {K:PySem.W.Frag}
structure Prt (cm:Cm) (ms:List Md) (t:TE) (get:Env→Option D) (set:Env→D→Env) (i:Nat) (s:Sh):Prop where
 rd:∀ {B U:Hp} {As:Nat→List Addr} {σ:St} {H:Hp} {ρ:Env} {d:D},Rel cm ms B U As σ H ρ→get ρ=some d→∃ sh v0 d0 v L A R,ms.getD i .F= .O sh∧rg σ i=some v0∧rg ρ i=some d0∧As i=L ++ (A ++ R)∧(∀ Q:VK,Q v H→t σ H Q)∧Ow cm B H d s v A ∧
  ∀ B1 H1 d' A1,Same B B1→(∀ a,a∈L∨a∈R→H1 a=H a)→Ow cm B1 H1 d' s v A1→∃ D',Ow cm B1 H1 D' sh v0 (L ++ (A1 ++ R))∧set ρ d'=ρ.set i (some D')
theorem prtV {i:Nat} {sh:Sh} (hm:ms.getD i .F= .O sh):Prt cm ms (tVar i) (al5 i) (ao6 i) i sh where
 rd:=fun {B U As σ H ρ d} R e=>by
  replace e:rg ρ i=some d:=e
  have l:=R.lo i
  rw [e,hm] at l
  obtain ⟨v,hv,w⟩:=l
  exact ⟨sh,v,d,v,[],As i,[],hm,hv,e,by simp,fun Q q=>⟨v,ag0 hv,q⟩,w,fun B1 H1 d' A1 _ _ w'=>⟨d',by simpa using w',rfl⟩⟩
theorem Ows.lens {s:Sh} {B H:Hp}:∀ {ds:List D} {xs:List V} {A:List Addr} {n:Nat} {d:D},Ows cm B H ds s xs A→ds[n]?=some d →
 ∃ v L A1 R,xs[n]?=some v∧A=L ++ (A1 ++ R)∧Ow cm B H d s v A1∧∀ B1 H1 d' A2,Same B B1→(∀ a,a∈L∨a∈R→H1 a=H a)→Ow cm B1 H1 d' s v A2→Ows cm B1 H1 (ds.set n d') s xs (L ++ (A2 ++ R))
 | [],xs,A,n,d,h,e=>by cases e
 | d0 :: ds,xs,A,n,d,h,e=>by
   rw [Ows] at h
   obtain ⟨x,r,X1,X2,rfl,h1,h2,h3⟩:=h
   subst h1
   cases n with
   | zero =>
     cases e
     refine ⟨x,[],X1,X2,rfl,rfl,h2,fun B1 H1 d' A2 sb k w=>?_⟩
     rw [List.set_cons_zero,Ows]
     exact ⟨x,r,A2,X2,rfl,rfl,w,Ows.mono sb (fun b hb=>k b (.inr hb)) h3⟩
   | succ n =>
     obtain ⟨v,L,A1,R,hv,hA,ow,cl⟩:=Ows.lens (n:=n) h3 (by simpa using e)
     refine ⟨v,X1 ++ L,A1,R,by simpa using hv,by rw [hA,List.append_assoc],ow,fun B1 H1 d' A2 sb k w=>?_⟩
     rw [List.set_cons_succ,Ows]
     exact ⟨x,r,X1,L ++ (A2 ++ R),rfl,by rw [List.append_assoc],Ow.mono sb (fun b hb=>k b (.inl (List.mem_append_left _ hb))) h2,cl B1 H1 d' A2 sb (fun b hb=>k b (hb.imp (fun z=>List.mem_append_right _ z) id)) w⟩
theorem Ow.ls {B H:Hp} {ds:List D} {s:Sh} {v:V} {A:List Addr} (w:Ow cm B H (.lst ds) (.ct s) v A):∃ (a:Addr) (xs:List V) (A':List Addr),v= .ref a∧H a=some (.lst xs)∧A=a :: A'∧Ows cm B H ds s xs A':=by rw [Ow] at w; exact w
theorem Ow.ls' {B H:Hp} {ds:List D} {s:Sh} {a:Addr} {xs:List V} {A':List Addr} (h:H a=some (.lst xs)) (k:Ows cm B H ds s xs A'):Ow cm B H (.lst ds) (.ct s) (.ref a) (a :: A'):=by rw [Ow]; exact ⟨a,xs,A',rfl,h,rfl,k⟩
noncomputable def IxJ (cm:Cm) (ms:List Md) (tk:TE) (mk:Env→Option Int):Prop:=∀ {B U:Hp} {As:Nat→List Addr} {σ:St} {H:Hp} {ρ:Env} {k:Int},Rel cm ms B U As σ H ρ→mk ρ=some k→∀ Q:VK,Q (.int k) H→tk σ H Q
noncomputable def ixV (j:Nat):Env→Option Int:=fun ρ=>match rg ρ j with
 | some (.int k)=>some k
 | _=>none
theorem ay1 {j:Nat}:IxJ cm ms (tVar j) (ixV j):=fun {B U As σ H ρ k} R e Q q=>by
 unfold ixV at e
 have l:=R.lo j
 cases e0:rg ρ j with
 | none=>rw [e0] at e; cases e
 | some d =>
   cases d with
   | int n =>
     rw [e0] at e l
     cases e
     obtain ⟨v,hv,w⟩:=l
     have:v= .int k:=by
      cases em:ms.getD j .F with
      | F=>rw [em] at w; have w:=w.1; rw [Dn] at w; exact w
      | R=>rw [em] at w; have w:=w.1; rw [Dn] at w; exact w
      | O s =>
        rw [em] at w
        cases s with
        | fz=>have w:Ow cm B H (.int k) .fz v (As j):=w; rw [Ow] at w; have w:=w.1; rw [Dn] at w; exact w
        | ct s=>have w:Ow cm B H (.int k) (.ct s) v (As j):=w; simp [Ow] at w
        | ob s=>have w:Ow cm B H (.int k) (.ob s) v (As j):=w; simp [Ow] at w
     subst this
     exact ⟨_,ag0 hv,q⟩
   | _=>rw [e0] at e; cases e
noncomputable def ax0 (get:Env→Option D) (mk:Env→Option Int):Env→Option D:=fun ρ=>match get ρ,mk ρ with
 | some (.lst xs),some k=>if 0≤k then xs[k.toNat]? else none
 | _,_=>none
noncomputable def aw5 (get:Env→Option D) (set:Env→D→Env) (mk:Env→Option Int):Env→D→Env:=fun ρ d=>match get ρ,mk ρ with
 | some (.lst xs),some k=>set ρ (.lst (xs.set k.toNat d))
 | _,_=>ρ
theorem prtI {t tk:TE} {get:Env→Option D} {set:Env→D→Env} {mk:Env→Option Int} {i:Nat} {s:Sh} (p:Prt cm ms t get set i (.ct s)) (hk:IxJ cm ms tk mk):Prt cm ms (tOp (rIxL K) t tk) (ax0 get mk) (aw5 get set mk) i s where
 rd:=fun {B U As σ H ρ d} R e=>by
  unfold ax0 at e
  cases e0:get ρ with
  | none=>rw [e0] at e; cases e
  | some d1 =>
    cases d1 with
    | lst ds =>
      cases e1:mk ρ with
      | none=>rw [e0,e1] at e; cases e
      | some k =>
        rw [e0,e1] at e
        replace e:(if 0≤k then ds[k.toNat]? else none)=some d:=e
        by_cases q:0≤k
        · rw [if_pos q] at e
          obtain ⟨sh,v0,d0,v,L,A,R',hm,hv,hd,hA,ht,ow,cl⟩:=p.rd R e0
          obtain ⟨a,xs,A',rfl,h1,rfl,h4⟩:=ow.ls
          obtain ⟨u,L2,A1,R2,hu,rfl,ow2,cl2⟩:=Ows.lens h4 e
          refine ⟨sh,v0,d0,u,L ++ (a :: L2),A1,R2 ++ R',hm,hv,hd,by rw [hA]; simp [List.append_assoc],fun Q q'=>ht _ (hk R e1 _ ⟨a,xs,k,u,rfl,rfl,SqL.of h1,by rw [Cl.aw0 xs q]; exact hu,q'⟩),ow2,fun B1 H1 d' A2 sb kk w=>?_⟩
          have k1:∀ b,b∈L∨b∈R'→H1 b=H b:=fun b hb=>kk b (hb.imp (fun z=>List.mem_append_left _ z) fun z=>List.mem_append_right _ z)
          have k2:H1 a=H a:=kk a (.inl (List.mem_append_right _ List.mem_cons_self))
          have w2:=cl2 B1 H1 d' A2 sb (fun b hb=>kk b (hb.imp (fun z=>List.mem_append_right _ (List.mem_cons_of_mem _ z)) fun z=>List.mem_append_left _ z)) w
          obtain ⟨D',w3,e3⟩:=cl B1 H1 _ _ sb k1 (Ow.ls' (by rw [k2]; exact h1) w2)
          refine ⟨D',by simpa [List.append_assoc] using w3,?_⟩
          unfold aw5
          rw [e0,e1]
          exact e3
        · rw [if_neg q] at e
          cases e
    | _=>rw [e0] at e; cases e
theorem pthP {t:TE} {get:Env→Option D} {set:Env→D→Env} {i:Nat} (p:Prt cm ms t get set i (.ct .fz)):Pth cm ms t get set where
 rd:=fun {B U As σ H ρ d} R e=>by
  obtain ⟨sh,v0,d0,v,L,A,R',hm,hv,hd,hA,ht,ow,cl⟩:=p.rd R e
  have nd:=R.nd i
  rw [hA] at nd
  obtain ⟨_,nd2,nd3⟩:=List.nodup_append.mp nd
  obtain ⟨_,_,nd4⟩:=List.nodup_append.mp nd2
  refine ⟨v,A,ht,ow,fun a ha=>⟨i,by rw [hA]; exact List.mem_append_right _ (List.mem_append_left _ ha)⟩,fun B1 U1 H1 R1 sb sH a ha o' d' w'=>?_⟩
  have hai:a∈As i:=by rw [hA]; exact List.mem_append_right _ (List.mem_append_left _ ha)
  have key:∀ b,b∈L∨b∈R'→upd H1 a o' b=H b:=fun b hb=>by
   have hbi:b∈As i:=by
    rw [hA]
    rcases hb with hb | hb
    · exact List.mem_append_left _ hb
    · exact List.mem_append_right _ (List.mem_append_right _ hb)
   have hne:b≠a:=fun z=>by
    subst z
    rcases hb with hb | hb
    · exact nd3 b hb b (List.mem_append_left _ ha) rfl
    · exact nd4 b ha b hb rfl
   rw [ab2 hne]
   obtain ⟨o,ho⟩:=R.at hbi
   rw [ho,sH _ _ ho]
  obtain ⟨D',w3,e3⟩:=cl B1 (upd H1 a o') d' A sb key w'
  rw [e3]
  exact R1.mut hm hv hd hai (by rw [hA]; exact w3)
end
section
variable {cm:Cm} {E:XK} {ms:List Md} {K:PySem.W.Frag} {B U H:Hp} {As:Nat→List Addr} {σ:St} {ρ:Env}
noncomputable def putM (ms:List Md) (n:Nat) (s:Sh):List Md:=(List.range (max ms.length (n + 1))).map fun j=>if j=n then .O s else ms.getD j .F
theorem ar5 {n:Nat} {s:Sh} (j:Nat):(putM ms n s).getD j .F=if j=n then .O s else ms.getD j .F:=by
 unfold putM
 rw [List.getD_eq_getElem?_getD,List.getElem?_map]
 by_cases h:j < max ms.length (n + 1)
 · rw [List.getElem?_range h]; rfl
 · rw [List.getElem?_eq_none (by rw [List.length_range]; omega)]
   have h1:¬ j=n:=by omega
   rw [if_neg h1,List.getD_eq_getElem?_getD,List.getElem?_eq_none (by omega)]
   rfl
noncomputable def al3 (set:Env→D→Env) (fm:List D→Out D) (d:D) (ds:List D) (ρ:Env):Out D:=match fm (d :: ds) with
 | .ok x ρc=>(match rg ρc 0 with | some d'=> .ok x (set ρ d') | none=> .bad)
 | .exc c ρc=>(match rg ρc 0 with | some d'=> .exc c (set ρ d') | none=> .bad)
 | .bad=> .bad
theorem ao5:∀ {ps:List Ap} {j:Nat} {ρc ρ:Env},lent ps=[]→wbGo ps j ρc ρ=ρ
 | [],_,_,_,_=>rfl
 | p :: r,j,ρc,ρ,h=>by
   cases p with
   | O i=>cases h
   | F=>rw [wbGo]; exact ao5 h; all_goals simp
   | U=>rw [wbGo]; exact ao5 h; all_goals simp
   | X=>rw [wbGo]; exact ao5 h; all_goals simp
   | Bo i=>rw [wbGo]; exact ao5 h; all_goals simp
theorem fitM.any {ms':List Md}:∀ {ps:List Ap} {mc:List Md},lent ps=[]→fitM ms ps mc→fitM ms' ps mc
 | [],[],_,_=>trivial
 | [],_ :: _,_,h=>h.elim
 | _ :: _,[],_,h=>h.elim
 | p :: ps,m :: r,hl,h=>by
   cases p with
   | O i=>cases hl
   | F=>exact ⟨by cases m <;> first | trivial | exact h.1.elim,fitM.any hl h.2⟩
   | U=>exact ⟨by cases m <;> first | trivial | exact h.1.elim,fitM.any hl h.2⟩
   | X=>exact ⟨by cases m <;> exact h.1.elim,fitM.any hl h.2⟩
   | Bo i=>exact ⟨by cases m <;> first | trivial | exact h.1.elim,fitM.any hl h.2⟩
theorem Ag.plus {U1:Hp} {σ1:St} {ρ1:Env} {i:Nat} (su:Same U U1) (hσ:∀ j v,rg σ j=some v→rg σ1 j=some v) (hρ:∀ j d,j≠i→rg ρ j=some d→rg ρ1 j=some d) :
 ∀ {ps:List Ap} {ds:List D} {vs:List V},lent ps=[]→i∉borr ps→Ag cm B U H σ ρ ps ds vs→Ag cm B U1 H σ1 ρ1 ps ds vs
 | [],_,_,_,_,h=>h
 | p :: ps,ds,vs,hl,hb,h=>by
   obtain ⟨d,dr,v,vr,rfl,rfl,h1,h2⟩:=h
   cases p with
   | O k=>cases hl
   | F=>exact ⟨d,dr,v,vr,rfl,rfl,h1,Ag.plus su hσ hρ hl hb h2⟩
   | U=>exact ⟨d,dr,v,vr,rfl,rfl,Dn.mono su h1,Ag.plus su hσ hρ hl hb h2⟩
   | X=>exact ⟨d,dr,v,vr,rfl,rfl,h1,Ag.plus su hσ hρ hl hb h2⟩
   | Bo k=>exact ⟨d,dr,v,vr,rfl,rfl,⟨hσ k v h1.1,hρ k d (fun z=>hb (by rw [z]; exact List.mem_cons_self)) h1.2⟩,Ag.plus su hσ hρ hl (fun z=>hb (List.mem_cons_of_mem _ z)) h2⟩
theorem ai4 {α:Type} {l:List (Option α)} {x:Option α} {j:Nat}:rg (l ++ [x]) j=if j=l.length then x else rg l j:=by
 unfold rg
 by_cases h:j < l.length
 · rw [List.getElem?_append_left h,if_neg (by omega)]
 · rw [List.getElem?_append_right (by omega)]
   by_cases e:j=l.length
   · rw [if_pos e,e,Nat.sub_self]; rfl
   · rw [if_neg e,List.getElem?_eq_none (by simp; omega),List.getElem?_eq_none (by omega)]
open Classical in
theorem bz8 {i:Nat} {s sh:Sh} {v0 v:V} {d0 d:D} {L A R':List Addr} {set:Env→D→Env} {msR:List Md} {Kr:KT D V} {fm:List D→Out D} {ps:List Ap} {ds:List D} {vs:List V} {Q:VK} (R:Rel cm ms B U As σ H ρ)
 (hm:ms.getD i .F= .O sh) (hv:rg σ i=some v0) (hd:rg ρ i=some d0) (hA:As i=L ++ (A ++ R')) (ow:Ow cm B H d s v A)
 (cl:∀ B1 H1 d' A1,Same B B1→(∀ a,a∈L∨a∈R'→H1 a=H a)→Ow cm B1 H1 d' s v A1→∃ D',Ow cm B1 H1 D' sh v0 (L ++ (A1 ++ R'))∧set ρ d'=ρ.set i (some D'))
 (G:Ag cm B U H σ ρ ps ds vs) (hf:fitM ms ps msR) (hl:lent ps=[]) (hb:i∉borr ps) (hU:∀ d v B U U' H N,Kr d v B U H N→Kr d v B U' H N) (P:Mo cm Kr E ms B U σ (al3 set fm d ds ρ) Q):spM cm (.O s :: msR) Kr fm (v :: vs) H Q E:=by
 have hi:i < ρ.length:=(List.getElem?_eq_some_iff.mp (ag0 hd)).1
 have hlen:=R.len
 have nd:=R.nd i
 rw [hA] at nd
 obtain ⟨ndL,nd2,nd3⟩:=List.nodup_append.mp nd
 obtain ⟨ndA,ndR,nd4⟩:=List.nodup_append.mp nd2
 have inI:∀ {a},a∈L∨a∈R'→a∈As i:=fun {a} h=>by
  rw [hA]
  rcases h with h | h
  · exact List.mem_append_left _ h
  · exact List.mem_append_right _ (List.mem_append_right _ h)
 have inA:∀ {a},a∈A→a∈As i:=fun {a} h=>by rw [hA]; exact List.mem_append_right _ (List.mem_append_left _ h)
 have offA:∀ {a},a∈A→¬ (a∈L∨a∈R'):=fun {a} h z=>by
  rcases z with z | z
  · exact nd3 a z a (List.mem_append_left _ h) rfl
  · exact nd4 a h a z rfl
 obtain ⟨Up,up1,up2⟩:∃ Up:Hp,(∀ a,a∈L∨a∈R'→Up a=H a)∧∀ a,¬ (a∈L∨a∈R')→Up a=U a:=⟨fun a=>if a∈L∨a∈R' then H a else U a,fun a h=>if_pos h,fun a h=>if_neg h⟩
 have sUp:Same U Up:=fun a o q=>by
  by_cases z:a∈L∨a∈R'
  · rw [up1 a z]; exact R.uh a o q
  · rw [up2 a z]; exact q
 have upH:Same Up H:=fun a o q=>by
  by_cases z:a∈L∨a∈R'
  · rw [up1 a z] at q; exact q
  · rw [up2 a z] at q; exact R.uh a o q
 have Rp:Rel cm (putM ms ρ.length s) B Up (fun j=>if j=ρ.length then A else if j=i then [] else As j) (σ ++ [some v]) H (ρ.set i none ++ [some d]):=by
  have lr:(ρ.set i (none:Option D)).length=ρ.length:=List.length_set ..
  refine ⟨R.bu.trans sUp,upH,fun j=>?_,fun j k a hne ha hk=>?_,fun j a ha=>?_,fun j=>?_,by rw [List.length_append,List.length_append,lr,hlen]; rfl,R.tb⟩
  · try dsimp only
    split
    · exact ndA
    · split
      · exact List.nodup_nil
      · exact R.nd j
  · try dsimp only at ha hk
    split at ha
    · split at hk
      · exact hne (by omega)
      · split at hk
        · cases hk
        · rename_i h1 h2 h3
          exact R.dj i k a (fun z=>h3 z.symm) (inA ha) hk
    · split at ha
      · cases ha
      · split at hk
        · rename_i h1 h2 h3
          exact R.dj j i a h2 ha (inA hk)
        · split at hk
          · cases hk
          · exact R.dj j k a hne ha hk
  · try dsimp only at ha
    split at ha
    · rw [up2 a (offA ha)]; exact R.un i a (inA ha)
    · split at ha
      · cases ha
      · rename_i h1 h2
        rw [up2 a (fun z=>R.dj i j a (fun y=>h2 y.symm) (inI z) ha)]; exact R.un j a ha
  · try dsimp only
    rw [ar5,ai4,ai4,lr,hlen]
    by_cases h1:j=σ.length
    · rw [if_pos h1,if_pos h1,if_pos h1,if_pos h1]
      exact ⟨v,rfl,ow⟩
    · rw [if_neg h1,if_neg h1,if_neg h1,if_neg h1,ag6]
      by_cases h2:j=i
      · rw [if_pos h2,if_pos ⟨h2.symm,hi⟩]; rfl
      · rw [if_neg h2,if_neg fun z=>h2 z.1.symm]
        exact (R.lo j).mono (Same.refl _) sUp fun _ _=>rfl
 have Gp:Ag cm B Up H (σ ++ [some v]) (ρ.set i none ++ [some d]) (.O ρ.length :: ps) (d :: ds) (v :: vs):=by
  refine ⟨d,ds,v,vs,rfl,rfl,⟨by rw [ai4,if_pos hlen],by rw [ai4,List.length_set,if_pos rfl]⟩,Ag.plus sUp (fun j x q=>?_) (fun j x hne q=>?_) hl hb G⟩
  · have:j < σ.length:=(List.getElem?_eq_some_iff.mp (ag0 q)).1
    rw [ai4,if_neg (by omega)]; exact q
  · have:j < ρ.length:=(List.getElem?_eq_some_iff.mp (ag0 q)).1
    rw [ai4,List.length_set,if_neg (by omega),ag6,if_neg fun z=>hne z.1.symm]; exact q
 have back:∀ {B' U' H':Hp} {As':Nat→List Addr} {d':D},Rel cm (putM ms ρ.length s) B' U' As' (σ ++ [some v]) H' ((ρ.set i none ++ [some d]).set ρ.length (some d'))→Ex B Up B' U' →
  ∃ U2 As2,Rel cm ms B' U2 As2 σ H' (set ρ d')∧Ex B U B' U2∧∀ N,NewM N U' As'→NewM N U2 As2:=fun {B' U' H' As' d'} R1 e1=>by
  have lr:(ρ.set i (none:Option D) ++ [some d]).length=ρ.length + 1:=by rw [List.length_append,List.length_set]; rfl
  have there:∀ {a},a∈L∨a∈R'→∃ o,H a=some o∧U' a=some o∧H' a=some o:=fun {a} h=>by
   obtain ⟨o,q⟩:=R.at (inI h)
   have:=e1.u a o (by rw [up1 a h]; exact q)
   exact ⟨o,q,this,R1.uh a o this⟩
  have keepH:∀ a,a∈L∨a∈R'→H' a=H a:=fun a h=>by obtain ⟨o,q1,_,q3⟩:=there h; rw [q1,q3]
  have noB:∀ {a},a∈L∨a∈R'→B' a=none:=fun {a} h=>by
   cases z:B' a with
   | none=>rfl
   | some o' =>
     obtain ⟨o,q1,q2,q3⟩:=there h
     rcases e1.nb a o' z with w | w | w
     · have:=R.bu a o' w; rw [R.un i a (inI h)] at this; cases this
     · rw [up1 a h,q1] at w; cases w
     · rw [R1.bh a o' z] at q3; cases q3; exact (R.nt (inI h) q1 w).elim
  obtain ⟨U2,u1,u2⟩:∃ U2:Hp,(∀ a,a∈L∨a∈R'→U2 a=none)∧∀ a,¬ (a∈L∨a∈R')→U2 a=U' a:=⟨fun a=>if a∈L∨a∈R' then none else U' a,fun a h=>if_pos h,fun a h=>if_neg h⟩
  have none2:∀ {a},U' a=none→U2 a=none:=fun {a} h=>by
   by_cases z:a∈L∨a∈R'
   · exact u1 a z
   · rw [u2 a z]; exact h
  have sU2:Same U U2:=fun a o q=>by
   have z:¬ (a∈L∨a∈R'):=fun z=>by rw [R.un i a (inI z)] at q; cases q
   rw [u2 a z]; exact e1.u a o (sUp a o q)
  have l1:=R1.lo ρ.length
  rw [ag6,if_pos ⟨rfl,by rw [lr]; omega⟩,ai4,if_pos hlen,ar5,if_pos rfl] at l1
  obtain ⟨v',hv',ow1⟩:=l1
  cases hv'
  have ow1:Ow cm B' H' d' s v (As' ρ.length):=ow1
  obtain ⟨D',ow2,e2⟩:=cl B' H' d' (As' ρ.length) e1.b keepH ow1
  have offN:∀ {a j},a∈As' j→¬ (a∈L∨a∈R'):=fun {a j} h z=>by obtain ⟨o,_,q,_⟩:=there z; rw [R1.un j a h] at q; cases q
  refine ⟨U2,fun j=>if j=i then L ++ (As' ρ.length ++ R') else if j=ρ.length then [] else As' j,⟨fun a o q=>?_,fun a o q=>?_,fun j=>?_,fun j k a hne ha hk=>?_,fun j a ha=>?_,fun j=>?_,by rw [e2,List.length_set]; exact hlen,R1.tb⟩,⟨e1.b,sU2,fun a o q=>?_⟩,fun N n=>⟨n.nd,fun a ha=>none2 (n.un a ha),fun a ha j hj=>?_⟩⟩
  · have z:¬ (a∈L∨a∈R'):=fun z=>by rw [noB z] at q; cases q
    rw [u2 a z]; exact R1.bu a o q
  · by_cases z:a∈L∨a∈R'
    · rw [u1 a z] at q; cases q
    · rw [u2 a z] at q; exact R1.uh a o q
  · try dsimp only
    split
    · refine List.nodup_append.mpr ⟨ndL,List.nodup_append.mpr ⟨R1.nd _,ndR,fun x hx y hy e=>offN hx (.inr (e ▸ hy))⟩,fun x hx y hy e=>?_⟩
      rcases List.mem_append.mp hy with hy | hy
      · exact offN hy (.inl (e ▸ hx))
      · exact nd3 x hx y (List.mem_append_right _ hy) e
    · split
      · exact List.nodup_nil
      · exact R1.nd j
  · have main:∀ {k:Nat},k≠i→a∈L ++ (As' ρ.length ++ R')→a∈(if k=i then L ++ (As' ρ.length ++ R') else if k=ρ.length then [] else As' k)→False:=fun {k} hk ha hk2=>by
     rw [if_neg hk] at hk2
     split at hk2
     · cases hk2
     · rename_i h3
       rcases List.mem_append.mp ha with h | h
       · exact offN hk2 (.inl h)
       · rcases List.mem_append.mp h with h | h
         · exact R1.dj ρ.length k a (fun z=>h3 z.symm) h hk2
         · exact offN hk2 (.inr h)
    try dsimp only at ha hk
    by_cases h1:j=i
    · rw [if_pos h1] at ha
      exact main (fun z=>hne (by omega)) ha hk
    · by_cases h2:k=i
      · rw [if_pos h2] at hk
        exact main h1 hk ha
      · rw [if_neg h1] at ha
        rw [if_neg h2] at hk
        split at ha
        · cases ha
        · split at hk
          · cases hk
          · exact R1.dj j k a hne ha hk
  · try dsimp only at ha
    split at ha
    · rcases List.mem_append.mp ha with h | h
      · exact u1 a (.inl h)
      · rcases List.mem_append.mp h with h | h
        · exact none2 (R1.un _ a h)
        · exact u1 a (.inr h)
    · split at ha
      · cases ha
      · exact none2 (R1.un j a ha)
  · try dsimp only
    rw [e2,ag6]
    by_cases h1:j=i
    · subst h1
      rw [if_pos ⟨rfl,hi⟩,if_pos rfl,hm]
      exact ⟨v0,hv,ow2⟩
    · rw [if_neg fun z=>h1 z.1.symm,if_neg h1]
      by_cases h2:j=ρ.length
      · subst h2
        rw [if_pos rfl]
        have:rg ρ ρ.length=none:=by unfold rg; rw [List.getElem?_eq_none (Nat.le_refl _)]; rfl
        rw [this]; rfl
      · rw [if_neg h2]
        have l2:=R1.lo j
        rw [ag6,if_neg fun z=>h2 z.1.symm,ai4,List.length_set,if_neg h2,ag6,if_neg fun z=>h1 z.1.symm,ai4,if_neg (by omega),ar5,if_neg h2] at l2
        have l0:=R.lo j
        cases ed:rg ρ j with
        | none=>rw [ed] at l2; exact l2
        | some x =>
          rw [ed] at l2 l0
          obtain ⟨y,hy,w⟩:=l2
          refine ⟨y,hy,?_⟩
          cases em:ms.getD j .F with
          | F=>rw [em] at w; exact w
          | O s'=>rw [em] at w; exact w
          | R =>
            rw [em] at w l0
            obtain ⟨y',hy',w'⟩:=l0
            rw [hy] at hy'; cases hy'
            exact ⟨Dn.mono sU2 w'.1,w.2⟩
  · rcases e1.nb a o q with w | w | w
    · exact .inl w
    · exact .inr (.inl (sUp.free w))
    · exact .inr (.inr w)
  · try dsimp only at hj
    split at hj
    · rcases List.mem_append.mp hj with h | h
      · obtain ⟨o,_,q,_⟩:=there (.inl h); rw [n.un a ha] at q; cases q
      · rcases List.mem_append.mp h with h | h
        · exact n.ap a ha _ h
        · obtain ⟨o,_,q,_⟩:=there (.inr h); rw [n.un a ha] at q; cases q
    · split at hj
      · cases hj
      · exact n.ap a ha j hj
 have hbo:∀ k∈borr ps,k < ρ.length:=by
  have key:∀ {ps:List Ap} {ds:List D} {vs:List V},Ag cm B U H σ ρ ps ds vs→∀ k∈borr ps,k < ρ.length:=by
   intro ps
   induction ps with
   | nil=>intro ds vs _ k hk; cases hk
   | cons p ps ih =>
     intro ds vs G k hk
     obtain ⟨d,dr,v,vr,rfl,rfl,h1,h2⟩:=G
     cases p with
     | Bo q =>
       rcases List.mem_cons.mp hk with z | z
       · subst z; exact (List.getElem?_eq_some_iff.mp (ag0 h1.2)).1
       · exact ih h2 k z
     | _=>exact ih h2 k hk
  exact key G
 refine bn4 (ms:=putM ms ρ.length s) (ps:= .O ρ.length :: ps) (ds:=d :: ds) Rp Gp ⟨show (putM ms ρ.length s).getD ρ.length .F= .O s by rw [ar5,if_pos rfl],fitM.any hl hf⟩ (by show (ρ.length :: lent ps).Nodup; rw [hl]; simp)
  (fun k hk z=>by
    have z:k∈ρ.length :: lent ps:=z
    rw [hl] at z
    have:=hbo k hk
    have:=List.mem_singleton.mp z
    omega) hU ?_
 unfold aU4
 unfold al3 at P
 cases ef:fm (d :: ds) with
 | bad=>rw [ef] at P; exact P
 | ok x ρc =>
   rw [ef] at P
   try dsimp only at P ⊢
   rw [wbGo,ao5 hl]
   intro u B1 U1 As1 H1 N R1 e1 n1 k1
   cases er:rg ρc 0 with
   | none=>rw [er] at P; exact P.elim
   | some d' =>
     rw [er] at P R1
     obtain ⟨U2,As2,R2,e2,n2⟩:=back R1 e1
     exact P u B1 U2 As2 H1 N R2 e2 (n2 N n1) (hU _ _ _ _ _ _ _ k1)
 | exc c ρc =>
   rw [ef] at P
   try dsimp only at P ⊢
   rw [wbGo,ao5 hl]
   intro B1 U1 As1 H1 R1 e1
   cases er:rg ρc 0 with
   | none=>rw [er] at P; exact P.elim
   | some d' =>
     rw [er] at P R1
     obtain ⟨U2,As2,R2,e2,n2⟩:=back R1 e1
     exact P B1 U2 As2 H1 R2 e2
end
end Mi
namespace L2
open PySem PySem.Spec PyProof.Rows PySem.W
noncomputable def runK {α:Type} (c:Nat→Nat→Bool):KasT α→α
 | .ret a=>a
 | .ask i j k=>runK c (k (c i j))
noncomputable def KasIn {α:Type} (n:Nat) (R:α→Prop):KasT α→Prop
 | .ret a=>R a
 | .ask i j k=>i < n∧j < n∧∀ b,KasIn n R (k b)
theorem KasIn.bind {α β:Type} {n:Nat} {R:α→Prop} {S:β→Prop} {f:α→KasT β}:∀ {t:KasT α},KasIn n R t→(∀ a,R a→KasIn n S (f a))→KasIn n S (t.bind f)
 | .ret a,h,hf=>hf a h
 | .ask i j k,h,hf=>⟨h.1,h.2.1,fun b=>KasIn.bind (h.2.2 b) hf⟩
theorem KasIn.run {α:Type} {n:Nat} {R:α→Prop} {c:Nat→Nat→Bool}:∀ {t:KasT α},KasIn n R t→R (runK c t)
 | .ret a,h=>h
 | .ask i j k,h=>KasIn.run (c:=c) (t:=k (c i j)) (h.2.2 (c i j))
theorem KasIn.wp {α:Type} {n:Nat} {R:α→Prop} {c:Nat→Nat→Bool} {cmp:Nat→Nat→(Bool→Shared→Prop)→Shared→Prop} {s:Shared} (hc:∀ i j C,i < n→j < n→C (c i j) s→cmp i j C s) {Q:α→Shared→Prop}:∀ {t:KasT α},KasIn n R t→Q (runK c t) s→t.kasWp cmp Q s
 | .ret a,_,q=>q
 | .ask i j k,h,q=>hc i j _ h.1 h.2.1 (KasIn.wp hc (h.2.2 (c i j)) q)
noncomputable def Bd (n:Nat) (p:Array Nat):Prop:=p.size=n∧∀ x∈p,x < n
theorem Bd.at {n:Nat} {p:Array Nat} (h:Bd n p) (hn:0 < n) (i:Nat):p.getD i 0 < n:=by
 rw [Array.getD_eq_getD_getElem?]
 by_cases hi:i < p.size
 · rw [Array.getElem?_eq_getElem hi]; exact h.2 _ (Array.getElem_mem hi)
 · rw [Array.getElem?_eq_none (by omega)]; exact hn
theorem Bd.of {n:Nat} {p q:Array Nat} (h:Bd n p) (e:q.Perm p) (z:q.size=p.size):Bd n q:=⟨z.trans h.1,fun x hx=>h.2 x (e.mem_iff.mp hx)⟩
theorem Bd.rev {n:Nat} {p:Array Nat} (h:Bd n p) (i j:Nat):Bd n (kas_rev p i j):=h.of (mirror_perm _ _ _ _) (mirror_size _ _ _ _)
theorem Bd.bub {n:Nat} {p:Array Nat} (h:Bd n p) (i j:Nat):Bd n (bubble p i j):=h.of (bubble_perm _ _ _) (bubble_size _ _ _)
section
variable {n:Nat} (hn:0 < n)
include hn
theorem bc4 {p:Array Nat} (h:Bd n p):∀ f k,KasIn n (fun _=>True) (kas_asc p f k)
 | 0,k=>trivial
 | f + 1,k=>⟨h.at hn _,h.at hn _,fun b=>by
   cases b with
   | true=>dsimp only; rw [if_pos rfl]; trivial
   | false=>dsimp only; rw [if_neg Bool.false_ne_true]; exact bc4 h f (k + 1)⟩
theorem aA9:∀ f (p:Array Nat) k q,Bd n p→KasIn n (fun r=>Bd n r.1) (kas_desc f p k q)
 | 0,p,k,q,h=>h
 | f + 1,p,k,q,h=>⟨h.at hn _,h.at hn _,fun b=>by
   cases b with
   | true =>
     dsimp only
     rw [if_pos rfl]
     by_cases z:q > 0
     · rw [if_pos z]; exact aA9 f _ _ _ (h.rev _ _)
     · rw [if_neg z]; exact aA9 f _ _ _ h
   | false =>
     dsimp only
     rw [if_neg Bool.false_ne_true]
     refine ⟨h.at hn _,h.at hn _,fun d=>?_⟩
     cases d with
     | true=>dsimp only; rw [if_pos rfl]; exact h
     | false=>dsimp only; rw [if_neg Bool.false_ne_true]; exact aA9 f _ _ _ h⟩
theorem aQ8 {p:Array Nat} (h:Bd n p) (a b:Nat):KasIn n (fun r=>Bd n r.2) (kas_tail3 a b p):=(bc4 hn (h.rev 0 a) _ _).bind fun m _=>h.rev 0 a
theorem au1 {p:Array Nat} (h:Bd n p) (a b:Nat):KasIn n (fun r=>Bd n r.2) (kas_descPart a b p):=(aA9 hn _ _ _ _ h).bind fun r hr=>by
 by_cases z:r.2.2 > 0
 · rw [if_pos z]; exact aQ8 hn (hr.rev _ _) _ _
 · rw [if_neg z]; exact aQ8 hn hr _ _
theorem bl8 {p:Array Nat} (h:Bd n p) (b:Nat):KasIn n (fun r=>Bd n r.2) (kas_count b p):=(bc4 hn h _ _).bind fun m _=>by
 by_cases z:(m == b)=true
 · rw [if_pos z]; exact h
 · rw [if_neg z]
   by_cases y:m > 1
   · rw [if_pos y]
     refine ⟨h.at hn _,h.at hn _,fun c=>?_⟩
     cases c with
     | true=>dsimp only; rw [if_pos rfl]; exact h
     | false=>dsimp only; rw [if_neg Bool.false_ne_true]; exact au1 hn (h.rev _ _) _ _
   · rw [if_neg y]; exact au1 hn h _ _
theorem aA8 {p:Array Nat} (h:Bd n p) (k:Nat):∀ f l r,KasIn n (fun _=>True) (kas_place p k f l r)
 | 0,l,r=>trivial
 | f + 1,l,r=>by
   unfold kas_place
   by_cases z:l ≥ r
   · rw [if_pos z]; trivial
   · rw [if_neg z]
     refine ⟨h.at hn _,h.at hn _,fun c=>?_⟩
     cases c with
     | true=>dsimp only; rw [if_pos rfl]; exact aA8 h k f _ _
     | false=>dsimp only; rw [if_neg Bool.false_ne_true]; exact aA8 h k f _ _
theorem br2:∀ f (p:Array Nat) k,Bd n p→KasIn n (Bd n) (kas_bin f p k)
 | 0,p,k,h=>h
 | f + 1,p,k,h=>(aA8 hn h k _ _ _).bind fun l _=>br2 f _ _ (h.bub _ _)
theorem bc3:KasIn n (Bd n) (kas_sort n):=by
 have h0:Bd n (List.toArray (List.range n)):=⟨by simp,fun x hx=>by simpa using hx⟩
 refine (bl8 hn h0 n).bind fun r hr=>?_
 by_cases z:r.1 < n
 · rw [if_pos z]; exact br2 hn _ _ _ hr
 · rw [if_neg z]; exact hr
end
noncomputable def ac1 (kss:List (List Int)):List Nat:=if kss.length < 2 then List.range kss.length else (runK (fun i j=>HT.aq7 (kss.getD i []) (kss.getD j [])) (kas_sort kss.length)).toList
theorem ag5 (kss:List (List Int)):(ac1 kss).length=kss.length∧∀ i∈ac1 kss,i < kss.length:=by
 unfold ac1
 by_cases h:kss.length < 2
 · rw [if_pos h]; exact ⟨List.length_range,fun i hi=>List.mem_range.mp hi⟩
 · rw [if_neg h]
   have:=(bc3 (n:=kss.length) (by omega)).run (c:=fun i j=>HT.aq7 (kss.getD i []) (kss.getD j []))
   exact ⟨by rw [Array.length_toList]; exact this.1,fun i hi=>this.2 i (by simpa using hi)⟩
noncomputable def pick {α:Type} (l:List α) (p:List Nat):List α:=p.filterMap fun i=>l[i]?
theorem ar6 {α β:Type} (f:α→β) (l:List α) (p:List Nat):pick (l.map f) p=(pick l p).map f:=by
 unfold pick
 rw [List.map_filterMap]
 congr 1
 funext i
 rw [List.getElem?_map]
noncomputable def aR6 (h:Heap) (v:Value) (ks:List Int):Prop:=∃ a o xs n,v= .ref a∧h.get? a=some o∧o.cls= .type "tuple" ∧ o.data= .seq xs n∧IntsAre xs.toList ks
noncomputable def IntTups (h:Heap):List Value→List (List Int)→Prop
 | [],[]=>True
 | v :: vs,k :: ks=>aR6 h v k∧IntTups h vs ks
 | _,_=>False
theorem IntTups.len {h:Heap}:∀ {vs:List Value} {kss:List (List Int)},IntTups h vs kss→vs.length=kss.length
 | [],[],_=>rfl
 | [],_ :: _,h=>h.elim
 | _ :: _,[],h=>h.elim
 | v :: vs,k :: ks,h=>by rw [List.length_cons,List.length_cons,h.2.len]
theorem IntTups.get {h:Heap}:∀ {vs:List Value} {kss:List (List Int)} {i:Nat},IntTups h vs kss→i < kss.length→aR6 h (vs.getD i .none) (kss.getD i [])
 | [],[],_,_,hi=>by simp at hi
 | [],_ :: _,_,h,_=>h.elim
 | _ :: _,[],_,h,_=>h.elim
 | v :: vs,k :: ks,0,h,_=>h.1
 | v :: vs,k :: ks,i + 1,h,hi=>IntTups.get (i:=i) h.2 (by simpa using hi)
theorem IntTups.mono {h h':Heap}:∀ {vs:List Value} {kss:List (List Int)},IntTups h vs kss→(∀ b o,h.get? b=some o→o.cls= .type "tuple" → h'.get? b=some o)→IntTups h' vs kss
 | [],[],_,_=>trivial
 | [],_ :: _,h,_=>h.elim
 | _ :: _,[],h,_=>h.elim
 | v :: vs,k :: ks,h,e=>⟨let ⟨a,o,xs,n,h1,h2,h3,h4⟩:=h.1; ⟨a,o,xs,n,h1,e _ _ h2 h3,h3,h4⟩,h.2.mono e⟩
section
variable {prog:Program} {w:World} {A:Around} {E:Value→Shared→Prop} {s:Shared}
theorem bl1 {b:Bool} {Q:Bool→Shared→Prop}:∀ {xs ys:List Value} {ks js:List Int} (i:Nat) (fin:Bool),IntsAre xs ks→IntsAre ys js→Q (if (ks.zip js).all (fun p=>p.1 == p.2) then fin else HT.aq7 ks js) s→KatLex prog w A b fin Q (xs.zip ys) i s:=by
 intro xs ys ks js i fin h1
 induction h1 generalizing ys js i with
 | nil=>intro _ q; simpa [KatLex] using q
 | cons n t hr ih =>
   intro h2
   cases h2 with
   | nil=>intro q; simpa [KatLex] using q
   | cons m u hr2 =>
     intro q
     rw [List.zip_cons_cons]
     refine kat_cons (wpAny_eqBool_int ?_)
     by_cases e:n=m
     · subst e
       rw [beq_self_eq_true]
       refine kat_yes (ih (i + 1) hr2 ?_)
       have q':=q
       rw [List.zip_cons_cons,List.all_cons,beq_self_eq_true,Bool.true_and,HT.ap0,if_pos rfl] at q'
       exact q'
     · rw [beq_eq_false_iff_ne.mpr e]
       refine kat_no ?_
       have hq:Q (decide (n < m)) s:=by
        simpa [HT.ap0,e] using q
       cases b && i == 0 with
       | true=>exact oneLt_int hq
       | false=>exact kat_one _ _ (PyProof.Rows.lt_int hq)
theorem bb1:∀ {ks js:List Int},(ks.zip js).all (fun p=>p.1 == p.2)=true→HT.aq7 ks js=decide (ks.length < js.length)
 | [],[],_=>rfl
 | [],_ :: _,_=>by rw [HT.aw8]; simp
 | _ :: _,[],_=>by rw [HT.aw9]; simp
 | k :: ks,j :: js,h=>by
   rw [List.zip_cons_cons,List.all_cons,Bool.and_eq_true_iff] at h
   have e:k=j:=by simpa using h.1
   rw [HT.ap0,if_pos e,bb1 h.2]
   simp
theorem bO4 {b:Bool} {Q:Bool→Shared→Prop} {x y:Value} {ks js:List Int} (hx:aR6 s.heap x ks) (hy:aR6 s.heap y js) (q:Q (HT.aq7 ks js) s):wpAny (model prog w) A (keyLt' (tuples' b) x y) Q E s:=by
 obtain ⟨a,oa,xs,n,rfl,ha,_,da,ia⟩:=hx
 obtain ⟨c,oc,ys,m,rfl,hc,_,dc,ic⟩:=hy
 refine kat_lt ha da hc dc (bl1 0 _ ia ic ?_)
 by_cases z:(ks.zip js).all (fun p=>p.1 == p.2)=true
 · rw [if_pos z]
   have e1:xs.size=ks.length:=by rw [← Array.length_toList]; exact ia.length
   have e2:ys.size=js.length:=by rw [← Array.length_toList]; exact ic.length
   rw [e1,e2,← bb1 z]; exact q
 · rw [if_neg z]; exact q
theorem br0:∀ {vs:List Value} {kss:List (List Int)},IntTups s.heap vs kss→(∀ k∈kss,k≠[])→∃ fs:List Value,KatTups s.heap vs fs∧fs.length=kss.length∧∀ v∈fs,∃ i t,v=Value.int i t
 | [],[],_,_=>⟨[],trivial,rfl,fun _ h=>(nomatch h)⟩
 | [],_ :: _,h,_=>h.elim
 | _ :: _,[],h,_=>h.elim
 | v :: vs,k :: ks,h,ne=>by
   obtain ⟨fs,h1,h2,h3⟩:=br0 h.2 fun x hx=>ne x (List.mem_cons_of_mem _ hx)
   obtain ⟨a,o,xs,n,rfl,ho,hc,hd,hi⟩:=h.1
   have nk:=ne k List.mem_cons_self
   cases k with
   | nil=>exact absurd rfl nk
   | cons z zs =>
     generalize e:xs.toList=l at hi
     cases hi with
     | cons _ t hr =>
       refine ⟨.int z t :: fs,⟨⟨a,o,xs,n,rfl,ho,hc,hd,?_⟩,h1⟩,by rw [List.length_cons,List.length_cons,h2],fun v hv=>?_⟩
       · rw [← Array.getElem?_toList,e]; rfl
       · rcases List.mem_cons.mp hv with q | q
         · exact ⟨z,t,q⟩
         · exact h3 v q
theorem bi7 {a:Addr} {vs:List Value} {kss:List (List Int)} {n:Nat} {P:PySem.Fin→Shared→Prop} (ho:s.heap.get? a=some (seqObj "list" vs.toArray n)) (ht:IntTups s.heap vs kss) (ne:∀ k∈kss,k≠[]) (h64:kss.length < 64)
 (h:∀ h' c,(∀ b o,b≠a→s.heap.get? b=some o→h'.get? b=some o)→h'.get? a=some (seqObj "list" (pick vs (ac1 kss)).toArray c)→P (.done (.ret .none)) { s with heap:=h' }) :
 wpAny (model prog w) A (Builtin.«list.sort» ⟨[.ref a],[]⟩) P E s:=by
 have ln:=ht.len
 have hlt:a < s.heap.objs.size:=Heap.lt_size ho
 have s1:=Heap.SameBut.update s.heap a (Obj.mapSeq fun _=>(#[]:Array Value))
 obtain ⟨e1,ho1⟩:∃ e1,(s.heap.update a (Obj.mapSeq fun _=>(#[]:Array Value))).get? a=some (seqObj "list" #[] e1):=⟨_,get?_update_seq ho fun _=>#[]⟩
 rw [list_sort_plain]
 refine wpAny_bind (listItems_at ho rfl ?_)
 refine wpAny_bind (listUpdate_at ho rfl ?_ (by rw [List.size_toArray,sizeLine_eq]; omega) (Nat.zero_le _))
 refine wpAny_bind (seqEpoch_at ho1 rfl ?_)
 refine wpAny_bind (wpAny_newTuple ?_ (by show vs.length≤_; rw [sizeLine_eq]; omega))
 refine wpAny_bind (wpAny_newList ?_ (Nat.zero_le _))
 refine wpAny_holding ?_
 have keep:∀ b o,b≠a→s.heap.get? b=some o→(((s.heap.update a (Obj.mapSeq fun _=>(#[]:Array Value))).push (seqObj "tuple" vs.toArray 0)).push (seqObj "list" #[] 0)).get? b=some o:=fun b o hb e=>Heap.get?_push_of_some _ (Heap.get?_push_of_some _ ((s1.2 b hb).trans e))
 have ho2:(((s.heap.update a (Obj.mapSeq fun _=>(#[]:Array Value))).push (seqObj "tuple" vs.toArray 0)).push (seqObj "list" #[] 0)).get? a=some (seqObj "list" #[] e1):=Heap.get?_push_of_some _ (Heap.get?_push_of_some _ ho1)
 show wpAny (model prog w) A _ P E { s with heap:=((s.heap.update a (Obj.mapSeq fun _=>(#[]:Array Value))).push (seqObj "tuple" vs.toArray 0)).push (seqObj "list" #[] 0) }
 generalize ((s.heap.update a (Obj.mapSeq fun _=>(#[]:Array Value))).push (seqObj "tuple" vs.toArray 0)).push (seqObj "list" #[] 0)=h1 at keep ho2
 have ht1:IntTups h1 vs kss:=ht.mono fun b o e hc=>keep b o (fun z=>by subst z; rw [ho] at e; cases e; have hc':Value.type "list" = Value.type "tuple" := hc; exact absurd hc' (by decide)) e
 have fin:∀ out:Array Value,out=(pick vs (ac1 kss)).toArray→out.size≤sizeLine + 1→wpAny (model prog w) A (Builtin.List.listUpdate (.ref a) fun _=>out) (fun _ s2=>P (.done (.ret .none)) s2) E { s with heap:=h1 }:=fun out e hz=>by
  refine listUpdate_at (s:={ s with heap:=h1 }) ho2 rfl ?_ (Nat.zero_le _) hz
  have s2:=Heap.SameBut.update h1 a (Obj.mapSeq fun _=>out)
  obtain ⟨c2,hc2⟩:∃ c2,(h1.update a (Obj.mapSeq fun _=>out)).get? a=some (seqObj "list" out c2):=⟨_,get?_update_seq ho2 fun _=>out⟩
  exact h _ c2 (fun b o hb eb=>(s2.2 b hb).trans (keep b o hb eb)) (by rw [hc2,e])
 have psz:(pick vs (ac1 kss)).toArray.size≤sizeLine + 1:=by
  rw [List.size_toArray]
  have:=List.length_filterMap_le (fun i=>vs[i]?) (ac1 kss)
  have:=(ag5 kss).1
  unfold pick
  rw [sizeLine_eq]; omega
 dsimp only
 by_cases h2:vs.length < 2
 · have hn2:vs.toArray.size < 2:=by rw [List.size_toArray]; exact h2
   rw [if_pos hn2,if_pos hn2]
   refine wpAny_bind (wpAny_pure (wpAny_bind (wpAny_pure ?_)))
   dsimp only
   refine wpAny_bind (seqEpoch_at (s:={ s with heap:=h1 }) ho2 rfl ?_)
   have eo:(arrOf (SortSt.mk' general' (vs.toArray.zip vs.toArray) #[] 7 none)).map (·.2)=(pick vs (ac1 kss)).toArray:=by
    have e0:arrOf (SortSt.mk' general' (vs.toArray.zip vs.toArray) #[] 7 none)=vs.toArray.zip vs.toArray:=rfl
    have e2:pick vs (ac1 kss)=vs:=by
     unfold ac1 pick
     rw [if_pos (by omega),← ln]
     match vs,h2 with
     | [],_=>rfl
     | [x],_=>rfl
    rw [e0,e2]
    match vs,h2 with
    | [],_=>simp
    | [x],_=>simp
   refine wpAny_bind (wpAny_mono (fin _ eo (by rw [eo]; exact psz)) (fun _ s2 q=>?_) fun _ _ e=>e)
   simp only [bne_self_eq_false,Bool.false_eq_true,if_false]
   exact wpAny_pure q
 · have hn2:¬ vs.toArray.size < 2:=by rw [List.size_toArray]; exact h2
   rw [if_neg hn2,if_neg hn2]
   obtain ⟨fs,kt,kl,ki⟩:=br0 (s:={ s with heap:=h1 }) ht1 ne
   refine wpAny_bind (kat_kind (s:={ s with heap:=h1 }) (T:= .type "int") kt (by omega) (fun v hv=>by obtain ⟨i,t,rfl⟩:=ki v hv; exact .now) (by decide) ?_)
   refine wpAny_bind (wpAny_mono (kat_run (ks:=vs) (vs:=vs) (Q:=fun st' s'=>s'={ s with heap:=h1 }∧(arrOf st').map (·.2)=(pick vs (ac1 kss)).toArray∧failedOf st'=none)
    (G:=fun p s'=>s'={ s with heap:=h1 }∧p=runK (fun i j=>HT.aq7 (kss.getD i []) (kss.getD j [])) (kas_sort vs.length)) rfl (by omega) (by omega) (fun p st' s' a1 a2 a3 a4=>?_) ?_) ?_ fun _ _ e=>e)
   · refine ⟨a4.1,?_,a3⟩
     rw [kat_snds rfl a2]
     congr 1
     have hp:p.toList=ac1 kss:=by
      unfold ac1
      rw [if_neg (by omega),a4.2,ln]
     rw [hp]
     unfold pick
     have hb:=(ag5 kss).2
     generalize ac1 kss=l at hb
     induction l with
     | nil=>rfl
     | cons i l ih =>
       have hi:i < vs.length:=by rw [ln]; exact hb i List.mem_cons_self
       rw [List.map_cons,ih fun j hj=>hb j (List.mem_cons_of_mem _ hj),List.filterMap_cons,List.getElem?_eq_getElem hi]
       simp [List.getD_eq_getElem?_getD,List.getElem?_eq_getElem hi]
   · refine (bc3 (n:=vs.length) (by omega)).wp (c:=fun i j=>HT.aq7 (kss.getD i []) (kss.getD j [])) (fun i j C hi hj q=>?_) ⟨rfl,rfl⟩
     exact bO4 (s:={ s with heap:=h1 }) (ht1.get (by omega)) (ht1.get (by omega)) q
   · rintro ⟨⟨⟩,st'⟩ s' ⟨rfl,eo,hf⟩
     dsimp only at eo hf ⊢
     refine wpAny_bind (seqEpoch_at (s:={ s with heap:=h1 }) ho2 rfl ?_)
     refine wpAny_bind (wpAny_mono (fin _ eo (by rw [eo]; exact psz)) (fun _ s2 q=>?_) fun _ _ e=>e)
     rw [hf]
     simp only [bne_self_eq_false,Bool.false_eq_true,if_false]
     exact wpAny_pure q
end
section
variable {X:Cx} {K:PySem.W.Frag}
noncomputable def TupsI (H:Hp):List Addr→List (List Int)→Prop
 | [],[]=>True
 | a :: as,k :: ks=>H a=some (.tup (k.map V.int))∧TupsI H as ks
 | _,_=>False
theorem TupsI.len {H:Hp}:∀ {as:List Addr} {kss:List (List Int)},TupsI H as kss→as.length=kss.length
 | [],[],_=>rfl
 | [],_ :: _,h=>h.elim
 | _ :: _,[],h=>h.elim
 | v :: vs,k :: ks,h=>by rw [List.length_cons,List.length_cons,h.2.len]
theorem TupsI.raw {pins:List (Addr×Obj)} {σ:St} {H:Hp} {s:Shared} (I:Inv X pins σ H s):∀ {as:List Addr} {kss:List (List Int)},TupsI H as kss→IntTups s.heap (as.map Value.ref) kss
 | [],[],_=>trivial
 | [],_ :: _,h=>h.elim
 | _ :: _,[],h=>h.elim
 | a :: as,k :: ks,h=>by
   obtain ⟨its,rv,⟨o,ho,hc,n,hd⟩,hz⟩:=I.tuple (a:=a) (xs:=k.map V.int) (.inl (.inl h.1))
   exact ⟨⟨a,o,_,n,rfl,ho,hc,hd,by simpa using ay2 rv⟩,h.2.raw I⟩
theorem aC1 (l:List Addr):Vals (l.map V.ref) (l.map Value.ref):=by
 induction l with
 | nil=>exact .nil
 | cons x t ih=>exact .cons rfl ih
theorem by9 {as:List Addr}:∀ {us:List Value},Vals (as.map V.ref) us→us=as.map Value.ref:=by
 induction as with
 | nil=>intro us r; cases r; rfl
 | cons a as ih =>
   intro us r
   cases r with
   | cons h r =>
     have h':_=Value.ref a:=h
     rw [h',ih r]; rfl
theorem aX5 {prog:Program} {w:World} {A:Around} {E:Value→Shared→Prop} {s:Shared} {a:Addr} {vs:List Value} {kss:List (List Int)} {n:Nat} {Q:Value→Shared→Prop} (ho:s.heap.get? a=some (seqObj "list" vs.toArray n)) (ht:IntTups s.heap vs kss) (ne:∀ k∈kss,k≠[]) (h64:kss.length < 64)
 (h:∀ h' c,(∀ b o,b≠a→s.heap.get? b=some o→h'.get? b=some o)→h'.get? a=some (seqObj "list" (pick vs (ac1 kss)).toArray c)→Q .none { s with heap:=h' }):wpAny (model prog w) A (call (.builtin "list.sort") [.ref a]) Q E s :=
 wpAny_call_entry slot_list_sort ⟨_,ho,rfl⟩ entry_list_sort (bi7 ho ht ne h64 fun h' c k1 k2=>⟨_,rfl,h h' c k1 k2⟩) (args_list_sort _)
theorem aC7 {prog:Program} {w:World} {A:Around} {E:Value→Shared→Prop} {s:Shared} {v:Value} {vs:List Value} {kss:List (List Int)} {Q:Value→Shared→Prop}
 (hcol:∀ R:List Value→Shared→Prop,(∀ h' tk,(∀ b o,s.heap.get? b=some o→h'.get? b=some o)→R vs { s with heap:=h',toks:=tk })→wpAny (model prog w) A.in1 (collect v) R E s)
 (ht:IntTups s.heap vs kss) (ne:∀ k∈kss,k≠[]) (h64:kss.length < 64)
 (h:∀ (h1:Heap) (tk:Nat) (h':Heap) (c:Nat),(∀ b o,s.heap.get? b=some o→h1.get? b=some o)→(∀ b o,h1.get? b=some o→h'.get? b=some o)→h'.get? h1.objs.size=some (seqObj "list" (pick vs (ac1 kss)).toArray c)→Q (.ref h1.objs.size) { s with heap:=h',toks:=tk }) :
 wpAny (model prog w) A (call (.builtin "sorted") [v]) Q E s:=by
 have ln:=ht.len
 refine Calls.call_function_entry kind_sorted plain_sorted entry_sorted (args_sorted1 _) ?_
 unfold Builtin.«sorted»
 refine wpAny_bind (m:=checkCount "sorted" 1 1 _) (wpAny_pure ?_)
 refine wpAny_bind (hcol _ fun h1 tk k1=>?_)
 refine wpAny_bind (wpAny_newList ?_ (by rw [sizeLine_eq]; omega))
 have hD:(h1.push (seqObj "list" vs.toArray 0)).get? h1.objs.size=some (seqObj "list" vs.toArray 0):=Heap.get?_push_size _ rfl
 refine wpAny_bind (wpAny_holding (aX5 (s:={ s with heap:=h1.push (seqObj "list" vs.toArray 0),toks:=tk }) hD (ht.mono fun b o e _=>Heap.get?_push_of_some _ (k1 b o e)) ne h64 fun h' c k3 hS=>?_))
 exact wpAny_pure ⟨_,rfl,h h1 tk h' c k1 (fun b o e=>k3 b o (Nat.ne_of_lt (Heap.lt_size e)) (Heap.get?_push_of_some _ e)) hS⟩
theorem aD7 (as:List Addr) (p:List Nat):pick (as.map Value.ref) p=(pick as p).map Value.ref:=ar6 _ _ _
theorem aD8 {α:Type} (l:List α) {p:List Nat} (h:∀ i∈p,i < l.length):(pick l p).length=p.length:=by
 unfold pick
 induction p with
 | nil=>rfl
 | cons i p ih =>
   rw [List.filterMap_cons,List.getElem?_eq_getElem (h i List.mem_cons_self)]
   simp only [List.length_cons]
   rw [ih fun j hj=>h j (List.mem_cons_of_mem _ hj)]
theorem aU0 (hc:X.calm=true):ak7 X (.builtin "sorted") (fun xs H Q=>∃ p as kss,xs=[.ref p]∧SqL X.K H p (as.map V.ref)∧TupsI H as kss∧(∀ k∈kss,k≠[])∧kss.length < 64∧∀ l,H l=none→Q (.ref l) (upd H l (.lst ((pick as (ac1 kss)).map V.ref)))):=by
 intro pins s σ H xs us Q I r h
 obtain ⟨p,as,kss,rfl,hq,ht,ne,h64,q⟩:=h
 obtain ⟨u,rfl,ru⟩:=Vals.one r
 have ru':u=Value.ref p:=ru
 subst ru'
 obtain ⟨its,rv,pl,hz⟩:=I.list hq
 have ei:=by9 rv
 subst ei
 have ln:=ht.len
 refine aC7 (vs:=as.map Value.ref) (fun R hR=>collect_list pl.isList (hR _ s.toks fun b o e=>?_) (by rw [List.length_map,sizeLine_eq]; omega)) (ht.raw I) ne h64 fun h1 tk h' c k1 k2 hS=>?_
 · have hb:=Heap.lt_size e
   rw [Heap.get?_update_ne _ _ _ _ (Nat.ne_of_lt hb)]
   exact Heap.get?_push_of_some _ e
 · have I1:Inv X pins σ H { s with heap:=h1,toks:=tk }:=I.kept k1
   refine ⟨.ref h1.objs.size,_,I1.laid (t':=tk) k2 (Nat.le_refl _) ?_,rfl,q _ (I1.hok.fresh (Nat.le_refl _))⟩
   have hl:(pick as (ac1 kss)).length=kss.length:=by rw [aD8 as fun i hi=>by rw [ln]; exact (ag5 kss).2 i hi]; exact (ag5 kss).1
   refine ⟨by rw [List.length_map,hl,sizeLine_eq]; omega,(pick as (ac1 kss)).map Value.ref,c,aC1 _,?_⟩
   rw [hS,aD7]
theorem aU1 (hc:X.calm=true):ak7 X (.builtin "sorted") (fun xs H Q=>∃ a kvs kss,xs=[.ref a]∧H a=some (.dT kvs)∧kvs.map (·.1)=kss.map (fun k=>k.map Sum.inl)∧(∀ k∈kss,k≠[])∧kss.length < 64 ∧
 ∀ (as:List Addr) (l:Addr),TupsI H as kss→H l=none→Q (.ref l) (upd H l (.lst ((pick as (ac1 kss)).map V.ref)))):=by
 intro pins s σ H xs us Q I r h
 obtain ⟨a,kvs,kss,rfl,ha,hk,ne,h64,q⟩:=h
 obtain ⟨u,rfl,ru⟩:=Vals.one r
 have ru':u=Value.ref a:=ru
 subst ru'
 obtain ⟨z,hd,ys,rel,o,es,ep,ho,hx,hdat,hes,hnd⟩:=(show ObjOk X.prog X.w H s.heap a (.dT kvs) from I.hok a _ ha)
 have len1:kvs.length=ys.length:=Paired.length rel
 have len2:es.size=ys.length:=by
  have e:=congrArg List.length hes
  rwa [List.length_map,Array.length_toList] at e
 have ht:TupsI H (ys.map fun y=>y.2.1) kss:=by
  have key:∀ {l1:List (List Key×V)} {l2:List (List Key×Addr×Value)} {kss:List (List Int)},Paired (fun (p:List Key×V) (q:List Key×Addr×Value)=>p.1=q.1∧H q.2.1=some (.tup (p.1.map kV))∧RelV p.2 q.2.2) l1 l2→l1.map (·.1)=kss.map (fun k=>k.map Sum.inl)→TupsI H (l2.map fun y=>y.2.1) kss:=by
   intro l1 l2 kss hp
   induction hp generalizing kss with
   | nil=>intro e; cases kss with | nil=>trivial | cons _ _=>cases e
   | cons h1 _ ih =>
     intro e
     cases kss with
     | nil=>cases e
     | cons k ks =>
       rw [List.map_cons,List.map_cons] at e
       injection e with e1 e2
       refine ⟨?_,ih e2⟩
       rw [h1.2.1,e1,List.map_map]
       rfl
  exact key rel hk
 have keys:∀ acc':Array Value,ItemsOf (fun i v=>∃ e,es[i]?=some e∧v=e.key) acc' es.size→acc'.toList=(ys.map fun y=>y.2.1).map Value.ref:=fun acc' hacc=>by
  apply List.ext_getElem?
  intro i
  rw [List.getElem?_map,List.getElem?_map]
  cases ey:ys[i]? with
  | none =>
    have hi:ys.length≤i:=List.getElem?_eq_none_iff.mp ey
    rw [List.getElem?_eq_none (by rw [Array.length_toList,hacc.1]; omega)]
    rfl
  | some y =>
    have hi:i < ys.length:=(List.getElem?_eq_some_iff.mp ey).1
    have hi':i < acc'.size:=by rw [hacc.1,len2]; exact hi
    obtain ⟨e,he,hv⟩:=hacc.2 i acc'[i] (Array.getElem?_eq_getElem hi')
    have he':es.toList[i]?=some e:=by rw [Array.getElem?_toList]; exact he
    rw [hes,List.getElem?_map,ey] at he'
    have ee:entryOfKey (tupleKind (ac3 X.prog X.w)) y=e:=Option.some.inj he'
    rw [Array.getElem?_toList,Array.getElem?_eq_getElem hi',hv,← ee,aF1]
    rfl
 have hh:X.A.in1.handled=none:=I.ok.hd hc
 refine aC7 (vs:=(ys.map fun y=>y.2.1).map Value.ref) (fun R hR=>kdu_collect (aY5 (ep:=ep) (es:=es) hd) hh ⟨o,ho,hx,hdat⟩ (by rw [len2,← len1]; exact z) fun h' tk acc' kp hacc=>?_) (ht.raw I) ne h64 fun h1 tk h' c k1 k2 hS=>?_
 · rw [keys acc' hacc]; exact hR h' tk kp
 · have ln:=ht.len
   have I1:Inv X pins σ H { s with heap:=h1,toks:=tk }:=I.kept k1
   refine ⟨.ref h1.objs.size,_,I1.laid (t':=tk) k2 (Nat.le_refl _) ?_,rfl,q _ _ ht (I1.hok.fresh (Nat.le_refl _))⟩
   have hl:(pick (ys.map fun y=>y.2.1) (ac1 kss)).length=kss.length:=by rw [aD8 _ fun i hi=>by rw [ln]; exact (ag5 kss).2 i hi]; exact (ag5 kss).1
   refine ⟨by rw [List.length_map,hl,sizeLine_eq]; omega,(pick (ys.map fun y=>y.2.1) (ac1 kss)).map Value.ref,c,aC1 _,?_⟩
   rw [hS,aD7]
theorem aO3 (h:X.K=K) (hc:X.calm=true):ak7 X (.builtin "sorted") (fun xs H Q=>∃ p as kss,xs=[.ref p]∧SqL K H p (as.map V.ref)∧TupsI H as kss∧(∀ k∈kss,k≠[])∧kss.length < 64∧∀ l,H l=none→Q (.ref l) (upd H l (.lst ((pick as (ac1 kss)).map V.ref)))):=by subst h; exact aU0 hc
end
end L2
namespace Mi
open PySem L2
noncomputable def am9:List D→Option (List (List Int))
 | []=>some []
 | .tup ds :: r=>(match ad6 ds,am9 r with | some k,some ks=>some (k :: ks) | _,_=>none)
 | _ :: _=>none
noncomputable def aC8:D→Res D
 | .lst ds=>(match am9 ds with | some kss=>(if (∀ k∈kss,k≠[])∧kss.length < 64 then .ok (.lst (pick ds (ac1 kss))) else .bad) | none=> .bad)
 | _=> .bad
noncomputable def aP0 (x:D):Res D:=match x with
 | .dT ks _=>aC8 (.lst (ks.map fun k=> .tup (k.map kD)))
 | _=> .bad
section
variable {cm:Cm} {E:XK} {ms:List Md} {K:PySem.W.Frag}
theorem aF5 {G:Hp}:∀ {ds:List D} {kss:List (List Int)} {xs:List V},am9 ds=some kss→Dns cm G ds xs→∃ as:List Addr,xs=as.map V.ref∧TupsI G as kss
 | [],kss,xs,e,h=>by rw [Dns] at h; cases e; exact ⟨[],h,trivial⟩
 | d :: ds,kss,xs,e,h=>by
   rw [Dns] at h
   obtain ⟨x,r,rfl,h1,h2⟩:=h
   cases d with
   | tup es =>
     rw [am9] at e
     cases e1:ad6 es with
     | none=>rw [e1] at e; cases e
     | some k =>
       cases e2:am9 ds with
       | none=>rw [e1,e2] at e; cases e
       | some ks =>
         rw [e1,e2] at e
         cases e
         obtain ⟨as,rfl,t⟩:=aF5 e2 h2
         rw [Dn] at h1
         obtain ⟨a,ys,rfl,h3,h4⟩:=h1
         rw [af6 e1 h4] at h3
         exact ⟨a :: as,rfl,h3,t⟩
   | _=>cases e
theorem TupsI.mono {G G':Hp} (e:Same G G'):∀ {as:List Addr} {kss:List (List Int)},TupsI G as kss→TupsI G' as kss
 | [],[],_=>trivial
 | [],_ :: _,h=>h.elim
 | _ :: _,[],h=>h.elim
 | a :: as,k :: ks,h=>⟨e _ _ h.1,TupsI.mono e h.2⟩
theorem Dns.pick {G:Hp} {ds:List D} {xs:List V} (h:Dns cm G ds xs):∀ p:List Nat,Dns cm G (L2.pick ds p) (L2.pick xs p)
 | []=>by show Dns cm G [] []; rw [Dns]
 | i :: p=>by
   have ih:=Dns.pick h p
   unfold L2.pick at ih ⊢
   rw [List.filterMap_cons,List.filterMap_cons]
   cases e:ds[i]? with
   | none =>
     have:xs[i]?=none:=List.getElem?_eq_none (by rw [← h.len]; exact List.getElem?_eq_none_iff.mp e)
     rw [this]; exact ih
   | some d =>
     obtain ⟨x,ex,hx⟩:=h.get e
     rw [ex]
     dsimp only
     rw [Dns]
     exact ⟨x,_,rfl,hx,ih⟩
theorem bz9 {ta:TE} {ma:Env→Res D} (ha:PJ cm (KC cm .F) E ms ta ma):PJ cm (KO cm (.ct .fz)) E ms
 (tCB (fun xs H Q=>∃ p as kss,xs=[.ref p]∧SqL K H p (as.map V.ref)∧TupsI H as kss∧(∀ k∈kss,k≠[])∧kss.length < 64∧∀ l,H l=none→Q (.ref l) (upd H l (.lst ((L2.pick as (ac1 kss)).map V.ref)))) (af3 ta tNil)) (un aC8 ma):=by
 intro B U As σ H ρ Q R P
 refine ha.bnd R P fun x v B1 U1 H1 N1 _ R1 e1 n1 d1 P1=>?_
 cases x with
 | lst ds =>
   obtain ⟨a,xs,rfl,h1,h2⟩:=d1
   replace P1:Po cm (KO cm (.ct .fz)) E ms B1 U1 As σ H1 ρ (match am9 ds with | some kss=>(if (∀ k∈kss,k≠[])∧kss.length < 64 then .ok (.lst (L2.pick ds (ac1 kss))) else .bad) | none=> .bad) Q:=P1
   cases e:am9 ds with
   | none=>rw [e] at P1; exact P1.elim
   | some kss =>
     rw [e] at P1
     dsimp only at P1
     by_cases z:(∀ k∈kss,k≠[])∧kss.length < 64
     · rw [if_pos z] at P1
       have h2:Dns cm B1 ds xs:=h2
       obtain ⟨as,rfl,t⟩:=aF5 e h2
       refine ⟨a,as,kss,rfl,SqL.of h1,TupsI.mono R1.bh t,z.1,z.2,fun l hl=>?_⟩
       rw [← ar6]
       exact ak9 R1 P1 (h2.pick _) hl
     · rw [if_neg z] at P1; exact P1.elim
 | _=>exact P1.elim
theorem bl5 {ks:List (List Key)} {kss:List (List Int)} (e:am9 (ks.map fun k=> .tup (k.map kD))=some kss):ks=kss.map fun k=>k.map Sum.inl:=by
 have key:∀ {k:List Key} {ns:List Int},ad6 (k.map kD)=some ns→k=ns.map Sum.inl:=by
  intro k
  induction k with
  | nil=>intro ns e; cases e; rfl
  | cons x k ih =>
    intro ns e
    cases x with
    | inl i =>
      rw [List.map_cons] at e
      have e:(ad6 (k.map kD)).map (i :: ·)=some ns:=e
      obtain ⟨ms,e1,rfl⟩:=Option.map_eq_some_iff.mp e
      rw [ih e1]; rfl
    | inr i=>cases e
 induction ks generalizing kss with
 | nil=>cases e; rfl
 | cons k ks ih =>
   rw [List.map_cons,am9] at e
   cases e1:ad6 (k.map kD) with
   | none=>rw [e1] at e; cases e
   | some n =>
     cases e2:am9 (ks.map fun k=> .tup (k.map kD)) with
     | none=>rw [e1,e2] at e; cases e
     | some ns =>
       rw [e1,e2] at e
       cases e
       rw [key e1,ih e2]; rfl
theorem aG0 {G:Hp}:∀ {as:List Addr} {kss:List (List Int)},TupsI G as kss→Dns cm G (kss.map fun k=> .tup (k.map D.int)) (as.map V.ref)
 | [],[],_=>by rw [List.map_nil,List.map_nil,Dns]
 | [],_ :: _,h=>h.elim
 | _ :: _,[],h=>h.elim
 | a :: as,k :: ks,h=>by
   rw [List.map_cons,List.map_cons,Dns]
   refine ⟨_,_,rfl,?_,aG0 h.2⟩
   rw [Dn]
   exact ⟨a,_,rfl,h.1,au6 k⟩
theorem bA0 {k:Kd} {ta:TE} {ma:Env→Res D} (ha:PJ cm (KC cm k) E ms ta ma):PJ cm (KO cm (.ct .fz)) E ms
 (tCB (fun xs H Q=>∃ a kvs kss,xs=[.ref a]∧H a=some (.dT kvs)∧kvs.map (·.1)=kss.map (fun k=>k.map Sum.inl)∧(∀ k∈kss,k≠[])∧kss.length < 64 ∧
 ∀ (as:List Addr) (l:Addr),TupsI H as kss→H l=none→Q (.ref l) (upd H l (.lst ((L2.pick as (ac1 kss)).map V.ref)))) (af3 ta tNil)) (un aP0 ma):=by
 intro B U As σ H ρ Q R P
 refine ha.bnd R P fun x v B1 U1 H1 N1 _ R1 e1 n1 d1 P1=>?_
 cases x with
 | dT ks ds =>
   obtain ⟨a,kvs,rfl,h1,h2,h3⟩:=d1
   replace P1:Po cm (KO cm (.ct .fz)) E ms B1 U1 As σ H1 ρ (match am9 (ks.map fun k=> .tup (k.map kD)) with | some kss=>(if (∀ k∈kss,k≠[])∧kss.length < 64 then .ok (.lst (L2.pick (ks.map fun k=> .tup (k.map kD)) (ac1 kss))) else .bad) | none=> .bad) Q:=P1
   cases e:am9 (ks.map fun k=> .tup (k.map kD)) with
   | none=>rw [e] at P1; exact P1.elim
   | some kss =>
     rw [e] at P1
     dsimp only at P1
     by_cases z:(∀ k∈kss,k≠[])∧kss.length < 64
     · rw [if_pos z] at P1
       have ek:=bl5 e
       refine ⟨a,kvs,kss,rfl,h1,by rw [h2,ek],z.1,z.2,fun bs l ht hn=>?_⟩
       have tupAt:∀ b∈bs,∃ o,H1 b=some o∧aq9 o:=by
        have key:∀ {bs:List Addr} {kss:List (List Int)},TupsI H1 bs kss→∀ b∈bs,∃ o,H1 b=some o∧aq9 o:=by
         intro bs
         induction bs with
         | nil=>intro _ _ b hb; cases hb
         | cons c bs ih =>
           intro kss t b hb
           cases kss with
           | nil=>exact t.elim
           | cons k ks =>
             rcases List.mem_cons.mp hb with q | q
             · rw [q]; exact ⟨_,t.1,_,rfl⟩
             · exact ih t.2 b q
        exact key ht
       have R2:Rel cm ms (Mi.frz B1 H1 bs) (Mi.frz U1 H1 bs) As σ H1 ρ:=R1.grow (ad4 R1.bh) (ad4 R1.uh) (Same.refl _) (aB4 R1.bu) (aK9 R1.uh) fun i a ha=>by
        unfold Mi.frz
        split
        · rename_i z
          obtain ⟨o,e,t⟩:=tupAt a z
          exact (R1.nt ha e t).elim
        · exact R1.un i a ha
       have g2:Gw B1 U1 H1 (Mi.frz B1 H1 bs) (Mi.frz U1 H1 bs) H1:=by
        refine ⟨⟨ad4 R1.bh,ad4 R1.uh,fun a o q=>?_⟩,Same.refl _,fun a o q=>?_⟩
        · unfold Mi.frz at q
          split at q
          · rename_i z
            obtain ⟨o',e,t⟩:=tupAt a z
            rw [e] at q; cases q
            exact .inr (.inr t)
          · exact .inl q
        · unfold Mi.frz at q
          split at q
          · rename_i z
            obtain ⟨o',e,t⟩:=tupAt a z
            rw [e] at q; cases q
            exact .inr (.inr t)
          · exact .inl q
       have htB:TupsI (Mi.frz B1 H1 bs) bs kss:=by
        have key:∀ {cs:List Addr} {kss:List (List Int)},(∀ b∈cs,b∈bs)→TupsI H1 cs kss→TupsI (Mi.frz B1 H1 bs) cs kss:=by
         intro cs
         induction cs with
         | nil=>intro kss _ t; cases kss with | nil=>trivial | cons _ _=>exact t.elim
         | cons c cs ih =>
           intro kss hs t
           cases kss with
           | nil=>exact t.elim
           | cons k ks=>exact ⟨by unfold Mi.frz; rw [if_pos (hs c List.mem_cons_self)]; exact t.1,ih (fun b hb=>hs b (List.mem_cons_of_mem _ hb)) t.2⟩
        exact key (fun _ h=>h) ht
       have ekd:(ks.map fun k=>D.tup (k.map kD))=kss.map fun k=> .tup (k.map D.int):=by
        rw [ek,List.map_map]
        refine List.map_congr_left fun k _=>?_
        show D.tup ((k.map Sum.inl).map kD)=_
        rw [List.map_map]
        rfl
       rw [ekd] at P1
       have P2:Po cm (KO cm (.ct .fz)) E ms (Mi.frz B1 H1 bs) (Mi.frz U1 H1 bs) As σ H1 ρ (.ok (.lst (L2.pick (kss.map fun k=> .tup (k.map D.int)) (ac1 kss)))) Q:=Po.at P1 g2
       rw [← ar6]
       exact ak9 R2 P2 ((aG0 htB).pick _) hn
     · rw [if_neg z] at P1; exact P1.elim
 | _=>exact P1.elim
noncomputable def KOs (cm:Cm) (s:Sh):KT (List D) (List V):=fun ds vs B U H N=>Ows cm B H ds s vs N
theorem aK1 {s:Sh}:PJ cm (KOs cm s) E ms tNil esN:=fun B U As σ H ρ Q R P=>P [] B U H [] R (Gw.refl _ _ _) New.nil (show Ows cm _ _ [] s [] [] by rw [Ows]; exact ⟨rfl,rfl⟩)
theorem ak8 {s:Sh} {ta:TE} {tr:TA} {ma:Env→Res D} {mr:Env→Res (List D)} (ha:PJ cm (KO cm s) E ms ta ma) (hr:PJ cm (KOs cm s) E ms tr mr):PJ cm (KOs cm s) E ms (af3 ta tr) (esC ma mr):=by
 intro B U As σ H ρ Q R P
 refine ha B U As σ H ρ _ R ?_
 unfold esC at P
 cases e1:ma ρ with
 | bad=>rw [e1] at P; exact P
 | exc c=>rw [e1] at P; exact P
 | ok x =>
   rw [e1] at P
   intro v B1 U1 H1 N1 R1 g1 n1 w1
   refine hr B1 U1 As σ H1 ρ _ R1 ?_
   replace P:Po cm (KOs cm s) E ms B U As σ H ρ ((mr ρ).bind fun ys=> .ok (x :: ys)) Q:=P
   cases e2:mr ρ with
   | bad=>rw [e2] at P; exact P
   | exc c=>rw [e2] at P; exact fun B2 U2 H2 R2 g2=>P B2 U2 H2 R2 (g1.trans g2)
   | ok ys =>
     rw [e2] at P
     intro vs B2 U2 H2 N2 R2 g2 n2 w2
     have w1:Ow cm B1 H1 x s v N1:=w1
     have w2:Ows cm B2 H2 ys s vs N2:=w2
     have at1:∀ a∈N1,∃ o,H1 a=some o:=fun a ha=>Ow.at w1 ha
     refine P (v :: vs) B2 U2 H2 (N1 ++ N2) R2 (g1.trans g2) ⟨List.nodup_append.mpr ⟨n1.nd,n2.nd,fun a ha b hb e=>?_⟩,fun a ha=>?_,fun a ha=>?_⟩ ?_
     · obtain ⟨o,ho⟩:=at1 a ha
       rw [e,n2.fr b hb] at ho; cases ho
     · rcases List.mem_append.mp ha with h | h
       · exact n1.fr a h
       · exact g1.h.free (n2.fr a h)
     · rcases List.mem_append.mp ha with h | h
       · cases q:U2 a with
         | none=>rfl
         | some o =>
           obtain ⟨o1,h1,nt⟩:=Ow.at2 w1 h
           rcases g2.fr a o q with z | z | z
           · rw [n1.un a h] at z; cases z
           · rw [h1] at z; cases z
           · have:=R2.uh a o q
             rw [g2.h _ _ h1] at this; cases this; exact (nt z).elim
       · exact n2.un a h
     · show Ows cm B2 H2 (x :: ys) s (v :: vs) (N1 ++ N2)
       rw [Ows]
       refine ⟨v,vs,N1,N2,rfl,rfl,Ow.mono g2.b (fun a ha=>?_) w1,w2⟩
       obtain ⟨o,ho⟩:=at1 a ha
       rw [ho,g2.h _ _ ho]
theorem aZ5 {s:Sh} {t:TA} {m:Env→Res (List D)} (h:PJ cm (KOs cm s) E ms t m):PJ cm (KO cm (.ct s)) E ms (tLst t) (mkL m):=by
 intro B U As σ H ρ Q R P
 refine h B U As σ H ρ _ R ?_
 unfold mkL at P
 cases e1:m ρ with
 | bad=>rw [e1] at P; exact P
 | exc c=>rw [e1] at P; exact P
 | ok ds =>
   rw [e1] at P
   intro xs B1 U1 H1 N1 R1 g1 n1 w1
   have w1:Ows cm B1 H1 ds s xs N1:=w1
   replace P:Po cm (KO cm (.ct s)) E ms B U As σ H ρ (if ds.length≤ab1 then .ok (.lst ds) else .bad) Q:=P
   by_cases z:ds.length≤ab1
   · rw [if_pos z] at P
     have ln:ds.length=xs.length:=(Ows.dn R1.bh (fun _ _ _ h=>h) w1).len
     refine ⟨Nat.le_of_lt (ak0 (by rw [← ln]; exact z)),fun p hp=>?_⟩
     have hpN:p∉N1:=fun hm=>by obtain ⟨o,e,_⟩:=Ows.at2 w1 hm; rw [hp] at e; cases e
     refine P (.ref p) B1 U1 _ (p :: N1) (R1.new hp) (g1.trans (Gw.newO R1 hp)) ⟨List.nodup_cons.mpr ⟨hpN,n1.nd⟩,fun a ha=>?_,fun a ha=>?_⟩ ?_
     · rcases List.mem_cons.mp ha with e | e
       · rw [e]; exact g1.h.free hp
       · exact n1.fr a e
     · rcases List.mem_cons.mp ha with e | e
       · rw [e]; exact R1.uh.free hp
       · exact n1.un a e
     · show Ow cm B1 _ (.lst ds) (.ct s) (.ref p) (p :: N1)
       rw [Ow]
       exact ⟨p,xs,N1,rfl,ab5,rfl,Ows.mono (Same.refl _) (fun a ha=>ab2 (fun e:a=p=>hpN (e ▸ ha))) w1⟩
   · rw [if_neg z] at P; exact P.elim
noncomputable def mmP (c:Nat) (mn:Str) (get:Env→Option D) (set:Env→D→Env) (fm:List D→Out D) (a:Env→Res (List D)):Env→Out D:=fun ρ=>match get ρ with
 | none=> .bad
 | some o=>if am0 c mn o=true then ((a ρ).up ρ).bind fun ds ρ=>al3 set fm o ds ρ else .bad
theorem bD2 {c:Nat} {mn:Str} {msR:List Md} {Kr:KT D V} {fm:List D→Out D} {ps:List Ap} {ta:TE} {get:Env→Option D} {set:Env→D→Env} {i:Nat} {s:Sh} {t:TA} {m:Env→Res (List D)} (p:Prt cm ms ta get set i s) (h:AJ cm E ms ps t m) (hf:fitM ms ps msR)
 (hl:lent ps=[]) (hb:i∉borr ps) (hU:∀ d v B U U' H N,Kr d v B U H N→Kr d v B U' H N):MJ cm Kr E ms (aH9 (cm c) mn (spM cm (.O s :: msR) Kr fm) [] E ta t) (mmP c mn get set fm m):=by
 intro B U As σ H ρ Q R P
 unfold mmP at P
 cases e:get ρ with
 | none=>rw [e] at P; exact P.elim
 | some o =>
   rw [e] at P
   dsimp only at P
   by_cases z:am0 c mn o=true
   · rw [if_pos z] at P
     obtain ⟨sh,v0,d0,v,L,A,R',hm,hv,hd,hA,ht,ow,cl⟩:=p.rd R e
     refine ht _ ?_
     have hrd:Dn cm H o v:=Ow.dn R.bh (fun _ _ _ h=>h) ow
     obtain ⟨a,dx,fs,rfl,h1,h2⟩:=aE4 z hrd
     refine ⟨a,dx,fs,rfl,h1,h2,h B U As σ H ρ _ R ?_⟩
     cases e2:m ρ with
     | ok ds =>
       rw [e2] at P
       intro vs B2 U2 H2 N2 R2 g2 n2 G
       rw [List.append_nil]
       have inI:∀ {a},a∈L∨a∈R'→a∈As i:=fun {a} h=>by
        rw [hA]
        rcases h with h | h
        · exact List.mem_append_left _ h
        · exact List.mem_append_right _ (List.mem_append_right _ h)
       have same:∀ {a},a∈As i→H2 a=H a:=fun {a} h=>by
        obtain ⟨o',q⟩:=R.at h
        rw [q,g2.h _ _ q]
       exact bz8 R2 hm hv hd hA (Ow.mono g2.b (fun a ha=>same (by rw [hA]; exact List.mem_append_right _ (List.mem_append_left _ ha))) ow)
        (fun B1 H1 d' A1 sb k w=>cl B1 H1 d' A1 (g2.b.trans sb) (fun a ha=>by rw [k a ha,same (inI ha)]) w) G hf hl hb hU (Mo.at (r:=al3 set fm o ds ρ) P g2.toEx)
     | exc c=>rw [e2] at P; exact fun B2 U2 H2 R2 g2=>P B2 U2 As H2 R2 g2.toEx
     | bad=>rw [e2] at P; exact P
   · rw [if_neg z] at P
     exact P.elim
theorem aK3 {c:Nat} {mn:Str} {msR:List Md} {fm:List D→Out D} {ps:List Ap} {ta:TE} {get:Env→Option D} {set:Env→D→Env} {i:Nat} {s:Sh} {t:TA} {m:Env→Res (List D)} (p:Prt cm ms ta get set i s) (h:AJ cm E0 ms ps t m) (hf:fitM ms ps msR)
 (hl:lent ps=[]) (hb:i∉borr ps):MJ cm (KR cm .F) E0 ms (aH9 (cm c) mn (spZ cm (.O s :: msR) (KR cm .F) fm) [] E0 ta t) (mmP c mn get set fm m):=bD2 p h hf hl hb fun _ _ _ _ _ _ _ h=>h
end
end Mi
namespace Cl
open PySem L2 Mi
section
variable {σ σ' α β γ δ:Type} {rep:σ→Mi.Env} {rep':σ'→Mi.Env}
theorem aF4:∀ l:List (List Int),am9 (l.map (eTs D.int))=some l
 | []=>rfl
 | k :: l=>by
   rw [List.map_cons]
   show (match ad6 (k.map D.int),am9 (l.map (eTs D.int)) with | some k,some ks=>some (k :: ks) | _,_=>none)=_
   rw [ah7,aF4 l]
noncomputable def aJ3 (l:List (List Int)):Res (List (List Int)):=if (∀ k∈l,k≠[])∧l.length < 64 then .ok (pick l (ac1 l)) else .bad
theorem ba2 (l:List (List Int)):SimR (eL (eTs D.int)) (aC8 (eL (eTs D.int) l)) (aJ3 l):=by
 show SimR _ (match am9 (l.map (eTs D.int)) with | some kss=>(if (∀ k∈kss,k≠[])∧kss.length < 64 then Res.ok (D.lst (pick (l.map (eTs D.int)) (ac1 kss))) else .bad) | none=> .bad) _
 rw [aF4]
 unfold aJ3
 dsimp only
 by_cases h:(∀ k∈l,k≠[])∧l.length < 64
 · rw [if_pos h,if_pos h]
   show Res.ok (D.lst (pick (l.map (eTs D.int)) (ac1 l)))=Res.ok (D.lst ((pick l (ac1 l)).map (eTs D.int)))
   rw [ar6]
 · rw [if_neg h,if_neg h]; trivial
noncomputable def aX6 (F:DI β):Res (List (List Int)):=aJ3 (F.map (·.1))
theorem bA8 {e:β→D} (F:DI β):SimR (eL (eTs D.int)) (aP0 (encD e F)) (aX6 F):=by
 have:aP0 (encD e F)=aC8 (eL (eTs D.int) (F.map (·.1))):=by
  show aC8 (.lst ((F.map fun p=>p.1.map (Sum.inl:Int→Key)).map fun k=> .tup (k.map kD)))=aC8 (.lst ((F.map (·.1)).map (eTs D.int)))
  rw [List.map_map,List.map_map]
  refine congrArg (fun z=>aC8 (D.lst z)) (List.map_congr_left fun p _=>?_)
  show D.tup ((p.1.map (Sum.inl:Int→Key)).map kD)=D.tup (p.1.map D.int)
  rw [List.map_map]
  rfl
 rw [this]
 exact ba2 _
@[simp] noncomputable def gI (g:σ→Option (List α)) (k:σ→Option Int):σ→Option α:=fun s=>match g s,k s with
 | some l,some k=>if 0≤k then l[k.toNat]? else none
 | _,_=>none
@[simp] noncomputable def pI (g:σ→Option (List α)) (p:σ→List α→σ) (k:σ→Option Int):σ→α→σ:=fun s y=>match g s,k s with
 | some l,some k=>p s (l.set k.toNat y)
 | _,_=>s
theorem aq8 {j:Nat} {k:σ→Option Int} (h:∀ s,rg (rep s) j=(k s).map D.int):∀ s,ixV j (rep s)=k s:=fun s=>by
 unfold ixV
 rw [h]
 cases k s <;> rfl
theorem hgI {e:α→D} {get:Mi.Env→Option D} {mk:Mi.Env→Option Int} {g:σ→Option (List α)} {k:σ→Option Int} (hg:∀ s,get (rep s)=(g s).map (eL e)) (hk:∀ s,mk (rep s)=k s) (s:σ):ax0 get mk (rep s)=(gI g k s).map e:=by
 unfold ax0 gI
 rw [hg,hk]
 cases g s with
 | none=>rfl
 | some l =>
   cases k s with
   | none=>rfl
   | some k =>
     show (if 0≤k then (l.map e)[k.toNat]? else none)=(if 0≤k then l[k.toNat]? else none).map e
     by_cases z:0≤k
     · rw [if_pos z,if_pos z,List.getElem?_map]
     · rw [if_neg z,if_neg z]; rfl
theorem hsI {e:α→D} {get:Mi.Env→Option D} {set:Mi.Env→D→Mi.Env} {mk:Mi.Env→Option Int} {g:σ→Option (List α)} {p:σ→List α→σ} {k:σ→Option Int} (hg:∀ s,get (rep s)=(g s).map (eL e)) (hs:∀ s l,set (rep s) (eL e l)=rep (p s l)) (hk:∀ s,mk (rep s)=k s) (s:σ) (y:α) :
 aw5 get set mk (rep s) (e y)=rep (pI g p k s y):=by
 unfold aw5 pI
 rw [hg,hk]
 cases g s with
 | none=>rfl
 | some l =>
   cases k s with
   | none=>rfl
   | some k =>
     show set (rep s) (.lst ((l.map e).set k.toNat (e y)))=rep (p s (l.set k.toNat y))
     rw [← hs,← List.map_set]
     rfl
@[simp] noncomputable def mpC (g:σ→Option α) (p:σ→α→σ) (sel:σ'→α) (cr:σ→Res δ) (f:α→δ→OutC σ' γ):σ→OutC σ γ:=fun s=>match g s with
 | none=> .bad
 | some o=>match cr s with
   | .ok r=>(match f o r with | .ok x s'=> .ok x (p s (sel s')) | .exc c s'=> .exc c (p s (sel s')) | .bad=> .bad)
   | .exc c=> .exc c s
   | .bad=> .bad
theorem bB1 {e0:α→D} {eW:δ→List D} {eR:γ→D} {c:Nat} {mn:Str} {get:Mi.Env→Option D} {set:Mi.Env→D→Mi.Env} {fm:List D→Out D} {row:Mi.Env→Res (List D)} {g:σ→Option α} {p:σ→α→σ} {sel:σ'→α} {cr:σ→Res δ} {f:α→δ→OutC σ' γ}
 (hg:∀ s,get (rep s)=(g s).map e0) (hs:∀ s y,set (rep s) (e0 y)=rep (p s y)) (ho:∀ a,am0 c mn (e0 a)=true) (hr:EJ rep eW (fun ρ=>(row ρ).bind .ok) cr) (hf:∀ a r,SimO rep' eR (fm (e0 a :: eW r)) (f a r)) (hself:∀ s',rg (rep' s') 0=some (e0 (sel s'))) :
 NJ rep eR (mmP c mn get set fm row) (mpC g p sel cr f):=fun s=>by
 unfold mmP mpC
 rw [hg]
 cases g s with
 | none=>trivial
 | some o =>
   dsimp only [Option.map]
   rw [if_pos (ho o)]
   have h:=hr s
   cases q:cr s with
   | bad=>trivial
   | exc x =>
     rw [q] at h
     have h:(row (rep s)).bind .ok= .exc x:=h
     cases z:row (rep s) with
     | ok y=>rw [z] at h; cases h
     | exc y=>rw [z] at h; cases h; rfl
     | bad=>rw [z] at h; cases h
   | ok r =>
     rw [q] at h
     have h:(row (rep s)).bind .ok= .ok (eW r):=h
     have z:row (rep s)= .ok (eW r):=by
      cases z:row (rep s) with
      | ok y=>rw [z] at h; exact h
      | exc y=>rw [z] at h; cases h
      | bad=>rw [z] at h; cases h
     rw [z]
     show SimO rep eR (al3 set fm (e0 o) (eW r) (rep s)) _
     unfold al3
     have k:=hf o r
     dsimp only
     cases w:f o r with
     | bad=>trivial
     | ok x s' =>
       rw [w] at k
       have k:fm (e0 o :: eW r)= .ok (eR x) (rep' s'):=k
       rw [k]
       dsimp only
       rw [hself]
       dsimp only
       rw [hs]
       rfl
     | exc x s' =>
       rw [w] at k
       have k:fm (e0 o :: eW r)= .exc x (rep' s'):=k
       rw [k]
       dsimp only
       rw [hself]
       dsimp only
       rw [hs]
       rfl
end
end Cl
set_option genInjectivity false
set_option genSizeOf false
open PySem L2 in
theorem L2.Room.mm {j k:Nat} {A:Around} (r:Room k A) (h:j≤k:=by decide):Room j A:=r.mono h
namespace K02
open PySem L2
noncomputable def top (i:Nat):Stmt:=PySem.Challenge.pw_heraldways_k02_likings_and_ranks.main.body.getD i (.Pass ⟨0,0,0,0⟩)
noncomputable abbrev s_a9:Stmt:=ak1 (top 9) 0
noncomputable abbrev s_h9:Stmt:=ak1 (top 9) 11
noncomputable abbrev s_j9:Stmt:=top 11
noncomputable abbrev s_k9:Stmt:=top 15
noncomputable abbrev s_l9:Stmt:=top 14
noncomputable abbrev s_m9:Stmt:=top 13
noncomputable abbrev s_o9:Stmt:=top 12
noncomputable abbrev s_q9:Stmt:=top 8
noncomputable abbrev s_e9:Stmt:=ak1 (top 9) 16
noncomputable abbrev s_p9:Stmt:=top 17
noncomputable abbrev s_b9:Stmt:=ak1 (top 9) 6
noncomputable abbrev s_c9:Stmt:=ak1 (top 9) 7
noncomputable abbrev s_f9:Stmt:=ak1 (top 9) 18
noncomputable abbrev s_d9:Stmt:=ak1 (top 9) 12
noncomputable abbrev s_g9:Stmt:=ak1 (top 9) 10
noncomputable abbrev s_n9:Stmt:=top 16
noncomputable abbrev s_i9:Stmt:=top 18
theorem sc_a9:FnScope ["self", "size"] ["self", "size"] (aa9 s_a9):=by constructor <;> first | rfl | decide +kernel
theorem sc_h9:FnScope ["self"] ["self"] (aa9 s_h9):=by constructor <;> first | rfl | decide +kernel
theorem sc_j9:FnScope ["script", "k"] ["script", "k"] (aa9 s_j9):=by constructor <;> first | rfl | decide +kernel
theorem sc_k9:FnScope ["fond", "dear", "road"] ["fond", "dear", "road"] (aa9 s_k9):=by constructor <;> first | rfl | decide +kernel
theorem sc_l9:FnScope ["cell"] ["cell"] (aa9 s_l9):=by constructor <;> first | rfl | decide +kernel
theorem aC9:FnScope ["cell", "house", "size", "rest", "road", "many"] ["cell", "house", "size"] (aa9 s_m9):=by constructor <;> first | rfl | decide +kernel
theorem sc_o9:FnScope ["found"] ["found"] (aa9 s_o9):=by constructor <;> first | rfl | decide +kernel
theorem sc_q9:FnScope ["houses", "count"] ["houses", "count"] (aa9 s_q9):=by constructor <;> first | rfl | decide +kernel
theorem sc_e9:FnScope ["self", "houses"] ["self", "houses"] (aa9 s_e9):=by constructor <;> first | rfl | decide +kernel
theorem aX8:FnScope ["guild", "dear", "found", "due", "k", "pair"] ["guild", "dear"] (aa9 s_p9):=by constructor <;> first | rfl | decide +kernel
theorem sc_b9:FnScope ["self", "a", "b", "rank"] ["self", "a", "b", "rank"] (aa9 s_b9):=by constructor <;> first | rfl | decide +kernel
theorem sc_c9:FnScope ["self", "a", "b"] ["self", "a", "b"] (aa9 s_c9):=by constructor <;> first | rfl | decide +kernel
theorem sc_f9:FnScope ["self", "road"] ["self", "road"] (aa9 s_f9):=by constructor <;> first | rfl | decide +kernel
theorem bI3:FnScope ["self", "road", "wish_rank"] ["self", "road"] (aa9 s_d9):=by constructor <;> first | rfl | decide +kernel
theorem sc_g9:FnScope ["self", "road", "rank"] ["self", "road", "rank"] (aa9 s_g9):=by constructor <;> first | rfl | decide +kernel
theorem bi9:FnScope ["guild", "fond", "dear", "a", "b", "road", "kept", "found"] ["guild", "fond", "dear", "a", "b", "road"] (aa9 s_n9):=by constructor <;> first | rfl | decide +kernel
theorem al6:FnScope ["script", "size", "guilds", "fonds", "dears", "k", "cell", "more", "a", "b", "road", "rank", "at", "handed", "j"] ["script"] (aa9 s_i9):=by constructor <;> first | rfl | decide +kernel
structure Adr where
 C_Guild:Addr
 f_a9:Addr
 d_a9:FuncData
 f_h9:Addr
 d_h9:FuncData
 f_j9:Addr
 d_j9:FuncData
 f_k9:Addr
 d_k9:FuncData
 f_l9:Addr
 d_l9:FuncData
 f_m9:Addr
 d_m9:FuncData
 f_o9:Addr
 d_o9:FuncData
 f_q9:Addr
 d_q9:FuncData
 f_e9:Addr
 d_e9:FuncData
 f_p9:Addr
 d_p9:FuncData
 f_b9:Addr
 d_b9:FuncData
 f_c9:Addr
 d_c9:FuncData
 f_f9:Addr
 d_f9:FuncData
 f_d9:Addr
 d_d9:FuncData
 f_g9:Addr
 d_g9:FuncData
 f_n9:Addr
 d_n9:FuncData
 f_i9:Addr
 d_i9:FuncData
structure Txt (K:PySem.W.Frag) (mg:Str→Option Value) (a:Adr) (base:Heap):Prop where
 cl_Guild:Cls K a.C_Guild
 mgC_Guild:mg "Guild" = some (.ref a.C_Guild)
 mk_Guild:Mk K a.C_Guild a.f_a9
 n_house_count:NoAttr K a.C_Guild "house_count"
 n_ways:NoAttr K a.C_Guild "ways"
 n_likings:NoAttr K a.C_Guild "likings"
 n_shuns:NoAttr K a.C_Guild "shuns"
 n_wish_ranks:NoAttr K a.C_Guild "wish_ranks"
 F_a9:Fun K "__init__" "Guild.__init__" s_a9 a.f_a9 a.d_a9
 b_a9:Binds K a.d_a9 ["self", "size"] []
 F_h9:Fun K "wishes" "Guild.wishes" s_h9 a.f_h9 a.d_h9
 b_h9:Binds K a.d_h9 ["self"] []
 me_h9:Meth K a.C_Guild "wishes" a.f_h9
 F_j9:Fun K "_law_cell_at" "_law_cell_at" s_j9 a.f_j9 a.d_j9
 b_j9:Binds K a.d_j9 ["script", "k"] []
 m_j9:mg "_law_cell_at" = some (.ref a.f_j9)
 kp_j9:PySem.W.keepIn K (.ref a.f_j9)=true
 F_k9:Fun K "_law_due" "_law_due" s_k9 a.f_k9 a.d_k9
 b_k9:Binds K a.d_k9 ["fond", "dear", "road"] []
 m_k9:mg "_law_due" = some (.ref a.f_k9)
 kp_k9:PySem.W.keepIn K (.ref a.f_k9)=true
 F_l9:Fun K "_law_rank_by" "_law_rank_by" s_l9 a.f_l9 a.d_l9
 b_l9:Binds K a.d_l9 ["cell"] []
 m_l9:mg "_law_rank_by" = some (.ref a.f_l9)
 kp_l9:PySem.W.keepIn K (.ref a.f_l9)=true
 F_m9:Fun K "_law_road_by" "_law_road_by" s_m9 a.f_m9 a.d_m9
 b_m9:Binds K a.d_m9 ["cell", "house", "size"] []
 m_m9:mg "_law_road_by" = some (.ref a.f_m9)
 kp_m9:PySem.W.keepIn K (.ref a.f_m9)=true
 F_o9:Fun K "_law_whole" "_law_whole" s_o9 a.f_o9 a.d_o9
 b_o9:Binds K a.d_o9 ["found"] []
 m_o9:mg "_law_whole" = some (.ref a.f_o9)
 kp_o9:PySem.W.keepIn K (.ref a.f_o9)=true
 F_q9:Fun K "require_within" "require_within" s_q9 a.f_q9 a.d_q9
 b_q9:Binds K a.d_q9 ["houses", "count"] []
 m_q9:mg "require_within" = some (.ref a.f_q9)
 kp_q9:PySem.W.keepIn K (.ref a.f_q9)=true
 F_e9:Fun K "require_houses" "Guild.require_houses" s_e9 a.f_e9 a.d_e9
 b_e9:Binds K a.d_e9 ["self", "houses"] []
 me_e9:Meth K a.C_Guild "require_houses" a.f_e9
 F_p9:Fun K "_law_wishes_told" "_law_wishes_told" s_p9 a.f_p9 a.d_p9
 b_p9:Binds K a.d_p9 ["guild", "dear"] []
 m_p9:mg "_law_wishes_told" = some (.ref a.f_p9)
 kp_p9:PySem.W.keepIn K (.ref a.f_p9)=true
 F_b9:Fun K "like" "Guild.like" s_b9 a.f_b9 a.d_b9
 b_b9:Binds K a.d_b9 ["self", "a", "b", "rank"] []
 me_b9:Meth K a.C_Guild "like" a.f_b9
 F_c9:Fun K "liking" "Guild.liking" s_c9 a.f_c9 a.d_c9
 b_c9:Binds K a.d_c9 ["self", "a", "b"] []
 me_c9:Meth K a.C_Guild "liking" a.f_c9
 F_f9:Fun K "require_long_road" "Guild.require_long_road" s_f9 a.f_f9 a.d_f9
 b_f9:Binds K a.d_f9 ["self", "road"] []
 me_f9:Meth K a.C_Guild "require_long_road" a.f_f9
 F_d9:Fun K "rank_of" "Guild.rank_of" s_d9 a.f_d9 a.d_d9
 b_d9:Binds K a.d_d9 ["self", "road"] []
 me_d9:Meth K a.C_Guild "rank_of" a.f_d9
 F_g9:Fun K "wish" "Guild.wish" s_g9 a.f_g9 a.d_g9
 b_g9:Binds K a.d_g9 ["self", "road", "rank"] []
 me_g9:Meth K a.C_Guild "wish" a.f_g9
 F_n9:Fun K "_law_told" "_law_told" s_n9 a.f_n9 a.d_n9
 b_n9:Binds K a.d_n9 ["guild", "fond", "dear", "a", "b", "road"] []
 m_n9:mg "_law_told" = some (.ref a.f_n9)
 kp_n9:PySem.W.keepIn K (.ref a.f_n9)=true
 F_i9:Fun K "law" "law" s_i9 a.f_i9 a.d_i9
 b_i9:Binds K a.d_i9 ["script"] []
 m_i9:mg "law" = some (.ref a.f_i9)
 kp_i9:PySem.W.keepIn K (.ref a.f_i9)=true
 g_SEAT:∃ t,mg "SEAT" = some (.int 0 t)
 g_MOST_HOUSES:∃ t,mg "MOST_HOUSES" = some (.int 60 t)
 z_len:mg "len" = none
 z_range:mg "range" = none
 z_min:mg "min" = none
 z_max:mg "max" = none
 z_set:mg "set" = none
 z_list:mg "list" = none
 z_tuple:mg "tuple" = none
 z_isinstance:mg "isinstance" = none
 z_bool:mg "bool" = none
 z_int:mg "int" = none
 z_sorted:mg "sorted" = none
noncomputable def cmOf (a:Adr) (K:PySem.W.Frag):Mi.Cm:=⟨fun c=>match c with | 0=>a.C_Guild | _=>0,K,[]⟩
end K02
namespace K02
open PySem L2 Mi
noncomputable def ar4:List (Str×Sh):=[("ways",.ct .fz),("likings",.ct .fz),("shuns",.ct .fz),("wish_ranks",.ct .fz)]
noncomputable def bO2:List Md:=[.O (.ob ar4),.F]
noncomputable def mo_a9:List Md:=[]
noncomputable abbrev aJ2:Mi.Env→SO:=(fun _=> .bad)
noncomputable abbrev bx9:Mi.Env→SO:=(ifS (liP (orT (tst (bn ltI (vr 1) (cst (.int 1)))) (tst (bn gtI (vr 1) (cst (.int 60))))))
 aJ2
 af9)
noncomputable abbrev bx8:Mi.Env→SO:=(fldS 0 "house_count" 0 (liP (vr 1)))
noncomputable abbrev bx7:Mi.Env→SO:=(fldS 0 "ways" 0 (liP (cst (.dT [] []))))
noncomputable abbrev bx6:Mi.Env→SO:=(fldS 0 "likings" 0 (liP (cst (.dT [] []))))
noncomputable abbrev bx5:Mi.Env→SO:=(fldS 0 "shuns" 0 (liP (cst (.dT [] []))))
noncomputable abbrev bx4:Mi.Env→SO:=(fldS 0 "wish_ranks" 0 (liP (cst (.dT [] []))))
noncomputable def bC9:Mi.Env→SO:=(seqS bx9
 (seqS bx8
 (seqS bx7
 (seqS bx6
 (seqS bx5
 bx4)))))
noncomputable def m_a9:List D→Out D:=run 2 bC9
theorem bk9:bC9=(seqS (ifS (liP (orT (tst (bn ltI (vr 1) (cst (.int 1)))) (tst (bn gtI (vr 1) (cst (.int 60))))))
 (fun _=> .bad)
 af9)
 (seqS (fldS 0 "house_count" 0 (liP (vr 1)))
 (seqS (fldS 0 "ways" 0 (liP (cst (.dT [] []))))
 (seqS (fldS 0 "likings" 0 (liP (cst (.dT [] []))))
 (seqS (fldS 0 "shuns" 0 (liP (cst (.dT [] []))))
 (fldS 0 "wish_ranks" 0 (liP (cst (.dT [] []))))))))):=rfl
noncomputable def bN5:List Md:=[.R]
noncomputable def mo_h9:List Md:=[]
noncomputable abbrev bv8:Mi.Env→SO:=(retS (liP (comp (srcL (un aP0 (un (fldD 0 "wish_ranks") (vr 0)))) [0] (fun _=> .ok true) (mkT (esC (un ap9 (vr 0)) (esC (sc1 (bn aG1 (un (fldD 0 "wish_ranks") (vr 1)) (vr 0))) esN))))))
noncomputable def bC2:Mi.Env→SO:=bv8
noncomputable def m_h9:List D→Out D:=runO 1 bC2
noncomputable def bN3:List Md:=[.R,.F]
noncomputable def mo_j9:List Md:=[]
noncomputable abbrev aI6:Mi.Env→SO:=(retS (liP (sc1 (bn ixL (vr 0) (vr 1)))))
noncomputable abbrev bv0:Mi.Env→SO:=(ifS (liP (tst (bn ltI (vr 1) (un lenD (vr 0)))))
 aI6
 af9)
noncomputable abbrev bu9:Mi.Env→SO:=(retS (liP (cst (.int 0))))
noncomputable def bC0:Mi.Env→SO:=(seqS bv0
 bu9)
noncomputable def m_j9:List D→Out D:=run 2 bC0
noncomputable def bN2:List Md:=[.R,.R,.F]
noncomputable def mo_k9:List Md:=[]
noncomputable abbrev aI5:Mi.Env→SO:=(retS (liP (sc1 (bn aG1 (vr 1) (un tupL (vr 2))))))
noncomputable abbrev bu8:Mi.Env→SO:=(ifS (liP (tst (bn (dinD false) (un tupL (vr 2)) (vr 1))))
 aI5
 af9)
noncomputable abbrev bu7:Mi.Env→SO:=(retS (liP (sc1 (bc8 (vr 0) (mkT (esC (bn ixL (vr 2) (cst (.int 0))) (esC (bn ixL (vr 2) (cst (.int 1))) esN))) (cst (.int 0))))))
noncomputable def bB9:Mi.Env→SO:=(seqS bu8
 bu7)
noncomputable def m_k9:List D→Out D:=run 3 bB9
noncomputable def bN1:List Md:=[.F]
noncomputable def mo_l9:List Md:=[]
noncomputable abbrev aI4:Mi.Env→SO:=(retS (liP (bn addI (bn subI (bn modI (bn ao2 (vr 0) (cst (.int 4))) (bn subI (bn mulI (cst (.int 2)) (bn powI (cst (.int 10)) (cst (.int 60)))) (cst (.int 1)))) (bn powI (cst (.int 10)) (cst (.int 60)))) (cst (.int 1)))))
noncomputable abbrev bu6:Mi.Env→SO:=(ifS (liP (tst (bn (eqS false) (bn modI (vr 0) (cst (.int 4))) (cst (.int 1)))))
 aI4
 af9)
noncomputable abbrev bu5:Mi.Env→SO:=(retS (liP (bn subI (bn modI (bn ao2 (vr 0) (cst (.int 4))) (cst (.int 7))) (cst (.int 3)))))
noncomputable def bB8:Mi.Env→SO:=(seqS bu6
 bu5)
noncomputable def m_l9:List D→Out D:=run 1 bB8
noncomputable def bN0:List Md:=[.F,.F,.F]
noncomputable def mo_m9:List Md:=[.O (.ct .fz),.O (.ct .fz),.F]
noncomputable abbrev bu4:Mi.Env→SO:=(setS 3 (liP (comp (srcR (cst (.int 1)) (vr 2)) [1] (tst (bn (eqS true) (vr 0) (vr 1))) (vr 0))))
noncomputable abbrev bu3:Mi.Env→SO:=(setS 4 (liP (mkL (esC (vr 1) esN))))
noncomputable abbrev bu2:Mi.Env→SO:=(setS 5 (liP (bn modI (vr 0) (cst (.int 4)))))
noncomputable abbrev aI3:Mi.Env→SO:=(setS 5 (liP (vr 2)))
noncomputable abbrev bu1:Mi.Env→SO:=(ifS (liP (tst (bn (eqS false) (bn modI (bn ao2 (vr 0) (cst (.int 4))) (cst (.int 8))) (cst (.int 3)))))
 aI3
 af9)
noncomputable abbrev bu0:Mi.Env→SO:=(setS 0 (liP (bn ao2 (vr 0) (cst (.int 4)))))
noncomputable abbrev aV8:Mi.Env→SO:=(ap3 (appM 4 (lst1 (al5 3) (ao6 3) popF (bn modI (vr 0) (un lenD (vr 3))))))
noncomputable abbrev aV7:Mi.Env→SO:=(setS 0 (liP (bn ao2 (vr 0) (cst (.int 5)))))
noncomputable abbrev aV6:Mi.Env→SO:=(setS 5 (liP (bn subI (vr 5) (cst (.int 1)))))
noncomputable abbrev bD4:Mi.Env→SO:=(seqS aV8
 (seqS aV7
 aV6))
noncomputable abbrev bt9:Mi.Env→SO:=(whS (liP (andT (tst (bn gtI (vr 5) (cst (.int 0)))) (tst (bn gtI (un lenD (vr 3)) (cst (.int 0))))))
 bD4 100000)
noncomputable abbrev bt8:Mi.Env→SO:=(retS (liP (bn catL (vr 4) (mkL (esC (cst (.int 0)) esN)))))
noncomputable def bB7:Mi.Env→SO:=(seqS bu4
 (seqS bu3
 (seqS bu2
 (seqS bu1
 (seqS bu0
 (seqS bt9
 bt8))))))
noncomputable def m_m9:List D→Out D:=runO 6 bB7
noncomputable def bM8:List Md:=[.F]
noncomputable def mo_o9:List Md:=[]
noncomputable abbrev bt2:Mi.Env→SO:=(retS (liP (andD (bn isT (vr 0) (cst (.ty "int"))) (un notB (bn isT (vr 0) (cst (.ty "bool")))))))
noncomputable def bB5:Mi.Env→SO:=bt2
noncomputable def m_o9:List D→Out D:=run 1 bB5
noncomputable def bM6:List Md:=[.R,.F]
noncomputable def mo_q9:List Md:=[]
noncomputable abbrev aI0:Mi.Env→SO:=(fun _=> .bad)
noncomputable abbrev bs6:Mi.Env→SO:=(ifS (liP (orT (tst (bn ltI (bn (extD af0) (vr 0) (cst (.int 0))) (cst (.int 0)))) (tst (bn geI (bn (extD aj9) (vr 0) (cst (.int 0))) (vr 1)))))
 aI0
 af9)
noncomputable def bB3:Mi.Env→SO:=bs6
noncomputable def m_q9:List D→Out D:=run 2 bB3
noncomputable def bN8:List Md:=[.R,.R]
noncomputable def mo_e9:List Md:=[]
noncomputable abbrev bw5:Mi.Env→SO:=(ap3 (liP (pc m_q9 (esC (vr 1) (esC (sc1 (un (fldD 0 "house_count") (vr 0))) esN)))))
noncomputable def bC5:Mi.Env→SO:=bw5
noncomputable def m_e9:List D→Out D:=run 2 bC5
noncomputable def bM7:List Md:=[.R,.R]
noncomputable def mo_p9:List Md:=[.F,.F,.F,.F]
noncomputable abbrev bt1:Mi.Env→SO:=(setS 2 (liP (pm 0 "wishes" m_h9 (vr 0) esN)))
noncomputable abbrev bt0:Mi.Env→SO:=(setS 3 (liP (un aC8 (un bD6 (vr 1)))))
noncomputable abbrev aI1:Mi.Env→SO:=(retS (liP (cst (.bl false))))
noncomputable abbrev bs9:Mi.Env→SO:=(ifS (liP (orT (notT (tst (bn isT (vr 2) (cst (.ty "list"))))) (tst (bn (eqS true) (un lenD (vr 2)) (un lenD (vr 3))))))
 aI1
 af9)
noncomputable abbrev aV5:Mi.Env→SO:=(setS 5 (liP (bn ixL (vr 2) (vr 4))))
noncomputable abbrev ay9:Mi.Env→SO:=(retS (liP (cst (.bl false))))
noncomputable abbrev aV4:Mi.Env→SO:=(ifS (liP (orT (notT (tst (bn isT (vr 5) (cst (.ty "tuple"))))) (orT (tst (bn (eqS true) (un lenD (vr 5)) (cst (.int 2)))) (notT (tst (bn isT (bn ixT (vr 5) (cst (.int 0))) (cst (.ty "list"))))))))
 ay9
 af9)
noncomputable abbrev ay8:Mi.Env→SO:=(retS (liP (cst (.bl false))))
noncomputable abbrev aV3:Mi.Env→SO:=(ifS (liP (orT (tst (bn (eqD true) (bn ixT (vr 5) (cst (.int 0))) (un ap9 (bn ixL (vr 3) (vr 4))))) (orT (notT (tst (pc m_o9 (esC (bn ixT (vr 5) (cst (.int 1))) esN)))) (tst (bn (eqS true) (bn ixT (vr 5) (cst (.int 1))) (bn aG1 (vr 1) (bn ixL (vr 3) (vr 4))))))))
 ay8
 af9)
noncomputable abbrev bD3:Mi.Env→SO:=(seqS aV5
 (seqS aV4
 aV3))
noncomputable abbrev bs8:Mi.Env→SO:=(aT2 (liP (bi6 (un lenD (vr 3)))) (tgN 4)
 bD3)
noncomputable abbrev bs7:Mi.Env→SO:=(retS (liP (cst (.bl true))))
noncomputable def bB4:Mi.Env→SO:=(seqS bt1
 (seqS bt0
 (seqS bs9
 (seqS bs8
 bs7))))
noncomputable def m_p9:List D→Out D:=run 6 bB4
noncomputable def bO1:List Md:=[.O (.ob ar4),.F,.F,.F]
noncomputable def mo_b9:List Md:=[]
noncomputable abbrev bx3:Mi.Env→SO:=(ap3 (liP (pm 0 "require_houses" m_e9 (vr 0) (esC (mkL (esC (vr 1) (esC (vr 2) esN))) esN))))
noncomputable abbrev bx2:Mi.Env→SO:=(aL3 (getF 0 "likings" 0) (setF "likings" 0) (mkT (esC (vr 1) (esC (vr 2) esN))) (liP (vr 3)))
noncomputable def bC8:Mi.Env→SO:=(seqS bx3
 bx2)
noncomputable def m_b9:List D→Out D:=run 4 bC8
noncomputable def bO0:List Md:=[.R,.F,.F]
noncomputable def mo_c9:List Md:=[]
noncomputable abbrev bx1:Mi.Env→SO:=(ap3 (liP (pm 0 "require_houses" m_e9 (vr 0) (esC (mkL (esC (vr 1) (esC (vr 2) esN))) esN))))
noncomputable abbrev bx0:Mi.Env→SO:=(retS (liP (sc1 (bc8 (un (fldD 0 "likings") (vr 0)) (mkT (esC (vr 1) (esC (vr 2) esN))) (cst (.int 0))))))
noncomputable def bC7:Mi.Env→SO:=(seqS bx1
 bx0)
noncomputable def m_c9:List D→Out D:=run 3 bC7
noncomputable def bN7:List Md:=[.R,.R]
noncomputable def mo_f9:List Md:=[]
noncomputable abbrev bw4:Mi.Env→SO:=(ap3 (liP (pm 0 "require_houses" m_e9 (vr 0) (esC (vr 1) esN))))
noncomputable abbrev aJ0:Mi.Env→SO:=(fun _=> .bad)
noncomputable abbrev bw3:Mi.Env→SO:=(ifS (liP (tst (bn ltI (un lenD (vr 1)) (cst (.int 2)))))
 aJ0
 af9)
noncomputable abbrev aI9:Mi.Env→SO:=(fun _=> .bad)
noncomputable abbrev bw2:Mi.Env→SO:=(ifS (liP (tst (bn (eqS true) (bn ixL (vr 1) (un negI (cst (.int 1)))) (cst (.int 0)))))
 aI9
 af9)
noncomputable abbrev aI8:Mi.Env→SO:=(fun _=> .bad)
noncomputable abbrev bw1:Mi.Env→SO:=(ifS (liP (tst (bn (eqS true) (un aE9 (vr 1)) (un lenD (vr 1)))))
 aI8
 af9)
noncomputable def bC4:Mi.Env→SO:=(seqS bw4
 (seqS bw3
 (seqS bw2
 bw1)))
noncomputable def m_f9:List D→Out D:=run 2 bC4
noncomputable def bN9:List Md:=[.R,.R]
noncomputable def mo_d9:List Md:=[.F]
noncomputable abbrev bw9:Mi.Env→SO:=(ap3 (liP (pm 0 "require_long_road" m_f9 (vr 0) (esC (vr 1) esN))))
noncomputable abbrev bw8:Mi.Env→SO:=(setS 2 (liP (sc1 (bE0 (un (fldD 0 "wish_ranks") (vr 0)) (un tupL (chkS (vr 1)))))))
noncomputable abbrev aJ1:Mi.Env→SO:=(retS (liP (pm 0 "liking" m_c9 (vr 0) (esC (sc1 (bn ixL (vr 1) (cst (.int 0)))) (esC (sc1 (bn ixL (vr 1) (cst (.int 1)))) esN)))))
noncomputable abbrev bw7:Mi.Env→SO:=(ifS (liP (tst (bn (isNb false) (vr 2) (cst .non))))
 aJ1
 af9)
noncomputable abbrev bw6:Mi.Env→SO:=(retS (liP (vr 2)))
noncomputable def bC6:Mi.Env→SO:=(seqS bw9
 (seqS bw8
 (seqS bw7
 bw6)))
noncomputable def m_d9:List D→Out D:=run 3 bC6
noncomputable def bN6:List Md:=[.O (.ob ar4),.R,.F]
noncomputable def mo_g9:List Md:=[]
noncomputable abbrev bw0:Mi.Env→SO:=(ap3 (liP (pm 0 "require_long_road" m_f9 (vr 0) (esC (vr 1) esN))))
noncomputable abbrev bv9:Mi.Env→SO:=(aL3 (getF 0 "wish_ranks" 0) (setF "wish_ranks" 0) (un tupL (chkS (vr 1))) (liP (vr 2)))
noncomputable def bC3:Mi.Env→SO:=(seqS bw0
 bv9)
noncomputable def m_g9:List D→Out D:=run 3 bC3
noncomputable def bM9:List Md:=[.R,.R,.R,.F,.F,.F]
noncomputable def mo_n9:List Md:=[.F,.F]
noncomputable abbrev bt7:Mi.Env→SO:=(setS 6 (liP (un ap9 (vr 5))))
noncomputable abbrev bt6:Mi.Env→SO:=(setS 7 (liP (pm 0 "rank_of" m_d9 (vr 0) (esC (vr 5) esN))))
noncomputable abbrev aI2:Mi.Env→SO:=(retS (liP (cst (.bl false))))
noncomputable abbrev bt5:Mi.Env→SO:=(ifS (liP (orT (notT (tst (pc m_o9 (esC (vr 7) esN)))) (orT (tst (bn (eqS true) (vr 7) (pc m_k9 (esC (vr 1) (esC (vr 2) (esC (vr 6) esN)))))) (tst (bn (eqD true) (vr 5) (vr 6))))))
 aI2
 af9)
noncomputable abbrev bt4:Mi.Env→SO:=(setS 7 (liP (pm 0 "liking" m_c9 (vr 0) (esC (vr 3) (esC (vr 4) esN)))))
noncomputable abbrev bt3:Mi.Env→SO:=(retS (liP (andD (pc m_o9 (esC (vr 7) esN)) (bn (eqS false) (vr 7) (bc8 (vr 1) (mkT (esC (vr 3) (esC (vr 4) esN))) (cst (.int 0)))))))
noncomputable def bB6:Mi.Env→SO:=(seqS bt7
 (seqS bt6
 (seqS bt5
 (seqS bt4
 bt3))))
noncomputable def m_n9:List D→Out D:=run 8 bB6
noncomputable def bN4:List Md:=[.R]
noncomputable def mo_i9:List Md:=[.F,.O (.ct (.ob ar4)),.O (.ct (.ct .fz)),.O (.ct (.ct .fz)),.F,.F,.F,.F,.F,.F,.F,.F,.O (.ct .fz),.F]
noncomputable abbrev bv7:Mi.Env→SO:=(setS 1 (liP (bn addI (cst (.int 2)) (bn modI (pc m_j9 (esC (vr 0) (esC (cst (.int 0)) esN))) (cst (.int 8))))))
noncomputable abbrev aI7:Mi.Env→SO:=(setS 1 (liP (bn addI (cst (.int 10)) (bn modI (bn ao2 (pc m_j9 (esC (vr 0) (esC (cst (.int 0)) esN))) (cst (.int 32))) (cst (.int 51))))))
noncomputable abbrev bv6:Mi.Env→SO:=(ifS (liP (tst (bn (eqS false) (bn modI (bn ao2 (pc m_j9 (esC (vr 0) (esC (cst (.int 0)) esN))) (cst (.int 8))) (cst (.int 4))) (cst (.int 1)))))
 aI7
 af9)
noncomputable abbrev bv5:Mi.Env→SO:=(setS 2 (liP (mkL (esC (pk 0 m_a9 (esC (vr 1) esN)) (esC (pk 0 m_a9 (esC (vr 1) esN)) esN)))))
noncomputable abbrev bv4:Mi.Env→SO:=(setS 3 (liP (mkL (esC (cst (.dT [] [])) (esC (cst (.dT [] [])) esN)))))
noncomputable abbrev bv3:Mi.Env→SO:=(setS 4 (liP (mkL (esC (cst (.dT [] [])) (esC (cst (.dT [] [])) esN)))))
noncomputable abbrev aW7:Mi.Env→SO:=(setS 6 (liP (sc1 (bn ixL (vr 0) (vr 5)))))
noncomputable abbrev aW6:Mi.Env→SO:=(setS 7 (liP (pc m_j9 (esC (vr 0) (esC (bn addI (vr 5) (cst (.int 1))) esN)))))
noncomputable abbrev aW5:Mi.Env→SO:=(setS 8 (liP (bn addI (cst (.int 1)) (bn modI (bn ao2 (vr 6) (cst (.int 3))) (bn subI (vr 1) (cst (.int 1)))))))
noncomputable abbrev aW4:Mi.Env→SO:=(setS 9 (liP (bn modI (bn ao2 (bn ao2 (vr 6) (cst (.int 3))) (bn subI (vr 1) (cst (.int 1)))) (vr 1))))
noncomputable abbrev aW3:Mi.Env→SO:=(setS 10 (liP (pc m_m9 (esC (vr 7) (esC (vr 8) (esC (vr 1) esN))))))
noncomputable abbrev aW2:Mi.Env→SO:=(setS 11 (liP (pc m_l9 (esC (bn addI (vr 7) (vr 6)) esN))))
noncomputable abbrev aW1:Mi.Env→SO:=(setS 12 (liP (bn modI (vr 5) (cst (.int 2)))))
noncomputable abbrev az5:Mi.Env→SO:=(ap3 (mmP 0 "like" (ax0 (al5 2) (ixV 12)) (aw5 (al5 2) (ao6 2) (ixV 12)) m_b9 (esC (vr 8) (esC (vr 9) (esC (vr 11) esN)))))
noncomputable abbrev az4:Mi.Env→SO:=(aL3 (ax0 (al5 3) (ixV 12)) (aw5 (al5 3) (ao6 3) (ixV 12)) (mkT (esC (vr 8) (esC (vr 9) esN))) (liP (vr 11)))
noncomputable abbrev aW0:Mi.Env→SO:=(ifS (liP (tst (bn (eqS false) (bn modI (vr 6) (cst (.int 3))) (cst (.int 0)))))
 (seqS az5
 az4)
 af9)
noncomputable abbrev az3:Mi.Env→SO:=(setS 13 (liP (un ap9 (vr 10))))
noncomputable abbrev az2:Mi.Env→SO:=(ap3 (mmP 0 "wish" (ax0 (al5 2) (ixV 12)) (aw5 (al5 2) (ao6 2) (ixV 12)) m_g9 (esC (vr 13) (esC (vr 11) esN))))
noncomputable abbrev az1:Mi.Env→SO:=(ap3 (lst0 (al5 13) (ao6 13) revF))
noncomputable abbrev az0:Mi.Env→SO:=(aL3 (ax0 (al5 4) (ixV 12)) (aw5 (al5 4) (ao6 4) (ixV 12)) (un tupL (vr 10)) (liP (vr 11)))
noncomputable abbrev aV9:Mi.Env→SO:=(ifS (liP (tst (bn (eqS false) (bn modI (vr 6) (cst (.int 3))) (cst (.int 1)))))
 (seqS az3
 (seqS az2
 (seqS az1
 az0)))
 af9)
noncomputable abbrev aw4:Mi.Env→SO:=(ap3 (mmP 0 "like" (ax0 (al5 2) (ixV 12)) (aw5 (al5 2) (ao6 2) (ixV 12)) m_b9 (esC (vr 8) (esC (bn ixL (vr 10) (cst (.int 1))) (esC (vr 11) esN)))))
noncomputable abbrev aw3:Mi.Env→SO:=(aL3 (ax0 (al5 3) (ixV 12)) (aw5 (al5 3) (ao6 3) (ixV 12)) (mkT (esC (vr 8) (esC (bn ixL (vr 10) (cst (.int 1))) esN))) (liP (vr 11)))
noncomputable abbrev aR9:Mi.Env→SO:=(ifS (liP (tst (bn (eqS false) (bn modI (vr 6) (cst (.int 3))) (cst (.int 2)))))
 (seqS aw4
 aw3)
 af9)
noncomputable abbrev aq5:Mi.Env→SO:=(retS (liP (cst (.bl false))))
noncomputable abbrev aC5:Mi.Env→SO:=(ifS (liP (notT (tst (pc m_n9 (esC (bn ixL (vr 2) (vr 14)) (esC (bn ixL (vr 3) (vr 14)) (esC (bn ixL (vr 4) (vr 14)) (esC (vr 8) (esC (vr 9) (esC (vr 10) esN))))))))))
 aq5
 af9)
noncomputable abbrev aR8:Mi.Env→SO:=(aT2 (liP (bi6 (cst (.int 2)))) (tgN 14)
 aC5)
noncomputable abbrev bD5:Mi.Env→SO:=(seqS aW7
 (seqS aW6
 (seqS aW5
 (seqS aW4
 (seqS aW3
 (seqS aW2
 (seqS aW1
 (seqS aW0
 (seqS aV9
 (seqS aR9
 aR8))))))))))
noncomputable abbrev bv2:Mi.Env→SO:=(aT2 (liP (srcR (cst (.int 1)) (un lenD (vr 0)))) (tgN 5)
 bD5)
noncomputable abbrev bv1:Mi.Env→SO:=(retS (liP (andD (pc m_p9 (esC (bn ixL (vr 2) (cst (.int 0))) (esC (bn ixL (vr 4) (cst (.int 0))) esN))) (pc m_p9 (esC (bn ixL (vr 2) (cst (.int 1))) (esC (bn ixL (vr 4) (cst (.int 1))) esN))))))
noncomputable def bC1:Mi.Env→SO:=(seqS bv7
 (seqS bv6
 (seqS bv5
 (seqS bv4
 (seqS bv3
 (seqS bv2
 bv1))))))
noncomputable def m_i9:List D→Out D:=run 15 bC1
variable {P:Program} {w:World} {K:PySem.W.Frag} {mg:Str→Option Value} {base:Heap} {a:Adr}
theorem bL8 (T:Txt K mg a base):FnOk P w K mg base CX0 1 a.f_a9 a.d_a9 ["self", "size"] (spZ (cmOf a K) bO2 (KR (cmOf a K) .F) m_a9):=by
 obtain ⟨t_MOST_HOUSES,g_MOST_HOUSES⟩:=T.g_MOST_HOUSES
 refine T.F_a9.ok sc_a9 (fun _ _ _ _=>ad1) (fun _ _ _ _ _ _ _ _ hr h=>?_)
 refine ⟨_,(aa1 (ai5 (PW.pt (az6 (ab7 bk2 (pv 1) aa3 (ac9 _)) (ax3 (ab7 bA4 (pv 1) (aA0 rfl g_MOST_HOUSES (v:= .int 60) ⟨_,rfl⟩) (ac9 _))))) (aa5 an5) ac7)
  (aa1 (aD4 (pv 0) (pv 1) rfl)
  (aa1 (aD4 (pv 0) ag7 rfl)
  (aa1 (aD4 (pv 0) ag7 rfl)
  (aa1 (aD4 (pv 0) ag7 rfl)
  (aa5 (aD4 (pv 0) ag7 rfl))))))),?_⟩
 refine ad8 (cm:=cmOf a K) (ms:=bO2) (more:=mo_a9) (body:=bC9) ?_ rfl rfl (fun _ _ _=>rnon) h
 exact (ab3 (s_if (upM (az8 (pt_T (fx (p_op s_lt (fx (fF 1)) (fx pI)))) (pt_T (fx (p_op s_gt (fx (fF 1)) (fx pI)))))) as0 ai3)
  (ab3 (bI6 (c:=0) (i:=0) T.cl_Guild T.n_house_count rfl rfl (upM (fF 1)))
  (ab3 (aP2 (c:=0) (i:=0) T.cl_Guild T.n_ways rfl rfl (upM aE2))
  (ab3 (aP2 (c:=0) (i:=0) T.cl_Guild T.n_likings rfl rfl (upM aE2))
  (ab3 (aP2 (c:=0) (i:=0) T.cl_Guild T.n_shuns rfl rfl (upM aE2))
  (aP2 (c:=0) (i:=0) T.cl_Guild T.n_wish_ranks rfl rfl (upM aE2)))))))
theorem bm9:CompSc (aa9 s_h9) (Gd.bb4 (Gd.bH9 (Gd.nth (ak3 s_h9) 0))) "road" ["self"]:=by constructor <;> first | rfl | decide +kernel
theorem ok_h9 (T:Txt K mg a base):FnOk P w K mg base CX0 1 a.f_h9 a.d_h9 ["self"] (spZ (cmOf a K) bN5 (KO (cmOf a K) (.ct .fz)) m_h9):=by
 refine T.F_h9.ok sc_h9 (fun _ _ _ _=>ad1) (fun _ _ _ _ _ _ _ _ hr h=>?_)
 have hu:=aB0 hr
 refine ⟨_,(aa5 (ae0 (bz6 rfl (bj6 K rfl (ab9 (aU1 rfl) rfl T.z_sorted Gd.aH2 (aa0 (am4 K rfl (pv 0) rfl) aa2))) bm9 (ix:=[0]) rfl (fun _ _ _ _=>bz4) (fun _ _ _ _=>(as5 (aa0 (ad2 (af5 K rfl) rfl T.z_list Gd.an3 (aa0 (pv 0) aa2)) (aa0 (aJ5 hu (am4 K rfl (pv 1) rfl) (pv 0) (fun _ _=>rfl)) aa2))))))),?_⟩
 refine aR0 (cm:=cmOf a K) (ms:=bN5) (more:=mo_h9) (body:=bC2) ?_ rfl rfl h
 exact (ah5 (upM (aP9 (ix:=[0]) (bP4 (oc (bA0 (rc (aZ6 (c:=0) T.cl_Guild T.n_wish_ranks (rc (fR 0))))))) (by decide) bJ2 (aJ7 (ac4 (oF (aP8 (rc (fF 0)))) (ac4 (rS (k:= .X) (ux (aZ7 (rc (aZ6 (c:=0) T.cl_Guild T.n_wish_ranks (rc (fR 1)))) (fx (fF 0))))) ak2))))))
theorem bk3 (T:Txt K mg a base):FnOk P w K mg base CX0 1 a.f_j9 a.d_j9 ["script", "k"] (spZ (cmOf a K) bN3 (KR (cmOf a K) .F) m_j9):=by
 refine T.F_j9.ok sc_j9 (fun _ _ _ _=>ad1) (fun _ _ _ _ _ _ _ _ hr h=>?_)
 refine ⟨_,(aa1 (ai5 (ab7 bk2 (pv 1) (ab9 (ab6 K rfl) rfl T.z_len Gd.ak6 (aa0 (pv 0) aa2)) (ac9 _)) (aa5 (ae0 (ae5 (ab0 K rfl) (pv 0) (pv 1) (fun _ _=>rfl)))) ac7)
  (aa5 (ae0 aa3))),?_⟩
 refine ad8 (cm:=cmOf a K) (ms:=bN3) (more:=mo_j9) (body:=bC0) ?_ rfl rfl (fun _ _ _=>rnon) h
 exact (ab3 (s_if (upM (pt_T (fx (p_op s_lt (fx (fF 1)) (fx (aw7 aw6 (ux (fR 0)))))))) (ah5 (upM (rS (k:= .X) (ux (ai6 (rc (fR 0)) (fx (fF 1))))))) ai3)
  (ah5 (upM pI)))
theorem ok_k9 (T:Txt K mg a base):FnOk P w K mg base CX0 1 a.f_k9 a.d_k9 ["fond", "dear", "road"] (spZ (cmOf a K) bN2 (KR (cmOf a K) .F) m_k9):=by
 refine T.F_k9.ok sc_k9 (fun _ _ _ _=>ad1) (fun _ _ _ _ _ _ _ _ hr h=>?_)
 have hu:=aB0 hr
 refine ⟨_,(aa1 (ai5 (bJ3 (bK5 hu (ad2 (ad7 K rfl) rfl T.z_tuple Gd.al4 (aa0 (pv 2) aa2)) (pv 1))) (aa5 (ae0 (aJ5 hu (pv 1) (ad2 (ad7 K rfl) rfl T.z_tuple Gd.al4 (aa0 (pv 2) aa2)) (fun _ _=>rfl)))) ac7)
  (aa5 (ae0 (aA1 hu (pv 0) (as5 (aa0 (ae5 (ab0 K rfl) (pv 2) aa3 (fun _ _=>rfl)) (aa0 (ae5 (ab0 K rfl) (pv 2) aa3 (fun _ _=>rfl)) aa2))) aa3 ⟨rfl,rfl,rfl,rfl⟩)))),?_⟩
 refine ad8 (cm:=cmOf a K) (ms:=bN2) (more:=mo_k9) (body:=bB9) ?_ rfl rfl (fun _ _ _=>rnon) h
 exact (ab3 (s_if (upM (pt_B (fx (p_din (fx (as8 (rc (fF 2)))) (rc (fR 1)))))) (ah5 (upM (rS (k:= .X) (ux (aZ7 (rc (fR 1)) (fx (as8 (rc (fF 2))))))))) ai3)
  (ah5 (upM (rS (k:= .X) (ux (aJ8 (rc (fR 0)) (fx (aJ7 (ac4 (ai6 (rc (fF 2)) (fx pI)) (ac4 (ai6 (rc (fF 2)) (fx pI)) ak2)))) (fu pI)))))))
theorem ok_l9 (T:Txt K mg a base):FnOk P w K mg base CX0 1 a.f_l9 a.d_l9 ["cell"] (spZ (cmOf a K) bN1 (KR (cmOf a K) .F) m_l9):=by
 refine T.F_l9.ok sc_l9 (fun _ _ _ _=>ad1) (fun _ _ _ _ _ _ _ _ hr h=>?_)
 refine ⟨_,(aa1 (ai5 (ab7 aK0 (ac2 ag3 (pv 0) aa3) aa3 (ac9 _)) (aa5 (ae0 (ac2 ax7 (ac2 ax6 (ac2 ag3 (ac2 ah1 (pv 0) aa3) (ac2 ax6 (ac2 bL1 aa3 (ac2 bq5 aa3 aa3)) aa3)) (ac2 bq5 aa3 aa3)) aa3))) ac7)
  (aa5 (ae0 (ac2 ax6 (ac2 ag3 (ac2 ah1 (pv 0) aa3) aa3) aa3)))),?_⟩
 refine ad8 (cm:=cmOf a K) (ms:=bN1) (more:=mo_l9) (body:=bB8) ?_ rfl rfl (fun _ _ _=>rnon) h
 exact (ab3 (s_if (upM (pt_T (fx (p_op s_eq (fx (p_op am2 (fx (fF 0)) (fx pI))) (fx pI))))) (ah5 (upM (p_op aS2 (fx (p_op aS1 (fx (p_op am2 (fx (p_op al8 (fx (fF 0)) (fx pI))) (fx (p_op aS1 (fx (p_op s_mul (fx pI) (fx (p_op bI5 (fx pI) (fx pI))))) (fx pI))))) (fx (p_op bI5 (fx pI) (fx pI))))) (fx pI)))) ai3)
  (ah5 (upM (p_op aS1 (fx (p_op am2 (fx (p_op al8 (fx (fF 0)) (fx pI))) (fx pI))) (fx pI)))))
theorem bm8:CompSc (aa9 s_m9) (Gd.bb4 (Gd.bH9 (Gd.nth (ak3 s_m9) 0))) "far" ["house"]:=by constructor <;> first | rfl | decide +kernel
theorem ok_m9 (T:Txt K mg a base):FnOk P w K mg base CX0 1 a.f_m9 a.d_m9 ["cell", "house", "size"] (spZ (cmOf a K) bN0 (KO (cmOf a K) (.ct .fz)) m_m9):=by
 refine T.F_m9.ok aC9 (fun _ _ _ _=>ad1) (fun _ _ _ _ _ _ _ _ hr h=>?_)
 refine ⟨_,(aa1 (aS4 (i:=3) rfl aC9.nd rfl (.inl rfl) (aD9 rfl T.z_range (aa0 aa3 (aa0 (pv 2) aa2))) bm8 (ix:=[1]) rfl (fun _ _ _ _=>bz3 (ab7 aJ9 (pv 0) (pv 1) (ac9 _))) (fun _ _ _ _=>(pv 0)))
  (aa1 (ac5 (i:=4) aC9.nd rfl (Or.inl rfl) (as6 (aa0 (pv 1) aa2)))
  (aa1 (ac5 (i:=5) aC9.nd rfl (Or.inl rfl) (ac2 ag3 (pv 0) aa3))
  (aa1 (ai5 (ab7 aK0 (ac2 ag3 (ac2 ah1 (pv 0) aa3) aa3) aa3 (ac9 _)) (aa5 (ac5 (i:=5) aC9.nd rfl (Or.inl rfl) (pv 2))) ac7)
  (aa1 (ac5 (i:=0) aC9.nd rfl (Or.inl rfl) (ac2 ah1 (pv 0) aa3))
  (aa1 (bj4 PassesOwn.never (PW.pt (bJ1 (ab7 bA4 (pv 5) aa3 (ac9 _)) (bz1 (ab7 bA4 (ab9 (ab6 K rfl) rfl T.z_len Gd.ak6 (aa0 (pv 3) aa2)) aa3 (ac9 _))))) (aa1 (ag1 (bK3 PySem.F.plainAttrs_list PySem.F.slot_list_append PySem.F.type_list_append aE3 (pv 4) (aa0 (bK3 PySem.F.plainAttrs_list PySem.F.slot_list_pop PySem.F.type_list_pop bk7 (pv 3) (aa0 (ac2 ag3 (pv 0) (ab9 (ab6 K rfl) rfl T.z_len Gd.ak6 (aa0 (pv 3) aa2))) aa2)) aa2)))
  (aa1 (ac5 (i:=0) aC9.nd rfl (Or.inl rfl) (ac2 ah1 (pv 0) aa3))
  (aa5 (ac5 (i:=5) aC9.nd rfl (Or.inl rfl) (ac2 ax6 (pv 5) aa3))))))
  (aa5 (ae0 (ac2 bL3 (pv 4) (as6 (aa0 aa3 aa2))))))))))),?_⟩
 refine aR0 (cm:=cmOf a K) (ms:=bN0) (more:=mo_m9) (body:=bB7) ?_ rfl rfl h
 exact (ab3 (ax2 (i:=3) (upM (aP9 (ix:=[1]) (i_r2 (fx pI) (fx (fF 2))) (by decide) (pt_T (fx (p_op s_ne (fx (fF 0)) (fx (fF 1))))) (fF 0))) rfl rfl)
  (ab3 (ax2 (i:=4) (upM (bj9 (ac4 (fF 1) ak2))) rfl rfl)
  (ab3 (ad5 (i:=5) (upM (p_op am2 (fx (fF 0)) (fx pI))) rfl rfl)
  (ab3 (s_if (upM (pt_T (fx (p_op s_eq (fx (p_op am2 (fx (p_op al8 (fx (fF 0)) (fx pI))) (fx pI))) (fx pI))))) (ad5 (i:=5) (upM (fF 2)) rfl rfl) ai3)
  (ab3 (ad5 (i:=0) (upM (p_op al8 (fx (fF 0)) (fx pI))) rfl rfl)
  (ab3 (by6 100000 (upM (bJ4 (pt_T (fx (p_op s_gt (fx (fF 5)) (fx pI)))) (pt_T (fx (p_op s_gt (fx (aw7 aw6 (cx (fC 3)))) (fx pI)))))) (ab3 (aj6 (ba6 (i:=4) rfl (bD1 (pthV (i:=3) rfl) (fx (p_op am2 (fx (fF 0)) (fx (aw7 aw6 (cx (fC 3)))))))))
  (ab3 (ad5 (i:=0) (upM (p_op al8 (fx (fF 0)) (fx pI))) rfl rfl)
  (ad5 (i:=5) (upM (p_op aS1 (fx (fF 5)) (fx pI))) rfl rfl))))
  (ah5 (upM (p_cat (fC 4) (oc (bj9 (ac4 pI ak2))))))))))))
theorem bA5 (T:Txt K mg a base):FnOk P w K mg base CX0 1 a.f_o9 a.d_o9 ["found"] (spZ (cmOf a K) bM8 (KR (cmOf a K) .F) m_o9):=by
 refine T.F_o9.ok sc_o9 (fun _ _ _ _=>ad1) (fun _ _ _ _ _ _ _ _ hr h=>?_)
 refine ⟨_,(aa5 (ae0 (aZ4 (ab9 (ak5 K rfl) rfl T.z_isinstance Gd.ae7 (aa0 (pv 0) (aa0 (as7 rfl T.z_int Gd.bS2 (v:= .ty "int") rfl) aa2))) (aZ2 (bJ9 (ab9 (ak5 K rfl) rfl T.z_isinstance Gd.ae7 (aa0 (pv 0) (aa0 (as7 rfl T.z_bool Gd.bG5 (v:= .ty "bool") rfl) aa2)))))))),?_⟩
 refine ad8 (cm:=cmOf a K) (ms:=bM8) (more:=mo_o9) (body:=bB5) ?_ rfl rfl (fun _ _ _=>rnon) h
 exact (ah5 (upM (bA3 (fx (aZ8 aX9 (fx (fF 0)) (fx pT))) (p_not (fx (aZ8 aX9 (fx (fF 0)) (fx pT)))))))
theorem ok_q9 (T:Txt K mg a base):FnOk P w K mg base CX0 1 a.f_q9 a.d_q9 ["houses", "count"] (spZ (cmOf a K) bM6 (KR (cmOf a K) .F) m_q9):=by
 obtain ⟨t_SEAT,g_SEAT⟩:=T.g_SEAT
 refine T.F_q9.ok sc_q9 (fun _ _ _ _=>ad1) (fun _ _ _ _ _ _ _ _ hr h=>?_)
 refine ⟨_,(aa5 (ai5 (PW.pt (az6 (ab7 bk2 (aE1 (aU5 K rfl rfl) rfl T.z_min Gd.bS0 (aa0 (pv 0) aa2) (aZ0 (aA0 rfl g_SEAT (v:= .int 0) ⟨_,rfl⟩) bq2)) aa3 (ac9 _)) (ax3 (ab7 op_ge (aE1 (aU6 K rfl rfl) rfl T.z_max Gd.bS1 (aa0 (pv 0) aa2) (aZ0 (aA0 rfl g_SEAT (v:= .int 0) ⟨_,rfl⟩) bq2)) (pv 1) (ac9 _))))) (aa5 an5) ac7)),?_⟩
 refine ad8 (cm:=cmOf a K) (ms:=bM6) (more:=mo_q9) (body:=bB3) ?_ rfl rfl (fun _ _ _=>rnon) h
 exact (s_if (upM (az8 (pt_T (fx (p_op s_lt (fx (bK7 (ux (fR 0)) (fx pI))) (fx pI)))) (pt_T (fx (p_op s_ge (fx (bK8 (ux (fR 0)) (fx pI))) (fx (fF 1))))))) as0 ai3)
theorem bA6 (T:Txt K mg a base):FnOk P w K mg base CX0 2 a.f_e9 a.d_e9 ["self", "houses"] (spZ (cmOf a K) bN8 (KR (cmOf a K) .F) m_e9):=by
 refine T.F_e9.ok sc_e9 (fun _ _ _ _=>ad1) (fun _ _ _ _ _ _ _ _ hr h=>?_)
 refine ⟨_,(aa5 (ag1 (ae6 (ok_q9 T) hr.mm rfl T.m_q9 T.kp_q9 T.b_q9 .nil ae8 (aa0 (pv 1) (aa0 (am4 K rfl (pv 0) rfl) aa2))))),?_⟩
 refine ad8 (cm:=cmOf a K) (ms:=bN8) (more:=mo_e9) (body:=bC5) ?_ rfl rfl (fun _ _ _=>rnon) h
 exact (aj6 (upM (ao8 (aa8 (aU (fR 1)) (aa8 (aF (rS (k:= .X) (ux (aZ6 (c:=0) T.cl_Guild T.n_house_count (rc (fR 0)))))) ae9)) rfl)))
theorem bL4 (T:Txt K mg a base):FnOk P w K mg base CX0 2 a.f_p9 a.d_p9 ["guild", "dear"] (spZ (cmOf a K) bM7 (KR (cmOf a K) .F) m_p9):=by
 refine T.F_p9.ok aX8 (fun _ _ _ _=>ad1) (fun _ _ _ _ _ _ _ _ hr h=>?_)
 have hu:=aB0 hr
 have hu64:=hr.units
 refine ⟨_,(aa1 (ac5 (i:=2) aX8.nd rfl (Or.inl rfl) (bj7 (pv 0) T.cl_Guild T.me_h9 (ok_h9 T) hr.mm T.b_h9 .nil ae8))
  (aa1 (ac5 (i:=3) aX8.nd rfl (Or.inl rfl) (ab9 (aO3 (K:=K) rfl rfl) rfl T.z_sorted Gd.aH2 (aa0 (ad2 (aU3 rfl) rfl T.z_list Gd.an3 (aa0 (pv 1) aa2)) aa2)))
  (aa1 (ai5 (PW.pt (az6 (ax5 (ax4 (ab9 (ak5 K rfl) rfl T.z_isinstance Gd.ae7 (aa0 (pv 2) (aa0 (as7 rfl T.z_list Gd.an3 (v:= .ty "list") rfl) aa2))))) (ax3 (ab7 aJ9 (ab9 (ab6 K rfl) rfl T.z_len Gd.ak6 (aa0 (pv 2) aa2)) (ab9 (ab6 K rfl) rfl T.z_len Gd.ak6 (aa0 (pv 3) aa2)) (ac9 _))))) (aa5 (ae0 aS5)) ac7)
  (aa1 (aY8 PassesOwn.never rfl (aE0 rfl T.z_range (aa0 (ab9 (ab6 K rfl) rfl T.z_len Gd.ak6 (aa0 (pv 3) aa2)) aa2)) (as4 (i:=4) aX8.nd rfl (Or.inl rfl)) (aa1 (ac5 (i:=5) aX8.nd rfl (Or.inl rfl) (ae5 (ab0 K rfl) (pv 2) (pv 4) (fun _ _=>rfl)))
  (aa1 (ai5 (PW.pt (az6 (ax5 (ax4 (ab9 (ak5 K rfl) rfl T.z_isinstance Gd.ae7 (aa0 (pv 5) (aa0 (as7 rfl T.z_tuple Gd.al4 (v:= .ty "tuple") rfl) aa2))))) (az6 (ab7 aJ9 (ab9 (ab6 K rfl) rfl T.z_len Gd.ak6 (aa0 (pv 5) aa2)) aa3 (ac9 _)) (ax3 (ax5 (ax4 (ab9 (ak5 K rfl) rfl T.z_isinstance Gd.ae7 (aa0 (ae5 (aA6 K rfl) (pv 5) aa3 (fun _ _=>rfl)) (aa0 (as7 rfl T.z_list Gd.an3 (v:= .ty "list") rfl) aa2))))))))) (aa5 (ae0 aS5)) ac7)
  (aa5 (ai5 (PW.pt (az6 (ab7 (aZ9 K rfl hu64) (ae5 (aA6 K rfl) (pv 5) aa3 (fun _ _=>rfl)) (ad2 (af5 K rfl) rfl T.z_list Gd.an3 (aa0 (ae5 (ab0 K rfl) (pv 3) (pv 4) (fun _ _=>rfl)) aa2)) (ac9 _)) (az6 (ax5 (ax4 (ae6 (bA5 T) hr.mm rfl T.m_o9 T.kp_o9 T.b_o9 .nil ae8 (aa0 (ae5 (aA6 K rfl) (pv 5) aa3 (fun _ _=>rfl)) aa2)))) (ax3 (ab7 aJ9 (ae5 (aA6 K rfl) (pv 5) aa3 (fun _ _=>rfl)) (aJ5 hu (pv 1) (ae5 (ab0 K rfl) (pv 3) (pv 4) (fun _ _=>rfl)) (fun _ _=>rfl)) (ac9 _)))))) (aa5 (ae0 aS5)) ac7)))))
  (aa5 (ae0 aS5)))))),?_⟩
 refine ad8 (cm:=cmOf a K) (ms:=bM7) (more:=mo_p9) (body:=bB4) ?_ rfl rfl (fun _ _ _=>rnon) h
 exact (ab3 (ad5 (i:=2) (upM (oF (bJ6 (c:=0) (aU (fR 0)) ae9 rfl))) rfl rfl)
  (ab3 (ad5 (i:=3) (upM (oF (bz9 (oc (bA1 (rc (fR 1))))))) rfl rfl)
  (ab3 (s_if (upM (az8 (ao7 (pt_B (fx (aZ8 aX9 (fx (fF 2)) (fx pT))))) (pt_T (fx (p_op s_ne (fx (aw7 aw6 (fx (fF 2)))) (fx (aw7 aw6 (fx (fF 3))))))))) (ah5 (upM pB)) ai3)
  (ab3 (by7 (upM (i_r1 (fx (aw7 aw6 (fx (fF 3)))))) (.inl rfl) (tgF (i:=4) rfl rfl) (ab3 (ad5 (i:=5) (upM (ai6 (rc (fF 2)) (fx (fF 4)))) rfl rfl)
  (ab3 (s_if (upM (az8 (ao7 (pt_B (fx (aZ8 aX9 (fx (fF 5)) (fx pT))))) (az8 (pt_T (fx (p_op s_ne (fx (aw7 aw6 (fx (fF 5)))) (fx pI)))) (ao7 (pt_B (fx (aZ8 aX9 (fx (bk1 (rc (fF 5)) (fx pI))) (fx pT)))))))) (ah5 (upM pB)) ai3)
  (s_if (upM (az8 (pt_T (fx (p_op bo3 (fx (bk1 (rc (fF 5)) (fx pI))) (fx (oF (aP8 (rc (ai6 (rc (fF 3)) (fx (fF 4)))))))))) (az8 (ao7 (pt_B (fx (ao8 (aa8 (aF (bk1 (rc (fF 5)) (fx pI))) ae9) rfl)))) (pt_T (fx (p_op s_ne (fx (bk1 (rc (fF 5)) (fx pI))) (ux (aZ7 (rc (fR 1)) (fx (ai6 (rc (fF 3)) (fx (fF 4)))))))))))) (ah5 (upM pB)) ai3))))
  (ah5 (upM pB))))))
theorem bL7 (T:Txt K mg a base):FnOk P w K mg base CX0 3 a.f_b9 a.d_b9 ["self", "a", "b", "rank"] (spZ (cmOf a K) bO1 (KR (cmOf a K) .F) m_b9):=by
 refine T.F_b9.ok sc_b9 (fun _ _ _ _=>ad1) (fun _ _ _ _ _ _ _ _ hr h=>?_)
 have hu:=aB0 hr
 refine ⟨_,(aa1 (ag1 (ag2 (pv 0) T.cl_Guild T.me_e9 (bA6 T) hr.mm T.b_e9 .nil ae8 (aa0 (as6 (aa0 (pv 1) (aa0 (pv 2) aa2))) aa2)))
  (aa5 (as3 hu (am4 K rfl (pv 0) rfl) (as5 (aa0 (pv 1) (aa0 (pv 2) aa2))) (pv 3) rfl))),?_⟩
 refine ad8 (cm:=cmOf a K) (ms:=bO1) (more:=mo_b9) (body:=bC8) ?_ rfl rfl (fun _ _ _=>rnon) h
 exact (ab3 (aj6 (upM (aD5 (c:=0) (aX (fO 0)) (aa8 (aF (oF (bj9 (ac4 (fF 1) (ac4 (fF 2) ak2))))) ae9) rfl)))
  (aD1 (pthF (c:=0) (i:=0) T.cl_Guild T.n_likings rfl rfl) (fx (aJ7 (ac4 (fF 1) (ac4 (fF 2) ak2)))) (upM (fF 3))))
theorem bL6 (T:Txt K mg a base):FnOk P w K mg base CX0 3 a.f_c9 a.d_c9 ["self", "a", "b"] (spZ (cmOf a K) bO0 (KR (cmOf a K) .F) m_c9):=by
 refine T.F_c9.ok sc_c9 (fun _ _ _ _=>ad1) (fun _ _ _ _ _ _ _ _ hr h=>?_)
 have hu:=aB0 hr
 refine ⟨_,(aa1 (ag1 (ag2 (pv 0) T.cl_Guild T.me_e9 (bA6 T) hr.mm T.b_e9 .nil ae8 (aa0 (as6 (aa0 (pv 1) (aa0 (pv 2) aa2))) aa2)))
  (aa5 (ae0 (aA1 hu (am4 K rfl (pv 0) rfl) (as5 (aa0 (pv 1) (aa0 (pv 2) aa2))) aa3 ⟨rfl,rfl,rfl,rfl⟩)))),?_⟩
 refine ad8 (cm:=cmOf a K) (ms:=bO0) (more:=mo_c9) (body:=bC7) ?_ rfl rfl (fun _ _ _=>rnon) h
 exact (ab3 (aj6 (upM (aD5 (c:=0) (aU (fR 0)) (aa8 (aF (oF (bj9 (ac4 (fF 1) (ac4 (fF 2) ak2))))) ae9) rfl)))
  (ah5 (upM (rS (k:= .X) (ux (aJ8 (rc (aZ6 (c:=0) T.cl_Guild T.n_likings (rc (fR 0)))) (fx (aJ7 (ac4 (fF 1) (ac4 (fF 2) ak2)))) (fu pI)))))))
theorem bL5 (T:Txt K mg a base):FnOk P w K mg base CX0 3 a.f_f9 a.d_f9 ["self", "road"] (spZ (cmOf a K) bN7 (KR (cmOf a K) .F) m_f9):=by
 obtain ⟨t_SEAT,g_SEAT⟩:=T.g_SEAT
 refine T.F_f9.ok sc_f9 (fun _ _ _ _=>ad1) (fun _ _ _ _ _ _ _ _ hr h=>?_)
 refine ⟨_,(aa1 (ag1 (ag2 (pv 0) T.cl_Guild T.me_e9 (bA6 T) hr.mm T.b_e9 .nil ae8 (aa0 (pv 1) aa2)))
  (aa1 (ai5 (ab7 bk2 (ab9 (ab6 K rfl) rfl T.z_len Gd.ak6 (aa0 (pv 1) aa2)) aa3 (ac9 _)) (aa5 an5) ac7)
  (aa1 (ai5 (ab7 aJ9 (ae5 (ab0 K rfl) (pv 1) (pe_un bH1 aa3) (fun _ _=>rfl)) (aA0 rfl g_SEAT (v:= .int 0) ⟨_,rfl⟩) (ac9 _)) (aa5 an5) ac7)
  (aa5 (ai5 (ab7 aJ9 (ab9 bh5 rfl T.z_len Gd.ak6 (aa0 (ad2 (aU2 K rfl rfl) rfl T.z_set Gd.bR9 (aa0 (pv 1) aa2)) aa2)) (ab9 (ab6 K rfl) rfl T.z_len Gd.ak6 (aa0 (pv 1) aa2)) (ac9 _)) (aa5 an5) ac7))))),?_⟩
 refine ad8 (cm:=cmOf a K) (ms:=bN7) (more:=mo_f9) (body:=bC4) ?_ rfl rfl (fun _ _ _=>rnon) h
 exact (ab3 (aj6 (upM (aD5 (c:=0) (aU (fR 0)) (aa8 (aU (fR 1)) ae9) rfl)))
  (ab3 (s_if (upM (pt_T (fx (p_op s_lt (fx (aw7 aw6 (ux (fR 1)))) (fx pI))))) as0 ai3)
  (ab3 (s_if (upM (pt_T (fx (p_op s_ne (ux (ai6 (rc (fR 1)) (fx (p_un s_neg (fx pI))))) (fx pI))))) as0 ai3)
  (s_if (upM (pt_T (fx (p_op s_ne (fx (bk0 (ux (fR 1)))) (fx (aw7 aw6 (ux (fR 1)))))))) as0 ai3))))
theorem ok_d9 (T:Txt K mg a base):FnOk P w K mg base CX0 4 a.f_d9 a.d_d9 ["self", "road"] (spZ (cmOf a K) bN9 (KR (cmOf a K) .F) m_d9):=by
 refine T.F_d9.ok bI3 (fun _ _ _ _=>ad1) (fun _ _ _ _ _ _ _ _ hr h=>?_)
 have hu:=aB0 hr
 refine ⟨_,(aa1 (ag1 (ag2 (pv 0) T.cl_Guild T.me_f9 (bL5 T) hr.mm T.b_f9 .nil ae8 (aa0 (pv 1) aa2)))
  (aa1 (ac5 (i:=2) bI3.nd rfl (Or.inl rfl) (bj8 hu (am4 K rfl (pv 0) rfl) (ad2 (ad7 K rfl) rfl T.z_tuple Gd.al4 (aa0 (pv 1) aa2)) ⟨rfl,rfl,rfl,rfl⟩))
  (aa1 (ai5 (ab7 bL2 (pv 2) bK0 (ac9 _)) (aa5 (ae0 (ag2 (pv 0) T.cl_Guild T.me_c9 (bL6 T) hr.mm T.b_c9 .nil ae8 (aa0 (ae5 (ab0 K rfl) (pv 1) aa3 (fun _ _=>rfl)) (aa0 (ae5 (ab0 K rfl) (pv 1) aa3 (fun _ _=>rfl)) aa2))))) ac7)
  (aa5 (ae0 (pv 2)))))),?_⟩
 refine ad8 (cm:=cmOf a K) (ms:=bN9) (more:=mo_d9) (body:=bC6) ?_ rfl rfl (fun _ _ _=>rnon) h
 exact (ab3 (aj6 (upM (aD5 (c:=0) (aU (fR 0)) (aa8 (aU (fR 1)) ae9) rfl)))
  (ab3 (ad5 (i:=2) (upM (rS (k:= .X) (ux (bA2 (rc (aZ6 (c:=0) T.cl_Guild T.n_wish_ranks (rc (fR 0)))) (fx (as8 (cS (k':= .F) (rc (fR 1))))))))) rfl rfl)
  (ab3 (s_if (upM (pt_T (fx (p_op s_is (fx (fF 2)) (fx pN))))) (ah5 (upM (aD5 (c:=0) (aU (fR 0)) (aa8 (aF (rS (k:= .X) (ux (ai6 (rc (fR 1)) (fx pI))))) (aa8 (aF (rS (k:= .X) (ux (ai6 (rc (fR 1)) (fx pI))))) ae9)) rfl))) ai3)
  (ah5 (upM (fF 2))))))
theorem ok_g9 (T:Txt K mg a base):FnOk P w K mg base CX0 4 a.f_g9 a.d_g9 ["self", "road", "rank"] (spZ (cmOf a K) bN6 (KR (cmOf a K) .F) m_g9):=by
 refine T.F_g9.ok sc_g9 (fun _ _ _ _=>ad1) (fun _ _ _ _ _ _ _ _ hr h=>?_)
 have hu:=aB0 hr
 refine ⟨_,(aa1 (ag1 (ag2 (pv 0) T.cl_Guild T.me_f9 (bL5 T) hr.mm T.b_f9 .nil ae8 (aa0 (pv 1) aa2)))
  (aa5 (as3 hu (am4 K rfl (pv 0) rfl) (ad2 (ad7 K rfl) rfl T.z_tuple Gd.al4 (aa0 (pv 1) aa2)) (pv 2) rfl))),?_⟩
 refine ad8 (cm:=cmOf a K) (ms:=bN6) (more:=mo_g9) (body:=bC3) ?_ rfl rfl (fun _ _ _=>rnon) h
 exact (ab3 (aj6 (upM (aD5 (c:=0) (aX (fO 0)) (aa8 (aU (fR 1)) ae9) rfl)))
  (aD1 (pthF (c:=0) (i:=0) T.cl_Guild T.n_wish_ranks rfl rfl) (fx (as8 (cS (k':= .F) (rc (fR 1))))) (upM (fF 2))))
theorem ok_n9 (T:Txt K mg a base):FnOk P w K mg base CX0 5 a.f_n9 a.d_n9 ["guild", "fond", "dear", "a", "b", "road"] (spZ (cmOf a K) bM9 (KR (cmOf a K) .F) m_n9):=by
 refine T.F_n9.ok bi9 (fun _ _ _ _=>ad1) (fun _ _ _ _ _ _ _ _ hr h=>?_)
 have hu:=aB0 hr
 have hu64:=hr.units
 refine ⟨_,(aa1 (ac5 (i:=6) bi9.nd rfl (Or.inl rfl) (ad2 (af5 K rfl) rfl T.z_list Gd.an3 (aa0 (pv 5) aa2)))
  (aa1 (ac5 (i:=7) bi9.nd rfl (Or.inl rfl) (ag2 (pv 0) T.cl_Guild T.me_d9 (ok_d9 T) hr.mm T.b_d9 .nil ae8 (aa0 (pv 5) aa2)))
  (aa1 (ai5 (PW.pt (az6 (ax5 (ax4 (ae6 (bA5 T) hr.mm rfl T.m_o9 T.kp_o9 T.b_o9 .nil ae8 (aa0 (pv 7) aa2)))) (az6 (ab7 aJ9 (pv 7) (ae6 (ok_k9 T) hr.mm rfl T.m_k9 T.kp_k9 T.b_k9 .nil ae8 (aa0 (pv 1) (aa0 (pv 2) (aa0 (pv 6) aa2)))) (ac9 _)) (ax3 (ab7 (aZ9 K rfl hu64) (pv 5) (pv 6) (ac9 _)))))) (aa5 (ae0 aS5)) ac7)
  (aa1 (ac5 (i:=7) bi9.nd rfl (Or.inl rfl) (ag2 (pv 0) T.cl_Guild T.me_c9 (bL6 T) hr.mm T.b_c9 .nil ae8 (aa0 (pv 3) (aa0 (pv 4) aa2))))
  (aa5 (ae0 (aZ4 (ae6 (bA5 T) hr.mm rfl T.m_o9 T.kp_o9 T.b_o9 .nil ae8 (aa0 (pv 7) aa2)) (aZ2 (bz7 aK0 (pv 7) (aA1 hu (pv 1) (as5 (aa0 (pv 3) (aa0 (pv 4) aa2))) aa3 ⟨rfl,rfl,rfl,rfl⟩) (ac9 _)))))))))),?_⟩
 refine ad8 (cm:=cmOf a K) (ms:=bM9) (more:=mo_n9) (body:=bB6) ?_ rfl rfl (fun _ _ _=>rnon) h
 exact (ab3 (ad5 (i:=6) (upM (oF (aP8 (rc (fF 5))))) rfl rfl)
  (ab3 (ad5 (i:=7) (upM (aD5 (c:=0) (aU (fR 0)) (aa8 (aF (fF 5)) ae9) rfl)) rfl rfl)
  (ab3 (s_if (upM (az8 (ao7 (pt_B (fx (ao8 (aa8 (aF (fF 7)) ae9) rfl)))) (az8 (pt_T (fx (p_op s_ne (fx (fF 7)) (fx (ao8 (aa8 (aU (fR 1)) (aa8 (aU (fR 2)) (aa8 (aF (fF 6)) ae9))) rfl))))) (pt_T (fx (p_op bo3 (fx (fF 5)) (fx (fF 6)))))))) (ah5 (upM pB)) ai3)
  (ab3 (ad5 (i:=7) (upM (aD5 (c:=0) (aU (fR 0)) (aa8 (aF (fF 3)) (aa8 (aF (fF 4)) ae9)) rfl)) rfl rfl)
  (ah5 (upM (bA3 (fx (ao8 (aa8 (aF (fF 7)) ae9) rfl)) (p_op s_eq (fx (fF 7)) (ux (aJ8 (rc (fR 1)) (fx (aJ7 (ac4 (fF 3) (ac4 (fF 4) ak2)))) (fu pI)))))))))))
theorem ok_i9 (T:Txt K mg a base):FnOk P w K mg base CX0 6 a.f_i9 a.d_i9 ["script"] (spZ (cmOf a K) bN4 (KR (cmOf a K) .F) m_i9):=by
 refine T.F_i9.ok al6 (fun _ _ _ _=>ad1) (fun _ _ _ _ _ _ _ _ hr h=>?_)
 have hu:=aB0 hr
 refine ⟨_,(aa1 (ac5 (i:=1) al6.nd rfl (Or.inl rfl) (ac2 ax7 aa3 (ac2 ag3 (ae6 (bk3 T) hr.mm rfl T.m_j9 T.kp_j9 T.b_j9 .nil ae8 (aa0 (pv 0) (aa0 aa3 aa2))) aa3)))
  (aa1 (ai5 (ab7 aK0 (ac2 ag3 (ac2 ah1 (ae6 (bk3 T) hr.mm rfl T.m_j9 T.kp_j9 T.b_j9 .nil ae8 (aa0 (pv 0) (aa0 aa3 aa2))) aa3) aa3) aa3 (ac9 _)) (aa5 (ac5 (i:=1) al6.nd rfl (Or.inl rfl) (ac2 ax7 aa3 (ac2 ag3 (ac2 ah1 (ae6 (bk3 T) hr.mm rfl T.m_j9 T.kp_j9 T.b_j9 .nil ae8 (aa0 (pv 0) (aa0 aa3 aa2))) aa3) aa3)))) ac7)
  (aa1 (ac5 (i:=2) al6.nd rfl (Or.inl rfl) (as6 (aa0 (aZ3 T.mk_Guild (bL8 T) hr.mm rfl T.mgC_Guild T.b_a9 .nil ae8 (aa0 (pv 1) aa2)) (aa0 (aZ3 T.mk_Guild (bL8 T) hr.mm rfl T.mgC_Guild T.b_a9 .nil ae8 (aa0 (pv 1) aa2)) aa2))))
  (aa1 (ac5 (i:=3) al6.nd rfl (Or.inl rfl) (as6 (aa0 ag7 (aa0 ag7 aa2))))
  (aa1 (ac5 (i:=4) al6.nd rfl (Or.inl rfl) (as6 (aa0 ag7 (aa0 ag7 aa2))))
  (aa1 (aY8 PassesOwn.never rfl (aD9 rfl T.z_range (aa0 aa3 (aa0 (ab9 (ab6 K rfl) rfl T.z_len Gd.ak6 (aa0 (pv 0) aa2)) aa2))) (as4 (i:=5) al6.nd rfl (Or.inl rfl)) (aa1 (ac5 (i:=6) al6.nd rfl (Or.inl rfl) (ae5 (ab0 K rfl) (pv 0) (pv 5) (fun _ _=>rfl)))
  (aa1 (ac5 (i:=7) al6.nd rfl (Or.inl rfl) (ae6 (bk3 T) hr.mm rfl T.m_j9 T.kp_j9 T.b_j9 .nil ae8 (aa0 (pv 0) (aa0 (ac2 ax7 (pv 5) aa3) aa2))))
  (aa1 (ac5 (i:=8) al6.nd rfl (Or.inl rfl) (ac2 ax7 aa3 (ac2 ag3 (ac2 ah1 (pv 6) aa3) (ac2 ax6 (pv 1) aa3))))
  (aa1 (ac5 (i:=9) al6.nd rfl (Or.inl rfl) (ac2 ag3 (ac2 ah1 (ac2 ah1 (pv 6) aa3) (ac2 ax6 (pv 1) aa3)) (pv 1)))
  (aa1 (ac5 (i:=10) al6.nd rfl (Or.inl rfl) (ae6 (ok_m9 T) hr.mm rfl T.m_m9 T.kp_m9 T.b_m9 .nil ae8 (aa0 (pv 7) (aa0 (pv 8) (aa0 (pv 1) aa2)))))
  (aa1 (ac5 (i:=11) al6.nd rfl (Or.inl rfl) (ae6 (ok_l9 T) hr.mm rfl T.m_l9 T.kp_l9 T.b_l9 .nil ae8 (aa0 (ac2 ax7 (pv 7) (pv 6)) aa2)))
  (aa1 (ac5 (i:=12) al6.nd rfl (Or.inl rfl) (ac2 ag3 (pv 5) aa3))
  (aa1 (ai5 (ab7 aK0 (ac2 ag3 (pv 6) aa3) aa3 (ac9 _)) (aa1 (ag1 (ag2 (ae5 (ab0 K rfl) (pv 2) (pv 12) (fun _ _=>rfl)) T.cl_Guild T.me_b9 (bL7 T) hr.mm T.b_b9 .nil ae8 (aa0 (pv 8) (aa0 (pv 9) (aa0 (pv 11) aa2)))))
  (aa5 (as3 hu (ae5 (ab0 K rfl) (pv 3) (pv 12) (fun _ _=>rfl)) (as5 (aa0 (pv 8) (aa0 (pv 9) aa2))) (pv 11) rfl))) ac7)
  (aa1 (ai5 (ab7 aK0 (ac2 ag3 (pv 6) aa3) aa3 (ac9 _)) (aa1 (ac5 (i:=13) al6.nd rfl (Or.inl rfl) (ad2 (af5 K rfl) rfl T.z_list Gd.an3 (aa0 (pv 10) aa2)))
  (aa1 (ag1 (ag2 (ae5 (ab0 K rfl) (pv 2) (pv 12) (fun _ _=>rfl)) T.cl_Guild T.me_g9 (ok_g9 T) hr.mm T.b_g9 .nil ae8 (aa0 (pv 13) (aa0 (pv 11) aa2))))
  (aa1 (ag1 (bK2 PySem.F.plainAttrs_list PySem.F.slot_list_reverse PySem.F.type_list_reverse aS9 (pv 13)))
  (aa5 (as3 hu (ae5 (ab0 K rfl) (pv 4) (pv 12) (fun _ _=>rfl)) (ad2 (ad7 K rfl) rfl T.z_tuple Gd.al4 (aa0 (pv 10) aa2)) (pv 11) rfl))))) ac7)
  (aa1 (ai5 (ab7 aK0 (ac2 ag3 (pv 6) aa3) aa3 (ac9 _)) (aa1 (ag1 (ag2 (ae5 (ab0 K rfl) (pv 2) (pv 12) (fun _ _=>rfl)) T.cl_Guild T.me_b9 (bL7 T) hr.mm T.b_b9 .nil ae8 (aa0 (pv 8) (aa0 (ae5 (ab0 K rfl) (pv 10) aa3 (fun _ _=>rfl)) (aa0 (pv 11) aa2)))))
  (aa5 (as3 hu (ae5 (ab0 K rfl) (pv 3) (pv 12) (fun _ _=>rfl)) (as5 (aa0 (pv 8) (aa0 (ae5 (ab0 K rfl) (pv 10) aa3 (fun _ _=>rfl)) aa2))) (pv 11) rfl))) ac7)
  (aa5 (aY8 PassesOwn.never rfl (aE0 rfl T.z_range (aa0 aa3 aa2)) (as4 (i:=14) al6.nd rfl (Or.inl rfl)) (aa5 (ai5 (ax5 (ax4 (ae6 (ok_n9 T) hr.mm rfl T.m_n9 T.kp_n9 T.b_n9 .nil ae8 (aa0 (ae5 (ab0 K rfl) (pv 2) (pv 14) (fun _ _=>rfl)) (aa0 (ae5 (ab0 K rfl) (pv 3) (pv 14) (fun _ _=>rfl)) (aa0 (ae5 (ab0 K rfl) (pv 4) (pv 14) (fun _ _=>rfl)) (aa0 (pv 8) (aa0 (pv 9) (aa0 (pv 10) aa2))))))))) (aa5 (ae0 aS5)) ac7)))))))))))))))
  (aa5 (ae0 (aZ4 (ae6 (bL4 T) hr.mm rfl T.m_p9 T.kp_p9 T.b_p9 .nil ae8 (aa0 (ae5 (ab0 K rfl) (pv 2) aa3 (fun _ _=>rfl)) (aa0 (ae5 (ab0 K rfl) (pv 4) aa3 (fun _ _=>rfl)) aa2))) (aZ2 (ae6 (bL4 T) hr.mm rfl T.m_p9 T.kp_p9 T.b_p9 .nil ae8 (aa0 (ae5 (ab0 K rfl) (pv 2) aa3 (fun _ _=>rfl)) (aa0 (ae5 (ab0 K rfl) (pv 4) aa3 (fun _ _=>rfl)) aa2))))))))))))),?_⟩
 refine ad8 (cm:=cmOf a K) (ms:=bN4) (more:=mo_i9) (body:=bC1) ?_ rfl rfl (fun _ _ _=>rnon) h
 exact (ab3 (ad5 (i:=1) (upM (p_op aS2 (fx pI) (fx (p_op am2 (fx (ao8 (aa8 (aU (fR 0)) (aa8 (aF pI) ae9)) rfl)) (fx pI))))) rfl rfl)
  (ab3 (s_if (upM (pt_T (fx (p_op s_eq (fx (p_op am2 (fx (p_op al8 (fx (ao8 (aa8 (aU (fR 0)) (aa8 (aF pI) ae9)) rfl)) (fx pI))) (fx pI))) (fx pI))))) (ad5 (i:=1) (upM (p_op aS2 (fx pI) (fx (p_op am2 (fx (p_op al8 (fx (ao8 (aa8 (aU (fR 0)) (aa8 (aF pI) ae9)) rfl)) (fx pI))) (fx pI))))) rfl rfl) ai3)
  (ab3 (ax2 (i:=2) (upM (aZ5 (ak8 (bJ7 (c:=0) (aa8 (aF (fF 1)) ae9) rfl) (ak8 (bJ7 (c:=0) (aa8 (aF (fF 1)) ae9) rfl) aK1)))) rfl rfl)
  (ab3 (ax2 (i:=3) (upM (aZ5 (ak8 aE2 (ak8 aE2 aK1)))) rfl rfl)
  (ab3 (ax2 (i:=4) (upM (aZ5 (ak8 aE2 (ak8 aE2 aK1)))) rfl rfl)
  (ab3 (by7 (upM (i_r2 (fx pI) (fx (aw7 aw6 (ux (fR 0)))))) (.inl rfl) (tgF (i:=5) rfl rfl) (ab3 (ad5 (i:=6) (upM (rS (k:= .X) (ux (ai6 (rc (fR 0)) (fx (fF 5)))))) rfl rfl)
  (ab3 (ad5 (i:=7) (upM (ao8 (aa8 (aU (fR 0)) (aa8 (aF (p_op aS2 (fx (fF 5)) (fx pI))) ae9)) rfl)) rfl rfl)
  (ab3 (ad5 (i:=8) (upM (p_op aS2 (fx pI) (fx (p_op am2 (fx (p_op al8 (fx (fF 6)) (fx pI))) (fx (p_op aS1 (fx (fF 1)) (fx pI))))))) rfl rfl)
  (ab3 (ad5 (i:=9) (upM (p_op am2 (fx (p_op al8 (fx (p_op al8 (fx (fF 6)) (fx pI))) (fx (p_op aS1 (fx (fF 1)) (fx pI))))) (fx (fF 1)))) rfl rfl)
  (ab3 (ad5 (i:=10) (upM (oF (bK4 (aa8 (aF (fF 7)) (aa8 (aF (fF 8)) (aa8 (aF (fF 1)) ae9))) rfl))) rfl rfl)
  (ab3 (ad5 (i:=11) (upM (ao8 (aa8 (aF (p_op aS2 (fx (fF 7)) (fx (fF 6)))) ae9) rfl)) rfl rfl)
  (ab3 (ad5 (i:=12) (upM (p_op am2 (fx (fF 5)) (fx pI))) rfl rfl)
  (ab3 (s_if (upM (pt_T (fx (p_op s_eq (fx (p_op am2 (fx (fF 6)) (fx pI))) (fx pI))))) (ab3 (aj6 (aK3 (c:=0) (prtI (prtV (i:=2) rfl) (ay1 (j:=12))) (aa8 (aF (fF 8)) (aa8 (aF (fF 9)) (aa8 (aF (fF 11)) ae9))) ⟨trivial,trivial,trivial,trivial⟩ rfl (by decide)))
  (aD1 (pthP (prtI (prtV (i:=3) rfl) (ay1 (j:=12)))) (fx (aJ7 (ac4 (fF 8) (ac4 (fF 9) ak2)))) (upM (fF 11)))) ai3)
  (ab3 (s_if (upM (pt_T (fx (p_op s_eq (fx (p_op am2 (fx (fF 6)) (fx pI))) (fx pI))))) (ab3 (ax2 (i:=13) (upM (aP8 (rc (fF 10)))) rfl rfl)
  (ab3 (aj6 (aK3 (c:=0) (prtI (prtV (i:=2) rfl) (ay1 (j:=12))) (aa8 (aB (i:=13)) (aa8 (aF (fF 11)) ae9)) ⟨trivial,trivial,trivial⟩ rfl (by decide)))
  (ab3 (aj6 (ba5 (pthV (i:=13) rfl)))
  (aD1 (pthP (prtI (prtV (i:=4) rfl) (ay1 (j:=12)))) (fx (as8 (rc (fF 10)))) (upM (fF 11)))))) ai3)
  (ab3 (s_if (upM (pt_T (fx (p_op s_eq (fx (p_op am2 (fx (fF 6)) (fx pI))) (fx pI))))) (ab3 (aj6 (aK3 (c:=0) (prtI (prtV (i:=2) rfl) (ay1 (j:=12))) (aa8 (aF (fF 8)) (aa8 (aF (ai6 (rc (fF 10)) (fx pI))) (aa8 (aF (fF 11)) ae9))) ⟨trivial,trivial,trivial,trivial⟩ rfl (by decide)))
  (aD1 (pthP (prtI (prtV (i:=3) rfl) (ay1 (j:=12)))) (fx (aJ7 (ac4 (fF 8) (ac4 (ai6 (rc (fF 10)) (fx pI)) ak2)))) (upM (fF 11)))) ai3)
  (by7 (upM (i_r1 (fx pI))) (.inl rfl) (tgF (i:=14) rfl rfl) (s_if (upM (ao7 (pt_B (fx (ao8 (aa8 (aX (ai6 (rc (fO 2)) (fx (fF 14)))) (aa8 (aX (ai6 (rc (fO 3)) (fx (fF 14)))) (aa8 (aX (ai6 (rc (fO 4)) (fx (fF 14)))) (aa8 (aF (fF 8)) (aa8 (aF (fF 9)) (aa8 (aF (fF 10)) ae9)))))) rfl))))) (ah5 (upM pB)) ai3)))))))))))))
  (ah5 (upM (bA3 (fx (ao8 (aa8 (aX (ai6 (rc (fO 2)) (fx pI))) (aa8 (aX (ai6 (rc (fO 4)) (fx pI))) ae9)) rfl)) (ao8 (aa8 (aX (ai6 (rc (fO 2)) (fx pI))) (aa8 (aX (ai6 (rc (fO 4)) (fx pI))) ae9)) rfl))))))))))
end K02
namespace K02
open PySem L2 Mi Cl
noncomputable section
structure GuildT where
 house_count:Int
 ways:(DI Bool)
 likings:(DI Int)
 shuns:(DI Bool)
 wish_ranks:(DI Int)
noncomputable def ad3:GuildT→D:=fun g=> .obj 0 ["house_count", "ways", "likings", "shuns", "wish_ranks"] [D.int g.house_count,(encD D.bl) g.ways,(encD D.int) g.likings,(encD D.bl) g.shuns,(encD D.int) g.wish_ranks]
theorem al7 (g:GuildT):SimR D.int (fldD 0 "house_count" (ad3 g)) (.ok g.house_count):=rfl
theorem aq6 (g:GuildT):SimR (encD D.int) (fldD 0 "likings" (ad3 g)) (.ok g.likings):=rfl
theorem am5 (g:GuildT):SimR (encD D.int) (fldD 0 "wish_ranks" (ad3 g)) (.ok g.wish_ranks):=rfl
noncomputable def mk_Guild (size:Int):Res GuildT:=if 1≤size∧size≤60 then .ok ⟨size,[],[],[],[]⟩ else .bad
theorem ao0 (size:Int):SimR ad3 (aE5 0 m_a9 [.int size]) (mk_Guild size):=by
 unfold mk_Guild
 by_cases h:1≤size∧size≤60
 · rw [if_pos h]
   have h1:¬ size < 1:=by omega
   have h2:¬ 60 < size:=by omega
   show aE5 0 m_a9 [.int size]=_
   unfold aE5 m_a9 Mi.run
   rw [bk9]
   simp [seqS,ifS,liP,orT,tst,bn,cst,rg,truB,h1,h2,af9,fldS,bj3,hasK,sc1,ac6]
   rfl
 · rw [if_neg h]; trivial
structure S_h9 where
 v26q:GuildT
noncomputable def bp4:S_h9→Mi.Env:=fun s=>[some (ad3 s.v26q)]
noncomputable abbrev Y_h9:=S_h9→FlC S_h9 (List ((List Int)×Int))
noncomputable def bf9:Y_h9:=(retC (upC (aG9 (unC aX6 (unC (fun g=> .ok g.wish_ranks) (pC fun p=>p.v26q))) (fun _=> .ok true) (prC (unC idC (pC fun p=>p.1)) (bnC dgC (unC (fun g=> .ok g.wish_ranks) (pC fun p=>p.2.v26q)) (pC fun p=>p.1))))))
noncomputable def bF8:Y_h9:=bf9
noncomputable def C_h9 (a_self:GuildT):OutC S_h9 (List ((List Int)×Int)):=runC none (bF8 ⟨a_self⟩)
theorem ct_h9:Cl.TJ bp4 (eL (eT2 (eL D.int) D.int)) bC2 bF8:=(ad9 (aa7 (bd3 (bE3 (ae3 bA8 (ae3 am5 xp))) bQ0 (an1 (ae3 ba3 xp) (am1 (fun _=>rfl) (aa4 ba4 (ae3 am5 xp) xp))))))
theorem cf_h9 (a_self:GuildT):SimO bp4 (eL (eT2 (eL D.int) D.int)) (m_h9 [ad3 a_self]) (C_h9 a_self):=br3 ct_h9 rfl
structure S_j9 where
 v25q:(List Int)
 v17q:Int
noncomputable def bp2:S_j9→Mi.Env:=fun s=>[some (eS s.v25q),some (D.int s.v17q)]
noncomputable abbrev Y_j9:=S_j9→FlC S_j9 Int
noncomputable def av1:Y_j9:=(retC (upC (bnC ixC (pC fun p=>p.v25q) (pC fun p=>p.v17q))))
noncomputable def bf7:Y_j9:=(ifC (upC (bnC ltC (pC fun p=>p.v17q) (unC lenC (pC fun p=>p.v25q))))
 av1
 ai1)
noncomputable def bf6:Y_j9:=(retC (upC (kC (0:Int))))
noncomputable def bF6:Y_j9:=(seqC bf7
 bf6)
noncomputable def C_j9 (a_script:(List Int)) (a_k:Int):OutC S_j9 Int:=runC none (bF6 ⟨a_script,a_k⟩)
theorem ct_j9:Cl.TJ bp2 D.int bC0 bF6:=(aa6 (aj4 (aa7 (ac0 (aa4 o_lt xp (ae3 bq7 xp))))
 (ad9 (aa7 (am1 (fun _=>rfl) (aa4 bM2 xp xp))))
 ad0)
 (ad9 (aa7 xk)))
theorem bn1 (a_script:(List Int)) (a_k:Int):SimO bp2 D.int (m_j9 [eS a_script,D.int a_k]) (C_j9 a_script a_k):=ao3 ct_j9 rfl
structure S_k9 where
 v8q:(DI Int)
 v5q:(DI Int)
 v24q:(List Int)
noncomputable def bp1:S_k9→Mi.Env:=fun s=>[some ((encD D.int) s.v8q),some ((encD D.int) s.v5q),some ((eL D.int) s.v24q)]
noncomputable abbrev Y_k9:=S_k9→FlC S_k9 Int
noncomputable def av0:Y_k9:=(retC (upC (bnC dgC (pC fun p=>p.v5q) (unC idC (pC fun p=>p.v24q)))))
noncomputable def aN0:Y_k9:=(ifC (upC (bnC (dinC false) (unC idC (pC fun p=>p.v24q)) (pC fun p=>p.v5q)))
 av0
 ai1)
noncomputable def bf5:Y_k9:=(retC (upC (bm1 (pC fun p=>p.v8q) (unC aJ6 (prC (bnC ixC (pC fun p=>p.v24q) (kC (0:Int))) (bnC ixC (pC fun p=>p.v24q) (kC (1:Int))))) (kC (0:Int)))))
noncomputable def bF5:Y_k9:=(seqC aN0
 bf5)
noncomputable def C_k9 (a_fond:(DI Int)) (a_dear:(DI Int)) (a_road:(List Int)):OutC S_k9 Int:=runC none (bF5 ⟨a_fond,a_dear,a_road⟩)
theorem ct_k9:Cl.TJ bp1 D.int bB9 bF5:=(aa6 (aj4 (aa7 (ac0 (aa4 (o_din false) (ae3 ba1 xp) xp)))
 (ad9 (aa7 (am1 (fun _=>rfl) (aa4 ba4 xp (ae3 ba1 xp)))))
 ad0)
 (ad9 (aa7 (am1 (fun _=>rfl) (aL1 xp (aT7 ap7 (an1 (aa4 aj8 xp xk) (aa4 aj8 xp xk))) xk)))))
theorem cf_k9 (a_fond:(DI Int)) (a_dear:(DI Int)) (a_road:(List Int)):SimO bp1 D.int (m_k9 [(encD D.int) a_fond,(encD D.int) a_dear,(eL D.int) a_road]) (C_k9 a_fond a_dear a_road):=ao3 ct_k9 rfl
structure S_l9 where
 v3q:Int
noncomputable def bp0:S_l9→Mi.Env:=fun s=>[some (D.int s.v3q)]
noncomputable abbrev Y_l9:=S_l9→FlC S_l9 Int
noncomputable def au9:Y_l9:=(retC (upC (bnC addC (bnC subC (bnC modC (bnC au2 (pC fun p=>p.v3q) (kC (4:Int))) (bnC subC (bnC mulC (kC (2:Int)) (bnC powC (kC (10:Int)) (kC (60:Int)))) (kC (1:Int)))) (bnC powC (kC (10:Int)) (kC (60:Int)))) (kC (1:Int)))))
noncomputable def aM9:Y_l9:=(ifC (upC (bnC (eqC false) (bnC modC (pC fun p=>p.v3q) (kC (4:Int))) (kC (1:Int))))
 au9
 ai1)
noncomputable def bf4:Y_l9:=(retC (upC (bnC subC (bnC modC (bnC au2 (pC fun p=>p.v3q) (kC (4:Int))) (kC (7:Int))) (kC (3:Int)))))
noncomputable def bn2:Y_l9:=(seqC aM9
 bf4)
noncomputable def C_l9 (a_cell:Int):OutC S_l9 Int:=runC none (bn2 ⟨a_cell⟩)
theorem ct_l9:Cl.TJ bp0 D.int bB8 bn2:=(aa6 (aj4 (aa7 (ac0 (aa4 (an6 false) (aa4 am6 xp xk) xk)))
 (ad9 (aa7 (aa4 aS7 (aa4 aS6 (aa4 am6 (aa4 al9 xp xk) (aa4 aS6 (aa4 o_mul xk (aa4 bL9 xk xk)) xk)) (aa4 bL9 xk xk)) xk)))
 ad0)
 (ad9 (aa7 (aa4 aS6 (aa4 am6 (aa4 al9 xp xk) xk) xk))))
theorem cf_l9 (a_cell:Int):SimO bp0 D.int (m_l9 [D.int a_cell]) (C_l9 a_cell):=ao3 ct_l9 rfl
structure S_m9 where
 v3q:Int
 v14q:Int
 v27q:Int
 v23q:Option (List Int)
 v24q:Option (List Int)
 v19q:Option Int
noncomputable def bo9:S_m9→Mi.Env:=fun s=>[some (D.int s.v3q),some (D.int s.v14q),some (D.int s.v27q),s.v23q.map (eL D.int),s.v24q.map (eL D.int),s.v19q.map D.int]
noncomputable abbrev Y_m9:=S_m9→FlC S_m9 (List Int)
noncomputable def aM8:Y_m9:=(setC (fun a s=>{ s with v23q:=some a }) (upC (aG9 (bnC rngC (kC (1:Int)) (pC fun p=>p.v27q)) (bnC (eqC true) (pC fun p=>p.1) (pC fun p=>p.2.v14q)) (pC fun p=>p.1))))
noncomputable def aM7:Y_m9:=(setC (fun a s=>{ s with v24q:=some a }) (upC (mkC (ap6 (pC fun p=>p.v14q) (nilC:_→Res (List Int))))))
noncomputable def aM6:Y_m9:=(setC (fun a s=>{ s with v19q:=some a }) (upC (bnC modC (pC fun p=>p.v3q) (kC (4:Int)))))
noncomputable def au8:Y_m9:=(setC (fun a s=>{ s with v19q:=some a }) (upC (pC fun p=>p.v27q)))
noncomputable def aM5:Y_m9:=(ifC (upC (bnC (eqC false) (bnC modC (bnC au2 (pC fun p=>p.v3q) (kC (4:Int))) (kC (8:Int))) (kC (3:Int))))
 au8
 ai1)
noncomputable def aM4:Y_m9:=(setC (fun a s=>{ s with v3q:=a }) (upC (bnC au2 (pC fun p=>p.v3q) (kC (4:Int)))))
noncomputable def aG7:Y_m9:=(ar0 (apMC (fun s=>s.v24q) (fun s y=>{ s with v24q:=some y }) (l1C (fun s=>s.v23q) (fun s y=>{ s with v23q:=some y }) popC (bnC modC (pC fun p=>p.v3q) (unC lenC (vC fun p=>p.v23q))))))
noncomputable def aG6:Y_m9:=(setC (fun a s=>{ s with v3q:=a }) (upC (bnC au2 (pC fun p=>p.v3q) (kC (5:Int)))))
noncomputable def aG5:Y_m9:=(setC (fun a s=>{ s with v19q:=some a }) (upC (bnC subC (vC fun p=>p.v19q) (kC (1:Int)))))
noncomputable def aO1:Y_m9:=(seqC aG7
 (seqC aG6
 aG5))
noncomputable def bf3:Y_m9:=(whC (upC (andC (bnC gtC (vC fun p=>p.v19q) (kC (0:Int))) (bnC gtC (unC lenC (vC fun p=>p.v23q)) (kC (0:Int)))))
 aO1 100000)
noncomputable def bf2:Y_m9:=(retC (upC (bnC catC (vC fun p=>p.v24q) (mkC (ap6 (kC (0:Int)) (nilC:_→Res (List Int)))))))
noncomputable def bF4:Y_m9:=(seqC aM8
 (seqC aM7
 (seqC aM6
 (seqC aM5
 (seqC aM4
 (seqC bf3
 bf2))))))
noncomputable def C_m9 (a_cell:Int) (a_house:Int) (a_size:Int):OutC S_m9 (List Int):=runC none (bF4 ⟨a_cell,a_house,a_size,none,none,none⟩)
theorem ct_m9:Cl.TJ bo9 (eL D.int) bB7 bF4:=(aa6 (xs (aa7 (bd3 (bd2 xk xp) (ac0 (aa4 (an6 true) xp xp)) xp)))
 (aa6 (xs (aa7 (au5 (af4 xp au4))))
 (aa6 (xs (aa7 (aa4 am6 xp xk)))
 (aa6 (aj4 (aa7 (ac0 (aa4 (an6 false) (aa4 am6 (aa4 al9 xp xk) xk) xk)))
 (xs (aa7 xp))
 ad0)
 (aa6 (xs (aa7 (aa4 al9 xp xk)))
 (aa6 (bs3 (aa7 (bE5 (ac0 (aa4 o_gt xv xk)) (ac0 (aa4 o_gt (ae3 as9 xv) xk))))
 (aa6 (af8 (bM4 (fun _=>rfl) (fun _ _=>rfl) (nj_l1 (fun _=>rfl) (fun _ _=>rfl) f_pop (aa4 am6 xp (ae3 as9 xv)))))
 (aa6 (xs (aa7 (aa4 al9 xp xk)))
 (xs (aa7 (aa4 aS6 xv xk))))) 100000)
 (ad9 (aa7 (aa4 o_cat xv (au5 (af4 xk au4)))))))))))
theorem cf_m9 (a_cell:Int) (a_house:Int) (a_size:Int):SimO bo9 (eL D.int) (m_m9 [D.int a_cell,D.int a_house,D.int a_size]) (C_m9 a_cell a_house a_size):=br3 ct_m9 rfl
structure S_o9 where
 v10q:Int
noncomputable def bo7:S_o9→Mi.Env:=fun s=>[some (D.int s.v10q)]
noncomputable abbrev Y_o9:=S_o9→FlC S_o9 Bool
noncomputable def be6:Y_o9:=(retC (upC (andC (unC (cbC true) (pC fun p=>p.v10q)) (unC notC (unC (cbC false) (pC fun p=>p.v10q))))))
noncomputable def bF2:Y_o9:=be6
noncomputable def C_o9 (a_found:Int):OutC S_o9 Bool:=runC none (bF2 ⟨a_found⟩)
theorem ct_o9:Cl.TJ bo7 D.bl bB5 bF2:=(ad9 (aa7 (bd4 (aF8 (e:=D.int) (n := "int") (b:=true) (fun _=>rfl) xp) (ae3 o_not (aF8 (e:=D.int) (n := "bool") (b:=false) (fun _=>rfl) xp)))))
theorem bE8 (a_found:Int):SimO bo7 D.bl (m_o9 [D.int a_found]) (C_o9 a_found):=ao3 ct_o9 rfl
structure S_q9 where
 v15q:(List Int)
 v4q:Int
noncomputable def bo5:S_q9→Mi.Env:=fun s=>[some ((eL D.int) s.v15q),some (D.int s.v4q)]
noncomputable abbrev Y_q9:=S_q9→FlC S_q9 Unit
noncomputable def be3:Y_q9:=(ifC (upC (orC (bnC ltC (bnC bq9 (pC fun p=>p.v15q) (kC (0:Int))) (kC (0:Int))) (bnC geC (bnC bO3 (pC fun p=>p.v15q) (kC (0:Int))) (pC fun p=>p.v4q))))
 badC
 ai1)
noncomputable def bF0:Y_q9:=be3
noncomputable def C_q9 (a_houses:(List Int)) (a_count:Int):OutC S_q9 Unit:=runC (some ()) (bF0 ⟨a_houses,a_count⟩)
theorem ct_q9:Cl.TJ bo5 eN bB3 bF0:=(aj4 (aa7 (aq0 (ac0 (aa4 o_lt (aa4 bB0 xp xk) xk)) (ac0 (aa4 o_ge (aa4 bM0 xp xk) xp))))
 aO7
 ad0)
theorem cf_q9 (a_houses:(List Int)) (a_count:Int):SimO bo5 eN (m_q9 [(eL D.int) a_houses,D.int a_count]) (C_q9 a_houses a_count):=bd0 (d:=()) rfl ct_q9 rfl
structure S_e9 where
 v26q:GuildT
 v15q:(List Int)
noncomputable def bp7:S_e9→Mi.Env:=fun s=>[some (ad3 s.v26q),some ((eL D.int) s.v15q)]
noncomputable abbrev Y_e9:=S_e9→FlC S_e9 Unit
noncomputable def bg6:Y_e9:=(ar0 (upC (pc2C C_q9 (pC fun p=>p.v15q) (unC (fun g=> .ok g.house_count) (pC fun p=>p.v26q)))))
noncomputable def bG1:Y_e9:=bg6
noncomputable def C_e9 (a_self:GuildT) (a_houses:(List Int)):OutC S_e9 Unit:=runC (some ()) (bG1 ⟨a_self,a_houses⟩)
theorem ct_e9:Cl.TJ bp7 eN bC5 bG1:=(af8 (aa7 (au3 (fun a0 a1=>cf_q9 a0 a1) xp (am1 (fun _=>rfl) (ae3 al7 xp)))))
theorem bE9 (a_self:GuildT) (a_houses:(List Int)):SimO bp7 eN (m_e9 [ad3 a_self,(eL D.int) a_houses]) (C_e9 a_self a_houses):=bd0 (d:=()) rfl ct_e9 rfl
structure S_p9 where
 v11q:GuildT
 v5q:(DI Int)
 v10q:Option (List ((List Int)×Int))
 v7q:Option (List (List Int))
 v17q:Option Int
 v21q:Option ((List Int)×Int)
noncomputable def bo6:S_p9→Mi.Env:=fun s=>[some (ad3 s.v11q),some ((encD D.int) s.v5q),s.v10q.map (eL (eT2 (eL D.int) D.int)),s.v7q.map (eL (eTs D.int)),s.v17q.map D.int,s.v21q.map (eT2 (eL D.int) D.int)]
noncomputable abbrev Y_p9:=S_p9→FlC S_p9 Bool
noncomputable def aM2:Y_p9:=(setC (fun a s=>{ s with v10q:=some a }) (upC (pc1C C_h9 (pC fun p=>p.v11q))))
noncomputable def aM1:Y_p9:=(setC (fun a s=>{ s with v7q:=some a }) (upC (unC aJ3 (unC bO8 (pC fun p=>p.v5q)))))
noncomputable def aL9:Y_p9:=(retC (upC (kC false)))
noncomputable def aM0:Y_p9:=(ifC (upC (orC (unC notC (unC (cbC true) (vC fun p=>p.v10q))) (bnC (eqC true) (unC lenC (vC fun p=>p.v10q)) (unC lenC (vC fun p=>p.v7q)))))
 aL9
 ai1)
noncomputable def aG4:Y_p9:=(setC (fun a s=>{ s with v21q:=some a }) (upC (bnC ixC (vC fun p=>p.v10q) (vC fun p=>p.v17q))))
noncomputable def aB6:Y_p9:=(retC (upC (kC false)))
noncomputable def aG3:Y_p9:=(ifC (upC (orC (unC notC (unC (cbC true) (vC fun p=>p.v21q))) (orC (bnC (eqC true) (unC bO6 (vC fun p=>p.v21q)) (kC (2:Int))) (unC notC (unC (cbC true) (unC fstC (vC fun p=>p.v21q)))))))
 aB6
 ai1)
noncomputable def aB5:Y_p9:=(retC (upC (kC false)))
noncomputable def aG2:Y_p9:=(ifC (upC (orC (bnC (eqC true) (unC fstC (vC fun p=>p.v21q)) (unC idC (bnC ixC (vC fun p=>p.v7q) (vC fun p=>p.v17q)))) (orC (unC notC (pc1C C_o9 (unC sndC (vC fun p=>p.v21q)))) (bnC (eqC true) (unC sndC (vC fun p=>p.v21q)) (bnC dgC (pC fun p=>p.v5q) (bnC ixC (vC fun p=>p.v7q) (vC fun p=>p.v17q)))))))
 aB5
 ai1)
noncomputable def aO0:Y_p9:=(seqC aG4
 (seqC aG3
 aG2))
noncomputable def be5:Y_p9:=(ba7 (unC (rngC 0) (unC lenC (vC fun p=>p.v7q))) (fun a s=>{ s with v17q:=some a })
 aO0)
noncomputable def be4:Y_p9:=(retC (upC (kC true)))
noncomputable def bF1:Y_p9:=(seqC aM2
 (seqC aM1
 (seqC aM0
 (seqC be5
 be4))))
noncomputable def C_p9 (a_guild:GuildT) (a_dear:(DI Int)):OutC S_p9 Bool:=runC none (bF1 ⟨a_guild,a_dear,none,none,none,none⟩)
theorem ct_p9:Cl.TJ bo6 D.bl bB4 bF1:=(aa6 (xs (aa7 (bQ2 (fun _=>rfl) (fun a0=>cf_h9 a0) xp)))
 (aa6 (xs (aa7 (ae3 ba2 (ae3 bM1 xp))))
 (aa6 (aj4 (aa7 (aq0 (ap4 (ac0 (aF8 (e:=(eL (eT2 (eL D.int) D.int))) (n := "list") (b:=true) (fun _=>rfl) xv))) (ac0 (aa4 (an6 true) (ae3 as9 xv) (ae3 as9 xv)))))
 (ad9 (aa7 xk))
 ad0)
 (aa6 (aH8 (bd1 (ae3 as9 xv)) (fun _ _=>rfl)
 (aa6 (xs (aa7 (aa4 aj8 xv xv)))
 (aa6 (aj4 (aa7 (aq0 (ap4 (ac0 (aF8 (e:=(eT2 (eL D.int) D.int)) (n := "tuple") (b:=true) (fun _=>rfl) xv))) (aq0 (ac0 (aa4 (an6 true) (ae3 bA9 xv) xk)) (ap4 (ac0 (aF8 (e:=(eL D.int)) (n := "list") (b:=true) (fun _=>rfl) (bm4 o_p0 xv)))))))
 (ad9 (aa7 xk))
 ad0)
 (aj4 (aa7 (aq0 (ac0 (aa4 (bM3 (bQ9 bR0) (by decide) true) (bm4 o_p0 xv) (ae3 ba3 (aa4 aj8 xv xv)))) (aq0 (ap4 (ac0 (aR1 (fun a0=>bE8 a0) (bm4 o_p1 xv)))) (ac0 (aa4 (an6 true) (bm4 o_p1 xv) (aa4 ba4 xp (aa4 aj8 xv xv)))))))
 (ad9 (aa7 xk))
 ad0))))
 (ad9 (aa7 xk))))))
theorem bR3 (a_guild:GuildT) (a_dear:(DI Int)):SimO bo6 D.bl (m_p9 [ad3 a_guild,(encD D.int) a_dear]) (C_p9 a_guild a_dear):=ao3 ct_p9 rfl
structure S_b9 where
 v26q:GuildT
 v0q:Int
 v2q:Int
 v22q:Int
noncomputable def bq0:S_b9→Mi.Env:=fun s=>[some (ad3 s.v26q),some (D.int s.v0q),some (D.int s.v2q),some (D.int s.v22q)]
noncomputable abbrev Y_b9:=S_b9→FlC S_b9 Unit
noncomputable def bh0:Y_b9:=(ar0 (upC (pc2C C_e9 (pC fun p=>p.v26q) (mkC (ap6 (pC fun p=>p.v0q) (ap6 (pC fun p=>p.v2q) (nilC:_→Res (List Int))))))))
noncomputable def bg9:Y_b9:=(aT8 (fun s=>some s.v26q.likings) (fun s y=>{ s with v26q:={ s.v26q with likings:=y } }) (unC aJ6 (prC (pC fun p=>p.v0q) (pC fun p=>p.v2q))) (upC (pC fun p=>p.v22q)))
noncomputable def bG4:Y_b9:=(seqC bh0
 bg9)
noncomputable def C_b9 (a_self:GuildT) (a_a:Int) (a_b:Int) (a_rank:Int):OutC S_b9 Unit:=runC (some ()) (bG4 ⟨a_self,a_a,a_b,a_rank⟩)
theorem ct_b9:Cl.TJ bq0 eN bC8 bG4:=(aa6 (af8 (aa7 (ay5 (fun _=>rfl) (fun a0 a1=>bE9 a0 a1) xp (au5 (af4 xp (af4 xp au4))))))
 (ar9 (fun _=>rfl) (fun _ _=>rfl) (aT7 ap7 (an1 xp xp)) (aa7 xp)))
theorem bR6 (a_self:GuildT) (a_a:Int) (a_b:Int) (a_rank:Int):SimO bq0 eN (m_b9 [ad3 a_self,D.int a_a,D.int a_b,D.int a_rank]) (C_b9 a_self a_a a_b a_rank):=bd0 (d:=()) rfl ct_b9 rfl
structure S_c9 where
 v26q:GuildT
 v0q:Int
 v2q:Int
noncomputable def bp9:S_c9→Mi.Env:=fun s=>[some (ad3 s.v26q),some (D.int s.v0q),some (D.int s.v2q)]
noncomputable abbrev Y_c9:=S_c9→FlC S_c9 Int
noncomputable def bg8:Y_c9:=(ar0 (upC (pc2C C_e9 (pC fun p=>p.v26q) (mkC (ap6 (pC fun p=>p.v0q) (ap6 (pC fun p=>p.v2q) (nilC:_→Res (List Int))))))))
noncomputable def bg7:Y_c9:=(retC (upC (bm1 (unC (fun g=> .ok g.likings) (pC fun p=>p.v26q)) (unC aJ6 (prC (pC fun p=>p.v0q) (pC fun p=>p.v2q))) (kC (0:Int)))))
noncomputable def bG3:Y_c9:=(seqC bg8
 bg7)
noncomputable def C_c9 (a_self:GuildT) (a_a:Int) (a_b:Int):OutC S_c9 Int:=runC none (bG3 ⟨a_self,a_a,a_b⟩)
theorem ct_c9:Cl.TJ bp9 D.int bC7 bG3:=(aa6 (af8 (aa7 (ay5 (fun _=>rfl) (fun a0 a1=>bE9 a0 a1) xp (au5 (af4 xp (af4 xp au4))))))
 (ad9 (aa7 (am1 (fun _=>rfl) (aL1 (ae3 aq6 xp) (aT7 ap7 (an1 xp xp)) xk)))))
theorem bR5 (a_self:GuildT) (a_a:Int) (a_b:Int):SimO bp9 D.int (m_c9 [ad3 a_self,D.int a_a,D.int a_b]) (C_c9 a_self a_a a_b):=ao3 ct_c9 rfl
structure S_f9 where
 v26q:GuildT
 v24q:(List Int)
noncomputable def bp6:S_f9→Mi.Env:=fun s=>[some (ad3 s.v26q),some ((eL D.int) s.v24q)]
noncomputable abbrev Y_f9:=S_f9→FlC S_f9 Unit
noncomputable def bg5:Y_f9:=(ar0 (upC (pc2C C_e9 (pC fun p=>p.v26q) (pC fun p=>p.v24q))))
noncomputable def bg4:Y_f9:=(ifC (upC (bnC ltC (unC lenC (pC fun p=>p.v24q)) (kC (2:Int))))
 badC
 ai1)
noncomputable def bg3:Y_f9:=(ifC (upC (bnC (eqC true) (bnC ixC (pC fun p=>p.v24q) (unC negC (kC (1:Int)))) (kC (0:Int))))
 badC
 ai1)
noncomputable def bg2:Y_f9:=(ifC (upC (bnC (eqC true) (unC aK6 (pC fun p=>p.v24q)) (unC lenC (pC fun p=>p.v24q))))
 badC
 ai1)
noncomputable def bG0:Y_f9:=(seqC bg5
 (seqC bg4
 (seqC bg3
 bg2)))
noncomputable def C_f9 (a_self:GuildT) (a_road:(List Int)):OutC S_f9 Unit:=runC (some ()) (bG0 ⟨a_self,a_road⟩)
theorem ct_f9:Cl.TJ bp6 eN bC4 bG0:=(aa6 (af8 (aa7 (ay5 (fun _=>rfl) (fun a0 a1=>bE9 a0 a1) xp xp)))
 (aa6 (aj4 (aa7 (ac0 (aa4 o_lt (ae3 as9 xp) xk)))
 aO7
 ad0)
 (aa6 (aj4 (aa7 (ac0 (aa4 (an6 true) (aa4 aj8 xp (ae3 o_neg xk)) xk)))
 aO7
 ad0)
 (aj4 (aa7 (ac0 (aa4 (an6 true) (ae3 bk4 xp) (ae3 as9 xp))))
 aO7
 ad0))))
theorem bR4 (a_self:GuildT) (a_road:(List Int)):SimO bp6 eN (m_f9 [ad3 a_self,(eL D.int) a_road]) (C_f9 a_self a_road):=bd0 (d:=()) rfl ct_f9 rfl
structure S_d9 where
 v26q:GuildT
 v24q:(List Int)
 v28q:Option (Option Int)
noncomputable def bp8:S_d9→Mi.Env:=fun s=>[some (ad3 s.v26q),some ((eL D.int) s.v24q),s.v28q.map (eO D.int)]
noncomputable abbrev Y_d9:=S_d9→FlC S_d9 Int
noncomputable def aN8:Y_d9:=(ar0 (upC (pc2C C_f9 (pC fun p=>p.v26q) (pC fun p=>p.v24q))))
noncomputable def aN7:Y_d9:=(setC (fun a s=>{ s with v28q:=some a }) (upC (bnC dg1C (unC (fun g=> .ok g.wish_ranks) (pC fun p=>p.v26q)) (unC idC (pC fun p=>p.v24q)))))
noncomputable def an2:Y_d9:=(retC (upC (pc3C C_c9 (pC fun p=>p.v26q) (bnC ixC (pC fun p=>p.v24q) (kC (0:Int))) (bnC ixC (pC fun p=>p.v24q) (kC (1:Int))))))
noncomputable def aN6:Y_d9:=(ifC (upC (unC (isnC false nonO) (vC fun p=>p.v28q)))
 an2
 ai1)
noncomputable def aN5:Y_d9:=(retC (fun s=>bdO ((upC (vC fun p=>p.v28q)) s) fun a s=>bndO (optC a) s fun b=> .ok b s))
noncomputable def bG2:Y_d9:=(seqC aN8
 (seqC aN7
 (seqC aN6
 aN5)))
noncomputable def C_d9 (a_self:GuildT) (a_road:(List Int)):OutC S_d9 Int:=runC none (bG2 ⟨a_self,a_road,none⟩)
theorem ct_d9:Cl.TJ bp8 D.int bC6 bG2:=(aa6 (af8 (aa7 (ay5 (fun _=>rfl) (fun a0 a1=>bR4 a0 a1) xp xp)))
 (aa6 (xs (aa7 (am1 (bl6 (fun _=>rfl)) (bE4 (ae3 am5 xp) (ae3 ba1 (br7 (bo2 (fun _=>rfl)) xp))))))
 (aa6 (aj4 (aa7 (ac0 (bQ5 (isn_O (fun _=>rfl)) xv)))
 (ad9 (aa7 (br4 (fun _=>rfl) (fun a0 a1 a2=>bR5 a0 a1 a2) xp (am1 (fun _=>rfl) (aa4 aj8 xp xk)) (am1 (fun _=>rfl) (aa4 aj8 xp xk)))))
 ad0)
 (ad9 (nj_as bG8 (aa7 xv))))))
theorem cf_d9 (a_self:GuildT) (a_road:(List Int)):SimO bp8 D.int (m_d9 [ad3 a_self,(eL D.int) a_road]) (C_d9 a_self a_road):=ao3 ct_d9 rfl
structure S_g9 where
 v26q:GuildT
 v24q:(List Int)
 v22q:Int
noncomputable def bp5:S_g9→Mi.Env:=fun s=>[some (ad3 s.v26q),some ((eL D.int) s.v24q),some (D.int s.v22q)]
noncomputable abbrev Y_g9:=S_g9→FlC S_g9 Unit
noncomputable def bg1:Y_g9:=(ar0 (upC (pc2C C_f9 (pC fun p=>p.v26q) (pC fun p=>p.v24q))))
noncomputable def bg0:Y_g9:=(aT8 (fun s=>some s.v26q.wish_ranks) (fun s y=>{ s with v26q:={ s.v26q with wish_ranks:=y } }) (unC idC (pC fun p=>p.v24q)) (upC (pC fun p=>p.v22q)))
noncomputable def bF9:Y_g9:=(seqC bg1
 bg0)
noncomputable def C_g9 (a_self:GuildT) (a_road:(List Int)) (a_rank:Int):OutC S_g9 Unit:=runC (some ()) (bF9 ⟨a_self,a_road,a_rank⟩)
theorem ct_g9:Cl.TJ bp5 eN bC3 bF9:=(aa6 (af8 (aa7 (ay5 (fun _=>rfl) (fun a0 a1=>bR4 a0 a1) xp xp)))
 (ar9 (fun _=>rfl) (fun _ _=>rfl) (ae3 ba1 (br7 (bo2 (fun _=>rfl)) xp)) (aa7 xp)))
theorem cf_g9 (a_self:GuildT) (a_road:(List Int)) (a_rank:Int):SimO bp5 eN (m_g9 [ad3 a_self,(eL D.int) a_road,D.int a_rank]) (C_g9 a_self a_road a_rank):=bd0 (d:=()) rfl ct_g9 rfl
structure S_n9 where
 v11q:GuildT
 v8q:(DI Int)
 v5q:(DI Int)
 v0q:Int
 v2q:Int
 v24q:(List Int)
 v18q:Option (List Int)
 v10q:Option Int
noncomputable def bo8:S_n9→Mi.Env:=fun s=>[some (ad3 s.v11q),some ((encD D.int) s.v8q),some ((encD D.int) s.v5q),some (D.int s.v0q),some (D.int s.v2q),some ((eL D.int) s.v24q),s.v18q.map (eL D.int),s.v10q.map D.int]
noncomputable abbrev Y_n9:=S_n9→FlC S_n9 Bool
noncomputable def bf1:Y_n9:=(setC (fun a s=>{ s with v18q:=some a }) (upC (unC idC (pC fun p=>p.v24q))))
noncomputable def bf0:Y_n9:=(setC (fun a s=>{ s with v10q:=some a }) (upC (pc2C C_d9 (pC fun p=>p.v11q) (pC fun p=>p.v24q))))
noncomputable def aM3:Y_n9:=(retC (upC (kC false)))
noncomputable def be9:Y_n9:=(ifC (upC (orC (unC notC (pc1C C_o9 (vC fun p=>p.v10q))) (orC (bnC (eqC true) (vC fun p=>p.v10q) (pc3C C_k9 (pC fun p=>p.v8q) (pC fun p=>p.v5q) (vC fun p=>p.v18q))) (bnC (eqC true) (pC fun p=>p.v24q) (vC fun p=>p.v18q)))))
 aM3
 ai1)
noncomputable def be8:Y_n9:=(setC (fun a s=>{ s with v10q:=some a }) (upC (pc3C C_c9 (pC fun p=>p.v11q) (pC fun p=>p.v0q) (pC fun p=>p.v2q))))
noncomputable def be7:Y_n9:=(retC (upC (andC (pc1C C_o9 (vC fun p=>p.v10q)) (bnC (eqC false) (vC fun p=>p.v10q) (bm1 (pC fun p=>p.v8q) (unC aJ6 (prC (pC fun p=>p.v0q) (pC fun p=>p.v2q))) (kC (0:Int)))))))
noncomputable def bF3:Y_n9:=(seqC bf1
 (seqC bf0
 (seqC be9
 (seqC be8
 be7))))
noncomputable def C_n9 (a_guild:GuildT) (a_fond:(DI Int)) (a_dear:(DI Int)) (a_a:Int) (a_b:Int) (a_road:(List Int)):OutC S_n9 Bool:=runC none (bF3 ⟨a_guild,a_fond,a_dear,a_a,a_b,a_road,none,none⟩)
theorem ct_n9:Cl.TJ bo8 D.bl bB6 bF3:=(aa6 (xs (aa7 (ae3 bq6 xp)))
 (aa6 (xs (aa7 (ay5 (fun _=>rfl) (fun a0 a1=>cf_d9 a0 a1) xp xp)))
 (aa6 (aj4 (aa7 (aq0 (ap4 (ac0 (aR1 (fun a0=>bE8 a0) xv))) (aq0 (ac0 (aa4 (an6 true) xv (br6 (fun a0 a1 a2=>cf_k9 a0 a1 a2) xp xp xv))) (ac0 (aa4 (bM3 (bQ9 bR0) (by decide) true) xp xv)))))
 (ad9 (aa7 xk))
 ad0)
 (aa6 (xs (aa7 (br4 (fun _=>rfl) (fun a0 a1 a2=>bR5 a0 a1 a2) xp xp xp)))
 (ad9 (aa7 (bd4 (aR1 (fun a0=>bE8 a0) xv) (aa4 (an6 false) xv (aL1 xp (aT7 ap7 (an1 xp xp)) xk)))))))))
theorem cf_n9 (a_guild:GuildT) (a_fond:(DI Int)) (a_dear:(DI Int)) (a_a:Int) (a_b:Int) (a_road:(List Int)):SimO bo8 D.bl (m_n9 [ad3 a_guild,(encD D.int) a_fond,(encD D.int) a_dear,D.int a_a,D.int a_b,(eL D.int) a_road]) (C_n9 a_guild a_fond a_dear a_a a_b a_road):=ao3 ct_n9 rfl
structure S_i9 where
 v25q:(List Int)
 v27q:Option Int
 v12q:Option (List GuildT)
 v9q:Option (List (DI Int))
 v6q:Option (List (DI Int))
 v17q:Option Int
 v3q:Option Int
 v20q:Option Int
 v0q:Option Int
 v2q:Option Int
 v24q:Option (List Int)
 v22q:Option Int
 v1q:Option Int
 v13q:Option (List Int)
 v16q:Option Int
noncomputable def bp3:S_i9→Mi.Env:=fun s=>[some (eS s.v25q),s.v27q.map D.int,s.v12q.map (eL ad3),s.v9q.map (eL (encD D.int)),s.v6q.map (eL (encD D.int)),s.v17q.map D.int,s.v3q.map D.int,s.v20q.map D.int,s.v0q.map D.int,s.v2q.map D.int,s.v24q.map (eL D.int),s.v22q.map D.int,s.v1q.map D.int,s.v13q.map (eL D.int),s.v16q.map D.int]
noncomputable abbrev Y_i9:=S_i9→FlC S_i9 Bool
noncomputable def aB8:Y_i9:=(setC (fun a s=>{ s with v27q:=some a }) (upC (bnC addC (kC (2:Int)) (bnC modC (pc2C C_j9 (pC fun p=>p.v25q) (kC (0:Int))) (kC (8:Int))))))
noncomputable def av9:Y_i9:=(setC (fun a s=>{ s with v27q:=some a }) (upC (bnC addC (kC (10:Int)) (bnC modC (bnC au2 (pc2C C_j9 (pC fun p=>p.v25q) (kC (0:Int))) (kC (32:Int))) (kC (51:Int))))))
noncomputable def aB7:Y_i9:=(ifC (upC (bnC (eqC false) (bnC modC (bnC au2 (pc2C C_j9 (pC fun p=>p.v25q) (kC (0:Int))) (kC (8:Int))) (kC (4:Int))) (kC (1:Int))))
 av9
 ai1)
noncomputable def aN4:Y_i9:=(setC (fun a s=>{ s with v12q:=some a }) (upC (mkC (ap6 (pk1C mk_Guild (vC fun p=>p.v27q)) (ap6 (pk1C mk_Guild (vC fun p=>p.v27q)) (nilC:_→Res (List GuildT)))))))
noncomputable def aN3:Y_i9:=(setC (fun a s=>{ s with v9q:=some a }) (upC (mkC (ap6 (kC ([]:DI Int)) (ap6 (kC ([]:DI Int)) (nilC:_→Res (List (DI Int))))))))
noncomputable def aN2:Y_i9:=(setC (fun a s=>{ s with v6q:=some a }) (upC (mkC (ap6 (kC ([]:DI Int)) (ap6 (kC ([]:DI Int)) (nilC:_→Res (List (DI Int))))))))
noncomputable def av8:Y_i9:=(setC (fun a s=>{ s with v3q:=some a }) (upC (bnC ixC (pC fun p=>p.v25q) (vC fun p=>p.v17q))))
noncomputable def av7:Y_i9:=(setC (fun a s=>{ s with v20q:=some a }) (upC (pc2C C_j9 (pC fun p=>p.v25q) (bnC addC (vC fun p=>p.v17q) (kC (1:Int))))))
noncomputable def av6:Y_i9:=(setC (fun a s=>{ s with v0q:=some a }) (upC (bnC addC (kC (1:Int)) (bnC modC (bnC au2 (vC fun p=>p.v3q) (kC (3:Int))) (bnC subC (vC fun p=>p.v27q) (kC (1:Int)))))))
noncomputable def av5:Y_i9:=(setC (fun a s=>{ s with v2q:=some a }) (upC (bnC modC (bnC au2 (bnC au2 (vC fun p=>p.v3q) (kC (3:Int))) (bnC subC (vC fun p=>p.v27q) (kC (1:Int)))) (vC fun p=>p.v27q))))
noncomputable def av4:Y_i9:=(setC (fun a s=>{ s with v24q:=some a }) (upC (pc3C C_m9 (vC fun p=>p.v20q) (vC fun p=>p.v0q) (vC fun p=>p.v27q))))
noncomputable def av3:Y_i9:=(setC (fun a s=>{ s with v22q:=some a }) (upC (pc1C C_l9 (bnC addC (vC fun p=>p.v20q) (vC fun p=>p.v3q)))))
noncomputable def av2:Y_i9:=(setC (fun a s=>{ s with v1q:=some a }) (upC (bnC modC (vC fun p=>p.v17q) (kC (2:Int)))))
noncomputable def aj2:Y_i9:=(ar0 (mpC (gI (fun s=>s.v12q) (fun s=>s.v1q)) (pI (fun s=>s.v12q) (fun s y=>{ s with v12q:=some y }) (fun s=>s.v1q)) (fun s=>s.v26q) (pk3C (fun x0 x1 x2=> .ok (x0,x1,x2)) (vC fun p=>p.v0q) (vC fun p=>p.v2q) (vC fun p=>p.v22q)) (fun o r=>C_b9 o r.1 r.2.1 r.2.2)))
noncomputable def aj1:Y_i9:=(aT8 (gI (fun s=>s.v9q) (fun s=>s.v1q)) (pI (fun s=>s.v9q) (fun s y=>{ s with v9q:=some y }) (fun s=>s.v1q)) (unC aJ6 (prC (vC fun p=>p.v0q) (vC fun p=>p.v2q))) (upC (vC fun p=>p.v22q)))
noncomputable def af2:Y_i9:=(ifC (upC (bnC (eqC false) (bnC modC (vC fun p=>p.v3q) (kC (3:Int))) (kC (0:Int))))
 (seqC aj2
 aj1)
 ai1)
noncomputable def aj0:Y_i9:=(setC (fun a s=>{ s with v13q:=some a }) (upC (unC idC (vC fun p=>p.v24q))))
noncomputable def ai9:Y_i9:=(ar0 (mpC (gI (fun s=>s.v12q) (fun s=>s.v1q)) (pI (fun s=>s.v12q) (fun s y=>{ s with v12q:=some y }) (fun s=>s.v1q)) (fun s=>s.v26q) (pk2C (fun x0 x1=> .ok (x0,x1)) (vC fun p=>p.v13q) (vC fun p=>p.v22q)) (fun o r=>C_g9 o r.1 r.2)))
noncomputable def ai8:Y_i9:=(ar0 (l0C (fun s=>s.v13q) (fun s y=>{ s with v13q:=some y }) List.reverse))
noncomputable def ai7:Y_i9:=(aT8 (gI (fun s=>s.v6q) (fun s=>s.v1q)) (pI (fun s=>s.v6q) (fun s y=>{ s with v6q:=some y }) (fun s=>s.v1q)) (unC idC (vC fun p=>p.v24q)) (upC (vC fun p=>p.v22q)))
noncomputable def af1:Y_i9:=(ifC (upC (bnC (eqC false) (bnC modC (vC fun p=>p.v3q) (kC (3:Int))) (kC (1:Int))))
 (seqC aj0
 (seqC ai9
 (seqC ai8
 ai7)))
 ai1)
noncomputable def ah4:Y_i9:=(ar0 (mpC (gI (fun s=>s.v12q) (fun s=>s.v1q)) (pI (fun s=>s.v12q) (fun s y=>{ s with v12q:=some y }) (fun s=>s.v1q)) (fun s=>s.v26q) (pk3C (fun x0 x1 x2=> .ok (x0,x1,x2)) (vC fun p=>p.v0q) (bnC ixC (vC fun p=>p.v24q) (kC (1:Int))) (vC fun p=>p.v22q)) (fun o r=>C_b9 o r.1 r.2.1 r.2.2)))
noncomputable def ah3:Y_i9:=(aT8 (gI (fun s=>s.v9q) (fun s=>s.v1q)) (pI (fun s=>s.v9q) (fun s y=>{ s with v9q:=some y }) (fun s=>s.v1q)) (unC aJ6 (prC (vC fun p=>p.v0q) (bnC ixC (vC fun p=>p.v24q) (kC (1:Int))))) (upC (vC fun p=>p.v22q)))
noncomputable def ae1:Y_i9:=(ifC (upC (bnC (eqC false) (bnC modC (vC fun p=>p.v3q) (kC (3:Int))) (kC (2:Int))))
 (seqC ah4
 ah3)
 ai1)
noncomputable def ar1:Y_i9:=(retC (upC (kC false)))
noncomputable def ag8:Y_i9:=(ifC (upC (unC notC (pc6C C_n9 (bnC ixC (vC fun p=>p.v12q) (vC fun p=>p.v16q)) (bnC ixC (vC fun p=>p.v9q) (vC fun p=>p.v16q)) (bnC ixC (vC fun p=>p.v6q) (vC fun p=>p.v16q)) (vC fun p=>p.v0q) (vC fun p=>p.v2q) (vC fun p=>p.v24q))))
 ar1
 ai1)
noncomputable def ap5:Y_i9:=(ba7 (unC (rngC 0) (kC (2:Int))) (fun a s=>{ s with v16q:=some a })
 ag8)
noncomputable def aO2:Y_i9:=(seqC av8
 (seqC av7
 (seqC av6
 (seqC av5
 (seqC av4
 (seqC av3
 (seqC av2
 (seqC af2
 (seqC af1
 (seqC ae1
 ap5))))))))))
noncomputable def aN1:Y_i9:=(ba7 (bnC rngC (kC (1:Int)) (unC lenC (pC fun p=>p.v25q))) (fun a s=>{ s with v17q:=some a })
 aO2)
noncomputable def bf8:Y_i9:=(retC (upC (andC (pc2C C_p9 (bnC ixC (vC fun p=>p.v12q) (kC (0:Int))) (bnC ixC (vC fun p=>p.v6q) (kC (0:Int)))) (pc2C C_p9 (bnC ixC (vC fun p=>p.v12q) (kC (1:Int))) (bnC ixC (vC fun p=>p.v6q) (kC (1:Int)))))))
noncomputable def bF7:Y_i9:=(seqC aB8
 (seqC aB7
 (seqC aN4
 (seqC aN3
 (seqC aN2
 (seqC aN1
 bf8))))))
noncomputable def C_i9 (a_script:(List Int)):OutC S_i9 Bool:=runC none (bF7 ⟨a_script,none,none,none,none,none,none,none,none,none,none,none,none,none,none⟩)
theorem ct_i9:Cl.TJ bp3 D.bl bC1 bF7:=(aa6 (xs (aa7 (aa4 aS7 xk (aa4 am6 (au3 (fun a0 a1=>bn1 a0 a1) xp xk) xk))))
 (aa6 (aj4 (aa7 (ac0 (aa4 (an6 false) (aa4 am6 (aa4 al9 (au3 (fun a0 a1=>bn1 a0 a1) xp xk) xk) xk) xk)))
 (xs (aa7 (aa4 aS7 xk (aa4 am6 (aa4 al9 (au3 (fun a0 a1=>bn1 a0 a1) xp xk) xk) xk))))
 ad0)
 (aa6 (xs (aa7 (au5 (af4 (br5 ao0 xv) (af4 (br5 ao0 xv) au4)))))
 (aa6 (xs (aa7 (au5 (af4 (ay6 rfl) (af4 (ay6 rfl) au4)))))
 (aa6 (xs (aa7 (au5 (af4 (ay6 rfl) (af4 (ay6 rfl) au4)))))
 (aa6 (aH8 (bd2 xk (ae3 bq7 xp)) (fun _ _=>rfl)
 (aa6 (xs (aa7 (am1 (fun _=>rfl) (aa4 bM2 xp xv))))
 (aa6 (xs (aa7 (au3 (fun a0 a1=>bn1 a0 a1) xp (aa4 aS7 xv xk))))
 (aa6 (xs (aa7 (aa4 aS7 xk (aa4 am6 (aa4 al9 xv xk) (aa4 aS6 xv xk)))))
 (aa6 (xs (aa7 (aa4 am6 (aa4 al9 (aa4 al9 xv xk) (aa4 aS6 xv xk)) xv)))
 (aa6 (xs (aa7 (br6 (fun a0 a1 a2=>cf_m9 a0 a1 a2) xv xv xv)))
 (aa6 (xs (aa7 (aR1 (fun a0=>cf_l9 a0) (aa4 aS7 xv xv))))
 (aa6 (xs (aa7 (aa4 am6 xv xk)))
 (aa6 (aj4 (aa7 (ac0 (aa4 (an6 false) (aa4 am6 xv xk) xk)))
 (aa6 (af8 (bB1 (hgI (fun _=>rfl) (aq8 (fun _=>rfl))) (hsI (fun _=>rfl) (fun _ _=>rfl) (aq8 (fun _=>rfl))) (fun _=>rfl) (row3 (eR:=(fun (r:Int×Int×Int)=>[D.int r.1,D.int r.2.1,D.int r.2.2])) (k:= .ok) (f:=fun x0 x1 x2=> .ok (x0,x1,x2)) (e0:=D.int) (e1:=D.int) (e2:=D.int) (fun _ _ _=>rfl) xv xv xv) (fun o r=>bR6 o r.1 r.2.1 r.2.2) (fun _=>rfl)))
 (ar9 (hgI (fun _=>rfl) (aq8 (fun _=>rfl))) (hsI (fun _=>rfl) (fun _ _=>rfl) (aq8 (fun _=>rfl))) (aT7 ap7 (an1 xv xv)) (aa7 xv)))
 ad0)
 (aa6 (aj4 (aa7 (ac0 (aa4 (an6 false) (aa4 am6 xv xk) xk)))
 (aa6 (xs (aa7 (ae3 bq6 xv)))
 (aa6 (af8 (bB1 (hgI (fun _=>rfl) (aq8 (fun _=>rfl))) (hsI (fun _=>rfl) (fun _ _=>rfl) (aq8 (fun _=>rfl))) (fun _=>rfl) (row2 (eR:=(fun (r:(List Int)×Int)=>[(eL D.int) r.1,D.int r.2])) (k:= .ok) (f:=fun x0 x1=> .ok (x0,x1)) (e0:=(eL D.int)) (e1:=D.int) (fun _ _=>rfl) xv xv) (fun o r=>cf_g9 o r.1 r.2) (fun _=>rfl)))
 (aa6 (af8 (nj_l0 (fun _=>rfl) (fun _ _=>rfl) f_rev))
 (ar9 (hgI (fun _=>rfl) (aq8 (fun _=>rfl))) (hsI (fun _=>rfl) (fun _ _=>rfl) (aq8 (fun _=>rfl))) (ae3 ba1 xv) (aa7 xv)))))
 ad0)
 (aa6 (aj4 (aa7 (ac0 (aa4 (an6 false) (aa4 am6 xv xk) xk)))
 (aa6 (af8 (bB1 (hgI (fun _=>rfl) (aq8 (fun _=>rfl))) (hsI (fun _=>rfl) (fun _ _=>rfl) (aq8 (fun _=>rfl))) (fun _=>rfl) (row3 (eR:=(fun (r:Int×Int×Int)=>[D.int r.1,D.int r.2.1,D.int r.2.2])) (k:= .ok) (f:=fun x0 x1 x2=> .ok (x0,x1,x2)) (e0:=D.int) (e1:=D.int) (e2:=D.int) (fun _ _ _=>rfl) xv (aa4 aj8 xv xk) xv) (fun o r=>bR6 o r.1 r.2.1 r.2.2) (fun _=>rfl)))
 (ar9 (hgI (fun _=>rfl) (aq8 (fun _=>rfl))) (hsI (fun _=>rfl) (fun _ _=>rfl) (aq8 (fun _=>rfl))) (aT7 ap7 (an1 xv (aa4 aj8 xv xk))) (aa7 xv)))
 ad0)
 (aH8 (bd1 xk) (fun _ _=>rfl)
 (aj4 (aa7 (ap4 (ac0 (bQ3 (fun a0 a1 a2 a3 a4 a5=>cf_n9 a0 a1 a2 a3 a4 a5) (aa4 aj8 xv xv) (aa4 aj8 xv xv) (aa4 aj8 xv xv) xv xv xv))))
 (ad9 (aa7 xk))
 ad0)))))))))))))
 (ad9 (aa7 (bd4 (au3 (fun a0 a1=>bR3 a0 a1) (aa4 aj8 xv xk) (aa4 aj8 xv xk)) (au3 (fun a0 a1=>bR3 a0 a1) (aa4 aj8 xv xk) (aa4 aj8 xv xk)))))))))))
theorem cf_i9 (a_script:(List Int)):SimO bp3 D.bl (m_i9 [eS a_script]) (C_i9 a_script):=ao3 ct_i9 rfl
end
noncomputable def ai0 (ns:List Int) (k:Int):Int:=(ns[k.toNat]?).getD 0
theorem by4 (ns:List Int) (k:Int) (hk:0≤k):(C_j9 ns k).res= .ok (ai0 ns k):=by
 unfold C_j9 bF6 bf7 bf6 av1 ai0
 by_cases h:k < ns.length
 · obtain ⟨v,e⟩:∃ v,ns[k.toNat]?=some v:=⟨_,List.getElem?_eq_getElem (by omega)⟩
   simp [h,aw0 ns hk,e]
 · have e:ns[k.toNat]?=none:=List.getElem?_eq_none (by omega)
   simp [h,e]
theorem ag4 {α:Type}:∀ {l:List α} {j:Nat} (h:j < l.length),(l[j] :: l.eraseIdx j).Perm l
 | x :: l,0,h=>List.Perm.refl _
 | x :: l,j + 1,h=>by
   have ih:=ag4 (l:=l) (j:=j) (by simpa using h)
   rw [List.eraseIdx_cons_succ,List.getElem_cons_succ]
   exact (List.Perm.swap x _ _).trans (ih.cons x)
structure RoadOk (sz:Int) (r:List Int):Prop where
 two:2≤r.length
 last:r.getLast?=some 0
 nd:r.Nodup
 all:∀ x∈r,0≤x∧x < sz
theorem bJ5 {α:Type} {l:List α} {i:Int} (h0:0≤i) (h1:i < l.length) (h2:l.length≤20000):∃ (h:i.toNat < l.length),popC l i=some (l[i.toNat],l.eraseIdx i.toNat):=by
 have h:i.toNat < l.length:=by omega
 refine ⟨h,?_⟩
 unfold popC
 rw [if_pos ⟨h0,h1,by unfold ab1; omega⟩,List.getElem?_eq_getElem h]
 rfl
theorem bS3 {α:Type} {l:List α} {x:α} (h:l.length < ab1):appC l x=some ((),l ++ [x]):=by unfold appC; rw [if_pos h]
theorem bR7 {α:Type} {l m:List α} (h:l.length + m.length≤ab1):catC l m= .ok (l ++ m):=by unfold catC; rw [if_pos h]
theorem by1 (c h sz:Int) (h1:1≤h) (h2:h < sz) (h3:sz≤1000):∃ r,(C_m9 c h sz).res= .ok r∧RoadOk sz r∧(∃ t,r=h :: t)∧r.length≤1001:=by
 have hc:aG9 (bnC rngC (kC (1:Int)) (pC fun p=>p.v27q)) (bnC (eqC true) (pC fun p=>p.1) (pC fun p=>p.2.v14q)) (pC fun p=>p.1) (⟨c,h,sz,none,none,none⟩:S_m9)= .ok ((rngI 1 sz).filter fun x=>!decide (x=h)):=by
  rw [bh1 (l:=rngI 1 sz) (fun x=>!decide (x=h)) (fun x=>x) (by simp [as2 (lo:=1) (hi:=sz) (by omega) (by omega) (by omega) (by omega)]) (by rw [aA5]; unfold ab1; omega) (fun a _=>by simp) (fun a _ _=>by simp)]
  simp
 have hR:∀ x∈(rngI 1 sz).filter (fun x=>!decide (x=h)),1≤x∧x < sz∧x≠h:=fun x hx=>by
  obtain ⟨q1,q2⟩:=List.mem_filter.mp hx
  have:=ar7.mp q1
  exact ⟨this.1,this.2,by simpa using q2⟩
 have ndR:((rngI 1 sz).filter fun x=>!decide (x=h)).Nodup:=(aS8 1 sz).filter _
 have lnR:((rngI 1 sz).filter fun x=>!decide (x=h)).length≤999:=Nat.le_trans (List.length_filter_le _ _) (by rw [aA5]; omega)
 generalize (rngI 1 sz).filter (fun x=>!decide (x=h))=R0 at hc hR ndR lnR
 have wh:=aU7 (t:=upC (andC (bnC gtC (vC fun p=>p.v19q) (kC (0:Int))) (bnC gtC (unC lenC (vC fun p=>p.v23q)) (kC (0:Int))))) (c:=aO1)
  (fun n (s:S_m9)=>∃ c' m rest mid,s=⟨c',h,sz,some rest,some (h :: mid),some m⟩∧rest.length=n∧(h :: mid ++ rest).Nodup∧(∀ x∈h :: mid ++ rest,1≤x∧x < sz)∧(h :: mid ++ rest).length≤1000)
  (fun s=>∃ c' m rest mid,s=⟨c',h,sz,some rest,some (h :: mid),some m⟩∧(h :: mid).Nodup∧(∀ x∈h :: mid,1≤x∧x < sz)∧(h :: mid).length≤1000) (by
    rintro n s ⟨c',m,rest,mid,rfl,rfl,nd,al,ln⟩
    have ln':mid.length + rest.length + 1≤1000:=by simpa using ln
    by_cases hm:0 < m∧0 < rest.length
    · have j0:0≤c' % (rest.length:Int):=Int.emod_nonneg _ (by omega)
      have j1:c' % (rest.length:Int) < rest.length:=Int.emod_lt_of_pos _ (by omega)
      obtain ⟨jl,hp⟩:=bJ5 j0 j1 (by omega)
      have hz:(0:Int) < rest.length:=by omega
      generalize (c' % (rest.length:Int)).toNat=j at jl hp
      have ha:=bS3 (l:=h :: mid) (x:=rest[j]) (by simp only [List.length_cons]; unfold ab1; omega)
      refine .inr ⟨by simp [hm.1,hm.2],(rest.eraseIdx j).length,_,by rw [List.length_eraseIdx,if_pos jl]; omega,.inl (by simp [aO1,aG7,aG6,aG5,hm.2,hp,ha]),c' / 5,m - 1,rest.eraseIdx j,mid ++ [rest[j]],rfl,rfl,?_,?_,?_⟩
      · have e1:(h :: (mid ++ [rest[j]]) ++ rest.eraseIdx j).Perm (h :: mid ++ rest):=by
         have:(rest[j] :: rest.eraseIdx j).Perm rest:=ag4 jl
         simpa using (List.Perm.append_left (h :: mid) this)
        exact e1.nodup_iff.mpr nd
      · intro x hx
        refine al x ?_
        have e1:(h :: (mid ++ [rest[j]]) ++ rest.eraseIdx j).Perm (h :: mid ++ rest):=by
         have:(rest[j] :: rest.eraseIdx j).Perm rest:=ag4 jl
         simpa using (List.Perm.append_left (h :: mid) this)
        exact e1.mem_iff.mp hx
      · simp [List.length_eraseIdx,jl]; omega
    · refine .inl ⟨?_,c',m,rest,mid,rfl,(List.nodup_append.mp nd).1,fun x hx=>al x (List.mem_append_left _ hx),by simp; omega⟩
      by_cases hm1:0 < m
      · have e0:rest=[]:=List.length_eq_zero_iff.mp (by omega)
        subst e0
        simp [hm1]
      · simp [hm1])
 obtain ⟨s',e,c',m,rest,mid,rfl,nd,al,ln⟩:=wh 100000 R0.length ⟨c / 4,h,sz,some R0,some [h],some (if c / 4 % 8=3 then sz else c % 4)⟩
  ⟨c / 4,_,R0,[],rfl,rfl,List.nodup_cons.mpr ⟨fun z=>(hR h z).2.2 rfl,ndR⟩,fun x hx=>by
   rcases List.mem_cons.mp hx with z | z
   · rw [z]; exact ⟨h1,h2⟩
   · exact ⟨(hR x z).1,(hR x z).2.1⟩,by show (h :: R0).length≤1000; rw [List.length_cons]; omega⟩ (by omega)
 have lm:mid.length + 1≤1000:=by simpa using ln
 have hcat:=bR7 (l:=h :: mid) (m:=[(0:Int)]) (by simp only [List.length_cons,List.length_nil]; unfold ab1; omega)
 refine ⟨h :: mid ++ [0],?_,⟨by simp,List.getLast?_concat ..,?_,fun x hx=>?_⟩,⟨_,rfl⟩,by simp; omega⟩
 · have e1:aM8 ⟨c,h,sz,none,none,none⟩= .nx ⟨c,h,sz,some R0,none,none⟩:=by
    unfold aM8 setC upC
    rw [hc]; rfl
   have e2:aM7 ⟨c,h,sz,some R0,none,none⟩= .nx ⟨c,h,sz,some R0,some [h],none⟩:=by simp [aM7,ab1]
   have e3:aM6 ⟨c,h,sz,some R0,some [h],none⟩= .nx ⟨c,h,sz,some R0,some [h],some (c % 4)⟩:=by simp [aM6]
   have e4:aM5 ⟨c,h,sz,some R0,some [h],some (c % 4)⟩= .nx ⟨c,h,sz,some R0,some [h],some (if c / 4 % 8=3 then sz else c % 4)⟩:=by
    by_cases q:c / 4 % 8=3 <;> simp [aM5,au8,q]
   have e5:∀ x,aM4 ⟨c,h,sz,some R0,some [h],x⟩= .nx ⟨c / 4,h,sz,some R0,some [h],x⟩:=fun x=>by simp [aM4]
   have e6:bf3 ⟨c / 4,h,sz,some R0,some [h],some (if c / 4 % 8=3 then sz else c % 4)⟩=_:=e
   unfold C_m9 bF4
   simp only [seqC,e1,e2,e3,e4,e5,e6]
   simp [bf2,hcat,ab1,-catC]
 · exact List.nodup_append.mpr ⟨nd,by simp,fun a ha b hb=>by
    rw [List.mem_singleton.mp hb]
    have:=(al a ha).1
    omega⟩
 · rcases List.mem_append.mp hx with z | z
   · have:=al x z; omega
   · rw [List.mem_singleton.mp z]; omega
theorem aK2:∀ (n:Nat) (l:List Int),l.Nodup→(∀ x∈l,0≤x∧x < n)→l.length≤n:=by
 intro n
 induction n with
 | zero =>
   intro l nd al
   cases l with
   | nil=>exact Nat.le_refl _
   | cons x l=>have:=al x List.mem_cons_self; omega
 | succ n ih =>
   intro l nd al
   have h2:=ih (l.erase n) (nd.erase _) fun x hx=>by
    have hm:=(nd.mem_erase_iff).mp hx
    have:=al x hm.2
    have hne:=hm.1
    omega
   rw [List.length_erase] at h2
   split at h2 <;> omega
theorem RoadOk.len {sz:Int} {r:List Int} (h:RoadOk sz r):(r.length:Int)≤sz:=by
 have:=aK2 sz.toNat r h.nd fun x hx=>by have:=h.all x hx; omega
 obtain ⟨x,hx⟩:=List.exists_mem_of_ne_nil r (fun z=>by have:=h.two; rw [z] at this; simp at this)
 have:=h.all x hx
 omega
theorem bl2 (l:List Int) (m:Int):0≤af0 l m↔0≤m∧∀ x∈l,0≤x:=by
 obtain ⟨h1,h2,h3⟩:=am7 l m
 constructor
 · intro h
   exact ⟨by omega,fun x hx=>by have:=h3 x hx; omega⟩
 · rintro ⟨a,b⟩
   rcases h1 with z | z
   · omega
   · exact b _ z
theorem aW8 (hs:List Int) (n:Int) (h:∀ x∈hs,0≤x∧x < n) (h0:0 < n):(C_q9 hs n).res= .ok ():=by
 unfold C_q9 bF0
 first | unfold be3 | skip
 cases hs with
 | nil =>
   have q:¬ n≤0:=by omega
   simp [q]
 | cons a l =>
   have q1:0≤af0 l a:=(bl2 l a).mpr ⟨(h a List.mem_cons_self).1,fun x hx=>(h x (List.mem_cons_of_mem _ hx)).1⟩
   have q2:aj9 l a < n:=by
    obtain ⟨z | z,_⟩:=ao9 l a
    · rw [z]; exact (h a List.mem_cons_self).2
    · exact (h _ (List.mem_cons_of_mem _ z)).2
   have q3:¬ af0 l a < 0:=by omega
   have q4:¬ n≤aj9 l a:=by omega
   simp [q3,q4]
theorem aX1 (g:GuildT) (hs:List Int) (h:∀ x∈hs,0≤x∧x < g.house_count) (h0:0 < g.house_count):(C_e9 g hs).res= .ok ():=by
 have e:=aW8 hs g.house_count h h0
 unfold C_e9 bG1
 first | unfold bg6 | skip
 simp [e]
theorem in1 {a n:Int} (ha:0≤a∧a < n):∀ x∈[a],0≤x∧x < n:=fun x hx=>by rw [List.mem_singleton.mp hx]; exact ha
theorem in2 {a b n:Int} (ha:0≤a∧a < n) (hb:0≤b∧b < n):∀ x∈[a,b],0≤x∧x < n:=fun x hx=>by
 rcases List.mem_cons.mp hx with z | z
 · rw [z]; exact ha
 · rw [List.mem_singleton.mp z]; exact hb
theorem aC6 (g:GuildT) (a b:Int) (ha:0≤a∧a < g.house_count) (hb:0≤b∧b < g.house_count):(C_c9 g a b).res= .ok ((g.likings.get [a,b]).getD 0):=by
 have e:=aX1 g [a,b] (in2 ha hb) (by omega)
 unfold C_c9 bG3
 simp [bg8,bg7,e,ab1]
theorem aX3 (g:GuildT) (r:List Int) (hr:RoadOk g.house_count r) (h1:g.house_count≤1000):(C_f9 g r).res= .ok ():=by
 have ln:=hr.len
 have two:=hr.two
 have e:=aX1 g r hr.all (by omega)
 have e2:¬ (r.length:Int) < 2:=by omega
 have e4:r.length < 4000:=by omega
 have e3:=hr.last
 unfold C_f9 bG0
 simp [bg5,bg4,bg3,bg2,e,e2,e4,Cl.aR5,e3,bm7 hr.nd]
noncomputable def aD2 (L Q:DI Int) (r:List Int):Int:=(Q.get r).getD (match r with | a :: b :: _=>(L.get [a,b]).getD 0 | _=>0)
noncomputable def aF0 (L Q:DI Int) (r:List Int):Int×Int×List Int:=(0 - aD2 L Q r,(r.length:Int),r)
theorem at0 {α:Type} (a b:α) (t:List α):atI (a :: b :: t) 0=some a:=by rw [aw0 _ (by omega)]; rfl
theorem at1 {α:Type} (a b:α) (t:List α):atI (a :: b :: t) 1=some b:=by rw [aw0 _ (by omega)]; rfl
theorem by2 (g:GuildT) (r:List Int) (hr:RoadOk g.house_count r) (h1:g.house_count≤1000):(C_d9 g r).res= .ok (aD2 g.likings g.wish_ranks r):=by
 have e:=aX3 g r hr h1
 obtain ⟨a,b,t,rfl⟩:∃ a b t,r=a :: b :: t:=by
  match r,hr.two with
  | a :: b :: t,_=>exact ⟨a,b,t,rfl⟩
 have ha:=hr.all a (by simp)
 have hb:=hr.all b (by simp)
 have hk:=aC6 g a b ha hb
 unfold C_d9 bG2 aD2
 cases q:g.wish_ranks.get (a :: b :: t) with
 | none=>simp [aN8,aN7,aN6,an2,aN5,e,q,at0,at1,hk]
 | some v=>simp [aN8,aN7,aN6,an2,aN5,e,q]
theorem by3 (g:GuildT) (a b v:Int) (ha:0≤a∧a < g.house_count) (hb:0≤b∧b < g.house_count) (hl:g.likings.length < ab1):C_b9 g a b v= .ok () ⟨{ g with likings:=g.likings.put [a,b] v },a,b,v⟩:=by
 have e:=aX1 g [a,b] (in2 ha hb) (by omega)
 unfold C_b9 bG4
 simp [bh0,bg9,e,hl,ab1] <;> (unfold ab1 at hl; simp [hl])
theorem by0 (g:GuildT) (r:List Int) (v:Int) (hr:RoadOk g.house_count r) (h1:g.house_count≤1000) (hl:g.wish_ranks.length < ab1):C_g9 g r v= .ok () ⟨{ g with wish_ranks:=g.wish_ranks.put r v },r,v⟩:=by
 have e:=aX3 g r hr h1
 unfold C_g9 bF9
 simp [bg1,bg0,e,hl]
theorem bb5 {β:Type} {F:DI β} (hn:DI.nd F) {k:List Int} (hk:k∈F.map (·.1)):∃ v,F.get k=some v∧(k,v)∈F:=by
 obtain ⟨p,hp,rfl⟩:=List.mem_map.mp hk
 exact ⟨p.2,aT6 hn hp,hp⟩
theorem aO9 (x:Int):(C_o9 x).res= .ok true:=by
 unfold C_o9 bF2 be6
 simp
theorem aX2 (c:Int):∃ r,(C_l9 c).res= .ok r:=by
 by_cases q:c % 4=1
 · exact ⟨_,by simp [C_l9,bn2,aM9,au9,q]; rfl⟩
 · exact ⟨_,by simp [C_l9,bn2,aM9,bf4,q]; rfl⟩
theorem bI2 (L Q:DI Int) (r:List Int) (h:2≤r.length):(C_k9 L Q r).res= .ok (aD2 L Q r):=by
 obtain ⟨a,b,t,rfl⟩:∃ a b t,r=a :: b :: t:=by
  match r,h with
  | a :: b :: t,_=>exact ⟨a,b,t,rfl⟩
 unfold C_k9 bF5 aD2
 cases q:Q.get (a :: b :: t) with
 | none=>simp [aN0,bf5,q,at0,at1]
 | some v=>simp [aN0,av0,q]
structure Ok (sz:Int) (g:GuildT) (f d:DI Int) (n:Nat):Prop where
 count:g.house_count=sz
 lik:g.likings=f
 wsh:g.wish_ranks=d
 fl:f.length≤n
 dl:d.length≤n
 nd:DI.nd d
 rd:∀ p∈d,RoadOk sz p.1
theorem Ok.more {sz:Int} {g:GuildT} {f d:DI Int} {n m:Nat} (h:Ok sz g f d n) (hm:n≤m):Ok sz g f d m:=⟨h.count,h.lik,h.wsh,Nat.le_trans h.fl hm,Nat.le_trans h.dl hm,h.nd,h.rd⟩
theorem Ok.like {sz:Int} {g:GuildT} {f d:DI Int} {n:Nat} (h:Ok sz g f d n) (k:List Int) (v:Int):Ok sz { g with likings:=g.likings.put k v } (f.put k v) d (n + 1) :=
 ⟨h.count,by show g.likings.put k v=_; rw [h.lik],h.wsh,Nat.le_trans aY7 (by have:=h.fl; omega),by have:=h.dl; omega,h.nd,h.rd⟩
theorem Ok.wish {sz:Int} {g:GuildT} {f d:DI Int} {n:Nat} (h:Ok sz g f d n) {k:List Int} (v:Int) (hk:RoadOk sz k):Ok sz { g with wish_ranks:=g.wish_ranks.put k v } f (d.put k v) (n + 1) :=
 ⟨h.count,h.lik,by show g.wish_ranks.put k v=_; rw [h.wsh],by have:=h.fl; omega,Nat.le_trans aY7 (by have:=h.dl; omega),bM5 h.nd,bz2 h.rd hk⟩
theorem aX0 {sz:Int} {g:GuildT} {f d:DI Int} {n:Nat} (h:Ok sz g f d n) {a b:Int} {r:List Int} (ha:0≤a∧a < sz) (hb:0≤b∧b < sz) (hr:RoadOk sz r) (h1:sz≤60):(C_n9 g f d a b r).res= .ok true:=by
 have e1:=by2 g r (by rw [h.count]; exact hr) (by rw [h.count]; omega)
 rw [h.lik,h.wsh] at e1
 have e2:=bI2 f d r hr.two
 have e3:=aC6 g a b (by rw [h.count]; exact ha) (by rw [h.count]; exact hb)
 rw [h.lik] at e3
 unfold C_n9 bF3
 simp [bf1,bf0,be9,be8,be7,e1,e2,e3,aO9]
theorem aX4 {sz:Int} {g:GuildT} {f d:DI Int} {n:Nat} (h:Ok sz g f d n) (hn:n < 64):aJ3 (d.map (·.1))= .ok (pick (d.map (·.1)) (ac1 (d.map (·.1)))):=by
 unfold aJ3
 rw [if_pos]
 refine ⟨fun k hk=>?_,by rw [List.length_map]; have:=h.dl; omega⟩
 obtain ⟨p,hp,rfl⟩:=List.mem_map.mp hk
 intro z
 have:=(h.rd p hp).two
 rw [z] at this
 simp at this
theorem az9 {α:Type} {l:List α} {p:List Nat} {x:α} (h:x∈pick l p):x∈l:=by
 unfold pick at h
 obtain ⟨i,_,e⟩:=List.mem_filterMap.mp h
 exact List.mem_of_getElem? e
theorem aW9 {sz:Int} {g:GuildT} {f d:DI Int} {n:Nat} (h:Ok sz g f d n) (hn:n < 64):(C_h9 g).res= .ok ((pick (d.map (·.1)) (ac1 (d.map (·.1)))).map fun k=>(k,(d.get k).getD 0)):=by
 have hs:=aX4 h hn
 have hl:(pick (d.map (·.1)) (ac1 (d.map (·.1)))).length < ab1:=by
  have:=List.length_filterMap_le (fun i=>(d.map (·.1))[i]?) (ac1 (d.map (·.1)))
  have e:=(ag5 (d.map (·.1))).1
  rw [List.length_map] at e
  have:=h.dl
  unfold pick ab1
  omega
 have hm:∀ k∈pick (d.map (·.1)) (ac1 (d.map (·.1))),∃ v,d.get k=some v:=fun k hk=>by
  obtain ⟨v,e,_⟩:=bb5 h.nd (az9 hk)
  exact ⟨v,e⟩
 generalize pick (d.map (·.1)) (ac1 (d.map (·.1)))=l at hs hl hm
 have e:∀ s:S_h9,s=⟨g⟩→aG9 (unC aX6 (unC (fun g=> .ok g.wish_ranks) (pC fun p=>p.v26q))) (fun _=> .ok true) (prC (unC idC (pC fun p=>p.1)) (bnC dgC (unC (fun g=> .ok g.wish_ranks) (pC fun p=>p.2.v26q)) (pC fun p=>p.1))) s= .ok (l.map fun k=>(k,(d.get k).getD 0)):=by
  rintro s rfl
  refine bn0 (l:=l) _ ?_ hl fun k hk=>?_
  · show aJ3 (g.wish_ranks.map (·.1))=_
    rw [h.wsh]; exact hs
  · obtain ⟨v,ev⟩:=hm k hk
    simp [h.wsh,ev]
 unfold C_h9 bF8 bf9
 simp only [retC,upC]
 rw [e _ rfl]
 rfl
theorem bI1 {sz:Int} {g:GuildT} {f d:DI Int} {n:Nat} (h:Ok sz g f d n) (hn:n < 64):(C_p9 g d).res= .ok true:=by
 have e1:=aW9 h hn
 have e2:=aX4 h hn
 have hl:(pick (d.map (·.1)) (ac1 (d.map (·.1)))).length≤64:=by
  have:=List.length_filterMap_le (fun i=>(d.map (·.1))[i]?) (ac1 (d.map (·.1)))
  have e:=(ag5 (d.map (·.1))).1
  rw [List.length_map] at e
  have:=h.dl
  unfold pick
  omega
 have hm:∀ k∈pick (d.map (·.1)) (ac1 (d.map (·.1))),∃ v,d.get k=some v:=fun k hk=>by
  obtain ⟨v,e,_⟩:=bb5 h.nd (az9 hk)
  exact ⟨v,e⟩
 generalize pick (d.map (·.1)) (ac1 (d.map (·.1)))=l at e1 e2 hl hm
 have c1:aM2 ⟨g,d,none,none,none,none⟩= .nx ⟨g,d,some (l.map fun k=>(k,(d.get k).getD 0)),none,none,none⟩:=by simp [aM2,e1]
 have c2:aM1 ⟨g,d,some (l.map fun k=>(k,(d.get k).getD 0)),none,none,none⟩= .nx ⟨g,d,some (l.map fun k=>(k,(d.get k).getD 0)),some l,none,none⟩:=by simp [aM1,e2]
 have c3:aM0 ⟨g,d,some (l.map fun k=>(k,(d.get k).getD 0)),some l,none,none⟩= .nx ⟨g,d,some (l.map fun k=>(k,(d.get k).getD 0)),some l,none,none⟩:=by simp [aM0]
 obtain ⟨s',e,x,y,rfl⟩:=aQ9 (u:=fun a s=>{ s with v17q:=some a }) (c:=aO0) (fun s:S_p9=>∃ x y,s=⟨g,d,some (l.map fun k=>(k,(d.get k).getD 0)),some l,x,y⟩) (rngI 0 l.length) ⟨g,d,some (l.map fun k=>(k,(d.get k).getD 0)),some l,none,none⟩ ⟨none,none,rfl⟩ (by
  rintro i s hi ⟨x,y,rfl⟩
  have hi:=ar7.mp hi
  obtain ⟨kk,ek⟩:∃ kk,l[i.toNat]?=some kk:=⟨_,List.getElem?_eq_getElem (by omega)⟩
  obtain ⟨v,ev⟩:=hm kk (List.mem_of_getElem? ek)
  have a1:atI l i=some kk:=by rw [aw0 l hi.1]; exact ek
  have a2:atI (l.map fun k=>(k,(d.get k).getD 0)) i=some (kk,v):=by rw [aw0 _ hi.1,List.getElem?_map,ek]; simp [ev]
  refine ⟨_,.inl (by simp [aO0,aG4,aG3,aG2,a1,a2,ev,aO9] <;> rfl),some i,some (kk,v),rfl⟩)
 unfold C_p9 bF1
 simp only [seqC,c1,c2,c3]
 simp [be5,be4,as2 (lo:=0) (hi:=(l.length:Int)) (by omega) (by omega) (by omega) (by omega),e]
theorem nxs {σ β:Type} {a b:σ→FlC σ β} {s s':σ} (h:a s= .nx s'):seqC a b s=b s':=by unfold seqC; rw [h]
theorem deed {ns:List Int} {sz:Int} {g0 g1:GuildT} {f0 f1 d0 d1:DI Int} {n:Nat} (h0:Ok sz g0 f0 d0 n) (h1:Ok sz g1 f1 d1 n) (hn:n≤62) (k c m a b:Int) (r:List Int) (v:Int) (t:Int) (ht:t=0∨t=1) (hd j:_) (hz:sz≤60) (ha:0≤a∧a < sz) (hb:0≤b∧b < sz) (hr:RoadOk sz r) (K:Y_i9) :
 ∃ g0' g1' f0' f1' d0' d1' hd',Ok sz g0' f0' d0' (n + 1)∧Ok sz g1' f1' d1' (n + 1) ∧
  seqC af2 (seqC af1 (seqC ae1 K)) ⟨ns,some sz,some [g0,g1],some [f0,f1],some [d0,d1],some k,some c,some m,some a,some b,some r,some v,some t,hd,j⟩ =
   K ⟨ns,some sz,some [g0',g1'],some [f0',f1'],some [d0',d1'],some k,some c,some m,some a,some b,some r,some v,some t,hd',j⟩:=by
 have lz:∀ {k:Nat},k≤n→k < ab1:=fun h=>by unfold ab1; omega
 obtain ⟨x,y,rt,rfl⟩:∃ x y rt,r=x :: y :: rt:=by
  match r,hr.two with
  | x :: y :: rt,_=>exact ⟨x,y,rt,rfl⟩
 have hy:=hr.all y (by simp)
 have lk:∀ {g:GuildT} {f d:DI Int} (h:Ok sz g f d n) (q:Int),0≤q∧q < sz→C_b9 g a q v= .ok () ⟨{ g with likings:=g.likings.put [a,q] v },a,q,v⟩:=fun {g f d} h q hq =>
  by3 g a q v (by rw [h.count]; exact ha) (by rw [h.count]; exact hq) (by rw [h.lik]; exact lz h.fl)
 have wk:∀ {g:GuildT} {f d:DI Int} (h:Ok sz g f d n),C_g9 g (x :: y :: rt) v= .ok () ⟨{ g with wish_ranks:=g.wish_ranks.put (x :: y :: rt) v },x :: y :: rt,v⟩:=fun {g f d} h =>
  by0 g _ v (by rw [h.count]; exact hr) (by rw [h.count]; omega) (by rw [h.wsh]; exact lz h.dl)
 have c3:c % 3=0∨c % 3=1∨c % 3=2:=by omega
 rcases ht with rfl | rfl
 · have l1:=lz h0.fl
   have l2:=lz h0.dl
   rcases c3 with q | q | q
   · exact ⟨_,_,_,_,_,_,_,h0.like [a,b] v,h1.more (by omega),by simp [af2,aj2,aj1,af1,ae1,q,lk h0 b hb,l1]; rfl⟩
   · exact ⟨_,_,_,_,_,_,_,h0.wish v hr,h1.more (by omega),by simp [af2,af1,aj0,ai9,ai8,ai7,ae1,q,wk h0,l2]; rfl⟩
   · exact ⟨_,_,_,_,_,_,_,h0.like [a,y] v,h1.more (by omega),by simp [af2,af1,ae1,ah4,ah3,q,at1,lk h0 y hy,l1]; rfl⟩
 · have l1:=lz h1.fl
   have l2:=lz h1.dl
   rcases c3 with q | q | q
   · exact ⟨_,_,_,_,_,_,_,h0.more (by omega),h1.like [a,b] v,by simp [af2,aj2,aj1,af1,ae1,q,lk h1 b hb,l1]; rfl⟩
   · exact ⟨_,_,_,_,_,_,_,h0.more (by omega),h1.wish v hr,by simp [af2,af1,aj0,ai9,ai8,ai7,ae1,q,wk h1,l2]; rfl⟩
   · exact ⟨_,_,_,_,_,_,_,h0.more (by omega),h1.like [a,y] v,by simp [af2,af1,ae1,ah4,ah3,q,at1,lk h1 y hy,l1]; rfl⟩
theorem aT9 (ns:List Int) (hl:ns.length≤63):∃ s,C_i9 ns= .ok true s:=by
 have cell:∀ k:Int,0≤k→(C_j9 ns k).res= .ok (ai0 ns k):=by4 ns
 have m8:0≤ai0 ns 0 % 8∧ai0 ns 0 % 8 < 8:=⟨Int.emod_nonneg _ (by omega),Int.emod_lt_of_pos _ (by omega)⟩
 have m51:0≤ai0 ns 0 / 32 % 51∧ai0 ns 0 / 32 % 51 < 51:=⟨Int.emod_nonneg _ (by omega),Int.emod_lt_of_pos _ (by omega)⟩
 obtain ⟨sz,s1,s2,e12⟩:∃ sz,2≤sz∧sz≤60∧∀ k,seqC aB8 (seqC aB7 k) ⟨ns,none,none,none,none,none,none,none,none,none,none,none,none,none,none⟩=k ⟨ns,some sz,none,none,none,none,none,none,none,none,none,none,none,none,none⟩:=by
  by_cases q:ai0 ns 0 / 8 % 4=1
  · exact ⟨10 + ai0 ns 0 / 32 % 51,by omega,by omega,fun k=>by simp [aB8,aB7,av9,cell,q]⟩
  · exact ⟨2 + ai0 ns 0 % 8,by omega,by omega,fun k=>by simp [aB8,aB7,cell,q]⟩
 have hz0:0 < sz:=by omega
 have hz1:1 < sz:=by omega
 have hz':1≤sz:=by omega
 have e3:aN4 ⟨ns,some sz,none,none,none,none,none,none,none,none,none,none,none,none,none⟩= .nx ⟨ns,some sz,some [⟨sz,[],[],[],[]⟩,⟨sz,[],[],[],[]⟩],none,none,none,none,none,none,none,none,none,none,none,none⟩:=by simp [aN4,mk_Guild,hz',s2,ab1]
 have e4:∀ gs,aN3 ⟨ns,some sz,gs,none,none,none,none,none,none,none,none,none,none,none,none⟩= .nx ⟨ns,some sz,gs,some [[],[]],none,none,none,none,none,none,none,none,none,none,none⟩:=fun gs=>by simp [aN3,ab1]
 have e5:∀ gs,aN2 ⟨ns,some sz,gs,some [[],[]],none,none,none,none,none,none,none,none,none,none,none⟩= .nx ⟨ns,some sz,gs,some [[],[]],some [[],[]],none,none,none,none,none,none,none,none,none,none⟩:=fun gs=>by simp [aN2,ab1]
 have ok0:Ok sz ⟨sz,[],[],[],[]⟩ [] [] 0:=⟨rfl,rfl,rfl,Nat.le_refl _,Nat.le_refl _,by simp [DI.nd],fun _ h=>(nomatch h)⟩
 have lnr:=aA5 1 (ns.length:Int)
 obtain ⟨s6,e6,g0,g1,f0,f1,d0,d1,x5,x6,x7,x8,x9,x10,x11,x12,x13,x14,rfl,k0,k1⟩:=bm2 (u:=fun a s=>{ s with v17q:=some a }) (c:=aO2) (fun p (s:S_i9)=>∃ g0 g1 f0 f1 d0 d1 x5 x6 x7 x8 x9 x10 x11 x12 x13 x14,s=⟨ns,some sz,some [g0,g1],some [f0,f1],some [d0,d1],x5,x6,x7,x8,x9,x10,x11,x12,x13,x14⟩∧Ok sz g0 f0 d0 p.length∧Ok sz g1 f1 d1 p.length)
  (rngI 1 ns.length) ⟨ns,some sz,some [⟨sz,[],[],[],[]⟩,⟨sz,[],[],[],[]⟩],some [[],[]],some [[],[]],none,none,none,none,none,none,none,none,none,none⟩ ⟨_,_,_,_,_,_,none,none,none,none,none,none,none,none,none,none,rfl,ok0,ok0⟩ (by
    rintro p k r s he ⟨g0,g1,f0,f1,d0,d1,x5,x6,x7,x8,x9,x10,x11,x12,x13,x14,rfl,k0,k1⟩
    have hk:=ar7.mp (show k∈rngI 1 ns.length by rw [he]; simp)
    have hp:p.length≤62:=by
     have e:=congrArg List.length he
     rw [List.length_append,List.length_cons] at e
     omega
    obtain ⟨c,ec⟩:∃ c,atI ns k=some c:=by
     rw [aw0 ns (by omega)]
     exact ⟨_,List.getElem?_eq_getElem (by omega)⟩
    have a1:0≤c / 3 % (sz - 1):=Int.emod_nonneg _ (by omega)
    have a2:c / 3 % (sz - 1) < sz - 1:=Int.emod_lt_of_pos _ (by omega)
    have b1:0≤c / 3 / (sz - 1) % sz:=Int.emod_nonneg _ (by omega)
    have b2:c / 3 / (sz - 1) % sz < sz:=Int.emod_lt_of_pos _ hz0
    have hzd:sz - 1 < 1073741824:=by omega
    have cm:=cell (k + 1) (by omega)
    have t2:k % 2=0∨k % 2=1:=by omega
    obtain ⟨rd,er,hr,_,_⟩:=by1 (ai0 ns (k + 1)) (1 + c / 3 % (sz - 1)) sz (by omega) (by omega) (by omega)
    obtain ⟨v,ev⟩:=aX2 (ai0 ns (k + 1) + c)
    generalize ai0 ns (k + 1)=m at cm er ev
    have c1:∀ x6 x7 x8 x9 x10 x11 x12,av8 ⟨ns,some sz,some [g0,g1],some [f0,f1],some [d0,d1],some k,x6,x7,x8,x9,x10,x11,x12,x13,x14⟩= .nx ⟨ns,some sz,some [g0,g1],some [f0,f1],some [d0,d1],some k,some c,x7,x8,x9,x10,x11,x12,x13,x14⟩:=by intros; simp [av8,ec]
    have c2:∀ x7 x8 x9 x10 x11 x12,av7 ⟨ns,some sz,some [g0,g1],some [f0,f1],some [d0,d1],some k,some c,x7,x8,x9,x10,x11,x12,x13,x14⟩= .nx ⟨ns,some sz,some [g0,g1],some [f0,f1],some [d0,d1],some k,some c,some m,x8,x9,x10,x11,x12,x13,x14⟩:=by intros; simp [av7,cm]
    have c3:∀ x8 x9 x10 x11 x12,av6 ⟨ns,some sz,some [g0,g1],some [f0,f1],some [d0,d1],some k,some c,some m,x8,x9,x10,x11,x12,x13,x14⟩= .nx ⟨ns,some sz,some [g0,g1],some [f0,f1],some [d0,d1],some k,some c,some m,some (1 + c / 3 % (sz - 1)),x9,x10,x11,x12,x13,x14⟩:=by intros; simp [av6,hz1]
    have ha:0≤1 + c / 3 % (sz - 1)∧1 + c / 3 % (sz - 1) < sz:=by omega
    generalize 1 + c / 3 % (sz - 1)=a at er c3 ha
    have c4:∀ x9 x10 x11 x12,av5 ⟨ns,some sz,some [g0,g1],some [f0,f1],some [d0,d1],some k,some c,some m,some a,x9,x10,x11,x12,x13,x14⟩= .nx ⟨ns,some sz,some [g0,g1],some [f0,f1],some [d0,d1],some k,some c,some m,some a,some (c / 3 / (sz - 1) % sz),x10,x11,x12,x13,x14⟩:=by intros; simp [av5,hz0,hz1,hzd]
    generalize c / 3 / (sz - 1) % sz=b at c4 b1 b2
    have c5:∀ x10 x11 x12,av4 ⟨ns,some sz,some [g0,g1],some [f0,f1],some [d0,d1],some k,some c,some m,some a,some b,x10,x11,x12,x13,x14⟩= .nx ⟨ns,some sz,some [g0,g1],some [f0,f1],some [d0,d1],some k,some c,some m,some a,some b,some rd,x11,x12,x13,x14⟩:=by intros; simp [av4,er]
    have c6:∀ x11 x12,av3 ⟨ns,some sz,some [g0,g1],some [f0,f1],some [d0,d1],some k,some c,some m,some a,some b,some rd,x11,x12,x13,x14⟩= .nx ⟨ns,some sz,some [g0,g1],some [f0,f1],some [d0,d1],some k,some c,some m,some a,some b,some rd,some v,x12,x13,x14⟩:=by intros; simp [av3,ev]
    have c7:∀ x12,av2 ⟨ns,some sz,some [g0,g1],some [f0,f1],some [d0,d1],some k,some c,some m,some a,some b,some rd,some v,x12,x13,x14⟩= .nx ⟨ns,some sz,some [g0,g1],some [f0,f1],some [d0,d1],some k,some c,some m,some a,some b,some rd,some v,some (k % 2),x13,x14⟩:=by intros; simp [av2]
    obtain ⟨g0',g1',f0',f1',d0',d1',hd',o0,o1,ed⟩:=deed (ns:=ns) k0 k1 hp k c m a b rd v (k % 2) t2 x13 x14 s2 ha ⟨b1,b2⟩ hr ap5
    obtain ⟨s11,e11,y,rfl⟩:=aQ9 (u:=fun a s=>{ s with v16q:=some a }) (c:=ag8) (fun s:S_i9=>∃ y,s=⟨ns,some sz,some [g0',g1'],some [f0',f1'],some [d0',d1'],some k,some c,some m,some a,some b,some rd,some v,some (k % 2),hd',y⟩) (rngI 0 2) ⟨ns,some sz,some [g0',g1'],some [f0',f1'],some [d0',d1'],some k,some c,some m,some a,some b,some rd,some v,some (k % 2),hd',x14⟩ ⟨x14,rfl⟩ (by
     rintro j s hj ⟨y,rfl⟩
     have hj:=ar7.mp hj
     have t0:=aX0 o0 ha ⟨b1,b2⟩ hr s2
     have t1:=aX0 o1 ha ⟨b1,b2⟩ hr s2
     have:j=0∨j=1:=by omega
     rcases this with rfl | rfl
     · exact ⟨_,.inl (by simp [ag8,at0,t0] <;> rfl),some 0,rfl⟩
     · exact ⟨_,.inl (by simp [ag8,at1,t1] <;> rfl),some 1,rfl⟩)
    refine ⟨_,.inl ?_,g0',g1',f0',f1',d0',d1',some k,some c,some m,some a,some b,some rd,some v,some (k % 2),hd',y,rfl,by rw [List.length_append]; exact o0,by rw [List.length_append]; exact o1⟩
    unfold aO2
    rw [nxs (c1 _ _ _ _ _ _ _),nxs (c2 _ _ _ _ _ _),nxs (c3 _ _ _ _ _),nxs (c4 _ _ _ _),nxs (c5 _ _ _),nxs (c6 _ _),nxs (c7 _),ed]
    simp [ap5,as2 (lo:=0) (hi:=2) (by omega) (by omega) (by omega) (by omega),e11])
 have e6':aN1 ⟨ns,some sz,some [⟨sz,[],[],[],[]⟩,⟨sz,[],[],[],[]⟩],some [[],[]],some [[],[]],none,none,none,none,none,none,none,none,none,none⟩= .nx ⟨ns,some sz,some [g0,g1],some [f0,f1],some [d0,d1],x5,x6,x7,x8,x9,x10,x11,x12,x13,x14⟩:=by
  simp [aN1,as2 (lo:=1) (hi:=(ns.length:Int)) (by omega) (by omega) (by omega) (by omega),e6]
 have w0:=bI1 k0 (by omega)
 have w1:=bI1 k1 (by omega)
 unfold C_i9 bF7
 rw [e12,nxs e3,nxs (e4 _),nxs (e5 _),nxs e6']
 exact ⟨⟨ns,some sz,some [g0,g1],some [f0,f1],some [d0,d1],x5,x6,x7,x8,x9,x10,x11,x12,x13,x14⟩,by simp [bf8,at0,at1,w0,w1]⟩
theorem bl3 (ns:List Int) (hl:ns.length≤63):∃ ρ,m_i9 [.scr (ns.map D.int)]= .ok (.bl true) ρ:=by
 obtain ⟨s,e⟩:=aT9 ns hl
 have:=cf_i9 ns
 rw [e] at this
 exact ⟨_,this⟩
end K02
namespace K02
open PySem L2
theorem funO {K:PySem.W.Frag} {x q:Str} {st s2:Stmt} {f:Addr} (h:HD.fnO K f q=HD.fnE x q st) (e:st=s2):∃ d,Fun K x q s2 f d:=by
 subst e
 have hk:=HD.fn_keep h
 obtain ⟨oc,od,kV,doc,pm,an,cdv,ct,osl,l,c⟩:=HD.fn_of h
 have e1:HD.dA st=au7 st:=by cases st <;> rfl
 have e2:HD.dB st=ak3 st:=by cases st <;> rfl
 have e3:HD.dS st=aa9 st:=by cases st <;> rfl
 rw [e1,e2,e3] at l
 exact ⟨_,bP8 l c hk⟩
noncomputable def tns:Tns:=[]
theorem bS4 {w:World} {K:PySem.W.Frag} {h:Heap} {mg:Str→Option Value} {T:Tbs} {fa:Addr} (X:K.In h) (G:h.Ns mainGlobals mg) (hfa:mg "law" = some (.ref fa)) (TO:TabsOf mg h tns T) (y:HD.obK nsL msL fsL csL dsL esL ksL K=xpL PySem.Challenge.pw_heraldways_k02_likings_and_ranks):∃ fd:FuncData,(∀ (s:Shared) (v:Value),BindsTo s fd ⟨[v],[]⟩ [("script",v)])∧∀ base:Heap,K.In base→base.Ns mainGlobals mg→(∀ c P,PySem.W.CodeHd h c P→PySem.W.CodeHd base c P)→FnOk PySem.Challenge.rw_heraldways_k02_likings_and_ranks.prog w K mg base CX0 6 fa fd ["script"] (Mi.spT K T):=by
 have y1:=congrArg (·.1) y
 have y2:=congrArg (·.2.1) y
 have y3:=congrArg (·.2.2.1) y
 have y4:=congrArg (·.2.2.2.1) y
 have y5:=congrArg (·.2.2.2.2.1) y
 have y6:=congrArg (·.2.2.2.2.2) y
 clear y
 have e:=hfa.symm.trans (PySem.W.mg_of X G (HD.nth y1 9 rfl rfl))
 cases e
 obtain ⟨d_a9,F_a9⟩:=funO (s2:=s_a9) (HD.nth y4 0 rfl rfl) rfl
 obtain ⟨d_h9,F_h9⟩:=funO (s2:=s_h9) (HD.nth y4 1 rfl rfl) rfl
 obtain ⟨d_j9,F_j9⟩:=funO (s2:=s_j9) (HD.nth y4 2 rfl rfl) rfl
 obtain ⟨d_k9,F_k9⟩:=funO (s2:=s_k9) (HD.nth y4 3 rfl rfl) rfl
 obtain ⟨d_l9,F_l9⟩:=funO (s2:=s_l9) (HD.nth y4 4 rfl rfl) rfl
 obtain ⟨d_m9,F_m9⟩:=funO (s2:=s_m9) (HD.nth y4 5 rfl rfl) rfl
 obtain ⟨d_o9,F_o9⟩:=funO (s2:=s_o9) (HD.nth y4 6 rfl rfl) rfl
 obtain ⟨d_q9,F_q9⟩:=funO (s2:=s_q9) (HD.nth y4 7 rfl rfl) rfl
 obtain ⟨d_e9,F_e9⟩:=funO (s2:=s_e9) (HD.nth y4 8 rfl rfl) rfl
 obtain ⟨d_p9,F_p9⟩:=funO (s2:=s_p9) (HD.nth y4 9 rfl rfl) rfl
 obtain ⟨d_b9,F_b9⟩:=funO (s2:=s_b9) (HD.nth y4 10 rfl rfl) rfl
 obtain ⟨d_c9,F_c9⟩:=funO (s2:=s_c9) (HD.nth y4 11 rfl rfl) rfl
 obtain ⟨d_f9,F_f9⟩:=funO (s2:=s_f9) (HD.nth y4 12 rfl rfl) rfl
 obtain ⟨d_d9,F_d9⟩:=funO (s2:=s_d9) (HD.nth y4 13 rfl rfl) rfl
 obtain ⟨d_g9,F_g9⟩:=funO (s2:=s_g9) (HD.nth y4 14 rfl rfl) rfl
 obtain ⟨d_n9,F_n9⟩:=funO (s2:=s_n9) (HD.nth y4 15 rfl rfl) rfl
 obtain ⟨d_i9,F_i9⟩:=funO (s2:=s_i9) (HD.nth y4 16 rfl rfl) rfl
 have b_a9:=F_a9.binds (ps:=["self", "size"]) fun _ _ _ _ _ _=>L2.aE8 fun _ _=>rfl
 have b_h9:=F_h9.binds (ps:=["self"]) fun _ _ _ _ _ _=>L2.bb3 fun _=>rfl
 have b_j9:=F_j9.binds (ps:=["script", "k"]) fun _ _ _ _ _ _=>L2.aE8 fun _ _=>rfl
 have b_k9:=F_k9.binds (ps:=["fond", "dear", "road"]) fun _ _ _ _ _ _=>L2.bb2 fun _ _ _=>rfl
 have b_l9:=F_l9.binds (ps:=["cell"]) fun _ _ _ _ _ _=>L2.bb3 fun _=>rfl
 have b_m9:=F_m9.binds (ps:=["cell", "house", "size"]) fun _ _ _ _ _ _=>L2.bb2 fun _ _ _=>rfl
 have b_o9:=F_o9.binds (ps:=["found"]) fun _ _ _ _ _ _=>L2.bb3 fun _=>rfl
 have b_q9:=F_q9.binds (ps:=["houses", "count"]) fun _ _ _ _ _ _=>L2.aE8 fun _ _=>rfl
 have b_e9:=F_e9.binds (ps:=["self", "houses"]) fun _ _ _ _ _ _=>L2.aE8 fun _ _=>rfl
 have b_p9:=F_p9.binds (ps:=["guild", "dear"]) fun _ _ _ _ _ _=>L2.aE8 fun _ _=>rfl
 have b_b9:=F_b9.binds (ps:=["self", "a", "b", "rank"]) fun _ _ _ _ _ _=>L2.bO5 fun _ _ _ _=>rfl
 have b_c9:=F_c9.binds (ps:=["self", "a", "b"]) fun _ _ _ _ _ _=>L2.bb2 fun _ _ _=>rfl
 have b_f9:=F_f9.binds (ps:=["self", "road"]) fun _ _ _ _ _ _=>L2.aE8 fun _ _=>rfl
 have b_d9:=F_d9.binds (ps:=["self", "road"]) fun _ _ _ _ _ _=>L2.aE8 fun _ _=>rfl
 have b_g9:=F_g9.binds (ps:=["self", "road", "rank"]) fun _ _ _ _ _ _=>L2.bb2 fun _ _ _=>rfl
 have b_n9:=F_n9.binds (ps:=["guild", "fond", "dear", "a", "b", "road"]) fun _ _ _ _ _ _=>L2.lenV6 fun _ _ _ _ _ _=>rfl
 have b_i9:=F_i9.binds (ps:=["script"]) fun _ _ _ _ _ _=>L2.bb3 fun _=>rfl
 obtain ⟨pg_Guild,hd_Guild,po_Guild,mk_Guild,kc_Guild⟩:=HD.cls_of (HD.nth y3 8 rfl rfl)
 have hb:∀ (s:Shared) (v:Value),BindsTo s d_i9 ⟨[v],[]⟩ [("script",v)]:=by
  obtain ⟨oc,od,kV,doc,pm,an,cdv,ct,osl,rfl,lk,hcd⟩:=F_i9.ex
  exact fun s v=> .of_eq rfl
 refine ⟨d_i9,hb,fun base _ _ tr=>?_⟩
 have T0:Txt K mg ⟨206,79,d_a9,154,d_h9,217,d_j9,243,d_k9,236,d_l9,229,d_m9,224,d_o9,65,d_q9,189,d_e9,257,d_p9,121,d_b9,128,d_c9,203,d_f9,161,d_d9,149,d_g9,250,d_n9,264,d_i9⟩ base:={
  cl_Guild:=⟨pg_Guild,hd_Guild,po_Guild,HD.nth y2 8 rfl rfl⟩
  mgC_Guild:=PySem.W.mg_of X G (HD.nth y1 0 rfl rfl)
  mk_Guild:=⟨mk_Guild,HD.nth y2 0 rfl rfl,HD.nth y3 0 rfl rfl,kc_Guild⟩
  n_house_count:=HD.nth y2 9 rfl rfl
  n_ways:=HD.nth y2 10 rfl rfl
  n_likings:=HD.nth y2 11 rfl rfl
  n_shuns:=HD.nth y2 12 rfl rfl
  n_wish_ranks:=HD.nth y2 13 rfl rfl
  F_a9:=F_a9
  b_a9:=b_a9
  F_h9:=F_h9
  b_h9:=b_h9
  me_h9:=⟨HD.nth y2 1 rfl rfl,HD.nth y3 1 rfl rfl,F_h9.kp⟩
  F_j9:=F_j9
  b_j9:=b_j9
  m_j9:=PySem.W.mg_of X G (HD.nth y1 1 rfl rfl)
  kp_j9:=F_j9.kp
  F_k9:=F_k9
  b_k9:=b_k9
  m_k9:=PySem.W.mg_of X G (HD.nth y1 2 rfl rfl)
  kp_k9:=F_k9.kp
  F_l9:=F_l9
  b_l9:=b_l9
  m_l9:=PySem.W.mg_of X G (HD.nth y1 3 rfl rfl)
  kp_l9:=F_l9.kp
  F_m9:=F_m9
  b_m9:=b_m9
  m_m9:=PySem.W.mg_of X G (HD.nth y1 4 rfl rfl)
  kp_m9:=F_m9.kp
  F_o9:=F_o9
  b_o9:=b_o9
  m_o9:=PySem.W.mg_of X G (HD.nth y1 5 rfl rfl)
  kp_o9:=F_o9.kp
  F_q9:=F_q9
  b_q9:=b_q9
  m_q9:=PySem.W.mg_of X G (HD.nth y1 6 rfl rfl)
  kp_q9:=F_q9.kp
  F_e9:=F_e9
  b_e9:=b_e9
  me_e9:=⟨HD.nth y2 2 rfl rfl,HD.nth y3 2 rfl rfl,F_e9.kp⟩
  F_p9:=F_p9
  b_p9:=b_p9
  m_p9:=PySem.W.mg_of X G (HD.nth y1 7 rfl rfl)
  kp_p9:=F_p9.kp
  F_b9:=F_b9
  b_b9:=b_b9
  me_b9:=⟨HD.nth y2 3 rfl rfl,HD.nth y3 3 rfl rfl,F_b9.kp⟩
  F_c9:=F_c9
  b_c9:=b_c9
  me_c9:=⟨HD.nth y2 4 rfl rfl,HD.nth y3 4 rfl rfl,F_c9.kp⟩
  F_f9:=F_f9
  b_f9:=b_f9
  me_f9:=⟨HD.nth y2 5 rfl rfl,HD.nth y3 5 rfl rfl,F_f9.kp⟩
  F_d9:=F_d9
  b_d9:=b_d9
  me_d9:=⟨HD.nth y2 6 rfl rfl,HD.nth y3 6 rfl rfl,F_d9.kp⟩
  F_g9:=F_g9
  b_g9:=b_g9
  me_g9:=⟨HD.nth y2 7 rfl rfl,HD.nth y3 7 rfl rfl,F_g9.kp⟩
  F_n9:=F_n9
  b_n9:=b_n9
  m_n9:=PySem.W.mg_of X G (HD.nth y1 8 rfl rfl)
  kp_n9:=F_n9.kp
  F_i9:=F_i9
  b_i9:=b_i9
  m_i9:=PySem.W.mg_of X G (HD.nth y1 9 rfl rfl)
  kp_i9:=F_i9.kp
  g_SEAT:=⟨_,PySem.W.mg_of X G (HD.nth y1 10 rfl rfl)⟩
  g_MOST_HOUSES:=⟨_,PySem.W.mg_of X G (HD.nth y1 11 rfl rfl)⟩
  z_len:=PySem.W.mg_none_of X G (HD.nth y1 12 rfl rfl)
  z_range:=PySem.W.mg_none_of X G (HD.nth y1 13 rfl rfl)
  z_min:=PySem.W.mg_none_of X G (HD.nth y1 14 rfl rfl)
  z_max:=PySem.W.mg_none_of X G (HD.nth y1 15 rfl rfl)
  z_set:=PySem.W.mg_none_of X G (HD.nth y1 16 rfl rfl)
  z_list:=PySem.W.mg_none_of X G (HD.nth y1 17 rfl rfl)
  z_tuple:=PySem.W.mg_none_of X G (HD.nth y1 18 rfl rfl)
  z_isinstance:=PySem.W.mg_none_of X G (HD.nth y1 19 rfl rfl)
  z_bool:=PySem.W.mg_none_of X G (HD.nth y1 20 rfl rfl)
  z_int:=PySem.W.mg_none_of X G (HD.nth y1 21 rfl rfl)
  z_sorted:=PySem.W.mg_none_of X G (HD.nth y1 22 rfl rfl)
 }
 refine (ok_i9 T0).imp fun vs H Q E hs=>?_
 obtain ⟨a,xs,hv,hq,hl,ht,hk⟩:=hs
 refine Mi.bO7 bl3 hv hq hl (fun p hp=>?_) hk
 cases hp
theorem walk {K:PySem.W.Frag} {q:Program} {loose:List Str} {XP:(Str→Option Value)→Heap→Prop} {d:DefRec} (hdf:d.params.defaults=[]) (hnm:d.name = "law") (y:HD.obK nsL msL fsL csL dsL esL ksL K=xpL PySem.Challenge.pw_heraldways_k02_likings_and_ranks):PySem.W.WalkO q loose XP (fun _ h=>K.In h) PySem.Challenge.rw_heraldways_k02_likings_and_ranks.row.toRowW d [] (fun f vs=>PySem.call f vs) :=
 L2.bs1 (l:=PySem.Challenge.rw_heraldways_k02_likings_and_ranks) (K:=fun _=>K) (n:=63) (k:=6) (x := "script") (CX:=fun _=>CX0) (sp:=fun _ T=>Mi.spT K T) tns rfl (by decide) hdf ⟨rfl,by decide,by decide⟩ (fun _ _ Y=>Y) (fun _ h=>absurd rfl h) (fun _ h=>(nomatch h)) (by unfold Tns.ok tns; decide) (fun w mg fa h T X G hfa TO=>bS4 X G (hnm ▸ hfa) TO y) (fun w T H a ns hl hO hS=>⟨a,ns,rfl,Mi.bI0 hO hS,hl,Mi.tb_of hO,fun _=>rfl⟩) fun _ _ _ _ _ z=>z
end K02
open PySem PySem.W PyProof.Rows
set_option maxRecDepth 100000 in
set_option maxHeartbeats 0 in
theorem PySem.Challenge.cw_heraldways_k02_likings_and_ranks_holds : PySem.Challenge.rw_heraldways_k02_likings_and_ranks.Holds := by
 refine K02.hd0 fun said=>?_
 refine holds_openX (q:=K02.qP PySem.Challenge.pw_heraldways_k02_likings_and_ranks) (loose:=[]) (Xt:=fun s=>xlAt (K02.qP PySem.Challenge.pw_heraldways_k02_likings_and_ranks) [] s && recOk (RowW.records PySem.Challenge.rw_heraldways_k02_likings_and_ranks.row.toRowW) s) (XP:=XL (K02.qP PySem.Challenge.pw_heraldways_k02_likings_and_ranks) []) (Yf:=HD.ob 265 K02.nsL K02.msL K02.fsL K02.csL K02.dsL K02.esL K02.ksL) (Ya:=fun _=>K02.xpL PySem.Challenge.pw_heraldways_k02_likings_and_ranks) (N:=3690) (fun w=>HD.two (K02.left1 w) (K02.left2 w)) (fun s e=>xl_of s (Bool.and_eq_true_iff.mp e).1) XL.keeps (by rfl) (by rfl) (by rfl) (fun s e=>recFacts_of (Bool.and_eq_true_iff.mp e).2) (by rfl) said (by decide +kernel) ⟨rfl,rfl,rfl,rfl,rfl,by decide +kernel⟩ ?hw (HD.walkX fun K y=>K02.walk rfl rfl y)
 case hw=>w_witness2
