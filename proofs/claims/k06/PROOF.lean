import PyProof.Rows.All
import Wide.All
import OpenK.AllK
import Wide.FinOn
import Lean
import PyProof.EqAt
import PyProof.EqKinds
import PyProof.TupleCall
import KE.KLam
import KE.KMinKey
import KE.KDictList
import PySem.Challenge.RW_heraldways_k06_a_walk
set_option Elab.async false
set_option linter.all false
set_option maxRecDepth 100000
namespace HD
open PySem PySem.W PyProof.Rows
noncomputable def top (p:Program) (i:Nat):Stmt:=p.main.body.getD i (.Pass ⟨0,0,0,0⟩)
noncomputable def iC (s:Stmt) (j:Nat):Stmt:=match s with
 | .ClassDef _ _ _ body _ _ _ _ _ _ _=>body.getD j (.Pass ⟨0,0,0,0⟩)
 | _=> .Pass ⟨0,0,0,0⟩
noncomputable def dA (s:Stmt):Arguments:=match s with
 | .FunctionDef _ a _ _ _ _ _ _ _ _=>a
 | _=>{ posonlyargs:=[],args:=[],vararg:=none,kwonlyargs:=[],kw_defaults:=[],kwarg:=none,defaults:=[] }
noncomputable def dB (s:Stmt):List Stmt:=match s with
 | .FunctionDef _ _ b _ _ _ _ _ _ _=>b
 | _=>[]
noncomputable def dS (s:Stmt):Scope:=match s with
 | .FunctionDef _ _ _ _ _ _ sc _ _ _=>sc
 | _=>{ kind:= .function,names:=[],isGenerator:=false,isCoroutine:=false }
noncomputable def frag (as:List Addr) (h:Heap):Frag:=as.filterMap fun a=>(h.get? a).map fun o=>(a,o)
theorem bg2 (as:List Addr) (h:Heap):(frag as h).In h:=by
 intro a o e
 induction as with
 | nil=>cases e
 | cons b as ih =>
   unfold frag at e
   rw [List.filterMap_cons] at e
   cases q:h.get? b with
   | none =>
     rw [q] at e
     exact ih e
   | some x =>
     rw [q] at e
     replace e:List.lookup a ((b,x) :: frag as h)=some o:=e
     rw [List.lookup_cons] at e
     by_cases z:a=b
     · subst z
       rw [beq_self_eq_true a] at e
       cases e
       exact q
     · rw [beq_eq_false_iff_ne.mpr z] at e
       exact ih e
noncomputable abbrev FnO:=Str×Str×Arguments×FuncBody×Scope×Addr×List (Str×Addr)×Value×Addr×Bool
noncomputable def fnO (K:Frag) (f:Addr) (q:Str):Option FnO:=match K.lookup f with
 | some ⟨_,_,.func fd,_⟩=>some (fd.name,fd.qualname,fd.params,fd.body,fd.scope,fd.globals,fd.closure,fd.defaults,fd.builtins,codeIn K fd.code q)
 | _=>none
noncomputable def fnE (x q:Str) (st:Stmt):Option FnO:=some (x,q,dA st,.stmts (dB st),dS st,mainGlobals,[],.none,builtinsNs,true)
theorem fn_of {K:Frag} {f:Addr} {x q:Str} {st:Stmt} (h:fnO K f q=fnE x q st):∃ (oc:Value) (od:Option Addr) (kV doc pm:Value) (an:Option Addr) (cdv ct:Value) (osl:Array (Option Value)),
 K.lookup f=some ⟨oc,od,.func (fnOf x q (dA st) (dB st) (dS st) .none kV doc pm an cdv ct),osl⟩∧codeIn K cdv q=true:=by
 unfold fnO at h
 split at h
 · next oc od fd osl e =>
   obtain ⟨n,qn,pr,bd,sc,gl,cl,df,kd,dc,pm,an,cd,ct,bi⟩:=fd
   unfold fnE at h
   simp only [Option.some.injEq,Prod.mk.injEq] at h
   obtain ⟨rfl,rfl,rfl,rfl,rfl,rfl,rfl,rfl,rfl,hc⟩:=h
   exact ⟨oc,od,kd,dc,pm,an,cd,ct,osl,e,hc⟩
 · exact nomatch h
theorem fn_keep {K:Frag} {f:Addr} {x q:Str} {st:Stmt} (h:fnO K f q=fnE x q st):keepIn K (.ref f)=true:=by
 obtain ⟨oc,od,kV,doc,pm,an,cdv,ct,osl,e,_⟩:=fn_of h
 show (match K.lookup f with | some ⟨_,_,.func _,_⟩=>true | some ⟨_,_,.cls _,_⟩=>specialIn K (.ref f) "__call__" == some (some (.builtin "type.__call__")) | _=>false)=true
 rw [e]
noncomputable def mroK (K:Frag) (C:Addr):List Value:=match K.lookup C with
 | some ⟨_,_,.cls cd,_⟩=>cd.mro
 | _=>[]
noncomputable def excK (K:Frag) (C:Addr):Bool:=excIn K C [.type "ValueError",.type "Exception",.type "BaseException",.type "object"] "ValueError.__new__"
noncomputable abbrev Ob:=List (Option (Option Value))×List (Option (Option Value))×List Bool×List (Option FnO)×List (Bool×List Value)×List (Option Bool)
noncomputable def cls (K:Frag) (C:Addr):Bool:=plainGet K C Str.empty && (hasDictIn K C && (plainOver K C && (makesIn K C && keepIn K (.ref C))))
noncomputable def obK (ns:List Str) (ms:List (Addr×Str)) (fs cs:List Addr) (ds:List (Addr×Str)) (es:List Addr) (ks:List (Addr×Value)) (K:Frag):Ob :=
 (ns.map (nsIn K mainGlobals),ms.map (fun p=>findIn K (.ref p.1) p.2),(fs.map fun f=>isFn K (.ref f)) ++ cs.map (cls K),ds.map (fun p=>fnO K p.1 p.2),es.map (fun C=>(excK K C,mroK K C)),ks.map fun p=>kitOne K (.ref p.1) p.2)
noncomputable def ob (n:Nat) (ns:List Str) (ms:List (Addr×Str)) (fs cs:List Addr) (ds:List (Addr×Str)) (es:List Addr) (ks:List (Addr×Value)) (s:Shared):Ob:=obK ns ms fs cs ds es ks (frag (List.range n) s.heap)
theorem two {α β γ:Type} {o:Option α} {f:α→β} {g:α→γ} {a:β} {b:γ} (h1:o.map f=some a) (h2:o.map g=some b):o.map (fun s=>(f s,g s))=some (a,b):=by
 cases o with
 | none=>cases h1
 | some s=>cases h1; cases h2; rfl
theorem nth {α:Type} {l m:List α} (h:l=m) (i:Nat) {a b:α} (ha:l[i]?=some a) (hb:m[i]?=some b):a=b:=by
 subst h
 rw [ha] at hb
 exact Option.some.inj hb
theorem walkX {q:Program} {loose:List Str} {XP:(Str→Option Value)→Heap→Prop} {n:Nat} {ns:List Str} {ms:List (Addr×Str)} {fs cs:List Addr} {ds:List (Addr×Str)} {es:List Addr} {ks:List (Addr×Value)} {E:Ob} {r:RowW} {d:DefRec} {kwd:List (Str×Expr)} {run:Value→List Value→Sem Value}
 (W:∀ K:Frag,obK ns ms fs cs ds es ks K=E→WalkO q loose XP (fun _ h=>K.In h) r d kwd run):WalkX q loose XP (ob n ns ms fs cs ds es ks) (fun _=>E) r d kwd run :=
 fun w s0 s1 mg mb G y a o pm cd doc dV kV h1 h2 h3 h4 h5 h6 args vals as1 L b1 b2 b3 b4 b5=>W _ y w s0 s1 mg mb G ((bg2 _ _).keeps L.keeps) a o pm cd doc dV kV h1 h2 h3 h4 h5 h6 args vals as1 b1 b2 b3 b4 b5
end HD
set_option maxHeartbeats 4000000
namespace K06
open PySem PySem.W PyProof.Rows
theorem hd0 (h:PySem.Challenge.rw_heraldways_k06_a_walk.row.wellSaid=true→PySem.Challenge.rw_heraldways_k06_a_walk.row.Holds):PySem.Challenge.rw_heraldways_k06_a_walk.Holds:=by
 w_on; o_law; exact h (by assumption)
noncomputable abbrev qP (p:Program):Program:=view p [1,2,4,5,7,9,11,12,13,14,15,16,17]
noncomputable def nsL:List Str := "_law_cell_at" :: "_law_road_by" :: "_law_whole" :: "require_within" :: "_law_same_road" :: "_law_table_by" :: "require_told_houses" :: "walk" :: "_law_no_house" :: "law" :: "SEAT" :: "len" :: "range" :: "min" :: "max" :: "list" :: "tuple" :: "isinstance" :: "bool" :: "int" :: "str" :: "GuildError" :: "NoHouse" :: []
noncomputable def msL:List (Addr×Str):=[]
noncomputable def fsL:List Addr:=[]
noncomputable def csL:List Addr:=[]
noncomputable def dsL:List (Addr×Str):=(67, "_law_cell_at") :: (86, "_law_road_by") :: (74, "_law_whole") :: (46, "require_within") :: (81, "_law_same_road") :: (93, "_law_table_by") :: (53, "require_told_houses") :: (60, "walk") :: (100, "_law_no_house") :: (105, "law") :: []
noncomputable def esL:List Addr:=[24,37]
noncomputable def ksL:List (Addr×Value):=(37,.ref 24) :: []
noncomputable def xpL (p:Program):HD.Ob:=(some (some (.ref 67)) :: some (some (.ref 86)) :: some (some (.ref 74)) :: some (some (.ref 46)) :: some (some (.ref 81)) :: some (some (.ref 93)) :: some (some (.ref 53)) :: some (some (.ref 60)) :: some (some (.ref 100)) :: some (some (.ref 105)) :: some (some (.int 0 225)) :: some none :: some none :: some none :: some none :: some none :: some none :: some none :: some none :: some none :: some none :: some (some (.ref 24)) :: some (some (.ref 37)) :: [],[],[],HD.fnE "_law_cell_at" "_law_cell_at" (HD.top p 11) :: HD.fnE "_law_road_by" "_law_road_by" (HD.top p 14) :: HD.fnE "_law_whole" "_law_whole" (HD.top p 12) :: HD.fnE "require_within" "require_within" (HD.top p 5) :: HD.fnE "_law_same_road" "_law_same_road" (HD.top p 13) :: HD.fnE "_law_table_by" "_law_table_by" (HD.top p 15) :: HD.fnE "require_told_houses" "require_told_houses" (HD.top p 7) :: HD.fnE "walk" "walk" (HD.top p 9) :: HD.fnE "_law_no_house" "_law_no_house" (HD.top p 16) :: HD.fnE "law" "law" (HD.top p 17) :: [],(true,[.ref 24,.type "ValueError",.type "Exception",.type "BaseException",.type "object"]) :: (true,[.ref 37,.ref 24,.type "ValueError",.type "Exception",.type "BaseException",.type "object"]) :: [],some true :: [])
theorem left1 (w:World):(openEnds treeTable PySem.Challenge.pw_heraldways_k06_a_walk w 1632).map (openSeen (qP PySem.Challenge.pw_heraldways_k06_a_walk) [] (importedModules PySem.Challenge.pw_heraldways_k06_a_walk.main.body) (fun s=>xlAt (qP PySem.Challenge.pw_heraldways_k06_a_walk) [] s && recOk (RowW.records PySem.Challenge.rw_heraldways_k06_a_walk.row.toRowW) s) true)=some (openGood (qP PySem.Challenge.pw_heraldways_k06_a_walk) []):=by
 rw [Fast.te14364793385576792824,Fast.te4187177175401517315,Fast.te5923862056798008813,Fast.te4686589776963958229]
 kernel_rfl
theorem left2 (w:World):(openEnds treeTable PySem.Challenge.pw_heraldways_k06_a_walk w 1632).map (HD.ob 106 nsL msL fsL csL dsL esL ksL)=some (xpL PySem.Challenge.pw_heraldways_k06_a_walk):=by
 rw [Fast.te14364793385576792824,Fast.te4686589776963958229]
 kernel_rfl
end K06
namespace L2
open PySem PySem.Spec PyProof.Rows
noncomputable abbrev Key:=Sum Int Str
noncomputable def bo5:Key→Value→Bool
 | .inl k,v=>Value.isInt k v
 | .inr x,v=>Value.isStrOf x v
noncomputable def keyH (w:World):Key→Int
 | .inl k=>hashInt k
 | .inr x=>hashStr w x
theorem ab8:∀ {k:Key} {v:Value},bo5 k v=true→(∃ i t,k=Sum.inl i∧v=Value.int i t)∨(∃ x t,k=Sum.inr x∧v=Value.str x t)
 | .inl i,v,h=>by
   obtain ⟨t,e⟩:=Value.isInt_shape (k:=i) (v:=v) h
   exact .inl ⟨i,t,rfl,e⟩
 | .inr x,v,h=>by
   obtain ⟨t,e⟩:=Value.isStrOf_shape (x:=x) (v:=v) h
   exact .inr ⟨x,t,rfl,e⟩
theorem bo4 (a b:Int):decide ((Sum.inl a:Key)=Sum.inl b)=(a == b):=by
 by_cases e:a=b
 · subst e; simp
 · have h:¬ (Sum.inl a:Key)=Sum.inl b:=fun q=>e (Sum.inl.inj q)
   rw [decide_eq_false h]
   exact (beq_eq_false_iff_ne.mpr e).symm
theorem bo1 (a b:Str):decide ((Sum.inr a:Key)=Sum.inr b)=decide (a=b):=by
 by_cases e:a=b
 · subst e; simp
 · have h:¬ (Sum.inr a:Key)=Sum.inr b:=fun q=>e (Sum.inr.inj q)
   rw [decide_eq_false h,decide_eq_false e]
theorem bo3 (a:Int) (b:Str):decide ((Sum.inl a:Key)=Sum.inr b)=false:=decide_eq_false (fun q=>nomatch q)
theorem bo2 (a:Str) (b:Int):decide ((Sum.inr a:Key)=Sum.inl b)=false:=decide_eq_false (fun q=>nomatch q)
noncomputable def aL1 (prog:Program) (w:World):PySem.KeyKind prog w Key where
 is:=bo5
 hash:=keyH w
 inj:=fun v a b ha hb=>by
  rcases ab8 ha with ⟨i,t,rfl,rfl⟩ | ⟨x,t,rfl,rfl⟩
  · rcases ab8 hb with ⟨j,u,rfl,e⟩ | ⟨y,u,rfl,e⟩
    · injection e with e1 _; rw [e1]
    · exact nomatch e
  · rcases ab8 hb with ⟨j,u,rfl,e⟩ | ⟨y,u,rfl,e⟩
    · exact nomatch e
    · injection e with e1 _; rw [e1]
 byValue:=fun k v h=>by
  rcases ab8 h with ⟨i,t,rfl,rfl⟩ | ⟨x,t,rfl,rfl⟩ <;> rfl
 pyHash:=fun hv h=>by
  rcases ab8 hv with ⟨i,t,rfl,rfl⟩ | ⟨x,t,rfl,rfl⟩
  · exact wpAny_pyHash_int h
  · exact wpAny_pyHash_str h
 eqBool:=fun hu hv h=>by
  rcases ab8 hu with ⟨i,t,rfl,rfl⟩ | ⟨x,t,rfl,rfl⟩
  · rcases ab8 hv with ⟨j,u,rfl,rfl⟩ | ⟨y,u,rfl,rfl⟩
    · rw [bo4] at h; exact wpAny_eqBool_int h
    · rw [bo3] at h; exact SeqAt.EqAt.int_str i t y u _ _ _ _ h
  · rcases ab8 hv with ⟨j,u,rfl,rfl⟩ | ⟨y,u,rfl,rfl⟩
    · rw [bo2] at h; exact SeqAt.EqAt.str_int x t j u _ _ _ _ h
    · rw [bo1] at h; exact wpAny_eqBool_str h
 «strs»:=fun k x t v h=>by
  rcases ab8 h with ⟨i,u,rfl,e⟩ | ⟨y,u,rfl,e⟩
  · exact nomatch e
  · injection e with e1 _
    subst e1
    cases v <;> rfl
inductive V where
 | non | bl (b:Bool) | int (i:Int) | str (x:Str) | byt (b:Array UInt8) | flt (b:UInt64) | ref (a:Addr) | ty (n:String)
 deriving DecidableEq
noncomputable def RelV:V→Value→Prop
 | .non,u=>u=Value.none
 | .bl b,u=>u=Value.bool b
 | .int i,u=>∃ t,u=Value.int i t
 | .str x,u=>∃ t,u=Value.str x t
 | .byt b,u=>∃ t,u=Value.bytes b t
 | .flt b,u=>∃ t,u=Value.float b t
 | .ref a,u=>u=Value.ref a
 | .ty n,u=>u=Value.type n
noncomputable abbrev Vals:List V→List Value→Prop:=Paired RelV
theorem Vals.length {xs:List V} {us:List Value} (r:Vals xs us):xs.length=us.length:=Paired.length r
theorem Vals.get:∀ {xs:List V} {us:List Value} {i:Nat} {x:V},Vals xs us→xs[i]?=some x→∃ u,us[i]?=some u∧RelV x u
 | _,_,_,_,.nil,e=>by simp at e
 | _,_,0,_,.cons r _,e=>by simp at e; subst e; exact ⟨_,rfl,r⟩
 | _,_,i + 1,x,.cons _ t,e=>by
   obtain ⟨u,h1,h2⟩:=Vals.get (i:=i) (x:=x) t (by simpa using e)
   exact ⟨u,by simpa using h1,h2⟩
theorem Vals.set {x:V} {u:Value} (r:RelV x u):∀ {xs:List V} {us:List Value} (i:Nat),Vals xs us→Vals (xs.set i x) (us.set i u)
 | _,_,_,.nil=> .nil
 | _,_,0,.cons _ t=> .cons r t
 | _,_,i + 1,.cons q t=> .cons q (Vals.set r i t)
theorem Vals.append:∀ {xs ys:List V} {us ws:List Value},Vals xs us→Vals ys ws→Vals (xs ++ ys) (us ++ ws)
 | _,_,_,_,.nil,s=>s
 | _,_,_,_,.cons r t,s=> .cons r (Vals.append t s)
theorem Vals.take:∀ {xs:List V} {us:List Value} (n:Nat),Vals xs us→Vals (xs.take n) (us.take n)
 | _,_,0,_=> .nil
 | _,_,_ + 1,.nil=> .nil
 | _,_,n + 1,.cons r t=> .cons r (Vals.take n t)
theorem Vals.drop:∀ {xs:List V} {us:List Value} (n:Nat),Vals xs us→Vals (xs.drop n) (us.drop n)
 | _,_,0,r=>r
 | _,_,_ + 1,.nil=> .nil
 | _,_,n + 1,.cons _ t=>Vals.drop n t
noncomputable def RelO:Option V→Option Value→Prop
 | some v,some u=>RelV v u
 | none,none=>True
 | _,_=>False
noncomputable def KV {κ:Type}:List (κ×V)→List (κ×Value)→Prop:=Paired fun (p:κ×V) (q:κ×Value)=>p.1=q.1∧RelV p.2 q.2
noncomputable def kV:Key→V
 | .inl i=> .int i
 | .inr x=> .str x
inductive HO where
 /-- a list -/
 | lst (xs:List V)
 /-- a tuple (never changes) -/
 | tup (xs:List V)
 /-- a dict whose keys are ints and texts; one whose keys are tuples of ints and texts (the empty one is both) -/
 | dK (kvs:List (Key×V)) | dT (kvs:List (List Key×V))
 /-- a set of ints: its members,its size -/
 | set (S:Int→Bool) (n:Nat)
 /-- an instance of the class at C,its dict at dx,its attributes -/
 | ins (C dx:Addr) (fs:List (Str×V))
 /-- the dict of the instance at x -/
 | own (x:Addr)
 /-- the dict of an exception -/
 | xd (fs:List (Str×V))
 /-- a bound method,f of x -/
 | met (f x:Addr)
 /-- a range object lo,lo + 1,.. below hi -/
 | rng (lo hi:Int)
 /-- a thing that is known to the object (the script; a dict while a loop walks it): read,never written while it is so -/
 | frz (o:Obj) (u:HO)
 /-- a code object's table: at each of these places nothing,or a code of that name -/
 | tbl (l:List (Pos×Str))
 /-- any other thing,by what is true of its one object (a def of one's own: SetO a S n:=HO.ext fun h=> ..) -/
 | ext (φ:Heap→Prop)
noncomputable abbrev Hp:=Addr→Option HO
noncomputable def upd (H:Hp) (a:Addr) (o:HO):Hp:=fun b=>if b=a then some o else H b
theorem ad5 {H:Hp} {a:Addr} {o:HO}:upd H a o a=some o:=by unfold upd; rw [if_pos rfl]
theorem ab7 {H:Hp} {a b:Addr} {o:HO} (h:b≠a):upd H a o b=H b:=by unfold upd; rw [if_neg h]
theorem bm5 {H:Hp} {a b:Addr} {o u:HO} (h:H a=some o) (h':H b=some u) (d:o≠u):a≠b:=by
 intro e; subst e; rw [h] at h'; exact d (Option.some.inj h')
theorem aa7 {H:Hp} {a b:Addr} {o:HO} (h:H a=some o) (h':H b=none):a≠b:=by
 intro e; subst e; rw [h] at h'; cases h'
section
variable (P:Program) (w:World)
noncomputable def ObjOk (H:Hp) (h:Heap) (a:Addr):HO→Prop
 | .lst xs=>xs.length≤sizeLine∧∃ (its:List Value) (n:Nat),Vals xs its∧h.get? a=some { cls:= .type "list",data:= .seq its.toArray n }
 | .tup xs=>xs.length≤sizeLine∧∃ its:List Value,Vals xs its∧IsTup h a its.toArray
 | .dK kvs=>kvs.length≤sizeLine∧(a == sysModules)=false∧∃ vs,KV kvs vs∧h.DictOf (aL1 P w) a vs
 | .dT kvs=>kvs.length≤sizeLine∧(a == sysModules)=false∧∃ xs:List (List Key×Addr×Value),
    Paired (fun (p:List Key×V) (q:List Key×Addr×Value)=>p.1=q.1∧H q.2.1=some (.tup (p.1.map kV))∧RelV p.2 q.2.2) kvs xs ∧
    ∃ o es ep,h.get? a=some o∧o.ExactDict∧o.data= .dict es ep∧es.toList=xs.map (entryOfKey (tupleKind (aL1 P w)))∧(xs.map (·.1)).Nodup
 | .set S n=>h.SetOf (intKind P w) a S n
 | .ins C dx fs=>H dx=some (.own a)∧fs.length≤1000∧dx≠a∧h.get? a=some (PySem.W.instObj C dx) ∧
    ∃ mA,h.Ns1 dx mA∧(∀ f,RelO (fs.lookup f) (mA f))∧PySem.Within mA (fs.map (·.1))
 | .own _=>∃ o,h.get? a=some o
 | .xd fs=>∃ mA,h.Ns1 a mA∧∀ f,RelO (fs.lookup f) (mA f)
 | .rng lo hi=>∃ t u v,h.get? a=some { cls:= .type "range",data:= .fields #[.int lo t,.int hi u,.int 1 v] }
 | .frz o u=>h.get? a=some o∧ObjOk H h a u
 | .tbl l=>(∀ y∈l,∀ z∈l,y.1.line=z.1.line→y.1.col=z.1.col→y.2=z.2)∧∃ ps:Array Value,h.get? a=some { cls:= .none,data:= .fields ps }∧TriplesOk ps.toList∧∀ x∈l,codeAmong x.1 ps.toList=none∨∃ c,codeAmong x.1 ps.toList=some (.ref c)∧H c=some (.own a)∧h.CodeRec (.ref c) x.2
 | .met f x=>h.get? a=some (PySem.W.methodObj (.ref f) (.ref x))
 | .ext φ=>φ h∧(∃ o,h.get? a=some o)∧∀ h1 h2:Heap,φ h1→(∀ o,h1.get? a=some o→h2.get? a=some o)→φ h2
noncomputable def HOk (H:Hp) (h:Heap):Prop:=∀ a o,H a=some o→ObjOk P w H h a o
end
section
variable {P:Program} {w:World} {H H':Hp} {h h':Heap} {a:Addr} {o:HO}
theorem ObjOk.lt (x:ObjOk P w H h a o):a < h.objs.size:=by
 cases o with
 | lst xs=>obtain ⟨_,_,_,_,e⟩:=x; exact Heap.lt_size e
 | tup xs=>obtain ⟨_,_,_,p⟩:=x; exact p.lt
 | dK kvs=>obtain ⟨_,_,_,_,o,_,_,e,_⟩:=x; exact Heap.lt_size e
 | dT kvs=>obtain ⟨_,_,_,_,o,_,_,e,_⟩:=x; exact Heap.lt_size e
 | set S n=>obtain ⟨o,_,_,_,e,_⟩:=x; exact Heap.lt_size e
 | ins C dx fs=>obtain ⟨_,_,_,e,_⟩:=x; exact Heap.lt_size e
 | own y=>obtain ⟨_,e⟩:=x; exact Heap.lt_size e
 | xd fs=>obtain ⟨_,⟨_,_,_,e,_⟩,_⟩:=x; exact Heap.lt_size e
 | rng lo hi=>obtain ⟨_,_,_,e⟩:=x; exact Heap.lt_size e
 | frz ob u=>obtain ⟨e,_⟩:=x; exact Heap.lt_size e
 | tbl l=>obtain ⟨_,_,e,_⟩:=x; exact Heap.lt_size e
 | met f y=>exact Heap.lt_size (show h.get? a=some _ from x)
 | ext φ=>obtain ⟨_,⟨_,e⟩,_⟩:=x; exact Heap.lt_size e
theorem Paired.mapP {α β:Type} {F G:α→β→Prop}:∀ {l₁:List α} {l₂:List β},Paired F l₁ l₂→(∀ a b,F a b→G a b)→Paired G l₁ l₂
 | _,_,.nil,_=> .nil
 | _,_,.cons r t,f=> .cons (f _ _ r) (Paired.mapP t f)
theorem ObjOk.stay (x:ObjOk P w H h a o) (k:∀ b u,(b=a∨H b=some (.own a))→h.get? b=some u→h'.get? b=some u)
 (ho:∀ b,H b=some (.own a)→H' b=some (.own a)) (ht:∀ b xs,H b=some (.tup xs)→H' b=some (.tup xs)):ObjOk P w H' h' a o:=by
 induction o with
 | lst xs=>obtain ⟨z,its,n,r,e⟩:=x; exact ⟨z,its,n,r,k _ _ (.inl rfl) e⟩
 | tup xs=>obtain ⟨z,its,r,ob,e,c⟩:=x; exact ⟨z,its,r,ob,k _ _ (.inl rfl) e,c⟩
 | dK kvs=>obtain ⟨z,y,vs,r,ob,es,ep,e,c⟩:=x; exact ⟨z,y,vs,r,ob,es,ep,k _ _ (.inl rfl) e,c⟩
 | dT kvs =>
   obtain ⟨z,y,xs,r,ob,es,ep,e,c⟩:=x
   exact ⟨z,y,xs,Paired.mapP r fun p q z=>⟨z.1,ht _ _ z.2.1,z.2.2⟩,ob,es,ep,k _ _ (.inl rfl) e,c⟩
 | set S n=>obtain ⟨ob,es,ep,t,e,c⟩:=x; exact ⟨ob,es,ep,t,k _ _ (.inl rfl) e,c⟩
 | ins C dx fs =>
   obtain ⟨d,z,ne,e,mA,⟨od,es,ep,e2,c⟩,r⟩:=x
   exact ⟨ho _ d,z,ne,k _ _ (.inl rfl) e,mA,⟨od,es,ep,k _ _ (.inr d) e2,c⟩,r⟩
 | own y=>obtain ⟨ob,e⟩:=x; exact ⟨ob,k _ _ (.inl rfl) e⟩
 | xd fs=>obtain ⟨mA,⟨od,es,ep,e,c⟩,r⟩:=x; exact ⟨mA,⟨od,es,ep,k _ _ (.inl rfl) e,c⟩,r⟩
 | rng lo hi=>obtain ⟨t,u,v,e⟩:=x; exact ⟨t,u,v,k _ _ (.inl rfl) e⟩
 | frz ob u ih=>obtain ⟨e,q⟩:=x; exact ⟨k _ _ (.inl rfl) e,ih q⟩
 | tbl l =>
   obtain ⟨cl,ps,e,t,q⟩:=x
   refine ⟨cl,ps,k _ _ (.inl rfl) e,t,fun y hy=>?_⟩
   rcases q y hy with z | ⟨c,z,hc,⟨c',o,vs,tt,ec,g,r⟩⟩
   · exact .inl z
   · cases ec
     exact .inr ⟨c,z,ho _ hc,⟨c,o,vs,tt,rfl,k _ _ (.inr hc) g,r⟩⟩
 | met f y =>
   have e:h.get? a=some (PySem.W.methodObj (.ref f) (.ref y)):=x
   show h'.get? a=some (PySem.W.methodObj (.ref f) (.ref y))
   exact k a _ (.inl rfl) e
 | ext φ=>obtain ⟨p,⟨o,e⟩,st⟩:=x; exact ⟨st _ _ p fun o q=>k _ _ (.inl rfl) q,⟨o,k _ _ (.inl rfl) e⟩,st⟩
theorem HOk.lt (x:HOk P w H h) (e:H a=some o):a < h.objs.size:=(x a o e).lt
theorem HOk.fresh (x:HOk P w H h) (e:h.objs.size≤a):H a=none:=by
 cases q:H a with
 | none=>rfl
 | some u=>exact absurd (Nat.lt_of_lt_of_le (x.lt q) e) (Nat.lt_irrefl _)
theorem HOk.kept (x:HOk P w H h) (k:∀ b u,h.get? b=some u→h'.get? b=some u):HOk P w H h':=fun a o e =>
 (x a o e).stay (fun b u _ q=>k b u q) (fun _ q=>q) fun _ _ q=>q
theorem HOk.laid (x:HOk P w H h) (k:∀ b u,h.get? b=some u→h'.get? b=some u) (hp:h.objs.size≤a) (new:ObjOk P w (upd H a o) h' a o):HOk P w (upd H a o) h':=fun b u e=>by
 have hn:=x.fresh hp
 by_cases hb:b=a
 · subst hb; rw [ad5] at e; cases e; exact new
 · rw [ab7 hb] at e
   exact (x b u e).stay (fun c v _ q=>k c v q) (fun c q=>by rw [ab7 (aa7 q hn)]; exact q) fun c xs q=>by rw [ab7 (aa7 q hn)]; exact q
end
noncomputable def Rd (H:Hp) (a:Addr) (u:HO):Prop:=H a=some u∨∃ o,H a=some (.frz o u)
theorem Rd.of {H:Hp} {a:Addr} {u:HO} (h:H a=some u):Rd H a u:= .inl h
theorem Rd.ok {P:Program} {w:World} {H:Hp} {h:Heap} {a:Addr} {u:HO} (r:Rd H a u) (x:HOk P w H h):ObjOk P w H h a u:=by
 rcases r with r | ⟨o,r⟩
 · exact x a u r
 · obtain ⟨_,q⟩:=x a _ r
   exact q
noncomputable def Mut:Option HO→Prop
 | some (.lst _)=>True
 | some (.dK _)=>True
 | some (.dT _)=>True
 | some (.set _ _)=>True
 | some (.ins _ _ _)=>True
 | some (.ext _)=>True
 | _=>False
section
variable {P:Program} {w:World} {H:Hp} {h h':Heap} {x e:Addr} {o':HO}
theorem HOk.write (ok:HOk P w H h) (mu:Mut (H x)) (he:e=x∨H e=some (.own x)) (k:∀ b u,b≠e→h.get? b=some u→h'.get? b=some u) (heo:∃ u,h'.get? e=some u)
 (new:ObjOk P w (upd H x o') h' x o'):HOk P w (upd H x o') h':=fun b u q=>by
 have nown:∀ c y,H c=some (.own y)→c≠x:=fun c y r z=>by subst z; rw [r] at mu; exact mu
 have ntup:∀ c xs,H c=some (.tup xs)→c≠x:=fun c xs r z=>by subst z; rw [r] at mu; exact mu
 by_cases hb:b=x
 · subst hb; rw [ad5] at q; cases q; exact new
 · rw [ab7 hb] at q
   by_cases hbe:b=e
   · have q':H b=some (.own x):=by
      rcases he with z | z
      · exact absurd (hbe.trans z) hb
      · rw [hbe]; exact z
     rw [q] at q'; cases q'
     obtain ⟨v,hv⟩:=heo
     exact ⟨v,by rw [hbe]; exact hv⟩
   · refine (ok b u q).stay (fun c v hc r=>k c v ?_ r) (fun c r=>by rw [ab7 (nown c b r)]; exact r) fun c xs r=>by rw [ab7 (ntup c xs r)]; exact r
     rcases hc with rfl | hc
     · exact hbe
     · rintro rfl
       rcases he with z | z
       · exact nown c b hc z
       · rw [hc] at z; cases z; exact hb rfl
end
structure Un (fs ex:List Addr) (H H':Hp) (h h':Heap):Prop where
 keep:∀ b o,h.get? b=some o→H b=none→b∉fs→b∉ex→h'.get? b=some o
 slot:∀ b o,h.get? b=some o→H b=none→b∈fs→b∉ex→∃ sl,h'.get? b=some { o with slots:=sl }
 free:∀ b o,h.get? b=some o→H b=none→b∉ex→H' b=none
 there:∀ b o,h.get? b=some o→b∉ex→∃ o',h'.get? b=some o'
 tups:∀ b xs,H b=some (.tup xs)→H' b=some (.tup xs)
 frzs:∀ b o u,H b=some (.frz o u)→H' b=some (.frz o u)
 tbls:∀ b l,H b=some (.tbl l)→H' b=some (.tbl l)∧∀ c o,H c=some (.own b)→h.get? c=some o→H' c=some (.own b)∧h'.get? c=some o
section
variable {fs fs' ex ex':List Addr} {H H1 H2:Hp} {h h1 h2 h':Heap} {a x e:Addr} {o:HO}
theorem Un.any (u:Un fs ex H H1 h h1) {b:Addr} {ob:Obj} (q:h.get? b=some ob) (n:H b=none) (hx:b∉ex):∃ sl,h1.get? b=some { ob with slots:=sl }:=by
 by_cases hb:b∈fs
 · exact u.slot b ob q n hb hx
 · exact ⟨ob.slots,u.keep b ob q n hb hx⟩
theorem Un.trans (a:Un fs ex H H1 h h1) (b:Un fs ex H1 H2 h1 h2):Un fs ex H H2 h h2 where
 keep:=fun c ob q n hc hx=>b.keep c ob (a.keep c ob q n hc hx) (a.free c ob q n hx) hc hx
 slot:=fun c ob q n hc hx=>by
  obtain ⟨sl,e1⟩:=a.slot c ob q n hc hx
  obtain ⟨sl',e2⟩:=b.slot c _ e1 (a.free c ob q n hx) hc hx
  exact ⟨sl',e2⟩
 free:=fun c ob q n hx=>by
  obtain ⟨o',e1⟩:=a.there c ob q hx
  exact b.free c o' e1 (a.free c ob q n hx) hx
 there:=fun c ob q hx=>by
  obtain ⟨o',e1⟩:=a.there c ob q hx
  exact b.there c o' e1 hx
 tups:=fun c xs q=>b.tups c xs (a.tups c xs q)
 frzs:=fun c ob xs q=>b.frzs c ob xs (a.frzs c ob xs q)
 tbls:=fun c xs q=>⟨(b.tbls c xs (a.tbls c xs q).1).1,fun d o e1 e2=>let ⟨f1,f2⟩:=(a.tbls c xs q).2 d o e1 e2; (b.tbls c xs (a.tbls c xs q).1).2 d o f1 f2⟩
theorem Un.kept (k:∀ b u,h.get? b=some u→h'.get? b=some u):Un fs ex H H h h' :=
 ⟨fun b ob q _ _ _=>k b ob q,fun b ob q _ _ _=>⟨ob.slots,k b ob q⟩,fun _ _ _ n _=>n,fun b ob q _=>⟨ob,k b ob q⟩,fun _ _ q=>q,fun _ _ _ q=>q,fun _ _ q=>⟨q,fun c o e1 e2=>⟨e1,k c o e2⟩⟩⟩
theorem Un.refl:Un fs ex H H h h:=Un.kept fun _ _ q=>q
theorem Un.laid (k:∀ b u,h.get? b=some u→h'.get? b=some u) (hp:h.objs.size≤a) (hn:H a=none):Un fs ex H (upd H a o) h h' where
 keep:=fun b u q _ _ _=>k b u q
 slot:=fun b u q _ _ _=>⟨u.slots,k b u q⟩
 free:=fun b u q n _=>by rw [ab7 (Nat.ne_of_lt (Nat.lt_of_lt_of_le (Heap.lt_size q) hp))]; exact n
 there:=fun b u q _=>⟨u,k b u q⟩
 tups:=fun b xs q=>by rw [ab7 (aa7 q hn)]; exact q
 frzs:=fun b u xs q=>by rw [ab7 (aa7 q hn)]; exact q
 tbls:=fun b xs q=>⟨by rw [ab7 (aa7 q hn)]; exact q,fun c o e1 e2=>⟨by rw [ab7 (aa7 e1 hn)]; exact e1,k c o e2⟩⟩
theorem Un.write (mu:Mut (H x)) (he:e=x∨H e=some (.own x)) (k:∀ b u,b≠e→h.get? b=some u→h'.get? b=some u) (heo:∃ u,h'.get? e=some u):Un fs ex H (upd H x o) h h':=by
 have hx:∀ b,H b=none→b≠x:=fun b n z=>by subst z; rw [n] at mu; exact mu
 have hb:∀ b,H b=none→b≠e:=fun b n z=>by
  subst z
  rcases he with r | r
  · exact hx b n r
  · rw [n] at r; cases r
 have hm:∀ b u,H b=some u→¬ Mut (some u)→b≠x:=fun b u q nm z=>by subst z; rw [q] at mu; exact nm mu
 refine ⟨fun b u q n _ _=>k b u (hb b n) q,fun b u q n _ _=>⟨u.slots,k b u (hb b n) q⟩,fun b u q n _=>by rw [ab7 (hx b n)]; exact n,fun b u q _=>?_,
  fun b xs q=>by rw [ab7 (hm b _ q fun z=>z)]; exact q,fun b u xs q=>by rw [ab7 (hm b _ q fun z=>z)]; exact q,fun b ps q=>⟨by rw [ab7 (hm b _ q fun z=>z)]; exact q,fun c o e1 e2=>⟨by rw [ab7 (hm c _ e1 fun z=>z)]; exact e1,k c o (fun z=>by
   rcases he with r | r
   · exact hm c _ e1 (fun z=>z) (z.trans r)
   · rw [← z,e1] at r; cases r; rw [q] at mu; exact mu) e2⟩⟩⟩
 by_cases hbe:b=e
 · subst hbe; exact heo
 · exact ⟨u,k b u hbe q⟩
theorem Un.mono (u:Un fs ex H H1 h h1) (hs:∀ b∈fs,b∈fs') (hx:∀ b∈ex,b∈ex'):Un fs' ex' H H1 h h1 :=
 ⟨fun b ob q n hb he=>u.keep b ob q n (fun z=>hb (hs b z)) fun z=>he (hx b z),fun _ _ q n _ he=>u.any q n fun z=>he (hx _ z),fun b ob q n he=>u.free b ob q n fun z=>he (hx b z),fun b ob q he=>u.there b ob q fun z=>he (hx b z),u.tups,u.frzs,u.tbls⟩
end
noncomputable def trk (h:Heap) (H:Hp):List Addr:=(List.range h.objs.size).filter fun a=>(H a).isSome
noncomputable def hidT (h:Heap) (H:Hp):Heap:=PySem.W.hideAll h (trk h H)
theorem aM6 (h:Heap) (H:Hp):(hidT h H).objs.size=h.objs.size:=PySem.W.hideAll_size _ _
theorem aT2 {h:Heap} {H:Hp} {b:Addr} {o:Obj} (e:h.get? b=some o) (n:H b=none):(hidT h H).get? b=some o :=
 PySem.W.hideAll_get _ e fun hm=>by
  have q:(H b).isSome=true:=(List.mem_filter.mp hm).2
  rw [n] at q; simp at q
theorem bd6 {h:Heap} {H:Hp} {b:Addr} {o:Obj} (e:(hidT h H).get? b=some o):h.get? b=some o∧H b=none:=by
 have e':h.get? b=some o:=PySem.W.of_hideAll (trk h H) e
 refine ⟨e',?_⟩
 cases q:H b with
 | none=>rfl
 | some x =>
   have hm:b∈trk h H:=List.mem_filter.mpr ⟨List.mem_range.mpr (Heap.lt_size e'),by simp [q]⟩
   have z:(hidT h H).get? b=none:=PySem.W.hideAll_none (trk h H) hm
   rw [z] at e; cases e
noncomputable def bh7 (g h:Heap) (L:Addr):List (Addr×Obj):=(List.range h.objs.size).filterMap fun a=>if a=L∨(g.get? a).isSome=true then none else (h.get? a).map fun o=>(a,o)
noncomputable def rest (g h:Heap) (L d:Addr):List (Addr×Obj):=(bh7 g h L).filter fun p=>decide (p.1≠d)
structure Mod (K:PySem.W.Frag) (mg:Str→Option Value) (base:Heap):Prop where
 kin:K.In base
 glob:base.Ns mainGlobals mg
 blt:∃ mb,base.Ns builtinsNs mb∧∀ x:Str,x ≠ "__name__" → mb x=bootBuiltins x
 nolimit:base.NoLimit
 bmod:∃ bm o,mg "__builtins__" = some (.ref bm)∧bm≠builtinsNs∧base.get? bm=some o∧o.cls= .type "module" ∧ o.dict=some builtinsNs∧o.data= .plain
structure Cx where
 prog:Program
 w:World
 K:PySem.W.Frag
 mg:Str→Option Value
 base:Heap
 A:Around
 N:List Str
 s₀:Shared
 H₀:Hp
 env:Env
 outer:List Env
 stack:List Env
 ex:List Addr
 fn:Str→Bool
 calm:Bool
 pn:List (Addr×Obj)
 xe:Value→Shared→Prop
noncomputable def frs (l:List Env):List Addr:=l.filterMap (·.frame)
noncomputable abbrev Cx.fs (X:Cx):List Addr:=frs X.outer
noncomputable def Vis (sc:Scope) (x:Str):Prop:=sc.names.lookup x=some .local∨sc.names.lookup x=some .cell∨sc.names.lookup x=some .free
noncomputable def Loc (sc:Scope) (x:Str):Prop:=sc.names.lookup x=some .local∨sc.names.lookup x=some .cell
noncomputable def Look (env:Env) (h:Heap) (m:Str→Option Value) (x:Str) (u:Value):Prop :=
 (env.kindOf x=some .local∧m x=some u)∨((env.kindOf x=some .cell∨env.kindOf x=some .free)∧∃ c,env.cells.lookup x=some c∧h.IsCell c (some u))
structure Cx.Ok (X:Cx):Prop where
 mod:Mod X.K X.mg X.base
 kind:X.env.scope.kind= .function
 glob:X.env.globals=mainGlobals
 blt:X.env.builtins=builtinsNs
 above:X.s₀.heap.objs.size≤X.env.locals
 inj:∀ x y c,X.env.cells.lookup x=some c→X.env.cells.lookup y=some c→x=y
 has:∀ x,(X.env.kindOf x=some .cell∨X.env.kindOf x=some .free)→∃ c,X.env.cells.lookup x=some c
 cab:∀ x c,X.fn x=true→X.env.cells.lookup x=some c→X.s₀.heap.objs.size≤c
 hd:X.calm=true→X.A.handled=none
 frames:X.A.frames=some X.stack
 stk:X.stack=X.outer∨(X.stack=X.env :: X.outer∧X.env.frame=some X.env.locals)
 exf:∀ b∈X.ex,b≠X.env.locals∧∀ x c,X.env.cells.lookup x=some c→c≠b
 bs:∀ b o,X.base.get? b=some o→X.s₀.heap.get? b=some o∧X.H₀ b=none
 bsz:X.base.objs.size≤X.s₀.heap.objs.size
 noex:∀ b o,X.base.get? b=some o→b∉X.ex
 exfs:∀ b∈X.ex,b∉X.fs
 funs:X.s₀.heap.FunFrames X.base X.outer
 frf:∀ b∈X.fs,X.H₀ b=none
structure Inv (X:Cx) (pins:List (Addr×Obj)) (σ:List (Option V)) (H:Hp) (s:Shared):Prop where
 ok:X.Ok
 os:s.os=X.s₀.os
 bare:AllBare s.gens
 base:Un X.fs X.ex X.H₀ H X.s₀.heap s.heap
 loc:∃ m,s.heap.Ns X.env.locals m∧∀ (i:Nat) (x:Str) (v:V),X.N[i]?=some x→σ[i]?=some (some v)→Vis X.env.scope x→∃ u,RelV v u∧Look X.env s.heap m x u
 cell:∀ x c,X.env.cells.lookup x=some c→∃ v,s.heap.IsCell c v
 free:H X.env.locals=none
 freeC:∀ x c,X.env.cells.lookup x=some c→H c=none
 pin:∀ p∈X.pn ++ pins,s.heap.get? p.1=some p.2∧H p.1=none∧p.1≠X.env.locals∧p.1∉X.fs∧∀ v,p.2.data≠ .cell v
 hok:HOk X.prog X.w H s.heap
 len:σ.length=X.N.length
section
variable {X:Cx} {pins:List (Addr×Obj)} {σ:List (Option V)} {H H':Hp} {s:Shared} {h':Heap}
theorem Cx.Ok.nofr (ok:X.Ok) {b:Addr} {o:Obj} (e:X.base.get? b=some o):b∉X.fs:=fun hb=>by
 have:=(ok.funs.mem hb).1
 rw [e] at this; cases this
theorem Inv.bs (I:Inv X pins σ H s):∀ b o,X.base.get? b=some o→s.heap.get? b=some o∧H b=none:=fun b o e =>
 ⟨I.base.keep b o (I.ok.bs b o e).1 (I.ok.bs b o e).2 (I.ok.nofr e) (I.ok.noex b o e),I.base.free b o (I.ok.bs b o e).1 (I.ok.bs b o e).2 (I.ok.noex b o e)⟩
theorem Inv.bk (I:Inv X pins σ H s):∀ b o,X.base.get? b=some o→s.heap.get? b=some o:=fun b o e=>(I.bs b o e).1
theorem Inv.mod (I:Inv X pins σ H s):Mod X.K X.mg X.base:=I.ok.mod
theorem Inv.kIn (I:Inv X pins σ H s):X.K.In s.heap:=I.ok.mod.kin.keeps I.bk
theorem Inv.nolimit (I:Inv X pins σ H s):s.heap.NoLimit:=I.ok.mod.nolimit.keeps I.bk
theorem Inv.fr (I:Inv X pins σ H s):∃ m,Fr X.base X.env.locals s.heap m :=
 let ⟨m,hn,_⟩:=I.loc
 ⟨m,hn,I.bk,Nat.le_trans I.ok.bsz I.ok.above⟩
theorem Inv.lt (I:Inv X pins σ H s):X.env.locals < s.heap.objs.size:=let ⟨_,hn,_⟩:=I.loc; hn.lt
theorem Inv.sz (I:Inv X pins σ H s):X.s₀.heap.objs.size≤s.heap.objs.size:=Nat.le_trans I.ok.above (Nat.le_of_lt I.lt)
theorem Inv.nofs (I:Inv X pins σ H s) {a:Addr} (h:s.heap.objs.size≤a):a∉X.fs:=fun hb=>by
 obtain ⟨_,o,ho,_⟩:=I.ok.funs.mem hb
 exact absurd (Nat.lt_of_lt_of_le (Heap.lt_size ho) (Nat.le_trans I.sz h)) (Nat.lt_irrefl _)
theorem Inv.cne (I:Inv X pins σ H s):∀ x c,X.env.cells.lookup x=some c→c≠X.env.locals:=fun x c e z=>by
 obtain ⟨v,o,ho,hd⟩:=I.cell x c e
 obtain ⟨m,⟨o',es,ep,ho',hd',_⟩,_⟩:=I.loc
 rw [z,ho'] at ho; cases ho; rw [hd'] at hd; cases hd
theorem Inv.funs (I:Inv X pins σ H s):s.heap.FunFrames X.base X.outer:=by
 have all:∀ (l:List Env),(∀ b∈frs l,b∈X.fs)→X.s₀.heap.FunFrames X.base l→s.heap.FunFrames X.base l:=by
  intro l
  induction l with
  | nil=>intro _ _; trivial
  | cons env r ih =>
    intro hs hl
    obtain ⟨hk,⟨L,o,hf,hn,ho,hd⟩,hr⟩:=hl
    have hL:L∈X.fs:=hs L (by unfold frs; rw [List.filterMap_cons,hf]; exact List.mem_cons_self)
    obtain ⟨sl,e⟩:=I.base.slot L o ho (I.ok.frf L hL) hL fun z=>I.ok.exfs L z hL
    exact ⟨hk,⟨L,_,hf,hn,e,hd⟩,ih (fun b hb=>hs b (by unfold frs; rw [List.filterMap_cons,hf]; exact List.mem_cons_of_mem _ hb)) hr⟩
 exact all X.outer (fun _ hb=>hb) I.ok.funs
theorem Inv.stack (I:Inv X pins σ H s):s.heap.FunFrames X.base X.stack:=by
 rcases I.ok.stk with e | ⟨e,hf⟩
 · rw [e]; exact I.funs
 · rw [e]
   obtain ⟨m,hn,_⟩:=I.loc
   refine .cons (by rw [I.ok.kind]; decide) hf hn ?_ I.funs
   exact Heap.get?_none_of_le (Nat.le_trans I.ok.bsz I.ok.above)
theorem Inv.stkSub (I:Inv X pins σ H s):∀ b∈frs X.stack,b∈X.env.locals :: X.fs:=fun b hb=>by
 rcases I.ok.stk with e | ⟨e,hf⟩
 · rw [e] at hb; exact List.mem_cons_of_mem _ hb
 · rw [e] at hb
   unfold frs at hb
   rw [List.filterMap_cons,hf] at hb
   exact hb
theorem Inv.stkFree (I:Inv X pins σ H s):∀ b∈frs X.stack,H b=none:=fun b hb=>by
 rcases List.mem_cons.mp (I.stkSub b hb) with e | hb
 · rw [e]; exact I.free
 · obtain ⟨_,o,ho,_⟩:=I.ok.funs.mem hb
   exact I.base.free b o ho (I.ok.frf b hb) fun z=>I.ok.exfs b z hb
theorem Inv.step {g':Array GenState} {t':Nat} {d':Drawn} {ch:List Addr} (I:Inv X pins σ H s)
 (hch:∀ b∈ch,(b∈X.ex∨X.s₀.heap.objs.size≤b)∧b≠X.env.locals∧(∀ x c,X.env.cells.lookup x=some c→c≠b)∧∀ p∈X.pn ++ pins,p.1≠b)
 (keep:∀ b o,b≠X.env.locals→b∉X.fs→b∉ch→s.heap.get? b=some o→H b=none→h'.get? b=some o)
 (slot:∀ b o,b≠X.env.locals→b∈X.fs→b∉ch→s.heap.get? b=some o→H b=none→∃ sl,h'.get? b=some { o with slots:=sl }) (free:∀ b o,b∉ch→s.heap.get? b=some o→H b=none→H' b=none)
 (there:∀ b o,b∉ch→s.heap.get? b=some o→∃ o',h'.get? b=some o')
 (tups:∀ b xs,H b=some (.tup xs)→H' b=some (.tup xs)) (frzs:∀ b o u,H b=some (.frz o u)→H' b=some (.frz o u)) (tbls:∀ b l,H b=some (.tbl l)→H' b=some (.tbl l)∧∀ c o,H c=some (.own b)→s.heap.get? c=some o→H' c=some (.own b)∧h'.get? c=some o)
 (ns:∀ m,s.heap.Ns X.env.locals m→h'.Ns X.env.locals m) (hok:HOk X.prog X.w H' h') (hg:AllBare g') :
 Inv X pins σ H' { s with heap:=h',gens:=g',drawn:=d',toks:=t' }:=by
 have neL:∀ b o,X.s₀.heap.get? b=some o→b≠X.env.locals:=fun b o e=>Nat.ne_of_lt (Nat.lt_of_lt_of_le (Heap.lt_size e) I.ok.above)
 have neC:∀ b o,X.s₀.heap.get? b=some o→b∉X.ex→b∉ch:=fun b o e hx hb=>by
  rcases (hch b hb).1 with z | z
  · exact hx z
  · exact absurd (Nat.lt_of_lt_of_le (Heap.lt_size e) z) (Nat.lt_irrefl _)
 have cellK:∀ x c,X.env.cells.lookup x=some c→∀ v,s.heap.IsCell c v→h'.IsCell c v:=fun x c e v ⟨o,ho,hd⟩=>by
  have nch:c∉ch:=fun z=>(hch c z).2.2.1 x c e rfl
  by_cases hc:c∈X.fs
  · obtain ⟨sl,q⟩:=slot c o (I.cne x c e) hc nch ho (I.freeC x c e)
    exact ⟨_,q,hd⟩
  · exact ⟨o,keep c o (I.cne x c e) hc nch ho (I.freeC x c e),hd⟩
 refine ⟨I.ok,I.os,hg,⟨fun b o e n hb hx=>?_,fun b o e n hb hx=>?_,fun b o e n hx=>?_,fun b o e hx=>?_,fun b xs e=>tups b xs (I.base.tups b xs e),fun b o xs e=>frzs b o xs (I.base.frzs b o xs e),fun b ps e=>⟨(tbls b ps (I.base.tbls b ps e).1).1,fun c o e1 e2=>let ⟨f1,f2⟩:=(I.base.tbls b ps e).2 c o e1 e2; (tbls b ps (I.base.tbls b ps e).1).2 c o f1 f2⟩⟩,?_,fun x c e=>?_,?_,fun x c e=>?_,fun p hp=>?_,hok,I.len⟩
 · exact keep b o (neL b o e) hb (neC b o e hx) (I.base.keep b o e n hb hx) (I.base.free b o e n hx)
 · obtain ⟨sl,e1⟩:=I.base.slot b o e n hb hx
   obtain ⟨sl',e2⟩:=slot b _ (neL b o e) hb (neC b o e hx) e1 (I.base.free b o e n hx)
   exact ⟨sl',e2⟩
 · obtain ⟨o',e1⟩:=I.base.there b o e hx
   exact free b o' (neC b o e hx) e1 (I.base.free b o e n hx)
 · obtain ⟨o',e1⟩:=I.base.there b o e hx
   exact there b o' (neC b o e hx) e1
 · obtain ⟨m,hn,hl⟩:=I.loc
   refine ⟨m,ns m hn,fun i x v e1 e2 e3=>?_⟩
   obtain ⟨u,r,l⟩:=hl i x v e1 e2 e3
   refine ⟨u,r,?_⟩
   rcases l with l | ⟨k,c,e,z⟩
   · exact .inl l
   · exact .inr ⟨k,c,e,cellK x c e _ z⟩
 · obtain ⟨v,z⟩:=I.cell x c e
   exact ⟨v,cellK x c e v z⟩
 · obtain ⟨m,⟨o,_,_,ho,_⟩,_⟩:=I.loc
   exact free _ o (fun z=>(hch _ z).2.1 rfl) ho I.free
 · obtain ⟨v,o,ho,hd⟩:=I.cell x c e
   exact free c o (fun z=>(hch c z).2.2.1 x c e rfl) ho (I.freeC x c e)
 · obtain ⟨e,n,ne,nf,d⟩:=I.pin p hp
   have nch:p.1∉ch:=fun z=>(hch p.1 z).2.2.2 p hp rfl
   exact ⟨keep p.1 p.2 ne nf nch e n,free p.1 p.2 nch e n,ne,nf,d⟩
theorem Inv.un {t':Nat} (I:Inv X pins σ H s) (u:Un X.fs [] H H' s.heap h') (hok:HOk X.prog X.w H' h'):Inv X pins σ H' { s with heap:=h',toks:=t' }:=by
 obtain ⟨m,⟨o,es,ep,ho,r⟩,_⟩:=id I.loc
 obtain ⟨sl,hL⟩:=u.any ho I.free (by simp)
 exact I.step (g':=s.gens) (d':=s.drawn) (ch:=[]) (fun _ z=>nomatch z) (fun b o _ hb _ e n=>u.keep b o e n hb (by simp)) (fun b o _ hb _ e n=>u.slot b o e n hb (by simp)) (fun b o _ e n=>u.free b o e n (by simp)) (fun b o _ e=>u.there b o e (by simp)) u.tups u.frzs u.tbls (fun m' hm=>by
  obtain ⟨o',es',ep',ho',r'⟩:=hm
  rw [ho] at ho'; cases ho'
  exact ⟨_,es',ep',hL,r'⟩) hok I.bare
theorem Inv.call {g':Array GenState} {t':Nat} {d':Drawn} {ch:List Addr} (I:Inv X pins σ H s) (u:Un (frs X.stack) ch H H' s.heap h') (hok:HOk X.prog X.w H' h') (hg:AllBare g')
 (hch:∀ b∈ch,(b∈X.ex∨X.s₀.heap.objs.size≤b)∧b≠X.env.locals∧(∀ x c,X.env.cells.lookup x=some c→c≠b)∧∀ p∈X.pn ++ pins,p.1≠b) :
 Inv X pins σ H' { s with heap:=h',gens:=g',drawn:=d',toks:=t' }:=by
 obtain ⟨m,⟨o,es,ep,ho,r⟩,_⟩:=id I.loc
 obtain ⟨sl,hL⟩:=u.any ho I.free fun z=>(hch _ z).2.1 rfl
 exact I.step (ch:=ch) hch (fun b o hL hb hc e n=>u.keep b o e n (fun z=>(List.mem_cons.mp (I.stkSub b z)).elim hL hb) hc) (fun b o _ _ hc e n=>u.any e n hc) (fun b o hc e n=>u.free b o e n hc) (fun b o hc e=>u.there b o e hc) u.tups u.frzs u.tbls (fun m' hm=>by
  obtain ⟨o',es',ep',ho',r'⟩:=hm
  rw [ho] at ho'; cases ho'
  exact ⟨_,es',ep',hL,r'⟩) hok hg
theorem Inv.turned {t':Nat} {it:Addr} (I:Inv X pins σ H s) (k:∀ b o,b≠it→s.heap.get? b=some o→h'.get? b=some o) (hn:H it=none) (hL:it≠X.env.locals)
 (h1:it∈X.ex∨X.s₀.heap.objs.size≤it) (h2:∀ x c,X.env.cells.lookup x=some c→c≠it) (h3:∀ p∈X.pn ++ pins,p.1≠it):Inv X pins σ H { s with heap:=h',toks:=t' }:=by
 have nit:∀ b u,H b=some u→b≠it:=fun b u e z=>by rw [z,hn] at e; cases e
 refine I.step (g':=s.gens) (d':=s.drawn) (ch:=[it]) (fun b hb=>?_) (fun b o _ _ hc e _=>k b o (fun z=>hc (by simp [z])) e) (fun b o _ _ hc e _=>⟨o.slots,k b o (fun z=>hc (by simp [z])) e⟩) (fun _ _ _ _ n=>n)
  (fun b o hc e=>⟨o,k b o (fun z=>hc (by simp [z])) e⟩) (fun _ _ e=>e) (fun _ _ _ e=>e) (fun _ _ e=>⟨e,fun c o e1 e2=>⟨e1,k c o (aa7 e1 hn) e2⟩⟩) (fun m hm=>?_) (fun b u e=>?_) I.bare
 · have e:b=it:=by simpa using hb
   subst e
   exact ⟨h1,hL,h2,h3⟩
 · obtain ⟨o,es,ep,ho,r⟩:=hm
   exact ⟨o,es,ep,k _ o (Ne.symm hL) ho,r⟩
 · refine (I.hok b u e).stay (fun c v hc q=>k c v ?_ q) (fun _ q=>q) fun _ _ q=>q
   rcases hc with z | z
   · rw [z]; exact nit b u e
   · exact nit c _ z
theorem Inv.tok (I:Inv X pins σ H s) (t:Nat):Inv X pins σ H { s with toks:=t }:=I.un (h':=s.heap) (t':=t) Un.refl I.hok
theorem Inv.kept {t':Nat} (I:Inv X pins σ H s) (k:∀ b u,s.heap.get? b=some u→h'.get? b=some u):Inv X pins σ H { s with heap:=h',toks:=t' }:=I.un (Un.kept k) (I.hok.kept k)
theorem Inv.laid {a:Addr} {o:HO} {t':Nat} (I:Inv X pins σ H s) (k:∀ b u,s.heap.get? b=some u→h'.get? b=some u) (hp:s.heap.objs.size≤a) (new:ObjOk X.prog X.w (upd H a o) h' a o) :
 Inv X pins σ (upd H a o) { s with heap:=h',toks:=t' }:=I.un (Un.laid k hp (I.hok.fresh hp)) (I.hok.laid k hp new)
theorem Inv.write {x e:Addr} {o:HO} {t':Nat} (I:Inv X pins σ H s) (mu:Mut (H x)) (he:e=x∨H e=some (.own x)) (k:∀ b u,b≠e→s.heap.get? b=some u→h'.get? b=some u) (heo:∃ u,h'.get? e=some u)
 (new:ObjOk X.prog X.w (upd H x o) h' x o):Inv X pins σ (upd H x o) { s with heap:=h',toks:=t' }:=I.un (Un.write mu he k heo) (I.hok.write mu he k heo new)
theorem Inv.pins_of {pins':List (Addr×Obj)} (I:Inv X pins σ H s) (h:∀ p∈pins',s.heap.get? p.1=some p.2∧H p.1=none∧p.1≠X.env.locals∧p.1∉X.fs∧∀ v,p.2.data≠ .cell v):Inv X pins' σ H s :=
 ⟨I.ok,I.os,I.bare,I.base,I.loc,I.cell,I.free,I.freeC,fun p hp=>(List.mem_append.mp hp).elim (fun z=>I.pin p (List.mem_append_left _ z)) (h p),I.hok,I.len⟩
theorem ar3 {N:List Str} (hN:N.Nodup) {i j:Nat} {x:Str} (a:N[i]?=some x) (b:N[j]?=some x):i=j:=by
 obtain ⟨h1,e1⟩:=List.getElem?_eq_some_iff.mp a
 obtain ⟨h2,e2⟩:=List.getElem?_eq_some_iff.mp b
 exact (List.getElem_inj hN).mp (e1.trans e2.symm)
theorem aG7 {M:Model} {A:Around} {E:Value→Shared→Prop} {i:Nat} {x:Str} {v:V} {u:Value} {Q:Unit→Shared→Prop} (I:Inv X pins σ H s) (hN:X.N.Nodup) (hi:X.N[i]?=some x) (hx:Loc X.env.scope x) (r:RelV v u)
 (h:∀ s',Inv X pins (σ.set i (some v)) H s'→(∃ a,Heap.SameBut a s.heap s'.heap∧(a=X.env.locals∨X.env.cells.lookup x=some a))→Q () s') (hf:X.fn x=true∨X.env.scope.names.lookup x=some .local:=by first | exact .inl rfl | exact .inr rfl | assumption):wpAny M A (storeName X.env x u) Q E s:=by
 obtain ⟨m,hn,hl⟩:=id I.loc
 have hcls:(X.env.scope.kind == .class || (X.env.scope.kind == .module && X.env.locals != X.env.globals))=false:=by rw [I.ok.kind]; rfl
 have hiσ:i < σ.length:=by rw [I.len]; exact (List.getElem?_eq_some_iff.mp hi).1
 have cne:=I.cne
 have tracked:∀ {a:Addr} {h':Heap},(∃ o,s.heap.get? a=some o∧H a=none)→Heap.SameBut a s.heap h'→HOk X.prog X.w H h':=fun {a h'} ha hs b ob e=>by
  obtain ⟨_,_,hfree⟩:=ha
  refine (I.hok b ob e).stay (fun c w' hc q=>(hs.2 c ?_).trans q) (fun _ q=>q) fun _ _ q=>q
  rintro rfl
  rcases hc with rfl | hc
  · rw [hfree] at e; cases e
  · rw [hfree] at hc; cases hc
 rcases hx with hk | hk
 · refine wpAny_storeName_local hk hn (fun h' hn' hs=>?_) hcls
   obtain ⟨oL,_,_,hoL,_⟩:=id hn
   refine h _ ⟨I.ok,I.os,I.bare,⟨fun b o e n hb hx=>?_,fun b o e n hb hx=>?_,I.base.free,fun b o e hx=>?_,I.base.tups,I.base.frzs,fun b l q=>⟨(I.base.tbls b l q).1,fun c o e1 e2=>let ⟨f1,f2⟩:=(I.base.tbls b l q).2 c o e1 e2; ⟨f1,(hs.2 c (aa7 f1 I.free)).trans f2⟩⟩⟩,⟨_,hn',fun j y v' e1 e2 e3=>?_⟩,fun y c e=>?_,I.free,I.freeC,fun p hp=>?_,tracked ⟨oL,hoL,I.free⟩ hs,by simpa using I.len⟩ ⟨_,hs,.inl rfl⟩
   · exact (hs.2 b (Nat.ne_of_lt (Nat.lt_of_lt_of_le (Heap.lt_size e) I.ok.above))).trans (I.base.keep b o e n hb hx)
   · obtain ⟨sl,e1⟩:=I.base.slot b o e n hb hx
     exact ⟨sl,(hs.2 b (Nat.ne_of_lt (Nat.lt_of_lt_of_le (Heap.lt_size e) I.ok.above))).trans e1⟩
   · obtain ⟨o',e1⟩:=I.base.there b o e hx
     exact ⟨o',(hs.2 b (Nat.ne_of_lt (Nat.lt_of_lt_of_le (Heap.lt_size e) I.ok.above))).trans e1⟩
   · by_cases hj:j=i
     · subst hj
       rw [hi] at e1; cases e1
       rw [List.getElem?_set_self hiσ] at e2
       cases e2
       exact ⟨u,r,.inl ⟨hk,by simp⟩⟩
     · rw [List.getElem?_set_ne (Ne.symm hj)] at e2
       obtain ⟨u',r',q⟩:=hl j y v' e1 e2 e3
       refine ⟨u',r',?_⟩
       rcases q with ⟨k,e⟩ | ⟨k,c,e,z⟩
       · refine .inl ⟨k,?_⟩
         have:y≠x:=fun e=>hj (ar3 hN e1 (e ▸ hi))
         simp [this,e]
       · exact .inr ⟨k,c,e,z.sameBut hs (cne y c e)⟩
   · obtain ⟨w',z⟩:=I.cell y c e
     exact ⟨w',z.sameBut hs (cne y c e)⟩
   · obtain ⟨e,n,ne,nf,d⟩:=I.pin p hp
     exact ⟨(hs.2 p.1 ne).trans e,n,ne,nf,d⟩
 · have hfn:X.fn x=true:=by
    rcases hf with z | z
    · exact z
    · rw [z] at hk; cases hk
   obtain ⟨c,hc⟩:=I.ok.has x (.inl hk)
   obtain ⟨w',z⟩:=I.cell x c hc
   refine wpAny_storeName_cell I.ok.kind hk hc z (fun h' hc' hs=>?_)
   obtain ⟨oc,hoc,hocd⟩:=id z
   refine h { s with heap:=h' } ⟨I.ok,I.os,I.bare,⟨fun b o e n hb hx=>?_,fun b o e n hb hx=>?_,I.base.free,fun b o e hx=>?_,I.base.tups,I.base.frzs,fun b l q=>⟨(I.base.tbls b l q).1,fun c' o e1 e2=>let ⟨f1,f2⟩:=(I.base.tbls b l q).2 c' o e1 e2; ⟨f1,(hs.2 c' (aa7 f1 (I.freeC x c hc))).trans f2⟩⟩⟩,⟨m,hn.sameBut hs (Ne.symm (cne x c hc)),fun j y v' e1 e2 e3=>?_⟩,fun y c' e=>?_,I.free,I.freeC,fun p hp=>?_,tracked ⟨oc,hoc,I.freeC x c hc⟩ hs,by simpa using I.len⟩ ⟨c,hs,.inr hc⟩
   · exact (hs.2 b (Nat.ne_of_lt (Nat.lt_of_lt_of_le (Heap.lt_size e) (I.ok.cab x c hfn hc)))).trans (I.base.keep b o e n hb hx)
   · obtain ⟨sl,e1⟩:=I.base.slot b o e n hb hx
     exact ⟨sl,(hs.2 b (Nat.ne_of_lt (Nat.lt_of_lt_of_le (Heap.lt_size e) (I.ok.cab x c hfn hc)))).trans e1⟩
   · obtain ⟨o',e1⟩:=I.base.there b o e hx
     exact ⟨o',(hs.2 b (Nat.ne_of_lt (Nat.lt_of_lt_of_le (Heap.lt_size e) (I.ok.cab x c hfn hc)))).trans e1⟩
   · by_cases hj:j=i
     · subst hj
       rw [hi] at e1; cases e1
       rw [List.getElem?_set_self hiσ] at e2
       cases e2
       exact ⟨u,r,.inr ⟨.inl hk,c,hc,hc'⟩⟩
     · rw [List.getElem?_set_ne (Ne.symm hj)] at e2
       obtain ⟨u',r',q⟩:=hl j y v' e1 e2 e3
       refine ⟨u',r',?_⟩
       rcases q with q | ⟨k,c',e,z'⟩
       · exact .inl q
       · refine .inr ⟨k,c',e,z'.sameBut hs ?_⟩
         rintro rfl
         exact hj (ar3 hN e1 (I.ok.inj _ _ _ e hc ▸ hi))
   · by_cases hcc:c'=c
     · subst hcc; exact ⟨_,hc'⟩
     · obtain ⟨w2,z2⟩:=I.cell y c' e
       exact ⟨w2,z2.sameBut hs hcc⟩
   · obtain ⟨e,n,ne,nf,d⟩:=I.pin p hp
     refine ⟨(hs.2 p.1 ?_).trans e,n,ne,nf,d⟩
     intro q
     rw [q,hoc] at e
     have q':oc=p.2:=Option.some.inj e
     exact d w' (by rw [← q']; exact hocd)
theorem ap6 {M:Model} {A:Around} {E:Value→Shared→Prop} {i:Nat} {x:Str} {v:V} {u:Value} {Q:Unit→Shared→Prop} (I:Inv X pins σ H s) (hN:X.N.Nodup) (hi:X.N[i]?=some x) (hx:Loc X.env.scope x) (r:RelV v u)
 (h:∀ s',Inv X pins (σ.set i (some v)) H s'→Q () s') (hf:X.fn x=true∨X.env.scope.names.lookup x=some .local:=by first | exact .inl rfl | exact .inr rfl | assumption):wpAny M A (storeName X.env x u) Q E s :=
 aG7 I hN hi hx r (fun s' I' _=>h s' I') hf
theorem Inv.call' {s':Shared} {ch:List Addr} (I:Inv X pins σ H s) (ho:s'.os=s.os) (u:Un (frs X.stack) ch H H' s.heap s'.heap) (hok:HOk X.prog X.w H' s'.heap) (hg:AllBare s'.gens)
 (hch:∀ b∈ch,(b∈X.ex∨X.s₀.heap.objs.size≤b)∧b≠X.env.locals∧(∀ x c,X.env.cells.lookup x=some c→c≠b)∧∀ p∈X.pn ++ pins,p.1≠b):Inv X pins σ H' s':=by
 obtain ⟨h',g',d',t',o'⟩:=s'
 have e:o'=s.os:=ho
 subst e
 exact I.call (g':=g') (t':=t') (d':=d') u hok hg hch
end
noncomputable abbrev XK:=Value→Option Addr→Hp→Prop
noncomputable abbrev St:=List (Option V)
noncomputable abbrev VK:=V→Hp→Prop
noncomputable abbrev TE:=St→Hp→VK→Prop
noncomputable abbrev TT:=St→Hp→(Bool→Hp→Prop)→Prop
noncomputable abbrev TA:=St→Hp→(List V→Hp→Prop)→Prop
structure Ends where
 nx:St→Hp→Prop
 rt:VK
 bk:St→Hp→Prop:=fun _ _=>False
 ct:St→Hp→Prop:=fun _ _=>False
noncomputable abbrev TS:=Ends→St→Hp→Prop
noncomputable def EP (X:Cx) (pins:List (Addr×Obj)) (σ:St) (Q:VK) (u:Value) (s':Shared):Prop:=∃ v H',Inv X pins σ H' s'∧RelV v u∧Q v H'
noncomputable def TP (X:Cx) (pins:List (Addr×Obj)) (σ:St) (Q:Bool→Hp→Prop) (b:Bool) (s':Shared):Prop:=∃ H',Inv X pins σ H' s'∧Q b H'
noncomputable def AP (X:Cx) (pins:List (Addr×Obj)) (σ:St) (Q:List V→Hp→Prop) (us:List Value) (s':Shared):Prop:=∃ vs H',Inv X pins σ H' s'∧Vals vs us∧Q vs H'
noncomputable def SP (X:Cx) (pins:List (Addr×Obj)) (D:Ends) (f:Flow) (s':Shared):Prop :=
 match f with
 | .next=>∃ σ' H',Inv X pins σ' H' s'∧D.nx σ' H'
 | .brk=>∃ σ' H',Inv X pins σ' H' s'∧D.bk σ' H'
 | .cont=>∃ σ' H',Inv X pins σ' H' s'∧D.ct σ' H'
 | .ret u=>∃ v σ' H',Inv X pins σ' H' s'∧RelV v u∧D.rt v H'
noncomputable def PE (X:Cx) (e:Expr) (t:TE):Prop :=
 ∀ (pins:List (Addr×Obj)) (s:Shared) (σ:St) (H:Hp) (Q:VK),Inv X pins σ H s→t σ H Q→wpAny (model X.prog X.w) X.A (eval e X.env) (EP X pins σ Q) X.xe s
noncomputable def PT (X:Cx) (e:Expr) (t:TT):Prop :=
 ∀ (pins:List (Addr×Obj)) (s:Shared) (σ:St) (H:Hp) (Q:Bool→Hp→Prop),Inv X pins σ H s→t σ H Q→wpAny (model X.prog X.w) X.A (isTrue e X.env (eval e X.env)) (TP X pins σ Q) X.xe s
noncomputable def PW (X:Cx) (e:Expr) (t:TT):Prop :=
 ∀ (whole:Sem Value) (pins:List (Addr×Obj)) (s:Shared) (σ:St) (H:Hp) (Q:Bool→Hp→Prop),Inv X pins σ H s→t σ H Q→wpAny (model X.prog X.w) X.A (isTrue e X.env whole) (TP X pins σ Q) X.xe s
theorem PW.pt {X:Cx} {e:Expr} {t:TT} (h:PW X e t):PT X e t:=h _
noncomputable def PA (X:Cx) (es:List Expr) (t:TA):Prop :=
 ∀ (pos:Pos) (pins:List (Addr×Obj)) (s:Shared) (σ:St) (H:Hp) (Q:List V→Hp→Prop),Inv X pins σ H s→t σ H Q→wpAny (model X.prog X.w) X.A (spliced (backTo pos (starEach es X.env))) (AP X pins σ Q) X.xe s
noncomputable def PS (X:Cx) (st:Stmt) (t:TS):Prop :=
 ∀ (pins:List (Addr×Obj)) (s:Shared) (σ:St) (H:Hp) (D:Ends),Inv X pins σ H s→t D σ H→wpAny (model X.prog X.w) X.A (exec st X.env) (SP X pins D) X.xe s
noncomputable def PSs (X:Cx) (st:List Stmt) (t:TS):Prop :=
 ∀ (pins:List (Addr×Obj)) (s:Shared) (σ:St) (H:Hp) (D:Ends),Inv X pins σ H s→t D σ H→wpAny (model X.prog X.w) X.A (execs st X.env) (SP X pins D) X.xe s
theorem thn {α:Type} {t:Sem α} {Q Q':α→Shared→Prop} {M:Model} {A:Around} {E:Value→Shared→Prop} {s:Shared} (h:wpAny M A t Q E s) (hQ:∀ a s,Q a s→Q' a s):wpAny M A t Q' E s:=wpAny_mono h hQ fun _ _ x=>x
section
variable {X:Cx}
noncomputable def tVar (i:Nat):TE:=fun σ H Q=>∃ v,σ[i]?=some (some v)∧Q v H
noncomputable def tC (v:V):TE:=fun _ H Q=>Q v H
theorem bj9 {i:Nat} {x:Str} {pos:Pos} (hN:X.N[i]?=some x) (hv:Vis X.env.scope x) (hd:(x == ("__debug__" : Str))=false:=by decide) (hcd:(x == ("__classdict__" : Str))=false:=by decide):PE X (.Name x pos) (tVar i):=by
 intro pins s σ H Q I h
 obtain ⟨v,e,h⟩:=h
 obtain ⟨m,hn,hl⟩:=I.loc
 obtain ⟨u,r,l⟩:=hl i x v hN e hv
 have fin:EP X pins σ Q u s:=⟨v,H,I,r,h⟩
 rcases l with ⟨hk,hm⟩ | ⟨hk,c,hc,hcell⟩
 · exact wpAny_Name (wpAny_loadName_local I.ok.kind hk hn hm fin) hd
 · rcases hk with hk | hk
   · exact wpAny_Name (wpAny_loadName_cell I.ok.kind hk hc hcell fin) hd
   · exact wpAny_Name (wpAny_loadName_free I.ok.kind hk hc hcell fin hcd) hd
theorem aa4 {i j pos}:PE X (.Constant (.int i) j pos) (tC (.int i)):=fun _ _ _ H _ I h=>wpAny_Constant_int ⟨.int i,H,I.tok _,⟨_,rfl⟩,h⟩
theorem aK0 {b j pos}:PE X (.Constant (.bool b) j pos) (tC (.bl b)):=fun _ _ _ H _ I h=>Constant_bool ⟨.bl b,H,I,rfl,h⟩
theorem ak1 {j pos}:PE X (.Constant .none j pos) (tC .non):=fun _ _ _ H _ I h=>Constant_none ⟨.non,H,I,rfl,h⟩
theorem ak0 {x j pos}:PE X (.Constant (.str x) j pos) (tC (.str x)):=fun _ _ _ H _ I h=>Calls.Constant_str ⟨.str x,H,I.tok _,⟨_,rfl⟩,h⟩
noncomputable def Gl (X:Cx) (x:Str):Prop:=X.env.kindOf x=some .globalImplicit
theorem am1 {E:Value→Shared→Prop} {pins:List (Addr×Obj)} {s:Shared} {σ:St} {H:Hp} {x:Str} {u:Value} {pos:Pos} {Q:Value→Shared→Prop} (I:Inv X pins σ H s) (hg:Gl X x) (hm:X.mg x=some u) (h:Q u s)
 (hd:(x == ("__debug__" : Str))=false:=by decide):wpAny (model X.prog X.w) X.A (eval (.Name x pos) X.env) Q E s :=
 Calls.Name_function_global I.ok.kind hg (Calls.loadGlobal_global (by rw [I.ok.glob]; exact I.mod.glob.keeps I.bk) hm h) hd
theorem aw1 {E:Value→Shared→Prop} {pins:List (Addr×Obj)} {s:Shared} {σ:St} {H:Hp} {x:Str} {u:Value} {pos:Pos} {Q:Value→Shared→Prop} (I:Inv X pins σ H s) (hg:Gl X x) (hm:X.mg x=none) (hv:bootBuiltins x=some u) (h:Q u s)
 (hn:x ≠ "__name__" := by decide) (hd:(x == ("__debug__" : Str))=false:=by decide):wpAny (model X.prog X.w) X.A (eval (.Name x pos) X.env) Q E s:=by
 obtain ⟨mb,h1,h2⟩:=I.mod.blt
 exact Calls.Name_function_global I.ok.kind hg (Calls.loadGlobal_builtin (by rw [I.ok.glob]; exact I.mod.glob.keeps I.bk) hm (by rw [I.ok.blt]; exact h1.keeps I.bk) ((h2 x hn).trans hv) h) hd
theorem ar1 {x:Str} {v:V} {u:Value} {pos:Pos} (hg:Gl X x) (hm:X.mg x=some u) (r:RelV v u) (hd:(x == ("__debug__" : Str))=false:=by decide):PE X (.Name x pos) (tC v) :=
 fun _ _ _ H _ I h=>am1 I hg hm ⟨v,H,I,r,h⟩ hd
theorem al7 {x:Str} {v:V} {u:Value} {pos:Pos} (hg:Gl X x) (hm:X.mg x=none) (hv:bootBuiltins x=some u) (r:RelV v u) (hn:x ≠ "__name__" := by decide) (hd:(x == ("__debug__" : Str))=false:=by decide):PE X (.Name x pos) (tC v) :=
 fun _ _ _ H _ I h=>aw1 I hg hm hv ⟨v,H,I,r,h⟩ hn hd
variable {a b:Expr} {ta tb:TE} {pos:Pos}
noncomputable def tB (t:TE):TT:=fun σ H Q=>t σ H fun x H1=>∃ c,x= .bl c∧Q c H1
theorem au9 {e:Expr} {t:TE} (h:PE X e t) (he:∀ whole,isTrue e X.env whole=(do let v ← whole; standAt e.pos; holding [v] (truthy v)):=by intro _; rfl):PT X e (tB t):=by
 intro pins s σ H Q I hw
 refine isTrue_plain (thn (h pins s σ H _ I hw) fun v s1 ⟨x,H1,I1,r1,q1⟩=>?_) (he _)
 obtain ⟨d,rfl,q⟩:=q1
 cases r1
 exact wpAny_truthy_bool ⟨H1,I1,q⟩
variable {tA tB':TT} {rest:List Expr}
noncomputable def tAnd (t u:TT):TT:=fun σ H Q=>t σ H fun c H1=>if c=true then u σ H1 Q else Q false H1
noncomputable def tOr (t u:TT):TT:=fun σ H Q=>t σ H fun c H1=>if c=true then Q true H1 else u σ H1 Q
noncomputable def tNot (t:TT):TT:=fun σ H Q=>t σ H fun c H1=>Q (!c) H1
theorem aJ2 (ha:PT X a tA):PW X (.BoolOp .And [a] pos) tA:=by
 intro wh pins s σ H Q I h
 refine isTrue_and (thn (ha pins s σ H Q I h) fun c s1 e=>?_)
 cases c with
 | true=>exact isTrue_and_nil e
 | false=>exact e
theorem aD1 (ha:PT X a tA):PW X (.BoolOp .Or [a] pos) tA:=by
 intro wh pins s σ H Q I h
 refine isTrue_or (thn (ha pins s σ H Q I h) fun c s1 e=>?_)
 cases c with
 | false=>exact isTrue_or_nil e
 | true=>exact e
theorem aW3 (ha:PT X a tA) (hb:PW X (.BoolOp .And (b :: rest) pos) tB'):PW X (.BoolOp .And (a :: b :: rest) pos) (tAnd tA tB'):=by
 intro wh pins s σ H Q I h
 refine isTrue_and (thn (ha pins s σ H _ I h) fun c s1 ⟨H1,I1,q1⟩=>?_)
 cases c with
 | true=>exact hb wh pins s1 σ H1 Q I1 q1
 | false=>exact ⟨H1,I1,q1⟩
theorem aE5 (ha:PT X a tA) (hb:PW X (.BoolOp .Or (b :: rest) pos) tB'):PW X (.BoolOp .Or (a :: b :: rest) pos) (tOr tA tB'):=by
 intro wh pins s σ H Q I h
 refine isTrue_or (thn (ha pins s σ H _ I h) fun c s1 ⟨H1,I1,q1⟩=>?_)
 cases c with
 | true=>exact ⟨H1,I1,q1⟩
 | false=>exact hb wh pins s1 σ H1 Q I1 q1
theorem av0 (ha:PT X a tA):PT X (.UnaryOp .Not a pos) (tNot tA):=by
 intro pins s σ H Q I h
 exact isTrue_not (ha pins s σ H (fun c H1=>Q (!c) H1) I h)
noncomputable def bi7 (ta tb:TE):TE:=fun σ H Q=>ta σ H fun x H1=>∃ c,x= .bl c∧if c=true then tb σ H1 Q else Q (.bl false) H1
noncomputable def bi5 (ta:TE):TE:=fun σ H Q=>ta σ H fun x H1=>∃ c,x= .bl c∧Q (.bl (!c)) H1
theorem aW6 {op} {t:TE} (h:PE X a t):PE X (.BoolOp op [a] pos) t:=fun pins s σ H Q I hw=>BoolOp_one (h pins s σ H Q I hw)
theorem aW7 (ha:PE X a ta) (hb:PE X (.BoolOp .And (b :: rest) pos) tb):PE X (.BoolOp .And (a :: b :: rest) pos) (bi7 ta tb):=by
 intro pins s σ H Q I h
 refine BoolOp_and (thn (ha pins s σ H _ I h) fun v s1 ⟨x,H1,I1,r1,q1⟩=>?_)
 obtain ⟨c,rfl,q1⟩:=q1
 cases r1
 refine wpAny_truthy_bool ?_
 cases c with
 | true=>exact hb pins s1 σ H1 Q I1 q1
 | false=>exact ⟨.bl false,H1,I1,rfl,q1⟩
theorem bk0 (ha:PE X a ta):PE X (.UnaryOp .Not a pos) (bi5 ta):=by
 intro pins s σ H Q I h
 refine UnaryOp_ (thn (ha pins s σ H _ I h) fun v s1 ⟨x,H1,I1,r1,q1⟩=>?_)
 obtain ⟨c,rfl,q1⟩:=q1
 cases r1
 exact not_of (wpAny_truthy_bool ⟨.bl (!c),H1,I1,rfl,q1⟩)
noncomputable def tIf (t:TT) (ta tb:TE):TE:=fun σ H Q=>t σ H fun c H1=>if c=true then ta σ H1 Q else tb σ H1 Q
theorem aR7 {c:Expr} (hc:PT X c tA) (ha:PE X a ta) (hb:PE X b tb):PE X (.IfExp c a b pos) (tIf tA ta tb):=by
 intro pins s σ H Q I h
 refine wpAny_IfExp (thn (hc pins s σ H _ I h) fun d s1 ⟨H1,I1,q1⟩=>?_)
 cases d with
 | true=>exact ha pins s1 σ H1 Q I1 q1
 | false=>exact hb pins s1 σ H1 Q I1 q1
end
noncomputable def SqL (K:PySem.W.Frag) (H:Hp) (a:Addr) (xs:List V):Prop :=
 Rd H a (.lst xs) ∨
  ∃ (o:Obj) (its:Array Value) (n:Nat),K.lookup a=some o∧o.cls= .type "list" ∧ o.dict=none∧o.data= .seq its n∧its.size≤sizeLine∧Vals xs its.toList
noncomputable def SqT (K:PySem.W.Frag) (H:Hp) (a:Addr) (xs:List V):Prop :=
 Rd H a (.tup xs) ∨
  ∃ (o:Obj) (its:Array Value) (n:Nat),K.lookup a=some o∧o.cls= .type "tuple" ∧ o.data= .seq its n∧its.size≤sizeLine∧Vals xs its.toList
noncomputable def absV:Value→Option V
 | .none=>some .non
 | .bool b=>some (.bl b)
 | .int i _=>some (.int i)
 | .str x _=>some (.str x)
 | .bytes b _=>some (.byt b)
 | .float b _=>some (.flt b)
 | .ref a=>some (.ref a)
 | .type n=>some (.ty n)
 | _=>none
theorem RelV.abs {x:V} {u:Value} (r:RelV x u):absV u=some x:=by
 cases x with
 | non=>cases r; rfl
 | bl _=>cases r; rfl
 | int _=>obtain ⟨t,rfl⟩:=r; rfl
 | str _=>obtain ⟨t,rfl⟩:=r; rfl
 | byt _=>obtain ⟨t,rfl⟩:=r; rfl
 | flt _=>obtain ⟨t,rfl⟩:=r; rfl
 | ref _=>cases r; rfl
 | ty _=>cases r; rfl
theorem RelV.inj {x y:V} {u:Value} (r:RelV x u) (q:RelV y u):x=y:=Option.some.inj (r.abs.symm.trans q.abs)
theorem Vals.inj:∀ {xs ys:List V} {us:List Value},Vals xs us→Vals ys us→xs=ys
 | _,_,_,.nil,.nil=>rfl
 | _,_,_,.cons r t,.cons r' t'=>by rw [r.inj r',Vals.inj t t']
section
variable {X:Cx} {pins:List (Addr×Obj)} {σ:St} {H:Hp} {s:Shared} {a:Addr} {xs ys:List V}
theorem SqL.of {K:PySem.W.Frag} (h:H a=some (.lst xs)):SqL K H a xs:= .inl (.inl h)
theorem SqT.of {K:PySem.W.Frag} (h:H a=some (.tup xs)):SqT K H a xs:= .inl (.inl h)
theorem Inv.list (I:Inv X pins σ H s) (h:SqL X.K H a xs):∃ its:List Value,Vals xs its∧PlainL s.heap a its.toArray∧xs.length≤sizeLine:=by
 rcases h with h | ⟨o,its,n,hk,hc,hd,hs,hz,r⟩
 · obtain ⟨z,its,n,r,e⟩:=h.ok I.hok
   exact ⟨its,r,⟨_,n,e,rfl,rfl,rfl⟩,z⟩
 · refine ⟨its.toList,r,⟨o,n,I.kIn a o hk,hc,hd,by simpa using hs⟩,?_⟩
   have e:=r.length
   simp only [Array.length_toList] at e
   omega
theorem Inv.tuple (I:Inv X pins σ H s) (h:SqT X.K H a xs):∃ its:List Value,Vals xs its∧IsTup s.heap a its.toArray∧xs.length≤sizeLine:=by
 rcases h with h | ⟨o,its,n,hk,hc,hs,hz,r⟩
 · obtain ⟨z,its,r,p⟩:=h.ok I.hok
   exact ⟨its,r,p,z⟩
 · refine ⟨its.toList,r,⟨o,I.kIn a o hk,hc,n,by simpa using hs⟩,?_⟩
   have e:=r.length
   simp only [Array.length_toList] at e
   omega
theorem Inv.list_inj (I:Inv X pins σ H s) (h:SqL X.K H a xs) (h':SqL X.K H a ys):xs=ys:=by
 obtain ⟨its,r,⟨o,n,e,_,_,d⟩,_⟩:=I.list h
 obtain ⟨its',r',⟨o',n',e',_,_,d'⟩,_⟩:=I.list h'
 rw [e] at e'; cases e'
 rw [d] at d'
 injection d' with d1 _
 have:its=its':=by simpa using congrArg Array.toList d1
 subst this
 exact r.inj r'
end
noncomputable abbrev Cx.wish (X:Cx) (E:Value→Shared→Prop):Cx:={ X with xe:=E }
noncomputable abbrev Cx.nox (X:Cx):Cx:=X.wish fun _ _=>False
theorem Cx.Ok.wish {X:Cx} (ok:X.Ok) (E:Value→Shared→Prop):(X.wish E).Ok :=
 ⟨ok.mod,ok.kind,ok.glob,ok.blt,ok.above,ok.inj,ok.has,ok.cab,ok.hd,ok.frames,ok.stk,ok.exf,ok.bs,ok.bsz,ok.noex,ok.exfs,ok.funs,ok.frf⟩
theorem Cx.Ok.unwish {X:Cx} {E:Value→Shared→Prop} (ok:(X.wish E).Ok):X.Ok :=
 ⟨ok.mod,ok.kind,ok.glob,ok.blt,ok.above,ok.inj,ok.has,ok.cab,ok.hd,ok.frames,ok.stk,ok.exf,ok.bs,ok.bsz,ok.noex,ok.exfs,ok.funs,ok.frf⟩
section
variable {X:Cx} {pins:List (Addr×Obj)} {σ:St} {H:Hp} {s:Shared} {E:Value→Shared→Prop}
theorem Inv.wish (I:Inv X pins σ H s) (E:Value→Shared→Prop):Inv (X.wish E) pins σ H s:=⟨I.ok.wish E,I.os,I.bare,I.base,I.loc,I.cell,I.free,I.freeC,I.pin,I.hok,I.len⟩
theorem Inv.unwish (I:Inv (X.wish E) pins σ H s):Inv X pins σ H s:=⟨I.ok.unwish,I.os,I.bare,I.base,I.loc,I.cell,I.free,I.freeC,I.pin,I.hok,I.len⟩
theorem SP.unwish {D:Ends} {f:Flow} {s':Shared} (h:SP (X.wish E) pins D f s'):SP X pins D f s':=by
 cases f with
 | next=>obtain ⟨σ',H',I,q⟩:=h; exact ⟨σ',H',I.unwish,q⟩
 | brk=>obtain ⟨σ',H',I,q⟩:=h; exact ⟨σ',H',I.unwish,q⟩
 | cont=>obtain ⟨σ',H',I,q⟩:=h; exact ⟨σ',H',I.unwish,q⟩
 | ret u=>obtain ⟨v,σ',H',I,r,q⟩:=h; exact ⟨v,σ',H',I.unwish,r,q⟩
theorem PE.nox {e:Expr} {t:TE} (h:PE X.nox e t):PE X e t:=fun pins s σ H Q I hw =>
 wpAny_mono (h pins s σ H Q (I.wish _) hw) (fun _ _ ⟨v,H',I',r,q⟩=>⟨v,H',I'.unwish,r,q⟩) fun _ _ z=>False.elim z
theorem PT.nox {e:Expr} {t:TT} (h:PT X.nox e t):PT X e t:=fun pins s σ H Q I hw =>
 wpAny_mono (h pins s σ H Q (I.wish _) hw) (fun _ _ ⟨H',I',q⟩=>⟨H',I'.unwish,q⟩) fun _ _ z=>False.elim z
theorem PSs.nox {st:List Stmt} {t:TS} (h:PSs X.nox st t):PSs X st t:=fun pins s σ H D I hw =>
 wpAny_mono (h pins s σ H D (I.wish _) hw) (fun _ _ q=>q.unwish) fun _ _ z=>False.elim z
end
section
variable {X:Cx} {st:Stmt} {rest:List Stmt} {t u:TS} {e:Expr} {te:TE} {pos:Pos}
noncomputable def bi6:TS:=fun D σ H=>D.nx σ H
noncomputable def tSeq (t u:TS):TS:=fun D σ H=>t { D with nx:=u D } σ H
theorem ad2:PSs X [] bi6:=fun _ _ σ H _ I h=>wpAny_execs_nil ⟨σ,H,I,h⟩
theorem aa1 (h1:PS X st t) (h2:PSs X rest u):PSs X (st :: rest) (tSeq t u):=by
 intro pins s σ H D I h
 refine wpAny_execs_cons (thn (h1 pins s σ H { D with nx:=u D } I h) fun f s1 q=>?_)
 cases f with
 | next =>
   obtain ⟨σ',H',I',q⟩:=q
   exact h2 pins s1 σ' H' D I' q
 | ret v=>exact q
 | brk=>exact q
 | cont=>exact q
theorem aa3 (h1:PS X st t):PSs X [st] t:=by
 intro pins s σ H D I h
 refine wpAny_execs_cons (thn (h1 pins s σ H D I h) fun f s1 q=>?_)
 cases f with
 | next=>exact wpAny_execs_nil q
 | ret v=>exact q
 | brk=>exact q
 | cont=>exact q
theorem Inv.quiet {pins:List (Addr×Obj)} {σ:St} {H:Hp} {s:Shared} (I:Inv X pins σ H s):interactive X.env=false:=by simp [interactive,I.ok.kind]
noncomputable def aQ4 (te:TE):TS:=fun D σ H=>te σ H fun _ H1=>D.nx σ H1
theorem af5 (he:PE X e te) (hs:swapsWith e none pos.line X.env=pure false:=by rfl):PS X (.Expr e pos) (aQ4 te):=by
 intro pins s σ H D I h
 exact wpAny_Expr_any (thn (he pins s σ H _ I h) fun v s1 ⟨x,H1,I1,r1,q1⟩=>⟨σ,H1,I1,q1⟩) I.quiet hs
noncomputable def tRet (te:TE):TS:=fun D σ H=>te σ H D.rt
theorem ad4 (he:PE X e te):PS X (.Return (some e) pos) (tRet te):=by
 intro pins s σ H D I h
 exact wpAny_Return_some (thn (he pins s σ H _ I h) fun v s1 ⟨x,H1,I1,r1,q1⟩=>⟨x,σ,H1,I1,r1,q1⟩)
noncomputable def tIfS (c:TT) (t u:TS):TS:=fun D σ H=>c σ H fun b H1=>if b=true then t D σ H1 else u D σ H1
theorem ah0 {c:Expr} {a b:List Stmt} {tc:TT} (hc:PT X c tc) (ha:PSs X a t) (hb:PSs X b u):PS X (.If c a b pos) (tIfS tc t u):=by
 intro pins s σ H D I h
 refine wpAny_If (thn (hc pins s σ H _ I h) fun d s1 ⟨H1,I1,q1⟩=>?_)
 cases d with
 | true=>exact ha pins s1 σ H1 D I1 q1
 | false=>exact hb pins s1 σ H1 D I1 q1
end
noncomputable abbrev TG:=V→St→Hp→(St→Hp→Prop)→Prop
noncomputable def PG (X:Cx) (target:Expr) (t:TG):Prop :=
 ∀ (pins:List (Addr×Obj)) (s:Shared) (σ:St) (H:Hp) (v:V) (u:Value) (Q:St→Hp→Prop),Inv X pins σ H s→RelV v u→t v σ H Q →
  wpAny (model X.prog X.w) X.A (assign target X.env u) (fun _ s'=>∃ σ' H',Inv X pins σ' H' s'∧Q σ' H') X.xe s
section
variable {X:Cx} {pos:Pos}
noncomputable def ak7 (i:Nat):TG:=fun v σ H Q=>Q (σ.set i (some v)) H
theorem al5 {i:Nat} {x:Str} (hN:X.N.Nodup) (hi:X.N[i]?=some x) (hx:Loc X.env.scope x) (hf:X.fn x=true∨X.env.scope.names.lookup x=some .local:=by first | exact .inl rfl | exact .inr rfl | assumption):PG X (.Name x pos) (ak7 i):=by
 intro pins s σ H v u Q I r h
 exact wpAny_assign_Name (ap6 I hN hi hx r (fun s' I'=>⟨_,H,I',h⟩) hf)
noncomputable def tAsg (te:TE) (g:TG):TS:=fun D σ H=>te σ H fun x H1=>g x σ H1 D.nx
theorem ac3 {i:Nat} {x:Str} {e:Expr} {te:TE} {pos':Pos} (hN:X.N.Nodup) (hi:X.N[i]?=some x) (hx:Loc X.env.scope x) (he:PE X e te) (hs:swapsWith e (some (.Name x pos')) pos.line X.env=pure false:=by rfl) (hf:X.fn x=true∨X.env.scope.names.lookup x=some .local:=by first | exact .inl rfl | exact .inr rfl | assumption) :
 PS X (.Assign [.Name x pos'] e pos) (tAsg te (ak7 i)):=by
 intro pins s σ H D I h
 refine wpAny_Assign_Name (thn (he pins s σ H _ I h) fun v s1 ⟨y,H1,I1,r1,q1⟩=>?_) hs
 exact ap6 I1 hN hi hx r1 (fun s2 I2=>⟨_,H1,I2,q1⟩) hf
end
section
variable {X:Cx} {pos:Pos}
noncomputable def aU9 (c:TT) (tb:TS):TS:=fun D σ H=>∃ W:Nat→St→Hp→Prop,(∃ m,W m σ H)∧∀ m σ H,W m σ H →
 c σ H fun b H1=>if b=true then ∃ N:St→Hp→Prop,(∀ σ' H',N σ' H'→∃ m',m' < m∧W m' σ' H')∧tb { D with nx:=N,ct:=N,bk:=D.nx } σ H1 else D.nx σ H1
theorem aq9 {c:Expr} {body:List Stmt} {tc:TT} {tb:TS} (hp:PassesOwn (model X.prog X.w) X.A X.env X.xe) (hc:PT X c tc) (hb:PSs X body tb):PS X (.While c body [] pos) (aU9 tc tb):=by
 intro pins s σ H D I h
 obtain ⟨W,⟨m0,w0⟩,turn⟩:=h
 refine wpAny_While (codeAny_whileLoop (fun n s'=>∃ σ' H',Inv X pins σ' H' s'∧W n σ' H') ?_ m0 ⟨σ,H,I,w0⟩)
 rintro n s1 ⟨σ1,H1,I1,w1⟩
 refine wpAny_passesOwn hp (thn (hc pins s1 σ1 H1 _ I1 (turn n σ1 H1 w1)) fun b s2 ⟨H2,I2,q2⟩=>?_)
 cases b with
 | true =>
   obtain ⟨N,hN,q2⟩:=q2
   rw [if_pos rfl]
   refine wpAny_passesOwn hp (thn (hb pins s2 σ1 H2 _ I2 q2) fun f s3 q3=>?_)
   cases f with
   | next =>
     obtain ⟨σ3,H3,I3,n3⟩:=q3
     obtain ⟨m',hm,w3⟩:=hN σ3 H3 n3
     exact ⟨m',hm,σ3,H3,I3,w3⟩
   | cont =>
     obtain ⟨σ3,H3,I3,n3⟩:=q3
     obtain ⟨m',hm,w3⟩:=hN σ3 H3 n3
     exact ⟨m',hm,σ3,H3,I3,w3⟩
   | brk=>exact q3
   | ret v=>exact q3
 | false =>
   rw [if_neg Bool.false_ne_true]
   exact wpAny_execs_nil ⟨σ1,H2,I2,q2⟩
end
structure It where
 go:Nat→Hp→Prop
 yld:Nat→Hp→V→Hp→Prop
 stop:Nat→Hp→Prop
noncomputable def FpOk (X:Cx) (pins:List (Addr×Obj)) (H:Hp) (b:Addr):Prop :=
 H b=none∧b≠X.env.locals∧b∉X.fs∧(b∈X.ex∨X.s₀.heap.objs.size≤b)∧(∀ x c,X.env.cells.lookup x=some c→c≠b)∧∀ p∈X.pn ++ pins,p.1≠b
theorem Inv.fpOk {X:Cx} {pins:List (Addr×Obj)} {σ:St} {H H':Hp} {s:Shared} {b:Addr} (I:Inv X pins σ H s) (hb:s.heap.objs.size≤b) (hn:H' b=none):FpOk X pins H' b:=by
 refine ⟨hn,Nat.ne_of_gt (Nat.lt_of_lt_of_le I.lt hb),I.nofs hb,.inr (Nat.le_trans I.sz hb),fun x c e z=>?_,fun p hp z=>?_⟩
 · obtain ⟨v,q⟩:=I.cell x c e
   exact absurd (Nat.lt_of_lt_of_le q.lt (by rw [z]; exact hb)) (Nat.lt_irrefl _)
 · exact absurd (Nat.lt_of_lt_of_le (Heap.lt_size (I.pin p hp).1) (by rw [z]; exact hb)) (Nat.lt_irrefl _)
structure Turn (P:Program) (w:World) (K:PySem.W.Frag) (tg:Expr) (J:It) (fp:List Addr) (it:Addr) (tn:Nat→Heap→Prop):Prop where
 mem:it∈fp
 obj:∀ i h,tn i h→∀ b∈fp,∃ o,h.get? b=some o∧∀ v,o.data≠ .cell v
 keep:∀ i h h',tn i h→(∀ b∈fp,∀ o,h.get? b=some o→h'.get? b=some o)→tn i h'
 item:∀ (X:Cx),X.prog=P→X.w=w→X.K=K→X.calm=true→∀ (i:Nat) (pins:List (Addr×Obj)) (s:Shared) (σ:St) (H:Hp) (E:Value→Shared→Prop),Inv X pins σ H s→(∀ b∈fp,FpOk X pins H b)→tn i s.heap→J.go i H →
  wpAny (model P w) X.A (pyNext (.ref it)) (fun r s1=>∃ u,r=some u ∧
   wpAny (model P w) X.A (letOwnedTupleGo tg (.ref it) u) (fun _ s2=>∃ x H',Inv X pins σ H' s2∧RelV x u∧J.yld i H x H'∧tn (i + 1) s2.heap∧∀ b∈fp,H' b=none) E s1) E s
 done:∀ (X:Cx),X.prog=P→X.w=w→X.K=K→X.calm=true→∀ (i:Nat) (pins:List (Addr×Obj)) (s:Shared) (σ:St) (H:Hp) (E:Value→Shared→Prop),Inv X pins σ H s→(∀ b∈fp,FpOk X pins H b)→tn i s.heap→J.stop i H →
  wpAny (model P w) X.A (pyNext (.ref it)) (fun r s1=>r=none∧Inv X pins σ H s1) E s
 self:∀ (A:Around) (i:Nat) (s:Shared) (Q:Value→Shared→Prop) (E:Value→Shared→Prop),tn i s.heap→Q (.ref it) s→wpAny (model P w) A (pyIter (.ref it)) Q E s
noncomputable abbrev TI:=St→Hp→(It→Hp→Prop)→Prop
noncomputable def PIE (X:Cx) (pins:List (Addr×Obj)) (σ:St) (tg:Expr) (R:It→Hp→Prop) (itv:Value) (s2:Shared):Prop :=
 ∃ (it:Addr) (fp:List Addr) (tn:Nat→Heap→Prop) (J:It) (H':Hp),itv= .ref it∧Inv X pins σ H' s2∧Turn X.prog X.w X.K tg J fp it tn∧tn 0 s2.heap∧(∀ b∈fp,FpOk X pins H' b)∧R J H'
noncomputable def PI (X:Cx) (tg iter:Expr) (wi:TI):Prop :=
 ∀ (pins:List (Addr×Obj)) (s:Shared) (σ:St) (H:Hp) (R:It→Hp→Prop),Inv X pins σ H s→wi σ H R →
  wpAny (model X.prog X.w) X.A (eval iter X.env) (fun v s1=>wpAny (model X.prog X.w) X.A (pyIter v) (PIE X pins σ tg R) X.xe s1) X.xe s
theorem bo9 {M:Model} {A:Around} {E:Value→Shared→Prop} {s:Shared} {tg:Expr} {it:Addr} {u:Value} {o:Obj} {n:String} {vs:Array Value} {Q:Unit→Shared→Prop} (ho:s.heap.get? it=some o) (hc:o.cls= .type n) (hd:o.data= .fields vs)
 (hn:["enumerate", "zip", "dict_itemiterator", "dict_reverseitemiterator", "odict_iterator", "itertools.zip_longest", "itertools.pairwise"].contains n=false) (hQ:Q () s):wpAny M A (letOwnedTupleGo tg (.ref it) u) Q E s:=by
 unfold letOwnedTupleGo
 cases tg <;> first
  | exact wpAny_pure hQ
  | (cases u <;> first
      | exact wpAny_pure hQ
      | (refine wpAny_bind (wpAny_load ho ?_)
         rw [hc,hd]
         show wpAny M A (if (["enumerate", "zip", "dict_itemiterator", "dict_reverseitemiterator", "odict_iterator", "itertools.zip_longest", "itertools.pairwise"].contains n && vs[0]? == some (rawInt _))=true then _ else _) Q E s
         rw [if_neg (by intro h; rw [hn,Bool.false_and] at h; cases h)]
         exact wpAny_pure hQ))
noncomputable def Itl (K:PySem.W.Frag) (a:Addr):It :=
 ⟨fun i H=>∃ xs x,SqL K H a xs∧xs[i]?=some x,fun i H x H'=>H'=H∧∀ xs,SqL K H a xs→xs[i]?=some x,fun i H=>∃ xs,SqL K H a xs∧xs.length≤i⟩
noncomputable def Itr (lo:Int) (n:Nat):It:=⟨fun i _=>i < n,fun i H x H'=>H'=H∧x= .int (lo + i),fun i _=>n≤i⟩
theorem aG3 {P:Program} {w:World} {K:PySem.W.Frag} {tg:Expr} (a it:Addr):Turn P w K tg (Itl K a) [it] it (fun i h=>h.IsListIter it a i) where
 mem:=by simp
 obj:=fun i h st b hb=>by
  have e:b=it:=by simpa using hb
  subst e
  obtain ⟨o,e,c,d⟩:=st
  exact ⟨o,e,fun v z=>by rw [d] at z; cases z⟩
 keep:=fun i h h' st k=>st.at fun o e=>k it (by simp) o e
 item:=by
  intro X hP hw hK hc i pins s σ H E I hf st hg
  subst hP hw hK
  obtain ⟨xs,x,hq,hx⟩:=hg
  obtain ⟨its,rv,p,hz⟩:=I.list hq
  obtain ⟨u,hu,ru⟩:=rv.get hx
  obtain ⟨f0,f1,f2,f3,f4,f5⟩:=hf it (by simp)
  refine wpAny_pyNext_list_item st p.isList (x:=u) (by simpa using hu) fun h' st' sb=>?_
  have I1:Inv X pins σ H { s with heap:=h' }:=I.turned (t':=s.toks) (fun b o hb e=>(sb.2 b hb).trans e) f0 f1 f3 f4 f5
  obtain ⟨o,e,c,d⟩:=id st'
  exact ⟨u,rfl,bo9 (s:={ s with heap:=h' }) e c d (by decide) ⟨x,H,I1,ru,⟨rfl,fun ys hy=>by rw [I.list_inj hy hq]; exact hx⟩,st',fun b hb=>(hf b hb).1⟩⟩
 done:=by
  intro X hP hw hK hc i pins s σ H E I hf st hg
  subst hP hw hK
  obtain ⟨xs,hq,hx⟩:=hg
  obtain ⟨its,rv,p,hz⟩:=I.list hq
  obtain ⟨f0,f1,f2,f3,f4,f5⟩:=hf it (by simp)
  have hl:=rv.length
  exact wpAny_pyNext_list_end (I.ok.hd hc) st p.isList (by simp; omega) fun h' eb=>⟨rfl,I.turned (t':=s.toks) (fun b o hb e=>eb b o hb e) f0 f1 f3 f4 f5⟩
 self:=fun _ _ _ _ _ st h=>wpAny_pyIter_listiter st h
theorem aE2 {P:Program} {w:World} {K:PySem.W.Frag} {tg:Expr} (it:Addr) (lo:Int) (n:Nat):Turn P w K tg (Itr lo n) [it] it (fun i h=>IsRangeIter h it (lo + (i:Nat) * 1) ((n:Int) - (i:Nat)) 1) where
 mem:=by simp
 obj:=fun i h st b hb=>by
  have e:b=it:=by simpa using hb
  subst e
  exact ⟨_,st,fun v z=>by
   have z':Data.fields _=Data.cell v:=z
   cases z'⟩
 keep:=fun i h h' st k=>k it (by simp) _ st
 item:=by
  intro X hP hw hK hc i pins s σ H E I hf st hg
  subst hP hw hK
  obtain ⟨f0,f1,f2,f3,f4,f5⟩:=hf it (by simp)
  have W:=Walks.range (prog:=X.prog) (w:=X.w) (I.ok.hd hc) it lo 1 n
  refine W.item i s _ _ hg st fun v h' tk hv st' kk=>?_
  obtain ⟨t,rfl⟩:=hv
  have I1:Inv X pins σ H { s with heap:=h',toks:=tk }:=I.turned (fun b o hb e=>kk b o (by simpa using hb) e) f0 f1 f3 f4 f5
  refine ⟨_,rfl,bo9 (s:={ s with heap:=h',toks:=tk }) (n := "range_iterator") st' rfl rfl (by decide) ⟨.int (lo + i),H,I1,⟨t,?_⟩,⟨rfl,rfl⟩,st',fun b hb=>(hf b hb).1⟩⟩
  rw [Int.mul_one]
 done:=by
  intro X hP hw hK hc i pins s σ H E I hf st hg
  subst hP hw hK
  obtain ⟨f0,f1,f2,f3,f4,f5⟩:=hf it (by simp)
  exact wpAny_pyNext_range_end (I.ok.hd hc) st (by have:n≤i:=hg; omega) fun h' eb=>⟨rfl,I.turned (t':=s.toks) (fun b o hb e=>eb b o hb e) f0 f1 f3 f4 f5⟩
 self:=fun _ _ _ _ _ st h=>wpAny_pyIter_rangeiter st h
section
variable {X:Cx} {tg:Expr}
noncomputable def aM5 (K:PySem.W.Frag) (tl:TE):TI:=fun σ H R=>tl σ H fun x H1=>∃ a,x= .ref a∧(∃ xs,SqL K H1 a xs)∧R (Itl K a) H1
theorem bd1 {l:Expr} {tl:TE} (hl:PE X l tl):PI X tg l (aM5 X.K tl):=by
 intro pins s σ H R I h
 refine thn (hl pins s σ H _ I h) fun v s1 ⟨x,H1,I1,r1,q1⟩=>?_
 obtain ⟨a,e,⟨xs,hq⟩,q⟩:=q1
 subst e
 cases r1
 obtain ⟨its,rv,p,hz⟩:=I1.list hq
 refine wpAny_pyIter_list p.isList ?_
 refine ⟨s1.heap.objs.size,[s1.heap.objs.size],_,_,H1,rfl,I1.kept (t':=s1.toks) fun b o e=>Heap.get?_push_of_some _ e,aG3 a _,⟨_,Heap.get?_push_size _ rfl,rfl,rfl⟩,fun b hb=>?_,q⟩
 have e:b=s1.heap.objs.size:=by simpa using hb
 subst e
 exact I1.fpOk (Nat.le_refl _) (I1.hok.fresh (Nat.le_refl _))
theorem aR4 {pins:List (Addr×Obj)} {σ:St} {H:Hp} {s:Shared} {R:It→Hp→Prop} {E:Value→Shared→Prop} {lo hi:Int} {t u v:Tok} {tk:Nat} (I:Inv X pins σ H s) (h1:-(2 ^ 62)≤lo) (h2:lo < 2 ^ 62) (h3:-(2 ^ 62)≤hi) (h4:hi < 2 ^ 62)
 (q:R (Itr lo (hi - lo).toNat) H):wpAny (model X.prog X.w) X.A (pyIter (.ref s.heap.objs.size)) (PIE X pins σ tg R) E { s with heap:=s.heap.push { cls:= .type "range",data:= .fields #[.int lo t,.int hi u,.int 1 v] },toks:=tk }:=by
 refine wpAny_pyIter_range (IsRange.new ..) (small_one h1 h2 h3 h4) ?_
 have I1:Inv X pins σ H { s with heap:=s.heap.push { cls:= .type "range",data:= .fields #[.int lo t,.int hi u,.int 1 v] },toks:=tk }:=I.kept fun b o e=>Heap.get?_push_of_some _ e
 refine ⟨(s.heap.push { cls:= .type "range",data:= .fields #[.int lo t,.int hi u,.int 1 v] }).objs.size,[(s.heap.push { cls:= .type "range",data:= .fields #[.int lo t,.int hi u,.int 1 v] }).objs.size],_,_,H,rfl,
  I1.kept (t':=tk) fun b o e=>Heap.get?_push_of_some _ e,aE2 _ lo (hi - lo).toNat,?_,fun b hb=>?_,q⟩
 · have e1:lo + ((0:Nat):Int) * 1=lo:=by simp
   have e2:(((hi - lo).toNat:Nat):Int) - ((0:Nat):Int)=Builtin.Range.rangeSize lo hi 1:=by rw [rangeSize_one]; split <;> omega
   show IsRangeIter _ _ (lo + ((0:Nat):Int) * 1) ((((hi - lo).toNat:Nat):Int) - ((0:Nat):Int)) 1
   rw [e1,e2]
   exact Heap.get?_push_size _ rfl
 · have e:b=(s.heap.push { cls:= .type "range",data:= .fields #[.int lo t,.int hi u,.int 1 v] }).objs.size:=by simpa using hb
   subst e
   exact I1.fpOk (Nat.le_refl _) (I1.hok.fresh (Nat.le_refl _))
noncomputable def bo8 (ta:TA):TI:=fun σ H R=>ta σ H fun vs H1=>∃ i j:Int,vs=[.int i,.int j]∧(-(2 ^ 62)≤i∧i < 2 ^ 62∧-(2 ^ 62)≤j∧j < 2 ^ 62)∧R (Itr i (j - i).toNat) H1
theorem av2 {a b:Expr} {ta:TA} {p pos:Pos} (hg:Gl X "range") (hm:X.mg "range" = none) (ha:PA X [a,b] ta) (hs:starEach [a,b] X.env=[(false,eval a X.env),(false,eval b X.env)]:=by rfl) (hs2:starEach [b] X.env=[(false,eval b X.env)]:=by rfl) :
 PI X tg (.Call (.Name "range" p) [a,b] [] pos) (bo8 ta):=by
 intro pins s σ H R I h
 refine Call_ (aw1 I hg hm boot_range (PyProof.Rows.callWith_type1 (thn (ha pos pins s σ H _ I h) fun us s1 ⟨vs,H1,I1,r1,q1⟩=>?_) (by rw [hs,hs2]) (by rw [hs2]; rfl)))
 obtain ⟨i,j,e,⟨q1,q2,q3,q4⟩,q⟩:=q1
 subst e
 cases r1 with
 | cons r rr =>
   cases rr with
   | cons r' rr =>
     cases rr
     obtain ⟨t,rfl⟩:=r
     obtain ⟨t',rfl⟩:=r'
     exact call_range_2 (aR4 I1 q1 q2 q3 q4 q)
noncomputable def tFor (wi:TI) (g:TG) (tb:TS):TS:=fun D σ H=>wi σ H fun J H1=>∃ W:Nat→Nat→St→Hp→Prop,(∃ m,W 0 m σ H1)∧∀ i m σ H,W i m σ H →
 (J.stop i H∧D.nx σ H)∨(J.go i H∧∃ N:St→Hp→Prop,(∀ σ' H',N σ' H'→∃ m',m' < m∧W (i + 1) m' σ' H')∧∀ x H',J.yld i H x H'→g x σ H' fun σ2 H2=>tb { D with nx:=N,ct:=N,bk:=D.nx } σ2 H2)
noncomputable def av1 (fp:List Addr) (h:Heap):List (Addr×Obj):=fp.filterMap fun b=>(h.get? b).map fun o=>(b,o)
theorem ag1 {fp:List Addr} {h:Heap} {b:Addr} {o:Obj} (hb:b∈fp) (e:h.get? b=some o):(b,o)∈av1 fp h:=List.mem_filterMap.mpr ⟨b,hb,by rw [e]; rfl⟩
theorem aK6 {fp:List Addr} {h:Heap} {p:Addr×Obj} (hp:p∈av1 fp h):p.1∈fp∧h.get? p.1=some p.2:=by
 obtain ⟨b,hb,e⟩:=List.mem_filterMap.mp hp
 cases q:h.get? b with
 | none=>rw [q] at e; cases e
 | some o =>
   rw [q] at e
   have e':(b,o)=p:=Option.some.inj e
   subst e'
   exact ⟨hb,q⟩
theorem Inv.pinned {pins:List (Addr×Obj)} {σ:St} {H:Hp} {s:Shared} {fp:List Addr} (I:Inv X pins σ H s) (hf:∀ b∈fp,FpOk X pins H b) (ho:∀ b∈fp,∃ o,s.heap.get? b=some o∧∀ v,o.data≠ .cell v):Inv X (pins ++ av1 fp s.heap) σ H s :=
 I.pins_of fun p hp=>(List.mem_append.mp hp).elim (fun z=>I.pin p (List.mem_append_right _ z)) fun z=>by
  obtain ⟨hb,e⟩:=aK6 z
  obtain ⟨f0,f1,f2,_⟩:=hf p.1 hb
  obtain ⟨o,e',d⟩:=ho p.1 hb
  rw [e] at e'; cases e'
  exact ⟨e,f0,f1,f2,d⟩
theorem Inv.unpinned {pins pl:List (Addr×Obj)} {σ:St} {H:Hp} {s:Shared} (I:Inv X (pins ++ pl) σ H s):Inv X pins σ H s:=I.pins_of fun p hp=>I.pin p (List.mem_append_right _ (List.mem_append_left _ hp))
theorem aJ3 {iter:Expr} {body:List Stmt} {wi:TI} {g:TG} {tb:TS} {pos:Pos} (hp:PassesOwn (model X.prog X.w) X.A X.env X.xe) (hc:X.calm=true) (hi:PI X tg iter wi) (hg:PG X tg g) (hb:PSs X body tb)
 (hs:∀ x,foldedSetIterable iter X.env x=pure x:=by intro _; rfl):PS X (.For tg iter body [] pos) (tFor wi g tb):=by
 intro pins s σ H D I h
 refine wpAny_For (thn (hi pins s σ H _ I h) fun v s1 h1=>thn h1 fun itv s2 h2=>?_) hs
 obtain ⟨it,fp,tn,J,H2,e,I2,T,st2,f2,W,⟨m0,w0⟩,turn⟩:=h2
 subst e
 -- what stays true of the iterator's objects through the loop
 have stat:∀ {H':Hp},(∀ b∈fp,H' b=none)→∀ b∈fp,FpOk X pins H' b:=fun hn b hb=>⟨hn b hb,(f2 b hb).2⟩
 refine codeAny_forLoop_any (fun n s'=>∃ i σ' H',Inv X pins σ' H' s'∧tn i s'.heap∧(∀ b∈fp,H' b=none)∧W i n σ' H') ?_ m0 ⟨0,σ,H2,I2,st2,fun b hb=>(f2 b hb).1,w0⟩
 rintro n s3 ⟨i,σ3,H3,I3,st3,fr3,w3⟩
 rcases turn i n σ3 H3 w3 with ⟨stop,qn⟩ | ⟨go,N,hN,step⟩
 · refine wpAny_passesOwn hp (thn (T.done X rfl rfl rfl hc i pins s3 σ3 H3 X.xe I3 (stat fr3) st3 stop) fun r s4 ⟨hr,I4⟩=>?_)
   subst hr
   exact wpAny_execs_nil ⟨σ3,H3,I4,qn⟩
 · refine wpAny_passesOwn hp (thn (T.item X rfl rfl rfl hc i pins s3 σ3 H3 X.xe I3 (stat fr3) st3 go) fun r s4 ⟨u,hr,h4⟩=>?_)
   subst hr
   refine wpAny_passesOwn hp (thn h4 fun _ s5 ⟨x,H5,I5,r5,y5,st5,fr5⟩=>?_)
   have I5':=I5.pinned (stat fr5) (T.obj _ _ st5)
   refine wpAny_passesOwn hp (thn (hg _ s5 σ3 H5 x u _ I5' r5 (step x H5 y5)) fun _ s6 ⟨σ6,H6,I6,q6⟩=>?_)
   refine wpAny_passesOwn hp (thn (hb _ s6 σ6 H6 _ I6 q6) fun f s7 q7=>?_)
   have again:∀ {σ7:St} {H7:Hp},Inv X (pins ++ av1 fp s5.heap) σ7 H7 s7→N σ7 H7→∃ m,m < n∧∃ i σ' H',Inv X pins σ' H' s7∧tn i s7.heap∧(∀ b∈fp,H' b=none)∧W i m σ' H':=fun {σ7 H7} I7 n7=>by
    obtain ⟨m',hm,w7⟩:=hN σ7 H7 n7
    refine ⟨m',hm,i + 1,σ7,H7,I7.unpinned,T.keep _ _ _ st5 fun b hb o e=>(I7.pin (b,o) (List.mem_append_right _ (List.mem_append_right _ (ag1 hb e)))).1,fun b hb=>?_,w7⟩
    obtain ⟨o,e,d⟩:=T.obj _ _ st5 b hb
    exact (I7.pin (b,o) (List.mem_append_right _ (List.mem_append_right _ (ag1 hb e)))).2.1
   cases f with
   | next=>obtain ⟨σ7,H7,I7,n7⟩:=q7; exact again I7 n7
   | cont=>obtain ⟨σ7,H7,I7,n7⟩:=q7; exact again I7 n7
   | brk=>obtain ⟨σ7,H7,I7,q7⟩:=q7; exact ⟨σ7,H7,I7.unpinned,q7⟩
   | ret v=>obtain ⟨x7,σ7,H7,I7,r7,q7⟩:=q7; exact ⟨x7,σ7,H7,I7.unpinned,r7,q7⟩
end
noncomputable abbrev R2:=V→V→Hp→VK→Prop
noncomputable def OpR (X:Cx) (f:Value→Value→Sem Value) (r:R2):Prop :=
 ∀ (pins:List (Addr×Obj)) (s:Shared) (σ:St) (H:Hp) (x y:V) (v u:Value) (Q:VK),Inv X pins σ H s→RelV x v→RelV y u→r x y H Q →
  wpAny (model X.prog X.w) X.A (f v u) (EP X pins σ Q) X.xe s
noncomputable def UnR (X:Cx) (f:Value→Sem Value) (r:V→Hp→VK→Prop):Prop :=
 ∀ (pins:List (Addr×Obj)) (s:Shared) (σ:St) (H:Hp) (x:V) (v:Value) (Q:VK),Inv X pins σ H s→RelV x v→r x H Q →
  wpAny (model X.prog X.w) X.A (f v) (EP X pins σ Q) X.xe s
noncomputable def at3 (X:Cx) (f:Value) (r:List V→Hp→VK→Prop):Prop :=
 ∀ (pins:List (Addr×Obj)) (s:Shared) (σ:St) (H:Hp) (xs:List V) (us:List Value) (Q:VK),Inv X pins σ H s→Vals xs us→r xs H Q →
  wpAny (model X.prog X.w) X.A (call f us) (EP X pins σ Q) X.xe s
noncomputable def tOp (r:R2) (ta tb:TE):TE:=fun σ H Q=>ta σ H fun x H1=>tb σ H1 fun y H2=>r x y H2 Q
noncomputable def tUn (r:V→Hp→VK→Prop) (ta:TE):TE:=fun σ H Q=>ta σ H fun x H1=>r x H1 Q
noncomputable def rI (C:Int→Int→Prop) (g:Int→Int→V):R2:=fun x y H Q=>∃ i j,x= .int i∧y= .int j∧C i j∧Q (g i j) H
noncomputable def rI0 (g:Int→Int→V):R2:=fun x y H Q=>∃ i j,x= .int i∧y= .int j∧Q (g i j) H
noncomputable def rU (g:Int→V):V→Hp→VK→Prop:=fun x H Q=>∃ i,x= .int i∧Q (g i) H
section
variable {X:Cx} {a b c:Expr} {ta tb tc:TE} {pos:Pos}
theorem binT (ha:PE X a ta) (hb:PE X b tb) {pins:List (Addr×Obj)} {s:Shared} {σ:St} {H:Hp} {R:V→V→Hp→Prop} (I:Inv X pins σ H s)
 (h:ta σ H fun x H1=>tb σ H1 fun y H2=>R x y H2) {Q:Value→Shared→Prop} {f:Value→Value→Sem Value}
 (hf:∀ v u s2 x y H2,Inv X pins σ H2 s2→RelV x v→RelV y u→R x y H2→wpAny (model X.prog X.w) X.A (f v u) Q X.xe s2) :
 wpAny (model X.prog X.w) X.A (eval a X.env) (fun v s₁=>wpAny (model X.prog X.w) X.A (eval b X.env) (fun u s₂=>wpAny (model X.prog X.w) X.A (f v u) Q X.xe s₂) X.xe s₁) X.xe s:=by
 refine thn (ha pins s σ H _ I h) fun v s1 ⟨x,H1,I1,r1,q1⟩=>?_
 refine thn (hb pins s1 σ H1 _ I1 q1) fun u s2 ⟨y,H2,I2,r2,q2⟩=>?_
 exact hf v u s2 x y H2 I2 r1 r2 q2
theorem ae5 {op:Operator} {r:R2} (ho:OpR X (binaryOp op) r) (ha:PE X a ta) (hb:PE X b tb):PE X (.BinOp a op b pos) (tOp r ta tb):=by
 intro pins s σ H Q I h
 exact wpAny_BinOp (binT ha hb I h fun v u s2 x y H2 I2 rx ry q=>ho pins s2 σ H2 x y v u Q I2 rx ry q)
theorem aJ6 {op:UnaryOp} {r:V→Hp→VK→Prop} (ho:UnR X (unaryOp op) r) (ha:PE X a ta):PE X (.UnaryOp op a pos) (tUn r ta):=by
 intro pins s σ H Q I h
 exact UnaryOp_ (thn (ha pins s σ H _ I h) fun v s1 ⟨x,H1,I1,r1,q1⟩=>ho pins s1 σ H1 x v Q I1 r1 q1)
theorem opI {f:Value→Value→Sem Value} {C:Int→Int→Prop} {g:Int→Int→Int}
 (rule:∀ (i j:Int) (t u:Tok) (s:Shared) (Q:Value→Shared→Prop) (E:Value→Shared→Prop),C i j→Q (.int (g i j) s.toks) { s with toks:=s.toks + 1 }→wpAny (model X.prog X.w) X.A (f (.int i t) (.int j u)) Q E s) :
 OpR X f (rI C fun i j=> .int (g i j)):=by
 intro pins s σ H x y v u Q I rx ry h
 obtain ⟨i,j,rfl,rfl,hc,q⟩:=h
 obtain ⟨t,rfl⟩:=rx
 obtain ⟨t',rfl⟩:=ry
 exact rule i j t t' s _ _ hc ⟨.int (g i j),H,I.tok _,⟨_,rfl⟩,q⟩
theorem opI0 {f:Value→Value→Sem Value} {g:Int→Int→Int}
 (rule:∀ (i j:Int) (t u:Tok) (s:Shared) (Q:Value→Shared→Prop) (E:Value→Shared→Prop),Q (.int (g i j) s.toks) { s with toks:=s.toks + 1 }→wpAny (model X.prog X.w) X.A (f (.int i t) (.int j u)) Q E s) :
 OpR X f (rI0 fun i j=> .int (g i j)):=by
 intro pins s σ H x y v u Q I rx ry h
 obtain ⟨i,j,rfl,rfl,q⟩:=h
 obtain ⟨t,rfl⟩:=rx
 obtain ⟨t',rfl⟩:=ry
 exact rule i j t t' s _ _ ⟨.int (g i j),H,I.tok _,⟨_,rfl⟩,q⟩
theorem opB0 {f:Value→Value→Sem Value} {g:Int→Int→Bool}
 (rule:∀ (i j:Int) (t u:Tok) (s:Shared) (Q:Value→Shared→Prop) (E:Value→Shared→Prop),Q (.bool (g i j)) s→wpAny (model X.prog X.w) X.A (f (.int i t) (.int j u)) Q E s) :
 OpR X f (rI0 fun i j=> .bl (g i j)):=by
 intro pins s σ H x y v u Q I rx ry h
 obtain ⟨i,j,rfl,rfl,q⟩:=h
 obtain ⟨t,rfl⟩:=rx
 obtain ⟨t',rfl⟩:=ry
 exact rule i j t t' s _ _ ⟨.bl (g i j),H,I,rfl,q⟩
noncomputable def CDiv (i j:Int):Prop:=0 < j∧j < 1073741824
noncomputable def CMul (i j:Int):Prop:=(-(2 ^ 64) < i∧i < 2 ^ 64)∨(-(2 ^ 64) < j∧j < 2 ^ 64)
theorem CMul.ok {i j:Int} (h:CMul i j):IntMulOk i j:=by
 rcases h with ⟨h1,h2⟩ | ⟨h1,h2⟩
 · exact .of_left (intBits_le_64 h1 h2)
 · exact .of_right (intBits_le_64 h1 h2)
theorem aD3:OpR X (binaryOp .Add) (rI0 fun i j=> .int (i + j)):=opI0 fun _ _ _ _ _ _ _ q=>add_int q
theorem bk6:OpR X (binaryOp .Sub) (rI0 fun i j=> .int (i - j)):=opI0 fun _ _ _ _ _ _ _ q=>sub_int q
theorem bk8:OpR X (binaryOp .Mult) (rI CMul fun i j=> .int (i * j)):=opI fun _ _ _ _ _ _ _ hc q=>mul_int q hc.ok
theorem al9:OpR X (binaryOp .FloorDiv) (rI CDiv fun i j=> .int (i / j)):=opI fun i j _ _ _ _ _ hc q=>by
 have h1:(0:Int) < j:=hc.1
 have h2:j < 1073741824:=hc.2
 exact floordiv_int (by omega) (by rw [Int.fdiv_eq_ediv_of_nonneg i (by omega)]; exact q) (.inl (PyProof.noPylong_small (by omega)))
theorem ah7:OpR X (binaryOp .Mod) (rI (fun _ j=>0 < j) fun i j=> .int (i % j)):=opI fun i j _ _ _ _ _ hc q=>by
 have h1:(0:Int) < j:=hc
 exact mod_int' (by omega) (by rw [Int.fmod_eq_emod_of_nonneg i (by omega)]; exact q)
theorem unI {f:Value→Sem Value} {g:Int→Int}
 (rule:∀ (i:Int) (t:Tok) (s:Shared) (Q:Value→Shared→Prop) (E:Value→Shared→Prop),Q (.int (g i) s.toks) { s with toks:=s.toks + 1 }→wpAny (model X.prog X.w) X.A (f (.int i t)) Q E s) :
 UnR X f (rU fun i=> .int (g i)):=by
 intro pins s σ H x v Q I rx h
 obtain ⟨i,rfl,q⟩:=h
 obtain ⟨t,rfl⟩:=rx
 exact rule i t s _ _ ⟨.int (g i),H,I.tok _,⟨_,rfl⟩,q⟩
theorem at5:UnR X (unaryOp .USub) (rU fun i=> .int (-i)):=unI fun _ _ _ _ _ q=>neg_int q
end
noncomputable def scal:V→V→Bool
 | .non,.non=>true | .non,.int _=>true | .int _,.non=>true | .non,.bl _=>true | .bl _,.non=>true | .non,.str _=>true | .str _,.non=>true
 | .int _,.int _=>true | .bl _,.bl _=>true | .str _,.str _=>true | .byt _,.byt _=>true
 | .int _,.str _=>true | .str _,.int _=>true | .bl _,.str _=>true | .str _,.bl _=>true
 | _,_=>false
noncomputable def rEq:R2:=fun x y H Q=>scal x y=true∧Q (.bl (decide (x=y))) H
noncomputable def rNe:R2:=fun x y H Q=>scal x y=true∧Q (.bl (!decide (x=y))) H
theorem aN3 {i j:Int}:decide (V.int i=V.int j)=(i == j):=by
 rw [Bool.eq_iff_iff]
 simp
theorem aX5 {i j:Bool}:decide (V.bl i=V.bl j)=(i == j):=by
 rw [Bool.eq_iff_iff]
 simp
theorem aN2 {i j:Str}:decide (V.str i=V.str j)=(i == j):=by
 rw [Bool.eq_iff_iff]
 simp
theorem aN4 {i j:Array UInt8}:decide (V.byt i=V.byt j)=(i.toList == j.toList):=by
 rw [Bool.eq_iff_iff]
 cases i
 cases j
 simp
section
variable {X:Cx} {a b c:Expr} {ta tb tc:TE} {pos:Pos}
theorem ab1 {pins:List (Addr×Obj)} {σ:St} {H:Hp} {s:Shared} {Q:VK} {k k':Bool} (I:Inv X pins σ H s) (q:Q (.bl k) H) (e:k=k'):EP X pins σ Q (.bool k') s:=by
 subst e
 exact ⟨.bl k,H,I,rfl,q⟩
theorem aR8:OpR X (compareOp .Eq) rEq:=by
 intro pins s σ H x y v u Q I rx ry h
 obtain ⟨hs,q⟩:=h
 cases x with
 | non =>
   cases rx
   cases y with
   | non=>cases ry; exact PySem.EqNone.eq_none_none (ab1 I q (by simp))
   | bl j=>cases ry; exact PySem.EqNone.eq_none_bool (ab1 I q (by simp))
   | int j=>obtain ⟨t',rfl⟩:=ry; exact PySem.EqNone.eq_none_int (ab1 I q (by simp))
   | str j=>obtain ⟨t',rfl⟩:=ry; exact PySem.EqNone.eq_none_str (ab1 I q (by simp))
   | _=>exact absurd (show false=true from hs) Bool.false_ne_true
 | bl i =>
   cases rx
   cases y with
   | non=>cases ry; exact PySem.EqNone.eq_bool_none (ab1 I q (by simp))
   | bl j=>cases ry; exact eq_bool (ab1 I q aX5)
   | str j=>obtain ⟨t',rfl⟩:=ry; exact PySem.EqMixed.eq_bool_str (ab1 I q (by simp))
   | _=>exact absurd (show false=true from hs) Bool.false_ne_true
 | int i =>
   obtain ⟨t,rfl⟩:=rx
   cases y with
   | non=>cases ry; exact PySem.EqNone.eq_int_none (ab1 I q (by simp))
   | int j=>obtain ⟨t',rfl⟩:=ry; exact eq_int (ab1 I q aN3)
   | str j=>obtain ⟨t',rfl⟩:=ry; exact PySem.EqMixed.eq_int_str (ab1 I q (by simp))
   | _=>exact absurd (show false=true from hs) Bool.false_ne_true
 | str i =>
   obtain ⟨t,rfl⟩:=rx
   cases y with
   | non=>cases ry; exact PySem.EqNone.eq_str_none (ab1 I q (by simp))
   | bl j=>cases ry; exact PySem.EqMixed.eq_str_bool (ab1 I q (by simp))
   | int j=>obtain ⟨t',rfl⟩:=ry; exact PySem.EqMixed.eq_str_int (ab1 I q (by simp))
   | str j=>obtain ⟨t',rfl⟩:=ry; exact eq_str (ab1 I q aN2)
   | _=>exact absurd (show false=true from hs) Bool.false_ne_true
 | byt i =>
   obtain ⟨t,rfl⟩:=rx
   cases y with
   | byt j=>obtain ⟨t',rfl⟩:=ry; exact PySem.W.eq_bytes (ab1 I q aN4)
   | _=>exact absurd (show false=true from hs) Bool.false_ne_true
 | _=>cases y <;> exact absurd (show false=true from hs) Bool.false_ne_true
theorem aE8:OpR X (compareOp .NotEq) rNe:=by
 intro pins s σ H x y v u Q I rx ry h
 obtain ⟨hs,q⟩:=h
 cases x with
 | non =>
   cases rx
   cases y with
   | non=>cases ry; exact PySem.EqNone.ne_none_none (ab1 I q (by simp))
   | bl j=>cases ry; exact PySem.EqNone.ne_none_bool (ab1 I q (by simp))
   | int j=>obtain ⟨t',rfl⟩:=ry; exact PySem.EqNone.ne_none_int (ab1 I q (by simp))
   | str j=>obtain ⟨t',rfl⟩:=ry; exact PySem.EqNone.ne_none_str (ab1 I q (by simp))
   | _=>exact absurd (show false=true from hs) Bool.false_ne_true
 | bl i =>
   cases rx
   cases y with
   | non=>cases ry; exact PySem.EqNone.ne_bool_none (ab1 I q (by simp))
   | bl j=>cases ry; exact ne_bool (ab1 I q (congrArg not aX5))
   | str j=>obtain ⟨t',rfl⟩:=ry; exact PySem.EqMixed.ne_bool_str (ab1 I q (by simp))
   | _=>exact absurd (show false=true from hs) Bool.false_ne_true
 | int i =>
   obtain ⟨t,rfl⟩:=rx
   cases y with
   | non=>cases ry; exact PySem.EqNone.ne_int_none (ab1 I q (by simp))
   | int j=>obtain ⟨t',rfl⟩:=ry; exact ne_int (ab1 I q (congrArg not aN3))
   | str j=>obtain ⟨t',rfl⟩:=ry; exact PySem.EqMixed.ne_int_str (ab1 I q (by simp))
   | _=>exact absurd (show false=true from hs) Bool.false_ne_true
 | str i =>
   obtain ⟨t,rfl⟩:=rx
   cases y with
   | non=>cases ry; exact PySem.EqNone.ne_str_none (ab1 I q (by simp))
   | bl j=>cases ry; exact PySem.EqMixed.ne_str_bool (ab1 I q (by simp))
   | int j=>obtain ⟨t',rfl⟩:=ry; exact PySem.EqMixed.ne_str_int (ab1 I q (by simp))
   | str j=>obtain ⟨t',rfl⟩:=ry; exact ne_str (ab1 I q (congrArg not aN2))
   | _=>exact absurd (show false=true from hs) Bool.false_ne_true
 | byt i =>
   obtain ⟨t,rfl⟩:=rx
   cases y with
   | byt j=>obtain ⟨t',rfl⟩:=ry; exact PySem.W.ne_bytes (ab1 I q (congrArg not aN4))
   | _=>exact absurd (show false=true from hs) Bool.false_ne_true
 | _=>cases y <;> exact absurd (show false=true from hs) Bool.false_ne_true
theorem bk9:OpR X (compareOp .Lt) (rI0 fun i j=> .bl (decide (i < j))):=opB0 fun _ _ _ _ _ _ _ q=>lt_int q
theorem bl1:OpR X (compareOp .Gt) (rI0 fun i j=> .bl (decide (j < i))):=opB0 fun _ _ _ _ _ _ _ q=>gt_int q
theorem op_ge:OpR X (compareOp .GtE) (rI0 fun i j=> .bl (decide (j≤i))):=opB0 fun _ _ _ _ _ _ _ q=>ge_int q
theorem av5:OpR X (compareOp .Is) (fun x y H Q=>y= .non∧Q (.bl (decide (x= .non))) H):=by
 intro pins s σ H x y v u Q I rx ry h
 obtain ⟨rfl,q⟩:=h
 cases ry
 refine is_none_gen (ab1 I q ?_)
 cases x <;> first
  | (cases rx; rfl)
  | (obtain ⟨t,rfl⟩:=rx; rfl)
theorem bd3:OpR X (compareOp .IsNot) (fun x y H Q=>y= .non∧Q (.bl (!decide (x= .non))) H):=by
 intro pins s σ H x y v u Q I rx ry h
 obtain ⟨rfl,q⟩:=h
 cases ry
 refine isnot_none_gen (ab1 I q ?_)
 cases x <;> first
  | (cases rx; rfl)
  | (obtain ⟨t,rfl⟩:=rx; rfl)
theorem ac1 (b:Expr) {op:CmpOp} (h:op≠ .In:=by decide) (h2:op≠ .NotIn:=by decide):behindInMarks op b=false:=by
 have e1:(op == CmpOp.In)=false:=by cases op <;> first | rfl | exact absurd rfl h
 have e2:(op == CmpOp.NotIn)=false:=by cases op <;> first | rfl | exact absurd rfl h2
 cases b <;> simp [behindInMarks,e1,e2]
theorem aJ8 {op:CmpOp} {r:R2} (ho:OpR X (compareOp op) r) (ha:PE X a ta) (hb:PE X b tb) (hm:behindInMarks op b=false):PE X (.Compare a [op] [b] pos) (tOp r ta tb):=by
 intro pins s σ H Q I h
 exact wpAny_Compare1 (binT ha hb I h fun v u s2 x y H2 I2 rx ry q=>ho pins s2 σ H2 x y v u Q I2 rx ry q) hm
noncomputable def bi4 (t:TE):TT:=fun σ H Q=>t σ H fun x H'=>∃ k,x= .bl k∧Q k H'
theorem ab3 {op:CmpOp} {r:R2} (ho:OpR X (compareOp op) r) (ha:PE X a ta) (hb:PE X b tb) (hm:behindInMarks op b=false):PT X (.Compare a [op] [b] pos) (bi4 (tOp r ta tb)):=by
 intro pins s σ H Q I h
 refine wpAny_isTrue_Compare1 (thn (ha pins s σ H _ I h) fun v s1 ⟨x,H1,I1,r1,q1⟩=>thn (hb pins s1 σ H1 _ I1 q1) fun u s2 ⟨y,H2,I2,r2,q2⟩ =>
  thn (ho pins s2 σ H2 x y v u _ I2 r1 r2 q2) fun c s3 ⟨z,H3,I3,r3,k,e,q3⟩=>?_) hm
 subst e
 cases r3
 exact wpAny_truthy_bool ⟨H3,I3,q3⟩
theorem aL7:(sizeLine:Nat) < 2 ^ 63:=by rw [sizeLine_eq]; decide
theorem bi0 {x:V} {us:List Value} (r:Vals [x] us):∃ u,us=[u]∧RelV x u:=by
 cases r with
 | cons r1 r2=>cases r2; exact ⟨_,rfl,r1⟩
theorem bh9 {x y:V} {us:List Value} (r:Vals [x,y] us):∃ u w',us=[u,w']∧RelV x u∧RelV y w':=by
 cases r with
 | cons r1 r2 =>
   cases r2 with
   | cons r3 r4=>cases r4; exact ⟨_,_,rfl,r1,r3⟩
end
structure ObjM (h:Heap) (x dx C:Addr) (mA:Str→Option Value):Prop where
 obj:h.get? x=some (PySem.W.instObj C dx)
 ns:h.Ns1 dx mA
 ne:dx≠x
theorem aL5 {h:Heap} {dx:Addr} {mA:Str→Option Value} (n:h.Ns1 dx mA):∃ od,h.get? dx=some od∧∀ name,PySem.W.lookIn name od=some (mA name):=by
 obtain ⟨o,es,ep,ho,hd,hk,_,hm⟩:=n
 refine ⟨o,ho,fun name=>?_⟩
 have e:=hm name
 unfold nsFind findBy at e
 rw [← Array.find?_toList] at e
 unfold PySem.W.lookIn
 rw [hd]
 dsimp only
 split
 · rename_i y q
   rw [q] at e
   exact congrArg some e
 · rename_i q
   rw [q] at e
   have a:es.toList.any (·.refKey)=false:=by
    rw [List.any_eq_false]
    intro y hy
    obtain ⟨z,t,hkey⟩:=hk y (Array.mem_toList_iff.mp hy)
    simp [DictEntry.refKey,hkey]
   have a':¬ es.toList.any (·.refKey)=true:=by rw [a]; exact Bool.false_ne_true
   rw [if_neg a']
   exact congrArg some e
theorem ObjM.look {h:Heap} {x dx C:Addr} {mA:Str→Option Value} (I:ObjM h x dx C mA):∃ od,PySem.W.InstAt h x (PySem.W.instObj C dx) C (some od)∧∀ name,PySem.W.lookIn name od=some (mA name) :=
 let ⟨od,ho,hl⟩:=aL5 I.ns
 ⟨od,⟨I.obj,rfl,rfl,ho⟩,hl⟩
noncomputable def putF (f:Str) (v:V):List (Str×V)→List (Str×V)
 | []=>[(f,v)]
 | (g,x) :: r=>if g=f then (g,v) :: r else (g,x) :: putF f v r
section
variable {P:Program} {w:World} {H H':Hp} {h h':Heap} {a C dx:Addr} {fs fs':List (Str×V)}
theorem bf8 (hok:HOk P w H h) (e:H a=some (.ins C dx fs)):∃ mA,ObjM h a dx C mA∧(∀ f,RelO (fs.lookup f) (mA f))∧PySem.Within mA (fs.map (·.1))∧fs.length≤1000∧H dx=some (.own a):=by
 obtain ⟨d,z,ne,ob,mA,n,r,q⟩:=(show ObjOk P w H h a (.ins C dx fs) from hok a _ e)
 exact ⟨mA,⟨ob,n,ne⟩,r,q,z,d⟩
end
structure Cls (K:PySem.W.Frag) (C:Addr):Prop where
 pg:PySem.W.plainGet K C Str.empty=true
 hd:PySem.W.hasDictIn K C=true
 po:PySem.W.plainOver K C=true
 sa:PySem.W.findIn K (.ref C) "__setattr__" = some (some (.builtin "object.__setattr__"))
theorem Cls.get {K:PySem.W.Frag} {C:Addr} (c:Cls K C) (f:Str):PySem.W.plainGet K C f=true:=c.pg
section
variable {X:Cx} {pins:List (Addr×Obj)} {σ:St} {H:Hp} {s:Shared} {A:Around} {E:Value→Shared→Prop} {Q:Value→Shared→Prop} {c:Value} {b:Bool}
inductive TyOf (K:PySem.W.Frag) (H:Hp):V→Value→Prop where
 | non:TyOf K H .non (.type "NoneType")
 | bl (x:Bool):TyOf K H (.bl x) (.type "bool")
 | int (i:Int):TyOf K H (.int i) (.type "int")
 | str (x:Str):TyOf K H (.str x) (.type "str")
 | flt (x:UInt64):TyOf K H (.flt x) (.type "float")
 | lst {a:Addr} {xs:List V} (e:H a=some (.lst xs)):TyOf K H (.ref a) (.type "list")
 | frz {a:Addr} {o:Obj} {xs:List V} (e:H a=some (.frz o (.lst xs))):TyOf K H (.ref a) (.type "list")
 | tup {a:Addr} {xs:List V} (e:H a=some (.tup xs)):TyOf K H (.ref a) (.type "tuple")
 | dK {a:Addr} {kvs:List (Key×V)} (e:H a=some (.dK kvs)):TyOf K H (.ref a) (.type "dict")
 | dT {a:Addr} {kvs:List (List Key×V)} (e:H a=some (.dT kvs)):TyOf K H (.ref a) (.type "dict")
 | ins {a C dx:Addr} {fs:List (Str×V)} (e:H a=some (.ins C dx fs)) (cl:Cls K C) (ha:PySem.W.findIn K (.ref C) "__class__" = some (some (.builtin "object.__class__")))
    (hn:PySem.W.specialIn K (.builtin "object.__class__") "__get__" = some (some (.builtin "getset_descriptor.__get__"))) (htk:PySem.W.takesIn K (.builtin "object.__class__")=some true)
    (hm:PySem.W.mroIn K C (.type "object")=some true):TyOf K H (.ref a) (.ref C)
theorem aM1 {x:V} {u t:Value} (I:Inv X pins σ H s) (rx:RelV x u) (ty:TyOf X.K H x t) (e:PySem.W.kitOne X.K t c=some b) (h:∀ tk,Q (.bool b) { s with toks:=tk }) :
 wpAny (model X.prog X.w) A (call (.builtin "isinstance") [u,c]) Q E s:=by
 cases ty with
 | non=>cases (show u=Value.none from rx); exact PySem.W.kia_one PySem.W.kitx_none I.kIn True.intro e (fun z=>nomatch z) h
 | bl y=>cases (show u=Value.bool y from rx); exact PySem.W.kia_one PySem.W.kitx_bool I.kIn True.intro e (fun z=>nomatch z) h
 | int i=>obtain ⟨t,q⟩:=(show ∃ t,u=Value.int i t from rx); cases q; exact PySem.W.kia_one PySem.W.kitx_int I.kIn True.intro e (fun z=>nomatch z) h
 | str y=>obtain ⟨t,q⟩:=(show ∃ t,u=Value.str y t from rx); cases q; exact PySem.W.kia_one PySem.W.kitx_str I.kIn True.intro e (fun z=>nomatch z) h
 | flt y=>obtain ⟨t,q⟩:=(show ∃ t,u=Value.float y t from rx); cases q; exact PySem.W.kia_one PySem.W.kitx_float I.kIn True.intro e (fun z=>nomatch z) h
 | @lst a xs ea =>
   cases (show u=Value.ref a from rx)
   obtain ⟨_,_,n,_,h1⟩:=(show ObjOk X.prog X.w H s.heap a (.lst xs) from I.hok a _ ea)
   exact PySem.W.kia_one PySem.W.kitx_list I.kIn ⟨_,h1,rfl⟩ e (fun z=>nomatch z) h
 | @frz a ob xs ea =>
   cases (show u=Value.ref a from rx)
   obtain ⟨_,_,_,n,_,h1⟩:=(show ObjOk X.prog X.w H s.heap a (.frz ob (.lst xs)) from I.hok a _ ea)
   exact PySem.W.kia_one PySem.W.kitx_list I.kIn ⟨_,h1,rfl⟩ e (fun z=>nomatch z) h
 | @tup a xs ea =>
   cases (show u=Value.ref a from rx)
   obtain ⟨_,_,_,p⟩:=(show ObjOk X.prog X.w H s.heap a (.tup xs) from I.hok a _ ea)
   obtain ⟨o,h1,h2,_⟩:=p
   exact PySem.W.kia_one PySem.W.kitx_tuple I.kIn ⟨o,h1,h2⟩ e (fun z=>nomatch z) h
 | @dK a kvs ea =>
   cases (show u=Value.ref a from rx)
   obtain ⟨_,_,vs,_,p⟩:=(show ObjOk X.prog X.w H s.heap a (.dK kvs) from I.hok a _ ea)
   obtain ⟨o,es,ep,h1,h2,_⟩:=p
   exact PySem.W.kia_one PySem.W.kitx_dict I.kIn ⟨o,h1,h2.1⟩ e (fun z=>nomatch z) h
 | @dT a kvs ea =>
   cases (show u=Value.ref a from rx)
   obtain ⟨_,_,xs,_,o,es,ep,h1,h2,_⟩:=(show ObjOk X.prog X.w H s.heap a (.dT kvs) from I.hok a _ ea)
   exact PySem.W.kia_one PySem.W.kitx_dict I.kIn ⟨o,h1,h2.1⟩ e (fun z=>nomatch z) h
 | @ins a C dx fs ea cl ha hn htk hm =>
   cases (show u=Value.ref a from rx)
   obtain ⟨mA,O,_⟩:=bf8 I.hok ea
   obtain ⟨od,J,_⟩:=O.look
   exact PySem.W.kia_one (PySem.W.kitx_own (cl.get _) cl.hd ha hn htk hm) I.kIn J e (fun z=>nomatch z) h
end
structure Room (k:Nat) (A:Around):Prop where
 hd:A.handled=none
 dp:A.depth + 3 * k + 5 < recursionLimit
 un:A.units + 16 * k + 200 < cLine
theorem Room.mono {j k:Nat} {A:Around} (r:Room k A) (h:j≤k):Room j A:=⟨r.hd,by have:=r.dp; omega,by have:=r.un; omega⟩
theorem Room.deeper {k:Nat} {A:Around} (r:Room (k + 1) A) (env:Env):Room k (A.deeper env) :=
 ⟨r.hd,by have:=r.dp; show A.depth + 1 + 3 * k + 5 < _; omega,by have:=r.un; show A.units + 3 + 16 * k + 200 < _; omega⟩
theorem Room.in1 {k:Nat} {A:Around} (r:Room (k + 1) A):Room k A.in1 :=
 ⟨r.hd,by have:=r.dp; show A.depth + 3 * k + 5 < _; omega,by have:=r.un; show A.units + 1 + 16 * k + 200 < _; omega⟩
theorem Room.depth {k:Nat} {A:Around} (r:Room k A):A.depth < recursionLimit:=by have:=r.dp; omega
theorem Room.units {k:Nat} {A:Around} (r:Room k A):A.units + 64 < cLine:=by have:=r.un; omega
noncomputable def tNil:TA:=fun _ H Q=>Q [] H
noncomputable def ad7 (ta:TE) (tr:TA):TA:=fun σ H Q=>ta σ H fun x H1=>tr σ H1 fun xs H2=>Q (x :: xs) H2
section
variable {X:Cx} {e:Expr} {es:List Expr} {te:TE} {t:TA} {pos:Pos}
theorem aa2:PA X [] tNil:=fun _ _ _ _ H Q I h=>Calls.spliced_nil ⟨[],H,I,.nil,h⟩
theorem aa0 (ha:PE X e te) (hr:PA X es t) (hs:starEach (e :: es) X.env=(false,eval e X.env) :: starEach es X.env:=by rfl):PA X (e :: es) (ad7 te t):=by
 intro pos pins s σ H Q I h
 rw [hs]
 show wpAny _ _ (spliced ((false,eval e X.env) :: backTo pos (starEach es X.env))) _ _ s
 refine Calls.spliced_cons (thn (ha pins s σ H _ I h) fun u s1 ⟨x,H1,I1,r1,q1⟩=>?_)
 exact thn (hr pos pins s1 σ H1 _ I1 q1) fun us s2 ⟨xs,H2,I2,r2,q2⟩=>⟨x :: xs,H2,I2,.cons r1 r2,q2⟩
noncomputable def tTup (t:TA):TE:=fun σ H Q=>t σ H fun xs H1=>xs.length≤sizeLine∧∀ p,H1 p=none→Q (.ref p) (upd H1 p (.tup xs))
noncomputable def tLst (t:TA):TE:=fun σ H Q=>t σ H fun xs H1=>xs.length≤sizeLine∧∀ p,H1 p=none→Q (.ref p) (upd H1 p (.lst xs))
theorem aJ7 {x1} (h:PA X es t):PE X (.Tuple es x1 pos) (tTup t):=by
 intro pins s σ H Q I hq
 refine wpAny_Tuple_spliced (thn (h pos pins s σ H _ I hq) fun us s1 ⟨xs,H1,I1,r,z,q⟩=>⟨by rw [← r.length]; exact z,?_⟩)
 have hf:H1 s1.heap.objs.size=none:=I1.hok.fresh (Nat.le_refl _)
 refine ⟨.ref s1.heap.objs.size,upd H1 s1.heap.objs.size (.tup xs),I1.laid (t':=s1.toks) (fun b u e=>Heap.get?_push_of_some _ e) (Nat.le_refl _) ?_,rfl,q _ hf⟩
 exact ⟨z,us,r,⟨_,Heap.get?_push_size _ rfl,rfl,_,rfl⟩⟩
theorem al6 (h:PA X es t):PE X (.List es pos) (tLst t):=by
 intro pins s σ H Q I hq
 refine wpAny_List_spliced (thn (h pos pins s σ H _ I hq) fun us s1 ⟨xs,H1,I1,r,z,q⟩=>⟨by rw [← r.length]; exact z,?_⟩)
 have hf:H1 s1.heap.objs.size=none:=I1.hok.fresh (Nat.le_refl _)
 refine ⟨.ref s1.heap.objs.size,upd H1 s1.heap.objs.size (.lst xs),I1.laid (t':=s1.toks) (fun b u e=>Heap.get?_push_of_some _ e) (Nat.le_refl _) ?_,rfl,q _ hf⟩
 exact ⟨z,us,0,r,Heap.get?_push_size _ rfl⟩
end
noncomputable abbrev Sp:=List V→Hp→VK→XK→Prop
noncomputable abbrev CXT:=List Env→Hp→Shared→XK→Value→Shared→Prop
structure Env0 (P:Program) (w:World) (K:PySem.W.Frag) (mg:Str→Option Value) (base:Heap) (A:Around) (outer:List Env) (s:Shared) (H:Hp):Prop where
 frames:A.frames=some outer
 mod:Mod K mg base
 bs:∀ b o,base.get? b=some o→s.heap.get? b=some o∧H b=none
 bsz:base.objs.size≤s.heap.objs.size
 funs:s.heap.FunFrames base outer
 frf:∀ b∈frs outer,H b=none
 hok:HOk P w H s.heap
 bare:AllBare s.gens
noncomputable def CE (outer:List Env) (P:Program) (w:World) (H:Hp) (s:Shared) (Q:VK) (u:Value) (s':Shared):Prop :=
 ∃ v H',s'.os=s.os∧AllBare s'.gens∧Un (frs outer) [] H H' s.heap s'.heap∧HOk P w H' s'.heap∧RelV v u∧Q v H'
noncomputable def CR (CX:CXT) (outer:List Env) (P:Program) (w:World) (H:Hp) (s:Shared) (Q:VK) (E:XK) (r:Result) (s':Shared):Prop :=
 match r with
 | .ok (.ret u)=>CE outer P w H s Q u s'
 | .ok _=>False
 | .error e=>CX outer H s E e s'
structure FnOk (P:Program) (w:World) (K:PySem.W.Frag) (mg:Str→Option Value) (base:Heap) (CX:CXT) (k:Nat) (f:Addr) (fd:FuncData) (ps:List Str) (sp:Sp):Prop where
 len:∀ vs H Q E,sp vs H Q E→vs.length=ps.length
 run:∀ (A:Around) (outer:List Env) (s:Shared) (H:Hp) (args:Args) (us:List Value) (vs:List V) (Q:VK) (E:XK),Room k A→Env0 P w K mg base A outer s H→BindsTo s fd args (ps.zip us)→Vals vs us→sp vs H Q E →
  codeAny (model P w) A (.call (.ref f) args) (CR CX outer P w H s Q E) s
theorem FnOk.mono {P:Program} {w:World} {K:PySem.W.Frag} {mg:Str→Option Value} {base:Heap} {CX:CXT} {j k:Nat} {f:Addr} {fd:FuncData} {ps:List Str} {sp:Sp} (F:FnOk P w K mg base CX j f fd ps sp) (h:j≤k) :
 FnOk P w K mg base CX k f fd ps sp:=⟨F.len,fun A outer s H args us vs Q E hr=>F.run A outer s H args us vs Q E (hr.mono h)⟩
theorem FnOk.imp {P:Program} {w:World} {K:PySem.W.Frag} {mg:Str→Option Value} {base:Heap} {CX:CXT} {k:Nat} {f:Addr} {fd:FuncData} {ps:List Str} {sp sp':Sp} (F:FnOk P w K mg base CX k f fd ps sp)
 (h:∀ vs H Q E,sp' vs H Q E→sp vs H Q E):FnOk P w K mg base CX k f fd ps sp' :=
 ⟨fun vs H Q E q=>F.len vs H Q E (h _ _ _ _ q),fun A outer s H args us vs Q E hr he hb hv hs=>F.run A outer s H args us vs Q E hr he hb hv (h _ _ _ _ hs)⟩
theorem Env0.in1 {P:Program} {w:World} {K:PySem.W.Frag} {mg:Str→Option Value} {base:Heap} {A:Around} {outer:List Env} {s:Shared} {H:Hp} (e:Env0 P w K mg base A outer s H) :
 Env0 P w K mg base A.in1 outer s H:=⟨e.frames,e.mod,e.bs,e.bsz,e.funs,e.frf,e.hok,e.bare⟩
section
variable {X:Cx} {pins:List (Addr×Obj)} {σ:St} {H:Hp} {s s':Shared}
theorem Inv.env0 (I:Inv X pins σ H s):Env0 X.prog X.w X.K X.mg X.base X.A X.stack s H :=
 ⟨I.ok.frames,I.ok.mod,I.bs,Nat.le_trans I.ok.bsz I.sz,I.stack,I.stkFree,I.hok,I.bare⟩
theorem Inv.after {Q:VK} {u:Value} (I:Inv X pins σ H s) (h:CE X.stack X.prog X.w H s Q u s'):EP X pins σ Q u s':=by
 obtain ⟨v,H',os,bare,un,hok,r,q⟩:=h
 obtain ⟨hh,g,d,t,os'⟩:=s'
 obtain rfl:os'=s.os:=os
 exact ⟨v,H',I.call (h':=hh) (g':=g) (d':=d) (t':=t) (ch:=[]) un hok bare (fun b z=>absurd z (by simp)),r,q⟩
end
noncomputable def aG6 (sp:Sp) (dvs:List V) (E:XK) (t:TA):TE:=fun σ H Q=>t σ H fun vs H1=>sp (vs ++ dvs) H1 Q E
noncomputable def Binds (K:PySem.W.Frag) (fd:FuncData) (ps:List Str) (ds:List Value):Prop :=
 ∀ (s:Shared) (us:List Value),K.In s.heap→(us ++ ds).length=ps.length→BindsTo s fd ⟨us,[]⟩ (ps.zip (us ++ ds))
theorem Binds.all {K:PySem.W.Frag} {fd:FuncData} {ps:List Str} (h:∀ us:List Value,us.length=ps.length→bindArgs fd ⟨us,[]⟩=pure (ps.zip us)):Binds K fd ps []:=fun s us _ hl=>by
 rw [List.append_nil] at hl ⊢
 exact .of_eq (h us hl)
noncomputable def aE1 (CX:CXT) (X:Cx) (E:XK):Prop:=∀ (pins:List (Addr×Obj)) (σ:St) (H:Hp) (s:Shared) (e:Value) (s':Shared),Inv X pins σ H s→CX X.stack H s E e s'→X.xe e s'
section
variable {X:Cx} {CX:CXT} {k:Nat} {f C:Addr} {fd:FuncData} {ps:List Str} {sp:Sp} {dvs:List V} {ds:List Value} {E:XK} {x m:Str} {p pos apos:Pos} {e o:Expr} {es:List Expr} {ta:TE} {t:TA}
theorem bj6 {pins:List (Addr×Obj)} {σ:St} {H:Hp} {s:Shared} {Q:VK} {us:List Value} {vs:List V} (F:FnOk X.prog X.w X.K X.mg X.base CX k f fd ps sp) (hr:Room k X.A) (hb:Binds X.K fd ps ds) (hd:Vals dvs ds) (hx:aE1 CX X E)
 (I:Inv X pins σ H s) (r:Vals vs us) (h:sp (vs ++ dvs) H Q E):wpAny (model X.prog X.w) X.A (call (.ref f) us) (EP X pins σ Q) X.xe s:=by
 have r2:Vals (vs ++ dvs) (us ++ ds):=r.append hd
 have hl:(us ++ ds).length=ps.length:=by rw [← r2.length]; exact F.len _ _ _ _ h
 refine wpAny_call (codeAny_mono (F.run X.A X.stack s H ⟨us,[]⟩ (us ++ ds) (vs ++ dvs) Q E hr I.env0 (hb s us I.kIn hl) r2 h) fun r s' hq=>?_)
 cases r with
 | error e=>exact hx pins σ H s e s' I hq
 | ok fl =>
   cases fl with
   | ret u=>exact I.after hq
   | next=>exact False.elim hq
   | brk=>exact False.elim hq
   | cont=>exact False.elim hq
theorem ac4 (F:FnOk X.prog X.w X.K X.mg X.base CX k f fd ps sp) (hr:Room k X.A) (hg:Gl X x) (hm:X.mg x=some (.ref f)) (hk:PySem.W.keepIn X.K (.ref f)=true) (hb:Binds X.K fd ps ds) (hd:Vals dvs ds) (hx:aE1 CX X E)
 (ha:PA X (e :: es) t) (hdb:(x == ("__debug__" : Str))=false:=by decide) (he:starEach (e :: es) X.env=(false,eval e X.env) :: starEach es X.env:=by rfl) (hpl:(backTo pos (starEach es X.env)).any (·.1)=false:=by rfl) :
 PE X (.Call (.Name x p) (e :: es) [] pos) (aG6 sp dvs E t):=by
 intro pins s σ H Q I h
 refine wpAny_Call_Name_kw (am1 I hg hm ?_ hdb)
 refine PySem.W.callWith_K (h₀:=X.base) I.ok.mod.kin hk (thn (ha pos pins s σ H _ I h) fun us s1 ⟨vs,H1,I1,r,q⟩=>⟨I1.kIn,?_⟩) he hpl
 exact bj6 F hr hb hd hx I1 r q
end
noncomputable def PK (X:Cx) (kws:List Keyword) (t:TA):Prop :=
 ∀ (pos:Pos) (pins:List (Addr×Obj)) (s:Shared) (σ:St) (H:Hp) (Q:List V→Hp→Prop),Inv X pins σ H s→t σ H Q→wpAny (model X.prog X.w) X.A (evalAll ((backToKw pos (keywordEach kws X.env)).map (·.2))) (AP X pins σ Q) X.xe s
section
variable {X:Cx} {CX:CXT} {k:Nat} {f C:Addr} {fd:FuncData} {ps ks:List Str} {sp:Sp} {E:XK} {x m:Str} {p pos apos kpos:Pos} {e o:Expr} {es:List Expr} {kws:List Keyword} {te ta:TE} {t tk:TA} {nm:Option Str}
theorem aW5:PK X [] tNil:=fun _ _ _ _ H Q I h=>wpAny_evalAll_nil ⟨[],H,I,.nil,h⟩
theorem aJ5 (ha:PE X e te) (hr:PK X kws t):PK X (⟨nm,e,kpos⟩ :: kws) (ad7 te t):=by
 intro pos pins s σ H Q I h
 show wpAny _ _ (evalAll ((do let v ← eval e X.env; standAt pos; pure v) :: (backToKw pos (keywordEach kws X.env)).map (·.2))) _ _ s
 refine wpAny_evalAll_cons (wpAny_bind (thn (ha pins s σ H _ I h) fun u s1 ⟨x,H1,I1,r1,q1⟩=>wpAny_bind (wpAny_standAt (wpAny_pure ?_))))
 exact thn (hr pos pins s1 σ H1 _ I1 q1) fun us s2 ⟨xs,H2,I2,r2,q2⟩=>⟨x :: xs,H2,I2,.cons r1 r2,q2⟩
variable {g:List Value→List Value→List Value} {gV:List V→List V→List V}
end
structure FnScope (N P:List Str) (sc:Scope):Prop where
 kind:sc.kind= .function
 co:sc.isCoroutine=false
 gen:sc.isGenerator=false
 nd:N.Nodup
 pre:N.take P.length=P
 par:∀ x∈P,sc.names.lookup x=some .local∨sc.names.lookup x=some .cell
 nofree:∀ y∈sc.names,y.2≠ .free
theorem ay2 {kindOf:Str→Option NameKind} {x:Str}:∀ {binds:List (Str×Value)} {m:Str→Option Value},(∀ v,(x,v)∉binds)→bindL kindOf binds m x=m x
 | [],_,_=>rfl
 | (n,v) :: r,m,h=>by
   unfold bindL
   rw [ay2 fun w hw=>h w (List.mem_cons_of_mem _ hw)]
   split
   · have:x≠n:=by rintro rfl; exact h v List.mem_cons_self
     simp [this]
   · rfl
theorem ay4 {kindOf:Str→Option NameKind} {x:Str}:∀ {binds:List (Str×Value)} {m:Str→Option Value},(∀ v,(x,v)∉binds)→bindC kindOf binds m x=m x
 | [],_,_=>rfl
 | (n,v) :: r,m,h=>by
   unfold bindC
   rw [ay4 fun w hw=>h w (List.mem_cons_of_mem _ hw)]
   split
   · rfl
   · have:x≠n:=by rintro rfl; exact h v List.mem_cons_self
     simp [this]
theorem ay3 {kindOf:Str→Option NameKind} {x:Str} {v:Value}:∀ {P:List Str} {vs:List Value} {i:Nat} {m:Str→Option Value},P.Nodup→P[i]?=some x→vs[i]?=some v→kindOf x=some .local →
 bindL kindOf (P.zip vs) m x=some v
 | [],_,_,_,_,h,_,_=>by simp at h
 | _ :: _,[],_,_,_,_,h,_=>by simp at h
 | p :: P,w :: vs,0,m,nd,h1,h2,hk=>by
   simp at h1 h2; subst h1; subst h2
   show bindL kindOf ((p,w) :: P.zip vs) m p=_
   unfold bindL
   rw [ay2 fun v hv=>(List.nodup_cons.mp nd).1 (List.of_mem_zip hv).1,if_pos hk]
   simp
 | p :: P,w :: vs,i + 1,m,nd,h1,h2,hk=>by
   show bindL kindOf ((p,w) :: P.zip vs) m x=_
   unfold bindL
   exact ay3 (i:=i) (List.nodup_cons.mp nd).2 (by simpa using h1) (by simpa using h2) hk
theorem ay5 {kindOf:Str→Option NameKind} {x:Str} {v:Value}:∀ {P:List Str} {vs:List Value} {i:Nat} {m:Str→Option Value},P.Nodup→P[i]?=some x→vs[i]?=some v→kindOf x≠some .local →
 bindC kindOf (P.zip vs) m x=some v
 | [],_,_,_,_,h,_,_=>by simp at h
 | _ :: _,[],_,_,_,_,h,_=>by simp at h
 | p :: P,w :: vs,0,m,nd,h1,h2,hk=>by
   simp at h1 h2; subst h1; subst h2
   show bindC kindOf ((p,w) :: P.zip vs) m p=_
   unfold bindC
   rw [ay4 fun v hv=>(List.nodup_cons.mp nd).1 (List.of_mem_zip hv).1,if_neg hk]
   simp
 | p :: P,w :: vs,i + 1,m,nd,h1,h2,hk=>by
   show bindC kindOf ((p,w) :: P.zip vs) m x=_
   unfold bindC
   exact ay5 (i:=i) (List.nodup_cons.mp nd).2 (by simpa using h1) (by simpa using h2) hk
noncomputable def ai9 (N:List Str) (vs:List V):St:=vs.map some ++ List.replicate (N.length - vs.length) none
noncomputable def cxOf (CX:CXT) (P:Program) (w:World) (K:PySem.W.Frag) (mg:Str→Option Value) (base:Heap) (N:List Str) (qual:Str) (scope:Scope) (f:Addr) (cd:Value) (A:Around) (outer:List Env) (s:Shared) (H:Hp) (E:XK):Cx where
 prog:=P
 w:=w
 K:=K
 mg:=mg
 base:=base
 A:=A.deeper (envOfC qual scope s.heap.objs.size f cd)
 N:=N
 s₀:=s
 H₀:=H
 env:=envOfC qual scope s.heap.objs.size f cd
 outer:=outer
 stack:=envOfC qual scope s.heap.objs.size f cd :: outer
 ex:=[]
 calm:=true
 fn:=fun _=>true
 pn:=[]
 xe:=fun e s'=>wpAny (model P w) (A.deeper (envOfC qual scope s.heap.objs.size f cd)) (leaving (envOfC qual scope s.heap.objs.size f cd) e) (fun _ s''=>CX outer H s E e s'') (fun e' s''=>CX outer H s E e' s'') s'
theorem aD9 {sc:Scope} {n:Nat} {x:Str} (h:sc.names.lookup x=some .cell):∃ c,(cellsFrom n sc.names []).lookup x=some c:=by
 have q:=PySem.W.cellsFrom_some sc.names n [] (.inl h)
 exact Option.isSome_iff_exists.mp q
theorem aM3 {CX:CXT} {P:Program} {w:World} {K:PySem.W.Frag} {mg:Str→Option Value} {base:Heap} {N ps:List Str} {qual:Str} {scope:Scope} {f:Addr} {cd:Value} {A:Around} {outer:List Env} {s s1:Shared} {H:Hp} {E:XK} {us:List Value} {vs:List V}
 (S:FnScope N ps scope) (hd:A.handled=none) (e0:Env0 P w K mg base A outer s H) (hl:vs.length=ps.length) (r:Vals vs us)
 (x:InCallC s s.heap.objs.size (bindL (envOfC qual scope s.heap.objs.size f cd).kindOf (ps.zip us) fun _=>none) (cellsFrom (s.heap.objs.size + 1) scope.names []) (bindC (envOfC qual scope s.heap.objs.size f cd).kindOf (ps.zip us) fun _=>none) s1) :
 Inv (cxOf CX P w K mg base N qual scope f cd A outer s H E) [] (ai9 N vs) H s1:=by
 have hpl:ps.length≤N.length:=by have:=congrArg List.length S.pre; rw [List.length_take] at this; omega
 obtain ⟨h1,tk,rfl,hk⟩:=x.done
 have noA:∀ b:Addr,b∉(cxOf CX P w K mg base N qual scope f cd A outer s H E).ex:=fun b z=>absurd (show b∈([]:List Addr) from z) (by simp)
 refine ⟨⟨e0.mod,S.kind,rfl,rfl,Nat.le_refl _,fun y z c h1 h2=>?_,fun y hy=>?_,fun y c _ h=>?_,fun _=>hd,Around.frames_deeper e0.frames,.inr ⟨rfl,rfl⟩,fun b z=>absurd z (noA b),e0.bs,e0.bsz,fun b _ _=>noA b,fun b z=>absurd z (noA b),e0.funs,e0.frf⟩,
  rfl,e0.bare,Un.kept hk,⟨_,x.toInCall.ns,fun i y v h1 h2 h3=>?_⟩,fun y c h=>⟨_,x.cell y c h⟩,e0.hok.fresh (Nat.le_refl _),fun y c h=>?_,fun p hp=>absurd (show p∈([]:List (Addr×Obj)) from hp) (by simp),e0.hok.kept hk,?_⟩
 · exact name_of_addr x.apart (PySem.mem_of_lookup h1) (PySem.mem_of_lookup h2)
 · have hy:scope.names.lookup y=some .cell∨scope.names.lookup y=some .free:=hy
   rcases hy with hy | hy
   · exact aD9 hy
   · exact absurd rfl (S.nofree _ (PySem.mem_of_lookup hy))
 · exact Nat.le_of_lt (x.above y c (PySem.mem_of_lookup h))
 · have hi:i < vs.length:=by
    unfold ai9 at h2
    by_cases hi:i < vs.length
    · exact hi
    · rw [List.getElem?_append_right (by simpa using hi)] at h2
      rw [List.getElem?_replicate] at h2
      split at h2 <;> cases h2
   have ha:vs[i]?=some v:=by
    unfold ai9 at h2
    rw [List.getElem?_append_left (by simpa using hi),List.getElem?_map] at h2
    cases e:vs[i]? with
    | none=>rw [e] at h2; cases h2
    | some a=>rw [e] at h2; cases h2; rfl
   obtain ⟨u,hu,rv⟩:=r.get ha
   have hp:ps[i]?=some y:=by
    rw [← S.pre,List.getElem?_take_of_lt (by omega)]; exact h1
   have ndP:ps.Nodup:=by rw [← S.pre]; exact S.nd.sublist (List.take_sublist _ _)
   refine ⟨u,rv,?_⟩
   rcases S.par y (List.mem_of_getElem? hp) with k | k
   · exact .inl ⟨k,ay3 ndP hp hu k⟩
   · obtain ⟨c,e⟩:=aD9 (n:=s.heap.objs.size + 1) k
     refine .inr ⟨.inl k,c,e,?_⟩
     have q:=x.cell y c e
     rw [ay5 ndP hp hu (by show scope.names.lookup y≠_; rw [k]; decide)] at q
     exact q
 · exact e0.hok.fresh (Nat.le_of_lt (x.above y c (PySem.mem_of_lookup h)))
 · unfold ai9
   show _=N.length
   rw [List.length_append,List.length_map,List.length_replicate]
   omega
theorem fn_of {CX:CXT} {P:Program} {w:World} {K:PySem.W.Frag} {mg:Str→Option Value} {base:Heap} {k:Nat} {f:Addr} {name qual:Str} {params:Arguments} {body:List Stmt} {scope:Scope} {dV kV doc pm cdv ct oc:Value} {an od:Option Addr}
 {osl:Array (Option Value)} {N ps:List Str} {sp:Sp} (lk:K.lookup f=some ⟨oc,od,.func (PySem.W.fnOf name qual params body scope dV kV doc pm an cdv ct),osl⟩) (hcd:PySem.W.codeIn K cdv qual=true) (S:FnScope N ps scope)
 (len:∀ vs H Q E,sp vs H Q E→vs.length=ps.length)
 (hbody:∀ (A:Around) (outer:List Env) (s:Shared) (H:Hp) (vs:List V) (Q:VK) (E:XK),Room k (A.deeper (envOfC qual scope s.heap.objs.size f cdv))→sp vs H Q E →
   ∃ t,PSs (cxOf CX P w K mg base N qual scope f cdv A outer s H E) body t∧t { nx:=fun _ H'=>Q .non H',rt:=Q } (ai9 N vs) H) :
 FnOk P w K mg base CX (k + 1) f (PySem.W.fnOf name qual params body scope dV kV doc pm an cdv ct) ps sp:=by
 refine ⟨len,fun A outer s H args us vs Q E hr e0 hb r hsp=>?_⟩
 have hl:=len _ _ _ _ hsp
 have KX:K.In s.heap:=e0.mod.kin.keeps fun b o e=>(e0.bs b o e).1
 have lim:s.heap.NoLimit:=e0.mod.nolimit.keeps fun b o e=>(e0.bs b o e).1
 have hkind:∀ y∈ps.zip us,scope.names.lookup y.1=some .local∨(scope.names.lookup y.1=some .cell∧((cellsFrom (s.heap.objs.size + 1) scope.names []).lookup y.1).isSome=true):=fun ⟨n,v⟩ hy=>by
  rcases S.par n (List.of_mem_zip hy).1 with q | q
  · exact .inl q
  · exact .inr ⟨q,PySem.W.cellsFrom_some _ _ _ (.inl q)⟩
 refine codeAny_call_function hr.depth (KX _ _ lk) rfl S.co S.gen rfl (PySem.W.codeRec_of KX hcd) (hb _ _ _ _ ?_)
 refine wpAny_newFunctionEnv_cells S.kind hkind fun env he s1 x=>?_
 subst he
 refine ⟨lim.keeps x.toInCall.keep,codeAny_func ?_⟩
 obtain ⟨t,ht,hq⟩:=hbody A outer s H vs Q E (hr.deeper _) hsp
 have I:Inv (cxOf CX P w K mg base N qual scope f cdv A outer s H E) [] (ai9 N vs) H s1:=aM3 S hr.hd e0 hl r x
 refine wpAny_mono (ht [] s1 (ai9 N vs) H _ I hq) (fun fl s' hs=>?_) fun e s' hs=>hs
 have fin:∀ {σ':St} {H':Hp} {v:V} {u:Value},Inv (cxOf CX P w K mg base N qual scope f cdv A outer s H E) [] σ' H' s'→RelV v u→Q v H'→CE outer P w H s Q u s' :=
  fun {σ' H' v u} J rv q=>⟨v,H',J.os,J.bare,J.base,J.hok,rv,q⟩
 cases fl with
 | ret u =>
   obtain ⟨v,σ',H',J,rv,q⟩:=hs
   exact fin J rv q
 | next =>
   obtain ⟨σ',H',J,q⟩:=hs
   exact fin (v:=V.non) (u:=Value.none) J rfl q
 | brk =>
   obtain ⟨_,_,_,q⟩:=hs
   exact False.elim q
 | cont =>
   obtain ⟨_,_,_,q⟩:=hs
   exact False.elim q
section
variable {X:Cx} {x:Str} {p pos:Pos} {e:Expr} {es:List Expr} {t:TA} {id T:String} {r:List V→Hp→VK→Prop}
noncomputable def tCB (r:List V→Hp→VK→Prop) (t:TA):TE:=fun σ H Q=>t σ H fun vs H1=>r vs H1 Q
theorem ab9 (hc:at3 X (.builtin id) r) (hg:Gl X x) (hm:X.mg x=none) (hv:bootBuiltins x=some (.builtin id)) (ha:PA X (e :: es) t) (hn:x ≠ "__name__" := by decide) (hdb:(x == ("__debug__" : Str))=false:=by decide)
 (he:starEach (e :: es) X.env=(false,eval e X.env) :: starEach es X.env:=by rfl) (hpl:(backTo pos (starEach es X.env)).any (·.1)=false:=by rfl):PE X (.Call (.Name x p) (e :: es) [] pos) (tCB r t):=by
 intro pins s σ H Q I h
 refine wpAny_Call_Name_kw (aw1 I hg hm hv ?_ hn hdb)
 exact PyProof.Rows.callWith_builtin1 (thn (ha pos pins s σ H _ I h) fun us s1 ⟨vs,H1,I1,r1,q1⟩=>hc pins s1 σ H1 vs us Q I1 r1 q1) he hpl
theorem aJ9 (hc:at3 X (.type T) r) (hg:Gl X x) (hm:X.mg x=none) (hv:bootBuiltins x=some (.type T)) (ha:PA X (e :: es) t) (hn:x ≠ "__name__" := by decide) (hdb:(x == ("__debug__" : Str))=false:=by decide)
 (he:starEach (e :: es) X.env=(false,eval e X.env) :: starEach es X.env:=by rfl) (hpl:(backTo pos (starEach es X.env)).any (·.1)=false:=by rfl):PE X (.Call (.Name x p) (e :: es) [] pos) (tCB r t):=by
 intro pins s σ H Q I h
 refine wpAny_Call_Name_kw (aw1 I hg hm hv ?_ hn hdb)
 exact PyProof.Rows.callWith_type1 (thn (ha pos pins s σ H _ I h) fun us s1 ⟨vs,H1,I1,r1,q1⟩=>hc pins s1 σ H1 vs us Q I1 r1 q1) he hpl
end
section
variable {κ:Type} [DecidableEq κ]
noncomputable def aT5 (kvs:List (κ×V)) (k:κ):List (κ×V):=kvs.filter fun kv=>decide (kv.1≠k)
theorem RelO.getD {o:Option V} {u:Option Value} {d:V} {d':Value} (r:RelO o u) (rd:RelV d d'):RelV (o.getD d) (u.getD d'):=by
 cases o with
 | none=>cases u with
   | none=>exact rd
   | some _=>exact (show False from r).elim
 | some _=>cases u with
   | none=>exact (show False from r).elim
   | some _=>exact r
theorem KV.any {kvs:List (κ×V)} {vs:List (κ×Value)} (r:KV kvs vs) (k:κ):(kvs.any fun kv=>decide (kv.1=k))=vs.any fun kv=>decide (kv.1=k):=by
 unfold KV at r
 induction r with
 | nil=>rfl
 | cons h t ih=>rw [List.any_cons,List.any_cons,ih,h.1]
theorem KV.drop {kvs:List (κ×V)} {vs:List (κ×Value)} (r:KV kvs vs) (k:κ):KV (aT5 kvs k) (without vs k):=by
 unfold KV at r ⊢
 unfold aT5 without
 induction r with
 | nil=>exact .nil
 | @cons p q ps qs h t ih =>
   obtain ⟨h1,h2⟩:=h
   rw [List.filter_cons,List.filter_cons]
   by_cases e:p.1=k
   · have a:¬ decide (p.1≠k)=true:=by simp [e]
     have b:¬ decide (q.1≠k)=true:=by simp [h1.symm.trans e]
     rw [if_neg a,if_neg b]; exact ih
   · have e':¬ q.1=k:=fun z=>e (h1.trans z)
     have a:decide (p.1≠k)=true:=by simp [e]
     have b:decide (q.1≠k)=true:=by simp [e']
     rw [if_pos a,if_pos b]; exact .cons ⟨h1,h2⟩ ih
theorem KV.length {kvs:List (κ×V)} {vs:List (κ×Value)} (r:KV kvs vs):kvs.length=vs.length:=Paired.length r
end
noncomputable abbrev KT (H:Hp):List (List Key×V)→List (List Key×Addr×Value)→Prop:=Paired fun p q=>p.1=q.1∧H q.2.1=some (.tup (p.1.map kV))∧RelV p.2 q.2.2
theorem KT.keeps {H H':Hp} {kvs:List (List Key×V)} {xs:List (List Key×Addr×Value)} (r:KT H kvs xs) (ht:∀ b ys,H b=some (.tup ys)→H' b=some (.tup ys)):KT H' kvs xs :=
 Paired.mapP r fun _ _ z=>⟨z.1,ht _ _ z.2.1,z.2.2⟩
noncomputable def IsD (H:Hp) (a:Addr):Prop:=(∃ kvs,Rd H a (.dK kvs))∨∃ kvs,Rd H a (.dT kvs)
noncomputable abbrev TO:=St→Hp→(Option Int→Hp→Prop)→Prop
noncomputable def ixN (n:Nat) (i:Int):Option Nat:=if 0≤i then (if i < n then some i.toNat else none) else if -(n:Int)≤i then some (i + n).toNat else none
noncomputable def atI {α:Type} (xs:List α) (i:Int):Option α:=(ixN xs.length i).bind fun j=>xs[j]?
theorem aM0 {n:Nat} {i:Int} {j:Nat} (h:ixN n i=some j):seqIndex? i n=some j∧j < n∧-(n:Int)≤i∧i < n:=by
 unfold ixN at h
 by_cases h0:0≤i
 · rw [if_pos h0] at h
   by_cases h1:i < n
   · rw [if_pos h1] at h
     have e:i.toNat=j:=Option.some.inj h
     exact ⟨by rw [seqIndex_of h0 h1,e],by omega,by omega,h1⟩
   · rw [if_neg h1] at h; cases h
 · rw [if_neg h0] at h
   by_cases h1:-(n:Int)≤i
   · rw [if_pos h1] at h
     have e:(i + n).toNat=j:=Option.some.inj h
     exact ⟨by rw [seqIndex_neg (by omega) h1,e],by omega,h1,by omega⟩
   · rw [if_neg h1] at h; cases h
theorem aP7 {α:Type} {xs:List α} {i:Int} {v:α} (h:atI xs i=some v):∃ j,seqIndex? i xs.length=some j∧xs[j]?=some v∧j < xs.length∧-(xs.length:Int)≤i∧i < xs.length:=by
 unfold atI at h
 cases e:ixN xs.length i with
 | none=>rw [e] at h; cases h
 | some j =>
   rw [e] at h
   obtain ⟨h1,h2,h3,h4⟩:=aM0 e
   exact ⟨j,h1,h,h2,h3,h4⟩
theorem aE0 {α:Type} (xs:List α) (v:α):atI (xs ++ [v]) (-1)=some v:=by
 have hl:(xs ++ [v]).length=xs.length + 1:=by simp
 have e:ixN (xs ++ [v]).length (-1)=some xs.length:=by
  unfold ixN
  rw [hl,if_neg (by decide),if_pos (by omega)]
  congr 1
  omega
 unfold atI
 rw [e]
 show (xs ++ [v])[xs.length]?=some v
 simp
noncomputable def bh8 (b:Expr):Prop:=∀ o i,subscripted b false o i=operate [o,i] (getItem o i)
noncomputable def IxR (X:Cx) (r:R2):Prop :=
 ∀ (value slice:Expr) (pins:List (Addr×Obj)) (s:Shared) (σ:St) (H:Hp) (x y:V) (v u:Value) (Q:VK),Inv X pins σ H s→RelV x v→RelV y u→r x y H Q →
  subscripted slice false v u=operate [v,u] (getItem v u)→wpAny (model X.prog X.w) X.A (subscriptTail value slice v u) (EP X pins σ Q) X.xe s
noncomputable def MtR (X:Cx) (id:String) (r:V→List V→Hp→VK→Prop):Prop :=
 ∀ (pins:List (Addr×Obj)) (s:Shared) (σ:St) (H:Hp) (x:V) (xs:List V) (v:Value) (us:List Value) (Q:VK),Inv X pins σ H s→RelV x v→Vals xs us→r x xs H Q →
  wpAny (model X.prog X.w) X.A (call (.builtin id) (v :: us)) (EP X pins σ Q) X.xe s
section
variable {X:Cx} {a b:Expr} {ta tb:TE} {pos:Pos}
theorem ah6 {r:R2} (hr:IxR X r) (ha:PE X a ta) (hb:PE X b tb) (hs:bh8 b):PE X (.Subscript a b pos) (tOp r ta tb):=by
 intro pins s σ H Q I h
 exact Subscript_ (binT ha hb I h fun v u s2 x y H2 I2 rx ry q=>hr a b pins s2 σ H2 x y v u Q I2 rx ry q (hs _ _))
noncomputable def rIxL (K:PySem.W.Frag):R2:=fun x y H Q=>∃ p xs i v,x= .ref p∧y= .int i∧SqL K H p xs∧atI xs i=some v∧Q v H
noncomputable def rIxT (K:PySem.W.Frag):R2:=fun x y H Q=>∃ p xs i v,x= .ref p∧y= .int i∧SqT K H p xs∧atI xs i=some v∧Q v H
theorem bf7:IxR X (rIxL X.K):=by
 intro value slice pins s σ H x y v u Q I rx ry h hs
 obtain ⟨p,xs,i,z,rfl,rfl,hq,he,q⟩:=h
 cases rx
 obtain ⟨t,rfl⟩:=ry
 obtain ⟨its,r,pl,hz⟩:=I.list hq
 obtain ⟨j,h1,h2,h3,h4,h5⟩:=aP7 he
 obtain ⟨w,ew,rw'⟩:=r.get h2
 have hl:=r.length
 have hn:=aL7
 have fin:EP X pins σ Q w s:=⟨z,H,I,rw',q⟩
 by_cases h0:0≤i
 · have hj:i.toNat=j:=by
    rw [seqIndex_of h0 h5] at h1
    exact Option.some.inj h1
   exact item_listR pl.isList h0 (by omega) (by rw [hj]; simpa using ew) fin hs
 · have hj:(i + (its.toArray.size:Int)).toNat=j:=by
    rw [seqIndex_neg (by omega) h4] at h1
    rw [List.size_toArray,← hl]
    exact Option.some.inj h1
   exact subscriptTail_builtinR (x:=w) pl.isList.typeIs slot_list_getitem.lookup
    (wpAny_getItem_list_neg (Q:=fun r s'=>r=w∧EP X pins σ Q r s') pl.isList (by omega) (by rw [List.size_toArray] <;> omega) (by omega) (by rw [hj]; simpa using ew) ⟨rfl,fin⟩) hs
theorem bo6:IxR X (rIxT X.K):=by
 intro value slice pins s σ H x y v u Q I rx ry h hs
 obtain ⟨p,xs,i,z,rfl,rfl,hq,he,q⟩:=h
 cases rx
 obtain ⟨t,rfl⟩:=ry
 obtain ⟨its,r,pl,hz⟩:=I.tuple hq
 obtain ⟨j,h1,h2,h3,h4,h5⟩:=aP7 he
 obtain ⟨w,ew,rw'⟩:=r.get h2
 have hl:=r.length
 have hn:=aL7
 have fin:EP X pins σ Q w s:=⟨z,H,I,rw',q⟩
 exact subscriptTail_builtinR (x:=w) pl.typeIs slot_tuple_getitem.lookup
  (getItem_tuple (j:=j) (Q:=fun r s'=>r=w∧EP X pins σ Q r s') pl (by omega) (by omega) (by rw [List.size_toArray,← hl]; exact h1) (by simpa using ew) ⟨rfl,fin⟩) hs
theorem Inv.lst {pins:List (Addr×Obj)} {σ:St} {H:Hp} {s:Shared} {p:Addr} {xs:List V} (I:Inv X pins σ H s) (h:H p=some (.lst xs)) :
 ∃ (its:List Value) (n:Nat),Vals xs its∧s.heap.get? p=some { cls:= .type "list",data:= .seq its.toArray n }∧xs.length≤sizeLine:=by
 obtain ⟨z,its,n,r,e⟩:=I.hok p _ h
 exact ⟨its,n,r,e,z⟩
theorem ay1:at3 X (.builtin "len") (fun xs H Q=>∃ p ys,xs=[.ref p]∧(SqL X.K H p ys∨SqT X.K H p ys)∧Q (.int ys.length) H):=by
 intro pins s σ H xs us Q I r h
 obtain ⟨p,ys,rfl,hq,q⟩:=h
 obtain ⟨u,rfl,rx⟩:=bi0 r
 cases rx
 have hn:=aL7
 rcases hq with hq | hq
 · obtain ⟨its,r',pl,hz⟩:=I.list hq
   have hlen:=r'.length
   exact Calls.call_len_list pl.isList (by simp only [List.size_toArray] <;> omega) ⟨.int ys.length,H,I.tok _,⟨s.toks + 1,by rw [List.size_toArray,hlen]⟩,q⟩
 · obtain ⟨its,r',pl,hz⟩:=I.tuple hq
   have hlen:=r'.length
   exact len_tuple pl (by simp only [List.size_toArray] <;> omega) ⟨.int ys.length,H,I.tok _,⟨s.toks + 1,by rw [List.size_toArray,hlen]⟩,q⟩
theorem ay0:at3 X (.type "list") (fun xs H Q=>∃ p ys,xs=[.ref p]∧(SqL X.K H p ys∨SqT X.K H p ys)∧∀ l,H l=none→Q (.ref l) (upd H l (.lst ys))):=by
 intro pins s σ H xs us Q I r h
 obtain ⟨p,ys,rfl,hq,q⟩:=h
 obtain ⟨u,rfl,rx⟩:=bi0 r
 cases rx
 have fin:∀ (its:List Value),Vals ys its→ys.length≤sizeLine→∀ (h':Heap) (c':Nat),(∀ b o',s.heap.get? b=some o'→h'.get? b=some o') →
  h'.get? s.heap.objs.size=some { cls:= .type "list",dict:=none,data:= .seq its.toArray c',slots:=#[] }→EP X pins σ Q (.ref s.heap.objs.size) { s with heap:=h' }:=fun its r' hz h' c' kp e =>
  ⟨.ref s.heap.objs.size,_,I.laid (t':=s.toks) kp (Nat.le_refl _) (show ObjOk X.prog X.w _ h' _ (.lst ys) from ⟨hz,its,c',r',e⟩),rfl,q _ (I.hok.fresh (Nat.le_refl _))⟩
 rcases hq with hq | hq
 · obtain ⟨its,r',pl,hz⟩:=I.list hq
   have hlen:=r'.length
   obtain ⟨o,ho,hc,n,hd⟩:=pl.isList
   exact call_list_seq p (.inl rfl) ho hc hd (fun h' c' kp e=>fin its r' hz h' c' kp e) (by simp only [List.size_toArray] <;> omega)
 · obtain ⟨its,r',pl,hz⟩:=I.tuple hq
   have hlen:=r'.length
   obtain ⟨o,ho,hc,n,hd⟩:=pl
   exact call_list_seq p (.inr rfl) ho hc hd (fun h' c' kp e=>fin its r' hz h' c' kp e) (by simp only [List.size_toArray] <;> omega)
noncomputable def tyV (K:PySem.W.Frag) (T:String) (x:V) (H:Hp):Prop:=match x with
 | .str _=>T = "str"
 | .int _=>T = "int"
 | .ref p=>(T = "list" ∧ ∃ xs,SqL K H p xs)∨(T = "tuple" ∧ ∃ o,K.lookup p=some o∧o.cls= .type "tuple" ∧ o.dict=none) ∨
    (T = "dict" ∧ ((∃ kvs,H p=some (.dK kvs))∨∃ kvs,H p=some (.dT kvs)))∨(T = "set" ∧ ∃ S n,H p=some (.set S n))
 | _=>False
theorem bi1 {pins:List (Addr×Obj)} {σ:St} {H:Hp} {s:Shared} {T:String} {x:V} {v:Value} (I:Inv X pins σ H s) (r:RelV x v) (ty:tyV X.K T x H) :
 s.TypeIs v T∧∀ a,v= .ref a→∃ ob,s.heap.get? a=some ob∧ob.dict=none:=by
 cases x with
 | str z =>
   obtain ⟨t,rfl⟩:=r
   cases (show T = "str" from ty)
   exact ⟨typeIs_str s z t,fun _ e=>nomatch e⟩
 | int i =>
   obtain ⟨t,rfl⟩:=r
   cases (show T = "int" from ty)
   exact ⟨typeIs_int s i t,fun _ e=>nomatch e⟩
 | ref p =>
   cases r
   rcases ty with ⟨rfl,xs,hq⟩ | ⟨rfl,o,hk,hc,hd⟩ | ⟨rfl,hk⟩ | ⟨rfl,S,n,hk⟩
   · obtain ⟨its,_,pl,_⟩:=I.list hq
     refine ⟨pl.isList.typeIs,fun a e=>?_⟩
     cases e
     obtain ⟨o,n,e,c,hd,_⟩:=pl
     exact ⟨o,e,hd⟩
   · refine ⟨⟨o,I.kIn p o hk,hc⟩,fun a e=>?_⟩
     cases e
     exact ⟨o,I.kIn _ o hk,hd⟩
   · have z:∃ o,s.heap.get? p=some o∧o.ExactDict:=by
      rcases hk with ⟨kvs,hk⟩ | ⟨kvs,hk⟩
      · obtain ⟨_,_,_,_,o,_,_,e,ex,_⟩:=I.hok p _ hk
        exact ⟨o,e,ex⟩
      · obtain ⟨_,_,_,_,o,_,_,e,ex,_⟩:=I.hok p _ hk
        exact ⟨o,e,ex⟩
     obtain ⟨o,e,ex⟩:=z
     refine ⟨⟨o,e,ex.1⟩,fun a e2=>?_⟩
     cases e2
     exact ⟨o,e,ex.2.1⟩
   · obtain ⟨o,_,_,_,e,ex,_⟩:=I.hok p _ hk
     refine ⟨⟨o,e,ex.1⟩,fun a e2=>?_⟩
     cases e2
     exact ⟨o,e,ex.2.1⟩
 | _=>exact False.elim ty
noncomputable def tBM (K:PySem.W.Frag) (T:String) (r:V→List V→Hp→VK→Prop) (to:TE) (t:TA):TE:=fun σ H Q=>to σ H fun x H1=>tyV K T x H1∧t σ H1 fun xs H2=>r x xs H2 Q
variable {o e:Expr} {es:List Expr} {to:TE} {t:TA} {name:Str} {apos cpos:Pos} {T id:String} {r:V→List V→Hp→VK→Prop}
theorem aE7 (pa:PlainAttrs T) (slot:Slot T name id) (hty:typeOf (.builtin id)=pure (.type "method_descriptor")) (hm:MtR X id r) (ho:PE X o to) (ha:PA X (e :: es) t)
 (hbase:attributeBase o name X.env (eval o X.env)=eval o X.env:=by rfl)
 (hfew:((backTo cpos (starEach (e :: es) X.env)).all (fun x=>!x.1) && (backToKw cpos (keywordEach [] X.env)).all (fun x=>x.1.isSome)
   && decide ((e :: es).length + ([]:List Keyword).length + (if ([]:List Keyword).isEmpty then 0 else 1) < 30))=true:=by rfl)
 (hline:(apos.endLine == cpos.line)=true:=by rfl) (hs:starEach (e :: es) X.env=(false,eval e X.env) :: starEach es X.env:=by rfl) (hplain:(backTo cpos (starEach es X.env)).any (·.1)=false:=by rfl) :
 PE X (.Call (.Attribute o name apos) (e :: es) [] cpos) (tBM X.K T r to t):=by
 intro pins s σ H Q I h
 refine wpAny_Call_method_late hbase hfew hline rfl (thn (ho pins s σ H _ I h) fun v s1 ⟨x,H1,I1,r1,ty,q1⟩=>?_)
 obtain ⟨h1,h2⟩:=bi1 I1 r1 ty
 refine ⟨T,id,pa,slot,hty,h1,h2,?_⟩
 have hA:=ha cpos pins s1 σ H1 _ I1 q1
 rw [hs] at hA ⊢
 refine Calls.callWith_builtin (by show (false || (backTo cpos (starEach es X.env)).any (·.1))=false; rw [hplain] <;> rfl) (Calls.evalArgs_plain ?_)
 exact thn hA fun us s2 ⟨vs,H2,I2,r2,q2⟩=>hm pins s2 σ H2 x vs v us Q I2 r1 r2 q2
end
noncomputable def MtM (X:Cx) (id:String) (r:V→List V→Hp→VK→Prop):Prop :=
 ∀ (pins:List (Addr×Obj)) (s:Shared) (σ:St) (H:Hp) (x:V) (xs:List V) (v:Value) (us:List Value) (Q:VK),Inv X pins σ H s→RelV x v→Vals xs us→r x xs H Q →
  wpAny (model X.prog X.w) X.A (call (.builtin id) (v :: us)) (EP X pins σ Q) X.xe s
theorem Vals.one:∀ {x:V} {us:List Value},Vals [x] us→∃ u,us=[u]∧RelV x u
 | _,_,.cons r .nil=>⟨_,rfl,r⟩
theorem Vals.two:∀ {x y:V} {us:List Value},Vals [x,y] us→∃ u v,us=[u,v]∧RelV x u∧RelV y v
 | _,_,_,.cons r (.cons q .nil)=>⟨_,_,rfl,r,q⟩
theorem Vals.eraseIdx:∀ {xs:List V} {us:List Value} (i:Nat),Vals xs us→Vals (xs.eraseIdx i) (us.eraseIdx i)
 | _,_,_,.nil=> .nil
 | _,_,0,.cons _ t=>t
 | _,_,i + 1,.cons r t=> .cons r (Vals.eraseIdx i t)
theorem av9 {α:Type}:∀ (l:List α) (i:Nat),(l.eraseIdx i).length≤l.length
 | [],_=>Nat.le_refl _
 | _ :: _,0=>Nat.le_succ _
 | _ :: r,i + 1=>Nat.succ_le_succ (av9 r i)
section
variable {X:Cx} {pins:List (Addr×Obj)} {σ:St} {H:Hp} {s:Shared} {l b:Addr} {xs ys zs:List V}
theorem Inv.lset {its its':List Value} {n:Nat} {f:Array Value→Array Value} {t':Nat} (I:Inv X pins σ H s) (hH:H l=some (.lst xs))
 (e:s.heap.get? l=some { cls:= .type "list",data:= .seq its.toArray n }) (hf:f its.toArray=its'.toArray) (hv:Vals ys its') (hz:ys.length≤sizeLine) :
 Inv X pins σ (upd H l (.lst ys)) { s with heap:=s.heap.update l (Obj.mapSeq f),toks:=t' }:=by
 have q:=PySem.IsL.update e f
 rw [hf] at q
 refine I.write (x:=l) (e:=l) (by rw [hH]; exact trivial) (.inl rfl) (fun b' u hb hu=>(Heap.get?_update_other s.heap (Obj.mapSeq f) (Ne.symm hb)).trans hu) ⟨_,q⟩ ?_
 exact ⟨hz,its',_,hv,q⟩
theorem Inv.lnew {its:List Value} {t':Nat} (I:Inv X pins σ H s) (hv:Vals ys its) (hz:ys.length≤sizeLine) :
 Inv X pins σ (upd H s.heap.objs.size (.lst ys)) { s with heap:=s.heap.push { cls:= .type "list",data:= .seq its.toArray },toks:=t' } :=
 I.laid (fun _ _ q=>Heap.get?_push_of_some _ q) (Nat.le_refl _) ⟨hz,its,0,hv,Heap.get?_push_size _ rfl⟩
theorem Inv.fresh (I:Inv X pins σ H s):H s.heap.objs.size=none:=I.hok.fresh (Nat.le_refl _)
theorem Inv.lstM (I:Inv X pins σ H s) (hH:H l=some (.lst xs)):xs.length≤sizeLine∧∃ (its:List Value) (n:Nat),Vals xs its∧xs.length=its.length∧s.heap.get? l=some { cls:= .type "list",data:= .seq its.toArray n }:=by
 obtain ⟨z,its,n,r,e⟩:=I.hok l _ hH
 exact ⟨z,its,n,r,r.length,e⟩
end
section
variable {X:Cx}
noncomputable def aA0:V→List V→Hp→VK→Prop:=fun x vs H Q=>∃ l xs y,x= .ref l∧vs=[y]∧H l=some (.lst xs)∧xs.length < sizeLine∧Q .non (upd H l (.lst (xs ++ [y])))
theorem ae6:MtM X "list.append" aA0:=by
 intro pins s σ H x vs v us Q I rx rv h
 obtain ⟨l,xs,y,rfl,rfl,hH,hz,q⟩:=h
 cases rx
 obtain ⟨u,rfl,ru⟩:=rv.one
 obtain ⟨z,its,n,r,hl,e⟩:=I.lstM hH
 refine call_meets F.slot_list_append ⟨_,e,rfl⟩ F.entry_list_append (F.args_list_append_2 _ _) (PySem.list_append l its.toArray n u (by rw [List.size_toArray]; omega)) ⟨e,?_⟩
 refine ⟨.non,_,I.lset (its':=its ++ [u]) hH e (by simp) (r.append (.cons ru .nil)) ?_,rfl,q⟩
 rw [List.length_append,List.length_singleton]
 omega
noncomputable def aW2:V→List V→Hp→VK→Prop:=fun x vs H Q=>∃ l xs i k y,x= .ref l∧vs=[.int i]∧H l=some (.lst xs)∧-(2 ^ 63)≤i∧i < 2 ^ 63∧seqIndex? i xs.length=some k∧xs[k]?=some y∧Q y (upd H l (.lst (xs.eraseIdx k)))
theorem aS3:MtM X "list.pop" aW2:=by
 intro pins s σ H x vs v us Q I rx rv h
 obtain ⟨l,xs,i,k,y,rfl,rfl,hH,h1,h2,hk,hy,q⟩:=h
 cases rx
 obtain ⟨u,rfl,ru⟩:=rv.one
 obtain ⟨t,rfl⟩:=ru
 obtain ⟨z,its,n,r,hl,e⟩:=I.lstM hH
 obtain ⟨w,hw,rw'⟩:=r.get hy
 refine call_meets F.slot_list_pop ⟨_,e,rfl⟩ F.entry_list_pop (F.args_list_pop_2 _ _)
  (MeetsSeq.list_pop_at l its.toArray n i t k w (fitsIndex_both h1 h2) (by rw [List.size_toArray,← hl]; exact hk) (by rw [← Array.getElem?_toList]; exact hw) (by rw [List.size_toArray]; omega)) ⟨e,?_⟩
 refine ⟨y,_,I.lset (its':=its.eraseIdx k) hH e ?_ (r.eraseIdx k) ?_,rw',q⟩
 · show its.toArray.eraseIdxIfInBounds k=(its.eraseIdx k).toArray
   rw [List.eraseIdxIfInBounds_toArray]
 · have:=av9 xs k
   omega
noncomputable def rCat:R2:=fun x y H Q=>∃ l b xs zs,x= .ref l∧y= .ref b∧H l=some (.lst xs)∧H b=some (.lst zs)∧xs.length + zs.length≤sizeLine∧∀ p,H p=none→Q (.ref p) (upd H p (.lst (xs ++ zs)))
theorem bl3:OpR X (binaryOp .Add) rCat:=by
 intro pins s σ H x y v u Q I rx ry h
 obtain ⟨l,b,xs,zs,rfl,rfl,hH,hB,hz,q⟩:=h
 cases rx
 cases ry
 obtain ⟨z,its,n,r,hl,e⟩:=I.lstM hH
 obtain ⟨z2,its2,n2,r2,hl2,e2⟩:=I.lstM hB
 refine PySem.P.add_list e e2 ?_ (by rw [List.size_toArray,List.size_toArray]; omega)
 have ea:its.toArray ++ its2.toArray=(its ++ its2).toArray:=by simp
 rw [ea]
 exact ⟨.ref _,_,I.lnew (t':=s.toks) (r.append r2) (by rw [List.length_append]; omega),rfl,q _ I.fresh⟩
end
end L2
namespace Att
open PySem PySem.W PySem.Calls PyProof.Rows
theorem am2 {P:Params} {h:Heap}:∀ (ns:List Int) (vs:List Value),WellAll P h vs (ns.map WData.int)→IntsAre vs ns:=by
 intro ns
 induction ns with
 | nil =>
   intro vs w
   rw [List.map_nil] at w
   cases w
   exact .nil
 | cons n ns ih =>
   intro vs w
   rw [List.map_cons] at w
   cases w with
   | cons a b =>
     cases a
     exact .cons _ _ (ih _ b)
theorem aI4 {l:OpenLaw} {n:Nat} (hn:l.most=some n) {P:Params} {h:Heap} {args:List WData} {vals:List Value}
 (hpre:l.row.toRowW.claim.pre args=true) (hwl:WellAll P h vals args) :
 ∃ a vs ns,vals=[Value.ref a]∧args=[WData.list (ns.map WData.int)]∧h.get? a=some { cls:= .type "list",data:= .seq vs.toArray }∧IntsAre vs ns∧ns.length≤n:=by
 have hsh:WShape.hasAll [] args [.list .int]=true:=(pre_splitW hpre).1
 have hc:l.pre.holds [] { args:=args }=true:=(pre_splitW hpre).2
 obtain ⟨d,r,rfl,h1,h2⟩:=hasAllW_cons hsh
 obtain rfl:=hasAllW_nil h2
 obtain ⟨xs,rfl,h3⟩:=hasW_list h1
 obtain ⟨ns,rfl⟩:=items_int h3
 have hlen:ns.length≤n:=by
  unfold OpenLaw.pre at hc
  have h4:(WTm.not (.lt (.lit (.int (n:Int))) (.len (.arg 0)))).holds [] { args:=[.list (ns.map .int)] }=true:=by
   have h4:=(holds_andW hc).1
   rw [hn] at h4
   exact h4
  have h5:=condW_of h4 (w_not (w_lt w_lit (w_len_list (w_arg rfl))))
  rw [List.length_map] at h5
  refine Nat.le_of_not_lt fun q=>?_
  have q':(n:Int) < ((ns.length:Nat):Int):=by omega
  first
   | (rw [decide_eq_true q'] at h5; exact absurd h5 (by decide))
   | (simp at h5; omega)
 cases hwl with
 | cons w1 w2 =>
   cases w2
   cases w1 with
   | list ho hall=>exact ⟨_,_,ns,rfl,rfl,ho,am2 ns _ hall,hlen⟩
theorem aJ4 (l:OpenLaw) (args:List WData):l.row.toRowW.claim.post args (.bool true) args=true :=
 postW_of (r:=l.row.toRowW) (X:=(true == true))
  (show WShape.has [] (.bool true) .bool=true by first | rfl | decide | simp [WShape.has,WShape.arms,WShape.armsAll])
  (show (WTm.eq .res (.lit (.bool true))).value [] { args:=args,res:=some (.bool true),after:=args }=some (.bool (true == true)) from w_eq_bool (w_res rfl) w_lit) rfl
theorem aC9 {l:OpenLaw} {n:Nat} {q:Program} {loose:List Str} {XP:(Str→Option Value)→Heap→Prop} {YP:World→Heap→Prop} {d:DefRec}
 (hn:l.most=some n) (hdf:d.params.defaults=[])
 (call:∀ (w:World) (s₀ s₁:Shared) (mg mb:Str→Option Value) (fa:Addr) (o:Obj) (pm cd doc:Value) (a:Addr) (vs:List Value) (ns:List Int),
   Ground q loose [] XP w s₀ mg mb s₁.heap→YP w s₁.heap →
   s₁.heap.get? fa=some o→o.data= .func (docDef d.name d.params d.body d.scope pm cd doc)→s₁.heap.CodeRec cd d.name→mg d.name=some (.ref fa) →
   s₁.heap.get? a=some { cls:= .type "list",data:= .seq vs.toArray }→IntsAre vs ns→ns.length≤n→s₁.gens=#[] →
   codeAny (model l.prog w) callerA (.call (.ref fa) ⟨[.ref a],[]⟩) (fun r s'=>r= .ok (.ret (.bool true))∧OldK s₁.heap s'.heap∧s'.os=s₁.os∧AllBare s'.gens) s₁) :
 WalkO q loose XP YP l.row.toRowW d [] (fun f vs=>PySem.call f vs):=by
 intro w s₀ s₁ mg mb G Y fa o pm cd doc dV kV ho hd hcd hD hmg hg args vals as hpre hlay hrd hwl hlo
 obtain rfl:dV= .none:=Dflts.none hD hdf
 obtain rfl:kV= .none:=Dflts.noKw hD
 obtain ⟨a,vs,ns,rfl,rfl,hobj,hints,hlen⟩:=aI4 hn hpre hwl
 refine enter_call (codeAny_mono (call w s₀ s₁ mg mb fa o pm cd doc a vs ns G Y ho (fd_plain hd) hcd hmg hobj hints hlen hg) fun r s' hq=>?_)
 obtain ⟨rfl,h2,h3,h4⟩:=hq
 exact ⟨.inl ⟨.bool true,.bool true,[],rfl,fun _=>rfl,.bool true,aJ4 l _,fun _=>⟨List.Pairwise.nil,fun _ hm=>(nomatch hm)⟩⟩,h2,h3,h4⟩
end Att
namespace L2
open PySem PySem.Spec PyProof.Rows
theorem at4:∀ {vs:List Value} {ns:List Int},IntsAre vs ns→Vals (ns.map V.int) vs
 | _,_,.nil=> .nil
 | _,_,.cons n t h=> .cons ⟨t,rfl⟩ (at4 h)
noncomputable abbrev Tbs:=List (Addr×Pos×Str)
noncomputable def Tbs.at (T:Tbs) (b:Addr):List (Pos×Str):=(T.filter fun p=>p.1 == b).map (·.2)
noncomputable def Tbs.ok (T:Tbs):Prop:=∀ y∈T,∀ z∈T,y.2.1.line=z.2.1.line→y.2.1.col=z.2.1.col→y.2.2=z.2.2
theorem Tbs.mem {T:Tbs} {b:Addr} {y:Pos×Str}:y∈T.at b↔(b,y)∈T:=by
 unfold Tbs.at
 simp only [List.mem_map,List.mem_filter,beq_iff_eq]
 constructor
 · rintro ⟨⟨c,x⟩,⟨h1,h2⟩,h3⟩
   dsimp only at h2 h3
   subst h2 h3
   exact h1
 · intro h
   exact ⟨(b,y),⟨h,rfl⟩,rfl⟩
noncomputable def Only (T:Tbs) (H:Hp):Prop:=(∀ p∈T,H p.1=some (.tbl (T.at p.1)))∧∀ b,H b=none∨(∃ o xs,H b=some (.frz o (.lst xs)))∨H b=some (.tbl (T.at b))
theorem aS8 {P:Program} {w:World} {K:PySem.W.Frag} {mg mb:Str→Option Value} {CX:CXT} {k:Nat} {fa a:Addr} {fd:FuncData} {x:Str} {sp:Sp} {s₁:Shared} {vs:List Value} {ns:List Int} {T:Tbs}
 (KX:K.In s₁.heap) (hns:s₁.heap.Ns mainGlobals mg) (hb:s₁.heap.Ns builtinsNs mb) (hbb:∀ x:Str,x ≠ "__name__" → mb x=bootBuiltins x) (hlim:s₁.heap.NoLimit) (hg:s₁.gens=#[])
 (hbm:∃ bm ob,mg "__builtins__" = some (.ref bm)∧bm≠builtinsNs∧s₁.heap.get? bm=some ob∧ob.cls= .type "module" ∧ ob.dict=some builtinsNs∧ob.data= .plain)
 (hT:∀ p∈T,∃ c,PySem.W.CodeHd s₁.heap c p.1∧s₁.heap.get? p.1=some (PySem.W.tabObj #[])) (hTK:∀ p∈T,K.lookup p.1=none) (hTo:T.ok)
 (ha:s₁.heap.get? a=some { cls:= .type "list",data:= .seq vs.toArray }) (hi:IntsAre vs ns) (hl:ns.length≤sizeLine) (hr:Room k callerA)
 (F:∀ base:Heap,K.In base→base.Ns mainGlobals mg→(∀ c P,PySem.W.CodeHd s₁.heap c P→PySem.W.CodeHd base c P)→FnOk P w K mg base CX k fa fd [x] sp) (hbind:∀ (s:Shared) (u:Value),BindsTo s fd ⟨[u],[]⟩ [(x,u)])
 (hsp:∀ H:Hp,Only T H→SqL K H a (ns.map V.int)→sp [.ref a] H (fun v _=>v= .bl true) fun _ _ _=>False)
 (hCX:∀ H e s',CX [] H s₁ (fun _ _ _=>False) e s'→False) :
 codeAny (model P w) callerA (.call (.ref fa) ⟨[.ref a],[]⟩) (fun r s'=>r= .ok (.ret (.bool true))∧OldK s₁.heap s'.heap∧s'.os=s₁.os∧AllBare s'.gens) s₁:=by
 have rv:=at4 hi
 have lenV:=hi.length
 -- from an abstract heap in which nothing but the script and the tables may be tracked
 have core:∀ H:Hp,Only T H→SqL K H a (ns.map V.int)→HOk P w H s₁.heap→(∀ b,H b≠none→b=a∨∃ p∈T,p.1=b)→(H a≠none→K.lookup a=none) →
  codeAny (model P w) callerA (.call (.ref fa) ⟨[.ref a],[]⟩) (fun r s'=>r= .ok (.ret (.bool true))∧OldK s₁.heap s'.heap∧s'.os=s₁.os∧AllBare s'.gens) s₁:=by
  intro H hO hS hok hA hK
  have base_of:∀ {b:Addr} {o:Obj},s₁.heap.get? b=some o→H b=none→(hidT s₁.heap H).get? b=some o:=fun e n=>aT2 e n
  have noB:∀ {b:Addr} {o:Obj},s₁.heap.get? b=some o→o≠{ cls:= .type "list",data:= .seq vs.toArray }→o≠PySem.W.tabObj #[]→H b=none:=fun {b o} e d1 d2=>by
   cases q:H b with
   | none=>rfl
   | some u =>
     rcases hA b (by rw [q]; simp) with e' | ⟨p,hp,e'⟩
     · subst e'
       rw [ha] at e
       exact absurd (Option.some.inj e).symm d1
     · subst e'
       obtain ⟨_,_,e2⟩:=hT p hp
       rw [e2] at e
       exact absurd (Option.some.inj e).symm d2
  have noA:∀ {b:Addr} {o:Obj} {es:Array DictEntry} {ep:Nat},s₁.heap.get? b=some o→o.data= .dict es ep→H b=none:=fun {b o es ep} e d =>
   noB e (fun z=>by rw [z] at d; cases d) (fun z=>by rw [z] at d; cases d)
  have nsK:∀ {b:Addr} {m:Str→Option Value},s₁.heap.Ns b m→(hidT s₁.heap H).Ns b m:=fun {b m} ⟨o,es,ep,e,d,r⟩=>⟨o,es,ep,base_of e (noA e d),d,r⟩
  have hKb:K.In (hidT s₁.heap H):=fun b o e=>base_of (KX b o e) (by
   cases q:H b with
   | none=>rfl
   | some u =>
     rcases hA b (by rw [q]; simp) with e' | ⟨p,hp,e'⟩
     · subst e'
       rw [hK (by rw [q]; simp)] at e; cases e
     · subst e'
       rw [hTK p hp] at e; cases e)
  have hbm':∃ bm ob,mg "__builtins__" = some (.ref bm)∧bm≠builtinsNs∧(hidT s₁.heap H).get? bm=some ob∧ob.cls= .type "module" ∧ ob.dict=some builtinsNs∧ob.data= .plain:=by
   obtain ⟨bm,ob,h1,h2,h3,h4,h5,h6⟩:=hbm
   exact ⟨bm,ob,h1,h2,base_of h3 (noB h3 (fun z=>by rw [z] at h6; cases h6) fun z=>by rw [z] at h6; cases h6),h4,h5,h6⟩
  have hcd:∀ c P,PySem.W.CodeHd s₁.heap c P→PySem.W.CodeHd (hidT s₁.heap H) c P:=fun c P h=>by
   obtain ⟨o,vs',file,tf,flags,tg,inF,text,tt,e,hc,r⟩:=h
   exact ⟨o,vs',file,tf,flags,tg,inF,text,tt,base_of e (noB e (fun z=>by rw [z] at hc; simp at hc) fun z=>by rw [z] at hc; simp at hc),hc,r⟩
  have hM:Mod K mg (hidT s₁.heap H):=⟨hKb,nsK hns,⟨mb,nsK hb,hbb⟩,(let ⟨mc,h1,h2⟩:=hlim; ⟨mc,nsK h1,h2⟩),hbm'⟩
  have e0:Env0 P w K mg (hidT s₁.heap H) callerA [] s₁ H:=⟨rfl,hM,fun b o e=>bd6 e,Nat.le_of_eq (aM6 _ _),trivial,fun b hb=>absurd (show b∈([]:List Addr) from hb) (by simp),hok,.of_eq hg⟩
  refine codeAny_mono ((F _ hKb (nsK hns) hcd).run callerA [] s₁ H ⟨[.ref a],[]⟩ [.ref a] [.ref a] _ _ hr e0 (hbind s₁ (.ref a)) (.cons rfl .nil) (hsp H hO hS)) fun r s' h=>?_
  cases r with
  | error e=>exact (hCX H e s' h).elim
  | ok fl =>
    cases fl with
    | next=>exact False.elim h
    | brk=>exact False.elim h
    | cont=>exact False.elim h
    | ret u =>
      obtain ⟨v,H',os,bare,un,hok',r',q⟩:=h
      have q':v= .bl true:=q
      subst q'
      obtain rfl:u=Value.bool true:=r'
      refine ⟨rfl,⟨fun b o e=>?_,fun b o e=>un.there b o e (by simp)⟩,os,bare⟩
      cases q:H b with
      | none=>exact .inl (un.keep b o e q (by intro z; exact absurd (show b∈([]:List Addr) from z) (by simp)) (by simp))
      | some u =>
        rcases hO.2 b with z | ⟨ob,xs,z⟩ | z
        · rw [q] at z; cases z
        · have z2:=un.frzs b ob _ z
          obtain ⟨e1,_⟩:=hok b _ z
          obtain ⟨e2,_⟩:=hok' b _ z2
          rw [e] at e1; cases e1
          exact .inl e2
        · have z2:=(un.tbls b _ z).1
          obtain ⟨_,ps,e2,_⟩:=hok' b _ z2
          have hb':∃ p∈T,p.1=b:=by
           rcases hA b (by rw [q]; simp) with e' | e'
           · subst e'
             obtain ⟨_,ps',e3,_⟩:=hok b _ z
             rw [ha] at e3; cases e3
           · exact e'
          obtain ⟨p,hp,e'⟩:=hb'
          obtain ⟨c,hc,e3⟩:=hT p hp
          rw [e'] at e3 hc
          rw [e] at e3
          cases e3
          refine .inr (.inl ⟨(hc.tab (ps:=#[]) e).isCodeTable,rfl,#[],ps,rfl,?_⟩)
          rw [e2]; simp
 have tabOk:∀ (H:Hp) (b:Addr),(∃ p∈T,p.1=b)→ObjOk P w H s₁.heap b (.tbl (T.at b)):=fun H b ⟨p,hp,e⟩=>by
  obtain ⟨c,hc,e3⟩:=hT p hp
  rw [e] at e3
  exact ⟨fun y hy z hz h1 h2=>hTo _ (Tbs.mem.mp hy) _ (Tbs.mem.mp hz) h1 h2,#[],e3,trivial,fun y hy=> .inl rfl⟩
 have hne:∀ p∈T,p.1≠a:=fun p hp z=>by
  obtain ⟨c,hc,e3⟩:=hT p hp
  rw [z,ha] at e3
  cases e3
 cases hk:K.lookup a with
 | some o =>
   -- the script is one of the module's own objects
   have e:=KX a o hk
   rw [ha] at e
   cases e
   have hTa:¬ ∃ p∈T,p.1=a:=fun ⟨p,hp,z⟩=>hne p hp z
   have dec:∀ b,Decidable (∃ p∈T,p.1=b):=fun b=>Classical.propDecidable _
   refine core (fun b=>if ∃ p∈T,p.1=b then some (.tbl (T.at b)) else none) ⟨fun p hp=>if_pos ⟨p,hp,rfl⟩,fun b=>?_⟩ (.inr ⟨_,vs.toArray,_,hk,rfl,rfl,rfl,by rw [List.size_toArray,lenV]; exact hl,by simpa using rv⟩) (fun b u z=>?_) (fun b z=>?_) fun z=>absurd (if_neg hTa) z
   · by_cases h:∃ p∈T,p.1=b
     · exact .inr (.inr (if_pos h))
     · exact .inl (if_neg h)
   · by_cases h:∃ p∈T,p.1=b
     · have z':=(if_pos h).symm.trans z
       cases z'
       exact tabOk _ b h
     · have z':=(if_neg h).symm.trans z
       cases z'
   · by_cases h:∃ p∈T,p.1=b
     · exact .inr h
     · exact absurd (if_neg h) z
 | none =>
   have dec:∀ b,Decidable (∃ p∈T,p.1=b):=fun b=>Classical.propDecidable _
   have hTa:∀ {b},(∃ p∈T,p.1=b)→b≠a:=fun ⟨p,hp,z⟩ e=>hne p hp (z.trans e)
   refine core (fun b=>if b=a then some (.frz { cls:= .type "list",data:= .seq vs.toArray } (.lst (ns.map V.int))) else if ∃ p∈T,p.1=b then some (.tbl (T.at b)) else none) ⟨fun p hp=>(if_neg (hne p hp)).trans (if_pos ⟨p,hp,rfl⟩),fun b=>?_⟩ (.inl (.inr ⟨{ cls:= .type "list",data:= .seq vs.toArray },if_pos rfl⟩)) (fun b u z=>?_) (fun b z=>?_) fun _=>hk
   · by_cases hb:b=a
     · exact .inr (.inl ⟨_,_,if_pos hb⟩)
     · by_cases h:∃ p∈T,p.1=b
       · exact .inr (.inr ((if_neg hb).trans (if_pos h)))
       · exact .inl ((if_neg hb).trans (if_neg h))
   · by_cases hb:b=a
     · have z':=(if_pos hb).symm.trans z
       cases z'
       subst hb
       exact ⟨ha,by rw [List.length_map]; exact hl,vs,_,rv,ha⟩
     · by_cases h:∃ p∈T,p.1=b
       · have z':=((if_neg hb).trans (if_pos h)).symm.trans z
         cases z'
         exact tabOk _ b h
       · have z':=((if_neg hb).trans (if_neg h)).symm.trans z
         cases z'
   · by_cases hb:b=a
     · exact .inl hb
     · by_cases h:∃ p∈T,p.1=b
       · exact .inr h
       · exact absurd ((if_neg hb).trans (if_neg h)) z
noncomputable abbrev Tns:=List (Str×Pos×Str)
structure TabsOf (mg:Str→Option Value) (h:Heap) (N:Tns) (T:Tbs):Prop where
 all:∀ n∈N,∃ P,(P,n.2)∈T∧∃ a o fd c,mg n.1=some (.ref a)∧h.get? a=some o∧o.data= .func fd∧fd.code= .ref c∧PySem.W.CodeHd h c P
theorem at8 {p:Program} {loose:List Str} {mean:ExcName→Option Value} {mg mb:Str→Option Value} {h:Heap} (Tp:PyProof.Rows.Top p loose mean mg mb h):∀ (N:Tns),(∀ n∈N,n.1∈(PyProof.Rows.recsOf p).map (·.name)) →
 ∃ T:Tbs,TabsOf mg h N T∧(∀ q∈T,∃ c,PySem.W.CodeHd h c q.1∧h.get? q.1=some (PySem.W.tabObj #[]))∧∀ q∈T,∃ n∈N,n.2=q.2
 | [],_=>⟨[],⟨fun _ h=>nomatch h⟩,fun _ h=>(nomatch h),fun _ h=>(nomatch h)⟩
 | n :: N,hN=>by
   obtain ⟨T,h1,h2,h3⟩:=at8 Tp N fun m hm=>hN m (List.mem_cons_of_mem _ hm)
   obtain ⟨d,hd,e⟩:=List.mem_map.mp (hN n List.mem_cons_self)
   obtain ⟨a,o,fd,c,P,e1,e2,e3,e4,e5,e6⟩:=Tp.tab d hd
   have hc:=PySem.W.CodeHd.of e5 e6
   refine ⟨(P,n.2) :: T,⟨fun m hm=>?_⟩,fun q hq=>?_,fun q hq=>?_⟩
   · rcases List.mem_cons.mp hm with z | z
     · subst z
       exact ⟨P,List.mem_cons_self,a,o,fd,c,by rw [← e]; exact e1,e2,e3,e4,hc⟩
     · obtain ⟨P',m1,r⟩:=h1.all m z
       exact ⟨P',List.mem_cons_of_mem _ m1,r⟩
   · rcases List.mem_cons.mp hq with z | z
     · subst z
       exact ⟨c,hc,e6.2⟩
     · exact h2 q z
   · rcases List.mem_cons.mp hq with z | z
     · subst z
       exact ⟨n,List.mem_cons_self,rfl⟩
     · obtain ⟨m,hm,e⟩:=h3 q z
       exact ⟨m,List.mem_cons_of_mem _ hm,e⟩
noncomputable def Tns.ok (N:Tns):Prop:=∀ y∈N,∀ z∈N,y.2.1.line=z.2.1.line→y.2.1.col=z.2.1.col→y.2.2=z.2.2
noncomputable def aW9 (K:PySem.W.Frag):Bool:=K.all fun p=>match p.2.cls,p.2.data with
 | .none,.fields vs=>!vs.isEmpty
 | _,_=>true
theorem ao9 {α:Type}:∀ {K:List (Nat×α)} {b:Nat} {o:α},K.lookup b=some o→(b,o)∈K
 | (c,x) :: r,b,o,h=>by
   rw [List.lookup_cons] at h
   by_cases z:b=c
   · subst z
     rw [beq_self_eq_true] at h
     cases h
     exact List.mem_cons_self
   · rw [beq_false_of_ne z] at h
     exact List.mem_cons_of_mem _ (ao9 h)
theorem ar4 {K:PySem.W.Frag} {h:Heap} {b:Addr} (X:K.In h) (hn:aW9 K=true) (e:h.get? b=some (PySem.W.tabObj #[])):K.lookup b=none:=by
 cases q:K.lookup b with
 | none=>rfl
 | some o =>
   have e2:=X b o q
   rw [e] at e2
   cases e2
   have:=List.all_eq_true.mp hn (b,PySem.W.tabObj #[]) (ao9 q)
   cases this
theorem aX8 {l:PySem.W.OpenLaw} {n k:Nat} {q:Program} {loose:List Str} {XP:(Str→Option Value)→Heap→Prop} {YP:World→Heap→Prop} {d:DefRec} {K:Params→PySem.W.Frag} {CX:World→CXT} {sp:World→Tbs→Sp} {x:Str} (N:Tns)
 (hn:l.most=some n) (hn2:n≤sizeLine) (hdf:d.params.defaults=[]) (hr:Room k callerA)
 (hY:∀ (w:World) (h:Heap),YP w h→(K w.params).In h) (hK:∀ w:World,N≠[]→aW9 (K w.params)=true) (hN:∀ n∈N,n.1∈(PyProof.Rows.recsOf q).map (·.name)) (hNo:Tns.ok N)
 (F:∀ (w:World) (mg:Str→Option Value) (fa:Addr) (h:Heap) (T:Tbs),(K w.params).In h→h.Ns mainGlobals mg→mg d.name=some (.ref fa)→TabsOf mg h N T →
   ∃ fd:FuncData,(∀ (s:Shared) (u:Value),BindsTo s fd ⟨[u],[]⟩ [(x,u)]) ∧
    ∀ base:Heap,(K w.params).In base→base.Ns mainGlobals mg→(∀ c P,PySem.W.CodeHd h c P→PySem.W.CodeHd base c P)→FnOk l.prog w (K w.params) mg base (CX w) k fa fd [x] (sp w T))
 (hsp:∀ (w:World) (T:Tbs) (H:Hp) (a:Addr) (ns:List Int),ns.length≤n→Only T H→SqL (K w.params) H a (ns.map V.int)→sp w T [.ref a] H (fun v _=>v= .bl true) fun _ _ _=>False)
 (hCX:∀ (w:World) (H:Hp) (s:Shared) (e:Value) (s':Shared),CX w [] H s (fun _ _ _=>False) e s'→False) :
 PySem.W.WalkO q loose XP YP l.row.toRowW d [] (fun f vs=>PySem.call f vs):=by
 refine Att.aC9 hn hdf fun w s₀ s₁ mg mb fa o pm cd doc a vs ns G Y ho hd hcd hmg hobj hints hlen hg=>?_
 have KX:=hY w _ Y
 obtain ⟨T,hT1,hT2,hT3⟩:=at8 G.T N hN
 obtain ⟨fd,hb,hF⟩:=F w mg fa _ T KX G.T.g hmg hT1
 refine aS8 (T:=T) KX G.T.g G.T.b G.T.builtins G.T.nolimit hg G.T.bmain hT2 (fun p hp=>?_) (fun y hy z hz h1 h2=>?_) hobj hints (Nat.le_trans hlen hn2) hr hF hb (fun H hO hS=>hsp w T H a ns hlen hO hS) fun H e s'=>hCX w H s₁ e s'
 · obtain ⟨c,_,e⟩:=hT2 p hp
   obtain ⟨m,hm,_⟩:=hT3 p hp
   exact ar4 KX (hK w (fun z=>by rw [z] at hm; cases hm)) e
 · obtain ⟨m1,hm1,e1⟩:=hT3 y hy
   obtain ⟨m2,hm2,e2⟩:=hT3 z hz
   rw [← e1,← e2]
   exact hNo m1 hm1 m2 hm2 (by rw [e1]; exact h1 |>.trans (by rw [e2])) (by rw [e1]; exact h2 |>.trans (by rw [e2]))
noncomputable def an0 (s:Stmt):Arguments:=match s with
 | .FunctionDef _ a _ _ _ _ _ _ _ _=>a
 | _=>{ posonlyargs:=[],args:=[],vararg:=none,kwonlyargs:=[],kw_defaults:=[],kwarg:=none,defaults:=[] }
noncomputable def af0 (s:Stmt):List Stmt:=match s with
 | .FunctionDef _ _ b _ _ _ _ _ _ _=>b
 | _=>[]
noncomputable def aa6 (s:Stmt):Scope:=match s with
 | .FunctionDef _ _ _ _ _ _ sc _ _ _=>sc
 | _=>{ kind:= .function,names:=[],isGenerator:=false,isCoroutine:=false }
noncomputable abbrev CX0:CXT:=fun _ _ _ _ _ _=>False
noncomputable abbrev E0:XK:=fun _ _ _=>False
structure Fun (K:PySem.W.Frag) (x qual:Str) (st:Stmt) (f:Addr) (fd:FuncData):Prop where
 ex:∃ (oc:Value) (od:Option Addr) (kV doc pm:Value) (an:Option Addr) (cdv ct:Value) (osl:Array (Option Value)),
  fd=PySem.W.fnOf x qual (an0 st) (af0 st) (aa6 st) .none kV doc pm an cdv ct∧K.lookup f=some ⟨oc,od,.func fd,osl⟩∧PySem.W.codeIn K cdv qual=true
 kp:PySem.W.keepIn K (.ref f)=true
section
variable {P:Program} {w:World} {K:PySem.W.Frag} {mg:Str→Option Value} {base:Heap}
theorem Fun.ok {x qual:Str} {st:Stmt} {f:Addr} {fd:FuncData} {N ps:List Str} {k:Nat} {sp:Sp} (F:Fun K x qual st f fd) (S:FnScope N ps (aa6 st)) (len:∀ vs H Q E,sp vs H Q E→vs.length=ps.length)
 (hbody:∀ (cdv:Value) (A:Around) (outer:List Env) (s:Shared) (H:Hp) (vs:List V) (Q:VK) (E:XK),Room k (A.deeper (envOfC qual (aa6 st) s.heap.objs.size f cdv))→sp vs H Q E →
   ∃ t,PSs (cxOf CX0 P w K mg base N qual (aa6 st) f cdv A outer s H E).nox (af0 st) t∧t { nx:=fun _ H'=>Q .non H',rt:=Q } (ai9 N vs) H):FnOk P w K mg base CX0 (k + 1) f fd ps sp:=by
 obtain ⟨oc,od,kV,doc,pm,an,cdv,ct,osl,rfl,lk,hcd⟩:=F.ex
 refine fn_of lk hcd S len fun A outer s H vs Q E hr hsp=>?_
 obtain ⟨t,h,q⟩:=hbody cdv A outer s H vs Q E hr hsp
 exact ⟨t,h.nox,q⟩
theorem Fun.binds {x qual:Str} {st:Stmt} {f:Addr} {fd:FuncData} {ps:List Str} (F:Fun K x qual st f fd)
 (h:∀ (kV doc pm:Value) (an:Option Addr) (cdv ct:Value) (us:List Value),us.length=ps.length→bindArgs (PySem.W.fnOf x qual (an0 st) (af0 st) (aa6 st) .none kV doc pm an cdv ct) ⟨us,[]⟩=pure (ps.zip us)):Binds K fd ps []:=by
 obtain ⟨oc,od,kV,doc,pm,an,cdv,ct,osl,rfl,lk,hcd⟩:=F.ex
 exact .all (h kV doc pm an cdv ct)
theorem bp0 {x qual:Str} {st:Stmt} {f:Addr} {oc:Value} {od an:Option Addr} {osl:Array (Option Value)} {kV doc pm cdv ct:Value} (l:K.lookup f=some ⟨oc,od,.func (PySem.W.fnOf x qual (an0 st) (af0 st) (aa6 st) .none kV doc pm an cdv ct),osl⟩)
 (c:PySem.W.codeIn K cdv qual=true) (k:PySem.W.keepIn K (.ref f)=true):Fun K x qual st f (PySem.W.fnOf x qual (an0 st) (af0 st) (aa6 st) .none kV doc pm an cdv ct):=⟨⟨oc,od,kV,doc,pm,an,cdv,ct,osl,rfl,l,c⟩,k⟩
end
theorem aI3 {n:Nat} (h:n≤1000):n < sizeLine:=Nat.lt_of_le_of_lt h (by decide)
section
variable {X:Cx}
theorem pv (i:Nat) {x:Str} {pos:Pos} (hN:X.N[i]?=some x:=by rfl) (hv:Vis X.env.scope x:=by first | exact Or.inl rfl | exact Or.inr (Or.inl rfl) | exact Or.inr (Or.inr rfl)) (hd:(x == ("__debug__" : Str))=false:=by decide)
 (hcd:(x == ("__classdict__" : Str))=false:=by decide):PE X (.Name x pos) (tVar i):=bj9 hN hv hd hcd
end
noncomputable def Same (H H':Hp):Prop:=∀ b o,H b=some o→H' b=some o
theorem Same.refl (H:Hp):Same H H:=fun _ _ h=>h
theorem Same.trans {H H1 H2:Hp} (a:Same H H1) (b:Same H1 H2):Same H H2:=fun c o h=>b c o (a c o h)
theorem Same.free {H H':Hp} (e:Same H H') {l:Addr} (h:H' l=Option.none):H l=Option.none:=by
 cases q:H l with
 | none=>rfl
 | some o =>
   rw [e l o q] at h
   cases h
theorem Same.seq {K:PySem.W.Frag} {H H':Hp} {a:Addr} {xs:List V} (e:Same H H') (h:SqL K H a xs):SqL K H' a xs:=by
 rcases h with (h | ⟨o,h⟩) | h
 · exact .inl (.inl (e _ _ h))
 · exact .inl (.inr ⟨o,e _ _ h⟩)
 · exact .inr h
noncomputable def ad0 (env:Env):List (Str×NameKind)→List (Str×Addr)→List (Str×Addr)
 | [],acc=>acc
 | (n,k) :: r,acc=>if (k == NameKind.free)=true then ad0 env r ((n,(env.cells.lookup n).getD 0) :: acc) else ad0 env r acc
theorem ag3 {env:Env} {y:Str} {c:Addr}:∀ {l:List (Str×NameKind)} {acc:List (Str×Addr)},(∀ z∈l,z.2= .free→∃ c,env.cells.lookup z.1=some c)→(ad0 env l acc).lookup y=some c →
 acc.lookup y=some c∨env.cells.lookup y=some c
 | [],acc,_,h=> .inl h
 | (n,k) :: r,acc,hh,h=>by
   unfold ad0 at h
   split at h
   · rename_i hk
     rcases ag3 (fun z hz=>hh z (List.mem_cons_of_mem _ hz)) h with e | e
     · by_cases q:(y == n)=true
       · have e':y=n:=by simpa using q
         subst e'
         obtain ⟨c',hc⟩:=hh (y,k) List.mem_cons_self (by simpa using hk)
         dsimp only at hc
         rw [List.lookup_cons,beq_self_eq_true,hc] at e
         exact .inr (hc.trans e)
       · rw [Bool.not_eq_true] at q
         rw [List.lookup_cons,q] at e
         exact .inl e
     · exact .inr e
   · exact ag3 (fun z hz=>hh z (List.mem_cons_of_mem _ hz)) h
theorem ag4 {env:Env} {y:Str}:∀ {l:List (Str×NameKind)} {acc:List (Str×Addr)},((y,NameKind.free)∈l∨∃ c,acc.lookup y=some c)→∃ c,(ad0 env l acc).lookup y=some c
 | [],acc,h=>by
   rcases h with h | h
   · cases h
   · exact h
 | (n,k) :: r,acc,h=>by
   unfold ad0
   split
   · rename_i hk
     refine ag4 ?_
     by_cases q:(y == n)=true
     · exact .inr ⟨_,by rw [List.lookup_cons,q]⟩
     · rw [Bool.not_eq_true] at q
       rcases h with h | ⟨c,h⟩
       · rcases List.mem_cons.mp h with e | e
         · cases e
           rw [beq_self_eq_true] at q
           cases q
         · exact .inl e
       · exact .inr ⟨c,by rw [List.lookup_cons,q]; exact h⟩
   · rename_i hk
     refine ag4 ?_
     rcases h with h | h
     · rcases List.mem_cons.mp h with e | e
       · cases e
         exact absurd (by rfl) hk
       · exact .inl e
     · exact .inr h
theorem ag9 {scope:Scope} {env:Env} {y:Str} {k:NameKind} (h:(relabel scope env).names.lookup y=some k):∃ k',(y,k')∈scope.names∧(k'=k∨(k'= .free∧k= .cell)):=by
 obtain ⟨⟨n,k0⟩,hm,e⟩:=List.mem_map.mp (PySem.mem_of_lookup h)
 dsimp only at e
 split at e
 · rename_i hc
   simp only [Bool.and_eq_true,beq_iff_eq] at hc
   cases e
   exact ⟨k0,hm,.inr ⟨hc.1.1,rfl⟩⟩
 · cases e
   exact ⟨_,hm,.inl rfl⟩
structure CompSc (osc sc:Scope) (x:Str) (cs:List Str):Prop where
 kind:sc.kind= .function
 cell:∀ y∈sc.names,y.2≠ .cell
 loc:∀ y∈sc.names,y.2= .local→sc.names.lookup y.1=some .local
 var:sc.names.lookup x=some .local
 cap:∀ y∈cs,(osc.names.lookup y=some .cell∨osc.names.lookup y=some .free)∧sc.names.lookup y=some .free
 free:∀ y∈sc.names,y.2= .free→osc.names.lookup y.1=some .cell∨osc.names.lookup y.1=some .free
 nd:(x :: cs).Nodup
noncomputable def ap5 (X:Cx) (scope:Scope) (cl:List (Str×Addr)) (C:Addr) (N:List Str) (fp:List Addr) (s₀:Shared) (H₀:Hp):Cx where
 prog:=X.prog
 w:=X.w
 K:=X.K
 mg:=X.mg
 base:=X.base
 A:=X.A
 N:=N
 s₀:=s₀
 H₀:=H₀
 env:=compEnvC scope cl C X.env
 outer:=X.stack
 stack:=X.stack
 ex:=fp
 fn:=fun _=>false
 calm:=X.calm
 pn:=[]
 xe:=fun _ _=>False
noncomputable def capV (σ:St) (ix:List Nat):St:=ix.map fun j=>(σ[j]?).join
section
variable {X:Cx} {pins:List (Addr×Obj)} {σ:St} {H:Hp} {s:Shared} {scope:Scope} {x:Str} {cs:List Str} {ix:List Nat} {fp:List Addr}
theorem aD8 (I:Inv X pins σ H s) (hsc:CompSc X.env.scope scope x cs):∀ y∈scope.names,y.2= .free→∃ c,X.env.cells.lookup y.1=some c:=fun y hy hk=>I.ok.has _ (hsc.free y hy hk)
theorem aT1 {h₁:Heap} {t₁:Nat} {m0:Str→Option Value} (I:Inv X pins σ H s) (hsc:CompSc X.env.scope scope x cs) (hix:ix.map (fun i=>X.N[i]?)=cs.map some) (hf:∀ b∈fp,FpOk X pins H b)
 (hlt:∀ b∈fp,b < s.heap.objs.size) (hn:h₁.Ns s.heap.objs.size m0) (hk:∀ b o,s.heap.get? b=some o→h₁.get? b=some o) :
 Inv (ap5 X scope (ad0 X.env scope.names []) s.heap.objs.size (x :: cs) fp s H) [] (none :: capV σ ix) H { s with heap:=h₁,toks:=t₁ }:=by
 have cin:=aD8 I hsc
 have old:∀ y c,(ad0 X.env scope.names []).lookup y=some c→X.env.cells.lookup y=some c:=fun y c e=>by
  rcases ag3 cin e with z | z
  · cases z
  · exact z
 have lenix:ix.length=cs.length:=by
  have:=congrArg List.length hix
  rwa [List.length_map,List.length_map] at this
 refine ⟨⟨I.ok.mod,hsc.kind,I.ok.glob,I.ok.blt,Nat.le_refl _,fun y z c h1 h2=>I.ok.inj y z c (old y c h1) (old z c h2),fun y hy=>?_,fun y c h=>(nomatch h),I.ok.hd,I.ok.frames,.inl rfl,fun b hb=>⟨Nat.ne_of_lt (hlt b hb),fun y c e=>(hf b hb).2.2.2.2.1 y c (old y c e)⟩,
  I.bs,Nat.le_trans I.ok.bsz I.sz,fun b o e hb=>?_,fun b hb hb'=>?_,I.stack,I.stkFree⟩,rfl,I.bare,Un.kept hk,⟨m0,hn,fun i y v h1 h2 h3=>?_⟩,fun y c e=>?_,I.hok.fresh (Nat.le_refl _),fun y c e=>I.freeC y c (old y c e),fun p hp=>absurd (show p∈([]:List (Addr×Obj)) from hp) (by simp),I.hok.kept hk,?_⟩
 · have hy':(relabel scope X.env).names.lookup y=some .cell∨(relabel scope X.env).names.lookup y=some .free:=hy
   have:(y,NameKind.free)∈scope.names:=by
    rcases hy' with q | q
    · obtain ⟨k',hm,e | ⟨e,_⟩⟩:=ag9 q
      · subst e
        exact absurd rfl (hsc.cell _ hm)
      · subst e
        exact hm
    · obtain ⟨k',hm,e | ⟨_,e⟩⟩:=ag9 q
      · subst e
        exact hm
      · cases e
   exact ag4 (.inl this)
 · rcases (hf b hb).2.2.2.1 with z | z
   · exact I.ok.noex b o e z
   · exact absurd (Nat.lt_of_lt_of_le (Heap.lt_size e) (Nat.le_trans I.ok.bsz z)) (Nat.lt_irrefl _)
 · rcases List.mem_cons.mp (I.stkSub b hb') with z | z
   · exact (hf b hb).2.1 z
   · exact (hf b hb).2.2.1 z
 · -- a captured name
   cases i with
   | zero =>
     have:(none :: capV σ ix:St)[0]?=some none:=rfl
     rw [this] at h2
     cases h2
   | succ j =>
     have h1':cs[j]?=some y:=h1
     have h2':(capV σ ix)[j]?=some (some v):=h2
     unfold capV at h2'
     rw [List.getElem?_map] at h2'
     cases ej:ix[j]? with
     | none=>rw [ej] at h2'; cases h2'
     | some k =>
       rw [ej] at h2'
       have h4:(σ[k]?).join=some v:=Option.some.inj h2'
       have h5:σ[k]?=some (some v):=by
        cases e:σ[k]? with
        | none=>rw [e] at h4; cases h4
        | some w=>rw [e] at h4; exact congrArg some h4
       have h6:X.N[k]?=some y:=by
        have q:=congrArg (fun l=>l[j]?) hix
        simp only [List.getElem?_map,ej,h1',Option.map_some] at q
        exact Option.some.inj q
       obtain ⟨c1,c2⟩:=hsc.cap y (List.mem_of_getElem? h1')
       obtain ⟨m,hn',hl⟩:=I.loc
       obtain ⟨u,r,l⟩:=hl k y v h6 h5 (c1.elim (fun z=> .inr (.inl z)) fun z=> .inr (.inr z))
       refine ⟨u,r,?_⟩
       rcases l with ⟨l,_⟩ | ⟨_,c,ec,hc⟩
       · have l':X.env.scope.names.lookup y=some .local:=l
         rcases c1 with z | z <;> (rw [z] at l'; cases l')
       · obtain ⟨c',ec'⟩:=ag4 (env:=X.env) (y:=y) (l:=scope.names) (acc:=[]) (.inl (PySem.mem_of_lookup c2))
         have e':=old y c' ec'
         rw [ec] at e'
         cases e'
         refine .inr ⟨?_,c,ec',?_⟩
         · rcases h3 with z | z | z
           · have z':(relabel scope X.env).names.lookup y=some .local:=z
             obtain ⟨k',hm,e | ⟨_,e⟩⟩:=ag9 z'
             · subst e
               have:=hsc.loc _ hm rfl
               dsimp only at this
               rw [c2] at this
               cases this
             · cases e
           · exact .inl z
           · exact .inr z
         · obtain ⟨o,ho,hd⟩:=hc
           exact ⟨o,hk c o ho,hd⟩
 · obtain ⟨v,o,ho,hd⟩:=I.cell y c (old y c e)
   exact ⟨v,o,hk c o ho,hd⟩
 · show (none :: capV σ ix:St).length=(x :: cs).length
   rw [List.length_cons,List.length_cons,capV,List.length_map,lenix]
end
noncomputable def PTs (X:Cx) (ifs:List Expr) (t:TT):Prop :=
 ∀ (pins:List (Addr×Obj)) (s:Shared) (σ:St) (H:Hp) (Q:Bool→Hp→Prop),Inv X pins σ H s→t σ H Q →
  wpAny (model X.prog X.w) X.A (forIn ifs true fun c r=>if r=true then do let ok ← isTrue c X.env (eval c X.env); pure (ForInStep.yield ok) else pure (ForInStep.yield r)) (TP X pins σ Q) X.xe s
noncomputable def tYes:TT:=fun _ H Q=>Q true H
theorem bd0 {X:Cx}:PTs X [] tYes:=fun _ _ _ H _ I h=>wpAny_tests_nil ⟨H,I,h⟩
theorem bc9 {X:Cx} {c:Expr} {t:TT} (h:PT X c t):PTs X [c] t:=fun pins s σ H Q I hq=>wpAny_tests_one (h pins s σ H Q I hq)
section
variable {prog:Program} {w:World} {A:Around} {R:Result→Shared→Prop} {s:Shared}
theorem aC7 {elt target iter:Expr} {ifs:List Expr} {scope:Scope} {pos:Pos} {it acc:Value} {env:Env} (I:Nat→Shared→Prop)
 (turn:∀ n s,I n s→wpAny (model prog w) A (pyNext it) (fun r s₁=>match r with
   | none=>R (.ok .next) s₁
   | some v=>wpAny (model prog w) A (letOwnedTupleGo target it v) (fun _ s₁=>wpAny (model prog w) A (assign target env v) (fun _ s₂ =>
      wpAny (model prog w) A (forIn ifs true fun c r=>if r=true then do let ok ← isTrue c env (eval c env); pure (ForInStep.yield ok) else pure (ForInStep.yield r)) (fun ok s₃ =>
       if ok=true then wpAny (model prog w) A (eval elt env) (fun x s₄ =>
        wpAny (model prog w) A (call (.builtin "list.append") [acc,x]) (fun _ s₅=>∃ m,m < n∧I m s₅) (fun _ _=>False) s₄) (fun _ _=>False) s₃
       else ∃ m,m < n∧I m s₃) (fun _ _=>False) s₂) (fun _ _=>False) s₁) (fun _ _=>False) s₁) (fun _ _=>False) s)
 (n:Nat) (h:I n s):codeAny (model prog w) A (.compLoop (.ListComp elt [⟨target,iter,ifs,0⟩] scope pos) 0 it acc env) R s:=by
 refine codeAny_loop rfl I (fun n s hI=>?_) n h
 have up:∀ {α:Type} {t:Sem α} {Q:α→Shared→Prop} {E:Value→Shared→Prop} {s:Shared},wpAny (model prog w) A t Q (fun _ _=>False) s→wpAny (model prog w) A t Q E s:=fun h=>wpAny_mono h (fun _ _ z=>z) fun _ _ z=>z.elim
 show wpAny _ A ((compTurn (.ListComp elt [⟨target,iter,ifs,0⟩] scope pos) 0 it acc env).onRaise _) _ _ s
 refine wpAny_noted (up ?_)
 rw [compTurn_list]
 refine wpAny_bind (wpAny_standAt (wpAny_bind (thn (turn n s hI) fun r s₁ h₁=>?_)))
 cases r with
 | none=>exact wpAny_pure h₁
 | some v =>
   refine wpAny_bind (thn h₁ fun _ s₁' h₁'=>wpAny_bind (thn h₁' fun _ s₂ h₂=>wpAny_bind (thn h₂ fun ok s₃ h₃=>?_)))
   cases ok with
   | false=>exact wpAny_pure ⟨rfl,h₃⟩
   | true=>exact wpAny_bind (wpAny_bind (thn h₃ fun x s₄ h₄=>wpAny_bind (thn h₄ fun _ s₅ h₅=>wpAny_pure (wpAny_pure ⟨rfl,h₅⟩))))
end
noncomputable def br1 (J:It) (τ:V→St) (ti:TT) (te:TE) (p:Addr) (H1:Hp) (Q:VK):Prop :=
 ∃ W:Nat→Nat→List V→Hp→Prop,(∃ m,W 0 m [] (upd H1 p (.lst [])))∧∀ i m ys H2,W i m ys H2→H2 p=some (.lst ys)∧ys.length < sizeLine ∧
  ((J.stop i H2∧Q (.ref p) H2)∨(J.go i H2∧∀ v H3,J.yld i H2 v H3→ti (τ v) H3 fun b H4=>if b=true then te (τ v) H4 fun y H5=>H5 p=some (.lst ys)∧∃ m',m' < m∧W (i + 1) m' (ys ++ [y]) (upd H5 p (.lst (ys ++ [y])))
    else ∃ m',m' < m∧W (i + 1) m' ys H4))
noncomputable def aY1 (wi:TI) (ix:List Nat) (ti:TT) (te:TE):TE:=fun σ H Q=>wi σ H fun J H1=>∀ p,H1 p=none→br1 J (fun v=>some v :: capV σ ix) ti te p H1 Q
section
variable {X:Cx} {pins:List (Addr×Obj)} {σ:St} {H:Hp} {s:Shared} {scope:Scope} {x:Str} {px pos:Pos} {cs:List Str} {ix:List Nat} {fp:List Addr} {elt iter:Expr} {ifs:List Expr} {ti:TT} {te:TE}
theorem aF4 {J:It} {it:Addr} {tn:Nat→Heap→Prop} {Qe:VK} {RR:Value→Addr→Result→Shared→Prop} {E:Value→Shared→Prop} (hcalm:X.calm=true) (I2:Inv X pins σ H s) (hsc:CompSc X.env.scope scope x cs) (hix:ix.map (fun i=>X.N[i]?)=cs.map some)
 (T:Turn X.prog X.w X.K (.Name x px) J fp it tn) (st0:tn 0 s.heap) (hf:∀ b∈fp,FpOk X pins H b)
 (hti:∀ C fp s₀ H₀,PTs (ap5 X scope (ad0 X.env scope.names []) C (x :: cs) fp s₀ H₀) ifs ti) (hte:∀ C fp s₀ H₀,PE (ap5 X scope (ad0 X.env scope.names []) C (x :: cs) fp s₀ H₀) elt te)
 (hW:∀ p,H p=none→br1 J (fun v=>some v :: capV σ ix) ti te p H Qe)
 (hRR:∀ p C H' s',Inv X pins σ H' s'→FpOk X pins H' C→(∃ m,s'.heap.Ns C m)→Qe (.ref p) H'→RR (.ref p) C (.ok .next) s') :
 wpAny (model X.prog X.w) X.A (newList []) (fun acc s₃=>wpAny (model X.prog X.w) X.A (newFunctionEnv scope X.env.globals (ad0 X.env scope.names []) [] X.env.qual none .none (some X.env)) (fun cenv s₄ =>
  codeAny (model X.prog X.w) X.A (.compStart (.ListComp elt [⟨.Name x px,iter,ifs,0⟩] scope pos) 0 (.ref it) acc { cenv with scope:=relabel scope X.env }) (RR acc cenv.locals) s₄) E s₃) E s:=by
 refine wpAny_newObj_type (wpAny_newFunctionEnv hsc.cell (by intro y hy; simp at hy) (fun h₁ hns₁ hsb₁=>?_) hsc.kind)
 dsimp only at hns₁ hsb₁ ⊢
 have hD:H s.heap.objs.size=none:=I2.hok.fresh (Nat.le_refl _)
 have I3:Inv X pins σ (upd H s.heap.objs.size (.lst [])) { s with heap:=s.heap.push { cls:= .type "list",dict:=none,data:= .seq ([]:List Value).toArray } } :=
  I2.laid (t':=s.toks) (fun b u e=>Heap.get?_push_of_some _ e) (Nat.le_refl _) ⟨Nat.zero_le _,[],0,.nil,Heap.get?_push_size _ rfl⟩
 obtain ⟨W,⟨m0,w0⟩,turn⟩:=hW _ hD
 have hlt0:∀ b∈fp,b < s.heap.objs.size:=fun b hb=>by
  obtain ⟨o,e,_⟩:=T.obj 0 _ st0 b hb
  exact Heap.lt_size e
 have hlt:∀ b∈fp,b < (s.heap.push { cls:= .type "list",dict:=none,data:= .seq ([]:List Value).toArray }).objs.size:=fun b hb=>by
  rw [Heap.size_push]
  exact Nat.lt_succ_of_lt (hlt0 b hb)
 have hf3:∀ b∈fp,FpOk X pins (upd H s.heap.objs.size (.lst [])) b:=fun b hb=>⟨by rw [ab7 (Nat.ne_of_lt (hlt0 b hb))]; exact (hf b hb).1,(hf b hb).2⟩
 have kept:∀ b o,(s.heap.push { cls:= .type "list",dict:=none,data:= .seq ([]:List Value).toArray }).get? b=some o→h₁.get? b=some o:=fun b o e =>
  hsb₁.extBut b o (Nat.ne_of_lt (Heap.lt_size e)) (Heap.get?_push_of_some _ e)
 have kept0:∀ b o,s.heap.get? b=some o→h₁.get? b=some o:=fun b o e=>kept b o (Heap.get?_push_of_some _ e)
 have I4:=aT1 (t₁:=s.toks + ([]:List (Str×Value)).length) I3 hsc hix hf3 hlt hns₁ kept
 have st4:tn 0 h₁:=T.keep 0 _ _ st0 fun b _ o e=>kept0 b o e
 have loop:codeAny (model X.prog X.w) X.A (.compLoop (.ListComp elt [⟨.Name x px,iter,ifs,0⟩] scope pos) 0 (.ref it) (.ref s.heap.objs.size) (compEnvC scope (ad0 X.env scope.names []) (s.heap.push { cls:= .type "list",dict:=none,data:= .seq ([]:List Value).toArray }).objs.size X.env))
  (RR (.ref s.heap.objs.size) (s.heap.push { cls:= .type "list",dict:=none,data:= .seq ([]:List Value).toArray }).objs.size) { s with heap:=h₁,toks:=s.toks + ([]:List (Str×Value)).length }:=by
  generalize hY:ap5 X scope (ad0 X.env scope.names []) (s.heap.push { cls:= .type "list",dict:=none,data:= .seq ([]:List Value).toArray }).objs.size (x :: cs) fp { s with heap:=s.heap.push { cls:= .type "list",dict:=none,data:= .seq ([]:List Value).toArray } } (upd H s.heap.objs.size (.lst []))=Y at I4
  have hti':PTs Y ifs ti:=by rw [← hY]; exact hti _ _ _ _
  have hte':PE Y elt te:=by rw [← hY]; exact hte _ _ _ _
  have hcY:Y.calm=true:=by rw [← hY]; exact hcalm
  have hg:PG Y (.Name x px) (ak7 0):=by
   rw [← hY]
   exact al5 hsc.nd rfl (.inl (lookup_relabel_local hsc.var)) (.inr (lookup_relabel_local hsc.var))
  have f4:∀ {H':Hp},(∀ b∈fp,H' b=none)→∀ b∈fp,FpOk Y [] H' b:=fun {H'} hn b hb=>by
   rw [← hY]
   refine ⟨hn b hb,Nat.ne_of_lt (hlt b hb),fun z=>?_,.inl hb,fun y c e z=>?_,fun p hp=>absurd (show p∈([]:List (Addr×Obj)) from hp) (by simp)⟩
   · rcases List.mem_cons.mp (I3.stkSub b z) with q | q
     · exact (hf b hb).2.1 q
     · exact (hf b hb).2.2.1 q
   · rcases ag3 (aD8 I2 hsc) e with q | q
     · cases q
     · exact (hf b hb).2.2.2.2.1 y c q z
  have fin:∀ {vo:Option V} {H':Hp} {s':Shared},Inv Y [] (vo :: capV σ ix) H' s'→Qe (.ref s.heap.objs.size) H'→RR (.ref s.heap.objs.size) (s.heap.push { cls:= .type "list",dict:=none,data:= .seq ([]:List Value).toArray }).objs.size (.ok .next) s':=fun {vo H' s'} J q=>by
   rw [← hY] at J
   have Ix:Inv X pins σ H' s':=I3.call' (ch:=fp) J.os J.base J.hok J.bare fun b hb=>⟨(hf b hb).2.2.2.1,(hf b hb).2.1,(hf b hb).2.2.2.2.1,(hf b hb).2.2.2.2.2⟩
   refine hRR _ _ H' s' Ix (I3.fpOk (Nat.le_refl _) J.free) ?_ q
   obtain ⟨m,hm,_⟩:=J.loc
   exact ⟨m,hm⟩
  have eY:compEnvC scope (ad0 X.env scope.names []) (s.heap.push { cls:= .type "list",dict:=none,data:= .seq ([]:List Value).toArray }).objs.size X.env=Y.env:=by rw [← hY]; rfl
  have eP:X.prog=Y.prog:=by rw [← hY]; rfl
  have eW:X.w=Y.w:=by rw [← hY]; rfl
  have eK:X.K=Y.K:=by rw [← hY]; rfl
  have eA:X.A=Y.A:=by rw [← hY]; rfl
  have eX:Y.xe=fun _ _=>False:=by rw [← hY]; rfl
  rw [eP,eW,eK] at T
  rw [eY,eP,eW,eA]
  refine aC7 (fun n s'=>∃ i ys vo H',Inv Y [] (vo :: capV σ ix) H' s'∧tn i s'.heap∧(∀ b∈fp,H' b=none)∧W i n ys H') ?_ m0 ⟨0,[],none,_,I4,st4,fun b hb=>(hf3 b hb).1,w0⟩
  rintro n s' ⟨i,ys,vo,H',I',st',fr',w'⟩
  obtain ⟨hp,hlen,ways⟩:=turn i n ys H' w'
  rcases ways with ⟨stop,q⟩ | ⟨go,step⟩
  · refine thn (T.done Y rfl rfl rfl hcY i [] s' (vo :: capV σ ix) H' (fun _ _=>False) I' (f4 fr') st' stop) fun r s1 ⟨hr,I1⟩=>?_
    subst hr
    exact fin I1 q
  · refine thn (T.item Y rfl rfl rfl hcY i [] s' (vo :: capV σ ix) H' (fun _ _=>False) I' (f4 fr') st' go) fun r s1 ⟨u,hr,h4⟩=>?_
    subst hr
    refine thn h4 fun _ s2 ⟨v,H2,J2,r2,y2,st2,fr2⟩=>?_
    have J2p:=J2.pinned (f4 fr2) (T.obj _ _ st2)
    have again:∀ {σ':St} {H7:Hp} {s7:Shared},Inv Y ([] ++ av1 fp s2.heap) σ' H7 s7→tn (i + 1) s7.heap∧∀ b∈fp,H7 b=none:=fun {σ' H7 s7} I7=>by
     refine ⟨T.keep _ _ _ st2 fun b hb o e=>(I7.pin (b,o) (List.mem_append_right _ (List.mem_append_right _ (ag1 hb e)))).1,fun b hb=>?_⟩
     obtain ⟨o,e,d⟩:=T.obj _ _ st2 b hb
     exact (I7.pin (b,o) (List.mem_append_right _ (List.mem_append_right _ (ag1 hb e)))).2.1
    have hga:=hg _ s2 (vo :: capV σ ix) H2 v u (fun σ' H'=>σ'=some v :: capV σ ix∧H'=H2) J2p r2 ⟨rfl,rfl⟩
    rw [eX] at hga
    refine thn hga fun _ s3 ⟨σ3,H3,J3,e3,e3'⟩=>?_
    subst e3 e3'
    have htt:=hti' _ s3 _ H3 _ J3 (step v H3 y2)
    rw [eX] at htt
    refine thn htt fun b s4 ⟨H4,J4,q4⟩=>?_
    cases b with
    | false =>
      rw [if_neg Bool.false_ne_true] at q4 ⊢
      obtain ⟨m',hm,w4⟩:=q4
      exact ⟨m',hm,i + 1,ys,some v,H4,J4.unpinned,(again J4).1,(again J4).2,w4⟩
    | true =>
      rw [if_pos rfl] at q4 ⊢
      have hee:=hte' _ s4 _ H4 _ J4 q4
      rw [eX] at hee
      refine thn hee fun y s5 ⟨yv,H5,J5,r5,hp5,m',hm,w5⟩=>?_
      have hap:=ae6 (X:=Y) _ s5 _ H5 (.ref s.heap.objs.size) [yv] (.ref s.heap.objs.size) [y] (fun _ H6=>H6=upd H5 s.heap.objs.size (.lst (ys ++ [yv]))) J5 rfl (.cons r5 .nil) ⟨_,ys,yv,rfl,rfl,hp5,hlen,rfl⟩
      rw [eX] at hap
      refine thn hap fun _ s6 ⟨_,H6,J6,_,e6⟩=>?_
      subst e6
      exact ⟨m',hm,i + 1,ys ++ [yv],some v,_,J6.unpinned,(again J6).1,(again J6).2,w5⟩
 exact codeAny_compStart_list loop (T.self _ 0 _ _ _ st4 loop)
theorem ao7 {wi:TI} {y:Str} {py spos:Pos} {i:Nat} (hcalm:X.calm=true) (hN:X.N.Nodup) (hi':X.N[i]?=some y) (hy:Loc X.env.scope y) (hi:PI X (.Name x px) iter wi) (hsc:CompSc X.env.scope scope x cs) (hix:ix.map (fun i=>X.N[i]?)=cs.map some)
 (hti:∀ C fp s₀ H₀,PTs (ap5 X scope (ad0 X.env scope.names []) C (x :: cs) fp s₀ H₀) ifs ti) (hte:∀ C fp s₀ H₀,PE (ap5 X scope (ad0 X.env scope.names []) C (x :: cs) fp s₀ H₀) elt te)
 (hsw:swapsWith (.ListComp elt [⟨.Name x px,iter,ifs,0⟩] scope pos) (some (.Name y py)) spos.line X.env=pure true:=by rfl)
 (hcl:closureFor scope X.env=pure (ad0 X.env scope.names []):=by rfl) (hs:∀ x,foldedSetIterable iter X.env x=pure x:=by intro _; rfl)
 (hf:X.fn y=true∨X.env.scope.names.lookup y=some .local:=by first | exact .inl rfl | exact .inr rfl | assumption) :
 PS X (.Assign [.Name y py] (.ListComp elt [⟨.Name x px,iter,ifs,0⟩] scope pos) spos) (tAsg (aY1 wi ix ti te) (ak7 i)):=by
 intro pins s σ H D I h
 rw [exec_Assign_Name_used _ _ _ _ hsw]
 refine wpAny_bind (wpAny_standAt (wpAny_bind ?_))
 show wpAny _ X.A (do let _ ← comprehension (.ListComp elt [⟨.Name x px,iter,ifs,0⟩] scope pos) scope X.env _ (newList []) false (eval iter X.env) (some (assign (.Name y py) X.env))) _ _ s
 refine wpAny_bind (thn (wpAny_comprehension_free (Q:=fun _ s'=>SP X pins D .next s') rfl hs hcl hsc.kind hsc.loc (thn (hi pins s σ H _ I h) fun v s1 h1=>thn h1 fun itv s2 h2=>?_)) fun _ s' hq=>wpAny_pure (wpAny_pure hq))
 obtain ⟨it,fp,tn,J,H2,e,I2,T,st2,f2,hW⟩:=h2
 subst e
 refine aF4 (RR:=fun acc C=>compPost (model X.prog X.w) X.A X.xe (some (assign (.Name y py) X.env)) (fun _ s'=>SP X pins D .next s') acc C) hcalm I2 hsc hix T st2 f2 hti hte hW ?_
 rintro p C H' s' I' ⟨f0,f1,f2',f3,f4,f5⟩ ⟨m,hm⟩ q
 obtain ⟨oC,es,ep,hoC,hdC,rC⟩:=hm
 have Ip:Inv X (pins ++ [(C,oC)]) σ H' s':=I'.pins_of fun p hp=>(List.mem_append.mp hp).elim (fun z=>I'.pin p (List.mem_append_right _ z)) fun z=>by
  have e:p=(C,oC):=by simpa using z
  subst e
  exact ⟨hoC,f0,f1,f2',fun v z=>by rw [hdC] at z; cases z⟩
 have hg:PG X (.Name y py) (ak7 i):=al5 hN hi' hy hf
 refine thn (hg _ s' σ H' (.ref p) (.ref p) D.nx Ip rfl q) fun _ s3 ⟨σ3,H3,I3,q3⟩=>?_
 have hpin:=I3.pin (C,oC) (List.mem_append_right _ (List.mem_append_right _ (by simp)))
 refine ⟨m,⟨oC,es,ep,hpin.1,hdC,rC⟩,fun h' hs'=>?_⟩
 exact ⟨σ3,H3,(I3.unpinned).turned (t':=s3.toks) (fun b o hb e=>hs'.extBut b o hb e) hpin.2.1 f1 f3 f4 f5,q3⟩
end
mutual
noncomputable def Den (K:PySem.W.Frag) (H:Hp):PyData→V→Prop
 | .none,v=>v= .non
 | .bool b,v=>v= .bl b
 | .int i,v=>v= .int i
 | .str x,v=>v= .str x
 | .list ds,v=>∃ a xs,v= .ref a∧SqL K H a xs∧Dens K H ds xs
 | .tuple ds,v=>∃ a xs,v= .ref a∧SqT K H a xs∧Dens K H ds xs
 | .dict _,_=>False
noncomputable def Dens (K:PySem.W.Frag) (H:Hp):List PyData→List V→Prop
 | [],xs=>xs=[]
 | d :: ds,xs=>∃ x r,xs=x :: r∧Den K H d x∧Dens K H ds r
end
section
variable {X:Cx} {pins:List (Addr×Obj)} {σ:St} {H:Hp} {s:Shared}
mutual
theorem den_reads (I:Inv X pins σ H s):∀ (d:PyData) {v:V} {u:Value},Den X.K H d v→RelV v u→∃ as,Reads s.heap u d as
 | .none,v,u,h,r=>by
   rw [Den] at h
   subst h
   have r':u=Value.none:=r
   subst r'
   exact ⟨_,.none⟩
 | .bool b,v,u,h,r=>by
   rw [Den] at h
   subst h
   have r':u=Value.bool b:=r
   subst r'
   exact ⟨_,.bool b⟩
 | .int i,v,u,h,r=>by
   rw [Den] at h
   subst h
   obtain ⟨t,r'⟩:=(show ∃ t,u=Value.int i t from r)
   subst r'
   exact ⟨_,.int i t⟩
 | .str x,v,u,h,r=>by
   rw [Den] at h
   subst h
   obtain ⟨t,r'⟩:=(show ∃ t,u=Value.str x t from r)
   subst r'
   exact ⟨_,.str x t⟩
 | .list ds,v,u,h,r=>by
   rw [Den] at h
   obtain ⟨a,xs,rfl,hq,hd⟩:=h
   have r':u=Value.ref a:=r
   subst r'
   obtain ⟨its,rv,p,hz⟩:=I.list hq
   obtain ⟨as,ra⟩:=dens_reads I ds hd rv
   obtain ⟨o,ho,hc,n,hdat⟩:=p.isList
   exact ⟨_,.list ho hc hdat (by simpa using ra)⟩
 | .tuple ds,v,u,h,r=>by
   rw [Den] at h
   obtain ⟨a,xs,rfl,hq,hd⟩:=h
   have r':u=Value.ref a:=r
   subst r'
   obtain ⟨its,rv,p,hz⟩:=I.tuple hq
   obtain ⟨as,ra⟩:=dens_reads I ds hd rv
   obtain ⟨o,ho,hc,n,hdat⟩:=p
   exact ⟨_,.tuple ho hc hdat (by simpa using ra)⟩
 | .dict _,v,u,h,r=>by
   rw [Den] at h
   exact h.elim
theorem dens_reads (I:Inv X pins σ H s):∀ (ds:List PyData) {xs:List V} {us:List Value},Dens X.K H ds xs→Vals xs us→∃ as,ReadsAll s.heap us ds as
 | [],xs,us,h,r=>by
   rw [Dens] at h
   subst h
   cases r
   exact ⟨_,.nil⟩
 | d :: ds,xs,us,h,r=>by
   rw [Dens] at h
   obtain ⟨x,t,rfl,hx,ht⟩:=h
   cases r with
   | cons r1 r2 =>
     obtain ⟨as,ra⟩:=den_reads I d hx r1
     obtain ⟨bs,rb⟩:=dens_reads I ds ht r2
     exact ⟨_,.cons ra rb⟩
end
end
section
variable {X:Cx}
noncomputable def rEqD (K:PySem.W.Frag) (neg:Bool):R2:=fun x y H Q=>∃ d e,Den K H d x∧Den K H e y∧SeqAt.shaped d=true∧SeqAt.shaped e=true∧Q (.bl (if neg then !PyData.eqv d e else PyData.eqv d e)) H
theorem bl2 (hu:X.A.units + 64 < cLine):OpR X (compareOp .Eq) (rEqD X.K false):=by
 intro pins s σ H x y v u Q I rx ry h
 obtain ⟨d,e,hd,he,sd,se,q⟩:=h
 obtain ⟨as,ra⟩:=den_reads I d hd rx
 obtain ⟨bs,rb⟩:=den_reads I e he ry
 exact eq_dataH ra rb sd se hu ⟨.bl _,H,I,rfl,q⟩
theorem bk7 (hu:X.A.units + 64 < cLine):OpR X (compareOp .NotEq) (rEqD X.K true):=by
 intro pins s σ H x y v u Q I rx ry h
 obtain ⟨d,e,hd,he,sd,se,q⟩:=h
 obtain ⟨as,ra⟩:=den_reads I d hd rx
 obtain ⟨bs,rb⟩:=den_reads I e he ry
 exact ne_dataH ra rb sd se hu ⟨.bl _,H,I,rfl,q⟩
theorem bl0 (hu:X.A.units + 65 < cLine):OpR X (compareOp .In) (fun x y H Q=>∃ d xs,Den X.K H d x∧Den X.K H (.list xs) y∧SeqAt.shaped d=true∧SeqAt.shaped (.list xs)=true∧(∀ z∈xs,SeqAt.noMix z d=true)∧Q (.bl (decide (countIn d xs≠0))) H):=by
 intro pins s σ H x y v u Q I rx ry h
 obtain ⟨d,xs,hd,he,sd,se,nm,q⟩:=h
 obtain ⟨as,ra⟩:=den_reads I d hd rx
 obtain ⟨bs,rb⟩:=den_reads I _ he ry
 exact in_list_dataH rb ra se sd hu nm ⟨.bl _,H,I,rfl,q⟩
end
section
variable {X:Cx}
theorem aU5:at3 X (.builtin "isinstance") (fun xs H Q=>∃ x c t b,xs=[x,.ty c]∧TyOf X.K H x t∧PySem.W.kitOne X.K t (.type c)=some b∧Q (.bl b) H):=by
 intro pins s σ H xs us Q I r h
 obtain ⟨x,c,t,b,rfl,ty,e,q⟩:=h
 obtain ⟨u,w',rfl,r1,r2⟩:=bh9 r
 have r3:w'=Value.type c:=r2
 subst r3
 exact aM1 I r1 ty e fun tk=>⟨.bl b,H,I.tok tk,rfl,q⟩
end
section
variable {prog:Program} {w:World} {A:Around} {R:Result→Shared→Prop} {I:Addr} {fp wr:List Addr} {n:Nat} {P:Nat→Value→Prop} {St:Nat→Heap→Prop}
theorem aA6 (W:Walks prog w A.in1 I fp wr n P St) (kw:List (Str×Value)) (bt:Nat→Nat→Bool) (cmp:CmpOf prog w A.in1 .Lt P bt) (S:Addr) (nS:S∉fp):∀ (k j:Nat) (s:Shared) (vb:Value) (c:Nat),
 n - (j + 1)=k→j + 1≤n→St (j + 1) s.heap→P (argBest bt j) vb→s.heap.get? S=some { cls:= .type "list",dict:=none,data:= .seq #[vb,vb] c,slots:=#[] } →
 (∀ v h' tk,P (argBest bt (n - 1)) v→(∀ b o,b∉wr→b≠S→s.heap.get? b=some o→h'.get? b=some o)→R (.ok (.ret v)) { s with heap:=h',toks:=tk }) →
 codeAny (model prog w) A (.builtin "min.loop" ⟨[.ref I,.none,.ref S],kw⟩) R s:=by
 have nW:S∉wr:=fun z=>nS (W.sub _ z)
 have nm:(toString "min" ++ toString ".loop" : String) = "min.loop" := by decide
 intro k
 induction k with
 | zero =>
   intro j s vb c e1 e2 st pb oS fin
   refine codeAny_builtin PySem.F.entry_min_loop ?_
   rw [Around.under_plainId PySem.F.plain_min_loop _]
   refine wpAny_bind (m:=seqItems? (.ref S)) (wpAny_seqItems oS rfl ?_)
   refine wpAny_bind (m:=tryCatch (pyNext (.ref I)) _) (wpAny_tryCatch (W.done s _ _ ((show j + 1=n by omega) ▸ st) fun h' tk kp=>?_))
   refine wpAny_bind (m:=updateSeq S (fun _=>#[])) ?_
   refine wpAny_updateSeq (kp S _ nW oS) rfl (wpAny_bind (wpAny_letGo (wpAny_pure ?_)))
   exact fin vb _ tk (by rw [show n - 1=j by omega]; exact pb) fun b o hw hS e=>(Heap.get?_update_other _ _ (Ne.symm hS)).trans (kp b o hw e)
 | succ k ih =>
   intro j s vb c e1 e2 st pb oS fin
   have lt:j + 1 < n:=by omega
   refine codeAny_builtin PySem.F.entry_min_loop ?_
   rw [Around.under_plainId PySem.F.plain_min_loop _]
   refine wpAny_bind (m:=seqItems? (.ref S)) (wpAny_seqItems oS rfl ?_)
   refine wpAny_bind (m:=tryCatch (pyNext (.ref I)) _) (wpAny_tryCatch (W.item (j + 1) s _ _ lt st fun v h' tk pv st' kp=>?_))
   have oS':=kp S _ nW oS
   refine wpAny_bind (m:=tryCatch (holding [v,v] (richCompare .Lt v vb >>= _)) _) (wpAny_tryCatch (wpAny_holding (wpAny_bind (cmp (j + 1) (argBest bt j) v vb _ _ _ pv pb ?_))))
   refine wpAny_bind (wpAny_holding (wpAny_truthy_bool (wpAny_bind (wpAny_letGo (wpAny_pure ?_)))))
   cases eb:bt (j + 1) (argBest bt j) with
   | true =>
     rw [if_pos rfl]
     refine wpAny_bind ?_
     refine wpAny_updateSeq oS' rfl (wpAny_bind (wpAny_letGo ?_))
     rw [nm]
     refine wpAny_pure ⟨plainId_quiet PySem.F.plain_min_loop _,ih (j + 1) _ v _ (by omega) lt (W.frame _ _ _ st' fun b hb o e=>?_) (by simp only [argBest,eb,if_true]; exact pv) (Heap.get?_update_self _ oS' rfl) fun v' h'' tk'' pv' kp''=>?_⟩
     · exact (Heap.get?_update_other _ _ (fun z:S=b=>nS (by rw [z]; exact hb))).trans e
     · exact fin v' h'' tk'' pv' fun b o hw hS e=>kp'' b o hw hS ((Heap.get?_update_other _ _ (Ne.symm hS)).trans (kp b o hw e))
   | false =>
     rw [if_neg Bool.false_ne_true]
     refine wpAny_bind (wpAny_letGo ?_)
     rw [nm]
     exact wpAny_pure ⟨plainId_quiet PySem.F.plain_min_loop _,ih (j + 1) _ vb c (by omega) lt st' (by simp only [argBest,eb,Bool.false_eq_true,if_false]; exact pb) oS' fun v' h'' tk'' pv' kp''=>fin v' h'' tk'' pv' fun b o hw hS e=>kp'' b o hw hS (kp b o hw e)⟩
end
theorem aQ0 (a d:Value):argsOk "min" ⟨[a],[(Str.ofString "default",d)]⟩:=by unfold argsOk; kernel_rfl
section
variable {prog:Program} {w:World} {A:Around} {E:Value→Shared→Prop} {s:Shared}
theorem aP1 {x d:Value} {Q:Value→Shared→Prop}
 (h:wpAny (model prog w) A.in1 (pyIter x) (fun it s₂=>∃ I fp wr n P St bt,it= .ref I∧Walks prog w A.in1 I fp wr n P St∧St 0 s₂.heap∧(∀ b∈fp,b < s₂.heap.objs.size)∧CmpOf prog w A.in1 .Lt P bt ∧
   (n=0→∀ h' tk,(∀ b o,b∉wr→s₂.heap.get? b=some o→h'.get? b=some o)→Q d { s₂ with heap:=h',toks:=tk }) ∧
   (0 < n→∀ v h' tk,P (argBest bt (n - 1)) v→(∀ b o,b∉wr→s₂.heap.get? b=some o→h'.get? b=some o)→Q v { s₂ with heap:=h',toks:=tk })) E s) :
 wpAny (model prog w) A (call (.builtin "min") [x] [(Str.ofString "default",d)]) Q E s:=by
 have nm:(toString "min" ++ toString ".loop" : String) = "min.loop" := by decide
 refine kmk_tree PySem.F.kind_min PySem.F.plain_min PySem.F.entry_min (aQ0 _ _) ?_
 refine wpAny_bind (m:=Builtin.Builtins.bindParams "min" ["key", "default"] 0 ⟨[],[(Str.ofString "default",d)]⟩) (wpAny_of_eq (show _=pure [none,some d] from rfl) ?_)
 refine wpAny_bind (wpAny_pure (wpAny_bind (wpAny_mono h (fun it s₂ h₂=>?_) fun _ _ e=>e)))
 obtain ⟨I,fp,wr,n,P,St,bt,rfl,W,st,lts,cmp,q0,q1⟩:=h₂
 refine wpAny_bind (wpAny_newObj_type ?_)
 have nS:s₂.heap.objs.size∉fp:=fun z=>Nat.lt_irrefl _ (lts _ z)
 have nW:s₂.heap.objs.size∉wr:=fun z=>nS (W.sub _ z)
 rw [nm]
 have st1:=W.frame _ _ (s₂.heap.push { cls:= .type "list",dict:=none,data:= .seq ([]:List Value).toArray }) st fun b _ o e=>Heap.get?_push_of_some _ e
 have oS:(s₂.heap.push { cls:= .type "list",dict:=none,data:= .seq ([]:List Value).toArray }).get? s₂.heap.objs.size=some { cls:= .type "list",dict:=none,data:= .seq ([]:List Value).toArray }:=Heap.get?_push_size _ rfl
 refine wpAny_pure ⟨plainId_quiet PySem.F.plain_min_loop _,codeAny_builtin PySem.F.entry_min_loop ?_⟩
 rw [Around.under_plainId PySem.F.plain_min_loop _]
 refine wpAny_bind (m:=seqItems? (.ref s₂.heap.objs.size)) (wpAny_seqItems oS rfl ?_)
 by_cases hn:n=0
 · refine wpAny_bind (m:=tryCatch (pyNext (.ref I)) _) (wpAny_tryCatch (W.done _ _ _ (hn ▸ st1) fun h' tk kp=>?_))
   refine wpAny_bind (m:=rule _) (wpAny_rule (wpAny_pure ?_))
   exact q0 hn h' tk fun b o hw e=>kp b o hw (Heap.get?_push_of_some _ e)
 · have lt:0 < n:=Nat.pos_of_ne_zero hn
   refine wpAny_bind (m:=tryCatch (pyNext (.ref I)) _) (wpAny_tryCatch (W.item 0 _ _ _ lt st1 fun v h' tk pv st' kp=>?_))
   have oS':=kp _ _ nW oS
   refine wpAny_bind (m:=updateSeq s₂.heap.objs.size (fun _=>#[v,v])) ?_
   refine wpAny_updateSeq oS' rfl ?_
   rw [nm]
   refine wpAny_pure ⟨plainId_quiet PySem.F.plain_min_loop _,aA6 W _ bt cmp _ nS _ 0 _ v _ rfl lt (W.frame _ _ _ st' fun b hb o e=>?_) pv (Heap.get?_update_self _ oS' rfl) fun v' h'' tk'' pv' kp''=>?_⟩
   · exact (Heap.get?_update_other _ _ (fun z:s₂.heap.objs.size=b=>nS (by rw [z]; exact hb))).trans e
   · exact q1 lt v' h'' tk'' pv' fun b o hw e=>kp'' b o hw (Nat.ne_of_lt (Heap.lt_size e)) ((Heap.get?_update_other _ _ (Nat.ne_of_gt (Heap.lt_size e))).trans (kp b o hw (Heap.get?_push_of_some _ e)))
end
section
variable {prog:Program} {w:World} {A:Around} {R:Result→Shared→Prop} {I:Addr} {fp wr:List Addr} {n:Nat} {P:Nat→Value→Prop} {St:Nat→Heap→Prop}
theorem aA7 (W:Walks prog w A.in1 I fp wr n P St) (kw:List (Str×Value)) (bt:Nat→Nat→Bool) (cmp:CmpOf prog w A.in1 .Gt P bt) (S:Addr) (nS:S∉fp):∀ (k j:Nat) (s:Shared) (vb:Value) (c:Nat),
 n - (j + 1)=k→j + 1≤n→St (j + 1) s.heap→P (argBest bt j) vb→s.heap.get? S=some { cls:= .type "list",dict:=none,data:= .seq #[vb,vb] c,slots:=#[] } →
 (∀ v h' tk,P (argBest bt (n - 1)) v→(∀ b o,b∉wr→b≠S→s.heap.get? b=some o→h'.get? b=some o)→R (.ok (.ret v)) { s with heap:=h',toks:=tk }) →
 codeAny (model prog w) A (.builtin "max.loop" ⟨[.ref I,.none,.ref S],kw⟩) R s:=by
 have nW:S∉wr:=fun z=>nS (W.sub _ z)
 have nm:(toString "max" ++ toString ".loop" : String) = "max.loop" := by decide
 intro k
 induction k with
 | zero =>
   intro j s vb c e1 e2 st pb oS fin
   refine codeAny_builtin PySem.F.entry_max_loop ?_
   rw [Around.under_plainId PySem.F.plain_max_loop _]
   refine wpAny_bind (m:=seqItems? (.ref S)) (wpAny_seqItems oS rfl ?_)
   refine wpAny_bind (m:=tryCatch (pyNext (.ref I)) _) (wpAny_tryCatch (W.done s _ _ ((show j + 1=n by omega) ▸ st) fun h' tk kp=>?_))
   refine wpAny_bind (m:=updateSeq S (fun _=>#[])) ?_
   refine wpAny_updateSeq (kp S _ nW oS) rfl (wpAny_bind (wpAny_letGo (wpAny_pure ?_)))
   exact fin vb _ tk (by rw [show n - 1=j by omega]; exact pb) fun b o hw hS e=>(Heap.get?_update_other _ _ (Ne.symm hS)).trans (kp b o hw e)
 | succ k ih =>
   intro j s vb c e1 e2 st pb oS fin
   have lt:j + 1 < n:=by omega
   refine codeAny_builtin PySem.F.entry_max_loop ?_
   rw [Around.under_plainId PySem.F.plain_max_loop _]
   refine wpAny_bind (m:=seqItems? (.ref S)) (wpAny_seqItems oS rfl ?_)
   refine wpAny_bind (m:=tryCatch (pyNext (.ref I)) _) (wpAny_tryCatch (W.item (j + 1) s _ _ lt st fun v h' tk pv st' kp=>?_))
   have oS':=kp S _ nW oS
   refine wpAny_bind (m:=tryCatch (holding [v,v] (richCompare .Gt v vb >>= _)) _) (wpAny_tryCatch (wpAny_holding (wpAny_bind (cmp (j + 1) (argBest bt j) v vb _ _ _ pv pb ?_))))
   refine wpAny_bind (wpAny_holding (wpAny_truthy_bool (wpAny_bind (wpAny_letGo (wpAny_pure ?_)))))
   cases eb:bt (j + 1) (argBest bt j) with
   | true =>
     rw [if_pos rfl]
     refine wpAny_bind ?_
     refine wpAny_updateSeq oS' rfl (wpAny_bind (wpAny_letGo ?_))
     rw [nm]
     refine wpAny_pure ⟨plainId_quiet PySem.F.plain_max_loop _,ih (j + 1) _ v _ (by omega) lt (W.frame _ _ _ st' fun b hb o e=>?_) (by simp only [argBest,eb,if_true]; exact pv) (Heap.get?_update_self _ oS' rfl) fun v' h'' tk'' pv' kp''=>?_⟩
     · exact (Heap.get?_update_other _ _ (fun z:S=b=>nS (by rw [z]; exact hb))).trans e
     · exact fin v' h'' tk'' pv' fun b o hw hS e=>kp'' b o hw hS ((Heap.get?_update_other _ _ (Ne.symm hS)).trans (kp b o hw e))
   | false =>
     rw [if_neg Bool.false_ne_true]
     refine wpAny_bind (wpAny_letGo ?_)
     rw [nm]
     exact wpAny_pure ⟨plainId_quiet PySem.F.plain_max_loop _,ih (j + 1) _ vb c (by omega) lt st' (by simp only [argBest,eb,Bool.false_eq_true,if_false]; exact pb) oS' fun v' h'' tk'' pv' kp''=>fin v' h'' tk'' pv' fun b o hw hS e=>kp'' b o hw hS (kp b o hw e)⟩
end
theorem aQ1 (a d:Value):argsOk "max" ⟨[a],[(Str.ofString "default",d)]⟩:=by unfold argsOk; kernel_rfl
section
variable {prog:Program} {w:World} {A:Around} {E:Value→Shared→Prop} {s:Shared}
theorem aP2 {x d:Value} {Q:Value→Shared→Prop}
 (h:wpAny (model prog w) A.in1 (pyIter x) (fun it s₂=>∃ I fp wr n P St bt,it= .ref I∧Walks prog w A.in1 I fp wr n P St∧St 0 s₂.heap∧(∀ b∈fp,b < s₂.heap.objs.size)∧CmpOf prog w A.in1 .Gt P bt ∧
   (n=0→∀ h' tk,(∀ b o,b∉wr→s₂.heap.get? b=some o→h'.get? b=some o)→Q d { s₂ with heap:=h',toks:=tk }) ∧
   (0 < n→∀ v h' tk,P (argBest bt (n - 1)) v→(∀ b o,b∉wr→s₂.heap.get? b=some o→h'.get? b=some o)→Q v { s₂ with heap:=h',toks:=tk })) E s) :
 wpAny (model prog w) A (call (.builtin "max") [x] [(Str.ofString "default",d)]) Q E s:=by
 have nm:(toString "max" ++ toString ".loop" : String) = "max.loop" := by decide
 refine kmk_tree PySem.F.kind_max PySem.F.plain_max PySem.F.entry_max (aQ1 _ _) ?_
 refine wpAny_bind (m:=Builtin.Builtins.bindParams "max" ["key", "default"] 0 ⟨[],[(Str.ofString "default",d)]⟩) (wpAny_of_eq (show _=pure [none,some d] from rfl) ?_)
 refine wpAny_bind (wpAny_pure (wpAny_bind (wpAny_mono h (fun it s₂ h₂=>?_) fun _ _ e=>e)))
 obtain ⟨I,fp,wr,n,P,St,bt,rfl,W,st,lts,cmp,q0,q1⟩:=h₂
 refine wpAny_bind (wpAny_newObj_type ?_)
 have nS:s₂.heap.objs.size∉fp:=fun z=>Nat.lt_irrefl _ (lts _ z)
 have nW:s₂.heap.objs.size∉wr:=fun z=>nS (W.sub _ z)
 rw [nm]
 have st1:=W.frame _ _ (s₂.heap.push { cls:= .type "list",dict:=none,data:= .seq ([]:List Value).toArray }) st fun b _ o e=>Heap.get?_push_of_some _ e
 have oS:(s₂.heap.push { cls:= .type "list",dict:=none,data:= .seq ([]:List Value).toArray }).get? s₂.heap.objs.size=some { cls:= .type "list",dict:=none,data:= .seq ([]:List Value).toArray }:=Heap.get?_push_size _ rfl
 refine wpAny_pure ⟨plainId_quiet PySem.F.plain_max_loop _,codeAny_builtin PySem.F.entry_max_loop ?_⟩
 rw [Around.under_plainId PySem.F.plain_max_loop _]
 refine wpAny_bind (m:=seqItems? (.ref s₂.heap.objs.size)) (wpAny_seqItems oS rfl ?_)
 by_cases hn:n=0
 · refine wpAny_bind (m:=tryCatch (pyNext (.ref I)) _) (wpAny_tryCatch (W.done _ _ _ (hn ▸ st1) fun h' tk kp=>?_))
   refine wpAny_bind (m:=rule _) (wpAny_rule (wpAny_pure ?_))
   exact q0 hn h' tk fun b o hw e=>kp b o hw (Heap.get?_push_of_some _ e)
 · have lt:0 < n:=Nat.pos_of_ne_zero hn
   refine wpAny_bind (m:=tryCatch (pyNext (.ref I)) _) (wpAny_tryCatch (W.item 0 _ _ _ lt st1 fun v h' tk pv st' kp=>?_))
   have oS':=kp _ _ nW oS
   refine wpAny_bind (m:=updateSeq s₂.heap.objs.size (fun _=>#[v,v])) ?_
   refine wpAny_updateSeq oS' rfl ?_
   rw [nm]
   refine wpAny_pure ⟨plainId_quiet PySem.F.plain_max_loop _,aA7 W _ bt cmp _ nS _ 0 _ v _ rfl lt (W.frame _ _ _ st' fun b hb o e=>?_) pv (Heap.get?_update_self _ oS' rfl) fun v' h'' tk'' pv' kp''=>?_⟩
   · exact (Heap.get?_update_other _ _ (fun z:s₂.heap.objs.size=b=>nS (by rw [z]; exact hb))).trans e
   · exact q1 lt v' h'' tk'' pv' fun b o hw e=>kp'' b o hw (Nat.ne_of_lt (Heap.lt_size e)) ((Heap.get?_update_other _ _ (Nat.ne_of_gt (Heap.lt_size e))).trans (kp b o hw (Heap.get?_push_of_some _ e)))
end
noncomputable def ay7 (X:Cx) (f:Value) (ks:List Str) (r:List V→List V→Hp→VK→Prop):Prop :=
 ∀ (pins:List (Addr×Obj)) (s:Shared) (σ:St) (H:Hp) (xs zs:List V) (us ws:List Value) (Q:VK),Inv X pins σ H s→Vals xs us→Vals zs ws→r xs zs H Q →
  wpAny (model X.prog X.w) X.A (call f us (ks.zip ws)) (EP X pins σ Q) X.xe s
noncomputable def tCBK (r:List V→List V→Hp→VK→Prop) (t tk:TA):TE:=fun σ H Q=>t σ H fun vs H1=>tk σ H1 fun zs H2=>r vs zs H2 Q
section
variable {X:Cx} {x:Str} {p pos:Pos} {e:Expr} {es:List Expr} {kws:List Keyword} {t tk:TA} {id:String} {ks:List Str} {r:List V→List V→Hp→VK→Prop}
theorem av3 (hc:ay7 X (.builtin id) ks r) (hg:Gl X x) (hm:X.mg x=none) (hv:bootBuiltins x=some (.builtin id)) (ha:PA X (e :: es) t) (hk:PK X kws tk)
 (hks:(backToKw pos (keywordEach kws X.env)).filterMap (·.1)=ks:=by rfl) (hn:x ≠ "__name__" := by decide) (hdb:(x == ("__debug__" : Str))=false:=by decide)
 (he:backTo pos (starEach (e :: es) X.env)=(false,eval e X.env) :: backTo pos (starEach es X.env):=by rfl) (hpl:(backTo pos (starEach (e :: es) X.env)).any (·.1)=false:=by rfl)
 (hall:(backToKw pos (keywordEach kws X.env)).all (·.1.isSome)=true:=by rfl) (hkn:(backToKw pos (keywordEach kws X.env)).any (·.1.isNone)=false:=by rfl) :
 PE X (.Call (.Name x p) (e :: es) kws pos) (tCBK r t tk):=by
 intro pins s σ H Q I h
 refine wpAny_Call_Name_kw (aw1 I hg hm hv ?_ hn hdb)
 refine PyProof.Rows.callWith_kw (thn (ha pos pins s σ H _ I h) fun us s1 ⟨vs,H1,I1,r1,q1⟩=>thn (hk pos pins s1 σ H1 _ I1 q1) fun ws s2 ⟨zs,H2,I2,r2,q2⟩=>?_) he hpl hall hkn
 rw [hks]
 exact hc pins s2 σ H2 vs zs us ws Q I2 r1 r2 q2
end
theorem ad6:∀ {ns:List Int} {us:List Value} {i:Nat} {u:Value},Vals (ns.map V.int) us→us[i]?=some u→∃ t,u= .int (ns.getD i 0) t
 | [],us,i,u,r,e=>by
   cases r
   cases e
 | n :: ns,us,i,u,r,e=>by
   rw [List.map_cons] at r
   cases r with
   | cons r1 r2 =>
     cases i with
     | zero =>
       cases e
       exact r1
     | succ i =>
       show ∃ t,u= .int (ns.getD i 0) t
       exact ad6 (ns:=ns) (i:=i) r2 (by simpa using e)
theorem aP3 {X:Cx} (hc:X.calm=true):ay7 X (.builtin "min") ["default"] (fun xs zs H Q=>∃ p ns d,xs=[.ref p]∧zs=[d]∧SqL X.K H p (ns.map V.int)∧(ns=[]→Q d H)∧∀ m∈ns,(∀ x∈ns,m≤x)→Q (.int m) H):=by
 intro pins s σ H xs zs us ws Q I r rz h
 obtain ⟨p,ns,d,rfl,rfl,hq,q0,q1⟩:=h
 obtain ⟨u,rfl,ru⟩:=Vals.one r
 have ru':u=Value.ref p:=ru
 subst ru'
 obtain ⟨dv,rfl,rd⟩:=Vals.one rz
 obtain ⟨its,rv,pl,hz⟩:=I.list hq
 have ln:ns.length=its.length:=by rw [← rv.length,List.length_map]
 obtain ⟨ol,hol,hcl,hdl⟩:=id pl.isList
 have hlt:p < s.heap.objs.size:=Heap.lt_size hol
 refine aP1 (wpAny_pyIter_list pl.isList ⟨s.heap.objs.size,_,_,_,_,_,_,rfl,Walks.list (A:=X.A.in1) (I.ok.hd hc) _ p (Nat.ne_of_lt hlt) its.toArray,⟨⟨_,Heap.get?_push_size _ rfl,rfl,rfl⟩,⟨ol,Heap.get?_push_of_some _ hol,hcl,hdl⟩⟩,fun b hb=>?_,CmpOf.ints_lt (fun i=>ns.getD i 0) (fun i v e=>ad6 rv (by simpa using e)),fun e h' tk kp=>?_,fun e v h' tk pv kp=>?_⟩)
 · rw [Heap.size_push]
   rcases List.mem_cons.mp hb with z | z
   · rw [z]; exact Nat.lt_succ_self _
   · have z':b=p:=by simpa using z
     rw [z']; exact Nat.lt_succ_of_lt hlt
 · have en:ns=[]:=List.length_eq_zero_iff.mp (by rw [ln]; simpa using e)
   refine ⟨d,H,I.kept fun b o q=>kp b o (fun z=>?_) (Heap.get?_push_of_some _ q),rd,q0 en⟩
   have z':b=s.heap.objs.size:=by simpa using z
   exact absurd (Heap.lt_size q) (by rw [z']; exact Nat.lt_irrefl _)
 · have e':0 < its.length:=by simpa using e
   have e1:its.toArray.size - 1=ns.length - 1:=by rw [List.size_toArray,ln]
   rw [e1] at pv
   obtain ⟨b1,b2⟩:=argBest_lt (fun i=>ns.getD i 0) (ns.length - 1)
   rw [List.getElem?_toArray] at pv
   obtain ⟨t,rfl⟩:=ad6 rv pv
   have up:∀ i,i < ns.length→ns.getD i 0∈ns:=fun i hi=>by
    rw [List.getD_eq_getElem?_getD,List.getElem?_eq_getElem hi]
    exact List.getElem_mem hi
   refine ⟨.int _,H,I.kept fun b o q=>kp b o (fun z=>?_) (Heap.get?_push_of_some _ q),⟨t,rfl⟩,q1 _ (up _ (by omega)) fun x hx=>?_⟩
   · have z':b=s.heap.objs.size:=by simpa using z
     exact absurd (Heap.lt_size q) (by rw [z']; exact Nat.lt_irrefl _)
   · obtain ⟨j,hj,rfl⟩:=List.getElem_of_mem hx
     have:=b2 j (by omega)
     rwa [show ns.getD j 0=ns[j] by rw [List.getD_eq_getElem?_getD,List.getElem?_eq_getElem hj]; rfl] at this
theorem aP4 {X:Cx} (hc:X.calm=true):ay7 X (.builtin "max") ["default"] (fun xs zs H Q=>∃ p ns d,xs=[.ref p]∧zs=[d]∧SqL X.K H p (ns.map V.int)∧(ns=[]→Q d H)∧∀ m∈ns,(∀ x∈ns,x≤m)→Q (.int m) H):=by
 intro pins s σ H xs zs us ws Q I r rz h
 obtain ⟨p,ns,d,rfl,rfl,hq,q0,q1⟩:=h
 obtain ⟨u,rfl,ru⟩:=Vals.one r
 have ru':u=Value.ref p:=ru
 subst ru'
 obtain ⟨dv,rfl,rd⟩:=Vals.one rz
 obtain ⟨its,rv,pl,hz⟩:=I.list hq
 have ln:ns.length=its.length:=by rw [← rv.length,List.length_map]
 obtain ⟨ol,hol,hcl,hdl⟩:=id pl.isList
 have hlt:p < s.heap.objs.size:=Heap.lt_size hol
 refine aP2 (wpAny_pyIter_list pl.isList ⟨s.heap.objs.size,_,_,_,_,_,_,rfl,Walks.list (A:=X.A.in1) (I.ok.hd hc) _ p (Nat.ne_of_lt hlt) its.toArray,⟨⟨_,Heap.get?_push_size _ rfl,rfl,rfl⟩,⟨ol,Heap.get?_push_of_some _ hol,hcl,hdl⟩⟩,fun b hb=>?_,CmpOf.ints_gt (fun i=>ns.getD i 0) (fun i v e=>ad6 rv (by simpa using e)),fun e h' tk kp=>?_,fun e v h' tk pv kp=>?_⟩)
 · rw [Heap.size_push]
   rcases List.mem_cons.mp hb with z | z
   · rw [z]; exact Nat.lt_succ_self _
   · have z':b=p:=by simpa using z
     rw [z']; exact Nat.lt_succ_of_lt hlt
 · have en:ns=[]:=List.length_eq_zero_iff.mp (by rw [ln]; simpa using e)
   refine ⟨d,H,I.kept fun b o q=>kp b o (fun z=>?_) (Heap.get?_push_of_some _ q),rd,q0 en⟩
   have z':b=s.heap.objs.size:=by simpa using z
   exact absurd (Heap.lt_size q) (by rw [z']; exact Nat.lt_irrefl _)
 · have e':0 < its.length:=by simpa using e
   have e1:its.toArray.size - 1=ns.length - 1:=by rw [List.size_toArray,ln]
   rw [e1] at pv
   obtain ⟨b1,b2⟩:=argBest_gt (fun i=>ns.getD i 0) (ns.length - 1)
   rw [List.getElem?_toArray] at pv
   obtain ⟨t,rfl⟩:=ad6 rv pv
   have up:∀ i,i < ns.length→ns.getD i 0∈ns:=fun i hi=>by
    rw [List.getD_eq_getElem?_getD,List.getElem?_eq_getElem hi]
    exact List.getElem_mem hi
   refine ⟨.int _,H,I.kept fun b o q=>kp b o (fun z=>?_) (Heap.get?_push_of_some _ q),⟨t,rfl⟩,q1 _ (up _ (by omega)) fun x hx=>?_⟩
   · have z':b=s.heap.objs.size:=by simpa using z
     exact absurd (Heap.lt_size q) (by rw [z']; exact Nat.lt_irrefl _)
   · obtain ⟨j,hj,rfl⟩:=List.getElem_of_mem hx
     have:=b2 j (by omega)
     rwa [show ns.getD j 0=ns[j] by rw [List.getD_eq_getElem?_getD,List.getElem?_eq_getElem hj]; rfl] at this
noncomputable def dd (ns:List Int):List Int:=ns.foldl step_dedup []
noncomputable def RawD (h:Heap) (d:Addr) (es:Array DictEntry) (ep:Nat):Prop:=∃ o,h.get? d=some o∧o.ExactDict∧o.data= .dict es ep
section
variable {prog:Program} {w:World} {A:Around} {E:Value→Shared→Prop} {s:Shared} {d it:Addr} {es:Array DictEntry} {ep i:Nat}
theorem RawD.typeIs (x:RawD s.heap d es ep):s.TypeIs (.ref d) "dict" := by
 obtain ⟨o,ho,hx,_⟩:=x
 exact ⟨o,ho,hx.1⟩
end
end L2
namespace Gd
open PySem L2
theorem ak4:bootBuiltins "len" = some (.builtin "len"):=by decide +kernel
theorem bq6:bootBuiltins "min" = some (.builtin "min"):=by decide +kernel
theorem bq7:bootBuiltins "max" = some (.builtin "max"):=by decide +kernel
theorem ac2:bootBuiltins "isinstance" = some (.builtin "isinstance"):=by decide +kernel
theorem aP5:bootBuiltins "list" = some (.type "list"):=by decide +kernel
theorem aU8:bootBuiltins "tuple" = some (.type "tuple"):=by decide +kernel
theorem bh4:bootBuiltins "bool" = some (.type "bool"):=by decide +kernel
theorem bq8:bootBuiltins "int" = some (.type "int"):=by decide +kernel
theorem bq5:bootBuiltins "str" = some (.type "str"):=by decide +kernel
theorem aR2 {H H':Hp} {q:Addr} {o:HO} (h:H q=none) (e:Same H H'):Same H (upd H' q o):=fun b u z=>by
 rw [ab7 (aa7 z h)]
 exact e b u z
theorem ac8 {H:Hp} {q:Addr} {o:HO} (h:H q=none):Same H (upd H q o):=aR2 h (Same.refl H)
noncomputable def aL8 (e:PySem.Expr):Scope:=match e with
 | .ListComp _ _ sc _=>sc
 | _=>{ kind:= .function,names:=[],isGenerator:=false,isCoroutine:=false,more:=[] }
noncomputable def bi8 (s:Stmt):PySem.Expr:=match s with
 | .Assign _ v _=>v
 | .Return (some v) _=>v
 | .Expr v _=>v
 | .For _ it _ _ _=>it
 | .If t _ _ _=>t
 | _=> .Constant .none 0 ⟨0,0,0,0⟩
noncomputable def nth (l:List Stmt) (i:Nat):Stmt:=l.getD i (.Pass ⟨0,0,0,0⟩)
noncomputable abbrev AL:=List (List Int×Int)
noncomputable abbrev kI (k:List Int):List Key:=k.map Sum.inl
noncomputable def encD (D:AL):List (List Key×V):=D.map fun p=>(kI p.1,V.int p.2)
noncomputable def look (D:AL) (k:List Int):Option Int:=(D.find? fun p=>decide (p.1=k)).map (·.2)
noncomputable def gfl (n:Int) (w l sh d:Addr):List (Str×V):=putF "wish_ranks" (.ref d) (putF "shuns" (.ref sh) (putF "likings" (.ref l) (putF "ways" (.ref w) (putF "house_count" (.int n) []))))
structure GuildAt (C:Addr) (H:Hp) (p:Addr) (n:Int) (W S:List (List Key×V)) (L D:AL) (w l sh d:Addr):Prop where
 ob:∃ dx,H p=some (.ins C dx (gfl n w l sh d))
 hw:H w=some (.dT W)
 hl:H l=some (.dT (encD L))
 hs:H sh=some (.dT S)
 hd:H d=some (.dT (encD D))
 ne:[w,l,sh,d].Nodup
theorem GuildAt.same {C:Addr} {H H':Hp} {p:Addr} {n:Int} {W S:List (List Key×V)} {L D:AL} {w l sh d:Addr} (G:GuildAt C H p n W S L D w l sh d) (e:Same H H'):GuildAt C H' p n W S L D w l sh d :=
 ⟨let ⟨dx,h⟩:=G.ob; ⟨dx,e _ _ h⟩,e _ _ G.hw,e _ _ G.hl,e _ _ G.hs,e _ _ G.hd,G.ne⟩
structure Road (n:Int) (r:List Int):Prop where
 long:2≤r.length
 small:∀ x∈r,0≤x∧x < n
 last:r.getLast?=some 0
 nd:r.Nodup
theorem Road.at {n:Int} {r:List Int} (R:Road n r) {i:Nat} (h:i < r.length):0≤r.getD i 0∧r.getD i 0 < n:=by
 refine R.small _ ?_
 rw [List.getD_eq_getElem?_getD,List.getElem?_eq_getElem h]
 exact List.getElem_mem h
noncomputable def But (c:Addr) (H H':Hp):Prop:=∀ b o,H b=some o→b≠c→H' b=some o
theorem But.refl (c:Addr) (H:Hp):But c H H:=fun _ _ h _=>h
theorem But.trans {c:Addr} {H H1 H2:Hp} (a:But c H H1) (b:But c H1 H2):But c H H2:=fun x o h n=>b x o (a x o h n) n
theorem But.after {c:Addr} {H H1 H2:Hp} (a:Same H H1) (b:But c H1 H2):But c H H2:=fun x o h n=>b x o (a x o h) n
theorem But.fresh {c:Addr} {H H1 H2:Hp} (hc:H c=none) (a:Same H H1) (b:But c H1 H2):Same H H2:=fun x o h=>b x o (a x o h) (aa7 h hc)
theorem But.seq {K:PySem.W.Frag} {c a:Addr} {H H':Hp} {xs:List V} {kvs:List (List Key×V)} (hc:H c=some (.dT kvs)) (e:But c H H') (h:SqL K H a xs):SqL K H' a xs:=by
 rcases h with (h | ⟨o,h⟩) | h
 · exact .inl (.inl (e _ _ h (bm5 h hc (by intro z; cases z))))
 · exact .inl (.inr ⟨o,e _ _ h (bm5 h hc (by intro z; cases z))⟩)
 · exact .inr h
end Gd
namespace L2
open PySem PySem.Spec PyProof.Rows
theorem FpOk.at {X:Cx} {pins:List (Addr×Obj)} {H H':Hp} {b:Addr} (h:FpOk X pins H b) (e:H' b=none):FpOk X pins H' b:=⟨e,h.2⟩
theorem KT.drop {H:Hp} {kvs:List (List Key×V)} {xs:List (List Key×Addr×Value)} (r:KT H kvs xs) (k:List Key):KT H (aT5 kvs k) (xs.filter fun x=>decide (x.1≠k)):=by
 induction r with
 | nil=>exact .nil
 | @cons p q ps qs h t ih =>
   unfold aT5 at ih ⊢
   rw [List.filter_cons,List.filter_cons]
   by_cases e:p.1=k
   · rw [if_neg (by simp [e]),if_neg (by simp [h.1.symm.trans e])]
     exact ih
   · rw [if_pos (by simpa using e),if_pos (by simpa using fun z=>e (h.1.trans z))]
     exact .cons h ih
end L2
namespace Mi
open PySem L2
inductive D where
 | non | bl (b:Bool) | int (i:Int) | str (x:Str) | ty (n:String)
 | lst (xs:List D) | tup (xs:List D) | scr (xs:List D)
 | dK (ks:List Key) (vs:List D) | dT (ks:List (List Key)) (vs:List D)
 | obj (c:Nat) (ns:List Str) (vs:List D)
noncomputable abbrev Env:=List (Option D)
inductive Res (α:Type) where
 | ok (a:α) | exc (c:Nat) | bad
inductive Out (α:Type) where
 | ok (a:α) (ρ:Env) | exc (c:Nat) (ρ:Env) | bad
inductive SO where
 | nx (ρ:Env) | rt (d:D) (ρ:Env) | bk (ρ:Env) | ct (ρ:Env) | exc (c:Nat) (ρ:Env) | bad
@[simp] noncomputable def Res.bind {α β:Type}:Res α→(α→Res β)→Res β
 | .ok a,f=>f a
 | .exc c,_=> .exc c
 | .bad,_=> .bad
@[simp] noncomputable def Res.calm {α:Type}:Res α→Res α
 | .ok a=> .ok a
 | _=> .bad
@[simp] noncomputable def Out.bind {α β:Type}:Out α→(α→Env→Out β)→Out β
 | .ok a ρ,f=>f a ρ
 | .exc c ρ,_=> .exc c ρ
 | .bad,_=> .bad
@[simp] noncomputable def Res.up {α:Type} (ρ:Env):Res α→Out α
 | .ok a=> .ok a ρ
 | .exc c=> .exc c ρ
 | .bad=> .bad
noncomputable def rg {α:Type} (l:List (Option α)) (i:Nat):Option α:=(l[i]?).join
@[simp] noncomputable def vr (i:Nat):Env→Res D:=fun ρ=>match rg ρ i with | some d=> .ok d | none=> .bad
noncomputable def cst (d:D):Env→Res D:=fun _=> .ok d
noncomputable def un (f:D→Res D) (a:Env→Res D):Env→Res D:=fun ρ=>(a ρ).bind f
noncomputable def bn (f:D→D→Res D) (a b:Env→Res D):Env→Res D:=fun ρ=>(a ρ).bind fun x=>(b ρ).bind fun y=>f x y
noncomputable def ab4:Nat:=1000000
noncomputable def iI (g:Int→Int→Int):D→D→Res D | .int i,.int j=> .ok (.int (g i j)) | _,_=> .bad
noncomputable def iB (g:Int→Int→Bool):D→D→Res D | .int i,.int j=> .ok (.bl (g i j)) | _,_=> .bad
noncomputable def iC (C:Int→Int→Bool) (g:Int→Int→Int):D→D→Res D | .int i,.int j=>if C i j=true then .ok (.int (g i j)) else .bad | _,_=> .bad
noncomputable def addI:=iI fun i j=>i + j
noncomputable def subI:=iI fun i j=>i - j
noncomputable def mulI:=iC (fun i j=>decide ((-(2 ^ 64) < i∧i < 2 ^ 64)∨(-(2 ^ 64) < j∧j < 2 ^ 64))) fun i j=>i * j
noncomputable def ar9:=iC (fun _ j=>decide (0 < j∧j < 1073741824)) fun i j=>i / j
noncomputable def modI:=iC (fun _ j=>decide (0 < j)) fun i j=>i % j
noncomputable def ltI:=iB fun i j=>decide (i < j)
noncomputable def gtI:=iB fun i j=>decide (j < i)
noncomputable def geI:=iB fun i j=>decide (j≤i)
@[simp] theorem addI_int (i j:Int):addI (.int i) (.int j)= .ok (.int (i + j)):=rfl
@[simp] theorem subI_int (i j:Int):subI (.int i) (.int j)= .ok (.int (i - j)):=rfl
@[simp] theorem aS2 (i j:Int):mulI (.int i) (.int j)=if (-(2 ^ 64) < i∧i < 2 ^ 64)∨(-(2 ^ 64) < j∧j < 2 ^ 64) then .ok (.int (i * j)) else .bad:=by simp [mulI,iC]
@[simp] theorem aM7 (i j:Int):ar9 (.int i) (.int j)=if 0 < j∧j < 1073741824 then .ok (.int (i / j)) else .bad:=by simp [ar9,iC]
@[simp] theorem aS4 (i j:Int):modI (.int i) (.int j)=if 0 < j then .ok (.int (i % j)) else .bad:=by simp [modI,iC]
@[simp] theorem ltI_int (i j:Int):ltI (.int i) (.int j)= .ok (.bl (decide (i < j))):=rfl
@[simp] theorem gtI_int (i j:Int):gtI (.int i) (.int j)= .ok (.bl (decide (j < i))):=rfl
@[simp] theorem geI_int (i j:Int):geI (.int i) (.int j)= .ok (.bl (decide (j≤i))):=rfl
noncomputable def negI:D→Res D | .int i=> .ok (.int (-i)) | _=> .bad
noncomputable def notB:D→Res D | .bl b=> .ok (.bl (!b)) | _=> .bad
noncomputable def eqS (neg:Bool):D→D→Res D
 | .int i,.int j=> .ok (.bl (neg.xor (decide (i=j))))
 | .str i,.str j=> .ok (.bl (neg.xor (decide (i=j))))
 | .bl i,.bl j=> .ok (.bl (neg.xor (decide (i=j))))
 | .non,.int _=> .ok (.bl neg)
 | .int _,.non=> .ok (.bl neg)
 | .non,.non=> .ok (.bl (!neg))
 | _,_=> .bad
noncomputable def aw3:D→Bool | .non=>true | _=>false
noncomputable def lenD:D→Res D
 | .lst xs=> .ok (.int xs.length)
 | .tup xs=> .ok (.int xs.length)
 | .scr xs=> .ok (.int xs.length)
 | _=> .bad
noncomputable def atD (xs:List D) (i:Int):Res D:=match atI xs i with | some d=> .ok d | none=> .bad
noncomputable def ixL:D→D→Res D | .lst xs,.int i=>atD xs i | .scr xs,.int i=>atD xs i | _,_=> .bad
noncomputable def ixT:D→D→Res D | .tup xs,.int i=>atD xs i | _,_=> .bad
noncomputable def catL:D→D→Res D | .lst xs,.lst ys=>if xs.length + ys.length≤ab4 then .ok (.lst (xs ++ ys)) else .bad | _,_=> .bad
noncomputable def aD6:D→Res D | .lst xs=> .ok (.lst xs) | .scr xs=> .ok (.lst xs) | .tup xs=> .ok (.lst xs) | _=> .bad
section
variable {κ:Type} [DecidableEq κ]
noncomputable def bf1:List κ→List D→κ→Option D
 | k :: ks,d :: ds,j=>if k=j then some d else bf1 ks ds j
 | _,_,_=>none
end
noncomputable def truB:D→Res Bool | .bl b=> .ok b | _=> .bad
noncomputable def andD (a b:Env→Res D):Env→Res D:=fun ρ=>((a ρ).bind truB).bind fun c=>if c=true then b ρ else .ok (.bl false)
noncomputable def iteD (c:Env→Res Bool) (a b:Env→Res D):Env→Res D:=fun ρ=>(c ρ).bind fun c=>if c=true then a ρ else b ρ
noncomputable def esN:Env→Res (List D):=fun _=> .ok []
noncomputable def esC (a:Env→Res D) (r:Env→Res (List D)):Env→Res (List D):=fun ρ=>(a ρ).bind fun x=>(r ρ).bind fun xs=> .ok (x :: xs)
noncomputable def mkL (r:Env→Res (List D)):Env→Res D:=fun ρ=>(r ρ).bind fun xs=>if xs.length≤ab4 then .ok (.lst xs) else .bad
noncomputable def capD (ρ:Env) (ix:List Nat):Env:=ix.map fun j=>rg ρ j
noncomputable def ae3 (ti:Env→Res Bool) (te:Env→Res D) (cap:Env):List D→Res (List D)
 | []=> .ok []
 | d :: r=>(ti (some d :: cap)).calm.bind fun c=>if c=true then (te (some d :: cap)).calm.bind fun x=>(ae3 ti te cap r).bind fun xs=> .ok (x :: xs) else ae3 ti te cap r
noncomputable def comp (src:Env→Res (List D)) (ix:List Nat) (ti:Env→Res Bool) (te:Env→Res D):Env→Res D:=fun ρ=>(src ρ).bind fun xs=>if xs.length < ab4 then (ae3 ti te (capD ρ ix) xs).bind fun ys=> .ok (.lst ys) else .bad
noncomputable def srcL (a:Env→Res D):Env→Res (List D):=fun ρ=>(a ρ).bind fun d=>match d with | .lst xs=> .ok xs | .scr xs=> .ok xs | _=> .bad
noncomputable def rng (lo hi:Int):List D:=(List.range (hi - lo).toNat).map fun i:Nat=>D.int (lo + i)
noncomputable def srcR (a b:Env→Res D):Env→Res (List D):=fun ρ=>(a ρ).bind fun x=>(b ρ).bind fun y=>match x,y with
 | .int i,.int j=>if -(2 ^ 62)≤i∧i < 2 ^ 62∧-(2 ^ 62)≤j∧j < 2 ^ 62 then .ok (rng i j) else .bad
 | _,_=> .bad
noncomputable def seqS (a b:Env→SO):Env→SO:=fun ρ=>match a ρ with | .nx ρ'=>b ρ' | o=>o
noncomputable def ah5:Env→SO:=fun ρ=> .nx ρ
@[simp] noncomputable def at7 {α:Type}:Out α→(α→Env→SO)→SO
 | .ok a ρ,f=>f a ρ
 | .exc c ρ,_=> .exc c ρ
 | .bad,_=> .bad
noncomputable abbrev MD:=Env→Out D
noncomputable def liP {α:Type} (a:Env→Res α):Env→Out α:=fun ρ=>(a ρ).up ρ
noncomputable def retS (a:MD):Env→SO:=fun ρ=>at7 (a ρ) fun d ρ'=> .rt d ρ'
noncomputable def aj7 (a:MD):Env→SO:=fun ρ=>at7 (a ρ) fun _ ρ'=> .nx ρ'
noncomputable def setS (i:Nat) (a:MD):Env→SO:=fun ρ=>at7 (a ρ) fun d ρ'=> .nx (ρ'.set i (some d))
noncomputable def ifS (c:Env→Out Bool) (a b:Env→SO):Env→SO:=fun ρ=>at7 (c ρ) fun t ρ'=>if t=true then a ρ' else b ρ'
noncomputable def forS (tgt:D→Env→Option Env) (body:Env→SO):List D→Env→SO
 | [],ρ=> .nx ρ
 | d :: ds,ρ=>match tgt d ρ with
   | none=> .bad
   | some ρ1=>match body ρ1 with
     | .nx ρ'=>forS tgt body ds ρ'
     | .ct ρ'=>forS tgt body ds ρ'
     | .bk ρ'=> .nx ρ'
     | o=>o
noncomputable def aF2 (src:Env→Out (List D)) (tgt:D→Env→Option Env) (body:Env→SO):Env→SO:=fun ρ=>at7 (src ρ) fun xs ρ'=>forS tgt body xs ρ'
noncomputable def whS (c:Env→Out Bool) (body:Env→SO):Nat→Env→SO
 | 0,_=> .bad
 | n + 1,ρ=>at7 (c ρ) fun t ρ1=>if t=true then (match body ρ1 with
    | .nx ρ'=>whS c body n ρ'
    | .ct ρ'=>whS c body n ρ'
    | .bk ρ'=> .nx ρ'
    | o=>o) else .nx ρ1
noncomputable def tgN (i:Nat):D→Env→Option Env:=fun d ρ=>some (ρ.set i (some d))
noncomputable def run (k:Nat) (body:Env→SO) (ds:List D):Out D:=match body (ds.map some ++ List.replicate (k - ds.length) none) with
 | .nx ρ=> .ok .non ρ
 | .rt d ρ=> .ok d ρ
 | .exc c ρ=> .exc c ρ
 | _=> .bad
structure Cm where
 f:Nat→Addr
 K:PySem.W.Frag
 tb:Tbs
noncomputable instance:CoeFun Cm fun _=>Nat→Addr:=⟨Cm.f⟩
noncomputable def SqF (K:PySem.W.Frag) (B:Hp) (a:Addr) (xs:List V):Prop:=(∃ o,B a=some (.frz o (.lst xs))) ∨
 ∃ (o:Obj) (its:Array Value) (n:Nat),K.lookup a=some o∧o.cls= .type "list" ∧ o.dict=none∧o.data= .seq its n∧its.size≤sizeLine∧Vals xs its.toList
theorem SqF.mono {K:PySem.W.Frag} {B B':Hp} {a:Addr} {xs:List V} (h:SqF K B a xs) (e:Same B B'):SqF K B' a xs:=by
 rcases h with ⟨o,h⟩ | h
 · exact .inl ⟨o,e _ _ h⟩
 · exact .inr h
theorem SqF.sq {K:PySem.W.Frag} {H:Hp} {a:Addr} {xs:List V} (h:SqF K H a xs):SqL K H a xs:=by
 rcases h with ⟨o,h⟩ | h
 · exact .inl (.inr ⟨o,h⟩)
 · exact .inr h
section
variable (cm:Cm)
mutual
noncomputable def Dn (B:Hp):D→V→Prop
 | .non,v=>v= .non
 | .bl b,v=>v= .bl b
 | .int i,v=>v= .int i
 | .str x,v=>v= .str x
 | .ty n,v=>v= .ty n
 | .lst ds,v=>∃ a xs,v= .ref a∧B a=some (.lst xs)∧Dns B ds xs
 | .scr ds,v=>∃ a xs,v= .ref a∧SqF cm.K B a xs∧Dns B ds xs
 | .tup ds,v=>∃ a xs,v= .ref a∧B a=some (.tup xs)∧Dns B ds xs
 | .dK ks ds,v=>∃ (a:Addr) (kvs:List (Key×V)),v= .ref a∧B a=some (.dK kvs)∧kvs.map (·.1)=ks∧Dns B ds (kvs.map (·.2))
 | .dT ks ds,v=>∃ (a:Addr) (kvs:List (List Key×V)),v= .ref a∧B a=some (.dT kvs)∧kvs.map (·.1)=ks∧Dns B ds (kvs.map (·.2))
 | .obj c ns ds,v=>∃ (a dx:Addr) (fs:List (Str×V)),v= .ref a∧B a=some (.ins (cm c) dx fs)∧fs.map (·.1)=ns∧Dns B ds (fs.map (·.2))
noncomputable def Dns (B:Hp):List D→List V→Prop
 | [],xs=>xs=[]
 | d :: ds,xs=>∃ x r,xs=x :: r∧Dn B d x∧Dns B ds r
end
inductive Sh where
 | fz | ct (s:Sh) | ob (fs:List (Str×Sh))
mutual
noncomputable def Ow (B H:Hp):D→Sh→V→List Addr→Prop
 | d,.fz,v,A=>Dn cm B d v∧A=[]
 | .lst ds,.ct s,v,A=>∃ a xs A',v= .ref a∧H a=some (.lst xs)∧A=a :: A'∧Ows B H ds s xs A'
 | .dK ks ds,.ct s,v,A=>∃ (a:Addr) (kvs:List (Key×V)) (A':List Addr),v= .ref a∧H a=some (.dK kvs)∧kvs.map (·.1)=ks∧A=a :: A'∧Ows B H ds s (kvs.map (·.2)) A'
 | .dT ks ds,.ct s,v,A=>∃ (a:Addr) (kvs:List (List Key×V)) (A':List Addr),v= .ref a∧H a=some (.dT kvs)∧kvs.map (·.1)=ks∧A=a :: A'∧Ows B H ds s (kvs.map (·.2)) A'
 | .obj c ns ds,.ob fs,v,A=>∃ (a dx:Addr) (xs:List (Str×V)) (A':List Addr),v= .ref a∧H a=some (.ins (cm c) dx xs)∧xs.map (·.1)=ns∧A=a :: A'∧Owf B H ds ns fs (xs.map (·.2)) A'
 | _,_,_,_=>False
noncomputable def Ows (B H:Hp):List D→Sh→List V→List Addr→Prop
 | [],_,xs,A=>xs=[]∧A=[]
 | d :: ds,s,xs,A=>∃ x r A1 A2,xs=x :: r∧A=A1 ++ A2∧Ow B H d s x A1∧Ows B H ds s r A2
noncomputable def Owf (B H:Hp):List D→List Str→List (Str×Sh)→List V→List Addr→Prop
 | [],_,_,xs,A=>xs=[]∧A=[]
 | d :: ds,ns,fs,xs,A=>∃ n ns' x r A1 A2,ns=n :: ns'∧xs=x :: r∧A=A1 ++ A2∧Ow B H d ((fs.lookup n).getD .fz) x A1∧Owf B H ds ns' fs r A2
end
inductive Md where
 | F | R | O (s:Sh)
noncomputable def LoV (B U H:Hp) (m:Md) (d:D) (v:V) (A:List Addr):Prop :=
 match m with
 | .F=>Dn cm B d v∧A=[]
 | .R=>Dn cm U d v∧A=[]
 | .O sh=>Ow cm B H d sh v A
noncomputable def Lo (B U H:Hp) (m:Md) (o:Option D) (s:Option V) (A:List Addr):Prop :=
 match o with
 | none=>A=[]
 | some d=>∃ v,s=some v∧LoV cm B U H m d v A
structure Rel (ms:List Md) (B U:Hp) (As:Nat→List Addr) (σ:St) (H:Hp) (ρ:Env):Prop where
 bu:Same B U
 uh:Same U H
 nd:∀ i,(As i).Nodup
 dj:∀ i j a,i≠j→a∈As i→a∉As j
 un:∀ i a,a∈As i→U a=none
 lo:∀ i,Lo cm B U H (ms.getD i .F) (rg ρ i) (rg σ i) (As i)
 len:ρ.length=σ.length
 tb:∀ p∈cm.tb,∃ l,B p.1=some (.tbl l)∧p.2∈l
end
noncomputable def aw2 (o:HO):Prop:=∃ xs,o= .tup xs
structure Ex (B U B' U':Hp):Prop where
 b:Same B B'
 u:Same U U'
 nb:∀ a o,B' a=some o→B a=some o∨U a=none∨aw2 o
theorem Ex.refl (B U:Hp):Ex B U B U:=⟨Same.refl _,Same.refl _,fun _ _ h=> .inl h⟩
theorem Ex.trans {B U B1 U1 B2 U2:Hp} (a:Ex B U B1 U1) (b:Ex B1 U1 B2 U2):Ex B U B2 U2 :=
 ⟨a.b.trans b.b,a.u.trans b.u,fun c o h=>by
  rcases b.nb c o h with h | h | h
  · exact a.nb c o h
  · exact .inr (.inl (a.u.free h))
  · exact .inr (.inr h)⟩
section
variable {cm:Cm}
mutual
theorem Dn.mono {B B':Hp} (e:Same B B'):∀ {d:D} {v:V},Dn cm B d v→Dn cm B' d v
 | .non,_,h=>by rw [Dn] at h ⊢; exact h
 | .bl _,_,h=>by rw [Dn] at h ⊢; exact h
 | .int _,_,h=>by rw [Dn] at h ⊢; exact h
 | .str _,_,h=>by rw [Dn] at h ⊢; exact h
 | .ty _,_,h=>by rw [Dn] at h ⊢; exact h
 | .lst ds,_,h=>by
   rw [Dn] at h ⊢
   obtain ⟨a,xs,r,h1,h2⟩:=h
   exact ⟨a,xs,r,e _ _ h1,Dns.mono e h2⟩
 | .scr ds,_,h=>by
   rw [Dn] at h ⊢
   obtain ⟨a,xs,r,h1,h2⟩:=h
   exact ⟨a,xs,r,h1.mono e,Dns.mono e h2⟩
 | .tup ds,_,h=>by
   rw [Dn] at h ⊢
   obtain ⟨a,xs,r,h1,h2⟩:=h
   exact ⟨a,xs,r,e _ _ h1,Dns.mono e h2⟩
 | .dK ks ds,_,h=>by
   rw [Dn] at h ⊢
   obtain ⟨a,xs,r,h1,h2,h3⟩:=h
   exact ⟨a,xs,r,e _ _ h1,h2,Dns.mono e h3⟩
 | .dT ks ds,_,h=>by
   rw [Dn] at h ⊢
   obtain ⟨a,xs,r,h1,h2,h3⟩:=h
   exact ⟨a,xs,r,e _ _ h1,h2,Dns.mono e h3⟩
 | .obj c ns ds,_,h=>by
   rw [Dn] at h ⊢
   obtain ⟨a,dx,xs,r,h1,h2,h3⟩:=h
   exact ⟨a,dx,xs,r,e _ _ h1,h2,Dns.mono e h3⟩
theorem Dns.mono {B B':Hp} (e:Same B B'):∀ {ds:List D} {xs:List V},Dns cm B ds xs→Dns cm B' ds xs
 | [],_,h=>by rw [Dns] at h ⊢; exact h
 | d :: ds,_,h=>by
   rw [Dns] at h ⊢
   obtain ⟨x,r,h0,h1,h2⟩:=h
   exact ⟨x,r,h0,Dn.mono e h1,Dns.mono e h2⟩
end
theorem Dns.len {B:Hp}:∀ {ds:List D} {xs:List V},Dns cm B ds xs→ds.length=xs.length
 | [],_,h=>by rw [Dns] at h; subst h; rfl
 | d :: ds,_,h=>by
   rw [Dns] at h
   obtain ⟨x,r,rfl,_,h2⟩:=h
   rw [List.length_cons,List.length_cons,Dns.len h2]
theorem Dns.get {B:Hp}:∀ {ds:List D} {xs:List V} {i:Nat} {d:D},Dns cm B ds xs→ds[i]?=some d→∃ x,xs[i]?=some x∧Dn cm B d x
 | [],_,_,_,_,e=>by cases e
 | d :: ds,_,i,d',h,e=>by
   rw [Dns] at h
   obtain ⟨x,r,rfl,h1,h2⟩:=h
   cases i with
   | zero=>cases e; exact ⟨x,rfl,h1⟩
   | succ i=>exact Dns.get (i:=i) h2 (by simpa using e)
theorem Dns.geti {B:Hp}:∀ {ds:List D} {xs:List V} {i:Nat} {x:V},Dns cm B ds xs→xs[i]?=some x→∃ d,ds[i]?=some d∧Dn cm B d x
 | [],_,_,_,h,e=>by rw [Dns] at h; subst h; cases e
 | d :: ds,_,i,x',h,e=>by
   rw [Dns] at h
   obtain ⟨x,r,rfl,h1,h2⟩:=h
   cases i with
   | zero=>cases e; exact ⟨d,rfl,h1⟩
   | succ i=>exact Dns.geti (i:=i) h2 (by simpa using e)
theorem Dns.append {B:Hp}:∀ {ds es:List D} {xs ys:List V},Dns cm B ds xs→Dns cm B es ys→Dns cm B (ds ++ es) (xs ++ ys)
 | [],_,_,_,h,k=>by rw [Dns] at h; subst h; exact k
 | d :: ds,_,_,_,h,k=>by
   rw [Dns] at h
   obtain ⟨x,r,rfl,h1,h2⟩:=h
   rw [List.cons_append,List.cons_append,Dns]
   exact ⟨x,_,rfl,h1,Dns.append h2 k⟩
theorem Dns.one {B:Hp} {d:D} {v:V} (h:Dn cm B d v):Dns cm B [d] [v]:=by
 rw [Dns]
 exact ⟨v,[],rfl,h,by rw [Dns]⟩
theorem Dns.drop {B:Hp}:∀ {ds:List D} {xs:List V} (n:Nat),Dns cm B ds xs→Dns cm B (ds.drop n) (xs.drop n)
 | [],_,n,h=>by rw [Dns] at h; subst h; rw [List.drop_nil,List.drop_nil,Dns]
 | d :: ds,_,n,h=>by
   cases n with
   | zero=>exact h
   | succ n =>
     rw [Dns] at h
     obtain ⟨x,r,rfl,h1,h2⟩:=h
     exact Dns.drop n h2
theorem Dns.take {B:Hp}:∀ {ds:List D} {xs:List V} (n:Nat),Dns cm B ds xs→Dns cm B (ds.take n) (xs.take n)
 | [],_,n,h=>by rw [Dns] at h; subst h; rw [List.take_nil,List.take_nil,Dns]
 | d :: ds,_,n,h=>by
   cases n with
   | zero=>rw [List.take_zero,List.take_zero,Dns]
   | succ n =>
     rw [Dns] at h
     obtain ⟨x,r,rfl,h1,h2⟩:=h
     rw [List.take_succ_cons,List.take_succ_cons,Dns]
     exact ⟨x,_,rfl,h1,Dns.take n h2⟩
theorem Dns.erase {B:Hp}:∀ {ds:List D} {xs:List V} (n:Nat),Dns cm B ds xs→Dns cm B (ds.eraseIdx n) (xs.eraseIdx n)
 | [],_,n,h=>by rw [Dns] at h; subst h; rw [List.eraseIdx_nil,List.eraseIdx_nil,Dns]
 | d :: ds,_,n,h=>by
   rw [Dns] at h
   obtain ⟨x,r,rfl,h1,h2⟩:=h
   cases n with
   | zero=>exact h2
   | succ n =>
     rw [List.eraseIdx_cons_succ,List.eraseIdx_cons_succ,Dns]
     exact ⟨x,_,rfl,h1,Dns.erase n h2⟩
theorem Dns.set {B:Hp} {d':D} {v:V} (hd:Dn cm B d' v):∀ {ds:List D} {xs:List V} (n:Nat),Dns cm B ds xs→Dns cm B (ds.set n d') (xs.set n v)
 | [],_,n,h=>by rw [Dns] at h; subst h; rw [List.set_nil,List.set_nil,Dns]
 | d :: ds,_,n,h=>by
   rw [Dns] at h
   obtain ⟨x,r,rfl,h1,h2⟩:=h
   cases n with
   | zero=>rw [List.set_cons_zero,List.set_cons_zero,Dns]; exact ⟨v,r,rfl,hd,h2⟩
   | succ n =>
     rw [List.set_cons_succ,List.set_cons_succ,Dns]
     exact ⟨x,_,rfl,h1,Dns.set hd n h2⟩
mutual
theorem Ow.mono {B B' H H':Hp} (e:Same B B'):∀ {d:D} {s:Sh} {v:V} {A:List Addr},(∀ a∈A,H' a=H a)→Ow cm B H d s v A→Ow cm B' H' d s v A
 | d,.fz,v,A,k,h=>by
   rw [Ow] at h ⊢
   exact ⟨h.1.mono e,h.2⟩
 | .lst ds,.ct s,v,A,k,h=>by
   rw [Ow] at h ⊢
   obtain ⟨a,xs,A',r,h1,h2,h3⟩:=h
   subst h2
   exact ⟨a,xs,A',r,by rw [k a List.mem_cons_self]; exact h1,rfl,Ows.mono e (fun b hb=>k b (List.mem_cons_of_mem _ hb)) h3⟩
 | .dK ks ds,.ct s,v,A,k,h=>by
   rw [Ow] at h ⊢
   obtain ⟨a,xs,A',r,h1,h2,h3,h4⟩:=h
   subst h3
   exact ⟨a,xs,A',r,by rw [k a List.mem_cons_self]; exact h1,h2,rfl,Ows.mono e (fun b hb=>k b (List.mem_cons_of_mem _ hb)) h4⟩
 | .dT ks ds,.ct s,v,A,k,h=>by
   rw [Ow] at h ⊢
   obtain ⟨a,xs,A',r,h1,h2,h3,h4⟩:=h
   subst h3
   exact ⟨a,xs,A',r,by rw [k a List.mem_cons_self]; exact h1,h2,rfl,Ows.mono e (fun b hb=>k b (List.mem_cons_of_mem _ hb)) h4⟩
 | .obj c ns ds,.ob fs,v,A,k,h=>by
   rw [Ow] at h ⊢
   obtain ⟨a,dx,xs,A',r,h1,h2,h3,h4⟩:=h
   subst h3
   exact ⟨a,dx,xs,A',r,by rw [k a List.mem_cons_self]; exact h1,h2,rfl,Owf.mono e (fun b hb=>k b (List.mem_cons_of_mem _ hb)) h4⟩
 | .non,.ct _,_,_,_,h=>by simp [Ow] at h
 | .bl _,.ct _,_,_,_,h=>by simp [Ow] at h
 | .int _,.ct _,_,_,_,h=>by simp [Ow] at h
 | .str _,.ct _,_,_,_,h=>by simp [Ow] at h
 | .ty _,.ct _,_,_,_,h=>by simp [Ow] at h
 | .tup _,.ct _,_,_,_,h=>by simp [Ow] at h
 | .scr _,.ct _,_,_,_,h=>by simp [Ow] at h
 | .obj _ _ _,.ct _,_,_,_,h=>by simp [Ow] at h
 | .non,.ob _,_,_,_,h=>by simp [Ow] at h
 | .bl _,.ob _,_,_,_,h=>by simp [Ow] at h
 | .int _,.ob _,_,_,_,h=>by simp [Ow] at h
 | .str _,.ob _,_,_,_,h=>by simp [Ow] at h
 | .ty _,.ob _,_,_,_,h=>by simp [Ow] at h
 | .tup _,.ob _,_,_,_,h=>by simp [Ow] at h
 | .scr _,.ob _,_,_,_,h=>by simp [Ow] at h
 | .lst _,.ob _,_,_,_,h=>by simp [Ow] at h
 | .dK _ _,.ob _,_,_,_,h=>by simp [Ow] at h
 | .dT _ _,.ob _,_,_,_,h=>by simp [Ow] at h
theorem Ows.mono {B B' H H':Hp} (e:Same B B'):∀ {ds:List D} {s:Sh} {xs:List V} {A:List Addr},(∀ a∈A,H' a=H a)→Ows cm B H ds s xs A→Ows cm B' H' ds s xs A
 | [],_,_,_,_,h=>by rw [Ows] at h ⊢; exact h
 | d :: ds,s,xs,A,k,h=>by
   rw [Ows] at h ⊢
   obtain ⟨x,r,A1,A2,h0,h1,h2,h3⟩:=h
   subst h1
   exact ⟨x,r,A1,A2,h0,rfl,Ow.mono e (fun b hb=>k b (List.mem_append_left _ hb)) h2,Ows.mono e (fun b hb=>k b (List.mem_append_right _ hb)) h3⟩
theorem Owf.mono {B B' H H':Hp} (e:Same B B'):∀ {ds:List D} {ns:List Str} {fs:List (Str×Sh)} {xs:List V} {A:List Addr},(∀ a∈A,H' a=H a)→Owf cm B H ds ns fs xs A→Owf cm B' H' ds ns fs xs A
 | [],_,_,_,_,_,h=>by rw [Owf] at h ⊢; exact h
 | d :: ds,ns,fs,xs,A,k,h=>by
   rw [Owf] at h ⊢
   obtain ⟨n,ns',x,r,A1,A2,hn,h0,h1,h2,h3⟩:=h
   subst h1
   exact ⟨n,ns',x,r,A1,A2,hn,h0,rfl,Ow.mono e (fun b hb=>k b (List.mem_append_left _ hb)) h2,Owf.mono e (fun b hb=>k b (List.mem_append_right _ hb)) h3⟩
end
end
section
variable {cm:Cm}
mutual
theorem Ow.dn {B H G:Hp} (e:Same B G):∀ {d:D} {s:Sh} {v:V} {A:List Addr},(∀ a∈A,∀ o,H a=some o→G a=some o)→Ow cm B H d s v A→Dn cm G d v
 | d,.fz,v,A,k,h=>by
   rw [Ow] at h
   exact h.1.mono e
 | .lst ds,.ct s,v,A,k,h=>by
   rw [Ow] at h
   obtain ⟨a,xs,A',r,h1,h2,h3⟩:=h
   subst h2
   rw [Dn]
   exact ⟨a,xs,r,k a List.mem_cons_self _ h1,Ows.dn e (fun b hb=>k b (List.mem_cons_of_mem _ hb)) h3⟩
 | .dK ks ds,.ct s,v,A,k,h=>by
   rw [Ow] at h
   obtain ⟨a,xs,A',r,h1,h2,h3,h4⟩:=h
   subst h3
   rw [Dn]
   exact ⟨a,xs,r,k a List.mem_cons_self _ h1,h2,Ows.dn e (fun b hb=>k b (List.mem_cons_of_mem _ hb)) h4⟩
 | .dT ks ds,.ct s,v,A,k,h=>by
   rw [Ow] at h
   obtain ⟨a,xs,A',r,h1,h2,h3,h4⟩:=h
   subst h3
   rw [Dn]
   exact ⟨a,xs,r,k a List.mem_cons_self _ h1,h2,Ows.dn e (fun b hb=>k b (List.mem_cons_of_mem _ hb)) h4⟩
 | .obj c ns ds,.ob fs,v,A,k,h=>by
   rw [Ow] at h
   obtain ⟨a,dx,xs,A',r,h1,h2,h3,h4⟩:=h
   subst h3
   rw [Dn]
   exact ⟨a,dx,xs,r,k a List.mem_cons_self _ h1,h2,Owf.dn e (fun b hb=>k b (List.mem_cons_of_mem _ hb)) h4⟩
 | .non,.ct _,_,_,_,h=>by simp [Ow] at h
 | .bl _,.ct _,_,_,_,h=>by simp [Ow] at h
 | .int _,.ct _,_,_,_,h=>by simp [Ow] at h
 | .str _,.ct _,_,_,_,h=>by simp [Ow] at h
 | .ty _,.ct _,_,_,_,h=>by simp [Ow] at h
 | .tup _,.ct _,_,_,_,h=>by simp [Ow] at h
 | .scr _,.ct _,_,_,_,h=>by simp [Ow] at h
 | .obj _ _ _,.ct _,_,_,_,h=>by simp [Ow] at h
 | .non,.ob _,_,_,_,h=>by simp [Ow] at h
 | .bl _,.ob _,_,_,_,h=>by simp [Ow] at h
 | .int _,.ob _,_,_,_,h=>by simp [Ow] at h
 | .str _,.ob _,_,_,_,h=>by simp [Ow] at h
 | .ty _,.ob _,_,_,_,h=>by simp [Ow] at h
 | .tup _,.ob _,_,_,_,h=>by simp [Ow] at h
 | .scr _,.ob _,_,_,_,h=>by simp [Ow] at h
 | .lst _,.ob _,_,_,_,h=>by simp [Ow] at h
 | .dK _ _,.ob _,_,_,_,h=>by simp [Ow] at h
 | .dT _ _,.ob _,_,_,_,h=>by simp [Ow] at h
theorem Ows.dn {B H G:Hp} (e:Same B G):∀ {ds:List D} {s:Sh} {xs:List V} {A:List Addr},(∀ a∈A,∀ o,H a=some o→G a=some o)→Ows cm B H ds s xs A→Dns cm G ds xs
 | [],_,_,_,_,h=>by rw [Ows] at h; rw [Dns]; exact h.1
 | d :: ds,s,xs,A,k,h=>by
   rw [Ows] at h
   obtain ⟨x,r,A1,A2,h0,h1,h2,h3⟩:=h
   subst h1
   rw [Dns]
   exact ⟨x,r,h0,Ow.dn e (fun b hb=>k b (List.mem_append_left _ hb)) h2,Ows.dn e (fun b hb=>k b (List.mem_append_right _ hb)) h3⟩
theorem Owf.dn {B H G:Hp} (e:Same B G):∀ {ds:List D} {ns:List Str} {fs:List (Str×Sh)} {xs:List V} {A:List Addr},(∀ a∈A,∀ o,H a=some o→G a=some o)→Owf cm B H ds ns fs xs A→Dns cm G ds xs
 | [],_,_,_,_,_,h=>by rw [Owf] at h; rw [Dns]; exact h.1
 | d :: ds,ns,fs,xs,A,k,h=>by
   rw [Owf] at h
   obtain ⟨n,ns',x,r,A1,A2,hn,h0,h1,h2,h3⟩:=h
   subst h1
   rw [Dns]
   exact ⟨x,r,h0,Ow.dn e (fun b hb=>k b (List.mem_append_left _ hb)) h2,Owf.dn e (fun b hb=>k b (List.mem_append_right _ hb)) h3⟩
end
mutual
theorem Ow.at2 {B H:Hp}:∀ {d:D} {s:Sh} {v:V} {A:List Addr} {a:Addr},Ow cm B H d s v A→a∈A→∃ o,H a=some o∧¬ aw2 o
 | d,.fz,v,A,a,h,m=>by
   rw [Ow] at h
   rw [h.2] at m
   cases m
 | .lst ds,.ct s,v,A,a,h,m=>by
   rw [Ow] at h
   obtain ⟨b,xs,A',r,h1,h2,h3⟩:=h
   subst h2
   rcases List.mem_cons.mp m with e | m
   · refine ⟨_,by rw [e]; exact h1,?_⟩
     rintro ⟨_,z⟩
     cases z
   · exact Ows.at2 h3 m
 | .dK ks ds,.ct s,v,A,a,h,m=>by
   rw [Ow] at h
   obtain ⟨b,xs,A',r,h1,h2,h3,h4⟩:=h
   subst h3
   rcases List.mem_cons.mp m with e | m
   · refine ⟨_,by rw [e]; exact h1,?_⟩
     rintro ⟨_,z⟩
     cases z
   · exact Ows.at2 h4 m
 | .dT ks ds,.ct s,v,A,a,h,m=>by
   rw [Ow] at h
   obtain ⟨b,xs,A',r,h1,h2,h3,h4⟩:=h
   subst h3
   rcases List.mem_cons.mp m with e | m
   · refine ⟨_,by rw [e]; exact h1,?_⟩
     rintro ⟨_,z⟩
     cases z
   · exact Ows.at2 h4 m
 | .obj c ns ds,.ob fs,v,A,a,h,m=>by
   rw [Ow] at h
   obtain ⟨b,dx,xs,A',r,h1,h2,h3,h4⟩:=h
   subst h3
   rcases List.mem_cons.mp m with e | m
   · refine ⟨_,by rw [e]; exact h1,?_⟩
     rintro ⟨_,z⟩
     cases z
   · exact Owf.at2 h4 m
 | .non,.ct _,_,_,_,h,_=>by simp [Ow] at h
 | .bl _,.ct _,_,_,_,h,_=>by simp [Ow] at h
 | .int _,.ct _,_,_,_,h,_=>by simp [Ow] at h
 | .str _,.ct _,_,_,_,h,_=>by simp [Ow] at h
 | .ty _,.ct _,_,_,_,h,_=>by simp [Ow] at h
 | .tup _,.ct _,_,_,_,h,_=>by simp [Ow] at h
 | .scr _,.ct _,_,_,_,h,_=>by simp [Ow] at h
 | .obj _ _ _,.ct _,_,_,_,h,_=>by simp [Ow] at h
 | .non,.ob _,_,_,_,h,_=>by simp [Ow] at h
 | .bl _,.ob _,_,_,_,h,_=>by simp [Ow] at h
 | .int _,.ob _,_,_,_,h,_=>by simp [Ow] at h
 | .str _,.ob _,_,_,_,h,_=>by simp [Ow] at h
 | .ty _,.ob _,_,_,_,h,_=>by simp [Ow] at h
 | .tup _,.ob _,_,_,_,h,_=>by simp [Ow] at h
 | .scr _,.ob _,_,_,_,h,_=>by simp [Ow] at h
 | .lst _,.ob _,_,_,_,h,_=>by simp [Ow] at h
 | .dK _ _,.ob _,_,_,_,h,_=>by simp [Ow] at h
 | .dT _ _,.ob _,_,_,_,h,_=>by simp [Ow] at h
theorem Ows.at2 {B H:Hp}:∀ {ds:List D} {s:Sh} {xs:List V} {A:List Addr} {a:Addr},Ows cm B H ds s xs A→a∈A→∃ o,H a=some o∧¬ aw2 o
 | [],_,_,_,_,h,m=>by rw [Ows] at h; rw [h.2] at m; cases m
 | d :: ds,s,xs,A,a,h,m=>by
   rw [Ows] at h
   obtain ⟨x,r,A1,A2,h0,h1,h2,h3⟩:=h
   subst h1
   rcases List.mem_append.mp m with m | m
   · exact Ow.at2 h2 m
   · exact Ows.at2 h3 m
theorem Owf.at2 {B H:Hp}:∀ {ds:List D} {ns:List Str} {fs:List (Str×Sh)} {xs:List V} {A:List Addr} {a:Addr},Owf cm B H ds ns fs xs A→a∈A→∃ o,H a=some o∧¬ aw2 o
 | [],_,_,_,_,_,h,m=>by rw [Owf] at h; rw [h.2] at m; cases m
 | d :: ds,ns,fs,xs,A,a,h,m=>by
   rw [Owf] at h
   obtain ⟨n,ns',x,r,A1,A2,hn,h0,h1,h2,h3⟩:=h
   subst h1
   rcases List.mem_append.mp m with m | m
   · exact Ow.at2 h2 m
   · exact Owf.at2 h3 m
end
theorem Ow.at {B H:Hp} {d:D} {s:Sh} {v:V} {A:List Addr} {a:Addr} (h:Ow cm B H d s v A) (m:a∈A):∃ o,H a=some o:=let ⟨o,e,_⟩:=Ow.at2 h m; ⟨o,e⟩
theorem Owf.at {B H:Hp} {ds:List D} {ns:List Str} {fs:List (Str×Sh)} {xs:List V} {A:List Addr} {a:Addr} (h:Owf cm B H ds ns fs xs A) (m:a∈A):∃ o,H a=some o:=let ⟨o,e,_⟩:=Owf.at2 h m; ⟨o,e⟩
theorem Ows.of {B H:Hp}:∀ {ds:List D} {xs:List V},Dns cm B ds xs→Ows cm B H ds .fz xs []
 | [],_,h=>by rw [Dns] at h; rw [Ows]; exact ⟨h,rfl⟩
 | d :: ds,_,h=>by
   rw [Dns] at h
   obtain ⟨x,r,h0,h1,h2⟩:=h
   rw [Ows]
   exact ⟨x,r,[],[],h0,rfl,by rw [Ow]; exact ⟨h1,rfl⟩,Ows.of h2⟩
theorem Ows.fz {B H:Hp}:∀ {ds:List D} {xs:List V} {A:List Addr},Ows cm B H ds .fz xs A→Dns cm B ds xs∧A=[]
 | [],_,_,h=>by rw [Ows] at h; rw [Dns]; exact h
 | d :: ds,_,_,h=>by
   rw [Ows] at h
   obtain ⟨x,r,A1,A2,h0,h1,h2,h3⟩:=h
   rw [Ow] at h2
   obtain ⟨h4,h5⟩:=Ows.fz h3
   rw [Dns]
   exact ⟨⟨x,r,h0,h2.1,h4⟩,by rw [h1,h2.2,h5]; rfl⟩
theorem Lo.at2 {B U H:Hp} {m:Md} {o:Option D} {s:Option V} {A:List Addr} {a:Addr} (h:Lo cm B U H m o s A) (ha:a∈A):∃ o,H a=some o∧¬ aw2 o:=by
 unfold Lo at h
 cases o with
 | none=>simp only at h; rw [h] at ha; cases ha
 | some d =>
   obtain ⟨v,_,h⟩:=h
   cases m with
   | F=>have h:Dn cm B d v∧A=[]:=h; rw [h.2] at ha; cases ha
   | R=>have h:Dn cm U d v∧A=[]:=h; rw [h.2] at ha; cases ha
   | O sh=>exact Ow.at2 h ha
theorem Lo.at {B U H:Hp} {m:Md} {o:Option D} {s:Option V} {A:List Addr} {a:Addr} (h:Lo cm B U H m o s A) (ha:a∈A):∃ o,H a=some o:=let ⟨o,e,_⟩:=h.at2 ha; ⟨o,e⟩
theorem Lo.mono {B U H B' U' H':Hp} {m:Md} {o:Option D} {s:Option V} {A:List Addr} (h:Lo cm B U H m o s A) (e:Same B B') (f:Same U U') (k:∀ a∈A,H' a=H a):Lo cm B' U' H' m o s A:=by
 unfold Lo at h ⊢
 cases o with
 | none=>exact h
 | some d =>
   obtain ⟨v,hv,h⟩:=h
   refine ⟨v,hv,?_⟩
   cases m with
   | F=>exact ⟨h.1.mono e,h.2⟩
   | R=>exact ⟨h.1.mono f,h.2⟩
   | O sh=>exact Ow.mono e k h
variable {ms:List Md} {B U H B' U' H':Hp} {As:Nat→List Addr} {σ:St} {ρ:Env}
theorem Rel.at (R:Rel cm ms B U As σ H ρ) {i:Nat} {a:Addr} (h:a∈As i):∃ o,H a=some o:=(R.lo i).at h
theorem Rel.nt (R:Rel cm ms B U As σ H ρ) {i:Nat} {a:Addr} {o:HO} (h:a∈As i) (e:H a=some o) (z:aw2 o):False:=by
 obtain ⟨o',e',n⟩:=(R.lo i).at2 h
 rw [e] at e'; cases e'; exact n z
theorem Rel.fresh (R:Rel cm ms B U As σ H ρ) {p:Addr} (h:H p=none) (i:Nat):p∉As i:=fun m=>by
 obtain ⟨o,e⟩:=R.at m
 rw [h] at e
 cases e
theorem Rel.grow (R:Rel cm ms B U As σ H ρ) (e:Same B B') (f:Same U U') (g:Same H H') (bu:Same B' U') (uh:Same U' H') (un:∀ i a,a∈As i→U' a=none):Rel cm ms B' U' As σ H' ρ :=
 ⟨bu,uh,R.nd,R.dj,un,fun i=>(R.lo i).mono e f fun a ha=>by
  obtain ⟨o,q⟩:=R.at ha
  rw [q,g a o q],R.len,fun p hp=>let ⟨l,h1,h2⟩:=R.tb p hp; ⟨l,e _ _ h1,h2⟩⟩
theorem Rel.bh (R:Rel cm ms B U As σ H ρ):Same B H:=R.bu.trans R.uh
theorem Rel.new (R:Rel cm ms B U As σ H ρ) {p:Addr} {o:HO} (h:H p=none):Rel cm ms B U As σ (upd H p o) ρ :=
 R.grow (Same.refl _) (Same.refl _) (Gd.ac8 h) R.bu (R.uh.trans (Gd.ac8 h)) R.un
theorem au3 {G G':Hp} {p:Addr} {o:HO} (e:Same G G'):Same (upd G p o) (upd G' p o):=fun b u q=>by
 by_cases z:b=p
 · subst z; rw [ad5] at q ⊢; exact q
 · rw [ab7 z] at q ⊢; exact e b u q
theorem Rel.newB (R:Rel cm ms B U As σ H ρ) {p:Addr} {o:HO} (h:H p=none):Rel cm ms (upd B p o) (upd U p o) As σ (upd H p o) ρ :=
 R.grow (Gd.ac8 (R.bh.free h)) (Gd.ac8 (R.uh.free h)) (Gd.ac8 h) (au3 R.bu) (au3 R.uh) fun i a ha=>by
  rw [ab7 (fun z:a=p=>R.fresh h i (z ▸ ha))]
  exact R.un i a ha
theorem Ex.newB (R:Rel cm ms B U As σ H ρ) {p:Addr} {o:HO} (h:H p=none):Ex B U (upd B p o) (upd U p o) :=
 ⟨Gd.ac8 (R.bh.free h),Gd.ac8 (R.uh.free h),fun a u q=>by
  by_cases z:a=p
  · subst z; exact .inr (.inl (R.uh.free h))
  · rw [ab7 z] at q; exact .inl q⟩
noncomputable def frz (B H:Hp) (A:List Addr):Hp:=fun a=>if a∈A then H a else B a
theorem ag2 {A:List Addr} (e:Same B H):Same B (frz B H A):=fun a o q=>by
 unfold frz
 split
 · exact e a o q
 · exact q
theorem bg1 {A:List Addr} (e:Same B H):Same (frz B H A) H:=fun a o q=>by
 unfold frz at q
 split at q
 · exact q
 · exact e a o q
theorem aT3 {A:List Addr} (e:Same B U):Same (frz B H A) (frz U H A):=fun a o q=>by
 unfold frz at q ⊢
 split
 · rename_i z; rw [if_pos z] at q; exact q
 · rename_i z; rw [if_neg z] at q; exact e a o q
end
noncomputable abbrev KT (α β:Type):=α→β→Hp→Hp→Hp→List Addr→Prop
inductive Kd where
 | F | U | X
noncomputable def hp:Kd→Hp→Hp→Hp→Hp
 | .F,B,_,_=>B
 | .U,_,U,_=>U
 | .X,_,_,H=>H
structure Gw (B U H B' U' H':Hp):Prop extends Ex B U B' U' where
 h:Same H H'
 fr:∀ a o,U' a=some o→U a=some o∨H a=none∨aw2 o
theorem Gw.refl (B U H:Hp):Gw B U H B U H:=⟨Ex.refl _ _,Same.refl _,fun _ _ h=> .inl h⟩
theorem Gw.trans {B U H B1 U1 H1 B2 U2 H2:Hp} (a:Gw B U H B1 U1 H1) (b:Gw B1 U1 H1 B2 U2 H2):Gw B U H B2 U2 H2 :=
 ⟨a.toEx.trans b.toEx,a.h.trans b.h,fun c o h=>by
  rcases b.fr c o h with h | h | h
  · exact a.fr c o h
  · exact .inr (.inl (a.h.free h))
  · exact .inr (.inr h)⟩
structure New (N:List Addr) (H U:Hp) (As:Nat→List Addr):Prop where
 nd:N.Nodup
 fr:∀ a∈N,H a=none
 un:∀ a∈N,U a=none
theorem New.nil {H U:Hp} {As:Nat→List Addr}:New [] H U As:=⟨List.nodup_nil,fun _ h=>(nomatch h),fun _ h=>(nomatch h)⟩
section
variable (cm:Cm)
noncomputable def Cn (G H:Hp):D→V→Prop
 | .lst ds,v=>∃ a xs,v= .ref a∧H a=some (.lst xs)∧Dns cm G ds xs
 | .scr ds,v=>∃ a xs,v= .ref a∧SqF cm.K H a xs∧Dns cm G ds xs
 | .tup ds,v=>∃ a xs,v= .ref a∧H a=some (.tup xs)∧Dns cm G ds xs
 | .dK ks ds,v=>∃ (a:Addr) (kvs:List (Key×V)),v= .ref a∧H a=some (.dK kvs)∧kvs.map (·.1)=ks∧Dns cm G ds (kvs.map (·.2))
 | .dT ks ds,v=>∃ (a:Addr) (kvs:List (List Key×V)),v= .ref a∧H a=some (.dT kvs)∧kvs.map (·.1)=ks∧Dns cm G ds (kvs.map (·.2))
 | .obj c ns ds,v=>∃ (a dx:Addr) (fs:List (Str×V)),v= .ref a∧H a=some (.ins (cm c) dx fs)∧fs.map (·.1)=ns∧Dns cm G ds (fs.map (·.2))
 | d,v=>Dn cm G d v
noncomputable def KR (k:Kd):KT D V:=fun d v B U H _=>Dn cm (hp k B U H) d v
noncomputable def KC (k:Kd):KT D V:=fun d v B U H _=>Cn cm (hp k B U H) H d v
noncomputable def KO (s:Sh):KT D V:=fun d v B U H N=>Ow cm B H d s v N
noncomputable def KB:KT Bool Bool:=fun b c _ _ _ _=>b=c
noncomputable def KL (k:Kd):KT (List D) (List V):=fun d v B U H _=>Dns cm (hp k B U H) d v
noncomputable def Po {α β:Type} (K:KT α β) (E:XK) (ms:List Md) (B U:Hp) (As:Nat→List Addr) (σ:St) (H:Hp) (ρ:Env) (r:Res α) (Q:β→Hp→Prop):Prop :=
 match r with
 | .ok d=>∀ v B' U' H' N,Rel cm ms B' U' As σ H' ρ→Gw B U H B' U' H'→New N H U' As→K d v B' U' H' N→Q v H'
 | .exc c=>∀ B' U' H',Rel cm ms B' U' As σ H' ρ→Gw B U H B' U' H'→∀ oa,E (.ref (cm c)) oa H'
 | .bad=>False
noncomputable def PJ {α β:Type} (K:KT α β) (E:XK) (ms:List Md) (t:St→Hp→(β→Hp→Prop)→Prop) (m:Env→Res α):Prop :=
 ∀ B U As σ H ρ Q,Rel cm ms B U As σ H ρ→Po cm K E ms B U As σ H ρ (m ρ) Q→t σ H Q
end
section
variable {cm:Cm} {E:XK} {ms:List Md} {B U H:Hp} {As:Nat→List Addr} {σ:St} {ρ:Env}
theorem New.up {N:List Addr} {H1:Hp} (h:New N H1 U As) (s:Same H H1):New N H U As:=⟨h.nd,fun a ha=>s.free (h.fr a ha),h.un⟩
theorem Po.at {α β:Type} {K:KT α β} {B1 U1 H1:Hp} {r:Res α} {Q:β→Hp→Prop} (P:Po cm K E ms B U As σ H ρ r Q) (e:Gw B U H B1 U1 H1):Po cm K E ms B1 U1 As σ H1 ρ r Q:=by
 cases r with
 | ok d=>exact fun v B' U' H' N R' e' n' k=>P v B' U' H' N R' (e.trans e') (n'.up e.h) k
 | exc c=>exact fun B' U' H' R' e'=>P B' U' H' R' (e.trans e')
 | bad=>exact P
theorem PJ.bnd {α β γ δ:Type} {Ka:KT α β} {Kc:KT γ δ} {ta:St→Hp→(β→Hp→Prop)→Prop} {ma:Env→Res α} (ha:PJ cm Ka E ms ta ma) (R:Rel cm ms B U As σ H ρ) {k:α→Res γ} {Q:δ→Hp→Prop}
 (P:Po cm Kc E ms B U As σ H ρ ((ma ρ).bind k) Q) {body:β→Hp→Prop}
 (h:∀ x v B1 U1 H1 N,ma ρ= .ok x→Rel cm ms B1 U1 As σ H1 ρ→Gw B U H B1 U1 H1→New N H U1 As→Ka x v B1 U1 H1 N→Po cm Kc E ms B1 U1 As σ H1 ρ (k x) Q→body v H1):ta σ H body:=by
 refine ha B U As σ H ρ body R ?_
 cases e:ma ρ with
 | ok x =>
   rw [e] at P
   exact fun v B1 U1 H1 N R1 e1 n1 k1=>h x v B1 U1 H1 N e R1 e1 n1 k1 (Po.at (r:=k x) P e1)
 | exc c=>rw [e] at P; exact P
 | bad=>rw [e] at P; exact P
theorem ar6 {k:Kd} {B1 U1 H1:Hp} (e:Gw B U H B1 U1 H1):Same (hp k B U H) (hp k B1 U1 H1):=by
 cases k with
 | F=>exact e.b
 | U=>exact e.u
 | X=>exact e.h
theorem Cn.mono {G G' H H':Hp} (e:Same G G') (f:Same H H') {d:D} {v:V} (h:Cn cm G H d v):Cn cm G' H' d v:=by
 cases d with
 | lst ds=>obtain ⟨a,xs,r,h1,h2⟩:=h; exact ⟨a,xs,r,f _ _ h1,h2.mono e⟩
 | scr ds=>obtain ⟨a,xs,r,h1,h2⟩:=h; exact ⟨a,xs,r,h1.mono f,h2.mono e⟩
 | tup ds=>obtain ⟨a,xs,r,h1,h2⟩:=h; exact ⟨a,xs,r,f _ _ h1,h2.mono e⟩
 | dK ks ds=>obtain ⟨a,xs,r,h1,h2,h3⟩:=h; exact ⟨a,xs,r,f _ _ h1,h2,h3.mono e⟩
 | dT ks ds=>obtain ⟨a,xs,r,h1,h2,h3⟩:=h; exact ⟨a,xs,r,f _ _ h1,h2,h3.mono e⟩
 | obj c ns ds=>obtain ⟨a,dx,xs,r,h1,h2,h3⟩:=h; exact ⟨a,dx,xs,r,f _ _ h1,h2,h3.mono e⟩
 | non=>exact Dn.mono e h
 | bl _=>exact Dn.mono e h
 | int _=>exact Dn.mono e h
 | str _=>exact Dn.mono e h
 | ty _=>exact Dn.mono e h
theorem Dn.cn {G H:Hp} (f:Same G H) {d:D} {v:V} (h:Dn cm G d v):Cn cm G H d v:=by
 cases d with
 | lst ds=>rw [Dn] at h; obtain ⟨a,xs,r,h1,h2⟩:=h; exact ⟨a,xs,r,f _ _ h1,h2⟩
 | scr ds=>rw [Dn] at h; obtain ⟨a,xs,r,h1,h2⟩:=h; exact ⟨a,xs,r,h1.mono f,h2⟩
 | tup ds=>rw [Dn] at h; obtain ⟨a,xs,r,h1,h2⟩:=h; exact ⟨a,xs,r,f _ _ h1,h2⟩
 | dK ks ds=>rw [Dn] at h; obtain ⟨a,xs,r,h1,h2,h3⟩:=h; exact ⟨a,xs,r,f _ _ h1,h2,h3⟩
 | dT ks ds=>rw [Dn] at h; obtain ⟨a,xs,r,h1,h2,h3⟩:=h; exact ⟨a,xs,r,f _ _ h1,h2,h3⟩
 | obj c ns ds=>rw [Dn] at h; obtain ⟨a,dx,xs,r,h1,h2,h3⟩:=h; exact ⟨a,dx,xs,r,f _ _ h1,h2,h3⟩
 | non=>exact h
 | bl _=>exact h
 | int _=>exact h
 | str _=>exact h
 | ty _=>exact h
theorem Cn.dn {H:Hp} {d:D} {v:V} (h:Cn cm H H d v):Dn cm H d v:=by
 cases d with
 | lst ds=>obtain ⟨a,xs,r,h1,h2⟩:=h; rw [Dn]; exact ⟨a,xs,r,h1,h2⟩
 | scr ds=>obtain ⟨a,xs,r,h1,h2⟩:=h; rw [Dn]; exact ⟨a,xs,r,h1,h2⟩
 | tup ds=>obtain ⟨a,xs,r,h1,h2⟩:=h; rw [Dn]; exact ⟨a,xs,r,h1,h2⟩
 | dK ks ds=>obtain ⟨a,xs,r,h1,h2,h3⟩:=h; rw [Dn]; exact ⟨a,xs,r,h1,h2,h3⟩
 | dT ks ds=>obtain ⟨a,xs,r,h1,h2,h3⟩:=h; rw [Dn]; exact ⟨a,xs,r,h1,h2,h3⟩
 | obj c ns ds=>obtain ⟨a,dx,xs,r,h1,h2,h3⟩:=h; rw [Dn]; exact ⟨a,dx,xs,r,h1,h2,h3⟩
 | non=>exact h
 | bl _=>exact h
 | int _=>exact h
 | str _=>exact h
 | ty _=>exact h
theorem Rel.hp (R:Rel cm ms B U As σ H ρ) (k:Kd):Same (hp k B U H) H:=by
 cases k with
 | F=>exact R.bh
 | U=>exact R.uh
 | X=>exact Same.refl _
theorem PJ.imp {α β:Type} {K K':KT α β} {t:St→Hp→(β→Hp→Prop)→Prop} {m:Env→Res α} (h:PJ cm K E ms t m) (f:∀ B U As σ H ρ d v N,Rel cm ms B U As σ H ρ→K d v B U H N→K' d v B U H N):PJ cm K' E ms t m:=by
 intro B U As σ H ρ Q R P
 refine h B U As σ H ρ Q R ?_
 cases e:m ρ with
 | ok d=>rw [e] at P; exact fun v B' U' H' N R' e' n' k=>P v B' U' H' N R' e' n' (f _ _ _ _ _ _ _ _ _ R' k)
 | exc c=>rw [e] at P; exact P
 | bad=>rw [e] at P; exact P
section
variable {t:TE} {m:Env→Res D} {k:Kd} {s:Sh}
theorem fu (h:PJ cm (KR cm .F) E ms t m):PJ cm (KR cm .U) E ms t m:=h.imp fun _ _ _ _ _ _ _ _ _ R q=>Dn.mono R.bu q
theorem ux (h:PJ cm (KR cm .U) E ms t m):PJ cm (KR cm .X) E ms t m:=h.imp fun _ _ _ _ _ _ _ _ _ R q=>Dn.mono R.uh q
theorem fx (h:PJ cm (KR cm .F) E ms t m):PJ cm (KR cm .X) E ms t m:=ux (fu h)
theorem rc (h:PJ cm (KR cm k) E ms t m):PJ cm (KC cm k) E ms t m:=h.imp fun _ _ _ _ _ _ _ _ _ R q=>Dn.cn (R.hp k) q
theorem cx (h:PJ cm (KC cm k) E ms t m):PJ cm (KR cm .X) E ms t m:=h.imp fun _ _ _ _ _ _ _ _ _ R q=>Cn.dn (Cn.mono (R.hp k) (Same.refl _) q)
theorem Rel.freeze {A:List Addr} (R:Rel cm ms B U As σ H ρ) (h:∀ a∈A,U a=none∧∀ i,a∉As i):Rel cm ms (Mi.frz B H A) (Mi.frz U H A) As σ H ρ∧Ex B U (Mi.frz B H A) (Mi.frz U H A):=by
 refine ⟨R.grow (ag2 R.bh) (ag2 R.uh) (Same.refl _) (aT3 R.bu) (bg1 R.uh) fun i a ha=>?_,ag2 R.bh,ag2 R.uh,fun a o q=>?_⟩
 · unfold Mi.frz
   split
   · rename_i z; exact absurd ha ((h a z).2 i)
   · exact R.un i a ha
 · unfold Mi.frz at q
   split at q
   · rename_i z; exact .inr (.inl (h a z).1)
   · exact .inl q
theorem Rel.apart (R:Rel cm ms B U As σ H ρ) {N:List Addr} {U':Hp} (n:New N H U' As):∀ a∈N,∀ i,a∉As i:=fun a ha i=>R.fresh (n.fr a ha) i
theorem oF (h:PJ cm (KO cm s) E ms t m):PJ cm (KR cm .F) E ms t m:=by
 intro B U As σ H ρ Q R P
 refine h B U As σ H ρ Q R ?_
 cases e:m ρ with
 | ok d =>
   rw [e] at P
   intro v B' U' H' N R' e' n' ow
   obtain ⟨R2,e2⟩:=R'.freeze fun a ha=>⟨n'.un a ha,R.apart n' a ha⟩
   refine P v _ _ H' [] R2 ⟨e'.toEx.trans e2,e'.h,fun a o q=>?_⟩ New.nil (Ow.dn (ag2 R'.bh) (fun a ha o q=>?_) ow)
   · unfold Mi.frz at q
     split at q
     · rename_i z; exact .inr (.inl (n'.fr a z))
     · exact e'.fr a o q
   · unfold Mi.frz
     rw [if_pos ha]
     exact q
 | exc c=>rw [e] at P; exact P
 | bad=>rw [e] at P; exact P
theorem oc (h:PJ cm (KO cm (.ct .fz)) E ms t m):PJ cm (KC cm .F) E ms t m:=rc (oF h)
end
theorem au8 {α:Type} {l:List (Option α)} {i:Nat} {x:α} (h:rg l i=some x):l[i]?=some (some x):=by
 unfold rg at h
 cases e:l[i]? with
 | none=>rw [e] at h; cases h
 | some o=>rw [e] at h; exact congrArg some h
theorem aK2 {K:KT D V} {i:Nat} (f:∀ (B U:Hp) (A:List Addr) (H:Hp) (d:D) (v:V) (s:Option V),Same B U→Same U H→Lo cm B U H (ms.getD i .F) (some d) s A→s=some v→K d v B U H []):PJ cm K E ms (tVar i) (vr i):=by
 intro B U As σ H ρ Q R P
 unfold vr at P
 have l:=R.lo i
 cases e:rg ρ i with
 | none=>rw [e] at P; exact P.elim
 | some d =>
   rw [e] at P l
   obtain ⟨v,hv,q⟩:=id l
   exact ⟨v,au8 hv,P v B U H [] R (Gw.refl _ _ _) New.nil (f B U _ H d v _ R.bu R.uh l hv)⟩
theorem av8 {B U H:Hp} {m:Md} {d:D} {v:V} {s:Option V} {A:List Addr} (l:Lo cm B U H m (some d) s A) (hs:s=some v):LoV cm B U H m d v A:=by
 obtain ⟨w,hw,q⟩:=l
 rw [hs] at hw
 cases hw
 exact q
theorem xF {i:Nat} (hm:ms.getD i .F= .F):PJ cm (KR cm .F) E ms (tVar i) (vr i):=aK2 fun B U As H d v s _ _ l hs=>by
 rw [hm] at l
 exact (av8 l hs).1
theorem xR {i:Nat} (hm:ms.getD i .F= .R):PJ cm (KR cm .U) E ms (tVar i) (vr i):=aK2 fun B U As H d v s _ _ l hs=>by
 rw [hm] at l
 exact (av8 l hs).1
theorem Ow.cn {B H:Hp} {d:D} {v:V} {A:List Addr} (f:Same B H) (h:Ow cm B H d (.ct .fz) v A):Cn cm B H d v:=by
 cases d with
 | lst ds=>rw [Ow] at h; obtain ⟨a,xs,A',r,h1,h2,h3⟩:=h; exact ⟨a,xs,r,h1,(Ows.fz h3).1⟩
 | dK ks ds=>rw [Ow] at h; obtain ⟨a,xs,A',r,h1,h2,h3,h4⟩:=h; exact ⟨a,xs,r,h1,h2,(Ows.fz h4).1⟩
 | dT ks ds=>rw [Ow] at h; obtain ⟨a,xs,A',r,h1,h2,h3,h4⟩:=h; exact ⟨a,xs,r,h1,h2,(Ows.fz h4).1⟩
 | scr ds=>simp [Ow] at h
 | tup ds=>simp [Ow] at h
 | obj c ns ds=>simp [Ow] at h
 | non=>simp [Ow] at h
 | bl _=>simp [Ow] at h
 | int _=>simp [Ow] at h
 | str _=>simp [Ow] at h
 | ty _=>simp [Ow] at h
theorem xC {i:Nat} (hm:ms.getD i .F= .O (.ct .fz)):PJ cm (KC cm .F) E ms (tVar i) (vr i):=aK2 fun B U As H d v s b u l hs=>by
 rw [hm] at l
 exact Ow.cn (b.trans u) (av8 l hs)
theorem p_c {d:D} {v:V} (h:∀ G,Dn cm G d v):PJ cm (KR cm .F) E ms (tC v) (cst d):=fun B U As σ H ρ Q R P=>P v B U H [] R (Gw.refl _ _ _) New.nil (h _)
theorem pI {i:Int}:PJ cm (KR cm .F) E ms (tC (.int i)) (cst (.int i)):=p_c fun _=>by rw [Dn]
theorem pB {b:Bool}:PJ cm (KR cm .F) E ms (tC (.bl b)) (cst (.bl b)):=p_c fun _=>by rw [Dn]
theorem pS {x:Str}:PJ cm (KR cm .F) E ms (tC (.str x)) (cst (.str x)):=p_c fun _=>by rw [Dn]
theorem pN:PJ cm (KR cm .F) E ms (tC .non) (cst .non):=p_c fun _=>by rw [Dn]
theorem pT {n:String}:PJ cm (KR cm .F) E ms (tC (.ty n)) (cst (.ty n)):=p_c fun _=>by rw [Dn]
end
noncomputable def isNb (neg:Bool) (x y:D):Res D:=if aw3 y=true then .ok (.bl (neg.xor (aw3 x))) else .bad
noncomputable def tst (m:Env→Res D):Env→Res Bool:=fun ρ=>(m ρ).bind truB
noncomputable def andT (a b:Env→Res Bool):Env→Res Bool:=fun ρ=>(a ρ).bind fun c=>if c=true then b ρ else .ok false
noncomputable def orT (a b:Env→Res Bool):Env→Res Bool:=fun ρ=>(a ρ).bind fun c=>if c=true then .ok true else b ρ
noncomputable def notT (a:Env→Res Bool):Env→Res Bool:=fun ρ=>(a ρ).bind fun c=> .ok (!c)
section
variable {cm:Cm} {E:XK} {ms:List Md}
noncomputable def S2 (cm:Cm) (r:R2) (f:D→D→Res D):Prop:=∀ H x y v u,Dn cm H x v→Dn cm H y u→match f x y with
 | .ok d=>∃ w,(∀ G,Dn cm G d w)∧∀ Q:VK,Q w H→r v u H Q
 | .exc _=>False
 | .bad=>True
noncomputable def S1 (cm:Cm) (r:V→Hp→VK→Prop) (f:D→Res D):Prop:=∀ H x v,Dn cm H x v→match f x with
 | .ok d=>∃ w,(∀ G,Dn cm G d w)∧∀ Q:VK,Q w H→r v H Q
 | .exc _=>False
 | .bad=>True
section
variable {r:R2} {r1:V→Hp→VK→Prop} {rb:List V→Hp→VK→Prop} {f:D→D→Res D} {f1:D→Res D} {ta tb:TE} {ma mb:Env→Res D}
theorem p_op (h:S2 cm r f) (ha:PJ cm (KR cm .X) E ms ta ma) (hb:PJ cm (KR cm .X) E ms tb mb):PJ cm (KR cm .F) E ms (tOp r ta tb) (bn f ma mb):=by
 intro B U As σ H ρ Q R P
 refine ha.bnd R P fun x v B1 U1 H1 N1 _ R1 e1 n1 d1 P1=>hb.bnd R1 P1 fun y u B2 U2 H2 N2 _ R2 e2 n2 d2 P2=>?_
 have q:=h H2 x y v u (Dn.mono e2.h d1) d2
 cases e:f x y with
 | ok d =>
   rw [e] at q P2
   obtain ⟨w,hw,k⟩:=q
   exact k Q (P2 w B2 U2 H2 [] R2 (Gw.refl _ _ _) New.nil (hw _))
 | exc c=>rw [e] at q; exact q.elim
 | bad=>rw [e] at P2; exact P2.elim
theorem p_un (h:S1 cm r1 f1) (ha:PJ cm (KR cm .X) E ms ta ma):PJ cm (KR cm .F) E ms (tUn r1 ta) (un f1 ma):=by
 intro B U As σ H ρ Q R P
 refine ha.bnd R P fun x v B1 U1 H1 N1 _ R1 e1 n1 d1 P1=>?_
 have q:=h H1 x v d1
 cases e:f1 x with
 | ok d =>
   rw [e] at q P1
   obtain ⟨w,hw,k⟩:=q
   exact k Q (P1 w B1 U1 H1 [] R1 (Gw.refl _ _ _) New.nil (hw _))
 | exc c=>rw [e] at q; exact q.elim
 | bad=>rw [e] at P1; exact P1.elim
theorem av4 (h:S1 cm (fun v H Q=>rb [v] H Q) f1) (ha:PJ cm (KR cm .X) E ms ta ma):PJ cm (KR cm .F) E ms (tCB rb (ad7 ta tNil)) (un f1 ma):=p_un h ha
theorem aK3 (h:S2 cm (fun v u H Q=>rb [v,u] H Q) f) (ha:PJ cm (KR cm .X) E ms ta ma) (hb:PJ cm (KR cm .X) E ms tb mb):PJ cm (KR cm .F) E ms (tCB rb (ad7 ta (ad7 tb tNil))) (bn f ma mb):=p_op h ha hb
end
theorem S2.imp {r r':R2} {f:D→D→Res D} (h:S2 cm r f) (k:∀ x y H Q,r x y H Q→r' x y H Q):S2 cm r' f:=by
 intro H x y v u hx hy
 have q:=h H x y v u hx hy
 cases e:f x y with
 | ok d =>
   rw [e] at q
   obtain ⟨w,hw,q⟩:=q
   exact ⟨w,hw,fun Q z=>k _ _ _ _ (q Q z)⟩
 | exc c=>rw [e] at q; exact q
 | bad=>trivial
theorem sI0 {g:Int→Int→Int}:S2 cm (rI0 fun i j=> .int (g i j)) (iI g):=by
 intro H x y v u hx hy
 cases x with
 | int i =>
   cases y with
   | int j =>
     rw [Dn] at hx; rw [Dn] at hy
     subst hx hy
     exact ⟨.int (g i j),fun _=>by rw [Dn],fun Q q=>⟨i,j,rfl,rfl,q⟩⟩
   | _=>trivial
 | _=>trivial
theorem sB0 {g:Int→Int→Bool}:S2 cm (rI0 fun i j=> .bl (g i j)) (iB g):=by
 intro H x y v u hx hy
 cases x with
 | int i =>
   cases y with
   | int j =>
     rw [Dn] at hx; rw [Dn] at hy
     subst hx hy
     exact ⟨.bl (g i j),fun _=>by rw [Dn],fun Q q=>⟨i,j,rfl,rfl,q⟩⟩
   | _=>trivial
 | _=>trivial
theorem sIc {C:Int→Int→Prop} {c:Int→Int→Bool} {g:Int→Int→Int} (hc:∀ i j,c i j=true→C i j):S2 cm (rI C fun i j=> .int (g i j)) (iC c g):=by
 intro H x y v u hx hy
 cases x with
 | int i =>
   cases y with
   | int j =>
     rw [Dn] at hx; rw [Dn] at hy
     subst hx hy
     unfold iC
     dsimp only
     by_cases z:c i j=true
     · rw [if_pos z]
       exact ⟨.int (g i j),fun _=>by rw [Dn],fun Q q=>⟨i,j,rfl,rfl,hc i j z,q⟩⟩
     · rw [if_neg z]
       trivial
   | _=>trivial
 | _=>trivial
theorem aR3:S2 cm (rI0 fun i j=> .int (i + j)) addI:=sI0
theorem s_sub:S2 cm (rI0 fun i j=> .int (i - j)) subI:=sI0
theorem s_lt:S2 cm (rI0 fun i j=> .bl (decide (i < j))) ltI:=sB0
theorem s_gt:S2 cm (rI0 fun i j=> .bl (decide (j < i))) gtI:=sB0
theorem s_ge:S2 cm (rI0 fun i j=> .bl (decide (j≤i))) geI:=sB0
theorem s_mul:S2 cm (rI CMul fun i j=> .int (i * j)) mulI:=sIc fun _ _ h=>by simpa [CMul] using h
theorem au6:S2 cm (rI CDiv fun i j=> .int (i / j)) ar9:=sIc fun _ _ h=>by simpa [CDiv] using h
theorem aq8:S2 cm (rI (fun _ j=>0 < j) fun i j=> .int (i % j)) modI:=sIc fun _ _ h=>of_decide_eq_true h
theorem aI5:S1 cm (rU fun i=> .int (-i)) negI:=by
 intro H x v hx
 cases x with
 | int i =>
   rw [Dn] at hx
   subst hx
   exact ⟨.int (-i),fun _=>by rw [Dn],fun Q q=>⟨i,rfl,q⟩⟩
 | _=>trivial
theorem bj5 (neg:Bool):S2 cm (fun x y H Q=>scal x y=true∧Q (.bl (neg.xor (decide (x=y)))) H) (eqS neg):=by
 intro H x y v u hx hy
 cases x with
 | int i =>
   cases y with
   | int j =>
     rw [Dn] at hx; rw [Dn] at hy
     subst hx hy
     exact ⟨_,fun _=>by rw [Dn],fun Q q=>⟨rfl,by simpa using q⟩⟩
   | non =>
     rw [Dn] at hx; rw [Dn] at hy
     subst hx hy
     exact ⟨_,fun _=>by rw [Dn],fun Q q=>⟨rfl,by simpa using q⟩⟩
   | _=>trivial
 | str i =>
   cases y with
   | str j =>
     rw [Dn] at hx; rw [Dn] at hy
     subst hx hy
     exact ⟨_,fun _=>by rw [Dn],fun Q q=>⟨rfl,by simpa using q⟩⟩
   | _=>trivial
 | bl i =>
   cases y with
   | bl j =>
     rw [Dn] at hx; rw [Dn] at hy
     subst hx hy
     exact ⟨_,fun _=>by rw [Dn],fun Q q=>⟨rfl,by simpa using q⟩⟩
   | _=>trivial
 | non =>
   cases y with
   | int j =>
     rw [Dn] at hx; rw [Dn] at hy
     subst hx hy
     exact ⟨_,fun _=>by rw [Dn],fun Q q=>⟨rfl,by simpa using q⟩⟩
   | non =>
     rw [Dn] at hx; rw [Dn] at hy
     subst hx hy
     exact ⟨_,fun _=>by rw [Dn],fun Q q=>⟨rfl,by simpa using q⟩⟩
   | _=>trivial
 | _=>cases y <;> trivial
theorem s_eq:S2 cm rEq (eqS false):=(bj5 false).imp fun x y H Q h=>⟨h.1,by simpa using h.2⟩
theorem s_ne:S2 cm rNe (eqS true):=(bj5 true).imp fun x y H Q h=>⟨h.1,by simpa using h.2⟩
theorem Dn.non {G:Hp} {d:D} {v:V} (h:Dn cm G d v):decide (v= .non)=aw3 d:=by
 cases d with
 | non=>rw [Dn] at h; subst h; rfl
 | bl _=>rw [Dn] at h; subst h; rfl
 | int _=>rw [Dn] at h; subst h; rfl
 | str _=>rw [Dn] at h; subst h; rfl
 | ty _=>rw [Dn] at h; subst h; rfl
 | lst _=>rw [Dn] at h; obtain ⟨a,xs,e,_⟩:=h; subst e; rfl
 | scr _=>rw [Dn] at h; obtain ⟨a,xs,e,_⟩:=h; subst e; rfl
 | tup _=>rw [Dn] at h; obtain ⟨a,xs,e,_⟩:=h; subst e; rfl
 | dK _ _=>rw [Dn] at h; obtain ⟨a,xs,e,_⟩:=h; subst e; rfl
 | dT _ _=>rw [Dn] at h; obtain ⟨a,xs,e,_⟩:=h; subst e; rfl
 | obj _ _ _=>rw [Dn] at h; obtain ⟨a,dx,xs,e,_⟩:=h; subst e; rfl
theorem s_is:S2 cm (fun x y H Q=>y= .non∧Q (.bl (decide (x= .non))) H) (isNb false):=by
 intro H x y v u hx hy
 unfold isNb
 by_cases e:aw3 y=true
 · rw [if_pos e]
   have:decide (u= .non)=true:=by rw [Dn.non hy]; exact e
   refine ⟨_,fun _=>by rw [Dn],fun Q q=>⟨of_decide_eq_true this,?_⟩⟩
   rw [Dn.non hx]
   simpa using q
 · rw [if_neg e]
   trivial
theorem bj3:S2 cm (fun x y H Q=>y= .non∧Q (.bl (!decide (x= .non))) H) (isNb true):=by
 intro H x y v u hx hy
 unfold isNb
 by_cases e:aw3 y=true
 · rw [if_pos e]
   have:decide (u= .non)=true:=by rw [Dn.non hy]; exact e
   refine ⟨_,fun _=>by rw [Dn],fun Q q=>⟨of_decide_eq_true this,?_⟩⟩
   rw [Dn.non hx]
   simpa using q
 · rw [if_neg e]
   trivial
theorem au5:S1 cm (fun v H Q=>∃ p ys,[v]=[.ref p]∧(SqL cm.K H p ys∨SqT cm.K H p ys)∧Q (.int ys.length) H) lenD:=by
 intro H x v hx
 cases x with
 | lst ds =>
   rw [Dn] at hx
   obtain ⟨a,xs,rfl,h1,h2⟩:=hx
   exact ⟨.int ds.length,fun _=>by rw [Dn],fun Q q=>⟨a,xs,rfl,.inl (SqL.of h1),by rw [← h2.len]; exact q⟩⟩
 | scr ds =>
   rw [Dn] at hx
   obtain ⟨a,xs,rfl,h1,h2⟩:=hx
   exact ⟨.int ds.length,fun _=>by rw [Dn],fun Q q=>⟨a,xs,rfl,.inl h1.sq,by rw [← h2.len]; exact q⟩⟩
 | tup ds =>
   rw [Dn] at hx
   obtain ⟨a,xs,rfl,h1,h2⟩:=hx
   exact ⟨.int ds.length,fun _=>by rw [Dn],fun Q q=>⟨a,xs,rfl,.inr (SqT.of h1),by rw [← h2.len]; exact q⟩⟩
 | _=>trivial
theorem p_not {ta:TE} {ma:Env→Res D} (ha:PJ cm (KR cm .X) E ms ta ma):PJ cm (KR cm .F) E ms (bi5 ta) (un notB ma):=by
 intro B U As σ H ρ Q R P
 refine ha.bnd R P fun x v B1 U1 H1 N1 _ R1 e1 n1 d1 P1=>?_
 cases x with
 | bl b =>
   have d1:Dn cm H1 (.bl b) v:=d1
   rw [Dn] at d1
   exact ⟨b,d1,P1 _ B1 U1 H1 [] R1 (Gw.refl _ _ _) New.nil (show Dn cm _ (.bl (!b)) _ by rw [Dn])⟩
 | _=>exact P1.elim
theorem bk1 {t:TE} {m:Env→Res D} (h:PJ cm (KR cm .X) E ms t m):PJ cm KB E ms (fun σ H Q=>t σ H fun x H1=>∃ c,x= .bl c∧Q c H1) (tst m):=by
 intro B U As σ H ρ Q R P
 refine h.bnd R P fun x v B1 U1 H1 N1 _ R1 e1 n1 d1 P1=>?_
 cases x with
 | bl b =>
   have d1:Dn cm H1 (.bl b) v:=d1
   rw [Dn] at d1
   exact ⟨b,d1,P1 _ B1 U1 H1 [] R1 (Gw.refl _ _ _) New.nil rfl⟩
 | _=>exact P1.elim
theorem pt_B {t:TE} {m:Env→Res D} (h:PJ cm (KR cm .X) E ms t m):PJ cm KB E ms (tB t) (tst m):=bk1 h
theorem pt_T {t:TE} {m:Env→Res D} (h:PJ cm (KR cm .X) E ms t m):PJ cm KB E ms (bi4 t) (tst m):=bk1 h
theorem aW4 {t u:TT} {m n:Env→Res Bool} (h:PJ cm KB E ms t m) (k:PJ cm KB E ms u n):PJ cm KB E ms (tAnd t u) (andT m n):=by
 intro B U As σ H ρ Q R P
 refine h.bnd R P fun x v B1 U1 H1 N1 _ R1 e1 n1 d1 P1=>?_
 cases d1
 cases x with
 | true=>exact k B1 U1 As σ H1 ρ Q R1 P1
 | false=>exact P1 _ B1 U1 H1 [] R1 (Gw.refl _ _ _) New.nil rfl
theorem aE6 {t u:TT} {m n:Env→Res Bool} (h:PJ cm KB E ms t m) (k:PJ cm KB E ms u n):PJ cm KB E ms (tOr t u) (orT m n):=by
 intro B U As σ H ρ Q R P
 refine h.bnd R P fun x v B1 U1 H1 N1 _ R1 e1 n1 d1 P1=>?_
 cases d1
 cases x with
 | false=>exact k B1 U1 As σ H1 ρ Q R1 P1
 | true=>exact P1 _ B1 U1 H1 [] R1 (Gw.refl _ _ _) New.nil rfl
theorem al4 {t:TT} {m:Env→Res Bool} (h:PJ cm KB E ms t m):PJ cm KB E ms (tNot t) (notT m):=by
 intro B U As σ H ρ Q R P
 refine h.bnd R P fun x v B1 U1 H1 N1 _ R1 e1 n1 d1 P1=>?_
 cases d1
 exact P1 _ B1 U1 H1 [] R1 (Gw.refl _ _ _) New.nil rfl
theorem bk5 {k:Kd} {ta tb:TE} {ma mb:Env→Res D} (ha:PJ cm (KR cm .X) E ms ta ma) (hb:PJ cm (KR cm k) E ms tb mb):PJ cm (KR cm k) E ms (bi7 ta tb) (andD ma mb):=by
 intro B U As σ H ρ Q R P
 unfold andD at P
 have P':Po cm (KR cm k) E ms B U As σ H ρ ((ma ρ).bind fun x=>(truB x).bind fun c=>if c=true then mb ρ else .ok (.bl false)) Q:=by
  cases e:ma ρ <;> (rw [e] at P; exact P)
 refine ha.bnd R P' fun x v B1 U1 H1 N1 _ R1 e1 n1 d1 P1=>?_
 cases x with
 | bl b =>
   have d1:Dn cm H1 (.bl b) v:=d1
   rw [Dn] at d1
   refine ⟨b,d1,?_⟩
   cases b with
   | true=>exact hb B1 U1 As σ H1 ρ Q R1 P1
   | false=>exact P1 _ B1 U1 H1 [] R1 (Gw.refl _ _ _) New.nil (show Dn cm _ (.bl false) _ by rw [Dn])
 | _=>exact P1.elim
theorem p_ite {K:KT D V} {t:TT} {ta tb:TE} {m:Env→Res Bool} {ma mb:Env→Res D} (h:PJ cm KB E ms t m) (ha:PJ cm K E ms ta ma) (hb:PJ cm K E ms tb mb):PJ cm K E ms (tIf t ta tb) (iteD m ma mb):=by
 intro B U As σ H ρ Q R P
 refine h.bnd R P fun x v B1 U1 H1 N1 _ R1 e1 n1 d1 P1=>?_
 cases d1
 cases x with
 | true=>exact ha B1 U1 As σ H1 ρ Q R1 P1
 | false=>exact hb B1 U1 As σ H1 ρ Q R1 P1
end
section
variable {cm:Cm} {E:XK} {ms:List Md} {K:PySem.W.Frag}
theorem am0 {n:Nat} (h:n≤ab4):n < sizeLine:=by
 have:=sizeLine_eq
 unfold ab4 at h
 omega
theorem aP8 {G:Hp} {ds:List D} {xs:List V} {i:Int} {d:D} (h:Dns cm G ds xs) (e:atI ds i=some d):∃ v,atI xs i=some v∧Dn cm G d v:=by
 unfold atI at e ⊢
 rw [← h.len]
 cases q:ixN ds.length i with
 | none=>rw [q] at e; cases e
 | some j =>
   rw [q] at e
   exact h.get e
theorem al8 {k:Kd} {ta tb:TE} {ma mb:Env→Res D} (ha:PJ cm (KC cm k) E ms ta ma) (hb:PJ cm (KR cm .X) E ms tb mb):PJ cm (KR cm k) E ms (tOp (rIxL cm.K) ta tb) (bn ixL ma mb):=by
 intro B U As σ H ρ Q R P
 refine ha.bnd R P fun x v B1 U1 H1 N1 _ R1 e1 n1 d1 P1=>hb.bnd R1 P1 fun y u B2 U2 H2 N2 _ R2 e2 n2 d2 P2=>?_
 have c:=Cn.mono (ar6 e2) e2.h d1
 have d2:Dn cm H2 y u:=d2
 have fin:∀ (ds:List D) (i:Int),Po cm (KR cm k) E ms B2 U2 As σ H2 ρ (atD ds i) Q→∀ xs,Dns cm (hp k B2 U2 H2) ds xs→∃ w,atI xs i=some w∧Q w H2:=fun ds i P3 xs h=>by
  unfold atD at P3
  cases q:atI ds i with
  | none=>rw [q] at P3; exact P3.elim
  | some d =>
    rw [q] at P3
    obtain ⟨w,hw,dw⟩:=aP8 h q
    exact ⟨w,hw,P3 w B2 U2 H2 [] R2 (Gw.refl _ _ _) New.nil dw⟩
 cases x with
 | lst ds =>
   cases y with
   | int i =>
     rw [Dn] at d2
     obtain ⟨a,xs,r,h1,h2⟩:=c
     obtain ⟨w,hw,q⟩:=fin ds i P2 xs h2
     exact ⟨a,xs,i,w,r,d2,SqL.of h1,hw,q⟩
   | _=>exact P2.elim
 | scr ds =>
   cases y with
   | int i =>
     rw [Dn] at d2
     obtain ⟨a,xs,r,h1,h2⟩:=c
     obtain ⟨w,hw,q⟩:=fin ds i P2 xs h2
     exact ⟨a,xs,i,w,r,d2,h1.sq,hw,q⟩
   | _=>exact P2.elim
 | _=>cases y <;> exact P2.elim
theorem bd2 {k:Kd} {ta tb:TE} {ma mb:Env→Res D} (ha:PJ cm (KC cm k) E ms ta ma) (hb:PJ cm (KR cm .X) E ms tb mb):PJ cm (KR cm k) E ms (tOp (rIxT K) ta tb) (bn ixT ma mb):=by
 intro B U As σ H ρ Q R P
 refine ha.bnd R P fun x v B1 U1 H1 N1 _ R1 e1 n1 d1 P1=>hb.bnd R1 P1 fun y u B2 U2 H2 N2 _ R2 e2 n2 d2 P2=>?_
 have c:=Cn.mono (ar6 e2) e2.h d1
 have d2:Dn cm H2 y u:=d2
 cases x with
 | tup ds =>
   cases y with
   | int i =>
     rw [Dn] at d2
     obtain ⟨a,xs,r,h1,h2⟩:=c
     have P3:Po cm (KR cm k) E ms B2 U2 As σ H2 ρ (atD ds i) Q:=P2
     unfold atD at P3
     cases q:atI ds i with
     | none=>rw [q] at P3; exact P3.elim
     | some d =>
       rw [q] at P3
       obtain ⟨w,hw,dw⟩:=aP8 h2 q
       exact ⟨a,xs,i,w,r,d2,SqT.of h1,hw,P3 w B2 U2 H2 [] R2 (Gw.refl _ _ _) New.nil dw⟩
   | _=>exact P2.elim
 | _=>cases y <;> exact P2.elim
theorem am6 {k:Kd}:PJ cm (KL cm k) E ms tNil esN:=fun B U As σ H ρ Q R P=>P [] B U H [] R (Gw.refl _ _ _) New.nil (show Dns cm _ [] [] by rw [Dns])
theorem ah2 {k:Kd} {ta:TE} {tr:TA} {ma:Env→Res D} {mr:Env→Res (List D)} (ha:PJ cm (KR cm k) E ms ta ma) (hr:PJ cm (KL cm k) E ms tr mr):PJ cm (KL cm k) E ms (ad7 ta tr) (esC ma mr):=by
 intro B U As σ H ρ Q R P
 refine ha.bnd R P fun x v B1 U1 H1 N1 _ R1 e1 n1 d1 P1=>hr.bnd R1 P1 fun y u B2 U2 H2 N2 _ R2 e2 n2 d2 P2=>?_
 refine P2 (v :: u) B2 U2 H2 [] R2 (Gw.refl _ _ _) New.nil ?_
 show Dns cm _ (x :: y) (v :: u)
 rw [Dns]
 exact ⟨v,u,rfl,Dn.mono (ar6 e2) d1,d2⟩
variable {B U H:Hp} {As:Nat→List Addr} {σ:St} {ρ:Env}
theorem Gw.newO (R:Rel cm ms B U As σ H ρ) {p:Addr} {o:HO} (h:H p=none):Gw B U H B U (upd H p o):=⟨Ex.refl _ _,Gd.ac8 h,fun _ _ q=> .inl q⟩
theorem Gw.newB (R:Rel cm ms B U As σ H ρ) {p:Addr} {o:HO} (h:H p=none):Gw B U H (upd B p o) (upd U p o) (upd H p o):=⟨Ex.newB R h,Gd.ac8 h,fun a u q=>by
 by_cases z:a=p
 · subst z; exact .inr (.inl h)
 · rw [ab7 z] at q; exact .inl q⟩
theorem New.one (R:Rel cm ms B U As σ H ρ) {p:Addr} (h:H p=none):New [p] H U As:=⟨by simp,fun a ha=>by rw [List.mem_singleton.mp ha]; exact h,fun a ha=>by rw [List.mem_singleton.mp ha]; exact R.uh.free h⟩
theorem ar5 (R:Rel cm ms B U As σ H ρ) {ds:List D} {xs:List V} {Q:VK} (P:Po cm (KO cm (.ct .fz)) E ms B U As σ H ρ (.ok (.lst ds)) Q) (h:Dns cm B ds xs) {p:Addr} (hp:H p=none):Q (.ref p) (upd H p (.lst xs)) :=
 P (.ref p) B U _ [p] (R.new hp) (Gw.newO R hp) (New.one R hp) (by
  show Ow cm B _ (.lst ds) (.ct .fz) (.ref p) [p]
  rw [Ow]
  exact ⟨p,xs,[],rfl,ad5,rfl,Ows.of h⟩)
theorem aS1 (R:Rel cm ms B U As σ H ρ) {ds:List D} {xs:List V} {Q:VK} (P:Po cm (KR cm .F) E ms B U As σ H ρ (.ok (.tup ds)) Q) (h:Dns cm B ds xs) {p:Addr} (hp:H p=none):Q (.ref p) (upd H p (.tup xs)) :=
 P (.ref p) _ _ _ [] (R.newB hp) (Gw.newB R hp) New.nil (by
  show Dn cm (upd B p (.tup xs)) (.tup ds) (.ref p)
  rw [Dn]
  exact ⟨p,xs,rfl,ad5,h.mono (Gd.ac8 (R.bh.free hp))⟩)
section
variable {t:TA} {m:Env→Res (List D)}
theorem aA1 (h:PJ cm (KL cm .F) E ms t m):PJ cm (KO cm (.ct .fz)) E ms (tLst t) (mkL m):=by
 intro B U As σ H ρ Q R P
 refine h.bnd R P fun ds xs B1 U1 H1 N1 _ R1 e1 n1 d1 P1=>?_
 by_cases z:ds.length≤ab4
 · rw [if_pos z] at P1
   have d1:Dns cm B1 ds xs:=d1
   exact ⟨Nat.le_of_lt (am0 (by rw [← d1.len]; exact z)),fun p hp=>ar5 R1 P1 d1 hp⟩
 · rw [if_neg z] at P1
   exact P1.elim
end
theorem bq4 {G:Hp} {x y:D} {v u:V} (hx:Cn cm G H x v) (hy:Cn cm G H y u) {C:Res D→Prop} (hb:C .bad→False) (P:C (catL x y)) {Q:VK}
 (h:∀ ds es xs ys,Dns cm G (ds ++ es) (xs ++ ys)→C (.ok (.lst (ds ++ es)))→∀ p,H p=none→Q (.ref p) (upd H p (.lst (xs ++ ys)))):rCat v u H Q:=by
 cases x with
 | lst ds =>
   cases y with
   | lst es =>
     obtain ⟨a,xs,r,h1,h2⟩:=hx
     obtain ⟨b,ys,r',h3,h4⟩:=hy
     have P':C (if ds.length + es.length≤ab4 then .ok (.lst (ds ++ es)) else .bad):=P
     by_cases z:ds.length + es.length≤ab4
     · rw [if_pos z] at P'
       exact ⟨a,b,xs,ys,r,r',h1,h3,Nat.le_of_lt (am0 (by rw [← h2.len,← h4.len]; exact z)),h ds es xs ys (h2.append h4) P'⟩
     · rw [if_neg z] at P'
       exact (hb P').elim
   | _=>exact (hb P).elim
 | _=>cases y <;> exact (hb P).elim
theorem p_cat {ta tb:TE} {ma mb:Env→Res D} (ha:PJ cm (KC cm .F) E ms ta ma) (hb:PJ cm (KC cm .F) E ms tb mb):PJ cm (KO cm (.ct .fz)) E ms (tOp rCat ta tb) (bn catL ma mb):=by
 intro B U As σ H ρ Q R P
 refine ha.bnd R P fun x v B1 U1 H1 N1 _ R1 e1 n1 d1 P1=>hb.bnd R1 P1 fun y u B2 U2 H2 N2 _ R2 e2 n2 d2 P2=>?_
 exact bq4 (G:=B2) (Cn.mono e2.b e2.h d1) d2 (C:=fun r=>Po cm (KO cm (.ct .fz)) E ms B2 U2 As σ H2 ρ r Q) (fun h=>h) P2 fun ds es xs ys h P3 p hp=>ar5 R2 P3 h hp
theorem aL6 {G:Hp} {x:D} {v:V} (hx:Cn cm G H x v) {C:Res D→Prop} (hb:C .bad→False) (P:C (aD6 x)) {Q:VK}
 (h:∀ ds xs,Dns cm G ds xs→C (.ok (.lst ds))→∀ p,H p=none→Q (.ref p) (upd H p (.lst xs))):∃ p ys,[v]=[.ref p]∧(SqL cm.K H p ys∨SqT cm.K H p ys)∧∀ l,H l=none→Q (.ref l) (upd H l (.lst ys)):=by
 cases x with
 | lst ds =>
   obtain ⟨a,xs,r,h1,h2⟩:=hx
   exact ⟨a,xs,by rw [r],.inl (SqL.of h1),h ds xs h2 P⟩
 | scr ds =>
   obtain ⟨a,xs,r,h1,h2⟩:=hx
   exact ⟨a,xs,by rw [r],.inl h1.sq,h ds xs h2 P⟩
 | tup ds =>
   obtain ⟨a,xs,r,h1,h2⟩:=hx
   exact ⟨a,xs,by rw [r],.inr (SqT.of h1),h ds xs h2 P⟩
 | _=>exact (hb P).elim
theorem bk4 {ta:TE} {ma:Env→Res D} (ha:PJ cm (KC cm .F) E ms ta ma) :
 PJ cm (KO cm (.ct .fz)) E ms (tCB (fun xs H Q=>∃ p ys,xs=[.ref p]∧(SqL cm.K H p ys∨SqT cm.K H p ys)∧∀ l,H l=none→Q (.ref l) (upd H l (.lst ys))) (ad7 ta tNil)) (un aD6 ma):=by
 intro B U As σ H ρ Q R P
 refine ha.bnd R P fun x v B1 U1 H1 N1 _ R1 e1 n1 d1 P1=>?_
 exact aL6 (G:=B1) d1 (C:=fun r=>Po cm (KO cm (.ct .fz)) E ms B1 U1 As σ H1 ρ r Q) (fun h=>h) P1 fun ds xs h P3 p hp=>ar5 R1 P3 h hp
theorem IsD.mono {H':Hp} {a:Addr} (h:IsD H a) (e:Same H H'):IsD H' a:=by
 rcases h with ⟨kvs,h | ⟨o,h⟩⟩ | ⟨kvs,h | ⟨o,h⟩⟩
 · exact .inl ⟨kvs,.inl (e _ _ h)⟩
 · exact .inl ⟨kvs,.inr ⟨o,e _ _ h⟩⟩
 · exact .inr ⟨kvs,.inl (e _ _ h)⟩
 · exact .inr ⟨kvs,.inr ⟨o,e _ _ h⟩⟩
end
section
variable {cm:Cm} {E:XK} {ms:List Md} {K:PySem.W.Frag} {B U H:Hp} {As:Nat→List Addr} {σ:St} {ρ:Env}
theorem Owf.get {B H:Hp} {sh:List (Str×Sh)}:∀ {fs:List (Str×V)} {ds:List D} {A:List Addr} {f:Str} {d:D},Owf cm B H ds (fs.map (·.1)) sh (fs.map (·.2)) A→bf1 (fs.map (·.1)) ds f=some d →
 ∃ v A1,fs.lookup f=some v∧Ow cm B H d ((sh.lookup f).getD .fz) v A1∧∀ a∈A1,a∈A
 | [],ds,A,f,d,h,e=>by cases ds <;> cases e
 | p :: fs,ds,A,f,d,h,e=>by
   cases ds with
   | nil=>cases e
   | cons d0 ds =>
     rw [List.map_cons,List.map_cons,Owf] at h
     obtain ⟨n,ns',x,r,A1,A2,hn,h0,h1,h2,h3⟩:=h
     cases hn
     cases h0
     subst h1
     rw [List.map_cons] at e
     unfold bf1 at e
     by_cases q:p.1=f
     · rw [if_pos q] at e
       cases e
       rw [q] at h2
       exact ⟨p.2,A1,by rw [List.lookup_cons,← q,beq_self_eq_true],h2,fun a ha=>List.mem_append_left _ ha⟩
     · rw [if_neg q] at e
       obtain ⟨v,A3,hv,ow,hA⟩:=Owf.get h3 e
       have:(f == p.1)=false:=beq_eq_false_iff_ne.mpr fun z=>q z.symm
       exact ⟨v,A3,by rw [List.lookup_cons,this]; exact hv,ow,fun a ha=>List.mem_append_right _ (hA a ha)⟩
noncomputable def ItIs (J:It) (H:Hp) (vs:List V):Prop:=∀ H2,Same H H2→(∀ i,vs.length≤i→J.stop i H2)∧(∀ i,i < vs.length→J.go i H2)∧∀ i x H',i < vs.length→J.yld i H2 x H'→H'=H2∧vs[i]?=some x
noncomputable def KI (cm:Cm) (k g:Kd):KT (List D) It:=fun ds J B U H _=>∃ vs,ItIs J (hp g B U H) vs∧Dns cm (hp k B U H) ds vs
theorem ah9 {a:Addr} {xs:List V} (h:H a=some (.lst xs)∨SqF K H a xs):ItIs (Itl K a) H xs:=fun H2 s=>by
 have q:SqL K H2 a xs:=by
  rcases h with h | h
  · exact .inl (.inl (s _ _ h))
  · exact (h.mono s).sq
 exact ⟨fun i hi=>⟨xs,q,hi⟩,fun i hi=>⟨xs,xs[i],q,List.getElem?_eq_getElem hi⟩,fun i x H' hi y=>⟨y.1,y.2 xs q⟩⟩
theorem aS9 (lo:Int) (n:Nat):ItIs (Itr lo n) H ((List.range n).map fun i:Nat=>V.int (lo + i)):=fun H2 s=>by
 have hl:((List.range n).map fun i:Nat=>V.int (lo + i)).length=n:=by rw [List.length_map,List.length_range]
 refine ⟨fun i hi=>by rw [hl] at hi; exact hi,fun i hi=>by rw [hl] at hi; exact hi,fun i x H' hi y=>⟨y.1,?_⟩⟩
 rw [hl] at hi
 rw [List.getElem?_map,List.getElem?_range hi,y.2]
 rfl
theorem aN1 {G:Hp} (lo:Int):∀ n:Nat,Dns cm G ((List.range n).map fun i:Nat=>D.int (lo + i)) ((List.range n).map fun i:Nat=>V.int (lo + i))
 | 0=>by rw [List.range_zero,List.map_nil,List.map_nil,Dns]
 | n + 1=>by
   rw [List.range_succ,List.map_append,List.map_append]
   exact (aN1 lo n).append (Dns.one (by rw [Dn]))
theorem bo7 {k:Kd} {ta:TE} {ma:Env→Res D} (ha:PJ cm (KC cm k) E ms ta ma):PJ cm (KI cm k .X) E ms (aM5 cm.K ta) (srcL ma):=by
 intro B U As σ H ρ Q R P
 refine ha.bnd R P fun x v B1 U1 H1 N1 _ R1 e1 n1 d1 P1=>?_
 cases x with
 | lst ds =>
   obtain ⟨a,xs,r,h1,h2⟩:=d1
   exact ⟨a,r,⟨xs,SqL.of h1⟩,P1 _ B1 U1 H1 [] R1 (Gw.refl _ _ _) New.nil ⟨xs,ah9 (.inl h1),h2⟩⟩
 | scr ds =>
   obtain ⟨a,xs,r,h1,h2⟩:=d1
   exact ⟨a,r,⟨xs,h1.sq⟩,P1 _ B1 U1 H1 [] R1 (Gw.refl _ _ _) New.nil ⟨xs,ah9 (.inr h1),h2⟩⟩
 | _=>exact P1.elim
theorem aM4 {k:Kd} {ta:TE} {ma:Env→Res D} (ha:PJ cm (KR cm k) E ms ta ma):PJ cm (KI cm k k) E ms (aM5 cm.K ta) (srcL ma):=by
 intro B U As σ H ρ Q R P
 refine ha.bnd R P fun x v B1 U1 H1 N1 _ R1 e1 n1 d1 P1=>?_
 have d1:Dn cm (hp k B1 U1 H1) x v:=d1
 cases x with
 | lst ds =>
   rw [Dn] at d1
   obtain ⟨a,xs,r,h1,h2⟩:=d1
   exact ⟨a,r,⟨xs,SqL.of (R1.hp k _ _ h1)⟩,P1 _ B1 U1 H1 [] R1 (Gw.refl _ _ _) New.nil ⟨xs,ah9 (.inl h1),h2⟩⟩
 | scr ds =>
   rw [Dn] at d1
   obtain ⟨a,xs,r,h1,h2⟩:=d1
   exact ⟨a,r,⟨xs,(h1.mono (R1.hp k)).sq⟩,P1 _ B1 U1 H1 [] R1 (Gw.refl _ _ _) New.nil ⟨xs,ah9 (.inr h1),h2⟩⟩
 | _=>exact P1.elim
theorem i_r2 {g:Kd} {ta tb:TE} {ma mb:Env→Res D} (ha:PJ cm (KR cm .X) E ms ta ma) (hb:PJ cm (KR cm .X) E ms tb mb):PJ cm (KI cm .F g) E ms (bo8 (ad7 ta (ad7 tb tNil))) (srcR ma mb):=by
 intro B U As σ H ρ Q R P
 refine ha.bnd R P fun x v B1 U1 H1 N1 _ R1 e1 n1 d1 P1=>hb.bnd R1 P1 fun y u B2 U2 H2 N2 _ R2 e2 n2 d2 P2=>?_
 have d1:Dn cm H1 x v:=d1
 have d2:Dn cm H2 y u:=d2
 cases x with
 | int i =>
   cases y with
   | int j =>
     rw [Dn] at d1; rw [Dn] at d2
     subst d1 d2
     have P2:Po cm (KI cm .F g) E ms B2 U2 As σ H2 ρ (if -(2 ^ 62)≤i∧i < 2 ^ 62∧-(2 ^ 62)≤j∧j < 2 ^ 62 then .ok (rng i j) else .bad) Q:=P2
     by_cases z:-(2 ^ 62)≤i∧i < 2 ^ 62∧-(2 ^ 62)≤j∧j < 2 ^ 62
     · rw [if_pos z] at P2
       exact ⟨i,j,rfl,z,P2 _ B2 U2 H2 [] R2 (Gw.refl _ _ _) New.nil ⟨_,aS9 i _,aN1 i _⟩⟩
     · rw [if_neg z] at P2
       exact P2.elim
   | _=>exact P2.elim
 | _=>cases y <;> exact P2.elim
theorem aI8 {α:Type} {l:List (Option α)} {x:Option α} {i:Nat}:rg (x :: l) (i + 1)=rg l i:=by unfold rg; rw [List.getElem?_cons_succ]
theorem aI7 {α:Type} {l:List (Option α)} {x:Option α}:rg (x :: l) 0=x:=by unfold rg; rw [List.getElem?_cons_zero]; rfl
theorem aV2 {α:Type} {l:List (Option α)} {ix:List Nat} {j:Nat}:rg (ix.map fun i=>rg l i) j=match ix[j]? with | some i=>rg l i | none=>none:=by
 unfold rg
 rw [List.getElem?_map]
 cases ix[j]? <;> rfl
theorem aD4:∀ {l:List Nat} {i j:Nat},l.Nodup→(h1:i < l.length)→(h2:j < l.length)→l[i]=l[j]→i=j
 | [],_,_,_,h1,_,_=>by simp at h1
 | x :: l,0,0,_,_,_,_=>rfl
 | x :: l,0,j + 1,nd,h1,h2,e=>by
   have h3:j < l.length:=by simpa using h2
   exact absurd (show x∈l from by rw [show x=l[j] from e]; exact List.getElem_mem h3) (List.nodup_cons.mp nd).1
 | x :: l,i + 1,0,nd,h1,h2,e=>by
   have h3:i < l.length:=by simpa using h1
   exact absurd (show x∈l from by rw [show x=l[i] from e.symm]; exact List.getElem_mem h3) (List.nodup_cons.mp nd).1
 | x :: l,i + 1,j + 1,nd,h1,h2,e=>by
   rw [aD4 (List.nodup_cons.mp nd).2 (by simpa using h1) (by simpa using h2) e]
noncomputable def asIn (As:Nat→List Addr) (ix:List Nat):Nat→List Addr
 | 0=>[]
 | j + 1=>match ix[j]? with | some i=>As i | none=>[]
noncomputable def msIn (m:Md) (ms:List Md) (ix:List Nat):List Md:=m :: ix.map fun i=>ms.getD i .F
theorem Rel.inner (R:Rel cm ms B U As σ H ρ) {ix:List Nat} (hix:ix.Nodup) {m:Md} {d:D} {v:V} (hd:Lo cm B U H m (some d) (some v) []) :
 Rel cm (msIn m ms ix) B U (asIn As ix) (some v :: capV σ ix) H (some d :: capD ρ ix) where
 bu:=R.bu
 uh:=R.uh
 nd:=fun i=>by
  cases i with
  | zero=>exact List.nodup_nil
  | succ j =>
    show (match ix[j]? with | some i=>As i | none=>[]).Nodup
    cases ix[j]? with
    | none=>exact List.nodup_nil
    | some i=>exact R.nd i
 dj:=fun i j a hne ha hb=>by
  cases i with
  | zero=>cases ha
  | succ i =>
    cases j with
    | zero=>cases hb
    | succ j =>
      have ha:a∈(match ix[i]? with | some i=>As i | none=>[]):=ha
      have hb:a∈(match ix[j]? with | some i=>As i | none=>[]):=hb
      cases ei:ix[i]? with
      | none=>rw [ei] at ha; cases ha
      | some x =>
        cases ej:ix[j]? with
        | none=>rw [ej] at hb; cases hb
        | some y =>
          rw [ei] at ha
          rw [ej] at hb
          by_cases e:x=y
          · subst e
            obtain ⟨h1,e1⟩:=List.getElem?_eq_some_iff.mp ei
            obtain ⟨h2,e2⟩:=List.getElem?_eq_some_iff.mp ej
            have:=aD4 hix h1 h2 (e1.trans e2.symm)
            exact hne (by rw [this])
          · exact R.dj x y a e ha hb
 tb:=R.tb
 un:=fun i a ha=>by
  cases i with
  | zero=>cases ha
  | succ i =>
    have ha:a∈(match ix[i]? with | some i=>As i | none=>[]):=ha
    cases ei:ix[i]? with
    | none=>rw [ei] at ha; cases ha
    | some x=>rw [ei] at ha; exact R.un x a ha
 lo:=fun i=>by
  cases i with
  | zero =>
    rw [aI7,aI7]
    exact hd
  | succ j =>
    rw [aI8,aI8]
    unfold capV capD
    have e1:rg (ix.map fun j=>rg ρ j) j=match ix[j]? with | some i=>rg ρ i | none=>none:=aV2
    have e2:rg (ix.map fun j=>(σ[j]?).join) j=match ix[j]? with | some i=>rg σ i | none=>none:=aV2
    rw [e1,e2]
    show Lo cm B U H ((m :: ix.map fun i=>ms.getD i .F).getD (j + 1) .F) _ _ (match ix[j]? with | some i=>As i | none=>[])
    rw [List.getD_cons_succ,List.getD_eq_getElem?_getD,List.getElem?_map]
    cases ix[j]? with
    | none=>exact rfl
    | some i=>exact R.lo i
 len:=by
  rw [List.length_cons,List.length_cons,capV,capD,List.length_map,List.length_map]
theorem Rel.poke (R:Rel cm ms B U As σ H ρ) {p:Addr} {o:HO} (hu:U p=none) (ha:∀ i,p∉As i):Rel cm ms B U As σ (upd H p o) ρ :=
 ⟨R.bu,fun a u q=>by rw [ab7 (aa7 q hu)]; exact R.uh a u q,R.nd,R.dj,R.un,fun i=>(R.lo i).mono (Same.refl _) (Same.refl _) fun a h=>ab7 (fun z:a=p=>ha i (z ▸ h)),R.len,R.tb⟩
theorem aw9 {α:Type} {l:List α} {i:Nat} {x:α} (h:l[i]?=some x):l.drop i=x :: l.drop (i + 1):=by
 obtain ⟨h1,h2⟩:=List.getElem?_eq_some_iff.mp h
 rw [List.drop_eq_getElem_cons h1,h2]
theorem bg4 {k k':Kd} {m0:Md} {K':KT D V} {wi:TI} {ix:List Nat} {ti:TT} {te:TE} {src:Env→Res (List D)} {mi:Env→Res Bool} {me:Env→Res D}
 (hs:PJ cm (KI cm k .X) E ms wi src) (hix:ix.Nodup) (h0:∀ B U H d v,Same B U→Same U H→Dn cm (hp k B U H) d v→Lo cm B U H m0 (some d) (some v) [])
 (hti:PJ cm KB E0 (msIn m0 ms ix) ti mi) (hte:PJ cm (KR cm k') E0 (msIn m0 ms ix) te me)
 (fin:∀ B U As σ H ρ B1 U1 H1 Q zs ys p,Rel cm ms B1 U1 As σ H1 ρ→Gw B U H B1 U1 H1→H p=none→U1 p=none→(∀ i,p∉As i)→H1 p=some (.lst ys)→Dns cm (hp k' B1 U1 H1) zs ys→Po cm K' E ms B U As σ H ρ (.ok (.lst zs)) Q→Q (.ref p) H1)
 (hk':k'= .F∨k'= .U):PJ cm K' E ms (aY1 wi ix ti te) (comp src ix mi me):=by
 intro B U As σ H ρ Q R P
 refine hs.bnd R P fun ds J B1 U1 H1 N1 _ R1 e1 n1 ⟨vs,hJ,hd⟩ P1 p hp=>?_
 by_cases z:ds.length < ab4
 · rw [if_pos z] at P1
   have hvl:ds.length=vs.length:=hd.len
   have hpA:∀ i,p∉As i:=fun i=>R1.fresh hp i
   have grow':∀ {B2 U2 H2 B3 U3 H3:Hp},Gw B2 U2 H2 B3 U3 H3→Same (Mi.hp k' B2 U2 (fun _=>none)) (Mi.hp k' B3 U3 (fun _=>none)):=fun g=>by
    rcases hk' with e | e <;> subst e
    · exact g.b
    · exact g.u
   have hpe:∀ {B2 U2 H2:Hp},Mi.hp k' B2 U2 H2=Mi.hp k' B2 U2 (fun _=>none):=fun {B2 U2 H2}=>by rcases hk' with e | e <;> subst e <;> rfl
   refine ⟨fun i m ys H2=>i≤ds.length∧m=ds.length - i∧H2 p=some (.lst ys)∧ys.length≤i∧∃ B2 U2 zs,Rel cm ms B2 U2 As σ H2 ρ∧Gw B1 U1 H1 B2 U2 H2∧U2 p=none∧Dns cm (Mi.hp k' B2 U2 (fun _=>none)) zs ys ∧
    Po cm K' E ms B1 U1 As σ H1 ρ ((ae3 mi me (capD ρ ix) (ds.drop i)).bind fun r=> .ok (.lst (zs ++ r))) Q,⟨ds.length,Nat.zero_le _,rfl,ad5,Nat.le_refl _,B1,U1,[],R1.new hp,Gw.newO R1 hp,R1.uh.free hp,by rw [Dns],P1⟩,?_⟩
   rintro i m ys H2 ⟨hi,rfl,hy,hle,B2,U2,zs,R2,g2,u2,dz,P2⟩
   have hpe2:=hJ H2 g2.h
   refine ⟨hy,Nat.lt_of_le_of_lt hle (am0 (Nat.le_of_lt (Nat.lt_of_le_of_lt hi z))),?_⟩
   by_cases hlt:i < ds.length
   · refine .inr ⟨hpe2.2.1 i (by omega),fun v H3 hyl=>?_⟩
     obtain ⟨rfl,ev⟩:=hpe2.2.2 i v H3 (by omega) hyl
     obtain ⟨d,ed,dd⟩:=hd.geti ev
     rw [aw9 ed,ae3] at P2
     have RI:=R2.inner hix (h0 B2 U2 H3 d v R2.bu R2.uh (Dn.mono (ar6 g2) dd))
     refine hti B2 U2 _ _ H3 _ _ RI ?_
     cases eb:mi (some d :: capD ρ ix) with
     | ok c =>
       rw [eb] at P2
       intro b B3 U3 H4 N3 R3' g3 n3 hb
       cases hb
       have up3:U3 p=none:=by
        cases q:U3 p with
        | none=>rfl
        | some o =>
          rcases g3.fr p o q with z | z | ⟨xs,z⟩
          · rw [u2] at z; cases z
          · rw [hy] at z; cases z
          · subst z; have:=R3'.uh p _ q; rw [g3.h _ _ hy] at this; cases this
       have R3:Rel cm ms B3 U3 As σ H4 ρ:=R2.grow g3.b g3.u g3.h R3'.bu R3'.uh fun j a ha=>by
        cases q:U3 a with
        | none=>rfl
        | some o =>
          rcases g3.fr a o q with z | z | z
          · rw [R2.un j a ha] at z; cases z
          · obtain ⟨o',q'⟩:=R2.at ha
            rw [z] at q'; cases q'
          · obtain ⟨o',q'⟩:=R2.at ha
            have e1:=g3.h _ _ q'
            rw [R3'.uh a _ q] at e1; cases e1; exact (R2.nt ha q' z).elim
       cases c with
       | false =>
         rw [if_neg Bool.false_ne_true]
         exact ⟨ds.length - (i + 1),by omega,hlt,rfl,g3.h _ _ hy,by omega,B3,U3,zs,R3,g2.trans g3,up3,dz.mono (grow' g3),P2⟩
       | true =>
         rw [if_pos rfl]
         refine hte B3 U3 _ _ H4 _ _ R3' ?_
         cases ee:me (some d :: capD ρ ix) with
         | ok x =>
           have P3:Po cm K' E ms B1 U1 As σ H1 ρ (((me (some d :: capD ρ ix)).calm.bind fun x=>(ae3 mi me (capD ρ ix) (ds.drop (i + 1))).bind fun xs=> .ok (x :: xs)).bind fun r=> .ok (.lst (zs ++ r))) Q:=P2
           rw [ee] at P3
           intro y B4 U4 H5 N4 R4' g4 n4 hx
           have y5:H5 p=some (.lst ys):=g4.h _ _ (g3.h _ _ hy)
           have up4:U4 p=none:=by
            cases q:U4 p with
            | none=>rfl
            | some o =>
              rcases g4.fr p o q with z | z | ⟨xs,z⟩
              · rw [up3] at z; cases z
              · rw [g3.h _ _ hy] at z; cases z
              · subst z; have:=R4'.uh p _ q; rw [y5] at this; cases this
           have R4:Rel cm ms B4 U4 As σ H5 ρ:=R3.grow g4.b g4.u g4.h R4'.bu R4'.uh fun j a ha=>by
            cases q:U4 a with
            | none=>rfl
            | some o =>
              rcases g4.fr a o q with z | z | z
              · rw [R3.un j a ha] at z; cases z
              · obtain ⟨o',q'⟩:=R3.at ha
                rw [z] at q'; cases q'
              · obtain ⟨o',q'⟩:=R3.at ha
                have e1:=g4.h _ _ q'
                rw [R4'.uh a _ q] at e1; cases e1; exact (R3.nt ha q' z).elim
           have g5:Gw B1 U1 H1 B4 U4 (upd H5 p (.lst (ys ++ [y]))):=by
            have g:=(g2.trans g3).trans g4
            exact ⟨g.toEx,fun a o q=>by rw [ab7 (aa7 q hp)]; exact g.h a o q,g.fr⟩
           refine ⟨y5,ds.length - (i + 1),by omega,hlt,rfl,ad5,by rw [List.length_append,List.length_singleton]; omega,B4,U4,zs ++ [x],R4.poke up4 hpA,g5,up4,(dz.mono (grow' (g3.trans g4))).append (Dns.one ?_),?_⟩
           · have hx:Dn cm (Mi.hp k' B4 U4 H5) x y:=hx
             rw [hpe] at hx
             exact hx
           · cases eg:ae3 mi me (capD ρ ix) (ds.drop (i + 1)) with
             | ok r =>
               rw [eg] at P3
               show Po cm K' E ms B1 U1 As σ H1 ρ (.ok (.lst (zs ++ [x] ++ r))) Q
               rw [List.append_assoc]
               exact P3
             | exc c=>rw [eg] at P3; exact P3
             | bad=>rw [eg] at P3; exact P3
         | exc c =>
           have P3:Po cm K' E ms B1 U1 As σ H1 ρ (((me (some d :: capD ρ ix)).calm.bind fun x=>(ae3 mi me (capD ρ ix) (ds.drop (i + 1))).bind fun xs=> .ok (x :: xs)).bind fun r=> .ok (.lst (zs ++ r))) Q:=P2
           rw [ee] at P3
           exact P3.elim
         | bad =>
           have P3:Po cm K' E ms B1 U1 As σ H1 ρ (((me (some d :: capD ρ ix)).calm.bind fun x=>(ae3 mi me (capD ρ ix) (ds.drop (i + 1))).bind fun xs=> .ok (x :: xs)).bind fun r=> .ok (.lst (zs ++ r))) Q:=P2
           rw [ee] at P3
           exact P3.elim
     | exc c=>rw [eb] at P2; exact P2.elim
     | bad=>rw [eb] at P2; exact P2.elim
   · have e:i=ds.length:=by omega
     subst e
     rw [List.drop_length,ae3] at P2
     refine .inl ⟨hpe2.1 _ (by omega),?_⟩
     have P3:Po cm K' E ms B1 U1 As σ H1 ρ (.ok (.lst (zs ++ []))) Q:=P2
     rw [List.append_nil] at P3
     exact fin B1 U1 As σ H1 ρ B2 U2 H2 Q zs ys p R2 g2 hp u2 hpA hy (by rw [hpe]; exact dz) P3
 · rw [if_neg z] at P1
   exact P1.elim
theorem inF {B U H:Hp} {d:D} {v:V} (_:Same B U) (_:Same U H) (h:Dn cm (hp .F B U H) d v):Lo cm B U H .F (some d) (some v) []:=⟨v,rfl,h,rfl⟩
theorem finO {B U:Hp} {As:Nat→List Addr} {σ:St} {H:Hp} {ρ:Env} {B1 U1 H1:Hp} {Q:VK} {zs:List D} {ys:List V} {p:Addr} (R:Rel cm ms B1 U1 As σ H1 ρ) (g:Gw B U H B1 U1 H1) (hp:H p=none) (u:U1 p=none) (ha:∀ i,p∉As i) (h:H1 p=some (.lst ys))
 (d:Dns cm (Mi.hp .F B1 U1 H1) zs ys) (P:Po cm (KO cm (.ct .fz)) E ms B U As σ H ρ (.ok (.lst zs)) Q):Q (.ref p) H1 :=
 P (.ref p) B1 U1 H1 [p] R g ⟨by simp,fun a q=>by rw [List.mem_singleton.mp q]; exact hp,fun a q=>by rw [List.mem_singleton.mp q]; exact u⟩ (by
  show Ow cm B1 H1 (.lst zs) (.ct .fz) (.ref p) [p]
  rw [Ow]
  exact ⟨p,ys,[],rfl,h,rfl,Ows.of d⟩)
section
variable {wi:TI} {ix:List Nat} {ti:TT} {te:TE} {src:Env→Res (List D)} {mi:Env→Res Bool} {me:Env→Res D}
theorem bj7:PJ cm KB E ms tYes (fun _=> .ok true):=fun B U As σ H ρ Q R P=>P _ B U H [] R (Gw.refl _ _ _) New.nil rfl
theorem aD2 (hs:PJ cm (KI cm .F .X) E ms wi src) (hix:ix.Nodup) (hti:PJ cm KB E0 (msIn .F ms ix) ti mi) (hte:PJ cm (KR cm .F) E0 (msIn .F ms ix) te me):PJ cm (KO cm (.ct .fz)) E ms (aY1 wi ix ti te) (comp src ix mi me) :=
 bg4 hs hix (fun _ _ _ _ _=>inF) hti hte (fun _ _ _ _ _ _ _ _ _ _ _ _ _=>finO) (.inl rfl)
end
end
structure NewM (N:List Addr) (U:Hp) (As:Nat→List Addr):Prop where
 nd:N.Nodup
 un:∀ a∈N,U a=none
 ap:∀ a∈N,∀ i,a∉As i
theorem NewM.nil {U:Hp} {As:Nat→List Addr}:NewM [] U As:=⟨List.nodup_nil,fun _ h=>(nomatch h),fun _ h=>(nomatch h)⟩
noncomputable def Kp (pr:Nat→Bool) (σ σ':St):Prop:=∀ j,pr j=true→rg σ' j=rg σ j
theorem Kp.refl (pr:Nat→Bool) (σ:St):Kp pr σ σ:=fun _ _=>rfl
theorem Kp.trans {pr:Nat→Bool} {σ σ1 σ2:St} (a:Kp pr σ σ1) (b:Kp pr σ1 σ2):Kp pr σ σ2:=fun j h=>(b j h).trans (a j h)
section
variable (cm:Cm)
noncomputable def Mo {α β:Type} (K:KT α β) (E:XK) (ms:List Md) (B U:Hp) (σ:St) (r:Out α) (Q:β→Hp→Prop):Prop :=
 match r with
 | .ok d ρ'=>∀ v B' U' As' H' N,Rel cm ms B' U' As' σ H' ρ'→Ex B U B' U'→NewM N U' As'→K d v B' U' H' N→Q v H'
 | .exc c ρ'=>∀ B' U' As' H',Rel cm ms B' U' As' σ H' ρ'→Ex B U B' U'→∀ oa,E (.ref (cm c)) oa H'
 | .bad=>False
noncomputable def MJ {α β:Type} (K:KT α β) (E:XK) (ms:List Md) (t:St→Hp→(β→Hp→Prop)→Prop) (m:Env→Out α):Prop :=
 ∀ B U As σ H ρ Q,Rel cm ms B U As σ H ρ→Mo cm K E ms B U σ (m ρ) Q→t σ H Q
noncomputable def So (E:XK) (Kr:KT D V) (pr:Nat→Bool) (ms:List Md) (B U:Hp) (σ:St) (r:SO) (D:Ends):Prop :=
 match r with
 | .nx ρ'=>∀ σ' B' U' As' H',Rel cm ms B' U' As' σ' H' ρ'→Ex B U B' U'→Kp pr σ σ'→D.nx σ' H'
 | .bk ρ'=>∀ σ' B' U' As' H',Rel cm ms B' U' As' σ' H' ρ'→Ex B U B' U'→Kp pr σ σ'→D.bk σ' H'
 | .ct ρ'=>∀ σ' B' U' As' H',Rel cm ms B' U' As' σ' H' ρ'→Ex B U B' U'→Kp pr σ σ'→D.ct σ' H'
 | .rt d ρ'=>∀ v σ' B' U' As' H' N,Rel cm ms B' U' As' σ' H' ρ'→Ex B U B' U'→Kp pr σ σ'→NewM N U' As'→Kr d v B' U' H' N→D.rt v H'
 | .exc c ρ'=>∀ σ' B' U' As' H',Rel cm ms B' U' As' σ' H' ρ'→Ex B U B' U'→Kp pr σ σ'→∀ oa,E (.ref (cm c)) oa H'
 | .bad=>False
noncomputable def SJ (E:XK) (Kr:KT D V) (pr:Nat→Bool) (ms:List Md) (t:TS) (m:Env→SO):Prop :=
 ∀ B U As σ H ρ D,Rel cm ms B U As σ H ρ→So cm E Kr pr ms B U σ (m ρ) D→t D σ H
end
section
variable {cm:Cm} {E:XK} {Kr:KT D V} {pr:Nat→Bool} {ms:List Md} {K:PySem.W.Frag} {B U H B1 U1 H1:Hp} {As:Nat→List Addr} {σ σ1:St} {ρ:Env}
theorem Mo.at {α β:Type} {K:KT α β} {r:Out α} {Q:β→Hp→Prop} (P:Mo cm K E ms B U σ r Q) (e:Ex B U B1 U1):Mo cm K E ms B1 U1 σ r Q:=by
 cases r with
 | ok d ρ'=>exact fun v B' U' As' H' N R' e' n' k=>P v B' U' As' H' N R' (e.trans e') n' k
 | exc c ρ'=>exact fun B' U' As' H' R' e'=>P B' U' As' H' R' (e.trans e')
 | bad=>exact P
theorem So.at {r:SO} {D:Ends} (P:So cm E Kr pr ms B U σ r D) (e:Ex B U B1 U1) (k:Kp pr σ σ1):So cm E Kr pr ms B1 U1 σ1 r D:=by
 cases r with
 | nx ρ'=>exact fun σ' B' U' As' H' R' e' k'=>P σ' B' U' As' H' R' (e.trans e') (k.trans k')
 | bk ρ'=>exact fun σ' B' U' As' H' R' e' k'=>P σ' B' U' As' H' R' (e.trans e') (k.trans k')
 | ct ρ'=>exact fun σ' B' U' As' H' R' e' k'=>P σ' B' U' As' H' R' (e.trans e') (k.trans k')
 | rt d ρ'=>exact fun v σ' B' U' As' H' N R' e' k'=>P v σ' B' U' As' H' N R' (e.trans e') (k.trans k')
 | exc c ρ'=>exact fun σ' B' U' As' H' R' e' k'=>P σ' B' U' As' H' R' (e.trans e') (k.trans k')
 | bad=>exact P
theorem upM {α β:Type} {K:KT α β} {t:St→Hp→(β→Hp→Prop)→Prop} {m:Env→Res α} (h:PJ cm K E ms t m):MJ cm K E ms t (fun ρ=>(m ρ).up ρ):=by
 intro B U As σ H ρ Q R P
 replace P:Mo cm K E ms B U σ ((m ρ).up ρ) Q:=P
 refine h B U As σ H ρ Q R ?_
 cases e:m ρ with
 | ok d =>
   rw [e] at P
   exact fun v B' U' H' N R' g n k=>P v B' U' As H' N R' g.toEx ⟨n.nd,n.un,R.apart n⟩ k
 | exc c =>
   rw [e] at P
   exact fun B' U' H' R' g=>P B' U' As H' R' g.toEx
 | bad=>rw [e] at P; exact P
theorem MJ.imp {α β:Type} {K K':KT α β} {t:St→Hp→(β→Hp→Prop)→Prop} {m:Env→Out α} (h:MJ cm K E ms t m) (f:∀ B U As σ H ρ d v N,Rel cm ms B U As σ H ρ→K d v B U H N→K' d v B U H N):MJ cm K' E ms t m:=by
 intro B U As σ H ρ Q R P
 refine h B U As σ H ρ Q R ?_
 cases e:m ρ with
 | ok d ρ'=>rw [e] at P; exact fun v B' U' As' H' N R' e' n' k=>P v B' U' As' H' N R' e' n' (f _ _ _ _ _ _ _ _ _ R' k)
 | exc c ρ'=>rw [e] at P; exact P
 | bad=>rw [e] at P; exact P
theorem moF {s:Sh} {t:TE} {m:Env→Out D} (h:MJ cm (KO cm s) E ms t m):MJ cm (KR cm .F) E ms t m:=by
 intro B U As σ H ρ Q R P
 refine h B U As σ H ρ Q R ?_
 cases e:m ρ with
 | ok d ρ' =>
   rw [e] at P
   intro v B' U' As' H' N R' e' n' ow
   obtain ⟨R2,e2⟩:=R'.freeze fun a ha=>⟨n'.un a ha,n'.ap a ha⟩
   refine P v _ _ As' H' [] R2 (e'.trans e2) NewM.nil (Ow.dn (ag2 R'.bh) (fun a ha o q=>?_) ow)
   unfold Mi.frz
   rw [if_pos ha]
   exact q
 | exc c ρ'=>rw [e] at P; exact P
 | bad=>rw [e] at P; exact P
theorem MJ.bnd {α β γ δ:Type} {Ka:KT α β} {Kc:KT γ δ} {ta:St→Hp→(β→Hp→Prop)→Prop} {ma:Env→Out α} (ha:MJ cm Ka E ms ta ma) (R:Rel cm ms B U As σ H ρ) {k:α→Env→Out γ} {Q:δ→Hp→Prop}
 (P:Mo cm Kc E ms B U σ ((ma ρ).bind k) Q) {body:β→Hp→Prop}
 (h:∀ x ρ' v B1 U1 As1 H1 N,Rel cm ms B1 U1 As1 σ H1 ρ'→Ex B U B1 U1→NewM N U1 As1→Ka x v B1 U1 H1 N→Mo cm Kc E ms B1 U1 σ (k x ρ') Q→body v H1):ta σ H body:=by
 refine ha B U As σ H ρ body R ?_
 cases e:ma ρ with
 | ok x ρ' =>
   rw [e] at P
   exact fun v B1 U1 As1 H1 N R1 e1 n1 k1=>h x ρ' v B1 U1 As1 H1 N R1 e1 n1 k1 (Mo.at (r:=k x ρ') P e1)
 | exc c ρ'=>rw [e] at P; exact P
 | bad=>rw [e] at P; exact P
theorem MJ.bndS {α β:Type} {Ka:KT α β} {ta:St→Hp→(β→Hp→Prop)→Prop} {ma:Env→Out α} (ha:MJ cm Ka E ms ta ma) (R:Rel cm ms B U As σ H ρ) {k:α→Env→SO} {D:Ends}
 (P:So cm E Kr pr ms B U σ (at7 (ma ρ) k) D) {body:β→Hp→Prop}
 (h:∀ x ρ' v B1 U1 As1 H1 N,Rel cm ms B1 U1 As1 σ H1 ρ'→Ex B U B1 U1→NewM N U1 As1→Ka x v B1 U1 H1 N→So cm E Kr pr ms B1 U1 σ (k x ρ') D→body v H1):ta σ H body:=by
 refine ha B U As σ H ρ body R ?_
 cases e:ma ρ with
 | ok x ρ' =>
   rw [e] at P
   exact fun v B1 U1 As1 H1 N R1 e1 n1 k1=>h x ρ' v B1 U1 As1 H1 N R1 e1 n1 k1 (So.at (r:=k x ρ') P e1 (Kp.refl _ _))
 | exc c ρ'=>rw [e] at P; exact fun B' U' As' H' R' e'=>P σ B' U' As' H' R' e' (Kp.refl _ _)
 | bad=>rw [e] at P; exact P
theorem au7 {α:Type} {l:List (Option α)} {i j:Nat} {x:Option α}:rg (l.set i x) j=if i=j∧i < l.length then x else rg l j:=by
 unfold rg
 rw [List.getElem?_set]
 by_cases e:i=j
 · subst e
   by_cases h:i < l.length
   · rw [if_pos rfl,if_pos h,if_pos ⟨rfl,h⟩]
     rfl
   · rw [if_pos rfl,if_neg h,if_neg fun z=>h z.2,List.getElem?_eq_none (by omega)]
 · rw [if_neg e,if_neg fun z=>e z.1]
theorem Rel.store (R:Rel cm ms B U As σ H ρ) {i:Nat} {d:D} {v:V} {N:List Addr} (n:NewM N U As) (l:Lo cm B U H (ms.getD i .F) (some d) (some v) N) :
 ∃ As',Rel cm ms B U As' (σ.set i (some v)) H (ρ.set i (some d)):=by
 by_cases hi:i < ρ.length
 · refine ⟨fun j=>if j=i then N else As j,R.bu,R.uh,fun j=>?_,fun j k a hne ha hb=>?_,fun j a ha=>?_,fun j=>?_,by rw [List.length_set,List.length_set]; exact R.len,R.tb⟩
   · show (if j=i then N else As j).Nodup
     split
     · exact n.nd
     · exact R.nd j
   · replace ha:a∈(if j=i then N else As j):=ha
     replace hb:a∈(if k=i then N else As k):=hb
     split at ha
     · split at hb
       · rename_i h1 h2
         exact hne (h1.trans h2.symm)
       · exact n.ap a ha k hb
     · split at hb
       · exact n.ap a hb j ha
       · exact R.dj j k a hne ha hb
   · replace ha:a∈(if j=i then N else As j):=ha
     split at ha
     · exact n.un a ha
     · exact R.un j a ha
   · rw [au7,au7]
     show Lo cm B U H (ms.getD j .F) _ _ (if j=i then N else As j)
     by_cases e:i=j
     · subst e
       rw [if_pos ⟨rfl,hi⟩,if_pos ⟨rfl,by rw [← R.len]; exact hi⟩,if_pos rfl]
       exact l
     · rw [if_neg fun z=>e z.1,if_neg fun z=>e z.1,if_neg fun z=>e z.symm]
       exact R.lo j
 · have h2:=R.len
   have e1:σ.set i (some v)=σ:=List.set_eq_of_length_le (by omega)
   have e2:ρ.set i (some d)=ρ:=List.set_eq_of_length_le (by omega)
   rw [e1,e2]
   exact ⟨As,R⟩
theorem Kp.set {i:Nat} {x:Option V} (h:pr i=false):Kp pr σ (σ.set i x):=fun j hj=>by
 rw [au7,if_neg]
 rintro ⟨e,_⟩
 rw [e,hj] at h
 cases h
theorem bc3 {K':KT D V} {i:Nat} {te:TE} {m:Env→Out D} (h:MJ cm K' E ms te m) (hk:∀ B U H d v N,K' d v B U H N→∃ N',(N'=[]∨N'=N)∧Lo cm B U H (ms.getD i .F) (some d) (some v) N') (hp:pr i=false):SJ cm E Kr pr ms (tAsg te (ak7 i)) (setS i m):=by
 intro B U As σ H ρ D R P
 refine h.bndS R P fun x ρ' v B1 U1 As1 H1 N R1 e1 n1 k1 P1=>?_
 obtain ⟨N',hN,l⟩:=hk B1 U1 H1 x v N k1
 have n2:NewM N' U1 As1:=by
  rcases hN with e | e
  · subst e; exact NewM.nil
  · subst e; exact n1
 obtain ⟨As2,R2⟩:=R1.store n2 l
 exact P1 _ B1 U1 As2 H1 R2 (Ex.refl _ _) (Kp.set hp)
theorem ac9 {i:Nat} {te:TE} {m:Env→Out D} (h:MJ cm (KR cm .F) E ms te m) (hm:ms.getD i .F= .F) (hp:pr i=false):SJ cm E Kr pr ms (tAsg te (ak7 i)) (setS i m) :=
 bc3 h (fun B U H d v N k=>⟨[],.inl rfl,by rw [hm]; exact ⟨v,rfl,k,rfl⟩⟩) hp
theorem bj2 {i:Nat} {te:TE} {m:Env→Out D} (h:MJ cm (KR cm .U) E ms te m) (hm:ms.getD i .F= .R) (hp:pr i=false):SJ cm E Kr pr ms (tAsg te (ak7 i)) (setS i m) :=
 bc3 h (fun B U H d v N k=>⟨[],.inl rfl,by rw [hm]; exact ⟨v,rfl,k,rfl⟩⟩) hp
theorem au4 {i:Nat} {s:Sh} {te:TE} {m:Env→Out D} (h:MJ cm (KO cm s) E ms te m) (hm:ms.getD i .F= .O s) (hp:pr i=false):SJ cm E Kr pr ms (tAsg te (ak7 i)) (setS i m) :=
 bc3 h (fun B U H d v N k=>⟨N,.inr rfl,by rw [hm]; exact ⟨v,rfl,k⟩⟩) hp
theorem ak6:SJ cm E Kr pr ms bi6 ah5:=fun B U As σ H ρ D R P=>P σ B U As H R (Ex.refl _ _) (Kp.refl _ _)
theorem ac0 {t u:TS} {m n:Env→SO} (h:SJ cm E Kr pr ms t m) (k:SJ cm E Kr pr ms u n):SJ cm E Kr pr ms (tSeq t u) (seqS m n):=by
 intro B U As σ H ρ D R P
 refine h B U As σ H ρ _ R ?_
 unfold seqS at P
 cases e:m ρ with
 | nx ρ'=>rw [e] at P; exact fun σ' B' U' As' H' R' e' kp=>k B' U' As' σ' H' ρ' D R' (So.at P e' kp)
 | bk ρ'=>rw [e] at P; exact P
 | ct ρ'=>rw [e] at P; exact P
 | rt d ρ'=>rw [e] at P; exact P
 | exc c ρ'=>rw [e] at P; exact P
 | bad=>rw [e] at P; exact P
theorem aj9 {K':KT D V} {te:TE} {m:Env→Out D} (h:MJ cm K' E ms te m):SJ cm E Kr pr ms (aQ4 te) (aj7 m):=by
 intro B U As σ H ρ D R P
 refine h.bndS R P fun x ρ' v B1 U1 As1 H1 N R1 e1 n1 k1 P1=>?_
 exact P1 σ B1 U1 As1 H1 R1 (Ex.refl _ _) (Kp.refl _ _)
theorem ag5 {te:TE} {m:Env→Out D} (h:MJ cm Kr E ms te m):SJ cm E Kr pr ms (tRet te) (retS m):=by
 intro B U As σ H ρ D R P
 refine h.bndS R P fun x ρ' v B1 U1 As1 H1 N R1 e1 n1 k1 P1=>?_
 exact P1 v σ B1 U1 As1 H1 N R1 (Ex.refl _ _) (Kp.refl _ _) n1 k1
theorem s_if {c:TT} {t u:TS} {mc:Env→Out Bool} {m n:Env→SO} (hc:MJ cm KB E ms c mc) (h:SJ cm E Kr pr ms t m) (k:SJ cm E Kr pr ms u n):SJ cm E Kr pr ms (tIfS c t u) (ifS mc m n):=by
 intro B U As σ H ρ D R P
 refine hc.bndS R P fun x ρ' v B1 U1 As1 H1 N R1 e1 n1 k1 P1=>?_
 cases k1
 cases x with
 | true=>exact h B1 U1 As1 σ H1 ρ' D R1 P1
 | false=>exact k B1 U1 As1 σ H1 ρ' D R1 P1
noncomputable def TJ (cm:Cm) (k:Kd) (pr:Nat→Bool) (ms:List Md) (g:TG) (tg:D→Env→Option Env):Prop:=∀ B U As σ H ρ d v ρ1 Q,Rel cm ms B U As σ H ρ→Dn cm (hp k B U H) d v→tg d ρ=some ρ1→(∀ σ1 As1,Rel cm ms B U As1 σ1 H ρ1→Kp pr σ σ1→Q σ1 H)→g v σ H Q
theorem tgF {i:Nat} (hm:ms.getD i .F= .F) (hp:pr i=false):TJ cm .F pr ms (ak7 i) (tgN i):=by
 intro B U As σ H ρ d v ρ1 Q R hd e h
 cases e
 obtain ⟨As2,R2⟩:=R.store (i:=i) (d:=d) (v:=v) NewM.nil (by rw [hm]; exact ⟨v,rfl,hd,rfl⟩)
 exact h _ As2 R2 (Kp.set hp)
theorem tgR {i:Nat} (hm:ms.getD i .F= .R) (hp:pr i=false):TJ cm .U pr ms (ak7 i) (tgN i):=by
 intro B U As σ H ρ d v ρ1 Q R hd e h
 cases e
 obtain ⟨As2,R2⟩:=R.store (i:=i) (d:=d) (v:=v) NewM.nil (by rw [hm]; exact ⟨v,rfl,hd,rfl⟩)
 exact h _ As2 R2 (Kp.set hp)
theorem bc5 {k:Kd} {wi:TI} {g:TG} {tb:TS} {src:Env→Out (List D)} {tg:D→Env→Option Env} {body:Env→SO} (hs:MJ cm (KI cm k .U) E ms wi src) (hk:k= .F∨k= .U) (hg:TJ cm k pr ms g tg) (hb:SJ cm E Kr pr ms tb body) :
 SJ cm E Kr pr ms (tFor wi g tb) (aF2 src tg body):=by
 intro B U As σ H ρ D R P
 refine hs.bndS R P fun ds ρ0 J B1 U1 As1 H1 N R1 e1 n1 ⟨vs,hJ,hd⟩ P1=>?_
 have hvl:ds.length=vs.length:=hd.len
 have hp1:∀ {B2 U2 H2:Hp},Ex B1 U1 B2 U2→Same (hp k B1 U1 H1) (hp k B2 U2 H2):=fun e=>by
  rcases hk with z | z <;> subst z
  · exact e.b
  · exact e.u
 refine ⟨fun i m σ' H'=>i≤ds.length∧m=ds.length - i∧∃ B2 U2 As2 ρ2,Rel cm ms B2 U2 As2 σ' H' ρ2∧Ex B1 U1 B2 U2∧Kp pr σ σ'∧So cm E Kr pr ms B1 U1 σ (forS tg body (ds.drop i) ρ2) D,⟨_,Nat.zero_le _,rfl,B1,U1,As1,ρ0,R1,Ex.refl _ _,Kp.refl _ _,P1⟩,?_⟩
 rintro i m σ' H' ⟨hi,rfl,B2,U2,As2,ρ2,R2,e2,k2,P2⟩
 have hj:=hJ H' (e2.u.trans R2.uh)
 by_cases hlt:i < ds.length
 · refine .inr ⟨hj.2.1 i (by omega),fun σ'' H''=>i + 1≤ds.length∧∃ B2 U2 As2 ρ2,Rel cm ms B2 U2 As2 σ'' H'' ρ2∧Ex B1 U1 B2 U2∧Kp pr σ σ''∧So cm E Kr pr ms B1 U1 σ (forS tg body (ds.drop (i + 1)) ρ2) D,fun σ'' H'' ⟨h1,h2⟩=>⟨ds.length - (i + 1),by omega,h1,rfl,h2⟩,fun x Hx hy=>?_⟩
   obtain ⟨rfl,ev⟩:=hj.2.2 i x Hx (by omega) hy
   obtain ⟨d,ed,dd⟩:=hd.geti ev
   rw [aw9 ed,forS] at P2
   cases et:tg d ρ2 with
   | none=>rw [et] at P2; exact P2.elim
   | some ρ3 =>
     rw [et] at P2
     refine hg B2 U2 As2 σ' Hx ρ2 d x ρ3 _ R2 (Dn.mono (hp1 e2) dd) et fun σ3 As3 R3 k3=>?_
     refine hb B2 U2 As3 σ3 Hx ρ3 _ R3 ?_
     dsimp only at P2
     cases eb:body ρ3 with
     | nx ρ4 =>
       rw [eb] at P2
       exact fun σ4 B4 U4 As4 H4 R4 e4 k4=>⟨hlt,B4,U4,As4,ρ4,R4,e2.trans e4,(k2.trans k3).trans k4,P2⟩
     | ct ρ4 =>
       rw [eb] at P2
       exact fun σ4 B4 U4 As4 H4 R4 e4 k4=>⟨hlt,B4,U4,As4,ρ4,R4,e2.trans e4,(k2.trans k3).trans k4,P2⟩
     | bk ρ4 =>
       rw [eb] at P2
       exact fun σ4 B4 U4 As4 H4 R4 e4 k4=>P2 σ4 B4 U4 As4 H4 R4 (e2.trans e4) ((k2.trans k3).trans k4)
     | rt d ρ4 =>
       rw [eb] at P2
       exact fun v σ4 B4 U4 As4 H4 N R4 e4 k4=>P2 v σ4 B4 U4 As4 H4 N R4 (e2.trans e4) ((k2.trans k3).trans k4)
     | exc c ρ4 =>
       rw [eb] at P2
       exact fun σ4 B4 U4 As4 H4 R4 e4 k4=>P2 σ4 B4 U4 As4 H4 R4 (e2.trans e4) ((k2.trans k3).trans k4)
     | bad=>rw [eb] at P2; exact P2.elim
 · have e:i=ds.length:=by omega
   subst e
   rw [List.drop_length,forS] at P2
   exact .inl ⟨hj.1 _ (by omega),P2 σ' B2 U2 As2 H' R2 e2 k2⟩
theorem az8 {c:TT} {tb:TS} {mc:Env→Out Bool} {body:Env→SO} (n:Nat) (hc:MJ cm KB E ms c mc) (hb:SJ cm E Kr pr ms tb body):SJ cm E Kr pr ms (aU9 c tb) (whS mc body n):=by
 intro B U As σ H ρ D R P
 refine ⟨fun m σ' H'=>∃ B2 U2 As2 ρ2,Rel cm ms B2 U2 As2 σ' H' ρ2∧Ex B U B2 U2∧Kp pr σ σ'∧So cm E Kr pr ms B U σ (whS mc body m ρ2) D,⟨n,B,U,As,ρ,R,Ex.refl _ _,Kp.refl _ _,P⟩,?_⟩
 rintro m σ' H' ⟨B2,U2,As2,ρ2,R2,e2,k2,P2⟩
 cases m with
 | zero=>exact P2.elim
 | succ m =>
   rw [whS] at P2
   refine hc B2 U2 As2 σ' H' ρ2 _ R2 ?_
   cases e:mc ρ2 with
   | ok x ρ3 =>
     rw [e] at P2
     intro v B3 U3 As3 H3 N R3 e3 n3 k3
     cases k3
     cases x with
     | false =>
       rw [if_neg Bool.false_ne_true]
       exact P2 σ' B3 U3 As3 H3 R3 (e2.trans e3) k2
     | true =>
       rw [if_pos rfl]
       have P2:So cm E Kr pr ms B U σ (match body ρ3 with
        | .nx ρ'=>whS mc body m ρ'
        | .ct ρ'=>whS mc body m ρ'
        | .bk ρ'=> .nx ρ'
        | o=>o) D:=P2
       refine ⟨fun σ'' H''=>∃ B4 U4 As4 ρ4,Rel cm ms B4 U4 As4 σ'' H'' ρ4∧Ex B U B4 U4∧Kp pr σ σ''∧So cm E Kr pr ms B U σ (whS mc body m ρ4) D,fun σ'' H'' h=>⟨m,Nat.lt_succ_self m,h⟩,?_⟩
       refine hb B3 U3 As3 σ' H3 ρ3 _ R3 ?_
       cases eb:body ρ3 with
       | nx ρ4 =>
         rw [eb] at P2
         exact fun σ4 B4 U4 As4 H4 R4 e4 k4=>⟨B4,U4,As4,ρ4,R4,(e2.trans e3).trans e4,k2.trans k4,P2⟩
       | ct ρ4 =>
         rw [eb] at P2
         exact fun σ4 B4 U4 As4 H4 R4 e4 k4=>⟨B4,U4,As4,ρ4,R4,(e2.trans e3).trans e4,k2.trans k4,P2⟩
       | bk ρ4 =>
         rw [eb] at P2
         exact fun σ4 B4 U4 As4 H4 R4 e4 k4=>P2 σ4 B4 U4 As4 H4 R4 ((e2.trans e3).trans e4) (k2.trans k4)
       | rt d ρ4 =>
         rw [eb] at P2
         exact fun v σ4 B4 U4 As4 H4 N R4 e4 k4=>P2 v σ4 B4 U4 As4 H4 N R4 ((e2.trans e3).trans e4) (k2.trans k4)
       | exc c ρ4 =>
         rw [eb] at P2
         exact fun σ4 B4 U4 As4 H4 R4 e4 k4=>P2 σ4 B4 U4 As4 H4 R4 ((e2.trans e3).trans e4) (k2.trans k4)
       | bad=>rw [eb] at P2; exact P2.elim
   | exc c ρ3=>rw [e] at P2; exact fun B3 U3 As3 H3 R3 e3=>P2 σ' B3 U3 As3 H3 R3 (e2.trans e3) k2
   | bad=>rw [e] at P2; exact P2.elim
end
inductive Ap where
 | F | U | X | O (i:Nat) | Bo (i:Nat)
deriving DecidableEq
noncomputable def wbGo:List Ap→Nat→Env→Env→Env
 | [],_,_,ρ=>ρ
 | .O i :: r,j,ρc,ρ=>wbGo r (j + 1) ρc (ρ.set i (rg ρc j))
 | _ :: r,j,ρc,ρ=>wbGo r (j + 1) ρc ρ
noncomputable def callM (plan:List Ap) (fm:List D→Out D) (ds:List D) (ρ:Env):Out D:=match fm ds with
 | .ok d ρc=> .ok d (wbGo plan 0 ρc ρ)
 | .exc c ρc=> .exc c (wbGo plan 0 ρc ρ)
 | .bad=> .bad
noncomputable def ak8 (fm:List D→Out D) (ds:List D):Res D:=match fm ds with
 | .ok d _=> .ok d
 | .exc c _=> .exc c
 | .bad=> .bad
noncomputable def aj4 (ms:List Md) (ρ:Env):Env:=(List.range ms.length).map fun i=>match ms.getD i .F with | .O _=>rg ρ i | _=>none
section
variable (cm:Cm)
noncomputable def spM (ms:List Md) (Kr:KT D V) (fm:List D→Out D):Sp:=fun vs H Q E=>∃ B U As ds,Rel cm ms B U As (vs.map some) H (ds.map some)∧vs.length=ms.length∧match fm ds with
 | .ok d ρ'=>∀ v B' U' As' H' N,Rel cm ms B' U' As' (vs.map some) H' (aj4 ms ρ')→Ex B U B' U'→NewM N U' As'→Kr d v B' U' H' N→Q v H'
 | .exc c ρ'=>∀ B' U' As' H',Rel cm ms B' U' As' (vs.map some) H' (aj4 ms ρ')→Ex B U B' U'→∀ oa,E (.ref (cm c)) oa H'
 | .bad=>False
noncomputable def A1 (p:Ap) (B U H:Hp) (σ:St) (ρ:Env) (d:D) (v:V):Prop:=match p with
 | .F=>Dn cm B d v
 | .U=>Dn cm U d v
 | .X=>Dn cm H d v
 | .O i=>rg σ i=some v∧rg ρ i=some d
 | .Bo i=>rg σ i=some v∧rg ρ i=some d
noncomputable def Ag (B U H:Hp) (σ:St) (ρ:Env):List Ap→List D→List V→Prop
 | [],ds,vs=>ds=[]∧vs=[]
 | p :: ps,ds,vs=>∃ d dr v vr,ds=d :: dr∧vs=v :: vr∧A1 cm p B U H σ ρ d v∧Ag B U H σ ρ ps dr vr
end
section
variable {cm:Cm} {E:XK} {ms:List Md} {B U H:Hp} {As:Nat→List Addr} {σ:St} {ρ:Env}
theorem A1.mono {p:Ap} {B' U' H':Hp} {d:D} {v:V} (h:A1 cm p B U H σ ρ d v) (g:Gw B U H B' U' H'):A1 cm p B' U' H' σ ρ d v:=by
 cases p with
 | F=>exact Dn.mono g.b h
 | U=>exact Dn.mono g.u h
 | X=>exact Dn.mono g.h h
 | O i=>exact h
 | Bo i=>exact h
noncomputable def A1J (cm:Cm) (E:XK) (ms:List Md) (p:Ap) (t:TE) (m:Env→Res D):Prop:=∀ B U As σ H ρ Q,Rel cm ms B U As σ H ρ→Po cm (fun d v B U H _=>A1 cm p B U H σ ρ d v) E ms B U As σ H ρ (m ρ) Q→t σ H Q
noncomputable def AJ (cm:Cm) (E:XK) (ms:List Md) (ps:List Ap) (t:TA) (m:Env→Res (List D)):Prop:=∀ B U As σ H ρ Q,Rel cm ms B U As σ H ρ→Po cm (fun d v B U H _=>Ag cm B U H σ ρ ps d v) E ms B U As σ H ρ (m ρ) Q→t σ H Q
theorem aF {t:TE} {m:Env→Res D} (h:PJ cm (KR cm .F) E ms t m):A1J cm E ms .F t m:=fun B U As σ H ρ Q R P=>h B U As σ H ρ Q R P
theorem aU {t:TE} {m:Env→Res D} (h:PJ cm (KR cm .U) E ms t m):A1J cm E ms .U t m:=fun B U As σ H ρ Q R P=>h B U As σ H ρ Q R P
theorem aX {t:TE} {m:Env→Res D} (h:PJ cm (KR cm .X) E ms t m):A1J cm E ms .X t m:=fun B U As σ H ρ Q R P=>h B U As σ H ρ Q R P
theorem ag0:AJ cm E ms [] tNil esN:=fun B U As σ H ρ Q R P=>P [] B U H [] R (Gw.refl _ _ _) New.nil ⟨rfl,rfl⟩
theorem A1J.bnd {p:Ap} {γ δ:Type} {Kc:KT γ δ} {ta:TE} {ma:Env→Res D} (ha:A1J cm E ms p ta ma) (R:Rel cm ms B U As σ H ρ) {k:D→Res γ} {Q:δ→Hp→Prop}
 (P:Po cm Kc E ms B U As σ H ρ ((ma ρ).bind k) Q) {body:V→Hp→Prop}
 (h:∀ x v B1 U1 H1,Rel cm ms B1 U1 As σ H1 ρ→Gw B U H B1 U1 H1→A1 cm p B1 U1 H1 σ ρ x v→Po cm Kc E ms B1 U1 As σ H1 ρ (k x) Q→body v H1):ta σ H body:=by
 refine ha B U As σ H ρ body R ?_
 cases e:ma ρ with
 | ok x =>
   rw [e] at P
   exact fun v B1 U1 H1 N R1 e1 n1 k1=>h x v B1 U1 H1 R1 e1 k1 (Po.at (r:=k x) P e1)
 | exc c=>rw [e] at P; exact P
 | bad=>rw [e] at P; exact P
theorem AJ.bnd {ps:List Ap} {γ δ:Type} {Kc:KT γ δ} {ta:TA} {ma:Env→Res (List D)} (ha:AJ cm E ms ps ta ma) (R:Rel cm ms B U As σ H ρ) {k:List D→Res γ} {Q:δ→Hp→Prop}
 (P:Po cm Kc E ms B U As σ H ρ ((ma ρ).bind k) Q) {body:List V→Hp→Prop}
 (h:∀ x v B1 U1 H1,Rel cm ms B1 U1 As σ H1 ρ→Gw B U H B1 U1 H1→Ag cm B1 U1 H1 σ ρ ps x v→Po cm Kc E ms B1 U1 As σ H1 ρ (k x) Q→body v H1):ta σ H body:=by
 refine ha B U As σ H ρ body R ?_
 cases e:ma ρ with
 | ok x =>
   rw [e] at P
   exact fun v B1 U1 H1 N R1 e1 n1 k1=>h x v B1 U1 H1 R1 e1 k1 (Po.at (r:=k x) P e1)
 | exc c=>rw [e] at P; exact P
 | bad=>rw [e] at P; exact P
theorem ab0 {p:Ap} {ps:List Ap} {ta:TE} {tr:TA} {ma:Env→Res D} {mr:Env→Res (List D)} (ha:A1J cm E ms p ta ma) (hr:AJ cm E ms ps tr mr):AJ cm E ms (p :: ps) (ad7 ta tr) (esC ma mr):=by
 intro B U As σ H ρ Q R P
 refine ha.bnd R P fun x v B1 U1 H1 R1 e1 d1 P1=>hr.bnd R1 P1 fun y u B2 U2 H2 R2 e2 d2 P2=>?_
 exact P2 (v :: u) B2 U2 H2 [] R2 (Gw.refl _ _ _) New.nil ⟨x,y,v,u,rfl,rfl,d1.mono e2,d2⟩
noncomputable def fits (ms:List Md) (pure:Bool):Ap→Md→Bool
 | .F,.F=>true
 | .F,.R=>true
 | .U,.R=>true
 | .X,.R=>pure
 | .Bo _,.R=>true
 | _,_=>false
theorem Ag.len:∀ {ps:List Ap} {ds:List D} {vs:List V},Ag cm B U H σ ρ ps ds vs→ds.length=ps.length∧vs.length=ps.length
 | [],_,_,h=>by obtain ⟨rfl,rfl⟩:=h; exact ⟨rfl,rfl⟩
 | p :: ps,_,_,h=>by
   obtain ⟨d,dr,v,vr,rfl,rfl,_,h⟩:=h
   have:=Ag.len h
   exact ⟨by rw [List.length_cons,List.length_cons,this.1],by rw [List.length_cons,List.length_cons,this.2]⟩
theorem Ag.get:∀ {ps:List Ap} {ds:List D} {vs:List V} {j:Nat} {p:Ap},Ag cm B U H σ ρ ps ds vs→ps[j]?=some p→∃ d v,ds[j]?=some d∧vs[j]?=some v∧A1 cm p B U H σ ρ d v
 | [],_,_,_,_,_,e=>by cases e
 | p :: ps,_,_,j,q,h,e=>by
   obtain ⟨d,dr,v,vr,rfl,rfl,h1,h⟩:=h
   cases j with
   | zero=>cases e; exact ⟨d,v,rfl,rfl,h1⟩
   | succ j=>exact Ag.get (j:=j) h (by simpa using e)
theorem al3 {α:Type} {l:List α} {i:Nat}:rg (l.map some) i=l[i]?:=by
 unfold rg
 rw [List.getElem?_map]
 cases l[i]? <;> rfl
theorem Rel.read (R:Rel cm ms B U As σ H ρ) {i:Nat} {d:D} {v:V} (hv:rg σ i=some v) (hd:rg ρ i=some d):Dn cm H d v:=by
 have l:=R.lo i
 rw [hd] at l
 have q:=av8 l hv
 cases e:ms.getD i .F with
 | F=>rw [e] at q; exact Dn.mono R.bh q.1
 | R=>rw [e] at q; exact Dn.mono R.uh q.1
 | O s=>rw [e] at q; exact Ow.dn R.bh (fun _ _ _ q=>q) q
theorem A1.read (R:Rel cm ms B U As σ H ρ) {p:Ap} {d:D} {v:V} (h:A1 cm p B U H σ ρ d v):Dn cm H d v:=by
 cases p with
 | F=>exact Dn.mono R.bh h
 | U=>exact Dn.mono R.uh h
 | X=>exact h
 | O i=>exact R.read h.1 h.2
 | Bo i=>exact R.read h.1 h.2
noncomputable def ov (B U:Hp):Hp:=fun a=>match B a with | some o=>some o | none=>U a
theorem aU7 {msC:List Md} {Kr:KT D V} {fm:List D→Out D} {ps:List Ap} {ds:List D} {vs:List V} {Q:VK} (R:Rel cm ms B U As σ H ρ) (A:Ag cm B U H σ ρ ps ds vs) (hl:ps.length=msC.length)
 (hf:∀ (j:Nat) p,ps[j]?=some p→fits ms true p (msC.getD j .F)=true) (hU:∀ d v B U U' H N,Kr d v B U H N→Kr d v B U' H N) (P:Po cm Kr E ms B U As σ H ρ (ak8 fm ds) Q):spM cm msC Kr fm vs H Q E:=by
 have hlen:=A.len
 have Rc:Rel cm msC B H (fun _=>[]) (vs.map some) H (ds.map some):=by
  refine ⟨R.bh,Same.refl _,fun _=>List.nodup_nil,fun _ _ _ _ h=>(nomatch h),fun _ _ h=>(nomatch h),fun j=>?_,by rw [List.length_map,List.length_map,hlen.1,hlen.2],R.tb⟩
  rw [al3,al3]
  cases e:ps[j]? with
  | none =>
    have:ps.length≤j:=List.getElem?_eq_none_iff.mp e
    rw [List.getElem?_eq_none (by omega)]
    rfl
  | some p =>
    obtain ⟨d,v,ed,ev,h1⟩:=A.get e
    rw [ed,ev]
    refine ⟨v,rfl,?_⟩
    have hr:=A1.read R h1
    have q:=hf j p e
    cases em:msC.getD j .F with
    | F =>
      rw [em] at q
      cases p with
      | F=>exact ⟨h1,rfl⟩
      | _=>cases q
    | R=>exact ⟨hr,rfl⟩
    | O s=>rw [em] at q; cases p <;> cases q
 refine ⟨B,H,fun _=>[],ds,Rc,by omega,?_⟩
 have main:∀ {B' U' H':Hp} {As':Nat→List Addr} {ρc:Env},Rel cm msC B' U' As' (vs.map some) H' ρc→Ex B H B' U'→Rel cm ms B' (ov B' U) As σ H' ρ∧Gw B U H B' (ov B' U) H':=fun {B' U' H' As' ρc} R' e'=>by
  have same:∀ a o,U a=some o→∀ o',B' a=some o'→o'=o:=fun a o q o' q'=>by
   have h1:=e'.u a o (R.uh a o q)
   have h2:=R'.bu a o' q'
   rw [h1] at h2
   exact (Option.some.inj h2).symm
  have su:Same U (ov B' U):=fun a o q=>by
   unfold ov
   cases z:B' a with
   | none=>exact q
   | some o'=>rw [same a o q o' z]
  have sh:Same H H':=e'.u.trans R'.uh
  have uh:Same (ov B' U) H':=fun a o q=>by
   unfold ov at q
   cases z:B' a with
   | none=>rw [z] at q; exact sh a o (R.uh a o q)
   | some o'=>rw [z] at q; cases q; exact R'.bh a _ z
  have bu:Same B' (ov B' U):=fun a o q=>by unfold ov; rw [q]
  have new:∀ a o,B' a=some o→B a=some o∨H a=none∨aw2 o:=e'.nb
  refine ⟨R.grow e'.b su sh bu uh fun i a ha=>?_,⟨e'.b,su,fun a o q=>?_⟩,sh,fun a o q=>?_⟩
  · unfold ov
    cases z:B' a with
    | none=>exact R.un i a ha
    | some o =>
      obtain ⟨o',q'⟩:=R.at ha
      rcases new a o z with q | q | q
      · have:=R.bu a o q; rw [R.un i a ha] at this; cases this
      · rw [q] at q'; cases q'
      · have e1:=sh _ _ q'
        rw [R'.bh a o z] at e1; cases e1; exact (R.nt ha q' q).elim
  · rcases new a o q with q | q | q
    · exact .inl q
    · exact .inr (.inl (R.uh.free q))
    · exact .inr (.inr q)
  · unfold ov at q
    cases z:B' a with
    | none=>rw [z] at q; exact .inl q
    | some o' =>
      rw [z] at q
      cases q
      rcases new a _ z with q | q
      · exact .inl (R.bu a _ q)
      · exact .inr q
 cases e:fm ds with
 | ok d ρ' =>
   unfold ak8 at P
   rw [e] at P
   intro v B' U' As' H' N R' e' n' k
   obtain ⟨R2,g2⟩:=main R' e'
   refine P v B' _ H' N R2 g2 ⟨n'.nd,fun a ha=>e'.u.free (n'.un a ha),fun a ha=>?_⟩ (hU d v B' U' (ov B' U) H' N k)
   unfold ov
   have h1:=n'.un a ha
   cases z:B' a with
   | none=>exact R.uh.free (e'.u.free h1)
   | some o=>have:=R'.bu a o z; rw [h1] at this; cases this
 | exc c ρ' =>
   unfold ak8 at P
   rw [e] at P
   intro B' U' As' H' R' e'
   obtain ⟨R2,g2⟩:=main R' e'
   exact P B' _ H' R2 g2
 | bad =>
   unfold ak8 at P
   rw [e] at P
   exact P
theorem hF {d:D} {v:V} {B U U' H:Hp} {N:List Addr} (h:KR cm .F d v B U H N):KR cm .F d v B U' H N:=h
theorem hO {s:Sh} {d:D} {v:V} {B U U' H:Hp} {N:List Addr} (h:KO cm s d v B U H N):KO cm s d v B U' H N:=h
theorem aW8 {msC:List Md} {Kr:KT D V} {fm:List D→Out D} {ps:List Ap} {t:TA} {m:Env→Res (List D)} (h:AJ cm E ms ps t m) (hl:ps.length=msC.length)
 (hf:∀ (j:Nat) p,ps[j]?=some p→fits ms true p (msC.getD j .F)=true) (hU:∀ d v B U U' H N,Kr d v B U H N→Kr d v B U' H N):PJ cm Kr E ms (aG6 (spM cm msC Kr fm) [] E t) (fun ρ=>(m ρ).bind (ak8 fm)):=by
 intro B U As σ H ρ Q R P
 refine h.bnd R P fun ds vs B1 U1 H1 R1 e1 A P1=>?_
 rw [List.append_nil]
 exact aU7 R1 A hl hf hU P1
noncomputable def bn7 (c:Nat) (m:Str):D→Bool
 | .obj c' ns _=>decide (c'=c) && !ns.contains m
 | _=>false
end
section
variable {cm:Cm} {E:XK} {ms:List Md} {B U H:Hp} {As:Nat→List Addr} {σ:St} {ρ:Env}
noncomputable def fit1 (ms:List Md):Ap→Md→Prop
 | .F,.F=>True
 | .F,.R=>True
 | .U,.R=>True
 | .Bo _,.R=>True
 | .O i,.O s=>ms.getD i .F= .O s
 | _,_=>False
noncomputable def fitM (ms:List Md):List Ap→List Md→Prop
 | [],[]=>True
 | p :: ps,m :: r=>fit1 ms p m∧fitM ms ps r
 | _,_=>False
theorem fitM.len:∀ {ps:List Ap} {mc:List Md},fitM ms ps mc→ps.length=mc.length
 | [],[],_=>rfl
 | [],_ :: _,h=>h.elim
 | _ :: _,[],h=>h.elim
 | p :: ps,m :: r,h=>by rw [List.length_cons,List.length_cons,fitM.len h.2]
theorem fitM.get:∀ {ps:List Ap} {mc:List Md} {j:Nat} {p:Ap},fitM ms ps mc→ps[j]?=some p→fit1 ms p (mc.getD j .F)
 | [],_,_,_,_,e=>by cases e
 | _ :: _,[],_,_,h,_=>h.elim
 | p :: ps,m :: r,j,q,h,e=>by
   cases j with
   | zero=>cases e; exact h.1
   | succ j=>rw [List.getD_cons_succ]; exact fitM.get (j:=j) h.2 (by simpa using e)
theorem aL9 {mc:List Md} {ρc:Env} {j:Nat} {s:Sh} (h:mc.getD j .F= .O s):rg (aj4 mc ρc) j=rg ρc j:=by
 have hj:j < mc.length:=by
  by_cases z:j < mc.length
  · exact z
  · rw [List.getD_eq_getElem?_getD,List.getElem?_eq_none (by omega)] at h; cases h
 unfold aj4
 show ((((List.range mc.length).map _)[j]?).join)=_
 rw [List.getElem?_map,List.getElem?_range hj]
 show (some (match mc.getD j .F with | .O _=>rg ρc j | _=>none)).join=_
 rw [h]
 rfl
open Classical in
end
section
variable {cm:Cm} {E:XK} {ms:List Md} {B U H:Hp} {As:Nat→List Addr} {σ:St} {ρ:Env} {K:PySem.W.Frag}
structure Pth (cm:Cm) (ms:List Md) (t:TE) (get:Env→Option D) (set:Env→D→Env):Prop where
 rd:∀ {B U:Hp} {As:Nat→List Addr} {σ:St} {H:Hp} {ρ:Env} {d:D},Rel cm ms B U As σ H ρ→get ρ=some d→∃ v A,(∀ Q:VK,Q v H→t σ H Q)∧Ow cm B H d (.ct .fz) v A∧(∀ a∈A,∃ i,a∈As i) ∧
  ∀ B1 U1 H1,Rel cm ms B1 U1 As σ H1 ρ→Same B B1→Same H H1→∀ a∈A,∀ o' d',Ow cm B1 (upd H1 a o') d' (.ct .fz) v A→Rel cm ms B1 U1 As σ (upd H1 a o') (set ρ d')
theorem Rel.mut (R:Rel cm ms B U As σ H ρ) {i:Nat} {a:Addr} {o':HO} {d d':D} {v:V} {sh:Sh} (hm:ms.getD i .F= .O sh) (hv:rg σ i=some v) (hd:rg ρ i=some d) (ha:a∈As i) (w:Ow cm B (upd H a o') d' sh v (As i)) :
 Rel cm ms B U As σ (upd H a o') (ρ.set i (some d')):=by
 have hi:i < ρ.length:=(List.getElem?_eq_some_iff.mp (au8 hd)).1
 refine ⟨R.bu,fun b u q=>?_,R.nd,R.dj,R.un,fun j=>?_,by rw [List.length_set]; exact R.len,R.tb⟩
 · rw [ab7 (aa7 q (R.un i a ha))]
   exact R.uh b u q
 · rw [au7]
   by_cases e:i=j
   · subst e
     rw [if_pos ⟨rfl,hi⟩,hm]
     exact ⟨v,hv,w⟩
   · rw [if_neg fun z=>e z.1]
     exact (R.lo j).mono (Same.refl _) (Same.refl _) fun b hb=>ab7 (fun z:b=a=>R.dj i j a e ha (z ▸ hb))
noncomputable def aE3 (i:Nat):Env→Option D:=fun ρ=>rg ρ i
noncomputable def aq7 (i:Nat):Env→D→Env:=fun ρ d=>ρ.set i (some d)
theorem pthV {i:Nat} (hm:ms.getD i .F= .O (.ct .fz)):Pth cm ms (tVar i) (aE3 i) (aq7 i) where
 rd:=fun {B U As σ H ρ d} R e=>by
  replace e:rg ρ i=some d:=e
  have l:=R.lo i
  rw [e,hm] at l
  obtain ⟨v,hv,w⟩:=l
  exact ⟨v,As i,fun Q q=>⟨v,au8 hv,q⟩,w,fun a ha=>⟨i,ha⟩,fun B1 U1 H1 R1 _ _ a ha o' d' w'=>R1.mut hm hv e ha w'⟩
noncomputable def lstK (set:Env→D→Env) (ρ:Env):Option (D×List D)→Out D
 | some (d,es)=> .ok d (set ρ (.lst es))
 | none=> .bad
noncomputable def lstR (set:Env→D→Env) (f:List D→D→Option (D×List D)) (ρ:Env) (xs:List D):Res D→Out D
 | .ok x=>lstK set ρ (f xs x)
 | .exc c=> .exc c ρ
 | .bad=> .bad
noncomputable def lst1 (get:Env→Option D) (set:Env→D→Env) (f:List D→D→Option (D×List D)) (me:Env→Res D):Env→Out D:=fun ρ=>match get ρ with
 | some (.lst xs)=>lstR set f ρ xs (me ρ)
 | _=> .bad
theorem Ow.lst {d:D} {v:V} {A:List Addr} {ds:List D} (w:Ow cm B H d (.ct .fz) v A) (e:d= .lst ds):∃ a xs,v= .ref a∧H a=some (.lst xs)∧A=[a]∧Dns cm B ds xs:=by
 subst e
 rw [Ow] at w
 obtain ⟨a,xs,A',r,h1,h2,h3⟩:=w
 obtain ⟨h4,h5⟩:=Ows.fz h3
 exact ⟨a,xs,r,h1,by rw [h2,h5],h4⟩
theorem Ow.lst' {a:Addr} {ds:List D} {xs:List V} (h:H a=some (.lst xs)) (d:Dns cm B ds xs):Ow cm B H (.lst ds) (.ct .fz) (.ref a) [a]:=by
 rw [Ow]
 exact ⟨a,xs,[],rfl,h,rfl,Ows.of d⟩
section
variable {t:TE} {get:Env→Option D} {set:Env→D→Env}
theorem bn8 {k:Kd} {r:V→List V→Hp→VK→Prop} {f:List D→D→Option (D×List D)} {te:TE} {me:Env→Res D} (p:Pth cm ms t get set) (he:PJ cm (KR cm k) E ms te me)
 (hr:∀ (B U H:Hp) (a:Addr) (ds:List D) (xs:List V) (x:D) (u:V) (d:D) (es:List D) (Q:VK),Same B U→Same U H→H a=some (.lst xs)→Dns cm B ds xs→Dn cm (hp k B U H) x u→f ds x=some (d,es)→(∀ v ys,Dn cm B d v→Dns cm B es ys→Q v (upd H a (.lst ys)))→r (.ref a) [u] H Q) :
 MJ cm (KR cm .F) E ms (tBM K "list" r t (ad7 te tNil)) (lst1 get set f me):=by
 intro B U As σ H ρ Q R P
 unfold lst1 at P
 cases e:get ρ with
 | none=>rw [e] at P; exact P.elim
 | some d0 =>
   cases d0 with
   | lst ds =>
     rw [e] at P
     replace P:Mo cm (KR cm .F) E ms B U σ (lstR set f ρ ds (me ρ)) Q:=P
     obtain ⟨v,A,ht,w,hA,cl⟩:=p.rd R e
     obtain ⟨a,xs,rfl,h1,rfl,h2⟩:=w.lst rfl
     refine ht _ ⟨.inl ⟨rfl,xs,SqL.of h1⟩,he B U As σ H ρ _ R ?_⟩
     cases em:me ρ with
     | ok x =>
       rw [em] at P
       replace P:Mo cm (KR cm .F) E ms B U σ (lstK set ρ (f ds x)) Q:=P
       intro u B1 U1 H1 N R1 g1 n1 hu
       cases ef:f ds x with
       | none=>rw [ef] at P; exact P.elim
       | some de =>
         obtain ⟨d,es⟩:=de
         rw [ef] at P
         refine hr B1 U1 H1 a ds xs x u d es Q R1.bu R1.uh (g1.h _ _ h1) (h2.mono g1.b) hu ef fun v ys hv hy=>?_
         exact P v B1 U1 As _ [] (cl B1 U1 H1 R1 g1.b g1.h a List.mem_cons_self _ _ (Ow.lst' ad5 hy)) g1.toEx NewM.nil hv
     | exc c=>rw [em] at P; exact fun B1 U1 H1 R1 g1=>P B1 U1 As H1 R1 g1.toEx
     | bad=>rw [em] at P; exact P.elim
   | _=>rw [e] at P; exact P.elim
noncomputable def appF (xs:List D) (x:D):Option (D×List D):=if xs.length < ab4 then some (.non,xs ++ [x]) else none
theorem ak9 {te:TE} {me:Env→Res D} (p:Pth cm ms t get set) (he:PJ cm (KR cm .F) E ms te me):MJ cm (KR cm .F) E ms (tBM K "list" aA0 t (ad7 te tNil)) (lst1 get set appF me) :=
 bn8 (f:=appF) p he fun B U H a ds xs x u d es Q _ _ h1 h2 hu ef k=>by
  unfold appF at ef
  by_cases z:ds.length < ab4
  · rw [if_pos z] at ef
    cases ef
    exact ⟨a,xs,u,rfl,rfl,h1,am0 (Nat.le_of_lt (by rw [← h2.len]; exact z)),k .non _ (by rw [Dn]) (h2.append (Dns.one hu))⟩
  · rw [if_neg z] at ef
    cases ef
noncomputable def popF (xs:List D) (x:D):Option (D×List D):=match x with
 | .int i=>if 0≤i∧i < xs.length∧xs.length≤ab4 then xs[i.toNat]?.map fun d=>(d,xs.eraseIdx i.toNat) else none
 | _=>none
theorem bf0 {te:TE} {me:Env→Res D} (p:Pth cm ms t get set) (he:PJ cm (KR cm .X) E ms te me):MJ cm (KR cm .F) E ms (tBM K "list" aW2 t (ad7 te tNil)) (lst1 get set popF me) :=
 bn8 (f:=popF) p he fun B U H a ds xs x u d es Q _ _ h1 h2 hu ef k=>by
  cases x with
  | int i =>
    have hu:Dn cm H (.int i) u:=hu
    rw [Dn] at hu
    subst hu
    replace ef:(if 0≤i∧i < ds.length∧ds.length≤ab4 then ds[i.toNat]?.map fun d=>(d,ds.eraseIdx i.toNat) else none)=some (d,es):=ef
    by_cases z:0≤i∧i < ds.length∧ds.length≤ab4
    · rw [if_pos z] at ef
      obtain ⟨y,ey,e2⟩:=Option.map_eq_some_iff.mp ef
      cases e2
      obtain ⟨w,hw,dw⟩:=h2.get ey
      obtain ⟨z1,z2,z3⟩:=z
      unfold ab4 at z3
      refine ⟨a,xs,i,i.toNat,w,rfl,rfl,h1,by omega,by omega,?_,hw,k w _ dw (h2.erase _)⟩
      refine (aM0 ?_).1
      unfold ixN
      rw [if_pos z1,if_pos (by rw [← h2.len]; exact z2)]
    · rw [if_neg z] at ef
      cases ef
  | _=>cases ef
noncomputable def aQ2 (i:Nat) (x:D) (ρ:Env):Out D:=match rg ρ i with
 | some (.lst xs)=>lstK (aq7 i) ρ (appF xs x)
 | _=> .bad
noncomputable def appM (i:Nat) (me:Env→Out D):Env→Out D:=fun ρ=>match rg ρ i with
 | some (.lst _)=>(me ρ).bind (aQ2 i)
 | _=> .bad
theorem aL3 {i:Nat} {te:TE} {me:Env→Out D} (hm:ms.getD i .F= .O (.ct .fz)) (he:MJ cm (KR cm .F) E ms te me):MJ cm (KR cm .F) E ms (tBM K "list" aA0 (tVar i) (ad7 te tNil)) (appM i me):=by
 intro B U As σ H ρ Q R P
 unfold appM at P
 cases e:rg ρ i with
 | none=>rw [e] at P; exact P.elim
 | some d0 =>
   cases d0 with
   | lst ds =>
     rw [e] at P
     replace P:Mo cm (KR cm .F) E ms B U σ ((me ρ).bind (aQ2 i)) Q:=P
     have l:=R.lo i
     rw [e,hm] at l
     obtain ⟨v,hv,w⟩:=l
     obtain ⟨a,xs,rfl,h1,_,h2⟩:=Ow.lst w rfl
     refine ⟨.ref a,au8 hv,.inl ⟨rfl,xs,SqL.of h1⟩,he.bnd R P fun x ρ' u B1 U1 As1 H1 N R1 e1 n1 hu P1=>?_⟩
     have l1:=R1.lo i
     unfold aQ2 at P1
     cases e2:rg ρ' i with
     | none=>rw [e2] at P1; exact P1.elim
     | some d2 =>
       cases d2 with
       | lst ds2 =>
         rw [e2] at P1
         rw [e2,hm,hv] at l1
         have w1:=av8 l1 rfl
         obtain ⟨a',xs2,ea,h3,h4,h5⟩:=Ow.lst w1 rfl
         cases ea
         replace P1:Mo cm (KR cm .F) E ms B1 U1 σ (lstK (aq7 i) ρ' (appF ds2 x)) Q:=P1
         unfold appF at P1
         by_cases z:ds2.length < ab4
         · rw [if_pos z] at P1
           refine ⟨a,xs2,u,rfl,rfl,h3,am0 (Nat.le_of_lt (by rw [← h5.len]; exact z)),?_⟩
           refine P1 .non B1 U1 As1 _ [] (R1.mut hm hv e2 (by rw [h4]; exact List.mem_cons_self) ?_) (Ex.refl _ _) NewM.nil (show Dn cm B1 .non .non by rw [Dn])
           rw [h4]
           exact Ow.lst' ad5 (h5.append (Dns.one hu))
         · rw [if_neg z] at P1
           exact P1.elim
       | _=>rw [e2] at P1; exact P1.elim
   | _=>rw [e] at P; exact P.elim
end
end
section
variable {cm:Cm} {E:XK} {Kr:KT D V} {pr:Nat→Bool} {ms:List Md} {B U H:Hp} {As:Nat→List Addr} {σ:St} {ρ:Env} {K:PySem.W.Frag}
theorem Ow.dT {d:D} {v:V} {A:List Addr} {ks:List (List Key)} {ds:List D} (w:Ow cm B H d (.ct .fz) v A) (e:d= .dT ks ds):∃ (a:Addr) (kvs:List (List Key×V)),v= .ref a∧H a=some (.dT kvs)∧kvs.map (·.1)=ks∧A=[a]∧Dns cm B ds (kvs.map (·.2)):=by
 subst e
 rw [Ow] at w
 obtain ⟨a,xs,A',r,h1,h2,h3,h4⟩:=w
 obtain ⟨h5,h6⟩:=Ows.fz h4
 exact ⟨a,xs,r,h1,h2,by rw [h3,h6],h5⟩
theorem Ow.dK {d:D} {v:V} {A:List Addr} {ks:List Key} {ds:List D} (w:Ow cm B H d (.ct .fz) v A) (e:d= .dK ks ds):∃ (a:Addr) (kvs:List (Key×V)),v= .ref a∧H a=some (.dK kvs)∧kvs.map (·.1)=ks∧A=[a]∧Dns cm B ds (kvs.map (·.2)):=by
 subst e
 rw [Ow] at w
 obtain ⟨a,xs,A',r,h1,h2,h3,h4⟩:=w
 obtain ⟨h5,h6⟩:=Ows.fz h4
 exact ⟨a,xs,r,h1,h2,by rw [h3,h6],h5⟩
noncomputable def prO (ms:List Md) (np:Nat):Nat→Bool:=fun j=>decide (j < np) && (match ms.getD j .F with | .O _=>true | _=>false)
theorem aI9 {α:Type} {l:List (Option α)} {n i:Nat}:rg (l ++ List.replicate n none) i=rg l i:=by
 unfold rg
 by_cases h:i < l.length
 · rw [List.getElem?_append_left h]
 · rw [List.getElem?_append_right (by omega),List.getElem?_eq_none (show l.length≤i by omega)]
   by_cases h2:i - l.length < n
   · rw [List.getElem?_replicate,if_pos h2]; rfl
   · rw [List.getElem?_replicate,if_neg h2]
noncomputable def runO (k:Nat) (body:Env→SO) (ds:List D):Out D:=match body (ds.map some ++ List.replicate (k - ds.length) none) with
 | .rt d ρ=> .ok d ρ
 | .exc c ρ=> .exc c ρ
 | _=> .bad
theorem Rel.enter {more:List Md} {vs:List V} {ds:List D} {n:Nat} (R:Rel cm ms B U As (vs.map some) H (ds.map some)) (hl:vs.length=ms.length):Rel cm (ms ++ more) B U As (vs.map some ++ List.replicate n none) H (ds.map some ++ List.replicate n none):=by
 have hd:ds.length=vs.length:=by have:=R.len; rw [List.length_map,List.length_map] at this; exact this
 refine ⟨R.bu,R.uh,R.nd,R.dj,R.un,fun i=>?_,by rw [List.length_append,List.length_append,R.len,List.length_replicate,List.length_replicate],R.tb⟩
 rw [aI9,aI9]
 have l:=R.lo i
 by_cases h:i < ms.length
 · rw [List.getD_eq_getElem?_getD,List.getElem?_append_left h,← List.getD_eq_getElem?_getD]
   exact l
 · have:rg (ds.map some) i=none:=by rw [al3,List.getElem?_eq_none (by omega)]
   rw [this] at l ⊢
   exact l
theorem Rel.leave {more:List Md} {vs:List V} {σ':St} {ρ':Env} {n:Nat} (hl:vs.length=ms.length) (R:Rel cm (ms ++ more) B U As σ' H ρ') (k:Kp (prO ms ms.length) (vs.map some ++ List.replicate n none) σ') :
 ∃ As',Rel cm ms B U As' (vs.map some) H (aj4 ms ρ')∧∀ N,NewM N U As→NewM N U As':=by
 refine ⟨fun i=>if prO ms ms.length i=true then As i else [],⟨R.bu,R.uh,fun i=>?_,fun i j a hne ha hb=>?_,fun i a ha=>?_,fun i=>?_,?_,R.tb⟩,fun N n=>⟨n.nd,n.un,fun a ha i=>?_⟩⟩
 · show (if prO ms ms.length i=true then As i else []).Nodup
   split
   · exact R.nd i
   · exact List.nodup_nil
 · replace ha:a∈(if prO ms ms.length i=true then As i else []):=ha
   replace hb:a∈(if prO ms ms.length j=true then As j else []):=hb
   split at ha
   · split at hb
     · exact R.dj i j a hne ha hb
     · cases hb
   · cases ha
 · replace ha:a∈(if prO ms ms.length i=true then As i else []):=ha
   split at ha
   · exact R.un i a ha
   · cases ha
 · show Lo cm B U H (ms.getD i .F) (rg (aj4 ms ρ') i) (rg (vs.map some) i) (if prO ms ms.length i=true then As i else [])
   by_cases hi:i < ms.length
   · have eg:(ms ++ more).getD i .F=ms.getD i .F:=by
      rw [List.getD_eq_getElem?_getD,List.getElem?_append_left hi,← List.getD_eq_getElem?_getD]
     cases em:ms.getD i .F with
     | O s =>
       have hp:prO ms ms.length i=true:=by unfold prO; rw [em,decide_eq_true hi]; rfl
       rw [if_pos hp,aL9 em]
       have l:=R.lo i
       rw [eg,em,k i hp,aI9] at l
       exact l
     | F =>
       have hp:prO ms ms.length i=false:=by unfold prO; rw [em]; simp
       have hk:rg (aj4 ms ρ') i=none:=by
        unfold aj4 rg
        rw [List.getElem?_map,List.getElem?_range hi]
        show (some (match ms.getD i .F with | .O _=>_ | _=>none)).join=none
        rw [em]; rfl
       rw [hp,hk]
       exact rfl
     | R =>
       have hp:prO ms ms.length i=false:=by unfold prO; rw [em]; simp
       have hk:rg (aj4 ms ρ') i=none:=by
        unfold aj4 rg
        rw [List.getElem?_map,List.getElem?_range hi]
        show (some (match ms.getD i .F with | .O _=>_ | _=>none)).join=none
        rw [em]; rfl
       rw [hp,hk]
       exact rfl
   · have hp:prO ms ms.length i=false:=by unfold prO; rw [decide_eq_false hi]; rfl
     have hk:rg (aj4 ms ρ') i=none:=by
      unfold aj4 rg
      rw [List.getElem?_eq_none (by rw [List.length_map,List.length_range]; omega)]
      rfl
     rw [hp,hk]
     exact rfl
 · unfold aj4
   rw [List.length_map,List.length_map,List.length_range,hl]
 · show a∉(if prO ms ms.length i=true then As i else [])
   split
   · exact n.ap a ha i
   · simp
theorem ae4 {vs:List V} {Q:VK} {fm:List D→Out D} (h:spM cm ms Kr fm vs H Q E):vs.length=ms.length:=by
 obtain ⟨_,_,_,_,_,hl,_⟩:=h
 exact hl
end
end Mi
namespace Mi
open PySem PySem.Spec L2
mutual
noncomputable def toPy:D→Option PyData
 | .non=>some .none
 | .bl b=>some (.bool b)
 | .int i=>some (.int i)
 | .str x=>some (.str x)
 | .lst xs=>(toPys xs).map .list
 | .scr xs=>(toPys xs).map .list
 | .tup xs=>(toPys xs).map .tuple
 | .ty _=>none
 | .dK _ _=>none
 | .dT _ _=>none
 | .obj _ _ _=>none
noncomputable def toPys:List D→Option (List PyData)
 | []=>some []
 | d :: r=>match toPy d,toPys r with
   | some p,some q=>some (p :: q)
   | _,_=>none
end
section
variable {cm:Cm} {E:XK} {Kr:KT D V} {pr:Nat→Bool} {ms:List Md} {B U H:Hp} {As:Nat→List Addr} {σ:St} {ρ:Env} {K:PySem.W.Frag}
mutual
theorem den_of:∀ {d:D} {p:PyData} {v:V},toPy d=some p→Dn cm H d v→L2.Den cm.K H p v
 | .non,p,v,e,h=>by rw [Dn] at h; cases e; rw [L2.Den]; exact h
 | .bl _,p,v,e,h=>by rw [Dn] at h; cases e; rw [L2.Den]; exact h
 | .int _,p,v,e,h=>by rw [Dn] at h; cases e; rw [L2.Den]; exact h
 | .str _,p,v,e,h=>by rw [Dn] at h; cases e; rw [L2.Den]; exact h
 | .lst xs,p,v,e,h=>by
   rw [Dn] at h
   obtain ⟨a,ys,rfl,h1,h2⟩:=h
   rw [toPy] at e
   obtain ⟨ps,e1,rfl⟩:=Option.map_eq_some_iff.mp e
   rw [L2.Den]
   exact ⟨a,ys,rfl,SqL.of h1,dens_of e1 h2⟩
 | .scr xs,p,v,e,h=>by
   rw [Dn] at h
   obtain ⟨a,ys,rfl,h1,h2⟩:=h
   rw [toPy] at e
   obtain ⟨ps,e1,rfl⟩:=Option.map_eq_some_iff.mp e
   rw [L2.Den]
   exact ⟨a,ys,rfl,h1.sq,dens_of e1 h2⟩
 | .tup xs,p,v,e,h=>by
   rw [Dn] at h
   obtain ⟨a,ys,rfl,h1,h2⟩:=h
   rw [toPy] at e
   obtain ⟨ps,e1,rfl⟩:=Option.map_eq_some_iff.mp e
   rw [L2.Den]
   exact ⟨a,ys,rfl,SqT.of h1,dens_of e1 h2⟩
 | .ty _,p,v,e,h=>by cases e
 | .dK _ _,p,v,e,h=>by cases e
 | .dT _ _,p,v,e,h=>by cases e
 | .obj _ _ _,p,v,e,h=>by cases e
theorem dens_of:∀ {ds:List D} {ps:List PyData} {xs:List V},toPys ds=some ps→Dns cm H ds xs→L2.Dens cm.K H ps xs
 | [],ps,xs,e,h=>by rw [Dns] at h; rw [toPys] at e; cases e; rw [L2.Dens]; exact h
 | d :: ds,ps,xs,e,h=>by
   rw [Dns] at h
   obtain ⟨x,r,rfl,h1,h2⟩:=h
   rw [toPys] at e
   cases e1:toPy d with
   | none=>rw [e1] at e; cases e
   | some p =>
     cases e2:toPys ds with
     | none=>rw [e1,e2] at e; cases e
     | some q =>
       rw [e1,e2] at e
       cases e
       rw [L2.Dens]
       exact ⟨x,r,rfl,den_of e1 h1,dens_of e2 h2⟩
end
noncomputable def eqD (neg:Bool) (x y:D):Res D:=match toPy x,toPy y with
 | some p,some q=>if SeqAt.shaped p=true∧SeqAt.shaped q=true then .ok (.bl (neg.xor (PyData.eqv p q))) else .bad
 | _,_=> .bad
theorem aV1 {neg:Bool}:S2 cm (rEqD cm.K neg) (eqD neg):=by
 intro H x y v u hx hy
 unfold eqD
 cases e1:toPy x with
 | none=>trivial
 | some p =>
   cases e2:toPy y with
   | none=>trivial
   | some q =>
     dsimp only
     by_cases z:SeqAt.shaped p=true∧SeqAt.shaped q=true
     · rw [if_pos z]
       refine ⟨.bl _,fun _=>by rw [Dn],fun Q h=>⟨p,q,den_of e1 hx,den_of e2 hy,z.1,z.2,?_⟩⟩
       cases neg <;> simpa using h
     · rw [if_neg z]; trivial
noncomputable def inD (x y:D):Res D:=match toPy x,toPy y with
 | some p,some (.list xs)=>if SeqAt.shaped p=true∧SeqAt.shaped (.list xs)=true∧(xs.all fun z=>SeqAt.noMix z p)=true then .ok (.bl (decide (countIn p xs≠0))) else .bad
 | _,_=> .bad
theorem bj4:S2 cm (fun x y H Q=>∃ d xs,L2.Den cm.K H d x∧L2.Den cm.K H (.list xs) y∧SeqAt.shaped d=true∧SeqAt.shaped (.list xs)=true∧(∀ z∈xs,SeqAt.noMix z d=true)∧Q (.bl (decide (countIn d xs≠0))) H) inD:=by
 intro H x y v u hx hy
 unfold inD
 cases e1:toPy x with
 | none=>trivial
 | some p =>
   cases e2:toPy y with
   | none=>trivial
   | some q =>
     cases q with
     | list xs =>
       dsimp only
       by_cases z:SeqAt.shaped p=true∧SeqAt.shaped (.list xs)=true∧(xs.all fun z=>SeqAt.noMix z p)=true
       · rw [if_pos z]
         exact ⟨.bl _,fun _=>by rw [Dn],fun Q h=>⟨p,xs,den_of e1 hx,den_of e2 hy,z.1,z.2.1,fun y hy=>List.all_eq_true.mp z.2.2 y hy,h⟩⟩
       · rw [if_neg z]; trivial
     | _=>trivial
noncomputable def aG2:D→Option String
 | .non=>some "NoneType" | .bl _=>some "bool" | .int _=>some "int" | .str _=>some "str" | .lst _=>some "list" | .tup _=>some "tuple" | .dK _ _=>some "dict" | .dT _ _=>some "dict"
 | .ty _=>none | .obj _ _ _=>none | .scr _=>none
noncomputable def kit (t n:String):Option Bool:=PySem.W.kitOne [] (.type t) (.type n)
noncomputable def isT (x y:D):Res D:=match y,aG2 x with
 | .ty n,some t=>(match kit t n with | some b=> .ok (.bl b) | none=> .bad)
 | _,_=> .bad
theorem aG1 {d:D} {v:V} {t:String} (e:aG2 d=some t) (h:Dn cm H d v):TyOf K H v (.type t):=by
 cases d with
 | non=>rw [Dn] at h; cases e; subst h; exact .non
 | bl b=>rw [Dn] at h; cases e; subst h; exact .bl b
 | int i=>rw [Dn] at h; cases e; subst h; exact .int i
 | str x=>rw [Dn] at h; cases e; subst h; exact .str x
 | lst _=>rw [Dn] at h; cases e; obtain ⟨a,xs,rfl,h1,_⟩:=h; exact .lst h1
 | scr _=>cases e
 | tup _=>rw [Dn] at h; cases e; obtain ⟨a,xs,rfl,h1,_⟩:=h; exact .tup h1
 | dK _ _=>rw [Dn] at h; cases e; obtain ⟨a,xs,rfl,h1,_⟩:=h; exact .dK h1
 | dT _ _=>rw [Dn] at h; cases e; obtain ⟨a,xs,rfl,h1,_⟩:=h; exact .dT h1
 | ty _=>cases e
 | obj _ _ _=>cases e
theorem aI6:S2 cm (fun v u H Q=>∃ x c t b,[v,u]=[x,.ty c]∧TyOf K H x t∧PySem.W.kitOne K t (.type c)=some b∧Q (.bl b) H) isT:=by
 intro H x y v u hx hy
 unfold isT
 cases y with
 | ty n =>
   cases e:aG2 x with
   | none=>trivial
   | some t =>
     dsimp only
     cases e2:kit t n with
     | none=>trivial
     | some b =>
       rw [Dn] at hy
       subst hy
       exact ⟨.bl b,fun _=>by rw [Dn],fun Q h=>⟨v,n,_,b,rfl,aG1 e hx,e2,h⟩⟩
 | _=>trivial
noncomputable def mvS (i:Nat):Env→Out D:=fun ρ=>match rg ρ i with | some d=> .ok d (ρ.set i none) | none=> .bad
theorem Rel.take (R:Rel cm ms B U As σ H ρ) (i:Nat):Rel cm ms B U (fun j=>if j=i then [] else As j) σ H (ρ.set i none)∧∀ a∈As i,U a=none∧∀ j,a∉(fun j=>if j=i then [] else As j) j:=by
 refine ⟨⟨R.bu,R.uh,fun j=>?_,fun j k a hne ha hb=>?_,fun j a ha=>?_,fun j=>?_,by rw [List.length_set]; exact R.len,R.tb⟩,fun a ha=>⟨R.un i a ha,fun j hj=>?_⟩⟩
 · show (if j=i then [] else As j).Nodup
   split
   · exact List.nodup_nil
   · exact R.nd j
 · replace ha:a∈(if j=i then [] else As j):=ha
   replace hb:a∈(if k=i then [] else As k):=hb
   split at ha
   · cases ha
   · split at hb
     · cases hb
     · exact R.dj j k a hne ha hb
 · replace ha:a∈(if j=i then [] else As j):=ha
   split at ha
   · cases ha
   · exact R.un j a ha
 · show Lo cm B U H (ms.getD j .F) (rg (ρ.set i none) j) (rg σ j) (if j=i then [] else As j)
   rw [au7]
   by_cases e:i=j
   · subst e
     rw [if_pos rfl]
     by_cases h:i < ρ.length
     · rw [if_pos ⟨rfl,h⟩]; exact rfl
     · rw [if_neg fun z=>h z.2]
       have:rg ρ i=none:=by unfold rg; rw [List.getElem?_eq_none (by omega)]; rfl
       rw [this]; exact rfl
   · rw [if_neg fun z=>e z.1,if_neg fun z=>e z.symm]
     exact R.lo j
 · replace hj:a∈(if j=i then [] else As j):=hj
   split at hj
   · cases hj
   · rename_i z; exact R.dj i j a (fun q=>z q.symm) ha hj
theorem m_mv {i:Nat} {s:Sh} (hm:ms.getD i .F= .O s):MJ cm (KO cm s) E ms (tVar i) (mvS i):=by
 intro B U As σ H ρ Q R P
 unfold mvS at P
 have l:=R.lo i
 cases e:rg ρ i with
 | none=>rw [e] at P; exact P.elim
 | some d =>
   rw [e] at P
   rw [e,hm] at l
   obtain ⟨v,hv,w⟩:=l
   obtain ⟨R2,h2⟩:=R.take i
   exact ⟨v,au8 hv,P v B U _ H (As i) R2 (Ex.refl _ _) ⟨R.nd i,fun a ha=>(h2 a ha).1,fun a ha=>(h2 a ha).2⟩ w⟩
noncomputable def af3:D→Bool | .int _=>true | .bl _=>true | .non=>true | .str _=>true | _=>false
theorem az7 {G G':Hp} {d:D} {v:V} (h:af3 d=true) (q:Dn cm G d v):Dn cm G' d v:=by
 cases d with
 | int _=>rw [Dn] at q ⊢; exact q
 | bl _=>rw [Dn] at q ⊢; exact q
 | non=>rw [Dn] at q ⊢; exact q
 | str _=>rw [Dn] at q ⊢; exact q
 | _=>cases h
theorem rS {k:Kd} {t:TE} {m:Env→Res D} (h:PJ cm (KR cm .X) E ms t m):PJ cm (KR cm .F) E ms t (fun ρ=>(m ρ).bind fun d=>if af3 d=true then .ok d else .bad):=by
 intro B U As σ H ρ Q R P
 refine h.bnd R P fun x v B1 U1 H1 N1 _ R1 e1 n1 d1 P1=>?_
 by_cases z:af3 x=true
 · rw [if_pos z] at P1
   exact P1 v B1 U1 H1 [] R1 (Gw.refl _ _ _) New.nil (az7 z d1)
 · rw [if_neg z] at P1
   exact P1.elim
noncomputable def ag7:List D→Option (List Int)
 | []=>some []
 | .int i :: r=>(ag7 r).map (i :: ·)
 | _ :: _=>none
theorem aj6 {G:Hp}:∀ {ds:List D} {ns:List Int} {xs:List V},ag7 ds=some ns→Dns cm G ds xs→xs=ns.map V.int
 | [],ns,xs,e,h=>by rw [Dns] at h; cases e; rw [h]; rfl
 | d :: ds,ns,xs,e,h=>by
   rw [Dns] at h
   obtain ⟨x,r,rfl,h1,h2⟩:=h
   cases d with
   | int i =>
     rw [ag7] at e
     obtain ⟨ms,e1,rfl⟩:=Option.map_eq_some_iff.mp e
     rw [Dn] at h1
     rw [aj6 e1 h2,h1,List.map_cons]
   | _=>cases e
noncomputable def ac5:List Int→Int→Int
 | [],m=>m
 | x :: r,m=>ac5 r (if x < m then x else m)
noncomputable def af4:List Int→Int→Int
 | [],m=>m
 | x :: r,m=>af4 r (if m < x then x else m)
theorem ah1:∀ (l:List Int) (m:Int),(ac5 l m=m∨ac5 l m∈l)∧ac5 l m≤m∧∀ x∈l,ac5 l m≤x
 | [],m=>⟨.inl rfl,Int.le_refl _,fun _ h=>(nomatch h)⟩
 | x :: r,m=>by
   unfold ac5
   obtain ⟨h1,h2,h3⟩:=ah1 r (if x < m then x else m)
   refine ⟨?_,?_,fun y hy=>?_⟩
   · rcases h1 with h1 | h1
     · by_cases z:x < m
       · rw [if_pos z] at h1 ⊢; exact .inr (by rw [h1]; exact List.mem_cons_self)
       · rw [if_neg z] at h1 ⊢; exact .inl h1
     · exact .inr (List.mem_cons_of_mem _ h1)
   · split at h2 <;> split <;> omega
   · rcases List.mem_cons.mp hy with z | z
     · subst z; split at h2 <;> split <;> omega
     · exact h3 y z
theorem aj3:∀ (l:List Int) (m:Int),(af4 l m=m∨af4 l m∈l)∧m≤af4 l m∧∀ x∈l,x≤af4 l m
 | [],m=>⟨.inl rfl,Int.le_refl _,fun _ h=>(nomatch h)⟩
 | x :: r,m=>by
   unfold af4
   obtain ⟨h1,h2,h3⟩:=aj3 r (if m < x then x else m)
   refine ⟨?_,?_,fun y hy=>?_⟩
   · rcases h1 with h1 | h1
     · by_cases z:m < x
       · rw [if_pos z] at h1 ⊢; exact .inr (by rw [h1]; exact List.mem_cons_self)
       · rw [if_neg z] at h1 ⊢; exact .inl h1
     · exact .inr (List.mem_cons_of_mem _ h1)
   · split at h2 <;> split <;> omega
   · rcases List.mem_cons.mp hy with z | z
     · subst z; split at h2 <;> split <;> omega
     · exact h3 y z
noncomputable def extD (f:List Int→Int→Int) (x d:D):Res D:=match x with
 | .lst ds=>(match ag7 ds with | some []=>(if af3 d=true then .ok d else .bad) | some (n :: ns)=> .ok (.int (f ns n)) | none=> .bad)
 | _=> .bad
theorem bk2 {ta td:TE} {ma md:Env→Res D} (ha:PJ cm (KR cm .X) E ms ta ma) (hd:PJ cm (KR cm .X) E ms td md) :
 PJ cm (KR cm .F) E ms (tCBK (fun xs zs H Q=>∃ p ns d,xs=[.ref p]∧zs=[d]∧SqL K H p (ns.map V.int)∧(ns=[]→Q d H)∧∀ m∈ns,(∀ x∈ns,m≤x)→Q (.int m) H) (ad7 ta tNil) (ad7 td tNil)) (bn (extD ac5) ma md):=by
 intro B U As σ H ρ Q R P
 refine ha.bnd R P fun x v B1 U1 H1 N1 _ R1 e1 n1 d1 P1=>hd.bnd R1 P1 fun y u B2 U2 H2 N2 _ R2 e2 n2 d2 P2=>?_
 have d1:Dn cm H1 x v:=d1
 cases x with
 | lst ds =>
   rw [Dn] at d1
   obtain ⟨a,xs,rfl,h1,h2⟩:=d1
   replace P2:Po cm (KR cm .F) E ms B2 U2 As σ H2 ρ (match ag7 ds with | some []=>(if af3 y=true then .ok y else .bad) | some (n :: ns)=> .ok (.int (ac5 ns n)) | none=> .bad) Q:=P2
   cases ei:ag7 ds with
   | none=>rw [ei] at P2; exact P2.elim
   | some ns =>
     have ex:=aj6 ei h2
     subst ex
     cases ns with
     | nil =>
       rw [ei] at P2
       replace P2:Po cm (KR cm .F) E ms B2 U2 As σ H2 ρ (if af3 y=true then .ok y else .bad) Q:=P2
       by_cases z:af3 y=true
       · rw [if_pos z] at P2
         exact ⟨a,[],u,rfl,rfl,SqL.of (e2.h _ _ h1),fun _=>P2 u B2 U2 H2 [] R2 (Gw.refl _ _ _) New.nil (az7 z d2),fun m hm=>(nomatch hm)⟩
       · rw [if_neg z] at P2; exact P2.elim
     | cons n ns =>
       rw [ei] at P2
       refine ⟨a,n :: ns,u,rfl,rfl,SqL.of (e2.h _ _ h1),(fun z=>by cases z),fun m hm hle=>?_⟩
       obtain ⟨s1,s2,s3⟩:=ah1 ns n
       have em:m=ac5 ns n:=by
        have l1:ac5 ns n∈n :: ns:=by
         rcases s1 with z | z
         · rw [z]; exact List.mem_cons_self
         · exact List.mem_cons_of_mem _ z
        have l2:=hle _ l1
        rcases List.mem_cons.mp hm with z | z
        · rw [z] at l2 ⊢; omega
        · have:=s3 m z; omega
       rw [em]
       exact P2 _ B2 U2 H2 [] R2 (Gw.refl _ _ _) New.nil (show Dn cm _ (.int (ac5 ns n)) _ by rw [Dn])
 | _=>exact P2.elim
theorem bk3 {ta td:TE} {ma md:Env→Res D} (ha:PJ cm (KR cm .X) E ms ta ma) (hd:PJ cm (KR cm .X) E ms td md) :
 PJ cm (KR cm .F) E ms (tCBK (fun xs zs H Q=>∃ p ns d,xs=[.ref p]∧zs=[d]∧SqL K H p (ns.map V.int)∧(ns=[]→Q d H)∧∀ m∈ns,(∀ x∈ns,x≤m)→Q (.int m) H) (ad7 ta tNil) (ad7 td tNil)) (bn (extD af4) ma md):=by
 intro B U As σ H ρ Q R P
 refine ha.bnd R P fun x v B1 U1 H1 N1 _ R1 e1 n1 d1 P1=>hd.bnd R1 P1 fun y u B2 U2 H2 N2 _ R2 e2 n2 d2 P2=>?_
 have d1:Dn cm H1 x v:=d1
 cases x with
 | lst ds =>
   rw [Dn] at d1
   obtain ⟨a,xs,rfl,h1,h2⟩:=d1
   replace P2:Po cm (KR cm .F) E ms B2 U2 As σ H2 ρ (match ag7 ds with | some []=>(if af3 y=true then .ok y else .bad) | some (n :: ns)=> .ok (.int (af4 ns n)) | none=> .bad) Q:=P2
   cases ei:ag7 ds with
   | none=>rw [ei] at P2; exact P2.elim
   | some ns =>
     have ex:=aj6 ei h2
     subst ex
     cases ns with
     | nil =>
       rw [ei] at P2
       replace P2:Po cm (KR cm .F) E ms B2 U2 As σ H2 ρ (if af3 y=true then .ok y else .bad) Q:=P2
       by_cases z:af3 y=true
       · rw [if_pos z] at P2
         exact ⟨a,[],u,rfl,rfl,SqL.of (e2.h _ _ h1),fun _=>P2 u B2 U2 H2 [] R2 (Gw.refl _ _ _) New.nil (az7 z d2),fun m hm=>(nomatch hm)⟩
       · rw [if_neg z] at P2; exact P2.elim
     | cons n ns =>
       rw [ei] at P2
       refine ⟨a,n :: ns,u,rfl,rfl,SqL.of (e2.h _ _ h1),(fun z=>by cases z),fun m hm hle=>?_⟩
       obtain ⟨s1,s2,s3⟩:=aj3 ns n
       have em:m=af4 ns n:=by
        have l1:af4 ns n∈n :: ns:=by
         rcases s1 with z | z
         · rw [z]; exact List.mem_cons_self
         · exact List.mem_cons_of_mem _ z
        have l2:=hle _ l1
        rcases List.mem_cons.mp hm with z | z
        · rw [z] at l2 ⊢; omega
        · have:=s3 m z; omega
       rw [em]
       exact P2 _ B2 U2 H2 [] R2 (Gw.refl _ _ _) New.nil (show Dn cm _ (.int (af4 ns n)) _ by rw [Dn])
 | _=>exact P2.elim
noncomputable def ninD (x y:D):Res D:=match toPy x,toPy y with
 | some p,some (.list xs)=>if SeqAt.shaped p=true∧SeqAt.shaped (.list xs)=true∧(xs.all fun z=>SeqAt.noMix z p)=true then .ok (.bl (!decide (countIn p xs≠0))) else .bad
 | _,_=> .bad
theorem hu65 {A:Around} {k:Nat} (hr:Room k A):A.units + 65 < cLine:=by have:=hr.un; omega
end
end Mi
namespace Mi
open PySem L2
noncomputable def aA3:List Ap→List Md→Bool
 | [],[]=>true
 | p :: ps,m :: r=>fits [] true p m && aA3 ps r
 | _,_=>false
theorem am3:∀ {ps:List Ap} {mc:List Md},aA3 ps mc=true→ps.length=mc.length
 | [],[],_=>rfl
 | [],_ :: _,h=>by cases h
 | _ :: _,[],h=>by cases h
 | p :: ps,m :: r,h=>by
   have h:(fits [] true p m && aA3 ps r)=true:=h
   rw [Bool.and_eq_true] at h
   rw [List.length_cons,List.length_cons,am3 h.2]
theorem am4 {ms:List Md}:∀ {ps:List Ap} {mc:List Md},aA3 ps mc=true→∀ (j:Nat) p,ps[j]?=some p→fits ms true p (mc.getD j .F)=true
 | [],_,_,_,_,e=>by cases e
 | _ :: _,[],h,_,_,_=>by cases h
 | p :: ps,m :: r,h,j,q,e=>by
   have h:(fits [] true p m && aA3 ps r)=true:=h
   rw [Bool.and_eq_true] at h
   cases j with
   | zero =>
     cases e
     have:=h.1
     cases p <;> cases m <;> first | exact this | cases this
   | succ j=>rw [List.getD_cons_succ]; exact am4 h.2 j q (by simpa using e)
noncomputable def pc (fm:List D→Out D) (a:Env→Res (List D)):Env→Res D:=fun ρ=>(a ρ).bind (ak8 fm)
noncomputable def pm (c:Nat) (mn:Str) (fm:List D→Out D) (o:Env→Res D) (a:Env→Res (List D)):Env→Res D:=fun ρ=>(o ρ).bind fun o=>if bn7 c mn o=true then (a ρ).bind fun ds=>ak8 fm (o :: ds) else .bad
noncomputable def mc (ps:List Ap) (fm:List D→Out D) (a:Env→Res (List D)):Env→Out D:=fun ρ=>((a ρ).up ρ).bind (callM ps fm)
section
variable {cm:Cm} {Kr:KT D V} {pr:Nat→Bool} {ms:List Md} {K:PySem.W.Frag}
theorem KR.u {d:D} {v:V} {B U U' H:Hp} {N:List Addr} (h:KR cm .F d v B U H N):KR cm .F d v B U' H N:=h
theorem KO.u {s:Sh} {d:D} {v:V} {B U U' H:Hp} {N:List Addr} (h:KO cm s d v B U H N):KO cm s d v B U' H N:=h
theorem rnon {B U H:Hp} {N:List Addr}:KR cm .F .non .non B U H N:=show Dn cm B .non .non by rw [Dn]
end
theorem ax0 {cm:Cm} {G:Hp}:∀ ns:List Int,Dns cm G (ns.map D.int) (ns.map V.int)
 | []=>by rw [List.map_nil,List.map_nil,Dns]
 | n :: r=>by
   rw [List.map_cons,List.map_cons,Dns]
   exact ⟨_,_,rfl,by rw [Dn],ax0 r⟩
theorem bo0 {cm:Cm} {fm:List D→Out D} (h:∀ ns:List Int,ns.length≤63→∃ ρ,fm [.scr (ns.map D.int)]= .ok (.bl true) ρ) {vs:List V} {H:Hp} {Q:VK} {a:Addr} {ns:List Int} (hv:vs=[.ref a]) (hs:SqF cm.K H a (ns.map V.int)) (hl:ns.length≤63) (ht:∀ p∈cm.tb,∃ l,H p.1=some (.tbl l)∧p.2∈l) (hq:∀ H',Q (.bl true) H') :
 spM cm [.R] (KR cm .F) fm vs H Q E0:=by
 subst hv
 obtain ⟨ρ,e⟩:=h ns hl
 refine ⟨H,H,fun _=>[],[.scr (ns.map D.int)],⟨Same.refl _,Same.refl _,fun _=>List.nodup_nil,fun _ _ _ _ z=>(nomatch z),fun _ _ z=>(nomatch z),fun i=>?_,rfl,ht⟩,rfl,?_⟩
 · rw [al3,al3]
   cases i with
   | zero=>exact ⟨.ref a,rfl,by show Dn cm H (.scr _) _; rw [Dn]; exact ⟨a,_,rfl,hs,ax0 ns⟩,rfl⟩
   | succ i=>exact rfl
 · rw [e]
   intro v B' U' As' H' N R' e' n' k
   have k:Dn cm B' (.bl true) v:=k
   rw [Dn] at k
   rw [k]
   exact hq H'
theorem bi9 {K:PySem.W.Frag} {H:Hp} {a:Addr} {xs:List V} {T:Tbs} (o:Only T H) (h:SqL K H a xs):SqF K H a xs:=by
 rcases h with (h | h) | h
 · rcases o.2 a with z | ⟨ob,ys,z⟩ | z
   · rw [z] at h; cases h
   · rw [z] at h; cases h
   · rw [z] at h; cases h
 · exact .inl h
 · exact .inr h
theorem tb_of {H:Hp} {T:Tbs} (o:Only T H):∀ p∈T,∃ l,H p.1=some (.tbl l)∧p.2∈l:=fun p hp=>⟨_,o.1 p hp,Tbs.mem.mpr hp⟩
noncomputable def sc1 (m:Env→Res D):Env→Res D:=fun ρ=>(m ρ).bind fun d=>if af3 d=true then .ok d else .bad
section
variable {cm:Cm} {E:XK} {ms:List Md}
theorem bg0 {ta:TE} {ma:Env→Res D} (ha:PJ cm (KR cm .F) E ms ta ma):PJ cm (KI cm .F .U) E ms (aM5 cm.K ta) (srcL ma):=by
 intro B U As σ H ρ Q R P
 refine aM4 ha B U As σ H ρ Q R ?_
 cases e:srcL ma ρ with
 | ok ds =>
   rw [e] at P
   intro J B1 U1 H1 N R1 g n ⟨vs,hJ,hd⟩
   exact P J B1 U1 H1 N R1 g n ⟨vs,fun H2 s=>hJ H2 (R1.bu.trans s),hd⟩
 | exc c=>rw [e] at P; exact P
 | bad=>rw [e] at P; exact P
end
end Mi
namespace L2
open PySem PySem.Spec PyProof.Rows
section
variable {X:Cx} (K:PySem.W.Frag)
theorem ac6 (h:X.K=K):IxR X (rIxL K):=by subst h; exact bf7
theorem aA2 (h:X.K=K):IxR X (rIxT K):=by subst h; exact bo6
theorem ab6 (h:X.K=K):at3 X (.builtin "len") (fun xs H Q=>∃ p ys,xs=[.ref p]∧(SqL K H p ys∨SqT K H p ys)∧Q (.int ys.length) H):=by subst h; exact ay1
theorem at0 (h:X.K=K):at3 X (.type "list") (fun xs H Q=>∃ p ys,xs=[.ref p]∧(SqL K H p ys∨SqT K H p ys)∧∀ l,H l=none→Q (.ref l) (upd H l (.lst ys))):=by subst h; exact ay0
theorem aF7 (h:X.K=K) (hc:X.calm=true):ay7 X (.builtin "min") ["default"] (fun xs zs H Q=>∃ p ns d,xs=[.ref p]∧zs=[d]∧SqL K H p (ns.map V.int)∧(ns=[]→Q d H)∧∀ m∈ns,(∀ x∈ns,m≤x)→Q (.int m) H):=by subst h; exact aP3 hc
theorem aF8 (h:X.K=K) (hc:X.calm=true):ay7 X (.builtin "max") ["default"] (fun xs zs H Q=>∃ p ns d,xs=[.ref p]∧zs=[d]∧SqL K H p (ns.map V.int)∧(ns=[]→Q d H)∧∀ m∈ns,(∀ x∈ns,x≤m)→Q (.int m) H):=by subst h; exact aP4 hc
theorem bd5 (h:X.K=K) (hu:X.A.units + 64 < cLine):OpR X (compareOp .Eq) (rEqD K false):=by subst h; exact bl2 hu
theorem bd4 (h:X.K=K) (hu:X.A.units + 64 < cLine):OpR X (compareOp .NotEq) (rEqD K true):=by subst h; exact bk7 hu
theorem aK5 (h:X.K=K) (hu:X.A.units + 65 < cLine):OpR X (compareOp .In) (fun x y H Q=>∃ d xs,Den K H d x∧Den K H (.list xs) y∧SeqAt.shaped d=true∧SeqAt.shaped (.list xs)=true∧(∀ z∈xs,SeqAt.noMix z d=true)∧Q (.bl (decide (countIn d xs≠0))) H):=by subst h; exact bl0 hu
theorem af9 (h:X.K=K):at3 X (.builtin "isinstance") (fun xs H Q=>∃ x c t b,xs=[x,.ty c]∧TyOf K H x t∧PySem.W.kitOne K t (.type c)=some b∧Q (.bl b) H):=by subst h; exact aU5
theorem ar0 {tg l:Expr} {tl:TE} (h:X.K=K) (hl:PE X l tl):PI X tg l (aM5 K tl):=by subst h; exact bd1 hl
end
end L2
namespace Mi
open PySem L2
noncomputable def spT (K:PySem.W.Frag) (T:Tbs):Sp:=fun vs H Q _=>∃ (a:Addr) (ns:List Int),vs=[.ref a]∧SqF K H a (ns.map V.int)∧ns.length≤63∧(∀ p∈T,∃ l,H p.1=some (.tbl l)∧p.2∈l)∧∀ H',Q (.bl true) H'
section
variable {cm:Cm} {E:XK} {ms:List Md}
theorem fF (i:Nat) (hm:ms.getD i .F= .F:=by rfl):PJ cm (KR cm .F) E ms (tVar i) (vr i):=xF hm
theorem fR (i:Nat) (hm:ms.getD i .F= .R:=by rfl):PJ cm (KR cm .U) E ms (tVar i) (vr i):=xR hm
theorem fC (i:Nat) (hm:ms.getD i .F= .O (.ct .fz):=by rfl):PJ cm (KC cm .F) E ms (tVar i) (vr i):=xC hm
end
end Mi
namespace L2
open PySem
theorem lenV0 {P:List Value→Prop} (h:P []):∀ us:List Value,us.length=0→P us:=by
 intro us hl
 rw [List.length_eq_zero_iff.mp hl]; exact h
theorem bf2 {P:List Value→Prop} (h:∀ a0:Value,P [a0]):∀ us:List Value,us.length=1→P us:=by
 intro us hl
 cases us with
 | nil=>cases hl
 | cons a us=>exact lenV0 (P:=fun us=>P (a :: us)) (h a) us (Nat.succ.inj hl)
theorem aw0 {P:List Value→Prop} (h:∀ a0 a1:Value,P [a0,a1]):∀ us:List Value,us.length=2→P us:=by
 intro us hl
 cases us with
 | nil=>cases hl
 | cons a us=>exact bf2 (P:=fun us=>P (a :: us)) (h a) us (Nat.succ.inj hl)
theorem lenV3 {P:List Value→Prop} (h:∀ a0 a1 a2:Value,P [a0,a1,a2]):∀ us:List Value,us.length=3→P us:=by
 intro us hl
 cases us with
 | nil=>cases hl
 | cons a us=>exact aw0 (P:=fun us=>P (a :: us)) (h a) us (Nat.succ.inj hl)
end L2
namespace L2
open PySem PySem.Spec PyProof.Rows
section
variable {P:Program} {w:World} {H H':Hp} {h h':Heap} {a:Addr} {o:HO}
theorem ObjOk.ex (x:ObjOk P w H h a o):∃ u,h.get? a=some u:=by
 cases o with
 | lst xs=>obtain ⟨_,_,_,_,e⟩:=x; exact ⟨_,e⟩
 | tup xs=>obtain ⟨_,_,_,_,e,_⟩:=x; exact ⟨_,e⟩
 | dK kvs=>obtain ⟨_,_,_,_,o,_,_,e,_⟩:=x; exact ⟨_,e⟩
 | dT kvs=>obtain ⟨_,_,_,_,o,_,_,e,_⟩:=x; exact ⟨_,e⟩
 | set S n=>obtain ⟨o,_,_,_,e,_⟩:=x; exact ⟨_,e⟩
 | ins C dx fs=>obtain ⟨_,_,_,e,_⟩:=x; exact ⟨_,e⟩
 | own y=>obtain ⟨_,e⟩:=x; exact ⟨_,e⟩
 | xd fs=>obtain ⟨_,⟨_,_,_,e,_⟩,_⟩:=x; exact ⟨_,e⟩
 | rng lo hi=>obtain ⟨_,_,_,e⟩:=x; exact ⟨_,e⟩
 | frz ob u=>obtain ⟨e,_⟩:=x; exact ⟨_,e⟩
 | tbl l=>obtain ⟨_,_,e,_⟩:=x; exact ⟨_,e⟩
 | met f y=>exact ⟨_,show h.get? a=some _ from x⟩
 | ext φ=>obtain ⟨_,⟨_,e⟩,_⟩:=x; exact ⟨_,e⟩
theorem HOk.none (x:HOk P w H h) (e:h.get? a=Option.none):H a=Option.none:=by
 cases q:H a with
 | none=>rfl
 | some u=>obtain ⟨v,r⟩:=(x a u q).ex; rw [e] at r; cases r
theorem HOk.hide (x:HOk P w H h) {l:List Addr} (hl:∀ b∈l,H b=Option.none):HOk P w H (PySem.W.hideAll h l):=fun a o e =>
 (x a o e).stay (fun b u hb q=>PySem.W.hideAll_get l q fun z=>by
   have n:=hl b z
   rcases hb with rfl | hb
   · rw [n] at e; cases e
   · rw [n] at hb; cases hb) (fun _ q=>q) fun _ _ q=>q
end
noncomputable def CX1 (P:Program) (w:World):CXT:=fun outer H s E e s'=>∃ (ea C:Addr) (a0:Value) (B:Heap) (H':Hp),e= .ref ea∧s'.os=s.os∧AllBare s'.gens∧Un (frs outer) (frs outer) H H' s.heap B∧HOk P w H' B ∧
 Heap.FlyingW B outer ea (.ref C) a0 s'.heap∧(∀ b∈frs outer,∀ o,s.heap.get? b=some o→∃ sl,s'.heap.get? b=some { o with slots:=sl })∧(∀ b∈frs outer,H' b=none)∧E (.ref C) none H'
theorem Un.cut {fs:List Addr} {l:Addr} {H0 H H':Hp} {h0 h B:Heap} (a:Un fs [] H0 H h0 h) (b:Un (l :: fs) (l :: fs) H H' h B) (n:h0.get? l=none):Un fs fs H0 H' h0 B:=by
 have ne:∀ c o,h0.get? c=some o→c∉fs→c∉l :: fs:=fun c o q hc z=>by
  rcases List.mem_cons.mp z with rfl | z
  · rw [n] at q; cases q
  · exact hc z
 refine ⟨fun c o q f hc _=>b.keep c o (a.keep c o q f hc (by simp)) (a.free c o q f (by simp)) (ne c o q hc) (ne c o q hc),fun c o q f hc hx=>absurd hc hx,fun c o q f hx=>?_,fun c o q hx=>?_,fun c xs q=>b.tups c xs (a.tups c xs q),fun c o u q=>b.frzs c o u (a.frzs c o u q),
  fun c xs q=>⟨(b.tbls c xs (a.tbls c xs q).1).1,fun d o e1 e2=>let ⟨f1,f2⟩:=(a.tbls c xs q).2 d o e1 e2; (b.tbls c xs (a.tbls c xs q).1).2 d o f1 f2⟩⟩
 · obtain ⟨o',e1⟩:=a.there c o q (by simp)
   exact b.free c o' e1 (a.free c o q f (by simp)) (ne c o q hx)
 · obtain ⟨o',e1⟩:=a.there c o q (by simp)
   exact b.there c o' e1 (ne c o q hx)
theorem Un.hide {fs:List Addr} {P:Program} {w:World} {H:Hp} {h:Heap} (hok:HOk P w H h) (n:∀ b∈fs,H b=none):Un fs fs H H h (PySem.W.hideAll h fs) :=
 ⟨fun c o q f hc _=>PySem.W.hideAll_get fs q hc,fun c o q f hc hx=>absurd hc hx,fun c o q f hx=>f,fun c o q hx=>⟨o,PySem.W.hideAll_get fs q hx⟩,fun _ _ q=>q,fun _ _ _ q=>q,
  fun c xs q=>⟨q,fun d o e1 e2=>⟨e1,PySem.W.hideAll_get fs e2 fun z=>by rw [n d z] at e1; cases e1⟩⟩⟩
theorem Un.fly {fs:List Addr} {H H':Hp} {h B h':Heap} (u:Un fs fs H H' h B) (st:B.StaysIn h') (sl:∀ b∈fs,∀ o,h.get? b=some o→∃ sl,h'.get? b=some { o with slots:=sl }) (fr:∀ b∈fs,H' b=none):Un fs [] H H' h h' :=
 ⟨fun c o q f hc _=>st _ _ (u.keep c o q f hc hc),fun c o q f hc _=>sl c hc o q,fun c o q f _=>by
  by_cases z:c∈fs
  · exact fr c z
  · exact u.free c o q f z,fun c o q _=>by
  by_cases z:c∈fs
  · obtain ⟨x,e⟩:=sl c z o q; exact ⟨_,e⟩
  · obtain ⟨o',e⟩:=u.there c o q z; exact ⟨_,st _ _ e⟩,u.tups,u.frzs,fun c xs q=>⟨(u.tbls c xs q).1,fun d o e1 e2=>let ⟨f1,f2⟩:=(u.tbls c xs q).2 d o e1 e2; ⟨f1,st _ _ f2⟩⟩⟩
structure Own (X:Cx) (E:XK):Prop where
 xe:X.xe=fun e s'=>wpAny (model X.prog X.w) X.A (leaving X.env e) (fun _ s''=>CX1 X.prog X.w X.outer X.H₀ X.s₀ E e s'') (fun e' s''=>CX1 X.prog X.w X.outer X.H₀ X.s₀ E e' s'')  s'
 ex:X.ex=[]
 stk:X.stack=X.env :: X.outer
 fr:X.env.frame=some X.env.locals
theorem aK4 {P:Program} {w:World} {K:PySem.W.Frag} {mg:Str→Option Value} {base:Heap} {N:List Str} {qual:Str} {scope:Scope} {f:Addr} {cd:Value} {A:Around} {outer:List Env} {s:Shared} {H:Hp} {E:XK} :
 Own (cxOf (CX1 P w) P w K mg base N qual scope f cd A outer s H E) E:=⟨rfl,rfl,rfl,rfl⟩
theorem ar8 {env:Env} {l:List Env} {L:Addr} (h:env.frame=some L):frs (env :: l)=L :: frs l:=by
 unfold frs
 rw [List.filterMap_cons,h]
theorem aq6 {h h':Heap} {base:Heap} {l:List Env} {b:Addr} {o:Obj} (u:h.UpToSlots h') (fl:h.FunFrames base l) (hb:b∈frs l) (e:h.get? b=some o):∃ sl,h'.get? b=some { o with slots:=sl }:=by
 obtain ⟨_,o',e',nf⟩:=fl.mem hb
 rw [e] at e'
 cases e'
 exact u b o e nf
section
variable {X:Cx} {E:XK} {pins:List (Addr×Obj)} {σ:St} {H:Hp} {s:Shared}
theorem Inv.above (I:Inv X pins σ H s):X.s₀.heap.get? X.env.locals=none:=Heap.get?_none_of_le I.ok.above
theorem Own.passes (O:Own X E):aE1 (CX1 X.prog X.w) X E:=by
 intro pins σ H s e s' I h
 obtain ⟨ea,C,a0,B,H',rfl,os,bare,un,hok,fl,sl,fr,q⟩:=h
 rw [O.xe]
 rw [O.stk] at un fl sl fr
 rw [ar8 O.fr] at un sl fr
 have ff:=fl.2.2.1
 refine wpAny_leaves_onW (by rw [← O.stk]; exact I.ok.frames) O.fr fl fun h' fl' up=>?_
 have ib:Un (frs X.outer) [] X.H₀ H X.s₀.heap s.heap:=by have:=I.base; rw [O.ex] at this; exact this
 refine ⟨ea,C,a0,B,H',rfl,os.trans I.os,bare,ib.cut un I.above,hok,fl',fun b hb o e=>?_,fun b hb=>fr b (List.mem_cons_of_mem _ hb),q⟩
 obtain ⟨l1,e1⟩:=ib.slot b o e (I.ok.frf b hb) hb (by simp)
 obtain ⟨l2,e2⟩:=sl b (List.mem_cons_of_mem _ hb) _ e1
 obtain ⟨l3,e3⟩:=aq6 up fl.2.2.1.2.2 hb e2
 exact ⟨l3,e3⟩
theorem Own.raised (O:Own X E) {h':Heap} {ea C:Addr} {vs:List Value} (I:Inv X pins σ H s) (m:Heap.MadeExcOf s.heap h' ea (.ref C) vs) (q:E (.ref C) none H):X.xe (.ref ea) { s with heap:=h' }:=by
 rw [O.xe]
 have ib:Un (frs X.outer) [] X.H₀ H X.s₀.heap s.heap:=by have:=I.base; rw [O.ex] at this; exact this
 have fs:=I.stack
 rw [O.stk] at fs
 have hn:∀ b∈frs (X.env :: X.outer),H b=none:=by have:=I.stkFree; rw [O.stk] at this; exact this
 have fh:s.heap.FunFrames (PySem.W.hideAll s.heap (frs (X.env :: X.outer))) (X.env :: X.outer):=PySem.W.funFrames_hide fs fun env he b hb=>List.mem_filterMap.mpr ⟨env,he,hb⟩
 refine wpAny_leaves_madeW (h:=s.heap) (base:=PySem.W.hideAll s.heap (frs (X.env :: X.outer))) (by rw [← O.stk]; exact I.ok.frames) O.fr (fun b o e=>PySem.W.of_hideAll _ e) fh m fun h2 t fl tp tn up=>?_
 have un:Un (X.env.locals :: frs X.outer) (X.env.locals :: frs X.outer) H H s.heap (PySem.W.hideAll s.heap (frs (X.env :: X.outer))):=by
  have:=Un.hide I.hok hn
  rw [ar8 O.fr] at this ⊢
  exact this
 refine ⟨ea,C,.ref t,_,H,rfl,I.os,I.bare,ib.cut un I.above,I.hok.hide hn,fl,fun b hb o e=>?_,fun b hb=>hn b (by rw [ar8 O.fr]; exact List.mem_cons_of_mem _ hb),q⟩
 obtain ⟨l1,e1⟩:=ib.slot b o e (I.ok.frf b hb) hb (by simp)
 have e2:=m.keeps _ _ e1
 have f2:h'.FunFrames X.base X.outer:=I.funs.of_keeps fun b o e _=>⟨o,m.keeps _ _ e,rfl⟩
 obtain ⟨l3,e3⟩:=aq6 up f2 hb e2
 exact ⟨l3,e3⟩
theorem Own.own (O:Own X E):PassesOwn (model X.prog X.w) X.A X.env X.xe:=by
 rw [O.xe]
 exact PassesOwn.leaving
end
noncomputable def mroK (K:PySem.W.Frag) (C:Addr):List Value:=match K.lookup C with
 | some ⟨_,_,.cls cd,_⟩=>cd.mro
 | _=>[]
noncomputable abbrev vBm:List Value:=[.type "ValueError",.type "Exception",.type "BaseException",.type "object"]
noncomputable def excK (K:PySem.W.Frag) (C:Addr):Bool:=PySem.W.excIn K C vBm "ValueError.__new__"
theorem aA4 {K:PySem.W.Frag} {h:Heap} {C:Addr} (X:K.In h) (q:excK K C=true):∃ (bm:List Value) (N:Addr) (nm qn:Str) (bs:List Value) (hdct:Bool) (sn:List Str) (sub:List Value) (ab:Bool) (col:Option Bool) (dd:Option Addr) (k0 k1 k2 k3 k5:Option Value) (mN:Str→Option Value),
 h.get? C=some (excClassObj nm qn C N bs bm hdct sn sub ab col dd k0 k1 k2 k3 k5 "ValueError.__new__")∧h.Ns N mN∧mN "__init__" = none∧OwnTail h vBm bm∧mroK K C= .ref C :: bm:=by
 unfold excK PySem.W.excIn at q
 split at q
 · rename_i dd cd sl ho
   split at q
   · rename_i C' bm k0 k1 k2 k3 n k5 hm hs
     simp only [Bool.and_eq_true,beq_iff_eq,Bool.not_eq_true'] at q
     obtain ⟨⟨⟨⟨⟨rfl,rfl⟩,hdel⟩,ht⟩,hok⟩,hni⟩:=q
     have hmr:mroK K C'= .ref C' :: bm:=by unfold mroK; rw [ho]; exact hm
     obtain ⟨nm,bs,mro,ns,qn,hd,sn,sub,ab,col,del⟩:=cd
     dsimp only at hm hdel hok hni
     subst hm hdel
     have hsl:sl=#[k0,k1,k2,k3,some (.builtin "ValueError.__new__"),k5]:=by
      obtain ⟨l⟩:=sl
      simp only at hs
      rw [hs]
     subst hsl
     exact ⟨bm,ns,nm,qn,bs,hd,sn,sub,ab,col,dd,k0,k1,k2,k3,k5,_,X _ _ ho,.of_isNs (PySem.W.isNs_of_in X hok),PySem.W.nsMap_none_of_in X hok hni,PySem.W.tail_of_in X ht,hmr⟩
   · cases q
 · cases q
section
variable {X:Cx} {E:XK} {x:Str} {C:Addr} {np cpos pos:Pos} {e₀:Expr} {t:TA}
noncomputable def aV0 (E:XK) (C:Addr) (t:TA):TS:=fun _ σ H=>t σ H fun vs H'=>vs.length≤1000∧E (.ref C) none H'
theorem aR6 (O:Own X E) (hc:X.calm=true) (hg:Gl X x) (hm:X.mg x=some (.ref C)) (hk:excK X.K C=true) (ha:PA X [e₀] t) (hd:(x == ("__debug__" : Str))=false:=by decide)
 (he:starEach [e₀] X.env=(false,eval e₀ X.env) :: starEach [] X.env:=by rfl) (hpl:(backTo cpos (starEach [] X.env)).any (·.1)=false:=by rfl) :
 PS X (.Raise (some (.Call (.Name x np) [e₀] [] cpos)) none pos) (aV0 E C t):=by
 intro pins s σ H D I h
 obtain ⟨bm,N,nm,qn,bs,hdct,sn,sub,ab,col,dd,k0,k1,k2,k3,k5,mN,hC,hN,hni,T,_⟩:=aA4 I.ok.mod.kin hk
 refine wpAny_Raise_call_subT (C:=C) (nm:=nm) (q:=qn) (N:=N) (bs:=bs) (bm:=bm) (hdct:=hdct) (sn:=sn) (sub:=sub) (ab:=ab) (col:=col) (dd:=dd) (k0:=k0) (k1:=k1) (k2:=k2) (k3:=k3) (k5:=k5)
  PySem.F.excBase_ValueError (mN:=mN) (T.hasType PySem.F.excBase_ValueError.hasBase) (I.ok.hd hc) (by rw [he]; show (false || (backTo cpos (starEach [] X.env)).any (·.1))=false; rw [hpl]; rfl) hni (am1 I hg hm ⟨rfl,?_⟩ hd)
 have h2:=ha cpos pins s σ H _ I h
 rw [he] at h2 ⊢
 refine Calls.evalArgs_plain (thn h2 fun us s2 ⟨vs,H2,I2,r2,hl,q2⟩=>⟨rfl,?_,I2.bk _ _ hC,hN.keeps I2.bk,T.keeps I2.bk,fun h' e m=>O.raised I2 m q2⟩)
 rw [← r2.length]
 exact Nat.le_of_lt (aI3 hl)
end
noncomputable def PSf (X:Cx) (pins:List (Addr×Obj)) (σ:St) (st:List Stmt) (t:TS):Prop:=∀ (s:Shared) (H:Hp) (D:Ends),Inv X pins σ H s→t D σ H→wpAny (model X.prog X.w) X.A (execs st X.env) (SP X pins D) X.xe s
noncomputable def PEf (X:Cx) (pins:List (Addr×Obj)) (σ:St) (e:Expr) (t:TE):Prop:=∀ (s:Shared) (H:Hp) (Q:VK),Inv X pins σ H s→t σ H Q→wpAny (model X.prog X.w) X.A (eval e X.env) (EP X pins σ Q) X.xe s
noncomputable def Pf (CX:CXT) (X:Cx) (pins:List (Addr×Obj)) (σ:St) (E:XK):Prop:=∀ (H:Hp) (s:Shared) (e:Value) (s':Shared),Inv X pins σ H s→CX X.stack H s E e s'→X.xe e s'
noncomputable def TB (X:Cx) (st:List Stmt) (tb:XK→TS):Prop:=∀ (q:Value→Shared→Prop) (pins:List (Addr×Obj)) (σ:St) (E:XK),Pf (CX1 X.prog X.w) (X.wish q) pins σ E→PSf (X.wish q) pins σ st (tb E)
noncomputable def TBe (X:Cx) (e:Expr) (te:XK→TE):Prop:=∀ (q:Value→Shared→Prop) (pins:List (Addr×Obj)) (σ:St) (E:XK),Pf (CX1 X.prog X.w) (X.wish q) pins σ E→PEf (X.wish q) pins σ e (te E)
section
variable {X:Cx} {q:Value→Shared→Prop}
theorem PA.wish {es:List Expr} {t:TA} (h:PA X.nox es t):PA (X.wish q) es t:=fun pos pins s σ H Q I hw =>
 wpAny_mono (h pos pins s σ H Q (I.unwish.wish _) hw) (fun _ _ ⟨v,H',I',r,z⟩=>⟨v,H',I'.unwish.wish _,r,z⟩) fun _ _ z=>False.elim z
theorem PE.wish {e:Expr} {t:TE} (h:PE X.nox e t):PE (X.wish q) e t:=fun pins s σ H Q I hw =>
 wpAny_mono (h pins s σ H Q (I.unwish.wish _) hw) (fun _ _ ⟨v,H',I',r,z⟩=>⟨v,H',I'.unwish.wish _,r,z⟩) fun _ _ z=>False.elim z
theorem PT.wish {e:Expr} {t:TT} (h:PT X.nox e t):PT (X.wish q) e t:=fun pins s σ H Q I hw =>
 wpAny_mono (h pins s σ H Q (I.unwish.wish _) hw) (fun _ _ ⟨H',I',z⟩=>⟨H',I'.unwish.wish _,z⟩) fun _ _ z=>False.elim z
end
section
variable {X:Cx} {CX:CXT} {k:Nat} {f C:Addr} {fd:FuncData} {ps:List Str} {sp:Sp} {dvs:List V} {ds:List Value} {E:XK} {x m:Str} {p pos apos:Pos} {e o:Expr} {es:List Expr} {ta:TE} {t:TA}
theorem bc6 {pins:List (Addr×Obj)} {σ:St} {H:Hp} {s:Shared} {Q:VK} {us:List Value} {vs:List V} (F:FnOk X.prog X.w X.K X.mg X.base CX k f fd ps sp) (hr:Room k X.A) (hb:Binds X.K fd ps ds) (hd:Vals dvs ds) (hx:Pf CX X pins σ E)
 (I:Inv X pins σ H s) (r:Vals vs us) (h:sp (vs ++ dvs) H Q E):wpAny (model X.prog X.w) X.A (call (.ref f) us) (EP X pins σ Q) X.xe s:=by
 have r2:Vals (vs ++ dvs) (us ++ ds):=r.append hd
 have hl:(us ++ ds).length=ps.length:=by rw [← r2.length]; exact F.len _ _ _ _ h
 refine wpAny_call (codeAny_mono (F.run X.A X.stack s H ⟨us,[]⟩ (us ++ ds) (vs ++ dvs) Q E hr I.env0 (hb s us I.kIn hl) r2 h) fun r s' hq=>?_)
 cases r with
 | error e=>exact hx H s e s' I hq
 | ok fl =>
   cases fl with
   | ret u=>exact I.after hq
   | next=>exact False.elim hq
   | brk=>exact False.elim hq
   | cont=>exact False.elim hq
theorem aY0 (F:FnOk X.prog X.w X.K X.mg X.base (CX1 X.prog X.w) k f fd ps sp) (hr:Room k X.A) (hg:Gl X x) (hm:X.mg x=some (.ref f)) (hk:PySem.W.keepIn X.K (.ref f)=true) (hb:Binds X.K fd ps ds) (hd:Vals dvs ds)
 (ha:PA X.nox (e :: es) t) (hdb:(x == ("__debug__" : Str))=false:=by decide) (he:starEach (e :: es) X.env=(false,eval e X.env) :: starEach es X.env:=by rfl) (hpl:(backTo pos (starEach es X.env)).any (·.1)=false:=by rfl) :
 TBe X (.Call (.Name x p) (e :: es) [] pos) (fun E=>aG6 sp dvs E t):=by
 intro q pins σ E hx s H Q I h
 refine wpAny_Call_Name_kw (am1 (X:=X.wish q) I hg hm ?_ hdb)
 refine PySem.W.callWith_K (h₀:=X.base) I.ok.mod.kin hk (thn (PA.wish (q:=q) ha pos pins s σ H _ I h) fun us s1 ⟨vs,H1,I1,r,q⟩=>⟨I1.kIn,?_⟩) he hpl
 exact bc6 F hr hb hd hx I1 r q
theorem aX9 {te:XK→TE} (he:TBe X e te) (hs:swapsWith e none pos.line X.env=pure false:=by rfl):TB X [.Expr e pos] (fun E=>aQ4 (te E)):=by
 intro q pins σ E hx s H D I h
 refine wpAny_execs_cons ?_
 exact wpAny_Expr_any (thn (he q pins σ E hx s H _ I h) fun v s1 ⟨x,H1,I1,r1,q1⟩=>wpAny_execs_nil ⟨σ,H1,I1,q1⟩) I.quiet hs
end
noncomputable abbrev Cx.hand (X:Cx) (ea:Addr) (oe:Obj):Cx:={ X with A:=X.A.mark (some (.ref ea)),calm:=false,pn:=(ea,oe) :: X.pn,xe:=fun _ _=>False }
section
variable {X:Cx} {pins:List (Addr×Obj)} {σ:St} {H:Hp} {s:Shared} {ea:Addr} {oe:Obj}
theorem Cx.Ok.hand (ok:X.Ok):(X.hand ea oe).Ok:=⟨ok.mod,ok.kind,ok.glob,ok.blt,ok.above,ok.inj,ok.has,ok.cab,fun z=>(nomatch z),ok.frames,ok.stk,ok.exf,ok.bs,ok.bsz,ok.noex,ok.exfs,ok.funs,ok.frf⟩
theorem Inv.hand (I:Inv X pins σ H s) {vs:Array Value} (he:s.heap.get? ea=some oe) (hn:H ea=none) (hd:oe.data= .fields vs):Inv (X.hand ea oe) pins σ H s:=by
 refine ⟨I.ok.hand,I.os,I.bare,I.base,I.loc,I.cell,I.free,I.freeC,fun p hp=>?_,I.hok,I.len⟩
 rcases List.mem_cons.mp (show p∈(ea,oe) :: (X.pn ++ pins) from hp) with rfl | hp
 · refine ⟨he,hn,fun z=>?_,fun z=>?_,fun v z=>by rw [hd] at z; cases z⟩
   · obtain ⟨m,⟨o,es,ep,ho,hd',_⟩,_⟩:=I.loc
     replace z:ea=X.env.locals:=z
     rw [z,ho] at he
     cases he
     rw [hd] at hd'
     cases hd'
   · obtain ⟨_,o,ho,nf⟩:=I.funs.mem z
     replace ho:s.heap.get? ea=some o:=ho
     rw [he] at ho
     cases ho
     exact nf _ hd
 · exact I.pin p hp
theorem Inv.unhand (I:Inv (X.hand ea oe) pins σ H s) (ok:X.Ok):Inv X pins σ H s :=
 ⟨ok,I.os,I.bare,I.base,I.loc,I.cell,I.free,I.freeC,fun p hp=>I.pin p (List.mem_cons_of_mem _ hp),I.hok,I.len⟩
theorem Inv.exc (I:Inv (X.hand ea oe) pins σ H s):s.heap.get? ea=some oe:=(I.pin (ea,oe) List.mem_cons_self).1
theorem Inv.fly {s':Shared} {B:Heap} {H':Hp} (I:Inv X pins σ H s) (un:Un (frs X.stack) (frs X.stack) H H' s.heap B) (hok:HOk X.prog X.w H' B) (st:B.StaysIn s'.heap)
 (sl:∀ b∈frs X.stack,∀ o,s.heap.get? b=some o→∃ sl,s'.heap.get? b=some { o with slots:=sl }) (fr:∀ b∈frs X.stack,H' b=none) (os:s'.os=s.os) (bare:AllBare s'.gens):Inv X pins σ H' s' :=
 I.call' os (un.fly st sl fr) (hok.kept st) bare fun b z=>absurd z (by simp)
theorem ar7 {M:Model} {A:Around} {E:Value→Shared→Prop} {n:Str} {j:Nat} {pos:Pos} {Q:Unit→Shared→Prop} (I:Inv X pins σ H s) (hN:X.N.Nodup) (hj:X.N[j]?=some n) (hk:X.env.kindOf n=some .local)
 (h:∀ s',Inv X pins (σ.set j none) H s'→Q () s'):wpAny M A (do bindName X.env n .none; unbindBehindTheSuite X.env n pos) Q E s:=by
 obtain ⟨m,hn,hl⟩:=id I.loc
 have hcls:(X.env.scope.kind == .class || (X.env.scope.kind == .module && X.env.locals != X.env.globals))=false:=by rw [I.ok.kind]; rfl
 have hiσ:j < σ.length:=by rw [I.len]; exact (List.getElem?_eq_some_iff.mp hj).1
 have cne:=I.cne
 refine wpAny_nameGoes_keeps hk hn hcls fun h' v hn' hs=>?_
 have tracked:HOk X.prog X.w H h':=fun b ob e=>by
  refine (I.hok b ob e).stay (fun c w' hc q=>(hs.2 c ?_).trans q) (fun _ q=>q) fun _ _ q=>q
  rintro rfl
  have hfree:=I.free
  rcases hc with rfl | hc
  · rw [hfree] at e; cases e
  · rw [hfree] at hc; cases hc
 refine h _ ⟨I.ok,I.os,I.bare,⟨fun b o e n hb hx=>?_,fun b o e n hb hx=>?_,I.base.free,fun b o e hx=>?_,I.base.tups,I.base.frzs,fun b l q=>⟨(I.base.tbls b l q).1,fun c o e1 e2=>let ⟨f1,f2⟩:=(I.base.tbls b l q).2 c o e1 e2; ⟨f1,(hs.2 c (aa7 f1 I.free)).trans f2⟩⟩⟩,⟨_,hn',fun i y v' e1 e2 e3=>?_⟩,fun y c e=>?_,I.free,I.freeC,fun p hp=>?_,tracked,by simpa using I.len⟩
 · exact (hs.2 b (Nat.ne_of_lt (Nat.lt_of_lt_of_le (Heap.lt_size e) I.ok.above))).trans (I.base.keep b o e n hb hx)
 · obtain ⟨sl,e1⟩:=I.base.slot b o e n hb hx
   exact ⟨sl,(hs.2 b (Nat.ne_of_lt (Nat.lt_of_lt_of_le (Heap.lt_size e) I.ok.above))).trans e1⟩
 · obtain ⟨o',e1⟩:=I.base.there b o e hx
   exact ⟨o',(hs.2 b (Nat.ne_of_lt (Nat.lt_of_lt_of_le (Heap.lt_size e) I.ok.above))).trans e1⟩
 · by_cases hij:i=j
   · subst hij
     rw [List.getElem?_set_self hiσ] at e2
     cases e2
   · rw [List.getElem?_set_ne (Ne.symm hij)] at e2
     obtain ⟨u',r',q⟩:=hl i y v' e1 e2 e3
     refine ⟨u',r',?_⟩
     rcases q with ⟨k,e⟩ | ⟨k,c,e,z⟩
     · refine .inl ⟨k,?_⟩
       have:y≠n:=fun e=>hij (ar3 hN e1 (e ▸ hj))
       simp [this,e]
     · exact .inr ⟨k,c,e,z.sameBut hs (cne y c e)⟩
 · obtain ⟨w',z⟩:=I.cell y c e
   exact ⟨w',z.sameBut hs (cne y c e)⟩
 · obtain ⟨e,n,ne,nf,d⟩:=I.pin p hp
   exact ⟨(hs.2 p.1 ne).trans e,n,ne,nf,d⟩
end
theorem ao4 {M:Model} {A:Around} {E:Value→Shared→Prop} {K:PySem.W.Frag} {C G:Addr} {h:Heap} {g:Array GenState} {d:Drawn} {t:Nat} {os:OsState} {e:Addr} {oe:Obj} {Q:Bool→Shared→Prop}
 (X:K.In h) (kC:excK K C=true) (kG:excK K G=true) (he:h.get? e=some oe) (hcls:oe.cls= .ref C) (hs:(mroK K C).contains (.ref G)=true)
 (hq:Q true ⟨h,g,d,t,os⟩):wpAny M A (excMatches (.ref e) (.ref G)) Q E ⟨h,g,d,t,os⟩:=by
 obtain ⟨bm,N,nm,qn,bs,hdct,sn,sub,ab,col,dd,k0,k1,k2,k3,k5,mN,hC,_,_,TC,mC⟩:=aA4 X kC
 obtain ⟨bm2,N2,nm2,qn2,bs2,hdct2,sn2,sub2,ab2,col2,dd2,j0,j1,j2,j3,j5,mN2,hG,_,_,TG,mG⟩:=aA4 X kG
 rw [mC] at hs
 have hcB:(Value.ref G :: bm2).contains (.type "BaseException")=true:=by rw [List.contains_cons,TG.hasType PySem.F.excBase_ValueError.hasBase,Bool.or_true]
 have f:=tc_notTuple
 unfold excMatches
 repeat (first | (with_reducible refine wpAny_loadPart_at he ?_; rw [hcls]) | with_reducible refine wpAny_loadPart_at hG ?_ | with_reducible refine wpAny_loadPart_at hC ?_ | (with_reducible refine wpAny_isSubtype_exc hG ?_; rw [hcB]) | (with_reducible refine wpAny_isSubtype_exc hC ?_; rw [hs]) | wp_step)
 exact hq
section
variable {X:Cx} {st:List Stmt} {tb:XK→TS} {x n:Str} {G:Addr} {j:Nat} {np hp pos:Pos} {b₀:Stmt} {suite:List Stmt} {th:Addr→Addr→TS} {ok:Addr→Prop}
noncomputable def tH (K:PySem.W.Frag) (G:Addr) (ok:Addr→Prop) (g:Addr→Addr→Hp→Prop):XK:=fun Cv _ H'=>∃ C,Cv= .ref C∧excK K C=true∧(mroK K C).contains (.ref G)=true∧ok C∧∀ ea,H' ea=none→g ea C H'
noncomputable def aG5 (K:PySem.W.Frag) (G:Addr) (ok:Addr→Prop) (j:Nat) (tb:XK→TS) (th:Addr→Addr→TS):TS:=fun D σ H =>
 tb (tH K G ok fun ea C H'=>th ea C { nx:=fun σ1 H1=>D.nx (σ1.set j none) H1,rt:=D.rt,bk:=fun σ1 H1=>D.bk (σ1.set j none) H1,ct:=fun σ1 H1=>D.ct (σ1.set j none) H1 } (σ.set j (some (.ref ea))) H') D σ H
theorem SP.unhand {pins:List (Addr×Obj)} {ea:Addr} {oe:Obj} {D:Ends} {f:Flow} {s':Shared} (h:SP (X.hand ea oe) pins D f s') (ok:X.Ok):SP X pins D f s':=by
 cases f with
 | next=>obtain ⟨σ',H',I,q⟩:=h; exact ⟨σ',H',I.unhand ok,q⟩
 | brk=>obtain ⟨σ',H',I,q⟩:=h; exact ⟨σ',H',I.unhand ok,q⟩
 | cont=>obtain ⟨σ',H',I,q⟩:=h; exact ⟨σ',H',I.unhand ok,q⟩
 | ret u=>obtain ⟨v,σ',H',I,r,q⟩:=h; exact ⟨v,σ',H',I.unhand ok,r,q⟩
theorem aR5 (hst:X.stack=X.env :: X.outer) (hfr:X.env.frame=some X.env.locals) (hb:TB X st tb) (hg:Gl X x) (hm:X.mg x=some (.ref G)) (hG:excK X.K G=true) (hN:X.N.Nodup) (hj:X.N[j]?=some n)
 (hk:X.env.kindOf n=some .local) (hx:Loc X.env.scope n) (hs:∀ ea oe C,oe.cls= .ref C→ok C→PSs (X.hand ea oe) (b₀ :: suite) (th ea C)) (hd:(x == ("__debug__" : Str))=false:=by decide)
 (hf:X.fn n=true∨X.env.scope.names.lookup n=some .local:=by first | exact .inl rfl | exact .inr rfl | assumption) :
 PS X (.Try st [.ExceptHandler (some (.Name x np)) (some n) (b₀ :: suite) hp] [] [] pos) (aG5 X.K G ok j tb th):=by
 intro pins s σ H D I h
 refine wpAny_Try_except ?_
 refine wpAny_mono (hb (fun e s₁=>wpAny (model X.prog X.w) X.A (noteFrame e X.env) (fun _ s₂=>wpAny (model X.prog X.w) X.A (setFlight e none) (fun _ s₃=>wpAny (model X.prog X.w) X.A (handleBy e X.env [.ExceptHandler (some (.Name x np)) (some n) (b₀ :: suite) hp]) (SP X pins D) X.xe s₃) X.xe s₂) X.xe s₁) pins σ _ ?_ s H D (I.wish _) h) (fun fl s1 z=>?_) (fun e s1 z=>z)
 rotate_left
 · cases fl with
   | next=>exact wpAny_execs_nil z.unwish
   | ret v=>exact z.unwish
   | brk=>exact z.unwish
   | cont=>exact z.unwish
 · intro H1 s1 e s' I1 hcx
   obtain ⟨ea,C,a0,B,H',rfl,os,bare,un,hok,fl,sl,fr,C',hCv,kC,hsub,kok,hh⟩:=hcx
   cases hCv
   replace I1:=I1.unwish
   replace un:Un (frs X.stack) (frs X.stack) H1 H' s1.heap B:=un
   replace fl:Heap.FlyingW B X.stack ea (.ref C) a0 s'.heap:=fl
   rw [hst] at fl
   have ff:=fl.2.2.1
   have hH:H' ea=none:=hok.none fl.2.1
   show wpAny _ _ (noteFrame (.ref ea) X.env) _ _ _
   refine wpAny_looks_onW (by rw [← hst]; exact I.ok.frames) hfr fl fun h4 fl4 up4=>?_
   refine wpAny_landsW fl4 fun h5 fl5 up5=>?_
   have up:=up4.trans up5
   have slx:∀ {h6:Heap},s'.heap.UpToSlots h6→∀ b∈frs X.stack,∀ o,s1.heap.get? b=some o→∃ sl,h6.get? b=some { o with slots:=sl }:=fun {h6} u b hb o e=>by
    obtain ⟨l1,e1⟩:=sl b hb o e
    rw [hst] at hb
    obtain ⟨l2,e2⟩:=aq6 u ff hb e1
    exact ⟨l2,e2⟩
   have I5:Inv X pins σ H' { s' with heap:=h5 }:=I1.fly (s':={ s' with heap:=h5 }) un hok fl5.1 (slx up) fr os bare
   obtain ⟨o5,v5,he5,hc5,hd5,_⟩:=fl5.first
   have I5h:Inv (X.hand ea o5) pins σ H' { s' with heap:=h5 }:=I5.hand he5 hH hd5
   refine wpAny_handleBy_cons (codeAny_handlers_test ?_) (by intro z; cases z)
   refine am1 (X:=X.hand ea o5) I5h hg hm ?_ hd
   refine ao4 (K:=X.K) I5h.kIn kC hG he5 hc5 hsub ?_
   show codeAny _ _ _ _ _
   refine codeAny_handlers_suite_as ?_
   refine lands_againW fl5 fun h6 fl6 up6=>?_
   have I6:Inv X pins σ H' { s' with heap:=h6 }:=I1.fly (s':={ s' with heap:=h6 }) un hok fl6.1 (slx (up.trans up6)) fr os bare
   obtain ⟨o6,v6,he6,hc6,hd6,_⟩:=fl6.first
   have I6h:Inv (X.hand ea o6) pins σ H' { s' with heap:=h6 }:=I6.hand he6 hH hd6
   refine ap6 (X:=X.hand ea o6) (i:=j) (v:= .ref ea) I6h hN hj hx rfl (fun s7 I7=>?_) hf
   refine wpAny_mono (hs ea o6 C hc6 kok pins s7 _ H' _ I7 (hh ea hH)) (fun fl s8 z=>?_) fun _ _ z=>z.elim
   show wpAny _ _ _ _ _ _
   cases fl with
   | next=>obtain ⟨σ',H2,J,q⟩:=z; exact ar7 (J.unhand I.ok) hN hj hk fun s9 J9=>⟨_,H2,J9,q⟩
   | brk=>obtain ⟨σ',H2,J,q⟩:=z; exact ar7 (J.unhand I.ok) hN hj hk fun s9 J9=>⟨_,H2,J9,q⟩
   | cont=>obtain ⟨σ',H2,J,q⟩:=z; exact ar7 (J.unhand I.ok) hN hj hk fun s9 J9=>⟨_,H2,J9,q⟩
   | ret u=>obtain ⟨v,σ',H2,J,r,q⟩:=z; exact ar7 (J.unhand I.ok) hN hj hk fun s9 J9=>⟨v,_,H2,J9,r,q⟩
end
end L2
namespace PySem.W
open PySem PySem.Spec PySem.Calls PyProof.Rows
theorem exc_yes {K:Frag} {ea C:Addr} {oe:Obj} {c:Value} (hc:oe.cls= .ref C) (e:kitOne K (.ref C) c=some true):Answers (fun s=>K.In s.heap∧s.heap.get? ea=some oe) (.ref ea) c true:=by
 intro dep tk prog w A R s hs
 obtain ⟨h0,g,d,tt,os⟩:=s
 obtain ⟨⟨X,p⟩,hq⟩:=hs
 have LT:Looks (model prog w) h0 (typeOf (.ref ea)) (.ref C):=by
  intro A' Q' E' s' k q
  unfold typeOf
  first
   | (refine wpAny_bind (wpAny_loadPart (k _ _ p) (wpAny_pure ?_)); rw [hc]; exact q)
   | (refine wpAny_map (wpAny_loadPart (k _ _ p) ?_); rw [hc]; exact q)
   | (unfold loadHead; refine wpAny_bind (wpAny_loadPart (k _ _ p) (wpAny_pure ?_)); rw [hc]; exact q)
 unfold kitOne at e
 unfold Builtin.«isinstance.nested»
 refine wpAny_bind (LT.at ?_)
 by_cases q:(Value.ref C == c)=true
 · rw [if_pos q] at e
   rw [if_pos q]
   cases e
   first
    | ((repeat lk); exact hq tt)
    | exact wpAny_bind (wpAny_rule (hq tt))
    | exact wpAny_bind (wpAny_rule (wpAny_pure (hq tt)))
 · rw [if_neg q] at e
   rw [if_neg q]
   obtain ⟨hty,his,hsub⟩:=kit_cls (M:=model prog w) X e
   have LI:Looks (model prog w) h0 (isInstance (.ref ea) c) true:=LT.andThen hsub
   refine wpAny_bind (hty.at ?_)
   rw [if_pos (by decide)]
   k_delta "plainIsInstance"
   refine wpAny_bind (wpAny_bind (his.at ?_))
   simp only [Bool.not_true,Bool.false_eq_true,if_false]
   refine wpAny_bind (LI.at ?_)
   first
    | exact wpAny_pure (wpAny_pure (hq tt))
    | (simp only [if_true]; first | exact wpAny_pure (wpAny_pure (hq tt)) | exact wpAny_pure (hq tt) | exact wpAny_bind (wpAny_pure (wpAny_pure (hq tt))))
end PySem.W
namespace L2
open PySem PySem.Spec PyProof.Rows
section
variable {X:Cx} {ea C:Addr} {oe:Obj} {g:V} {c:Value}
noncomputable def rIs (ea:Addr) (g:V) (b:Bool):List V→Hp→VK→Prop:=fun xs H Q=>xs=[.ref ea,g]∧Q (.bl b) H
theorem aU6 (hc:oe.cls= .ref C) (hr:∀ u,RelV g u→u=c) (e:PySem.W.kitOne X.K (.ref C) c=some true):at3 (X.hand ea oe) (.builtin "isinstance") (rIs ea g true):=by
 intro pins s σ H xs us Q I r h
 obtain ⟨rfl,q⟩:=h
 obtain ⟨u,w',rfl,r1,r2⟩:=bh9 r
 obtain rfl:u=Value.ref ea:=r1
 obtain rfl:=hr _ r2
 exact PySem.call_isinstance (S:=fun _ R s=>(X.K.In s.heap∧s.heap.get? ea=some oe)∧∀ tk,R (.ok (.ret (.bool true))) { s with toks:=tk })
  (fun prog w A R s hs=>PySem.isinstance_outer (PySem.W.exc_yes hc e 0 _ prog w A R s hs) (fun z=>nomatch z)) ⟨⟨I.kIn,I.exc⟩,fun tk=>⟨.bl true,H,I.tok tk,rfl,q⟩⟩
end
section
variable {P:Program} {w:World} {K:PySem.W.Frag} {mg:Str→Option Value} {base:Heap}
theorem Fun.okX {x qual:Str} {st:Stmt} {f:Addr} {fd:FuncData} {N ps:List Str} {k:Nat} {sp:Sp} (F:Fun K x qual st f fd) (S:FnScope N ps (aa6 st)) (len:∀ vs H Q E,sp vs H Q E→vs.length=ps.length)
 (hbody:∀ (cdv:Value) (A:Around) (outer:List Env) (s:Shared) (H:Hp) (vs:List V) (Q:VK) (E:XK),Room k (A.deeper (envOfC qual (aa6 st) s.heap.objs.size f cdv))→sp vs H Q E →
   ∃ t,PSs (cxOf (CX1 P w) P w K mg base N qual (aa6 st) f cdv A outer s H E) (af0 st) t∧t { nx:=fun _ H'=>Q .non H',rt:=Q } (ai9 N vs) H):FnOk P w K mg base (CX1 P w) (k + 1) f fd ps sp:=by
 obtain ⟨oc,od,kV,doc,pm,an,cdv,ct,osl,rfl,lk,hcd⟩:=F.ex
 exact fn_of lk hcd S len fun A outer s H vs Q E hr hsp=>hbody cdv A outer s H vs Q E hr hsp
theorem ag6 {N:List Str} {qual:Str} {scope:Scope} {f:Addr} {cd:Value} {A:Around} {outer:List Env} {s:Shared} {H:Hp} {E:XK}:aE1 (CX1 P w) (cxOf (CX1 P w) P w K mg base N qual scope f cd A outer s H E) E:=aK4.passes
theorem ownX {N:List Str} {qual:Str} {scope:Scope} {f:Addr} {cd:Value} {A:Around} {outer:List Env} {s:Shared} {H:Hp} {E:XK}:PassesOwn (model P w) (cxOf (CX1 P w) P w K mg base N qual scope f cd A outer s H E).A (cxOf (CX1 P w) P w K mg base N qual scope f cd A outer s H E).env (cxOf (CX1 P w) P w K mg base N qual scope f cd A outer s H E).xe:=aK4.own
theorem no1 {P:Program} {w:World} {outer:List Env} {H:Hp} {s s':Shared} {e:Value} (h:CX1 P w outer H s E0 e s'):False:=by
 obtain ⟨_,_,_,_,_,_,_,_,_,_,_,_,_,q⟩:=h
 exact q
theorem FnOk.calm {k:Nat} {f:Addr} {fd:FuncData} {ps:List Str} {sp:Sp} (F:FnOk P w K mg base (CX1 P w) k f fd ps sp):FnOk P w K mg base CX0 k f fd ps (fun vs H Q _=>sp vs H Q E0) :=
 ⟨fun vs H Q E h=>F.len vs H Q E0 h,fun A outer s H args us vs Q E hr e0 hb hv hs=>codeAny_mono (F.run A outer s H args us vs Q E0 hr e0 hb hv hs) fun r s' h=>by
  cases r with
  | error e=>exact no1 h
  | ok fl=>cases fl <;> exact h⟩
end
end L2
namespace Mi
open PySem L2
noncomputable def aJ1 (c:Nat):Env→SO:=fun ρ=> .exc c ρ
noncomputable def aw4 (ρ:Env):Option Nat→Bool
 | none=>true
 | some j=>match ρ[j]? with
   | some none=>true
   | _=>false
theorem aM2 {ρ:Env} {j:Nat} (h:aw4 ρ (some j)=true):j < ρ.length∧rg ρ j=none:=by
 unfold aw4 at h
 dsimp only at h
 cases e:ρ[j]? with
 | none=>rw [e] at h; cases h
 | some x =>
   cases x with
   | none=>exact ⟨(List.getElem?_eq_some_iff.mp e).1,by unfold rg; rw [e]; rfl⟩
   | some y=>rw [e] at h; cases h
noncomputable def tryS (j:Option Nat) (cat:Nat→Bool) (mb:Env→SO) (mh:Nat→Env→SO):Env→SO:=fun ρ=>match mb ρ with
 | .exc c ρ'=>if cat c=true∧aw4 ρ' j=true then mh c ρ' else .bad
 | .nx ρ'=> .nx ρ'
 | _=> .bad
section
variable {cm:Cm} {Kr:KT D V} {E:XK} {pr:Nat→Bool} {ms:List Md} {K:PySem.W.Frag}
theorem bc4 {c:Nat} {v:V}:SJ cm E Kr pr ms (aV0 E (cm c) (ad7 (tC v) tNil)) (aJ1 c):=fun B U As σ H ρ D R P=>⟨(by decide:1≤1000),P σ B U As H R (Ex.refl _ _) (Kp.refl _ _) none⟩
noncomputable def Tf (cm:Cm) (E:XK) (ms:List Md) (B U:Hp) (σ:St) (r:SO) (D:Ends):Prop:=match r with
 | .nx ρ'=>∀ B' U' As' H',Rel cm ms B' U' As' σ H' ρ'→Ex B U B' U'→D.nx σ H'
 | .exc c ρ'=>∀ B' U' As' H',Rel cm ms B' U' As' σ H' ρ'→Ex B U B' U'→∀ oa,E (.ref (cm c)) oa H'
 | _=>False
noncomputable def TJf (cm:Cm) (ms:List Md) (tb:XK→TS) (m:Env→SO):Prop:=∀ E B U As σ H ρ D,Rel cm ms B U As σ H ρ→Tf cm E ms B U σ (m ρ) D→tb E D σ H
theorem bp2 {K':KT D V} {te:XK→TE} {m:Env→Out D} (h:∀ E,MJ cm K' E ms (te E) m):TJf cm ms (fun E=>aQ4 (te E)) (aj7 m):=by
 intro E B U As σ H ρ D R P
 refine h E B U As σ H ρ _ R ?_
 unfold aj7 at P
 cases e:m ρ with
 | ok d ρ'=>rw [e] at P; exact fun v B' U' As' H' N R' e' n' k=>P B' U' As' H' R' e'
 | exc c ρ'=>rw [e] at P; exact P
 | bad=>rw [e] at P; exact P
theorem Tf.at {B U B1 U1:Hp} {σ:St} {r:SO} {D:Ends} (P:Tf cm E ms B U σ r D) (e:Ex B U B1 U1):Tf cm E ms B1 U1 σ r D:=by
 cases r with
 | nx ρ'=>exact fun B' U' As' H' R' e'=>P B' U' As' H' R' (e.trans e')
 | exc c ρ'=>exact fun B' U' As' H' R' e'=>P B' U' As' H' R' (e.trans e')
 | _=>exact P
noncomputable def catN (l:List Nat):Nat→Bool:=fun c=>l.contains c
noncomputable def catOk (cm:Cm) (K:PySem.W.Frag) (g:Nat) (ok:Addr→Prop) (l:List Nat):Prop:=∀ c∈l,excK K (cm c)=true∧(mroK K (cm c)).contains (.ref (cm g))=true∧ok (cm c)
theorem bh3 {g:Nat} {ok:Addr→Prop}:catOk cm K g ok []:=fun _ h=>(nomatch h)
theorem aU4 {g c:Nat} {ok:Addr→Prop} {l:List Nat} (h1:excK K (cm c)=true) (h2:(mroK K (cm c)).contains (.ref (cm g))=true) (h3:ok (cm c)) (h:catOk cm K g ok l):catOk cm K g ok (c :: l):=fun x hx=>by
 rcases List.mem_cons.mp hx with rfl | hx
 · exact ⟨h1,h2,h3⟩
 · exact h x hx
theorem catOk.of {g c:Nat} {ok:Addr→Prop} {l:List Nat} (h:catOk cm K g ok l) (hc:catN l c=true):excK K (cm c)=true∧(mroK K (cm c)).contains (.ref (cm g))=true∧ok (cm c):=h c (List.contains_iff_mem.mp hc)
theorem Rel.slot {B U H:Hp} {As:Nat→List Addr} {σ:St} {ρ:Env} {j:Nat} {x:Option V} (R:Rel cm ms B U As σ H ρ) (h:rg ρ j=none):Rel cm ms B U As (σ.set j x) H ρ:=by
 refine ⟨R.bu,R.uh,R.nd,R.dj,R.un,fun i=>?_,by rw [List.length_set]; exact R.len,R.tb⟩
 have l:=R.lo i
 by_cases z:i=j
 · subst z
   rw [h] at l ⊢
   exact l
 · have:rg (σ.set j x) i=rg σ i:=by unfold rg; rw [List.getElem?_set_ne (Ne.symm z)]
   rw [this]
   exact l
theorem Kp.slot {σ σ':St} {j:Nat} {x:Option V} (k:Kp pr σ σ') (hp:pr j=false):Kp pr σ (σ'.set j x):=fun i hi=>by
 have:i≠j:=fun z=>by rw [z,hp] at hi; cases hi
 have e:rg (σ'.set j x) i=rg σ' i:=by unfold rg; rw [List.getElem?_set_ne (Ne.symm this)]
 rw [e]
 exact k i hi
theorem bc2 {g i j:Nat} {l:List Nat} {ok:Addr→Prop} {tb:XK→TS} {th:Addr→Addr→TS} {mb:Env→SO} {mv:Nat→D} (hc:catOk cm K g ok l) (hb:TJf cm ms tb mb) (hp:pr j=false) (hq:pr i=false) (hij:i≠j) (hm:ms.getD i .F= .F)
 (hh:∀ c ea,ok (cm c)→∃ b:Bool,mv c= .bl b∧∀ D σ H,σ[j]?=some (some (.ref ea))→D.nx (σ.set i (some (.bl b))) H→th ea (cm c) D σ H) :
 SJ cm E Kr pr ms (aG5 K (cm g) ok j tb th) (tryS (some j) (catN l) mb fun c ρ=> .nx (ρ.set i (some (mv c)))):=by
 intro B U As σ H ρ D R P
 refine hb _ B U As σ H ρ D R ?_
 unfold tryS at P
 cases e:mb ρ with
 | nx ρ'=>rw [e] at P; exact fun B' U' As' H' R' e'=>P σ B' U' As' H' R' e' (Kp.refl _ _)
 | exc c ρ' =>
   rw [e] at P
   dsimp only at P
   intro B' U' As' H' R' e' oa
   split at P
   · rename_i z
     obtain ⟨k1,k2,k3⟩:=hc.of z.1
     obtain ⟨hjl',hn⟩:=aM2 z.2
     refine ⟨cm c,rfl,k1,k2,k3,fun ea hna=>?_⟩
     obtain ⟨b,hv,ht⟩:=hh c ea k3
     have hjl:j < σ.length:=by rw [← R'.len]; exact hjl'
     refine ht _ _ _ (by rw [List.getElem?_set_self hjl]) ?_
     rw [hv] at P
     have l:Lo cm B' U' H' (ms.getD i .F) (some (.bl b)) (some (.bl b)) []:=by rw [hm]; exact ⟨.bl b,rfl,show Dn cm B' (.bl b) (.bl b) by rw [Dn],rfl⟩
     obtain ⟨As2,R2⟩:=(R'.slot (x:=some (.ref ea)) hn).store NewM.nil l
     have hn2:rg (ρ'.set i (some (.bl b))) j=none:=by unfold rg; rw [List.getElem?_set_ne hij]; exact hn
     exact P _ B' U' As2 H' (R2.slot (x:=none) hn2) e' (((Kp.refl pr σ).slot hp).slot hq |>.slot hp)
   · exact P.elim
 | _=>rw [e] at P; exact P
theorem bc1 {g i j:Nat} {l:List Nat} {ok:Addr→Prop} {v:V} {tb:XK→TS} {mb:Env→SO} (hc:catOk cm K g ok l) (hb:TJf cm ms tb mb) (hp:pr j=false) (hq:pr i=false) (hij:i≠j) (hm:ms.getD i .F= .F) :
 SJ cm E Kr pr ms (aG5 K (cm g) ok j tb fun ea _=>tAsg (tCB (rIs ea v true) (ad7 (tVar j) (ad7 (tC v) tNil))) (ak7 i)) (tryS (some j) (catN l) mb fun _ ρ=> .nx (ρ.set i (some (.bl true)))) :=
 bc2 (mv:=fun _=> .bl true) hc hb hp hq hij hm fun c ea _=>⟨true,rfl,fun D σ H e q=>⟨.ref ea,e,rfl,q⟩⟩
theorem ae2 {more:List Md} {t:TS} {body:Env→SO} {N:List Str} {vs:List V} {Q:VK} {H:Hp} {fm:List D→Out D} (hb:SJ cm E Kr (prO ms ms.length) (ms ++ more) t body) (hN:N.length=ms.length + more.length) (hfm:fm=run N.length body) (hr:∀ B U H,Kr .non .non B U H [])
 (h:spM cm ms Kr fm vs H Q E):t { nx:=fun _ H'=>Q .non H',rt:=Q } (L2.ai9 N vs) H:=by
 obtain ⟨B,U,As,ds,R,hl,P⟩:=h
 subst hfm
 have hd:ds.length=vs.length:=by have:=R.len; rw [List.length_map,List.length_map] at this; exact this
 unfold L2.ai9
 refine hb B U As _ H (ds.map some ++ List.replicate (N.length - vs.length) none) _ (R.enter hl) ?_
 unfold run at P
 rw [hd] at P
 cases e:body (ds.map some ++ List.replicate (N.length - vs.length) none) with
 | nx ρ' =>
   rw [e] at P
   intro σ' B' U' As' H' R' e' k'
   obtain ⟨As2,R2,n2⟩:=R'.leave hl k'
   exact P .non B' U' As2 H' [] R2 e' NewM.nil (hr _ _ _)
 | rt d ρ' =>
   rw [e] at P
   intro v σ' B' U' As' H' N' R' e' k' n' kr
   obtain ⟨As2,R2,n2⟩:=R'.leave hl k'
   exact P v B' U' As2 H' N' R2 e' (n2 _ n') kr
 | exc c ρ' =>
   rw [e] at P
   intro σ' B' U' As' H' R' e' k' oa
   obtain ⟨As2,R2,n2⟩:=R'.leave hl k'
   exact P B' U' As2 H' R2 e' oa
 | bk ρ'=>rw [e] at P; exact P.elim
 | ct ρ'=>rw [e] at P; exact P.elim
 | bad=>rw [e] at P; exact P.elim
theorem aw6 {more:List Md} {t:TS} {body:Env→SO} {N:List Str} {vs:List V} {Q:VK} {H:Hp} {fm:List D→Out D} (hb:SJ cm E Kr (prO ms ms.length) (ms ++ more) t body) (hN:N.length=ms.length + more.length) (hfm:fm=runO N.length body)
 (h:spM cm ms Kr fm vs H Q E):t { nx:=fun _ H'=>Q .non H',rt:=Q } (L2.ai9 N vs) H:=by
 obtain ⟨B,U,As,ds,R,hl,P⟩:=h
 subst hfm
 have hd:ds.length=vs.length:=by have:=R.len; rw [List.length_map,List.length_map] at this; exact this
 unfold L2.ai9
 refine hb B U As _ H (ds.map some ++ List.replicate (N.length - vs.length) none) _ (R.enter hl) ?_
 unfold runO at P
 rw [hd] at P
 cases e:body (ds.map some ++ List.replicate (N.length - vs.length) none) with
 | nx ρ'=>rw [e] at P; exact P.elim
 | rt d ρ' =>
   rw [e] at P
   intro v σ' B' U' As' H' N' R' e' k' n' kr
   obtain ⟨As2,R2,n2⟩:=R'.leave hl k'
   exact P v B' U' As2 H' N' R2 e' (n2 _ n') kr
 | exc c ρ' =>
   rw [e] at P
   intro σ' B' U' As' H' R' e' k' oa
   obtain ⟨As2,R2,n2⟩:=R'.leave hl k'
   exact P B' U' As2 H' R2 e' oa
 | bk ρ'=>rw [e] at P; exact P.elim
 | ct ρ'=>rw [e] at P; exact P.elim
 | bad=>rw [e] at P; exact P.elim
theorem ad8 {msC:List Md} {fm:List D→Out D} {ps:List Ap} {t:TA} {m:Env→Res (List D)} (h:AJ cm E ms ps t m) (hf:aA3 ps msC=true):PJ cm (KR cm .F) E ms (aG6 (spM cm msC (KR cm .F) fm) [] E t) (pc fm m) :=
 aW8 h (am3 hf) (am4 hf) fun _ _ _ _ _ _ _ h=>h
theorem aK1 {s:Sh} {msC:List Md} {fm:List D→Out D} {ps:List Ap} {t:TA} {m:Env→Res (List D)} (h:AJ cm E ms ps t m) (hf:aA3 ps msC=true):PJ cm (KO cm s) E ms (aG6 (spM cm msC (KO cm s) fm) [] E t) (pc fm m) :=
 aW8 h (am3 hf) (am4 hf) fun _ _ _ _ _ _ _ h=>h
end
noncomputable abbrev DI (β:Type):=List (List Int×β)
section
variable {β:Type}
noncomputable def encD (f:β→D) (F:DI β):D:= .dT (F.map fun p=>p.1.map Sum.inl) (F.map fun p=>f p.2)
noncomputable def DI.get (F:DI β) (k:List Int):Option β:=(F.find? fun p=>decide (p.1=k)).map (·.2)
end
open PySem.Spec (countIn same sameAll)
theorem at6 {α:Type} {f:α→D} {g:α→PyData} (h:∀ a,toPy (f a)=some (g a)):∀ l:List α,toPys (l.map f)=some (l.map g)
 | []=>rfl
 | a :: l=>by rw [List.map_cons,toPys,h a,at6 h l]; rfl
theorem al1 {α:Type} {f:α→D} {g:α→PyData} (h:∀ a,toPy (f a)=some (g a)) (l:List α):toPy (.lst (l.map f))=some (.list (l.map g)):=by
 rw [toPy,at6 h]; rfl
theorem aE4 {α:Type} {g:α→PyData} (h1:∀ a,(g a).canLay0=true) (h2:∀ a,(g a).depth≤60) (l:List α):SeqAt.shaped (.list (l.map g))=true:=by
 have c:∀ l:List α,PyData.canLayAll0 (l.map g)=true:=by
  intro l
  induction l with
  | nil=>simp [PyData.canLayAll0]
  | cons a l ih=>simp [PyData.canLayAll0,h1 a,ih]
 have d:∀ l:List α,PyData.depthAll (l.map g)≤60:=by
  intro l
  induction l with
  | nil=>simp [PyData.depthAll]
  | cons a l ih =>
    rw [List.map_cons,PyData.depthAll]
    have:=h2 a
    omega
 have e:PyData.depth (.list (l.map g))≤64:=by rw [PyData.depth]; have:=d l; omega
 unfold SeqAt.shaped
 rw [Bool.and_eq_true]
 exact ⟨by rw [PyData.canLay0]; exact c l,decide_eq_true e⟩
theorem ao2 {α:Type} [DecidableEq α] {g:α→PyData} (h:∀ a b,same (g a) (g b)=decide (a=b)) (a:α):∀ l:List α,(0≤countIn (g a) (l.map g))∧(countIn (g a) (l.map g)≠0↔a∈l)
 | []=>by simp [countIn]
 | b :: l=>by
   obtain ⟨i1,i2⟩:=ao2 h a l
   rw [List.map_cons,countIn,h b a,List.mem_cons]
   by_cases e:b=a
   · rw [if_pos (by simpa using e)]
     exact ⟨by omega,fun _=> .inl e.symm,fun _=>by omega⟩
   · rw [if_neg (by simpa using e)]
     refine ⟨by omega,fun z=> .inr (i2.mp (by omega)),fun z=>?_⟩
     rcases z with z | z
     · exact absurd z.symm e
     · have:=i2.mpr z; omega
section
variable {α:Type} [DecidableEq α] {f:α→D} {g:α→PyData}
theorem bf9 (h0:∀ a,toPy (f a)=some (g a)) (h1:∀ a,(g a).canLay0=true) (h2:∀ a,(g a).depth≤60) (h3:∀ a b,same (g a) (g b)=decide (a=b)) (h4:∀ a b,SeqAt.noMix (g a) (g b)=true) (a:α) (l:List α) :
 inD (f a) (.lst (l.map f))= .ok (.bl (decide (a∈l)))∧ninD (f a) (.lst (l.map f))= .ok (.bl (!decide (a∈l))):=by
 have s1:SeqAt.shaped (g a)=true:=by
  unfold SeqAt.shaped
  rw [h1 a,Bool.true_and]
  exact decide_eq_true (by have:=h2 a; omega)
 have s2:=aE4 h1 h2 l
 have s3:((l.map g).all fun z=>SeqAt.noMix z (g a))=true:=by
  rw [List.all_map,List.all_eq_true]
  exact fun b _=>h4 b a
 have s4:decide (countIn (g a) (l.map g)≠0)=decide (a∈l):=by
  have:=(ao2 h3 a l).2
  by_cases z:a∈l
  · rw [decide_eq_true z,decide_eq_true (this.mpr z)]
  · rw [decide_eq_false z,decide_eq_false (fun w=>z (this.mp w))]
 constructor
 · unfold inD
   rw [h0 a,al1 h0 l]
   show (if _ then _ else _)=_
   rw [if_pos ⟨s1,s2,s3⟩,s4]
 · unfold ninD
   rw [h0 a,al1 h0 l]
   show (if _ then _ else _)=_
   rw [if_pos ⟨s1,s2,s3⟩,s4]
end
end Mi
namespace Cl
open PySem L2 Mi
inductive OutC (σ α:Type) where
 | ok (a:α) (s:σ) | exc (c:Nat) (s:σ) | bad
inductive FlC (σ β:Type) where
 | nx (s:σ) | rt (b:β) (s:σ) | bk (s:σ) | ct (s:σ) | exc (c:Nat) (s:σ) | bad
noncomputable def SimR {α γ:Type} (e:α→γ) (r:Res γ) (q:Res α):Prop:=match q with
 | .ok a=>r= .ok (e a)
 | .exc x=>r= .exc x
 | .bad=>True
section
variable {σ α β γ δ:Type} {rep:σ→Mi.Env}
noncomputable def SimO (rep:σ→Mi.Env) (e:α→γ) (r:Out γ) (q:OutC σ α):Prop:=match q with
 | .ok a s=>r= .ok (e a) (rep s)
 | .exc x s=>r= .exc x (rep s)
 | .bad=>True
noncomputable def SimS (rep:σ→Mi.Env) (e:β→D) (r:SO) (q:FlC σ β):Prop:=match q with
 | .nx s=>r= .nx (rep s)
 | .rt b s=>r= .rt (e b) (rep s)
 | .bk s=>r= .bk (rep s)
 | .ct s=>r= .ct (rep s)
 | .exc x s=>r= .exc x (rep s)
 | .bad=>True
noncomputable def EJ (rep:σ→Mi.Env) (e:α→γ) (m:Mi.Env→Res γ) (c:σ→Res α):Prop:=∀ s,SimR e (m (rep s)) (c s)
noncomputable def NJ (rep:σ→Mi.Env) (e:α→γ) (m:Mi.Env→Out γ) (c:σ→OutC σ α):Prop:=∀ s,SimO rep e (m (rep s)) (c s)
noncomputable def TJ (rep:σ→Mi.Env) (e:β→D) (m:Mi.Env→SO) (c:σ→FlC σ β):Prop:=∀ s,SimS rep e (m (rep s)) (c s)
theorem SimR.bnd {e:α→γ} {e':β→δ} {r:Res γ} {q:Res α} {k:γ→Res δ} {l:α→Res β} (h:SimR e r q) (hk:∀ a,SimR e' (k (e a)) (l a)):SimR e' (r.bind k) (q.bind l):=by
 cases q with
 | ok a=>have h:r= .ok (e a):=h; rw [h]; exact hk a
 | exc x=>have h:r= .exc x:=h; rw [h]; exact rfl
 | bad=>trivial
theorem SimR.calm {e:α→γ} {r:Res γ} {q:Res α} (h:SimR e r q):SimR e r.calm q.calm:=by
 cases q with
 | ok a=>have h:r= .ok (e a):=h; rw [h]; exact rfl
 | exc x=>trivial
 | bad=>trivial
@[simp] noncomputable def vC (g:σ→Option α):σ→Res α:=fun s=>match g s with | some a=> .ok a | none=> .bad
@[simp] noncomputable def pC (g:σ→α):σ→Res α:=fun s=> .ok (g s)
@[simp] noncomputable def kC (a:α):σ→Res α:=fun _=> .ok a
@[simp] noncomputable def unC (f:α→Res β) (c:σ→Res α):σ→Res β:=fun s=>(c s).bind f
@[simp] noncomputable def bnC (f:α→β→Res γ) (a:σ→Res α) (b:σ→Res β):σ→Res γ:=fun s=>(a s).bind fun x=>(b s).bind fun y=>f x y
theorem bp4 {e:α→D} {i:Nat} {g:σ→Option α} (h:∀ s,rg (rep s) i=(g s).map e):EJ rep e (vr i) (vC g):=fun s=>by
 unfold vC vr
 rw [h s]
 cases g s with
 | none=>trivial
 | some a=>exact rfl
theorem bp7 {e:α→D} {i:Nat} {g:σ→α} (h:∀ s,rg (rep s) i=some (e (g s))):EJ rep e (vr i) (pC g):=fun s=>by
 unfold vr pC
 rw [h s]
 exact rfl
theorem bp9 {e:α→D} {d:D} {a:α} (h:e a=d):EJ rep e (cst d) (kC a):=fun s=>by subst h; exact rfl
theorem ah3 {e:α→D} {e':β→D} {F:D→Res D} {f:α→Res β} {m:Mi.Env→Res D} {c:σ→Res α} (h:∀ a,SimR e' (F (e a)) (f a)) (h1:EJ rep e m c):EJ rep e' (un F m) (unC f c):=fun s=>(h1 s).bnd h
theorem aa9 {e:α→D} {e1:β→D} {e2:γ→D} {F:D→D→Res D} {f:α→β→Res γ} {m n:Mi.Env→Res D} {c:σ→Res α} {c':σ→Res β} (h:∀ a b,SimR e2 (F (e a) (e1 b)) (f a b)) (h1:EJ rep e m c) (h2:EJ rep e1 n c'):EJ rep e2 (bn F m n) (bnC f c c'):=fun s=>(h1 s).bnd fun a=>(h2 s).bnd fun b=>h a b
theorem ao5 {e:α→D} {e':β→D} {m:Mi.Env→Res D} {c:σ→Res α} {f:α→Res β} (h:∀ a,SimR e' (.ok (e a)) (f a)) (h1:EJ rep e m c):EJ rep e' m (unC f c):=fun s=>by
 have h1:=h1 s
 unfold unC
 cases q:c s with
 | ok a=>rw [q] at h1; have h1:m (rep s)= .ok (e a):=h1; rw [h1]; exact h a
 | exc x=>rw [q] at h1; exact h1
 | bad=>trivial
noncomputable def eN:Unit→D:=fun _=> .non
noncomputable def eL (e:α→D):List α→D:=fun xs=> .lst (xs.map e)
noncomputable def eS:List Int→D:=fun xs=> .scr (xs.map D.int)
noncomputable def eT2 (e:α→D) (e':β→D):α×β→D:=fun p=> .tup [e p.1,e' p.2]
noncomputable def eT3 (e:α→D) (e':β→D) (e'':γ→D):α×β×γ→D:=fun p=> .tup [e p.1,e' p.2.1,e'' p.2.2]
noncomputable def eO (e:α→D):Option α→D:=fun o=>match o with | none=> .non | some a=>e a
noncomputable abbrev eK:Int×Int×List Int→D:=eT3 D.int D.int (eL D.int)
@[simp] noncomputable def optC (o:Option α):Res α:=match o with | some a=> .ok a | none=> .bad
@[simp] noncomputable def aI2 (a:α):Res (Option α):= .ok (some a)
@[simp] noncomputable def idC (a:α):Res α:= .ok a
theorem aj8 {e:α→D} (o:Option α):SimR e (.ok (eO e o)) (optC o):=by cases o <;> trivial
theorem aX7 {e:α→D} (a:α):SimR (eO e) (.ok (e a)) (aI2 a):=rfl
theorem ej_id {e:α→D} {F:(Mi.Env→Res D)→Mi.Env→Res D} {m:Mi.Env→Res D} {c:σ→Res α} (hF:∀ ρ a,m ρ= .ok (e a)→F m ρ= .ok (e a)) (hx:∀ ρ x,m ρ= .exc x→F m ρ= .exc x) (h:EJ rep e m c):EJ rep e (F m) c:=fun s=>by
 have h:=h s
 cases q:c s with
 | ok a=>rw [q] at h; exact hF _ _ h
 | exc x=>rw [q] at h; exact hx _ _ h
 | bad=>trivial
theorem aX2 {e:α→D} {m:Mi.Env→Res D} {c:σ→Res α} (hs:∀ a,af3 (e a)=true) (h:EJ rep e m c):EJ rep e (sc1 m) c :=
 ej_id (F:=sc1) (fun ρ a q=>by unfold sc1; rw [q]; show (if _ then _ else _)=_; rw [if_pos (hs a)]) (fun ρ x q=>by unfold sc1; rw [q]; rfl) h
@[simp] noncomputable def addC (a b:Int):Res Int:= .ok (a + b)
@[simp] noncomputable def subC (a b:Int):Res Int:= .ok (a - b)
@[simp] noncomputable def mulC (a b:Int):Res Int:=if (-(2 ^ 64) < a∧a < 2 ^ 64)∨(-(2 ^ 64) < b∧b < 2 ^ 64) then .ok (a * b) else .bad
@[simp] noncomputable def aF3 (a b:Int):Res Int:=if 0 < b∧b < 1073741824 then .ok (a / b) else .bad
@[simp] noncomputable def modC (a b:Int):Res Int:=if 0 < b then .ok (a % b) else .bad
@[simp] noncomputable def ltC (a b:Int):Res Bool:= .ok (decide (a < b))
@[simp] noncomputable def gtC (a b:Int):Res Bool:= .ok (decide (b < a))
@[simp] noncomputable def geC (a b:Int):Res Bool:= .ok (decide (b≤a))
@[simp] noncomputable def negC (a:Int):Res Int:= .ok (-a)
@[simp] noncomputable def notC (a:Bool):Res Bool:= .ok (!a)
@[simp] noncomputable def eqC [DecidableEq α] (neg:Bool) (a b:α):Res Bool:= .ok (neg.xor (decide (a=b)))
theorem aR9 (a b:Int):SimR D.int (addI (.int a) (.int b)) (addC a b):=rfl
theorem o_sub (a b:Int):SimR D.int (subI (.int a) (.int b)) (subC a b):=rfl
theorem SimR.ite {e:α→γ} {p:Prop} [Decidable p] {r r':Res γ} {q q':Res α} (h:SimR e r q) (h':SimR e r' q'):SimR e (if p then r else r') (if p then q else q'):=by
 by_cases z:p
 · rw [if_pos z,if_pos z]; exact h
 · rw [if_neg z,if_neg z]; exact h'
theorem o_mul (a b:Int):SimR D.int (mulI (.int a) (.int b)) (mulC a b):=by rw [aS2]; exact SimR.ite rfl trivial
theorem av6 (a b:Int):SimR D.int (ar9 (.int a) (.int b)) (aF3 a b):=by rw [aM7]; exact SimR.ite rfl trivial
theorem ar2 (a b:Int):SimR D.int (modI (.int a) (.int b)) (modC a b):=by rw [aS4]; exact SimR.ite rfl trivial
theorem o_lt (a b:Int):SimR D.bl (ltI (.int a) (.int b)) (ltC a b):=rfl
theorem o_gt (a b:Int):SimR D.bl (gtI (.int a) (.int b)) (gtC a b):=rfl
theorem o_ge (a b:Int):SimR D.bl (geI (.int a) (.int b)) (geC a b):=rfl
theorem aK7 (a:Int):SimR D.int (negI (.int a)) (negC a):=rfl
theorem o_not (a:Bool):SimR D.bl (notB (.bl a)) (notC a):=rfl
theorem av7 (neg:Bool) (a b:Int):SimR D.bl (eqS neg (.int a) (.int b)) (eqC neg a b):=rfl
theorem bm1 (neg:Bool) (a b:Str):SimR D.bl (eqS neg (.str a) (.str b)) (eqC neg a b):=rfl
@[simp] noncomputable def isnC (neg:Bool) (f:α→Bool) (a:α):Res Bool:= .ok (neg.xor (f a))
theorem ap4 {e:α→D} {m:Mi.Env→Res D} {c:σ→Res α} {neg:Bool} {f:α→Bool} (h:∀ a,aw3 (e a)=f a) (h1:EJ rep e m c):EJ rep D.bl (bn (isNb neg) m (cst .non)) (unC (isnC neg f) c):=fun s=>(h1 s).bnd fun a=>by
 show isNb neg (e a) .non= .ok (.bl (neg.xor (f a)))
 rw [← h a]
 rfl
@[simp] noncomputable def nonO (o:Option α):Bool:=o.isNone
theorem aT0 {e:α→D} (h:∀ a,aw3 (e a)=false) (o:Option α):aw3 (eO e o)=nonO o:=by
 cases o with
 | none=>rfl
 | some a=>exact h a
theorem ab5 {m:Mi.Env→Res D} {c:σ→Res Bool} (h:EJ rep D.bl m c):EJ rep (id:Bool→Bool) (tst m) c:=fun s=>by
 have h:=h s
 cases q:c s with
 | ok a=>rw [q] at h; have h:m (rep s)= .ok (.bl a):=h; show tst m (rep s)= .ok a; unfold tst; rw [h]; rfl
 | exc x=>rw [q] at h; have h:m (rep s)= .exc x:=h; show tst m (rep s)= .exc x; unfold tst; rw [h]; rfl
 | bad=>trivial
@[simp] noncomputable def andC (a b:σ→Res Bool):σ→Res Bool:=fun s=>(a s).bind fun c=>if c=true then b s else .ok false
@[simp] noncomputable def orC (a b:σ→Res Bool):σ→Res Bool:=fun s=>(a s).bind fun c=>if c=true then .ok true else b s
@[simp] noncomputable def iteC (c:σ→Res Bool) (a b:σ→Res α):σ→Res α:=fun s=>(c s).bind fun t=>if t=true then a s else b s
theorem aN0 {a b:Mi.Env→Res Bool} {c d:σ→Res Bool} (h1:EJ rep (id:Bool→Bool) a c) (h2:EJ rep (id:Bool→Bool) b d):EJ rep (id:Bool→Bool) (andT a b) (andC c d):=fun s=>(h1 s).bnd fun t=>SimR.ite (h2 s) rfl
theorem ap3 {a b:Mi.Env→Res Bool} {c d:σ→Res Bool} (h1:EJ rep (id:Bool→Bool) a c) (h2:EJ rep (id:Bool→Bool) b d):EJ rep (id:Bool→Bool) (orT a b) (orC c d):=fun s=>(h1 s).bnd fun t=>SimR.ite rfl (h2 s)
theorem am7 {a:Mi.Env→Res Bool} {c:σ→Res Bool} (h1:EJ rep (id:Bool→Bool) a c):EJ rep (id:Bool→Bool) (notT a) (unC notC c):=fun s=>(h1 s).bnd fun t=>rfl
theorem aX4 {a b:Mi.Env→Res D} {c d:σ→Res Bool} (h1:EJ rep D.bl a c) (h2:EJ rep D.bl b d):EJ rep D.bl (andD a b) (andC c d):=fun s=>by
 have:=ab5 h1 s
 exact SimR.bnd (e:=(id:Bool→Bool)) this fun t=>SimR.ite (h2 s) rfl
theorem bp8 {e:α→D} {t:Mi.Env→Res Bool} {a b:Mi.Env→Res D} {ct:σ→Res Bool} {c d:σ→Res α} (ht:EJ rep (id:Bool→Bool) t ct) (h1:EJ rep e a c) (h2:EJ rep e b d):EJ rep e (iteD t a b) (iteC ct c d):=fun s=>(ht s).bnd fun t=>SimR.ite (h1 s) (h2 s)
structure Dat (e:α→D) [DecidableEq α] where
 py:α→PyData
 dep:Nat
 h0:∀ a,toPy (e a)=some (py a)
 lay:∀ a,(py a).canLay0=true
 depth:∀ a,(py a).depth≤dep
 eqv:∀ a b,PyData.eqv (py a) (py b)=decide (a=b)
 nomix:∀ a b,SeqAt.noMix (py a) (py b)=true
theorem Dat.same {e:α→D} [DecidableEq α] (A:Dat e) (a b:α):PySem.Spec.same (A.py a) (A.py b)=decide (a=b):=by rw [← A.eqv,SeqAt.same_eq_eqv _ _ (A.nomix a b)]
theorem Dat.shp {e:α→D} [DecidableEq α] (A:Dat e) (hd:A.dep≤64) (a:α):SeqAt.shaped (A.py a)=true:=by
 unfold SeqAt.shaped
 rw [A.lay a,Bool.true_and]
 exact decide_eq_true (Nat.le_trans (A.depth a) hd)
theorem bm3 {e:α→D} [DecidableEq α] (A:Dat e) (hd:A.dep≤64) (neg:Bool) (a b:α):SimR D.bl (eqD neg (e a) (e b)) (eqC neg a b):=by
 show eqD neg (e a) (e b)= .ok (.bl (neg.xor (decide (a=b))))
 unfold eqD
 rw [A.h0,A.h0]
 show (if _ then _ else _)=_
 rw [if_pos ⟨A.shp hd a,A.shp hd b⟩,A.eqv]
@[simp] noncomputable def inC [DecidableEq α] (neg:Bool) (a:α) (l:List α):Res Bool:= .ok (neg.xor (decide (a∈l)))
theorem bm0 {e:α→D} [DecidableEq α] (A:Dat e) (hd:A.dep≤60) (a:α) (l:List α):SimR D.bl (inD (e a) (eL e l)) (inC false a l):=by
 have:=(bf9 A.h0 A.lay (fun a=>Nat.le_trans (A.depth a) hd) A.same A.nomix a l).1
 show inD (e a) (.lst (l.map e))= .ok (.bl (false.xor (decide (a∈l))))
 rw [this,Bool.false_xor]
noncomputable def aT8:Dat D.int:=⟨PyData.int,1,fun _=>rfl,fun a=>by simp [PyData.canLay0],fun a=>by simp [PyData.depth],fun a b=>by simp only [PyData.eqv]; exact Bool.beq_eq_decide_eq _ _,fun a b=>by simp [SeqAt.noMix]⟩
theorem ap2 {g:α→PyData} [DecidableEq α] (h:∀ a b,PyData.eqv (g a) (g b)=decide (a=b)):∀ t u:List α,PyData.eqvAll (t.map g) (u.map g)=decide (t=u)
 | [],[]=>by simp [PyData.eqvAll]
 | [],_ :: _=>by simp [PyData.eqvAll]
 | _ :: _,[]=>by simp [PyData.eqvAll]
 | r :: t,q :: u=>by
   rw [List.map_cons,List.map_cons,PyData.eqvAll,h,ap2 h t u]
   by_cases h1:r=q <;> by_cases h2:t=u <;> simp [h1,h2]
end
section
variable {σ α β γ δ:Type} {rep:σ→Mi.Env}
theorem ak2 {g:α→PyData} (h:∀ a b,SeqAt.noMix (g a) (g b)=true):∀ t u:List α,SeqAt.noMixAll (t.map g) (u.map g)=true
 | [],[]=>by simp [SeqAt.noMixAll]
 | [],_ :: _=>by simp [SeqAt.noMixAll]
 | _ :: _,[]=>by simp [SeqAt.noMixAll]
 | r :: t,q :: u=>by rw [List.map_cons,List.map_cons,SeqAt.noMixAll,h,ak2 h t u]; rfl
theorem ap0 {g:α→PyData} (h:∀ a,(g a).canLay0=true):∀ l:List α,PyData.canLayAll0 (l.map g)=true
 | []=>by simp [PyData.canLayAll0]
 | a :: l=>by simp [PyData.canLayAll0,h a,ap0 h l]
theorem ak3 {g:α→PyData} {n:Nat} (h:∀ a,(g a).depth≤n):∀ l:List α,PyData.depthAll (l.map g)≤n
 | []=>by simp [PyData.depthAll]
 | a :: l=>by rw [List.map_cons,PyData.depthAll]; have:=h a; have:=ak3 h l; omega
noncomputable def aT7 {e:α→D} [DecidableEq α] (A:Dat e):Dat (eL e):=⟨fun l=> .list (l.map A.py),A.dep + 1,fun l=>al1 A.h0 l,fun l=>by rw [PyData.canLay0]; exact ap0 A.lay l,fun l=>by rw [PyData.depth]; have:=ak3 A.depth l; omega,fun a b=>by rw [PyData.eqv]; exact ap2 A.eqv a b,fun a b=>by rw [SeqAt.noMix]; exact ak2 A.nomix a b⟩
theorem al0 {d:PyData} (h:d≠ .none):PyData.eqv .none d=false∧PyData.eqv d .none=false∧SeqAt.noMix .none d=true∧SeqAt.noMix d .none=true:=by
 cases d with
 | none=>exact absurd rfl h
 | _=>simp [PyData.eqv,SeqAt.noMix]
noncomputable def dat_O {e:α→D} [DecidableEq α] (A:Dat e) (F:∀ a,A.py a≠ .none):Dat (eO e):=⟨fun o=>match o with | none=> .none | some a=>A.py a,A.dep + 1,fun o=>by
 cases o with
 | none=>rfl
 | some a=>exact A.h0 a,fun o=>by
 cases o with
 | none=>simp [PyData.canLay0]
 | some a=>exact A.lay a,fun o=>by
 cases o with
 | none=>simp [PyData.depth]
 | some a=>exact Nat.le_succ_of_le (A.depth a),fun a b=>by
 cases a with
 | none =>
   cases b with
   | none=>simp [PyData.eqv]
   | some b=>exact (al0 (F b)).1.trans (by simp)
 | some a =>
   cases b with
   | none=>exact (al0 (F a)).2.1.trans (by simp)
   | some b=>exact (A.eqv a b).trans (by simp),fun a b=>by
 cases a with
 | none =>
   cases b with
   | none=>simp [SeqAt.noMix]
   | some b=>exact (al0 (F b)).2.2.1
 | some a =>
   cases b with
   | none=>exact (al0 (F a)).2.2.2
   | some b=>exact A.nomix a b⟩
theorem aT6 {e:α→D} [DecidableEq α] (A:Dat e) (a:List α):(aT7 A).py a≠ .none:=fun h=>PyData.noConfusion (show PyData.list (a.map A.py)= .none from h)
@[simp] noncomputable def aK8 (_:Unit):Res (Option α):= .ok none
theorem aP9 {e:α→D} (u:Unit):SimR (eO e) (.ok (eN u)) (aK8 u):=rfl
@[simp] noncomputable def br0 (xs:List α):Res (List (Option α)):= .ok (xs.map some)
theorem bh6 {e:α→D} (xs:List α):SimR (eL (eO e)) (.ok (eL e xs)) (br0 xs):=by
 show Res.ok (D.lst (xs.map e))=Res.ok (D.lst ((xs.map some).map (eO e)))
 rw [List.map_map]; rfl
@[simp] noncomputable def cbC (b:Bool) (_:α):Res Bool:= .ok b
theorem aw8 {e:α→D} {n:String} {b:Bool} {m:Mi.Env→Res D} {c:σ→Res α} (h:∀ a,isT (e a) (.ty n)= .ok (.bl b)) (h1:EJ rep e m c):EJ rep D.bl (bn isT m (cst (.ty n))) (unC (cbC b) c):=fun s=>(h1 s).bnd fun a=>h a
@[simp] noncomputable def nilC:σ→Res (List α):=fun _=> .ok []
@[simp] noncomputable def ax7 (a:σ→Res α) (r:σ→Res (List α)):σ→Res (List α):=fun s=>(a s).bind fun x=>(r s).bind fun xs=> .ok (x :: xs)
theorem am8 {e:α→D}:EJ rep (List.map e) esN (nilC:σ→Res (List α)):=fun s=>rfl
theorem ah4 {e:α→D} {m:Mi.Env→Res D} {n:Mi.Env→Res (List D)} {c:σ→Res α} {d:σ→Res (List α)} (h1:EJ rep e m c) (h2:EJ rep (List.map e) n d):EJ rep (List.map e) (esC m n) (ax7 c d):=fun s=>(h1 s).bnd fun a=>(h2 s).bnd fun b=>rfl
@[simp] noncomputable def mkC (c:σ→Res (List α)):σ→Res (List α):=fun s=>(c s).bind fun xs=>if xs.length≤ab4 then .ok xs else .bad
theorem am9 {e:α→D} {m:Mi.Env→Res (List D)} {c:σ→Res (List α)} (h:EJ rep (List.map e) m c):EJ rep (eL e) (mkL m) (mkC c):=fun s=>(h s).bnd fun xs=>by rw [List.length_map]; exact SimR.ite rfl trivial
@[simp] noncomputable def lenC (xs:List α):Res Int:= .ok xs.length
theorem ao8 {e:α→D} (xs:List α):SimR D.int (lenD (eL e xs)) (lenC xs):=by show Res.ok (D.int _)=Res.ok (D.int _); rw [List.length_map]
theorem bl9 (xs:List Int):SimR D.int (lenD (eS xs)) (lenC xs):=by show Res.ok (D.int _)=Res.ok (D.int _); rw [List.length_map]
theorem bh5 {e:α→γ} (xs:List α) (i:Int):atI (xs.map e) i=(atI xs i).map e:=by
 unfold atI
 rw [List.length_map]
 cases ixN xs.length i with
 | none=>rfl
 | some j=>simp only [Option.bind_some,List.getElem?_map]
@[simp] noncomputable def ixC (xs:List α) (i:Int):Res α:=match atI xs i with | some a=> .ok a | none=> .bad
theorem aX6 {e:α→D} (xs:List α) (i:Int):SimR e (atD (xs.map e) i) (ixC xs i):=by
 unfold atD ixC
 rw [bh5]
 cases atI xs i <;> trivial
theorem ao3 {e:α→D} (xs:List α) (i:Int):SimR e (ixL (eL e xs) (.int i)) (ixC xs i):=aX6 xs i
theorem o_ixS (xs:List Int) (i:Int):SimR D.int (ixL (eS xs) (.int i)) (ixC xs i):=aX6 xs i
@[simp] noncomputable def fstC (p:α×β):Res α:= .ok p.1
@[simp] noncomputable def sndC (p:α×β):Res β:= .ok p.2
theorem bg3 {e:α→D} {e':β→D} {F:D→D→Res D} {f:α→Res β} {k:D} {m:Mi.Env→Res D} {c:σ→Res α} (h:∀ a,SimR e' (F (e a) k) (f a)) (h1:EJ rep e m c):EJ rep e' (bn F m (cst k)) (unC f c):=fun s=>(h1 s).bnd fun a=>h a
theorem o_p0 {e:α→D} {e':β→D} (p:α×β):SimR e (ixT (eT2 e e' p) (.int 0)) (fstC p):=rfl
theorem o_p1 {e:α→D} {e':β→D} (p:α×β):SimR e' (ixT (eT2 e e' p) (.int 1)) (sndC p):=rfl
@[simp] noncomputable def catC (xs ys:List α):Res (List α):=if xs.length + ys.length≤ab4 then .ok (xs ++ ys) else .bad
theorem o_cat {e:α→D} (xs ys:List α):SimR (eL e) (catL (eL e xs) (eL e ys)) (catC xs ys):=by
 show SimR (eL e) (if (xs.map e).length + (ys.map e).length≤ab4 then .ok (.lst (xs.map e ++ ys.map e)) else .bad) (catC xs ys)
 rw [List.length_map,List.length_map]
 exact SimR.ite (by show Res.ok (D.lst _)=Res.ok (D.lst _); rw [List.map_append]) trivial
theorem bl8 {e:α→D} (xs:List α):SimR (eL e) (aD6 (eL e xs)) (idC xs):=rfl
@[simp] noncomputable def aX0 (xs:List Int) (d:Int):Res Int:= .ok (match xs with | []=>d | x :: r=>ac5 r x)
@[simp] noncomputable def bn6 (xs:List Int) (d:Int):Res Int:= .ok (match xs with | []=>d | x :: r=>af4 r x)
theorem aj5:∀ l:List Int,ag7 (l.map D.int)=some l
 | []=>rfl
 | x :: l=>by rw [List.map_cons,ag7,aj5 l]; rfl
theorem bd8 (xs:List Int) (d:Int):SimR D.int (extD ac5 (eL D.int xs) (.int d)) (aX0 xs d):=by
 show extD ac5 (.lst (xs.map D.int)) (.int d)=_
 unfold extD
 dsimp only
 rw [aj5]
 cases xs <;> rfl
theorem bl7 (xs:List Int) (d:Int):SimR D.int (extD af4 (eL D.int xs) (.int d)) (bn6 xs d):=by
 show extD af4 (.lst (xs.map D.int)) (.int d)=_
 unfold extD
 dsimp only
 rw [aj5]
 cases xs <;> rfl
end
section
variable {σ σ' α β γ δ:Type} {rep:σ→Mi.Env} {rep':σ'→Mi.Env}
noncomputable def repI (rep:σ→Mi.Env) (e:α→D) (ix:List Nat):α×σ→Mi.Env:=fun p=>some (e p.1) :: capD (rep p.2) ix
noncomputable def af7 (ti:α→Res Bool) (te:α→Res β):List α→Res (List β)
 | []=> .ok []
 | a :: r=>(ti a).calm.bind fun c=>if c=true then (te a).calm.bind fun x=>(af7 ti te r).bind fun xs=> .ok (x :: xs) else af7 ti te r
noncomputable def ax9 (src:σ→Res (List α)) (ti:α×σ→Res Bool) (te:α×σ→Res β):σ→Res (List β):=fun s=>(src s).bind fun xs=>if xs.length < ab4 then af7 (fun a=>ti (a,s)) (fun a=>te (a,s)) xs else .bad
theorem aM9 {e:α→D} {e':β→D} {ix:List Nat} {src:Mi.Env→Res (List D)} {ti:Mi.Env→Res Bool} {te:Mi.Env→Res D} {csrc:σ→Res (List α)} {cti:α×σ→Res Bool} {cte:α×σ→Res β}
 (hs:EJ rep (List.map e) src csrc) (ht:EJ (repI rep e ix) (id:Bool→Bool) ti cti) (he:EJ (repI rep e ix) e' te cte):EJ rep (eL e') (comp src ix ti te) (ax9 csrc cti cte):=fun s=>(hs s).bnd fun xs=>by
 rw [List.length_map]
 refine SimR.ite ?_ trivial
 have key:∀ l:List α,SimR (List.map e') (ae3 ti te (capD (rep s) ix) (l.map e)) (af7 (fun a=>cti (a,s)) (fun a=>cte (a,s)) l):=by
  intro l
  induction l with
  | nil=>rfl
  | cons a l ih =>
    rw [List.map_cons]
    unfold ae3 af7
    refine SimR.bnd (ht (a,s)).calm fun t=>SimR.ite (SimR.bnd (he (a,s)).calm fun x=>SimR.bnd ih fun xs=>?_) ih
    rfl
 have:=key xs
 cases q:af7 (fun a=>cti (a,s)) (fun a=>cte (a,s)) xs with
 | ok ys=>rw [q] at this; have this:ae3 ti te (capD (rep s) ix) (xs.map e)= .ok (ys.map e'):=this; rw [this]; rfl
 | exc x=>rw [q] at this; have this:ae3 ti te (capD (rep s) ix) (xs.map e)= .exc x:=this; rw [this]; rfl
 | bad=>trivial
theorem bp3:EJ rep (id:Bool→Bool) (fun _=> .ok true) (fun _=> .ok true):=fun s=>rfl
theorem aA5 {e:α→D} {m:Mi.Env→Res D} {c:σ→Res (List α)} (h:EJ rep (eL e) m c):EJ rep (List.map e) (srcL m) c:=fun s=>by
 have h:=h s
 cases q:c s with
 | ok a=>rw [q] at h; have h:m (rep s)= .ok (eL e a):=h; show srcL m (rep s)= .ok (a.map e); unfold srcL; rw [h]; rfl
 | exc x=>rw [q] at h; have h:m (rep s)= .exc x:=h; show srcL m (rep s)= .exc x; unfold srcL; rw [h]; rfl
 | bad=>trivial
noncomputable def rngI (lo hi:Int):List Int:=(List.range (hi - lo).toNat).map fun i:Nat=>lo + i
noncomputable def rngC (lo hi:Int):Res (List Int):=@ite _ (-(2 ^ 62)≤lo∧lo < 2 ^ 62∧-(2 ^ 62)≤hi∧hi < 2 ^ 62) (Classical.propDecidable _) (.ok (rngI lo hi)) .bad
theorem bc7 (lo hi:Int):(rngI lo hi).map D.int=rng lo hi:=by unfold rngI rng; rw [List.map_map]; rfl
theorem az9 {lo hi:Int} (h1:-(2 ^ 62)≤lo) (h2:lo < 2 ^ 62) (h3:-(2 ^ 62)≤hi) (h4:hi < 2 ^ 62):rngC lo hi= .ok (rngI lo hi):=by unfold rngC; rw [if_pos ⟨h1,h2,h3,h4⟩]
theorem aX3 {a b:Mi.Env→Res D} {ca cb:σ→Res Int} (h1:EJ rep D.int a ca) (h2:EJ rep D.int b cb):EJ rep (List.map D.int) (srcR a b) (bnC rngC ca cb):=fun s=>(h1 s).bnd fun i=>(h2 s).bnd fun j=>by
 show SimR _ (if -(2 ^ 62)≤i∧i < 2 ^ 62∧-(2 ^ 62)≤j∧j < 2 ^ 62 then _ else _) _
 by_cases h:-(2 ^ 62)≤i∧i < 2 ^ 62∧-(2 ^ 62)≤j∧j < 2 ^ 62
 · rw [if_pos h,az9 h.1 h.2.1 h.2.2.1 h.2.2.2]; exact congrArg Res.ok (bc7 i j).symm
 · unfold rngC; rw [if_neg h,if_neg h]; trivial
noncomputable def OutC.res:OutC σ α→Res α
 | .ok a _=> .ok a
 | .exc x _=> .exc x
 | .bad=> .bad
@[simp] theorem res_ok (a:α) (s:σ):(OutC.ok a s).res= .ok a:=rfl
@[simp] theorem res_exc (x:Nat) (s:σ):(OutC.exc x s:OutC σ α).res= .exc x:=rfl
@[simp] theorem res_bad:(OutC.bad:OutC σ α).res= .bad:=rfl
@[simp] noncomputable def bndO (r:Res α) (s:σ) (k:α→OutC σ β):OutC σ β:=match r with
 | .ok a=>k a
 | .exc x=> .exc x s
 | .bad=> .bad
theorem SimO.res {e:α→D} {fm:List D→Out D} {ds:List D} {q:OutC σ α} (h:SimO rep e (fm ds) q):SimR e (ak8 fm ds) q.res:=by
 unfold ak8
 cases q with
 | ok a s=>have h:fm ds= .ok (e a) (rep s):=h; rw [h]; rfl
 | exc x s=>have h:fm ds= .exc x (rep s):=h; rw [h]; rfl
 | bad=>trivial
@[simp] noncomputable def pc1C {α0:Type} (f:α0→OutC σ' γ) (c0:σ→Res α0):σ→Res γ:=fun s=>(c0 s).bind fun x0=>(f x0).res
@[simp] noncomputable def pk1C {α0:Type} (f:α0→Res γ) (c0:σ→Res α0):σ→Res γ:=fun s=>(c0 s).bind fun x0=>f x0
theorem row1 {α0:Type} {e0:α0→D} {m0:Mi.Env→Res D} {c0:σ→Res α0} {eR:γ→δ} {k:List D→Res δ} {f:α0→Res γ} (hf:∀ x0,SimR eR (k [e0 x0]) (f x0)) (h0:EJ rep e0 m0 c0):EJ rep eR (fun ρ=>((esC m0 esN) ρ).bind k) (pk1C f c0):=fun s=>by
 have g0:=h0 s
 unfold pk1C
 cases q0:c0 s with
 | bad=>trivial
 | exc x=>rw [q0] at g0; have g0:m0 (rep s)= .exc x:=g0; show (_:Res _)= .exc x; simp only [esC,g0,Res.bind]
 | ok x0 =>
   rw [q0] at g0; have g0:m0 (rep s)= .ok (e0 x0):=g0
   have z:=hf x0
   simp only [esC,esN,g0,Res.bind]
   exact z
theorem bp6 {α0:Type} {e0:α0→D} {m0:Mi.Env→Res D} {c0:σ→Res α0} {eR:γ→D} {fm:List D→Out D} {f:α0→OutC σ' γ} (hf:∀ x0,SimO rep' eR (fm [e0 x0]) (f x0)) (h0:EJ rep e0 m0 c0):EJ rep eR (pc fm (esC m0 esN)) (pc1C f c0):=row1 (k:=ak8 fm) (f:=fun x0=>(f x0).res) (fun x0=>(hf x0).res) h0
@[simp] noncomputable def pc2C {α0 α1:Type} (f:α0→α1→OutC σ' γ) (c0:σ→Res α0) (c1:σ→Res α1):σ→Res γ:=fun s=>(c0 s).bind fun x0=>(c1 s).bind fun x1=>(f x0 x1).res
@[simp] noncomputable def pk2C {α0 α1:Type} (f:α0→α1→Res γ) (c0:σ→Res α0) (c1:σ→Res α1):σ→Res γ:=fun s=>(c0 s).bind fun x0=>(c1 s).bind fun x1=>f x0 x1
theorem row2 {α0 α1:Type} {e0:α0→D} {e1:α1→D} {m0 m1:Mi.Env→Res D} {c0:σ→Res α0} {c1:σ→Res α1} {eR:γ→δ} {k:List D→Res δ} {f:α0→α1→Res γ} (hf:∀ x0 x1,SimR eR (k [e0 x0,e1 x1]) (f x0 x1)) (h0:EJ rep e0 m0 c0) (h1:EJ rep e1 m1 c1):EJ rep eR (fun ρ=>((esC m0 (esC m1 esN)) ρ).bind k) (pk2C f c0 c1):=fun s=>by
 have g0:=h0 s
 have g1:=h1 s
 unfold pk2C
 cases q0:c0 s with
 | bad=>trivial
 | exc x=>rw [q0] at g0; have g0:m0 (rep s)= .exc x:=g0; show (_:Res _)= .exc x; simp only [esC,g0,Res.bind]
 | ok x0 =>
   rw [q0] at g0; have g0:m0 (rep s)= .ok (e0 x0):=g0
   cases q1:c1 s with
   | bad=>trivial
   | exc x=>rw [q1] at g1; have g1:m1 (rep s)= .exc x:=g1; show (_:Res _)= .exc x; simp only [esC,g0,g1,Res.bind]
   | ok x1 =>
     rw [q1] at g1; have g1:m1 (rep s)= .ok (e1 x1):=g1
     have z:=hf x0 x1
     simp only [esC,esN,g0,g1,Res.bind]
     exact z
theorem ad9 {α0 α1:Type} {e0:α0→D} {e1:α1→D} {m0 m1:Mi.Env→Res D} {c0:σ→Res α0} {c1:σ→Res α1} {eR:γ→D} {fm:List D→Out D} {f:α0→α1→OutC σ' γ} (hf:∀ x0 x1,SimO rep' eR (fm [e0 x0,e1 x1]) (f x0 x1)) (h0:EJ rep e0 m0 c0) (h1:EJ rep e1 m1 c1):EJ rep eR (pc fm (esC m0 (esC m1 esN))) (pc2C f c0 c1):=row2 (k:=ak8 fm) (f:=fun x0 x1=>(f x0 x1).res) (fun x0 x1=>(hf x0 x1).res) h0 h1
@[simp] noncomputable def pc3C {α0 α1 α2:Type} (f:α0→α1→α2→OutC σ' γ) (c0:σ→Res α0) (c1:σ→Res α1) (c2:σ→Res α2):σ→Res γ:=fun s=>(c0 s).bind fun x0=>(c1 s).bind fun x1=>(c2 s).bind fun x2=>(f x0 x1 x2).res
@[simp] noncomputable def pk3C {α0 α1 α2:Type} (f:α0→α1→α2→Res γ) (c0:σ→Res α0) (c1:σ→Res α1) (c2:σ→Res α2):σ→Res γ:=fun s=>(c0 s).bind fun x0=>(c1 s).bind fun x1=>(c2 s).bind fun x2=>f x0 x1 x2
theorem row3 {α0 α1 α2:Type} {e0:α0→D} {e1:α1→D} {e2:α2→D} {m0 m1 m2:Mi.Env→Res D} {c0:σ→Res α0} {c1:σ→Res α1} {c2:σ→Res α2} {eR:γ→δ} {k:List D→Res δ} {f:α0→α1→α2→Res γ} (hf:∀ x0 x1 x2,SimR eR (k [e0 x0,e1 x1,e2 x2]) (f x0 x1 x2)) (h0:EJ rep e0 m0 c0) (h1:EJ rep e1 m1 c1) (h2:EJ rep e2 m2 c2):EJ rep eR (fun ρ=>((esC m0 (esC m1 (esC m2 esN))) ρ).bind k) (pk3C f c0 c1 c2):=fun s=>by
 have g0:=h0 s
 have g1:=h1 s
 have g2:=h2 s
 unfold pk3C
 cases q0:c0 s with
 | bad=>trivial
 | exc x=>rw [q0] at g0; have g0:m0 (rep s)= .exc x:=g0; show (_:Res _)= .exc x; simp only [esC,g0,Res.bind]
 | ok x0 =>
   rw [q0] at g0; have g0:m0 (rep s)= .ok (e0 x0):=g0
   cases q1:c1 s with
   | bad=>trivial
   | exc x=>rw [q1] at g1; have g1:m1 (rep s)= .exc x:=g1; show (_:Res _)= .exc x; simp only [esC,g0,g1,Res.bind]
   | ok x1 =>
     rw [q1] at g1; have g1:m1 (rep s)= .ok (e1 x1):=g1
     cases q2:c2 s with
     | bad=>trivial
     | exc x=>rw [q2] at g2; have g2:m2 (rep s)= .exc x:=g2; show (_:Res _)= .exc x; simp only [esC,g0,g1,g2,Res.bind]
     | ok x2 =>
       rw [q2] at g2; have g2:m2 (rep s)= .ok (e2 x2):=g2
       have z:=hf x0 x1 x2
       simp only [esC,esN,g0,g1,g2,Res.bind]
       exact z
theorem bp5 {α0 α1 α2:Type} {e0:α0→D} {e1:α1→D} {e2:α2→D} {m0 m1 m2:Mi.Env→Res D} {c0:σ→Res α0} {c1:σ→Res α1} {c2:σ→Res α2} {eR:γ→D} {fm:List D→Out D} {f:α0→α1→α2→OutC σ' γ} (hf:∀ x0 x1 x2,SimO rep' eR (fm [e0 x0,e1 x1,e2 x2]) (f x0 x1 x2)) (h0:EJ rep e0 m0 c0) (h1:EJ rep e1 m1 c1) (h2:EJ rep e2 m2 c2):EJ rep eR (pc fm (esC m0 (esC m1 (esC m2 esN)))) (pc3C f c0 c1 c2):=row3 (k:=ak8 fm) (f:=fun x0 x1 x2=>(f x0 x1 x2).res) (fun x0 x1 x2=>(hf x0 x1 x2).res) h0 h1 h2
end
section
variable {σ σ' α β γ δ:Type} {rep:σ→Mi.Env} {eR:β→D}
@[simp] noncomputable def upC (c:σ→Res α):σ→OutC σ α:=fun s=>match c s with
 | .ok a=> .ok a s
 | .exc x=> .exc x s
 | .bad=> .bad
theorem aa5 {e:α→γ} {m:Mi.Env→Res γ} {c:σ→Res α} (h:EJ rep e m c):NJ rep e (liP m) (upC c):=fun s=>by
 have h:=h s
 unfold upC liP
 cases q:c s with
 | ok a=>rw [q] at h; have h:m (rep s)= .ok (e a):=h; rw [h]; rfl
 | exc x=>rw [q] at h; have h:m (rep s)= .exc x:=h; rw [h]; rfl
 | bad=>trivial
@[simp] noncomputable def bdO (o:OutC σ α) (k:α→σ→OutC σ β):OutC σ β:=match o with
 | .ok a s=>k a s
 | .exc x s=> .exc x s
 | .bad=> .bad
theorem SimO.bd {e:α→γ} {e':β→δ} {r:Out γ} {q:OutC σ α} {k:γ→Mi.Env→Out δ} {l:α→σ→OutC σ β} (h:SimO rep e r q) (hk:∀ a s,SimO rep e' (k (e a) (rep s)) (l a s)):SimO rep e' (r.bind k) (bdO q l):=by
 cases q with
 | ok a s=>have h:r= .ok (e a) (rep s):=h; rw [h]; exact hk a s
 | exc x s=>have h:r= .exc x (rep s):=h; rw [h]; exact rfl
 | bad=>trivial
theorem SimO.ite {e:α→γ} {p:Prop} [Decidable p] {r r':Out γ} {q q':OutC σ α} (h:SimO rep e r q) (h':SimO rep e r' q'):SimO rep e (if p then r else r') (if p then q else q'):=by
 by_cases z:p
 · rw [if_pos z,if_pos z]; exact h
 · rw [if_neg z,if_neg z]; exact h'
theorem nj_as {e:α→D} {e':β→D} {m:Mi.Env→Out D} {c:σ→OutC σ α} {f:α→Res β} (h:∀ a,SimR e' (.ok (e a)) (f a)) (h1:NJ rep e m c):NJ rep e' m (fun s=>bdO (c s) fun a s=>bndO (f a) s fun b=> .ok b s):=fun s=>by
 have h1:=h1 s
 dsimp only
 cases q:c s with
 | ok a s1 =>
   rw [q] at h1; have h1:m (rep s)= .ok (e a) (rep s1):=h1
   rw [h1]
   have:=h a
   show SimO rep e' (.ok (e a) (rep s1)) (bndO (f a) s1 fun b=> .ok b s1)
   cases q2:f a with
   | ok b=>rw [q2] at this; have this:Res.ok (e a)= .ok (e' b):=this; injection this with this; rw [this]; rfl
   | exc x=>rw [q2] at this; cases this
   | bad=>trivial
 | exc x s1=>rw [q] at h1; exact h1
 | bad=>trivial
@[simp] noncomputable def mvC (g:σ→Option α) (cl:σ→σ):σ→OutC σ α:=fun s=>match g s with | some a=> .ok a (cl s) | none=> .bad
theorem aS0 {e:α→D} {i:Nat} {g:σ→Option α} {cl:σ→σ} (h:∀ s,rg (rep s) i=(g s).map e) (hc:∀ s,(rep s).set i none=rep (cl s)):NJ rep e (mvS i) (mvC g cl):=fun s=>by
 unfold mvS mvC
 rw [h s]
 cases g s with
 | none=>trivial
 | some a=>show Out.ok _ _=Out.ok _ _; rw [hc]
@[simp] noncomputable def l1C (g:σ→Option (List α)) (p:σ→List α→σ) (f:List α→δ→Option (γ×List α)) (c:σ→Res δ):σ→OutC σ γ:=fun s=>match g s with
 | none=> .bad
 | some xs=>bndO (c s) s fun x=>match f xs x with
   | some (r,ys)=> .ok r (p s ys)
   | none=> .bad
noncomputable def appC (xs:List α) (x:α):Option (Unit×List α):=if xs.length < ab4 then some ((),xs ++ [x]) else none
noncomputable def popC (xs:List α) (i:Int):Option (α×List α):=if 0≤i∧i < xs.length∧xs.length≤ab4 then xs[i.toNat]?.map fun d=>(d,xs.eraseIdx i.toNat) else none
noncomputable def SimF {δ':Type} (e:α→D) (e1:δ→D) (e2:γ→D) (F:List D→D→Option (D×List D)) (f:List α→δ→Option (γ×List α)):Prop:=∀ xs x,match f xs x with
 | some (r,ys)=>F (xs.map e) (e1 x)=some (e2 r,ys.map e)
 | none=>True
theorem aw7 {e:α→γ}:∀ (xs:List α) (i:Nat),(xs.map e).eraseIdx i=(xs.eraseIdx i).map e
 | [],i=>by simp
 | x :: xs,0=>by simp
 | x :: xs,i + 1=>by rw [List.map_cons,List.eraseIdx_cons_succ,List.eraseIdx_cons_succ,List.map_cons,aw7 xs i]
theorem aM8 {e:α→D}:SimF (δ':=Unit) e e eN appF appC:=fun xs x=>by
 unfold appC appF
 rw [List.length_map]
 by_cases h:xs.length < ab4
 · rw [if_pos h,if_pos h]
   show some (D.non,xs.map e ++ [e x])=some (eN (),(xs ++ [x]).map e)
   rw [List.map_append]; rfl
 · rw [if_neg h]; trivial
theorem f_pop {e:α→D}:SimF (δ':=Unit) e D.int e popF popC:=fun xs i=>by
 unfold popC popF
 dsimp only
 rw [List.length_map]
 by_cases h:0≤i∧i < xs.length∧xs.length≤ab4
 · rw [if_pos h,if_pos h,List.getElem?_map]
   cases xs[i.toNat]? with
   | none=>trivial
   | some a =>
     show some (e a,(xs.map e).eraseIdx i.toNat)=some (e a,(xs.eraseIdx i.toNat).map e)
     rw [aw7]
 · rw [if_neg h]; trivial
theorem aK9 {e:α→D} {e1:δ→D} {e2:γ→D} {get:Mi.Env→Option D} {set:Mi.Env→D→Mi.Env} {g:σ→Option (List α)} {p:σ→List α→σ} {F:List D→D→Option (D×List D)} {f:List α→δ→Option (γ×List α)} {m:Mi.Env→Res D} {c:σ→Res δ}
 (hg:∀ s,get (rep s)=(g s).map (eL e)) (hs:∀ s xs,set (rep s) (eL e xs)=rep (p s xs)) (hF:SimF (δ':=Unit) e e1 e2 F f) (h1:EJ rep e1 m c):NJ rep e2 (lst1 get set F m) (l1C g p f c):=fun s=>by
 have h1:=h1 s
 unfold lst1 l1C
 rw [hg]
 cases g s with
 | none=>trivial
 | some xs =>
   show SimO rep e2 (lstR set F (rep s) (xs.map e) (m (rep s))) (bndO (c s) s _)
   cases q:c s with
   | bad=>trivial
   | exc x=>rw [q] at h1; have h1:m (rep s)= .exc x:=h1; rw [h1]; rfl
   | ok x =>
     rw [q] at h1; have h1:m (rep s)= .ok (e1 x):=h1
     rw [h1]
     have:=hF xs x
     show SimO rep e2 (lstK set (rep s) (F (xs.map e) (e1 x))) (match f xs x with | some (r,ys)=>OutC.ok r (p s ys) | none=> .bad)
     cases q2:f xs x with
     | none=>trivial
     | some r =>
       rw [q2] at this
       obtain ⟨r,ys⟩:=r
       have this:F (xs.map e) (e1 x)=some (e2 r,ys.map e):=this
       rw [this]
       show Out.ok _ _=Out.ok _ _
       rw [← hs]; rfl
@[simp] noncomputable def apMC (g:σ→Option (List α)) (p:σ→List α→σ) (c:σ→OutC σ α):σ→OutC σ Unit:=fun s=>match g s with
 | none=> .bad
 | some _=>bdO (c s) fun x s=>match g s with
   | none=> .bad
   | some xs=>(match appC xs x with | some (r,ys)=> .ok r (p s ys) | none=> .bad)
theorem bm4 {e:α→D} {i:Nat} {g:σ→Option (List α)} {p:σ→List α→σ} {m:Mi.Env→Out D} {c:σ→OutC σ α} (hg:∀ s,rg (rep s) i=(g s).map (eL e)) (hs:∀ s xs,(rep s).set i (some (eL e xs))=rep (p s xs)) (h1:NJ rep e m c):NJ rep eN (appM i m) (apMC g p c):=fun s=>by
 have h1:=h1 s
 unfold appM apMC
 rw [hg]
 cases g s with
 | none=>trivial
 | some xs0 =>
   show SimO rep eN ((m (rep s)).bind (aQ2 i)) (bdO (c s) _)
   refine h1.bd fun x s=>?_
   unfold aQ2
   rw [hg]
   cases g s with
   | none=>trivial
   | some xs =>
     have:=aM8 (e:=e) xs x
     show SimO rep eN (lstK (aq7 i) (rep s) (appF (xs.map e) (e x))) (match appC xs x with | some (r,ys)=>OutC.ok r (p s ys) | none=> .bad)
     cases q2:appC xs x with
     | none=>trivial
     | some r =>
       rw [q2] at this
       obtain ⟨r,ys⟩:=r
       have this:appF (xs.map e) (e x)=some (eN r,ys.map e):=this
       rw [this]
       show Out.ok _ _=Out.ok _ _
       rw [← hs]; rfl
end
section
variable {σ σ' α β γ δ:Type} {rep:σ→Mi.Env} {eR:β→D}
@[simp] noncomputable def bdS (o:OutC σ α) (k:α→σ→FlC σ β):FlC σ β:=match o with
 | .ok a s=>k a s
 | .exc x s=> .exc x s
 | .bad=> .bad
theorem SimS.bd {e:α→γ} {r:Out γ} {q:OutC σ α} {k:γ→Mi.Env→SO} {l:α→σ→FlC σ β} (h:SimO rep e r q) (hk:∀ a s,SimS rep eR (k (e a) (rep s)) (l a s)):SimS rep eR (at7 r k) (bdS q l):=by
 cases q with
 | ok a s=>have h:r= .ok (e a) (rep s):=h; rw [h]; exact hk a s
 | exc x s=>have h:r= .exc x (rep s):=h; rw [h]; exact rfl
 | bad=>trivial
theorem SimS.ite {p:Prop} [Decidable p] {r r':SO} {q q':FlC σ β} (h:SimS rep eR r q) (h':SimS rep eR r' q'):SimS rep eR (if p then r else r') (if p then q else q'):=by
 by_cases z:p
 · rw [if_pos z,if_pos z]; exact h
 · rw [if_neg z,if_neg z]; exact h'
@[simp] noncomputable def seqC (a b:σ→FlC σ β):σ→FlC σ β:=fun s=>match a s with
 | .nx s'=>b s'
 | o=>o
theorem aa8 {a b:Mi.Env→SO} {c d:σ→FlC σ β} (h1:TJ rep eR a c) (h2:TJ rep eR b d):TJ rep eR (seqS a b) (seqC c d):=fun s=>by
 have h1:=h1 s
 unfold seqS seqC
 cases q:c s with
 | nx s'=>rw [q] at h1; have h1:a (rep s)= .nx (rep s'):=h1; rw [h1]; exact h2 s'
 | rt b s'=>rw [q] at h1; have h1:a (rep s)= .rt (eR b) (rep s'):=h1; rw [h1]; rfl
 | bk s'=>rw [q] at h1; have h1:a (rep s)= .bk (rep s'):=h1; rw [h1]; rfl
 | ct s'=>rw [q] at h1; have h1:a (rep s)= .ct (rep s'):=h1; rw [h1]; rfl
 | exc x s'=>rw [q] at h1; have h1:a (rep s)= .exc x (rep s'):=h1; rw [h1]; rfl
 | bad=>trivial
@[simp] noncomputable def aj2:σ→FlC σ β:=fun s=> .nx s
theorem ad1:TJ rep eR ah5 aj2:=fun s=>rfl
@[simp] noncomputable def retC (c:σ→OutC σ β):σ→FlC σ β:=fun s=>bdS (c s) fun b s=> .rt b s
theorem ad3 {m:Mi.Env→Out D} {c:σ→OutC σ β} (h:NJ rep eR m c):TJ rep eR (retS m) (retC c):=fun s=>SimS.bd (h s) fun b s=>rfl
@[simp] noncomputable def am5 (c:σ→OutC σ α):σ→FlC σ β:=fun s=>bdS (c s) fun _ s=> .nx s
theorem ae9 {e:α→D} {m:Mi.Env→Out D} {c:σ→OutC σ α} (h:NJ rep e m c):TJ rep eR (aj7 m) (am5 c):=fun s=>SimS.bd (h s) fun b s=>rfl
@[simp] noncomputable def setC (u:α→σ→σ) (c:σ→OutC σ α):σ→FlC σ β:=fun s=>bdS (c s) fun a s=> .nx (u a s)
theorem bi3 {e:α→D} {i:Nat} {m:Mi.Env→Out D} {c:σ→OutC σ α} {u:α→σ→σ} (hu:∀ a s,(rep s).set i (some (e a))=rep (u a s)) (h:NJ rep e m c):TJ rep eR (setS i m) (setC u c):=fun s=>SimS.bd (h s) fun a s=>by show SO.nx _=SO.nx _; rw [hu]
@[simp] noncomputable def ifC (t:σ→OutC σ Bool) (a b:σ→FlC σ β):σ→FlC σ β:=fun s=>bdS (t s) fun c s=>if c=true then a s else b s
theorem ag8 {t:Mi.Env→Out Bool} {a b:Mi.Env→SO} {ct:σ→OutC σ Bool} {c d:σ→FlC σ β} (ht:NJ rep (id:Bool→Bool) t ct) (h1:TJ rep eR a c) (h2:TJ rep eR b d):TJ rep eR (ifS t a b) (ifC ct c d):=fun s=>SimS.bd (ht s) fun t s=>SimS.ite (h1 s) (h2 s)
noncomputable def forC (u:α→σ→σ) (body:σ→FlC σ β):List α→σ→FlC σ β
 | [],s=> .nx s
 | a :: r,s=>match body (u a s) with
   | .nx s'=>forC u body r s'
   | .ct s'=>forC u body r s'
   | .bk s'=> .nx s'
   | o=>o
theorem az6 {e:α→D} {tgt:D→Mi.Env→Option Mi.Env} {body:Mi.Env→SO} {u:α→σ→σ} {c:σ→FlC σ β} (hu:∀ a s,tgt (e a) (rep s)=some (rep (u a s))) (h:TJ rep eR body c):∀ (xs:List α) (s:σ),SimS rep eR (forS tgt body (xs.map e) (rep s)) (forC u c xs s)
 | [],s=>rfl
 | a :: r,s=>by
   have hb:=h (u a s)
   rw [List.map_cons]
   unfold forS forC
   rw [hu]
   dsimp only
   cases q:c (u a s) with
   | nx s'=>rw [q] at hb; have hb:body (rep (u a s))= .nx (rep s'):=hb; rw [hb]; exact az6 hu h r s'
   | ct s'=>rw [q] at hb; have hb:body (rep (u a s))= .ct (rep s'):=hb; rw [hb]; exact az6 hu h r s'
   | bk s'=>rw [q] at hb; have hb:body (rep (u a s))= .bk (rep s'):=hb; rw [hb]; rfl
   | rt b s'=>rw [q] at hb; have hb:body (rep (u a s))= .rt (eR b) (rep s'):=hb; rw [hb]; rfl
   | exc x s'=>rw [q] at hb; have hb:body (rep (u a s))= .exc x (rep s'):=hb; rw [hb]; rfl
   | bad=>trivial
@[simp] noncomputable def aL4 (src:σ→Res (List α)) (u:α→σ→σ) (body:σ→FlC σ β):σ→FlC σ β:=fun s=>match src s with
 | .ok xs=>forC u body xs s
 | .exc x=> .exc x s
 | .bad=> .bad
theorem ay8 {e:α→D} {src:Mi.Env→Res (List D)} {csrc:σ→Res (List α)} {tgt:D→Mi.Env→Option Mi.Env} {body:Mi.Env→SO} {u:α→σ→σ} {c:σ→FlC σ β} (hs:EJ rep (List.map e) src csrc) (hu:∀ a s,tgt (e a) (rep s)=some (rep (u a s))) (h:TJ rep eR body c):TJ rep eR (aF2 (liP src) tgt body) (aL4 csrc u c):=fun s=>by
 have hs:=hs s
 unfold aF2 liP aL4
 cases q:csrc s with
 | ok xs=>rw [q] at hs; have hs:src (rep s)= .ok (xs.map e):=hs; rw [hs]; exact az6 hu h xs s
 | exc x=>rw [q] at hs; have hs:src (rep s)= .exc x:=hs; rw [hs]; rfl
 | bad=>trivial
noncomputable def whC (t:σ→OutC σ Bool) (body:σ→FlC σ β):Nat→σ→FlC σ β
 | 0,_=> .bad
 | n + 1,s=>match t s with
   | .ok true s1=>(match body s1 with
     | .nx s'=>whC t body n s'
     | .ct s'=>whC t body n s'
     | .bk s'=> .nx s'
     | o=>o)
   | .ok false s1=> .nx s1
   | .exc x s1=> .exc x s1
   | .bad=> .bad
theorem aG4 {t:Mi.Env→Out Bool} {body:Mi.Env→SO} {ct:σ→OutC σ Bool} {c:σ→FlC σ β} (ht:NJ rep (id:Bool→Bool) t ct) (h:TJ rep eR body c):∀ n,TJ rep eR (whS t body n) (whC ct c n)
 | 0=>fun s=>trivial
 | n + 1=>fun s=>by
   have hs:=ht s
   unfold whS whC
   cases q:ct s with
   | ok b s1 =>
     rw [q] at hs; have hs:t (rep s)= .ok b (rep s1):=hs
     rw [hs]
     cases b with
     | false=>rfl
     | true =>
       have hb:=h s1
       show SimS rep eR (match body (rep s1) with | .nx ρ'=>whS t body n ρ' | .ct ρ'=>whS t body n ρ' | .bk ρ'=> .nx ρ' | o=>o) _
       dsimp only
       cases q:c s1 with
       | nx s'=>rw [q] at hb; have hb:body (rep s1)= .nx (rep s'):=hb; rw [hb]; exact aG4 ht h n s'
       | ct s'=>rw [q] at hb; have hb:body (rep s1)= .ct (rep s'):=hb; rw [hb]; exact aG4 ht h n s'
       | bk s'=>rw [q] at hb; have hb:body (rep s1)= .bk (rep s'):=hb; rw [hb]; rfl
       | rt b s'=>rw [q] at hb; have hb:body (rep s1)= .rt (eR b) (rep s'):=hb; rw [hb]; rfl
       | exc x s'=>rw [q] at hb; have hb:body (rep s1)= .exc x (rep s'):=hb; rw [hb]; rfl
       | bad=>trivial
   | exc x s1=>rw [q] at hs; have hs:t (rep s)= .exc x (rep s1):=hs; rw [hs]; rfl
   | bad=>trivial
@[simp] noncomputable def runC (d:Option β):FlC σ β→OutC σ β
 | .nx s=>(match d with | some b=> .ok b s | none=> .bad)
 | .rt b s=> .ok b s
 | .exc x s=> .exc x s
 | _=> .bad
theorem bp1 {k:Nat} {ds:List D} {body:Mi.Env→SO} {c:σ→FlC σ β} {s:σ} {d:β} (hd:eR d= .non) (h:TJ rep eR body c) (hr:ds.map some ++ List.replicate (k - ds.length) none=rep s):SimO rep eR (Mi.run k body ds) (runC (some d) (c s)):=by
 have h:=h s
 unfold Mi.run
 rw [hr]
 cases q:c s with
 | nx s'=>rw [q] at h; have h:body (rep s)= .nx (rep s'):=h; rw [h]; show Out.ok .non _=Out.ok (eR d) _; rw [hd]
 | rt b s'=>rw [q] at h; have h:body (rep s)= .rt (eR b) (rep s'):=h; rw [h]; rfl
 | exc x s'=>rw [q] at h; have h:body (rep s)= .exc x (rep s'):=h; rw [h]; rfl
 | _=>trivial
theorem ap1 {k:Nat} {ds:List D} {body:Mi.Env→SO} {c:σ→FlC σ β} {s:σ} (h:TJ rep eR body c) (hr:ds.map some ++ List.replicate (k - ds.length) none=rep s):SimO rep eR (Mi.run k body ds) (runC none (c s)):=by
 have h:=h s
 unfold Mi.run
 rw [hr]
 cases q:c s with
 | rt b s'=>rw [q] at h; have h:body (rep s)= .rt (eR b) (rep s'):=h; rw [h]; rfl
 | exc x s'=>rw [q] at h; have h:body (rep s)= .exc x (rep s'):=h; rw [h]; rfl
 | _=>trivial
theorem aX1 {k:Nat} {ds:List D} {body:Mi.Env→SO} {c:σ→FlC σ β} {s:σ} (h:TJ rep eR body c) (hr:ds.map some ++ List.replicate (k - ds.length) none=rep s):SimO rep eR (runO k body ds) (runC none (c s)):=by
 have h:=h s
 unfold runO
 rw [hr]
 cases q:c s with
 | rt b s'=>rw [q] at h; have h:body (rep s)= .rt (eR b) (rep s'):=h; rw [h]; rfl
 | exc x s'=>rw [q] at h; have h:body (rep s)= .exc x (rep s'):=h; rw [h]; rfl
 | _=>trivial
end
section
variable {σ α β:Type} {rep:σ→Mi.Env} {eR:β→D}
theorem xp {e:α→D} {i:Nat} {g:σ→α} (h:∀ s,rg (rep s) i=some (e (g s)):=by exact fun _=>rfl):EJ rep e (vr i) (pC g):=bp7 h
theorem xv {e:α→D} {i:Nat} {g:σ→Option α} (h:∀ s,rg (rep s) i=(g s).map e:=by exact fun _=>rfl):EJ rep e (vr i) (vC g):=bp4 h
theorem xk {e:α→D} {d:D} {a:α} (h:e a=d:=by rfl):EJ rep e (cst d) (kC a):=bp9 h
theorem xs {e:α→D} {i:Nat} {m:Mi.Env→Out D} {c:σ→OutC σ α} {u:α→σ→σ} (h:NJ rep e m c) (hu:∀ a s,(rep s).set i (some (e a))=rep (u a s):=by exact fun _ _=>rfl):TJ rep eR (setS i m) (setC u c):=bi3 hu h
end
section
variable {σ σ' α β γ δ τ:Type}
theorem aw5 {u:α→σ→σ} {c:σ→FlC σ β} (R:τ→σ→Prop) (step:τ→α→τ):∀ (l:List α) (b:τ) (s:σ),R b s →
 (∀ b a s,a∈l→R b s→∃ s',(c (u a s)= .nx s'∨c (u a s)= .ct s')∧R (step b a) s')→∃ s',forC u c l s= .nx s'∧R (l.foldl step b) s'
 | [],b,s,h,_=>⟨s,rfl,h⟩
 | a :: l,b,s,h,st=>by
   obtain ⟨s2,e2,h2⟩:=st b a s List.mem_cons_self h
   obtain ⟨s',e,h'⟩:=aw5 R step l (step b a) s2 h2 fun b c s hb=>st b c s (List.mem_cons_of_mem _ hb)
   refine ⟨s',?_,h'⟩
   unfold forC
   rcases e2 with e2 | e2 <;> (rw [e2]; exact e)
theorem aD7 {u:α→σ→σ} {c:σ→FlC σ β} (R:σ→Prop) (l:List α) (s:σ) (h:R s) (st:∀ a s,a∈l→R s→∃ s',(c (u a s)= .nx s'∨c (u a s)= .ct s')∧R s'):∃ s',forC u c l s= .nx s'∧R s':=by
 obtain ⟨s',e,h'⟩:=aw5 (τ:=Unit) (fun _ s=>R s) (fun _ _=>()) l () s h fun _ a s ha hs=>st a s ha hs
 exact ⟨s',e,h'⟩
theorem aT4 {u:α→σ→σ} {c:σ→FlC σ β} (R:List α→σ→Prop) (l:List α) (s:σ) (h:R [] s) (st:∀ p a r s,l=p ++ a :: r→R p s→∃ s',(c (u a s)= .nx s'∨c (u a s)= .ct s')∧R (p ++ [a]) s'):∃ s',forC u c l s= .nx s'∧R l s':=by
 have key:∀ (r p:List α) (s:σ),l=p ++ r→R p s→∃ s',forC u c r s= .nx s'∧R l s':=by
  intro r
  induction r with
  | nil=>intro p s e h; rw [List.append_nil] at e; exact ⟨s,rfl,by rw [e]; exact h⟩
  | cons a r ih =>
    intro p s e h
    obtain ⟨s2,e2,h2⟩:=st p a r s e h
    obtain ⟨s',e',h'⟩:=ih (p ++ [a]) s2 (by rw [e]; simp) h2
    refine ⟨s',?_,h'⟩
    unfold forC
    rcases e2 with e2 | e2 <;> (rw [e2]; exact e')
 exact key l [] s rfl h
theorem aF9 {t:σ→OutC σ Bool} {c:σ→FlC σ β} (R:Nat→σ→Prop) (S:σ→Prop) (st:∀ n s,R n s→(t s= .ok false s∧S s)∨(t s= .ok true s∧∃ m s2,m < n∧(c s= .nx s2∨c s= .ct s2)∧R m s2)) :
 ∀ (fuel n:Nat) (s:σ),R n s→n < fuel→∃ s',whC t c fuel s= .nx s'∧S s'
 | 0,n,s,h,hl=>absurd hl (Nat.not_lt_zero _)
 | fuel + 1,n,s,h,hl=>by
   unfold whC
   rcases st n s h with ⟨e,hs⟩ | ⟨e,m,s2,hm,eb,h2⟩
   · rw [e]
     exact ⟨s,rfl,hs⟩
   · rw [e]
     obtain ⟨s',e',hs⟩:=aF9 R S st fuel m s2 h2 (by omega)
     refine ⟨s',?_,hs⟩
     dsimp only
     rcases eb with eb | eb <;> (rw [eb]; exact e')
theorem ax8 {ti:α→Res Bool} {te:α→Res β} (p:α→Bool) (g:α→β):∀ l:List α,(∀ a∈l,ti a= .ok (p a))→(∀ a∈l,p a=true→te a= .ok (g a))→af7 ti te l= .ok ((l.filter p).map g)
 | [],_,_=>rfl
 | a :: l,h1,h2=>by
   have ih:=ax8 p g l (fun b hb=>h1 b (List.mem_cons_of_mem _ hb)) fun b hb=>h2 b (List.mem_cons_of_mem _ hb)
   unfold af7
   rw [h1 a List.mem_cons_self]
   show (if p a=true then _ else _)=_
   cases hp:p a with
   | true =>
     rw [if_pos rfl,h2 a List.mem_cons_self hp,ih,List.filter_cons,if_pos hp]
     rfl
   | false=>rw [if_neg Bool.false_ne_true,ih,List.filter_cons,if_neg (by rw [hp]; exact Bool.false_ne_true)]
theorem aP0 {src:σ→Res (List α)} {ti:α×σ→Res Bool} {te:α×σ→Res β} {s:σ} {l:List α} (p:α→Bool) (g:α→β) (hs:src s= .ok l) (hl:l.length < ab4) (h1:∀ a∈l,ti (a,s)= .ok (p a)) (h2:∀ a∈l,p a=true→te (a,s)= .ok (g a)) :
 ax9 src ti te s= .ok ((l.filter p).map g):=by
 unfold ax9
 rw [hs]
 show (if l.length < ab4 then _ else _)=_
 rw [if_pos hl]
 exact ax8 p g l h1 h2
theorem aU1 {src:σ→Res (List α)} {te:α×σ→Res β} {s:σ} {l:List α} (g:α→β) (hs:src s= .ok l) (hl:l.length < ab4) (h2:∀ a∈l,te (a,s)= .ok (g a)) :
 ax9 src (fun _=> .ok true) te s= .ok (l.map g):=by
 rw [aP0 (fun _=>true) g hs hl (fun _ _=>rfl) fun a ha _=>h2 a ha,List.filter_eq_self.mpr fun _ _=>rfl]
theorem aP6 (xs:List α) {i:Int} (h:0≤i):atI xs i=xs[i.toNat]?:=by
 unfold atI ixN
 rw [if_pos h]
 by_cases z:i < xs.length
 · rw [if_pos z]; rfl
 · rw [if_neg z,List.getElem?_eq_none (by omega)]; rfl
theorem aE0 (xs:List α):atI xs (-1)=xs.getLast?:=by
 unfold atI ixN
 rw [if_neg (by omega),List.getLast?_eq_getElem?]
 cases xs with
 | nil=>rfl
 | cons x r =>
   rw [if_pos (by simp only [List.length_cons]; omega)]
   show (x :: r)[(-1 + ((x :: r).length:Int)).toNat]?=_
   rw [show (-1 + ((x :: r).length:Int)).toNat=(x :: r).length - 1 by omega]
theorem ah8 (lo hi:Int):(rngI lo hi).length=(hi - lo).toNat:=by unfold rngI; simp
theorem aD5 {lo hi x:Int}:x∈rngI lo hi↔lo≤x∧x < hi:=by
 unfold rngI
 rw [List.mem_map]
 constructor
 · rintro ⟨i,hi',rfl⟩
   have:=List.mem_range.mp hi'
   omega
 · rintro ⟨h1,h2⟩
   exact ⟨(x - lo).toNat,List.mem_range.mpr (by omega),by omega⟩
theorem bc8 {lo hi x:Int} {p r:List Int} (h:rngI lo hi=p ++ x :: r):x=lo + p.length∧lo≤x∧x < hi:=by
 have hm:x∈rngI lo hi:=by rw [h]; simp
 have hx:=aD5.mp hm
 have e:(rngI lo hi)[p.length]?=some x:=by rw [h,List.getElem?_append_right (Nat.le_refl _),Nat.sub_self]; rfl
 unfold rngI at e
 rw [List.getElem?_map] at e
 have hl:p.length < (hi - lo).toNat:=by
  have:=ah8 lo hi
  rw [h,List.length_append,List.length_cons] at this
  omega
 rw [List.getElem?_range hl] at e
 injection e with e
 exact ⟨e.symm,hx⟩
theorem aF1 (lo hi:Int):(rngI lo hi).Nodup:=by
 unfold rngI
 unfold List.Nodup
 rw [List.pairwise_map]
 refine List.Pairwise.imp ?_ (List.nodup_range (n:=(hi - lo).toNat))
 intro a b h z
 exact h (by omega)
noncomputable def DI.nd (F:DI β):Prop:=(F.map (·.1)).Nodup
end
end Cl
namespace Mi
open PySem L2
noncomputable def prM (a b:Env→Out D):Env→Out D:=fun ρ=>(a ρ).bind fun x ρ=>(b ρ).bind fun y ρ=> .ok (.tup [x,y]) ρ
section
variable {cm:Cm} {E:XK} {ms:List Md}
theorem aL2 {ta tb:TE} {ma mb:Env→Out D} (ha:MJ cm (KR cm .F) E ms ta ma) (hb:MJ cm (KR cm .F) E ms tb mb):MJ cm (KR cm .F) E ms (tTup (ad7 ta (ad7 tb tNil))) (prM ma mb):=by
 intro B U As σ H ρ Q R P
 refine ha.bnd R P fun x ρ1 v B1 U1 As1 H1 N1 R1 e1 n1 d1 P1=>hb.bnd R1 P1 fun y ρ2 u B2 U2 As2 H2 N2 R2 e2 n2 d2 P2=>?_
 have dd:Dns cm B2 [x,y] [v,u]:=by
  have h1:Dn cm B2 x v:=Dn.mono e2.b d1
  have h2:Dn cm B2 y u:=d2
  unfold Dns
  refine ⟨v,[u],rfl,h1,?_⟩
  unfold Dns
  refine ⟨u,[],rfl,h2,?_⟩
  unfold Dns
  rfl
 refine ⟨(by decide:2≤sizeLine),fun p hp=>aS1 (E:=E) (ds:=[x,y]) (As:=As2) (ρ:=ρ2) R2 ?_ dd hp⟩
 exact fun w B' U' H' N R' g' n' k=>P2 w B' U' As2 H' [] R' g'.toEx NewM.nil k
end
end Mi
namespace Cl
open PySem L2 Mi
section
variable {σ α β γ δ:Type} {rep:σ→Mi.Env} {eR:β→D}
noncomputable def aD0 (c:Nat):σ→FlC σ β:=fun s=> .exc c s
theorem aQ3 {c:Nat}:TJ rep eR (aJ1 c) (aD0 c):=fun s=>rfl
noncomputable def tryC (free:σ→Bool) (cat:Nat→Bool) (cb:σ→FlC σ β) (ch:Nat→σ→FlC σ β):σ→FlC σ β:=fun s=>match cb s with
 | .exc c s'=>if cat c=true∧free s'=true then ch c s' else .bad
 | .nx s'=> .nx s'
 | _=> .bad
theorem bi2 {j:Option Nat} {cat:Nat→Bool} {mb:Mi.Env→SO} {mh:Nat→Mi.Env→SO} {cb:σ→FlC σ β} {ch:Nat→σ→FlC σ β} (hb:TJ rep eR mb cb) (hh:∀ c,TJ rep eR (mh c) (ch c)) :
 TJ rep eR (tryS j cat mb mh) (tryC (fun s=>aw4 (rep s) j) cat cb ch):=fun s=>by
 have h:=hb s
 unfold tryS tryC
 cases q:cb s with
 | nx s'=>rw [q] at h; have h:mb (rep s)= .nx (rep s'):=h; rw [h]; exact rfl
 | exc c s' =>
   rw [q] at h; have h:mb (rep s)= .exc c (rep s'):=h; rw [h]
   exact SimS.ite (hh c s') trivial
 | rt b s'=>trivial
 | bk s'=>trivial
 | ct s'=>trivial
 | bad=>trivial
@[simp] noncomputable def prMC (a:σ→OutC σ α) (b:σ→OutC σ γ):σ→OutC σ (α×γ):=fun s=>bdO (a s) fun x s=>bdO (b s) fun y s=> .ok (x,y) s
theorem bd9 {e:α→D} {e':γ→D} {m n:Mi.Env→Out D} {c:σ→OutC σ α} {d:σ→OutC σ γ} (h1:NJ rep e m c) (h2:NJ rep e' n d):NJ rep (eT2 e e') (prM m n) (prMC c d):=fun s=>(h1 s).bd fun a s=>(h2 s).bd fun b s=>rfl
@[simp] noncomputable def bn9 (_:α):Res Int:= .ok 2
theorem bd7 {e:α→D} {e':γ→D} (p:α×γ):SimR D.int (lenD (eT2 e e' p)) (bn9 p):=rfl
end
end Cl
set_option genInjectivity false
set_option genSizeOf false
open PySem L2 in
theorem L2.Room.mm {j k:Nat} {A:Around} (r:Room k A) (h:j≤k:=by decide):Room j A:=r.mono h
namespace K06
open PySem L2
noncomputable def top (i:Nat):Stmt:=PySem.Challenge.pw_heraldways_k06_a_walk.main.body.getD i (.Pass ⟨0,0,0,0⟩)
noncomputable abbrev s_b9:Stmt:=top 11
noncomputable abbrev s_d9:Stmt:=top 14
noncomputable abbrev s_g9:Stmt:=top 12
noncomputable abbrev s_i9:Stmt:=top 5
noncomputable abbrev s_e9:Stmt:=top 13
noncomputable abbrev s_f9:Stmt:=top 15
noncomputable abbrev s_h9:Stmt:=top 7
noncomputable abbrev s_j9:Stmt:=top 9
noncomputable abbrev s_c9:Stmt:=top 16
noncomputable abbrev s_a9:Stmt:=top 17
theorem sc_b9:FnScope ["script", "k"] ["script", "k"] (aa6 s_b9):=by constructor <;> first | rfl | decide +kernel
theorem au2:FnScope ["cell", "house", "size", "rest", "road", "many"] ["cell", "house", "size"] (aa6 s_d9):=by constructor <;> first | rfl | decide +kernel
theorem sc_g9:FnScope ["found"] ["found"] (aa6 s_g9):=by constructor <;> first | rfl | decide +kernel
theorem sc_i9:FnScope ["houses", "count"] ["houses", "count"] (aa6 s_i9):=by constructor <;> first | rfl | decide +kernel
theorem bj1:FnScope ["found", "due", "house"] ["found", "due"] (aa6 s_e9):=by constructor <;> first | rfl | decide +kernel
theorem aR0:FnScope ["script", "size", "table", "house", "cell"] ["script", "size"] (aa6 s_f9):=by constructor <;> first | rfl | decide +kernel
theorem bj0:FnScope ["told", "count", "road"] ["told", "count"] (aa6 s_h9):=by constructor <;> first | rfl | decide +kernel
theorem bc0:FnScope ["table", "house", "gone", "entry"] ["table", "house"] (aa6 s_j9):=by constructor <;> first | rfl | decide +kernel
theorem aR1:FnScope ["table", "house", "refused", "e"] ["table", "house"] (aa6 s_c9):=by constructor <;> first | rfl | decide +kernel
theorem ak5:FnScope ["script", "size", "table", "house", "handed", "found", "gone", "word", "road"] ["script"] (aa6 s_a9):=by constructor <;> first | rfl | decide +kernel
structure Adr where
 C_GuildError:Addr
 C_NoHouse:Addr
 f_b9:Addr
 d_b9:FuncData
 f_d9:Addr
 d_d9:FuncData
 f_g9:Addr
 d_g9:FuncData
 f_i9:Addr
 d_i9:FuncData
 f_e9:Addr
 d_e9:FuncData
 f_f9:Addr
 d_f9:FuncData
 f_h9:Addr
 d_h9:FuncData
 f_j9:Addr
 d_j9:FuncData
 f_c9:Addr
 d_c9:FuncData
 f_a9:Addr
 d_a9:FuncData
structure Txt (K:PySem.W.Frag) (mg:Str→Option Value) (a:Adr) (base:Heap):Prop where
 mgC_GuildError:mg "GuildError" = some (.ref a.C_GuildError)
 ek_GuildError:excK K a.C_GuildError=true
 mgC_NoHouse:mg "NoHouse" = some (.ref a.C_NoHouse)
 ek_NoHouse:excK K a.C_NoHouse=true
 sb_NoHouse_NoHouse:(mroK K a.C_NoHouse).contains (.ref a.C_NoHouse)=true
 kt_NoHouse_GuildError:PySem.W.kitOne K (.ref a.C_NoHouse) (.ref a.C_GuildError)=some true
 F_b9:Fun K "_law_cell_at" "_law_cell_at" s_b9 a.f_b9 a.d_b9
 b_b9:Binds K a.d_b9 ["script", "k"] []
 m_b9:mg "_law_cell_at" = some (.ref a.f_b9)
 kp_b9:PySem.W.keepIn K (.ref a.f_b9)=true
 F_d9:Fun K "_law_road_by" "_law_road_by" s_d9 a.f_d9 a.d_d9
 b_d9:Binds K a.d_d9 ["cell", "house", "size"] []
 m_d9:mg "_law_road_by" = some (.ref a.f_d9)
 kp_d9:PySem.W.keepIn K (.ref a.f_d9)=true
 F_g9:Fun K "_law_whole" "_law_whole" s_g9 a.f_g9 a.d_g9
 b_g9:Binds K a.d_g9 ["found"] []
 m_g9:mg "_law_whole" = some (.ref a.f_g9)
 kp_g9:PySem.W.keepIn K (.ref a.f_g9)=true
 F_i9:Fun K "require_within" "require_within" s_i9 a.f_i9 a.d_i9
 b_i9:Binds K a.d_i9 ["houses", "count"] []
 m_i9:mg "require_within" = some (.ref a.f_i9)
 kp_i9:PySem.W.keepIn K (.ref a.f_i9)=true
 F_e9:Fun K "_law_same_road" "_law_same_road" s_e9 a.f_e9 a.d_e9
 b_e9:Binds K a.d_e9 ["found", "due"] []
 m_e9:mg "_law_same_road" = some (.ref a.f_e9)
 kp_e9:PySem.W.keepIn K (.ref a.f_e9)=true
 F_f9:Fun K "_law_table_by" "_law_table_by" s_f9 a.f_f9 a.d_f9
 b_f9:Binds K a.d_f9 ["script", "size"] []
 m_f9:mg "_law_table_by" = some (.ref a.f_f9)
 kp_f9:PySem.W.keepIn K (.ref a.f_f9)=true
 F_h9:Fun K "require_told_houses" "require_told_houses" s_h9 a.f_h9 a.d_h9
 b_h9:Binds K a.d_h9 ["told", "count"] []
 m_h9:mg "require_told_houses" = some (.ref a.f_h9)
 kp_h9:PySem.W.keepIn K (.ref a.f_h9)=true
 F_j9:Fun K "walk" "walk" s_j9 a.f_j9 a.d_j9
 b_j9:Binds K a.d_j9 ["table", "house"] []
 m_j9:mg "walk" = some (.ref a.f_j9)
 kp_j9:PySem.W.keepIn K (.ref a.f_j9)=true
 F_c9:Fun K "_law_no_house" "_law_no_house" s_c9 a.f_c9 a.d_c9
 b_c9:Binds K a.d_c9 ["table", "house"] []
 m_c9:mg "_law_no_house" = some (.ref a.f_c9)
 kp_c9:PySem.W.keepIn K (.ref a.f_c9)=true
 F_a9:Fun K "law" "law" s_a9 a.f_a9 a.d_a9
 b_a9:Binds K a.d_a9 ["script"] []
 m_a9:mg "law" = some (.ref a.f_a9)
 kp_a9:PySem.W.keepIn K (.ref a.f_a9)=true
 g_SEAT:∃ t,mg "SEAT" = some (.int 0 t)
 z_len:mg "len" = none
 z_range:mg "range" = none
 z_min:mg "min" = none
 z_max:mg "max" = none
 z_list:mg "list" = none
 z_tuple:mg "tuple" = none
 z_isinstance:mg "isinstance" = none
 z_bool:mg "bool" = none
 z_int:mg "int" = none
 z_str:mg "str" = none
noncomputable def cmOf (a:Adr) (K:PySem.W.Frag):Mi.Cm:=⟨fun c=>match c with | 10=>a.C_GuildError | 11=>a.C_NoHouse | _=>0,K,[]⟩
end K06
namespace K06
open PySem L2 Mi
noncomputable def bn4:List Md:=[.R,.F]
noncomputable def mo_b9:List Md:=[]
noncomputable abbrev az3:Mi.Env→SO:=(retS (liP (sc1 (bn ixL (vr 0) (vr 1)))))
noncomputable abbrev ba8:Mi.Env→SO:=(ifS (liP (tst (bn ltI (vr 1) (un lenD (vr 0)))))
 az3
 ah5)
noncomputable abbrev ba7:Mi.Env→SO:=(retS (liP (cst (.int 0))))
noncomputable def be8:Mi.Env→SO:=(seqS ba8
 ba7)
noncomputable def m_b9:List D→Out D:=run 2 be8
noncomputable def bn2:List Md:=[.F,.F,.F]
noncomputable def mo_d9:List Md:=[.O (.ct .fz),.O (.ct .fz),.F]
noncomputable abbrev ba3:Mi.Env→SO:=(setS 3 (liP (comp (srcR (cst (.int 1)) (vr 2)) [1] (tst (bn (eqS true) (vr 0) (vr 1))) (vr 0))))
noncomputable abbrev ba2:Mi.Env→SO:=(setS 4 (liP (mkL (esC (vr 1) esN))))
noncomputable abbrev ba1:Mi.Env→SO:=(setS 5 (liP (bn modI (vr 0) (cst (.int 4)))))
noncomputable abbrev az2:Mi.Env→SO:=(setS 5 (liP (vr 2)))
noncomputable abbrev ba0:Mi.Env→SO:=(ifS (liP (tst (bn (eqS false) (bn modI (bn ar9 (vr 0) (cst (.int 4))) (cst (.int 8))) (cst (.int 3)))))
 az2
 ah5)
noncomputable abbrev aZ9:Mi.Env→SO:=(setS 0 (liP (bn ar9 (vr 0) (cst (.int 4)))))
noncomputable abbrev aH8:Mi.Env→SO:=(aj7 (appM 4 (lst1 (aE3 3) (aq7 3) popF (bn modI (vr 0) (un lenD (vr 3))))))
noncomputable abbrev aH7:Mi.Env→SO:=(setS 0 (liP (bn ar9 (vr 0) (cst (.int 5)))))
noncomputable abbrev aH6:Mi.Env→SO:=(setS 5 (liP (bn subI (vr 5) (cst (.int 1)))))
noncomputable abbrev bf5:Mi.Env→SO:=(seqS aH8
 (seqS aH7
 aH6))
noncomputable abbrev aZ8:Mi.Env→SO:=(whS (liP (andT (tst (bn gtI (vr 5) (cst (.int 0)))) (tst (bn gtI (un lenD (vr 3)) (cst (.int 0))))))
 bf5 100000)
noncomputable abbrev aZ7:Mi.Env→SO:=(retS (liP (bn catL (vr 4) (mkL (esC (cst (.int 0)) esN)))))
noncomputable def be6:Mi.Env→SO:=(seqS ba3
 (seqS ba2
 (seqS ba1
 (seqS ba0
 (seqS aZ9
 (seqS aZ8
 aZ7))))))
noncomputable def m_d9:List D→Out D:=runO 6 be6
noncomputable def bm9:List Md:=[.F]
noncomputable def mo_g9:List Md:=[]
noncomputable abbrev aY9:Mi.Env→SO:=(retS (liP (andD (bn isT (vr 0) (cst (.ty "int"))) (un notB (bn isT (vr 0) (cst (.ty "bool")))))))
noncomputable def be3:Mi.Env→SO:=aY9
noncomputable def m_g9:List D→Out D:=run 1 be3
noncomputable def bm7:List Md:=[.R,.F]
noncomputable def mo_i9:List Md:=[]
noncomputable abbrev ay9:Mi.Env→SO:=(aJ1 11)
noncomputable abbrev aY7:Mi.Env→SO:=(ifS (liP (orT (tst (bn ltI (bn (extD ac5) (vr 0) (cst (.int 0))) (cst (.int 0)))) (tst (bn geI (bn (extD af4) (vr 0) (cst (.int 0))) (vr 1)))))
 ay9
 ah5)
noncomputable def be1:Mi.Env→SO:=aY7
noncomputable def m_i9:List D→Out D:=run 2 be1
noncomputable def bn1:List Md:=[.F,.R]
noncomputable def mo_e9:List Md:=[.F]
noncomputable abbrev az1:Mi.Env→SO:=(retS (liP (bn (isNb false) (vr 0) (cst .non))))
noncomputable abbrev aZ6:Mi.Env→SO:=(ifS (liP (tst (bn (isNb false) (vr 1) (cst .non))))
 az1
 ah5)
noncomputable abbrev az0:Mi.Env→SO:=(retS (liP (cst (.bl false))))
noncomputable abbrev aZ5:Mi.Env→SO:=(ifS (liP (orT (notT (tst (bn isT (vr 0) (cst (.ty "list"))))) (tst (bn (eqS true) (un lenD (vr 0)) (un lenD (vr 1))))))
 az0
 ah5)
noncomputable abbrev aq2:Mi.Env→SO:=(retS (liP (cst (.bl false))))
noncomputable abbrev aH5:Mi.Env→SO:=(ifS (liP (notT (tst (pc m_g9 (esC (vr 2) esN)))))
 aq2
 ah5)
noncomputable abbrev aZ4:Mi.Env→SO:=(aF2 (liP (srcL (vr 0))) (tgN 2)
 aH5)
noncomputable abbrev aZ3:Mi.Env→SO:=(retS (liP (bn (eqD false) (vr 0) (vr 1))))
noncomputable def be5:Mi.Env→SO:=(seqS aZ6
 (seqS aZ5
 (seqS aZ4
 aZ3)))
noncomputable def m_e9:List D→Out D:=run 3 be5
noncomputable def bn0:List Md:=[.R,.F]
noncomputable def mo_f9:List Md:=[.O (.ct .fz),.F,.F]
noncomputable abbrev aZ2:Mi.Env→SO:=(setS 2 (liP (mkL (esC (mkL (esC (cst (.int 0)) esN)) esN))))
noncomputable abbrev aH4:Mi.Env→SO:=(setS 4 (liP (bn addI (pc m_b9 (esC (vr 0) (esC (bn addI (cst (.int 2)) (bn modI (vr 3) (cst (.int 9)))) esN))) (bn mulI (vr 3) (pc m_b9 (esC (vr 0) (esC (cst (.int 11)) esN)))))))
noncomputable abbrev aq0:Mi.Env→SO:=(aj7 (lst1 (aE3 2) (aq7 2) appF (cst .non)))
noncomputable abbrev aq1:Mi.Env→SO:=(aj7 (lst1 (aE3 2) (aq7 2) appF (pc m_d9 (esC (bn ar9 (vr 4) (cst (.int 4))) (esC (vr 3) (esC (vr 1) esN))))))
noncomputable abbrev aH3:Mi.Env→SO:=(ifS (liP (tst (bn (eqS false) (bn modI (vr 4) (cst (.int 4))) (cst (.int 1)))))
 aq0
 aq1)
noncomputable abbrev bf4:Mi.Env→SO:=(seqS aH4
 aH3)
noncomputable abbrev aZ1:Mi.Env→SO:=(aF2 (liP (srcR (cst (.int 1)) (vr 1))) (tgN 3)
 bf4)
noncomputable abbrev aZ0:Mi.Env→SO:=(retS (mvS 2))
noncomputable def be4:Mi.Env→SO:=(seqS aZ2
 (seqS aZ1
 aZ0))
noncomputable def m_f9:List D→Out D:=runO 5 be4
noncomputable def bm8:List Md:=[.R,.F]
noncomputable def mo_h9:List Md:=[.R]
noncomputable abbrev ap9:Mi.Env→SO:=(aj7 (liP (pc m_i9 (esC (vr 2) (esC (vr 1) esN)))))
noncomputable abbrev aH2:Mi.Env→SO:=(ifS (liP (tst (bn (isNb true) (vr 2) (cst .non))))
 ap9
 ah5)
noncomputable abbrev aY8:Mi.Env→SO:=(aF2 (liP (srcL (vr 0))) (tgN 2)
 aH2)
noncomputable def be2:Mi.Env→SO:=aY8
noncomputable def m_h9:List D→Out D:=run 3 be2
noncomputable def bm6:List Md:=[.R,.F]
noncomputable def mo_j9:List Md:=[.O (.ct .fz),.R]
noncomputable abbrev aY6:Mi.Env→SO:=(aj7 (liP (pc m_i9 (esC (mkL (esC (vr 1) esN)) (esC (un lenD (vr 0)) esN)))))
noncomputable abbrev aY5:Mi.Env→SO:=(aj7 (liP (pc m_h9 (esC (vr 0) (esC (un lenD (vr 0)) esN)))))
noncomputable abbrev aY4:Mi.Env→SO:=(setS 2 (liP (mkL (esC (vr 1) esN))))
noncomputable abbrev aH1:Mi.Env→SO:=(setS 3 (liP (bn ixL (vr 0) (bn ixL (vr 2) (un negI (cst (.int 1)))))))
noncomputable abbrev ap8:Mi.Env→SO:=(retS (prM (liP (cst (.str ("stops" : Str)))) (mvS 2)))
noncomputable abbrev aH0:Mi.Env→SO:=(ifS (liP (tst (bn (isNb false) (vr 3) (cst .non))))
 ap8
 ah5)
noncomputable abbrev ap7:Mi.Env→SO:=(retS (prM (liP (cst (.str ("rings" : Str)))) (mvS 2)))
noncomputable abbrev aG9:Mi.Env→SO:=(ifS (liP (tst (bn inD (bn ixL (vr 3) (cst (.int 1))) (vr 2))))
 ap7
 ah5)
noncomputable abbrev aG8:Mi.Env→SO:=(aj7 (lst1 (aE3 2) (aq7 2) appF (sc1 (bn ixL (vr 3) (cst (.int 1))))))
noncomputable abbrev bf3:Mi.Env→SO:=(seqS aH1
 (seqS aH0
 (seqS aG9
 aG8)))
noncomputable abbrev aY3:Mi.Env→SO:=(whS (liP (tst (bn (eqS true) (bn ixL (vr 2) (un negI (cst (.int 1)))) (cst (.int 0)))))
 bf3 100000)
noncomputable abbrev aY2:Mi.Env→SO:=(retS (prM (liP (cst (.str ("comes" : Str)))) (mvS 2)))
noncomputable def be0:Mi.Env→SO:=(seqS aY6
 (seqS aY5
 (seqS aY4
 (seqS aY3
 aY2))))
noncomputable def m_j9:List D→Out D:=run 4 be0
noncomputable def bn3:List Md:=[.R,.F]
noncomputable def mo_c9:List Md:=[.F,.F]
noncomputable abbrev ba6:Mi.Env→SO:=(setS 2 (liP (cst (.bl false))))
noncomputable abbrev ba5:Mi.Env→SO:=(tryS (some 3) (catN [11]) (aj7 (liP (pc m_j9 (esC (vr 0) (esC (vr 1) esN))))) fun _ ρ=> .nx (ρ.set 2 (some (.bl true))))
noncomputable abbrev ba4:Mi.Env→SO:=(retS (liP (vr 2)))
noncomputable def be7:Mi.Env→SO:=(seqS ba6
 (seqS ba5
 ba4))
noncomputable def m_c9:List D→Out D:=run 4 be7
noncomputable def bn5:List Md:=[.R]
noncomputable def mo_a9:List Md:=[.F,.F,.F,.F,.F,.O (.ct .fz),.F,.F]
noncomputable abbrev bb7:Mi.Env→SO:=(setS 1 (liP (bn addI (cst (.int 1)) (bn modI (pc m_b9 (esC (vr 0) (esC (cst (.int 0)) esN))) (cst (.int 8))))))
noncomputable abbrev az4:Mi.Env→SO:=(setS 1 (liP (cst (.int 60))))
noncomputable abbrev bb6:Mi.Env→SO:=(ifS (liP (tst (bn (eqS false) (bn modI (bn ar9 (pc m_b9 (esC (vr 0) (esC (cst (.int 0)) esN))) (cst (.int 8))) (cst (.int 4))) (cst (.int 1)))))
 az4
 ah5)
noncomputable abbrev bb5:Mi.Env→SO:=(setS 2 (liP (pc m_f9 (esC (vr 0) (esC (vr 1) esN)))))
noncomputable abbrev bb4:Mi.Env→SO:=(setS 3 (liP (bn modI (pc m_b9 (esC (vr 0) (esC (cst (.int 1)) esN))) (vr 1))))
noncomputable abbrev bb3:Mi.Env→SO:=(setS 4 (liP (comp (srcL (vr 2)) [] (fun _=> .ok true) (iteD (tst (bn (isNb false) (vr 0) (cst .non))) (cst .non) (un aD6 (vr 0))))))
noncomputable abbrev bb2:Mi.Env→SO:=(setS 5 (liP (pc m_j9 (esC (vr 4) (esC (vr 3) esN)))))
noncomputable abbrev bb1:Mi.Env→SO:=(setS 6 (liP (mkL (esC (vr 3) esN))))
noncomputable abbrev bb0:Mi.Env→SO:=(setS 7 (liP (cst (.str ("comes" : Str)))))
noncomputable abbrev aI0:Mi.Env→SO:=(setS 8 (liP (bn ixL (vr 2) (bn ixL (vr 6) (un negI (cst (.int 1)))))))
noncomputable abbrev aq3:Mi.Env→SO:=(setS 7 (liP (cst (.str ("stops" : Str)))))
noncomputable abbrev aj0:Mi.Env→SO:=(setS 7 (liP (cst (.str ("rings" : Str)))))
noncomputable abbrev aj1:Mi.Env→SO:=(aj7 (lst1 (aE3 6) (aq7 6) appF (bn ixL (vr 8) (cst (.int 1)))))
noncomputable abbrev aq4:Mi.Env→SO:=(ifS (liP (tst (bn inD (bn ixL (vr 8) (cst (.int 1))) (vr 6))))
 aj0
 aj1)
noncomputable abbrev aH9:Mi.Env→SO:=(ifS (liP (tst (bn (isNb false) (vr 8) (cst .non))))
 aq3
 aq4)
noncomputable abbrev bf6:Mi.Env→SO:=(seqS aI0
 aH9)
noncomputable abbrev ba9:Mi.Env→SO:=(whS (liP (andT (tst (bn (eqS true) (bn ixL (vr 6) (un negI (cst (.int 1)))) (cst (.int 0)))) (tst (bn (eqS false) (vr 7) (cst (.str ("comes" : Str)))))))
 bf6 100000)
noncomputable abbrev au0:Mi.Env→SO:=(retS (liP (cst (.bl false))))
noncomputable abbrev aQ7:Mi.Env→SO:=(ifS (liP (orT (tst (bn (eqD true) (vr 4) (vr 2))) (orT (notT (tst (bn isT (vr 5) (cst (.ty "tuple"))))) (tst (bn (eqS true) (un lenD (vr 5)) (cst (.int 2)))))))
 au0
 ah5)
noncomputable abbrev at9:Mi.Env→SO:=(retS (liP (cst (.bl false))))
noncomputable abbrev aQ6:Mi.Env→SO:=(ifS (liP (orT (notT (tst (bn isT (bn ixT (vr 5) (cst (.int 0))) (cst (.ty "str"))))) (orT (tst (bn (eqS true) (bn ixT (vr 5) (cst (.int 0))) (vr 7))) (notT (tst (pc m_e9 (esC (bn ixT (vr 5) (cst (.int 1))) (esC (vr 6) esN))))))))
 at9
 ah5)
noncomputable abbrev aQ5:Mi.Env→SO:=(retS (liP (andD (pc m_c9 (esC (vr 2) (esC (un negI (cst (.int 1))) esN))) (pc m_c9 (esC (vr 2) (esC (bn addI (vr 1) (bn modI (pc m_b9 (esC (vr 0) (esC (cst (.int 1)) esN))) (cst (.int 9)))) esN))))))
noncomputable def be9:Mi.Env→SO:=(seqS bb7
 (seqS bb6
 (seqS bb5
 (seqS bb4
 (seqS bb3
 (seqS bb2
 (seqS bb1
 (seqS bb0
 (seqS ba9
 (seqS aQ7
 (seqS aQ6
 aQ5)))))))))))
noncomputable def m_a9:List D→Out D:=run 9 be9
variable {P:Program} {w:World} {K:PySem.W.Frag} {mg:Str→Option Value} {base:Heap} {a:Adr}
theorem aE9 (T:Txt K mg a base):FnOk P w K mg base (CX1 P w) 1 a.f_b9 a.d_b9 ["script", "k"] (spM (cmOf a K) bn4 (KR (cmOf a K) .F) m_b9):=by
 refine T.F_b9.okX sc_b9 (fun _ _ _ _=>ae4) (fun _ _ _ _ _ _ _ _ hr h=>?_)
 refine ⟨_,(aa1 (ah0 (ab3 bk9 (pv 1) (ab9 (ab6 K rfl) rfl T.z_len Gd.ak4 (aa0 (pv 0) aa2)) (ac1 _)) (aa3 (ad4 (ah6 (ac6 K rfl) (pv 0) (pv 1) (fun _ _=>rfl)))) ad2)
  (aa3 (ad4 aa4))),?_⟩
 refine ae2 (cm:=cmOf a K) (ms:=bn4) (more:=mo_b9) (body:=be8) ?_ rfl rfl (fun _ _ _=>rnon) h
 exact (ac0 (s_if (upM (pt_T (fx (p_op s_lt (fx (fF 1)) (fx (av4 au5 (ux (fR 0)))))))) (ag5 (upM (rS (k:= .X) (ux (al8 (rc (fR 0)) (fx (fF 1))))))) ak6)
  (ag5 (upM pI)))
theorem aT9:CompSc (aa6 s_d9) (Gd.aL8 (Gd.bi8 (Gd.nth (af0 s_d9) 0))) "far" ["house"]:=by constructor <;> first | rfl | decide +kernel
theorem ok_d9 (T:Txt K mg a base):FnOk P w K mg base (CX1 P w) 1 a.f_d9 a.d_d9 ["cell", "house", "size"] (spM (cmOf a K) bn2 (KO (cmOf a K) (.ct .fz)) m_d9):=by
 refine T.F_d9.okX au2 (fun _ _ _ _=>ae4) (fun _ _ _ _ _ _ _ _ hr h=>?_)
 refine ⟨_,(aa1 (ao7 (i:=3) rfl au2.nd rfl (.inl rfl) (av2 rfl T.z_range (aa0 aa4 (aa0 (pv 2) aa2))) aT9 (ix:=[1]) rfl (fun _ _ _ _=>bc9 (ab3 aE8 (pv 0) (pv 1) (ac1 _))) (fun _ _ _ _=>(pv 0)))
  (aa1 (ac3 (i:=4) au2.nd rfl (Or.inl rfl) (al6 (aa0 (pv 1) aa2)))
  (aa1 (ac3 (i:=5) au2.nd rfl (Or.inl rfl) (ae5 ah7 (pv 0) aa4))
  (aa1 (ah0 (ab3 aR8 (ae5 ah7 (ae5 al9 (pv 0) aa4) aa4) aa4 (ac1 _)) (aa3 (ac3 (i:=5) au2.nd rfl (Or.inl rfl) (pv 2))) ad2)
  (aa1 (ac3 (i:=0) au2.nd rfl (Or.inl rfl) (ae5 al9 (pv 0) aa4))
  (aa1 (aq9 ownX (PW.pt (aW3 (ab3 bl1 (pv 5) aa4 (ac1 _)) (aJ2 (ab3 bl1 (ab9 (ab6 K rfl) rfl T.z_len Gd.ak4 (aa0 (pv 3) aa2)) aa4 (ac1 _))))) (aa1 (af5 (aE7 PySem.F.plainAttrs_list PySem.F.slot_list_append PySem.F.type_list_append ae6 (pv 4) (aa0 (aE7 PySem.F.plainAttrs_list PySem.F.slot_list_pop PySem.F.type_list_pop aS3 (pv 3) (aa0 (ae5 ah7 (pv 0) (ab9 (ab6 K rfl) rfl T.z_len Gd.ak4 (aa0 (pv 3) aa2))) aa2)) aa2)))
  (aa1 (ac3 (i:=0) au2.nd rfl (Or.inl rfl) (ae5 al9 (pv 0) aa4))
  (aa3 (ac3 (i:=5) au2.nd rfl (Or.inl rfl) (ae5 bk6 (pv 5) aa4))))))
  (aa3 (ad4 (ae5 bl3 (pv 4) (al6 (aa0 aa4 aa2))))))))))),?_⟩
 refine aw6 (cm:=cmOf a K) (ms:=bn2) (more:=mo_d9) (body:=be6) ?_ rfl rfl h
 exact (ac0 (au4 (i:=3) (upM (aD2 (ix:=[1]) (i_r2 (fx pI) (fx (fF 2))) (by decide) (pt_T (fx (p_op s_ne (fx (fF 0)) (fx (fF 1))))) (fF 0))) rfl rfl)
  (ac0 (au4 (i:=4) (upM (aA1 (ah2 (fF 1) am6))) rfl rfl)
  (ac0 (ac9 (i:=5) (upM (p_op aq8 (fx (fF 0)) (fx pI))) rfl rfl)
  (ac0 (s_if (upM (pt_T (fx (p_op s_eq (fx (p_op aq8 (fx (p_op au6 (fx (fF 0)) (fx pI))) (fx pI))) (fx pI))))) (ac9 (i:=5) (upM (fF 2)) rfl rfl) ak6)
  (ac0 (ac9 (i:=0) (upM (p_op au6 (fx (fF 0)) (fx pI))) rfl rfl)
  (ac0 (az8 100000 (upM (aW4 (pt_T (fx (p_op s_gt (fx (fF 5)) (fx pI)))) (pt_T (fx (p_op s_gt (fx (av4 au5 (cx (fC 3)))) (fx pI)))))) (ac0 (aj9 (aL3 (i:=4) rfl (bf0 (pthV (i:=3) rfl) (fx (p_op aq8 (fx (fF 0)) (fx (av4 au5 (cx (fC 3)))))))))
  (ac0 (ac9 (i:=0) (upM (p_op au6 (fx (fF 0)) (fx pI))) rfl rfl)
  (ac9 (i:=5) (upM (p_op s_sub (fx (fF 5)) (fx pI))) rfl rfl))))
  (ag5 (upM (p_cat (fC 4) (oc (aA1 (ah2 pI am6))))))))))))
theorem ok_g9 (T:Txt K mg a base):FnOk P w K mg base (CX1 P w) 1 a.f_g9 a.d_g9 ["found"] (spM (cmOf a K) bm9 (KR (cmOf a K) .F) m_g9):=by
 refine T.F_g9.okX sc_g9 (fun _ _ _ _=>ae4) (fun _ _ _ _ _ _ _ _ hr h=>?_)
 refine ⟨_,(aa3 (ad4 (aW7 (ab9 (af9 K rfl) rfl T.z_isinstance Gd.ac2 (aa0 (pv 0) (aa0 (al7 rfl T.z_int Gd.bq8 (v:= .ty "int") rfl) aa2))) (aW6 (bk0 (ab9 (af9 K rfl) rfl T.z_isinstance Gd.ac2 (aa0 (pv 0) (aa0 (al7 rfl T.z_bool Gd.bh4 (v:= .ty "bool") rfl) aa2)))))))),?_⟩
 refine ae2 (cm:=cmOf a K) (ms:=bm9) (more:=mo_g9) (body:=be3) ?_ rfl rfl (fun _ _ _=>rnon) h
 exact (ag5 (upM (bk5 (fx (aK3 aI6 (fx (fF 0)) (fx pT))) (p_not (fx (aK3 aI6 (fx (fF 0)) (fx pT)))))))
theorem bl5 (T:Txt K mg a base):FnOk P w K mg base (CX1 P w) 1 a.f_i9 a.d_i9 ["houses", "count"] (spM (cmOf a K) bm7 (KR (cmOf a K) .F) m_i9):=by
 obtain ⟨t_SEAT,g_SEAT⟩:=T.g_SEAT
 refine T.F_i9.okX sc_i9 (fun _ _ _ _=>ae4) (fun _ _ _ _ _ _ _ _ hr h=>?_)
 refine ⟨_,(aa3 (ah0 (PW.pt (aE5 (ab3 bk9 (av3 (aF7 K rfl rfl) rfl T.z_min Gd.bq6 (aa0 (pv 0) aa2) (aJ5 (ar1 rfl g_SEAT (v:= .int 0) ⟨_,rfl⟩) aW5)) aa4 (ac1 _)) (aD1 (ab3 op_ge (av3 (aF8 K rfl rfl) rfl T.z_max Gd.bq7 (aa0 (pv 0) aa2) (aJ5 (ar1 rfl g_SEAT (v:= .int 0) ⟨_,rfl⟩) aW5)) (pv 1) (ac1 _))))) (aa3 (aR6 aK4 rfl rfl T.mgC_NoHouse T.ek_NoHouse (aa0 ak0 aa2))) ad2)),?_⟩
 refine ae2 (cm:=cmOf a K) (ms:=bm7) (more:=mo_i9) (body:=be1) ?_ rfl rfl (fun _ _ _=>rnon) h
 exact (s_if (upM (aE6 (pt_T (fx (p_op s_lt (fx (bk2 (ux (fR 0)) (fx pI))) (fx pI)))) (pt_T (fx (p_op s_ge (fx (bk3 (ux (fR 0)) (fx pI))) (fx (fF 1))))))) (bc4 (c:=11)) ak6)
theorem ok_e9 (T:Txt K mg a base):FnOk P w K mg base (CX1 P w) 2 a.f_e9 a.d_e9 ["found", "due"] (spM (cmOf a K) bn1 (KR (cmOf a K) .F) m_e9):=by
 refine T.F_e9.okX bj1 (fun _ _ _ _=>ae4) (fun _ _ _ _ _ _ _ _ hr h=>?_)
 have hu64:=hr.units
 refine ⟨_,(aa1 (ah0 (ab3 av5 (pv 1) ak1 (ac1 _)) (aa3 (ad4 (aJ8 av5 (pv 0) ak1 (ac1 _)))) ad2)
  (aa1 (ah0 (PW.pt (aE5 (av0 (au9 (ab9 (af9 K rfl) rfl T.z_isinstance Gd.ac2 (aa0 (pv 0) (aa0 (al7 rfl T.z_list Gd.aP5 (v:= .ty "list") rfl) aa2))))) (aD1 (ab3 aE8 (ab9 (ab6 K rfl) rfl T.z_len Gd.ak4 (aa0 (pv 0) aa2)) (ab9 (ab6 K rfl) rfl T.z_len Gd.ak4 (aa0 (pv 1) aa2)) (ac1 _))))) (aa3 (ad4 aK0)) ad2)
  (aa1 (aJ3 ownX rfl (ar0 K rfl (pv 0)) (al5 (i:=2) bj1.nd rfl (Or.inl rfl)) (aa3 (ah0 (av0 (au9 (ac4 (ok_g9 T) hr.mm rfl T.m_g9 T.kp_g9 T.b_g9 .nil ag6 (aa0 (pv 2) aa2)))) (aa3 (ad4 aK0)) ad2)))
  (aa3 (ad4 (aJ8 (bd5 K rfl hu64) (pv 0) (pv 1) (ac1 _))))))),?_⟩
 refine ae2 (cm:=cmOf a K) (ms:=bn1) (more:=mo_e9) (body:=be5) ?_ rfl rfl (fun _ _ _=>rnon) h
 exact (ac0 (s_if (upM (pt_T (fx (p_op s_is (ux (fR 1)) (fx pN))))) (ag5 (upM (p_op s_is (fx (fF 0)) (fx pN)))) ak6)
  (ac0 (s_if (upM (aE6 (al4 (pt_B (fx (aK3 aI6 (fx (fF 0)) (fx pT))))) (pt_T (fx (p_op s_ne (fx (av4 au5 (fx (fF 0)))) (fx (av4 au5 (ux (fR 1))))))))) (ag5 (upM pB)) ak6)
  (ac0 (bc5 (upM (bg0 (fF 0))) (.inl rfl) (tgF (i:=2) rfl rfl) (s_if (upM (al4 (pt_B (fx (ad8 (ab0 (aF (fF 2)) ag0) rfl))))) (ag5 (upM pB)) ak6))
  (ag5 (upM (p_op aV1 (fx (fF 0)) (ux (fR 1))))))))
theorem ok_f9 (T:Txt K mg a base):FnOk P w K mg base (CX1 P w) 2 a.f_f9 a.d_f9 ["script", "size"] (spM (cmOf a K) bn0 (KO (cmOf a K) (.ct .fz)) m_f9):=by
 refine T.F_f9.okX aR0 (fun _ _ _ _=>ae4) (fun _ _ _ _ _ _ _ _ hr h=>?_)
 refine ⟨_,(aa1 (ac3 (i:=2) aR0.nd rfl (Or.inl rfl) (al6 (aa0 (al6 (aa0 aa4 aa2)) aa2)))
  (aa1 (aJ3 ownX rfl (av2 rfl T.z_range (aa0 aa4 (aa0 (pv 1) aa2))) (al5 (i:=3) aR0.nd rfl (Or.inl rfl)) (aa1 (ac3 (i:=4) aR0.nd rfl (Or.inl rfl) (ae5 aD3 (ac4 (aE9 T) hr.mm rfl T.m_b9 T.kp_b9 T.b_b9 .nil ag6 (aa0 (pv 0) (aa0 (ae5 aD3 aa4 (ae5 ah7 (pv 3) aa4)) aa2))) (ae5 bk8 (pv 3) (ac4 (aE9 T) hr.mm rfl T.m_b9 T.kp_b9 T.b_b9 .nil ag6 (aa0 (pv 0) (aa0 aa4 aa2))))))
  (aa3 (ah0 (ab3 aR8 (ae5 ah7 (pv 4) aa4) aa4 (ac1 _)) (aa3 (af5 (aE7 PySem.F.plainAttrs_list PySem.F.slot_list_append PySem.F.type_list_append ae6 (pv 2) (aa0 ak1 aa2)))) (aa3 (af5 (aE7 PySem.F.plainAttrs_list PySem.F.slot_list_append PySem.F.type_list_append ae6 (pv 2) (aa0 (ac4 (ok_d9 T) hr.mm rfl T.m_d9 T.kp_d9 T.b_d9 .nil ag6 (aa0 (ae5 al9 (pv 4) aa4) (aa0 (pv 3) (aa0 (pv 1) aa2)))) aa2))))))))
  (aa3 (ad4 (pv 2))))),?_⟩
 refine aw6 (cm:=cmOf a K) (ms:=bn0) (more:=mo_f9) (body:=be4) ?_ rfl rfl h
 exact (ac0 (au4 (i:=2) (upM (aA1 (ah2 (oF (aA1 (ah2 pI am6))) am6))) rfl rfl)
  (ac0 (bc5 (upM (i_r2 (fx pI) (fx (fF 1)))) (.inl rfl) (tgF (i:=3) rfl rfl) (ac0 (ac9 (i:=4) (upM (p_op aR3 (fx (ad8 (ab0 (aU (fR 0)) (ab0 (aF (p_op aR3 (fx pI) (fx (p_op aq8 (fx (fF 3)) (fx pI))))) ag0)) rfl)) (fx (p_op s_mul (fx (fF 3)) (fx (ad8 (ab0 (aU (fR 0)) (ab0 (aF pI) ag0)) rfl)))))) rfl rfl)
  (s_if (upM (pt_T (fx (p_op s_eq (fx (p_op aq8 (fx (fF 4)) (fx pI))) (fx pI))))) (aj9 (ak9 (pthV (i:=2) rfl) pN)) (aj9 (ak9 (pthV (i:=2) rfl) (oF (aK1 (ab0 (aF (p_op au6 (fx (fF 4)) (fx pI))) (ab0 (aF (fF 3)) (ab0 (aF (fF 1)) ag0))) rfl)))))))
  (ag5 (m_mv (i:=2) rfl))))
theorem ok_h9 (T:Txt K mg a base):FnOk P w K mg base (CX1 P w) 2 a.f_h9 a.d_h9 ["told", "count"] (spM (cmOf a K) bm8 (KR (cmOf a K) .F) m_h9):=by
 refine T.F_h9.okX bj0 (fun _ _ _ _=>ae4) (fun _ _ _ _ _ _ _ _ hr h=>?_)
 refine ⟨_,(aa3 (aJ3 ownX rfl (ar0 K rfl (pv 0)) (al5 (i:=2) bj0.nd rfl (Or.inl rfl)) (aa3 (ah0 (ab3 bd3 (pv 2) ak1 (ac1 _)) (aa3 (af5 (ac4 (bl5 T) hr.mm rfl T.m_i9 T.kp_i9 T.b_i9 .nil ag6 (aa0 (pv 2) (aa0 (pv 1) aa2))))) ad2)))),?_⟩
 refine ae2 (cm:=cmOf a K) (ms:=bm8) (more:=mo_h9) (body:=be2) ?_ rfl rfl (fun _ _ _=>rnon) h
 exact (bc5 (upM (aM4 (fR 0))) (.inr rfl) (tgR (i:=2) rfl rfl) (s_if (upM (pt_T (fx (p_op bj3 (ux (fR 2)) (fx pN))))) (aj9 (upM (ad8 (ab0 (aU (fR 2)) (ab0 (aF (fF 1)) ag0)) rfl))) ak6))
theorem bl4 (T:Txt K mg a base):FnOk P w K mg base (CX1 P w) 3 a.f_j9 a.d_j9 ["table", "house"] (spM (cmOf a K) bm6 (KR (cmOf a K) .F) m_j9):=by
 obtain ⟨t_SEAT,g_SEAT⟩:=T.g_SEAT
 refine T.F_j9.okX bc0 (fun _ _ _ _=>ae4) (fun _ _ _ _ _ _ _ _ hr h=>?_)
 have hu65:=Mi.hu65 hr
 refine ⟨_,(aa1 (af5 (ac4 (bl5 T) hr.mm rfl T.m_i9 T.kp_i9 T.b_i9 .nil ag6 (aa0 (al6 (aa0 (pv 1) aa2)) (aa0 (ab9 (ab6 K rfl) rfl T.z_len Gd.ak4 (aa0 (pv 0) aa2)) aa2))))
  (aa1 (af5 (ac4 (ok_h9 T) hr.mm rfl T.m_h9 T.kp_h9 T.b_h9 .nil ag6 (aa0 (pv 0) (aa0 (ab9 (ab6 K rfl) rfl T.z_len Gd.ak4 (aa0 (pv 0) aa2)) aa2))))
  (aa1 (ac3 (i:=2) bc0.nd rfl (Or.inl rfl) (al6 (aa0 (pv 1) aa2)))
  (aa1 (aq9 ownX (ab3 aE8 (ah6 (ac6 K rfl) (pv 2) (aJ6 at5 aa4) (fun _ _=>rfl)) (ar1 rfl g_SEAT (v:= .int 0) ⟨_,rfl⟩) (ac1 _)) (aa1 (ac3 (i:=3) bc0.nd rfl (Or.inl rfl) (ah6 (ac6 K rfl) (pv 0) (ah6 (ac6 K rfl) (pv 2) (aJ6 at5 aa4) (fun _ _=>rfl)) (fun _ _=>rfl)))
  (aa1 (ah0 (ab3 av5 (pv 3) ak1 (ac1 _)) (aa3 (ad4 (aJ7 (aa0 ak0 (aa0 (pv 2) aa2))))) ad2)
  (aa1 (ah0 (ab3 (aK5 K rfl hu65) (ah6 (ac6 K rfl) (pv 3) aa4 (fun _ _=>rfl)) (pv 2) (by with_unfolding_all rfl)) (aa3 (ad4 (aJ7 (aa0 ak0 (aa0 (pv 2) aa2))))) ad2)
  (aa3 (af5 (aE7 PySem.F.plainAttrs_list PySem.F.slot_list_append PySem.F.type_list_append ae6 (pv 2) (aa0 (ah6 (ac6 K rfl) (pv 3) aa4 (fun _ _=>rfl)) aa2))))))))
  (aa3 (ad4 (aJ7 (aa0 ak0 (aa0 (pv 2) aa2))))))))),?_⟩
 refine ae2 (cm:=cmOf a K) (ms:=bm6) (more:=mo_j9) (body:=be0) ?_ rfl rfl (fun _ _ _=>rnon) h
 exact (ac0 (aj9 (upM (ad8 (ab0 (aF (oF (aA1 (ah2 (fF 1) am6)))) (ab0 (aF (av4 au5 (ux (fR 0)))) ag0)) rfl)))
  (ac0 (aj9 (upM (ad8 (ab0 (aU (fR 0)) (ab0 (aF (av4 au5 (ux (fR 0)))) ag0)) rfl)))
  (ac0 (au4 (i:=2) (upM (aA1 (ah2 (fF 1) am6))) rfl rfl)
  (ac0 (az8 100000 (upM (pt_T (fx (p_op s_ne (fx (al8 (fC 2) (fx (p_un aI5 (fx pI))))) (fx pI))))) (ac0 (bj2 (i:=3) (upM (al8 (rc (fR 0)) (fx (al8 (fC 2) (fx (p_un aI5 (fx pI))))))) rfl rfl)
  (ac0 (s_if (upM (pt_T (fx (p_op s_is (ux (fR 3)) (fx pN))))) (ag5 (aL2 (upM pS) (moF (m_mv (i:=2) rfl)))) ak6)
  (ac0 (s_if (upM (pt_T (fx (p_op bj4 (ux (al8 (rc (fR 3)) (fx pI))) (cx (fC 2)))))) (ag5 (aL2 (upM pS) (moF (m_mv (i:=2) rfl)))) ak6)
  (aj9 (ak9 (pthV (i:=2) rfl) (rS (k:= .X) (ux (al8 (rc (fR 3)) (fx pI))))))))))
  (ag5 (aL2 (upM pS) (moF (m_mv (i:=2) rfl))))))))
theorem bl6 (T:Txt K mg a base):FnOk P w K mg base (CX1 P w) 4 a.f_c9 a.d_c9 ["table", "house"] (spM (cmOf a K) bn3 (KR (cmOf a K) .F) m_c9):=by
 refine T.F_c9.okX aR1 (fun _ _ _ _=>ae4) (fun _ _ _ _ _ _ _ _ hr h=>?_)
 refine ⟨_,(aa1 (ac3 (i:=2) aR1.nd rfl (Or.inl rfl) aK0)
  (aa1 (aR5 (j:=3) (ok:=fun C=>PySem.W.kitOne K (.ref C) (.ref a.C_GuildError)=some true) rfl rfl (aX9 (aY0 (bl4 T) hr.mm rfl T.m_j9 T.kp_j9 T.b_j9 .nil (aa0 (pv 0) (aa0 (pv 1) aa2)))) rfl T.mgC_NoHouse T.ek_NoHouse aR1.nd rfl rfl (Or.inl rfl) (fun ea oe C hc hk=>aa3 (ac3 (i:=2) aR1.nd rfl (Or.inl rfl) (ab9 (aU6 (g:= .ref a.C_GuildError) (c:= .ref a.C_GuildError) hc (fun _ h=>h) hk) rfl T.z_isinstance Gd.ac2 (aa0 (pv 3) (aa0 (ar1 rfl T.mgC_GuildError (v:= .ref a.C_GuildError) rfl) aa2))))))
  (aa3 (ad4 (pv 2))))),?_⟩
 refine ae2 (cm:=cmOf a K) (ms:=bn3) (more:=mo_c9) (body:=be7) ?_ rfl rfl (fun _ _ _=>rnon) h
 exact (ac0 (ac9 (i:=2) (upM pB) rfl rfl)
  (ac0 (bc1 (g:=11) (i:=2) (l:=[11]) (aU4 T.ek_NoHouse T.sb_NoHouse_NoHouse T.kt_NoHouse_GuildError bh3) (bp2 fun E=>(upM (ad8 (ab0 (aU (fR 0)) (ab0 (aF (fF 1)) ag0)) rfl))) rfl rfl (by decide) rfl)
  (ag5 (upM (fF 2)))))
theorem aU0:CompSc (aa6 s_a9) (Gd.aL8 (Gd.bi8 (Gd.nth (af0 s_a9) 4))) "road" []:=by constructor <;> first | rfl | decide +kernel
theorem ok_a9 (T:Txt K mg a base):FnOk P w K mg base (CX1 P w) 5 a.f_a9 a.d_a9 ["script"] (spM (cmOf a K) bn5 (KR (cmOf a K) .F) m_a9):=by
 refine T.F_a9.okX ak5 (fun _ _ _ _=>ae4) (fun _ _ _ _ _ _ _ _ hr h=>?_)
 have hu64:=hr.units
 have hu65:=Mi.hu65 hr
 refine ⟨_,(aa1 (ac3 (i:=1) ak5.nd rfl (Or.inl rfl) (ae5 aD3 aa4 (ae5 ah7 (ac4 (aE9 T) hr.mm rfl T.m_b9 T.kp_b9 T.b_b9 .nil ag6 (aa0 (pv 0) (aa0 aa4 aa2))) aa4)))
  (aa1 (ah0 (ab3 aR8 (ae5 ah7 (ae5 al9 (ac4 (aE9 T) hr.mm rfl T.m_b9 T.kp_b9 T.b_b9 .nil ag6 (aa0 (pv 0) (aa0 aa4 aa2))) aa4) aa4) aa4 (ac1 _)) (aa3 (ac3 (i:=1) ak5.nd rfl (Or.inl rfl) aa4)) ad2)
  (aa1 (ac3 (i:=2) ak5.nd rfl (Or.inl rfl) (ac4 (ok_f9 T) hr.mm rfl T.m_f9 T.kp_f9 T.b_f9 .nil ag6 (aa0 (pv 0) (aa0 (pv 1) aa2))))
  (aa1 (ac3 (i:=3) ak5.nd rfl (Or.inl rfl) (ae5 ah7 (ac4 (aE9 T) hr.mm rfl T.m_b9 T.kp_b9 T.b_b9 .nil ag6 (aa0 (pv 0) (aa0 aa4 aa2))) (pv 1)))
  (aa1 (ao7 (i:=4) rfl ak5.nd rfl (.inl rfl) (ar0 K rfl (pv 2)) aU0 (ix:=[]) rfl (fun _ _ _ _=>bd0) (fun _ _ _ _=>(aR7 (ab3 av5 (pv 0) ak1 (ac1 _)) ak1 (aJ9 (at0 K rfl) rfl T.z_list Gd.aP5 (aa0 (pv 0) aa2)))))
  (aa1 (ac3 (i:=5) ak5.nd rfl (Or.inl rfl) (ac4 (bl4 T) hr.mm rfl T.m_j9 T.kp_j9 T.b_j9 .nil ag6 (aa0 (pv 4) (aa0 (pv 3) aa2))))
  (aa1 (ac3 (i:=6) ak5.nd rfl (Or.inl rfl) (al6 (aa0 (pv 3) aa2)))
  (aa1 (ac3 (i:=7) ak5.nd rfl (Or.inl rfl) ak0)
  (aa1 (aq9 ownX (PW.pt (aW3 (ab3 aE8 (ah6 (ac6 K rfl) (pv 6) (aJ6 at5 aa4) (fun _ _=>rfl)) aa4 (ac1 _)) (aJ2 (ab3 aR8 (pv 7) ak0 (ac1 _))))) (aa1 (ac3 (i:=8) ak5.nd rfl (Or.inl rfl) (ah6 (ac6 K rfl) (pv 2) (ah6 (ac6 K rfl) (pv 6) (aJ6 at5 aa4) (fun _ _=>rfl)) (fun _ _=>rfl)))
  (aa3 (ah0 (ab3 av5 (pv 8) ak1 (ac1 _)) (aa3 (ac3 (i:=7) ak5.nd rfl (Or.inl rfl) ak0)) (aa3 (ah0 (ab3 (aK5 K rfl hu65) (ah6 (ac6 K rfl) (pv 8) aa4 (fun _ _=>rfl)) (pv 6) (by with_unfolding_all rfl)) (aa3 (ac3 (i:=7) ak5.nd rfl (Or.inl rfl) ak0)) (aa3 (af5 (aE7 PySem.F.plainAttrs_list PySem.F.slot_list_append PySem.F.type_list_append ae6 (pv 6) (aa0 (ah6 (ac6 K rfl) (pv 8) aa4 (fun _ _=>rfl)) aa2))))))))))
  (aa1 (ah0 (PW.pt (aE5 (ab3 (bd4 K rfl hu64) (pv 4) (pv 2) (ac1 _)) (aE5 (av0 (au9 (ab9 (af9 K rfl) rfl T.z_isinstance Gd.ac2 (aa0 (pv 5) (aa0 (al7 rfl T.z_tuple Gd.aU8 (v:= .ty "tuple") rfl) aa2))))) (aD1 (ab3 aE8 (ab9 (ab6 K rfl) rfl T.z_len Gd.ak4 (aa0 (pv 5) aa2)) aa4 (ac1 _)))))) (aa3 (ad4 aK0)) ad2)
  (aa1 (ah0 (PW.pt (aE5 (av0 (au9 (ab9 (af9 K rfl) rfl T.z_isinstance Gd.ac2 (aa0 (ah6 (aA2 K rfl) (pv 5) aa4 (fun _ _=>rfl)) (aa0 (al7 rfl T.z_str Gd.bq5 (v:= .ty "str") rfl) aa2))))) (aE5 (ab3 aE8 (ah6 (aA2 K rfl) (pv 5) aa4 (fun _ _=>rfl)) (pv 7) (ac1 _)) (aD1 (av0 (au9 (ac4 (ok_e9 T) hr.mm rfl T.m_e9 T.kp_e9 T.b_e9 .nil ag6 (aa0 (ah6 (aA2 K rfl) (pv 5) aa4 (fun _ _=>rfl)) (aa0 (pv 6) aa2))))))))) (aa3 (ad4 aK0)) ad2)
  (aa3 (ad4 (aW7 (ac4 (bl6 T) hr.mm rfl T.m_c9 T.kp_c9 T.b_c9 .nil ag6 (aa0 (pv 2) (aa0 (aJ6 at5 aa4) aa2))) (aW6 (ac4 (bl6 T) hr.mm rfl T.m_c9 T.kp_c9 T.b_c9 .nil ag6 (aa0 (pv 2) (aa0 (ae5 aD3 (pv 1) (ae5 ah7 (ac4 (aE9 T) hr.mm rfl T.m_b9 T.kp_b9 T.b_b9 .nil ag6 (aa0 (pv 0) (aa0 aa4 aa2))) aa4)) aa2)))))))))))))))))),?_⟩
 refine ae2 (cm:=cmOf a K) (ms:=bn5) (more:=mo_a9) (body:=be9) ?_ rfl rfl (fun _ _ _=>rnon) h
 exact (ac0 (ac9 (i:=1) (upM (p_op aR3 (fx pI) (fx (p_op aq8 (fx (ad8 (ab0 (aU (fR 0)) (ab0 (aF pI) ag0)) rfl)) (fx pI))))) rfl rfl)
  (ac0 (s_if (upM (pt_T (fx (p_op s_eq (fx (p_op aq8 (fx (p_op au6 (fx (ad8 (ab0 (aU (fR 0)) (ab0 (aF pI) ag0)) rfl)) (fx pI))) (fx pI))) (fx pI))))) (ac9 (i:=1) (upM pI) rfl rfl) ak6)
  (ac0 (ac9 (i:=2) (upM (oF (aK1 (ab0 (aU (fR 0)) (ab0 (aF (fF 1)) ag0)) rfl))) rfl rfl)
  (ac0 (ac9 (i:=3) (upM (p_op aq8 (fx (ad8 (ab0 (aU (fR 0)) (ab0 (aF pI) ag0)) rfl)) (fx (fF 1)))) rfl rfl)
  (ac0 (ac9 (i:=4) (upM (oF (aD2 (ix:=[]) (bo7 (rc (fF 2))) (by decide) bj7 (p_ite (pt_T (fx (p_op s_is (fx (fF 0)) (fx pN)))) pN (oF (bk4 (rc (fF 0)))))))) rfl rfl)
  (ac0 (ac9 (i:=5) (upM (ad8 (ab0 (aF (fF 4)) (ab0 (aF (fF 3)) ag0)) rfl)) rfl rfl)
  (ac0 (au4 (i:=6) (upM (aA1 (ah2 (fF 3) am6))) rfl rfl)
  (ac0 (ac9 (i:=7) (upM pS) rfl rfl)
  (ac0 (az8 100000 (upM (aW4 (pt_T (fx (p_op s_ne (fx (al8 (fC 6) (fx (p_un aI5 (fx pI))))) (fx pI)))) (pt_T (fx (p_op s_eq (fx (fF 7)) (fx pS)))))) (ac0 (ac9 (i:=8) (upM (al8 (rc (fF 2)) (fx (al8 (fC 6) (fx (p_un aI5 (fx pI))))))) rfl rfl)
  (s_if (upM (pt_T (fx (p_op s_is (fx (fF 8)) (fx pN))))) (ac9 (i:=7) (upM pS) rfl rfl) (s_if (upM (pt_T (fx (p_op bj4 (fx (al8 (rc (fF 8)) (fx pI))) (cx (fC 6)))))) (ac9 (i:=7) (upM pS) rfl rfl) (aj9 (ak9 (pthV (i:=6) rfl) (al8 (rc (fF 8)) (fx pI))))))))
  (ac0 (s_if (upM (aE6 (pt_T (fx (p_op aV1 (fx (fF 4)) (fx (fF 2))))) (aE6 (al4 (pt_B (fx (aK3 aI6 (fx (fF 5)) (fx pT))))) (pt_T (fx (p_op s_ne (fx (av4 au5 (fx (fF 5)))) (fx pI))))))) (ag5 (upM pB)) ak6)
  (ac0 (s_if (upM (aE6 (al4 (pt_B (fx (aK3 aI6 (fx (bd2 (rc (fF 5)) (fx pI))) (fx pT))))) (aE6 (pt_T (fx (p_op s_ne (fx (bd2 (rc (fF 5)) (fx pI))) (fx (fF 7))))) (al4 (pt_B (fx (ad8 (ab0 (aF (bd2 (rc (fF 5)) (fx pI))) (ab0 (aX (cx (fC 6))) ag0)) rfl))))))) (ag5 (upM pB)) ak6)
  (ag5 (upM (bk5 (fx (ad8 (ab0 (aF (fF 2)) (ab0 (aF (p_un aI5 (fx pI))) ag0)) rfl)) (ad8 (ab0 (aF (fF 2)) (ab0 (aF (p_op aR3 (fx (fF 1)) (fx (p_op aq8 (fx (ad8 (ab0 (aU (fR 0)) (ab0 (aF pI) ag0)) rfl)) (fx pI))))) ag0)) rfl)))))))))))))))
end K06
namespace K06
open PySem L2 Mi Cl
noncomputable section
structure S_b9 where
 v15q:(List Int)
 v10q:Int
noncomputable def aW0:S_b9→Mi.Env:=fun s=>[some (eS s.v15q),some (D.int s.v10q)]
noncomputable abbrev Y_b9:=S_b9→FlC S_b9 Int
noncomputable def an9:Y_b9:=(retC (upC (bnC ixC (pC fun p=>p.v15q) (pC fun p=>p.v10q))))
noncomputable def aO8:Y_b9:=(ifC (upC (bnC ltC (pC fun p=>p.v10q) (unC lenC (pC fun p=>p.v15q))))
 an9
 aj2)
noncomputable def aO7:Y_b9:=(retC (upC (kC (0:Int))))
noncomputable def bh1:Y_b9:=(seqC aO8
 aO7)
noncomputable def C_b9 (a_script:(List Int)) (a_k:Int):OutC S_b9 Int:=runC none (bh1 ⟨a_script,a_k⟩)
theorem ct_b9:Cl.TJ aW0 D.int be8 bh1:=(aa8 (ag8 (aa5 (ab5 (aa9 o_lt xp (ah3 bl9 xp))))
 (ad3 (aa5 (aX2 (fun _=>rfl) (aa9 o_ixS xp xp))))
 ad1)
 (ad3 (aa5 xk)))
theorem aF6 (a_script:(List Int)) (a_k:Int):SimO aW0 D.int (m_b9 [eS a_script,D.int a_k]) (C_b9 a_script a_k):=ap1 ct_b9 rfl
structure S_d9 where
 v0q:Int
 v8q:Int
 v16q:Int
 v13q:Option (List Int)
 v14q:Option (List Int)
 v11q:Option Int
noncomputable def aV9:S_d9→Mi.Env:=fun s=>[some (D.int s.v0q),some (D.int s.v8q),some (D.int s.v16q),s.v13q.map (eL D.int),s.v14q.map (eL D.int),s.v11q.map D.int]
noncomputable abbrev Y_d9:=S_d9→FlC S_d9 (List Int)
noncomputable def aB9:Y_d9:=(setC (fun a s=>{ s with v13q:=some a }) (upC (ax9 (bnC rngC (kC (1:Int)) (pC fun p=>p.v16q)) (bnC (eqC true) (pC fun p=>p.1) (pC fun p=>p.2.v8q)) (pC fun p=>p.1))))
noncomputable def aB8:Y_d9:=(setC (fun a s=>{ s with v14q:=some a }) (upC (mkC (ax7 (pC fun p=>p.v8q) (nilC:_→Res (List Int))))))
noncomputable def aB7:Y_d9:=(setC (fun a s=>{ s with v11q:=some a }) (upC (bnC modC (pC fun p=>p.v0q) (kC (4:Int)))))
noncomputable def an8:Y_d9:=(setC (fun a s=>{ s with v11q:=some a }) (upC (pC fun p=>p.v16q)))
noncomputable def aB6:Y_d9:=(ifC (upC (bnC (eqC false) (bnC modC (bnC aF3 (pC fun p=>p.v0q) (kC (4:Int))) (kC (8:Int))) (kC (3:Int))))
 an8
 aj2)
noncomputable def aB5:Y_d9:=(setC (fun a s=>{ s with v0q:=a }) (upC (bnC aF3 (pC fun p=>p.v0q) (kC (4:Int)))))
noncomputable def ax4:Y_d9:=(am5 (apMC (fun s=>s.v14q) (fun s y=>{ s with v14q:=some y }) (l1C (fun s=>s.v13q) (fun s y=>{ s with v13q:=some y }) popC (bnC modC (pC fun p=>p.v0q) (unC lenC (vC fun p=>p.v13q))))))
noncomputable def ax3:Y_d9:=(setC (fun a s=>{ s with v0q:=a }) (upC (bnC aF3 (pC fun p=>p.v0q) (kC (5:Int)))))
noncomputable def ax2:Y_d9:=(setC (fun a s=>{ s with v11q:=some a }) (upC (bnC subC (vC fun p=>p.v11q) (kC (1:Int)))))
noncomputable def aC8:Y_d9:=(seqC ax4
 (seqC ax3
 ax2))
noncomputable def aO4:Y_d9:=(whC (upC (andC (bnC gtC (vC fun p=>p.v11q) (kC (0:Int))) (bnC gtC (unC lenC (vC fun p=>p.v13q)) (kC (0:Int)))))
 aC8 100000)
noncomputable def aO3:Y_d9:=(retC (upC (bnC catC (vC fun p=>p.v14q) (mkC (ax7 (kC (0:Int)) (nilC:_→Res (List Int)))))))
noncomputable def bg9:Y_d9:=(seqC aB9
 (seqC aB8
 (seqC aB7
 (seqC aB6
 (seqC aB5
 (seqC aO4
 aO3))))))
noncomputable def C_d9 (a_cell:Int) (a_house:Int) (a_size:Int):OutC S_d9 (List Int):=runC none (bg9 ⟨a_cell,a_house,a_size,none,none,none⟩)
theorem ct_d9:Cl.TJ aV9 (eL D.int) be6 bg9:=(aa8 (xs (aa5 (aM9 (aX3 xk xp) (ab5 (aa9 (av7 true) xp xp)) xp)))
 (aa8 (xs (aa5 (am9 (ah4 xp am8))))
 (aa8 (xs (aa5 (aa9 ar2 xp xk)))
 (aa8 (ag8 (aa5 (ab5 (aa9 (av7 false) (aa9 ar2 (aa9 av6 xp xk) xk) xk)))
 (xs (aa5 xp))
 ad1)
 (aa8 (xs (aa5 (aa9 av6 xp xk)))
 (aa8 (aG4 (aa5 (aN0 (ab5 (aa9 o_gt xv xk)) (ab5 (aa9 o_gt (ah3 ao8 xv) xk))))
 (aa8 (ae9 (bm4 (fun _=>rfl) (fun _ _=>rfl) (aK9 (fun _=>rfl) (fun _ _=>rfl) f_pop (aa9 ar2 xp (ah3 ao8 xv)))))
 (aa8 (xs (aa5 (aa9 av6 xp xk)))
 (xs (aa5 (aa9 o_sub xv xk))))) 100000)
 (ad3 (aa5 (aa9 o_cat xv (am9 (ah4 xk am8)))))))))))
theorem cf_d9 (a_cell:Int) (a_house:Int) (a_size:Int):SimO aV9 (eL D.int) (m_d9 [D.int a_cell,D.int a_house,D.int a_size]) (C_d9 a_cell a_house a_size):=aX1 ct_d9 rfl
structure S_g9 where
 v5q:Int
noncomputable def aV6:S_g9→Mi.Env:=fun s=>[some (D.int s.v5q)]
noncomputable abbrev Y_g9:=S_g9→FlC S_g9 Bool
noncomputable def aN7:Y_g9:=(retC (upC (andC (unC (cbC true) (pC fun p=>p.v5q)) (unC notC (unC (cbC false) (pC fun p=>p.v5q))))))
noncomputable def bg6:Y_g9:=aN7
noncomputable def C_g9 (a_found:Int):OutC S_g9 Bool:=runC none (bg6 ⟨a_found⟩)
theorem ct_g9:Cl.TJ aV6 D.bl be3 bg6:=(ad3 (aa5 (aX4 (aw8 (e:=D.int) (n := "int") (b:=true) (fun _=>rfl) xp) (ah3 o_not (aw8 (e:=D.int) (n := "bool") (b:=false) (fun _=>rfl) xp)))))
theorem cf_g9 (a_found:Int):SimO aV6 D.bl (m_g9 [D.int a_found]) (C_g9 a_found):=ap1 ct_g9 rfl
structure S_i9 where
 v9q:(List Int)
 v1q:Int
noncomputable def aV4:S_i9→Mi.Env:=fun s=>[some ((eL D.int) s.v9q),some (D.int s.v1q)]
noncomputable abbrev Y_i9:=S_i9→FlC S_i9 Unit
noncomputable def an4:Y_i9:=(aD0 11)
noncomputable def aB0:Y_i9:=(ifC (upC (orC (bnC ltC (bnC aX0 (pC fun p=>p.v9q) (kC (0:Int))) (kC (0:Int))) (bnC geC (bnC bn6 (pC fun p=>p.v9q) (kC (0:Int))) (pC fun p=>p.v1q))))
 an4
 aj2)
noncomputable def aU3:Y_i9:=aB0
noncomputable def C_i9 (a_houses:(List Int)) (a_count:Int):OutC S_i9 Unit:=runC (some ()) (aU3 ⟨a_houses,a_count⟩)
theorem ct_i9:Cl.TJ aV4 eN be1 aU3:=(ag8 (aa5 (ap3 (ab5 (aa9 o_lt (aa9 bd8 xp xk) xk)) (ab5 (aa9 o_ge (aa9 bl7 xp xk) xp))))
 aQ3
 ad1)
theorem bq1 (a_houses:(List Int)) (a_count:Int):SimO aV4 eN (m_i9 [(eL D.int) a_houses,D.int a_count]) (C_i9 a_houses a_count):=bp1 (d:=()) rfl ct_i9 rfl
structure S_e9 where
 v5q:(List Int)
 v2q:(List Int)
 v8q:Option Int
noncomputable def aV8:S_e9→Mi.Env:=fun s=>[some ((eL D.int) s.v5q),some ((eL D.int) s.v2q),s.v8q.map D.int]
noncomputable abbrev Y_e9:=S_e9→FlC S_e9 Bool
noncomputable def aB4:Y_e9:=(retC (upC (unC (isnC false (fun _=>false)) (pC fun p=>p.v5q))))
noncomputable def aO2:Y_e9:=(ifC (upC (unC (isnC false (fun _=>false)) (pC fun p=>p.v2q)))
 aB4
 aj2)
noncomputable def aB3:Y_e9:=(retC (upC (kC false)))
noncomputable def aO1:Y_e9:=(ifC (upC (orC (unC notC (unC (cbC true) (pC fun p=>p.v5q))) (bnC (eqC true) (unC lenC (pC fun p=>p.v5q)) (unC lenC (pC fun p=>p.v2q)))))
 aB3
 aj2)
noncomputable def as3:Y_e9:=(retC (upC (kC false)))
noncomputable def an7:Y_e9:=(ifC (upC (unC notC (pc1C C_g9 (vC fun p=>p.v8q))))
 as3
 aj2)
noncomputable def aO0:Y_e9:=(aL4 (pC fun p=>p.v5q) (fun a s=>{ s with v8q:=some a })
 an7)
noncomputable def aN9:Y_e9:=(retC (upC (bnC (eqC false) (pC fun p=>p.v5q) (pC fun p=>p.v2q))))
noncomputable def bg8:Y_e9:=(seqC aO2
 (seqC aO1
 (seqC aO0
 aN9)))
noncomputable def C_e9 (a_found:(List Int)) (a_due:(List Int)):OutC S_e9 Bool:=runC none (bg8 ⟨a_found,a_due,none⟩)
theorem ct_e9:Cl.TJ aV8 D.bl be5 bg8:=(aa8 (ag8 (aa5 (ab5 (ap4 (fun _=>rfl) xp)))
 (ad3 (aa5 (ap4 (fun _=>rfl) xp)))
 ad1)
 (aa8 (ag8 (aa5 (ap3 (am7 (ab5 (aw8 (e:=(eL D.int)) (n := "list") (b:=true) (fun _=>rfl) xp))) (ab5 (aa9 (av7 true) (ah3 ao8 xp) (ah3 ao8 xp)))))
 (ad3 (aa5 xk))
 ad1)
 (aa8 (ay8 (aA5 xp) (fun _ _=>rfl)
 (ag8 (aa5 (am7 (ab5 (bp6 (fun a0=>cf_g9 a0) xv))))
 (ad3 (aa5 xk))
 ad1))
 (ad3 (aa5 (aa9 (bm3 (aT7 aT8) (by decide) false) xp xp))))))
theorem cf_e9 (a_found:(List Int)) (a_due:(List Int)):SimO aV8 D.bl (m_e9 [(eL D.int) a_found,(eL D.int) a_due]) (C_e9 a_found a_due):=ap1 ct_e9 rfl
structure S_f9 where
 v15q:(List Int)
 v16q:Int
 v17q:Option (List (Option (List Int)))
 v8q:Option Int
 v0q:Option Int
noncomputable def aV7:S_f9→Mi.Env:=fun s=>[some (eS s.v15q),some (D.int s.v16q),s.v17q.map (eL (eO (eL D.int))),s.v8q.map D.int,s.v0q.map D.int]
noncomputable abbrev Y_f9:=S_f9→FlC S_f9 (List (Option (List Int)))
noncomputable def aB2:Y_f9:=(setC (fun a s=>{ s with v17q:=some a }) (fun s=>bdO ((upC (mkC (ax7 (mkC (ax7 (kC (0:Int)) (nilC:_→Res (List Int)))) (nilC:_→Res (List (List Int)))))) s) fun a s=>bndO (br0 a) s fun b=> .ok b s))
noncomputable def an6:Y_f9:=(setC (fun a s=>{ s with v0q:=some a }) (upC (bnC addC (pc2C C_b9 (pC fun p=>p.v15q) (bnC addC (kC (2:Int)) (bnC modC (vC fun p=>p.v8q) (kC (9:Int))))) (bnC mulC (vC fun p=>p.v8q) (pc2C C_b9 (pC fun p=>p.v15q) (kC (11:Int)))))))
noncomputable def ai5:Y_f9:=(am5 (l1C (fun s=>s.v17q) (fun s y=>{ s with v17q:=some y }) appC (unC (aK8:Unit→Res (Option (List Int))) (kC ()))))
noncomputable def ai6:Y_f9:=(am5 (l1C (fun s=>s.v17q) (fun s y=>{ s with v17q:=some y }) appC (unC aI2 (pc3C C_d9 (bnC aF3 (vC fun p=>p.v0q) (kC (4:Int))) (vC fun p=>p.v8q) (pC fun p=>p.v16q)))))
noncomputable def an5:Y_f9:=(ifC (upC (bnC (eqC false) (bnC modC (vC fun p=>p.v0q) (kC (4:Int))) (kC (1:Int))))
 ai5
 ai6)
noncomputable def as9:Y_f9:=(seqC an6
 an5)
noncomputable def aB1:Y_f9:=(aL4 (bnC rngC (kC (1:Int)) (pC fun p=>p.v16q)) (fun a s=>{ s with v8q:=some a })
 as9)
noncomputable def aN8:Y_f9:=(retC (mvC (fun s=>s.v17q) (fun s=>{ s with v17q:=none })))
noncomputable def bg7:Y_f9:=(seqC aB2
 (seqC aB1
 aN8))
noncomputable def C_f9 (a_script:(List Int)) (a_size:Int):OutC S_f9 (List (Option (List Int))):=runC none (bg7 ⟨a_script,a_size,none,none,none⟩)
theorem ct_f9:Cl.TJ aV7 (eL (eO (eL D.int))) be4 bg7:=(aa8 (xs (nj_as bh6 (aa5 (am9 (ah4 (am9 (ah4 xk am8)) am8)))))
 (aa8 (ay8 (aX3 xk xp) (fun _ _=>rfl)
 (aa8 (xs (aa5 (aa9 aR9 (ad9 (fun a0 a1=>aF6 a0 a1) xp (aa9 aR9 xk (aa9 ar2 xv xk))) (aa9 o_mul xv (ad9 (fun a0 a1=>aF6 a0 a1) xp xk)))))
 (ag8 (aa5 (ab5 (aa9 (av7 false) (aa9 ar2 xv xk) xk)))
 (ae9 (aK9 (fun _=>rfl) (fun _ _=>rfl) aM8 (ao5 aP9 xk)))
 (ae9 (aK9 (fun _=>rfl) (fun _ _=>rfl) aM8 (ao5 aX7 (bp5 (fun a0 a1 a2=>cf_d9 a0 a1 a2) (aa9 av6 xv xk) xv xp)))))))
 (ad3 (aS0 (fun _=>rfl) (fun _=>rfl)))))
theorem cf_f9 (a_script:(List Int)) (a_size:Int):SimO aV7 (eL (eO (eL D.int))) (m_f9 [eS a_script,D.int a_size]) (C_f9 a_script a_size):=aX1 ct_f9 rfl
structure S_h9 where
 v18q:(List (Option (List Int)))
 v1q:Int
 v14q:Option (Option (List Int))
noncomputable def aV5:S_h9→Mi.Env:=fun s=>[some ((eL (eO (eL D.int))) s.v18q),some (D.int s.v1q),s.v14q.map (eO (eL D.int))]
noncomputable abbrev Y_h9:=S_h9→FlC S_h9 Unit
noncomputable def ai3:Y_h9:=(am5 (upC (pc2C C_i9 (unC optC (vC fun p=>p.v14q)) (pC fun p=>p.v1q))))
noncomputable def ai4:Y_h9:=(ifC (upC (unC (isnC true nonO) (vC fun p=>p.v14q)))
 ai3
 aj2)
noncomputable def aN6:Y_h9:=(aL4 (pC fun p=>p.v18q) (fun a s=>{ s with v14q:=some a })
 ai4)
noncomputable def bg5:Y_h9:=aN6
noncomputable def C_h9 (a_told:(List (Option (List Int)))) (a_count:Int):OutC S_h9 Unit:=runC (some ()) (bg5 ⟨a_told,a_count,none⟩)
theorem ct_h9:Cl.TJ aV5 eN be2 bg5:=(ay8 (aA5 xp) (fun _ _=>rfl)
 (ag8 (aa5 (ab5 (ap4 (aT0 (fun _=>rfl)) xv)))
 (ae9 (aa5 (ad9 (fun a0 a1=>bq1 a0 a1) (ao5 aj8 xv) xp)))
 ad1))
theorem cf_h9 (a_told:(List (Option (List Int)))) (a_count:Int):SimO aV5 eN (m_h9 [(eL (eO (eL D.int))) a_told,D.int a_count]) (C_h9 a_told a_count):=bp1 (d:=()) rfl ct_h9 rfl
structure S_j9 where
 v17q:(List (Option (List Int)))
 v8q:Int
 v6q:Option (List Int)
 v4q:Option (Option (List Int))
noncomputable def aV3:S_j9→Mi.Env:=fun s=>[some ((eL (eO (eL D.int))) s.v17q),some (D.int s.v8q),s.v6q.map (eL D.int),s.v4q.map (eO (eL D.int))]
noncomputable abbrev Y_j9:=S_j9→FlC S_j9 (Str×(List Int))
noncomputable def an3:Y_j9:=(am5 (upC (pc2C C_i9 (mkC (ax7 (pC fun p=>p.v8q) (nilC:_→Res (List Int)))) (unC lenC (pC fun p=>p.v17q)))))
noncomputable def aA9:Y_j9:=(am5 (upC (pc2C C_h9 (pC fun p=>p.v17q) (unC lenC (pC fun p=>p.v17q)))))
noncomputable def aA8:Y_j9:=(setC (fun a s=>{ s with v6q:=some a }) (upC (mkC (ax7 (pC fun p=>p.v8q) (nilC:_→Res (List Int))))))
noncomputable def an2:Y_j9:=(setC (fun a s=>{ s with v4q:=some a }) (upC (bnC ixC (pC fun p=>p.v17q) (bnC ixC (vC fun p=>p.v6q) (unC negC (kC (1:Int)))))))
noncomputable def ai1:Y_j9:=(retC (prMC (upC (kC ("stops" : Str))) (mvC (fun s=>s.v6q) (fun s=>{ s with v6q:=none }))))
noncomputable def ai2:Y_j9:=(ifC (upC (unC (isnC false nonO) (vC fun p=>p.v4q)))
 ai1
 aj2)
noncomputable def ai0:Y_j9:=(retC (prMC (upC (kC ("rings" : Str))) (mvC (fun s=>s.v6q) (fun s=>{ s with v6q:=none }))))
noncomputable def an1:Y_j9:=(ifC (upC (bnC (inC false) (bnC ixC (unC optC (vC fun p=>p.v4q)) (kC (1:Int))) (vC fun p=>p.v6q)))
 ai0
 aj2)
noncomputable def ax1:Y_j9:=(am5 (l1C (fun s=>s.v6q) (fun s y=>{ s with v6q:=some y }) appC (bnC ixC (unC optC (vC fun p=>p.v4q)) (kC (1:Int)))))
noncomputable def af2:Y_j9:=(seqC an2
 (seqC ai2
 (seqC an1
 ax1)))
noncomputable def aN5:Y_j9:=(whC (upC (bnC (eqC true) (bnC ixC (vC fun p=>p.v6q) (unC negC (kC (1:Int)))) (kC (0:Int))))
 af2 100000)
noncomputable def as2:Y_j9:=(retC (prMC (upC (kC ("comes" : Str))) (mvC (fun s=>s.v6q) (fun s=>{ s with v6q:=none }))))
noncomputable def aU2:Y_j9:=(seqC an3
 (seqC aA9
 (seqC aA8
 (seqC aN5
 as2))))
noncomputable def C_j9 (a_table:(List (Option (List Int)))) (a_house:Int):OutC S_j9 (Str×(List Int)):=runC none (aU2 ⟨a_table,a_house,none,none⟩)
theorem ct_j9:Cl.TJ aV3 (eT2 D.str (eL D.int)) be0 aU2:=(aa8 (ae9 (aa5 (ad9 (fun a0 a1=>bq1 a0 a1) (am9 (ah4 xp am8)) (ah3 ao8 xp))))
 (aa8 (ae9 (aa5 (ad9 (fun a0 a1=>cf_h9 a0 a1) xp (ah3 ao8 xp))))
 (aa8 (xs (aa5 (am9 (ah4 xp am8))))
 (aa8 (aG4 (aa5 (ab5 (aa9 (av7 true) (aa9 ao3 xv (ah3 aK7 xk)) xk)))
 (aa8 (xs (aa5 (aa9 ao3 xp (aa9 ao3 xv (ah3 aK7 xk)))))
 (aa8 (ag8 (aa5 (ab5 (ap4 (aT0 (fun _=>rfl)) xv)))
 (ad3 (bd9 (aa5 xk) (aS0 (fun _=>rfl) (fun _=>rfl))))
 ad1)
 (aa8 (ag8 (aa5 (ab5 (aa9 (bm0 aT8 (by decide)) (aa9 ao3 (ao5 aj8 xv) xk) xv)))
 (ad3 (bd9 (aa5 xk) (aS0 (fun _=>rfl) (fun _=>rfl))))
 ad1)
 (ae9 (aK9 (fun _=>rfl) (fun _ _=>rfl) aM8 (aX2 (fun _=>rfl) (aa9 ao3 (ao5 aj8 xv) xk))))))) 100000)
 (ad3 (bd9 (aa5 xk) (aS0 (fun _=>rfl) (fun _=>rfl))))))))
theorem bq0 (a_table:(List (Option (List Int)))) (a_house:Int):SimO aV3 (eT2 D.str (eL D.int)) (m_j9 [(eL (eO (eL D.int))) a_table,D.int a_house]) (C_j9 a_table a_house):=ap1 ct_j9 rfl
structure S_c9 where
 v17q:(List (Option (List Int)))
 v8q:Int
 v12q:Option Bool
 v3q:Option Int
noncomputable def aJ0:S_c9→Mi.Env:=fun s=>[some ((eL (eO (eL D.int))) s.v17q),some (D.int s.v8q),s.v12q.map D.bl,s.v3q.map D.int]
noncomputable abbrev Y_c9:=S_c9→FlC S_c9 Bool
noncomputable def aO6:Y_c9:=(setC (fun a s=>{ s with v12q:=some a }) (upC (kC false)))
noncomputable def aC0:Y_c9:=(tryC (fun s=>aw4 (aJ0 s) (some 3)) (catN [11]) (am5 (upC (pc2C C_j9 (pC fun p=>p.v17q) (pC fun p=>p.v8q)))) fun _ s=> .nx { s with v12q:=some true })
noncomputable def aO5:Y_c9:=(retC (upC (vC fun p=>p.v12q)))
noncomputable def bh0:Y_c9:=(seqC aO6
 (seqC aC0
 aO5))
noncomputable def C_c9 (a_table:(List (Option (List Int)))) (a_house:Int):OutC S_c9 Bool:=runC none (bh0 ⟨a_table,a_house,none,none⟩)
theorem ct_c9:Cl.TJ aJ0 D.bl be7 bh0:=(aa8 (xs (aa5 xk))
 (aa8 (bi2 (ae9 (aa5 (ad9 (fun a0 a1=>bq0 a0 a1) xp xp))) fun _ _=>rfl)
 (ad3 (aa5 xv))))
theorem bq2 (a_table:(List (Option (List Int)))) (a_house:Int):SimO aJ0 D.bl (m_c9 [(eL (eO (eL D.int))) a_table,D.int a_house]) (C_c9 a_table a_house):=ap1 ct_c9 rfl
structure S_a9 where
 v15q:(List Int)
 v16q:Option Int
 v17q:Option (List (Option (List Int)))
 v8q:Option Int
 v7q:Option (List (Option (List Int)))
 v5q:Option (Str×(List Int))
 v6q:Option (List Int)
 v19q:Option Str
 v14q:Option (Option (List Int))
noncomputable def aW1:S_a9→Mi.Env:=fun s=>[some (eS s.v15q),s.v16q.map D.int,s.v17q.map (eL (eO (eL D.int))),s.v8q.map D.int,s.v7q.map (eL (eO (eL D.int))),s.v5q.map (eT2 D.str (eL D.int)),s.v6q.map (eL D.int),s.v19q.map D.str,s.v14q.map (eO (eL D.int))]
noncomputable abbrev Y_a9:=S_a9→FlC S_a9 Bool
noncomputable def as8:Y_a9:=(setC (fun a s=>{ s with v16q:=some a }) (upC (bnC addC (kC (1:Int)) (bnC modC (pc2C C_b9 (pC fun p=>p.v15q) (kC (0:Int))) (kC (8:Int))))))
noncomputable def ao1:Y_a9:=(setC (fun a s=>{ s with v16q:=some a }) (upC (kC (60:Int))))
noncomputable def as4:Y_a9:=(ifC (upC (bnC (eqC false) (bnC modC (bnC aF3 (pc2C C_b9 (pC fun p=>p.v15q) (kC (0:Int))) (kC (8:Int))) (kC (4:Int))) (kC (1:Int))))
 ao1
 aj2)
noncomputable def aC6:Y_a9:=(setC (fun a s=>{ s with v17q:=some a }) (upC (pc2C C_f9 (pC fun p=>p.v15q) (vC fun p=>p.v16q))))
noncomputable def aC5:Y_a9:=(setC (fun a s=>{ s with v8q:=some a }) (upC (bnC modC (pc2C C_b9 (pC fun p=>p.v15q) (kC (1:Int))) (vC fun p=>p.v16q))))
noncomputable def aC4:Y_a9:=(setC (fun a s=>{ s with v7q:=some a }) (upC (ax9 (vC fun p=>p.v17q) (fun _=> .ok true) (iteC (unC (isnC false nonO) (pC fun p=>p.1)) (unC (aK8:Unit→Res (Option (List Int))) (kC ())) (unC aI2 (unC idC (unC optC (pC fun p=>p.1))))))))
noncomputable def aC3:Y_a9:=(setC (fun a s=>{ s with v5q:=some a }) (upC (pc2C C_j9 (vC fun p=>p.v7q) (vC fun p=>p.v8q))))
noncomputable def aC2:Y_a9:=(setC (fun a s=>{ s with v6q:=some a }) (upC (mkC (ax7 (vC fun p=>p.v8q) (nilC:_→Res (List Int))))))
noncomputable def aC1:Y_a9:=(setC (fun a s=>{ s with v19q:=some a }) (upC (kC ("comes" : Str))))
noncomputable def ao0:Y_a9:=(setC (fun a s=>{ s with v14q:=some a }) (upC (bnC ixC (vC fun p=>p.v17q) (bnC ixC (vC fun p=>p.v6q) (unC negC (kC (1:Int)))))))
noncomputable def ai7:Y_a9:=(setC (fun a s=>{ s with v19q:=some a }) (upC (kC ("stops" : Str))))
noncomputable def ae7:Y_a9:=(setC (fun a s=>{ s with v19q:=some a }) (upC (kC ("rings" : Str))))
noncomputable def ae8:Y_a9:=(am5 (l1C (fun s=>s.v6q) (fun s y=>{ s with v6q:=some y }) appC (bnC ixC (unC optC (vC fun p=>p.v14q)) (kC (1:Int)))))
noncomputable def af1:Y_a9:=(ifC (upC (bnC (inC false) (bnC ixC (unC optC (vC fun p=>p.v14q)) (kC (1:Int))) (vC fun p=>p.v6q)))
 ae7
 ae8)
noncomputable def ai8:Y_a9:=(ifC (upC (unC (isnC false nonO) (vC fun p=>p.v14q)))
 ai7
 af1)
noncomputable def af8:Y_a9:=(seqC ao0
 ai8)
noncomputable def aO9:Y_a9:=(whC (upC (andC (bnC (eqC true) (bnC ixC (vC fun p=>p.v6q) (unC negC (kC (1:Int)))) (kC (0:Int))) (bnC (eqC false) (vC fun p=>p.v19q) (kC ("comes" : Str)))))
 af8 100000)
noncomputable def ax6:Y_a9:=(retC (upC (kC false)))
noncomputable def as7:Y_a9:=(ifC (upC (orC (bnC (eqC true) (vC fun p=>p.v7q) (vC fun p=>p.v17q)) (orC (unC notC (unC (cbC true) (vC fun p=>p.v5q))) (bnC (eqC true) (unC bn9 (vC fun p=>p.v5q)) (kC (2:Int))))))
 ax6
 aj2)
noncomputable def ax5:Y_a9:=(retC (upC (kC false)))
noncomputable def as6:Y_a9:=(ifC (upC (orC (unC notC (unC (cbC true) (unC fstC (vC fun p=>p.v5q)))) (orC (bnC (eqC true) (unC fstC (vC fun p=>p.v5q)) (vC fun p=>p.v19q)) (unC notC (pc2C C_e9 (unC sndC (vC fun p=>p.v5q)) (vC fun p=>p.v6q))))))
 ax5
 aj2)
noncomputable def as5:Y_a9:=(retC (upC (andC (pc2C C_c9 (vC fun p=>p.v17q) (unC negC (kC (1:Int)))) (pc2C C_c9 (vC fun p=>p.v17q) (bnC addC (vC fun p=>p.v16q) (bnC modC (pc2C C_b9 (pC fun p=>p.v15q) (kC (1:Int))) (kC (9:Int))))))))
noncomputable def bh2:Y_a9:=(seqC as8
 (seqC as4
 (seqC aC6
 (seqC aC5
 (seqC aC4
 (seqC aC3
 (seqC aC2
 (seqC aC1
 (seqC aO9
 (seqC as7
 (seqC as6
 as5)))))))))))
noncomputable def C_a9 (a_script:(List Int)):OutC S_a9 Bool:=runC none (bh2 ⟨a_script,none,none,none,none,none,none,none,none⟩)
theorem ct_a9:Cl.TJ aW1 D.bl be9 bh2:=(aa8 (xs (aa5 (aa9 aR9 xk (aa9 ar2 (ad9 (fun a0 a1=>aF6 a0 a1) xp xk) xk))))
 (aa8 (ag8 (aa5 (ab5 (aa9 (av7 false) (aa9 ar2 (aa9 av6 (ad9 (fun a0 a1=>aF6 a0 a1) xp xk) xk) xk) xk)))
 (xs (aa5 xk))
 ad1)
 (aa8 (xs (aa5 (ad9 (fun a0 a1=>cf_f9 a0 a1) xp xv)))
 (aa8 (xs (aa5 (aa9 ar2 (ad9 (fun a0 a1=>aF6 a0 a1) xp xk) xv)))
 (aa8 (xs (aa5 (aM9 (aA5 xv) bp3 (bp8 (ab5 (ap4 (aT0 (fun _=>rfl)) xp)) (ao5 aP9 xk) (ao5 aX7 (ah3 bl8 (ao5 aj8 xp)))))))
 (aa8 (xs (aa5 (ad9 (fun a0 a1=>bq0 a0 a1) xv xv)))
 (aa8 (xs (aa5 (am9 (ah4 xv am8))))
 (aa8 (xs (aa5 xk))
 (aa8 (aG4 (aa5 (aN0 (ab5 (aa9 (av7 true) (aa9 ao3 xv (ah3 aK7 xk)) xk)) (ab5 (aa9 (bm1 false) xv xk))))
 (aa8 (xs (aa5 (aa9 ao3 xv (aa9 ao3 xv (ah3 aK7 xk)))))
 (ag8 (aa5 (ab5 (ap4 (aT0 (fun _=>rfl)) xv)))
 (xs (aa5 xk))
 (ag8 (aa5 (ab5 (aa9 (bm0 aT8 (by decide)) (aa9 ao3 (ao5 aj8 xv) xk) xv)))
 (xs (aa5 xk))
 (ae9 (aK9 (fun _=>rfl) (fun _ _=>rfl) aM8 (aa9 ao3 (ao5 aj8 xv) xk)))))) 100000)
 (aa8 (ag8 (aa5 (ap3 (ab5 (aa9 (bm3 (aT7 (dat_O (aT7 aT8) (aT6 _))) (by decide) true) xv xv)) (ap3 (am7 (ab5 (aw8 (e:=(eT2 D.str (eL D.int))) (n := "tuple") (b:=true) (fun _=>rfl) xv))) (ab5 (aa9 (av7 true) (ah3 bd7 xv) xk)))))
 (ad3 (aa5 xk))
 ad1)
 (aa8 (ag8 (aa5 (ap3 (am7 (ab5 (aw8 (e:=D.str) (n := "str") (b:=true) (fun _=>rfl) (bg3 o_p0 xv)))) (ap3 (ab5 (aa9 (bm1 true) (bg3 o_p0 xv) xv)) (am7 (ab5 (ad9 (fun a0 a1=>cf_e9 a0 a1) (bg3 o_p1 xv) xv))))))
 (ad3 (aa5 xk))
 ad1)
 (ad3 (aa5 (aX4 (ad9 (fun a0 a1=>bq2 a0 a1) xv (ah3 aK7 xk)) (ad9 (fun a0 a1=>bq2 a0 a1) xv (aa9 aR9 xv (aa9 ar2 (ad9 (fun a0 a1=>aF6 a0 a1) xp xk) xk)))))))))))))))))
theorem cf_a9 (a_script:(List Int)):SimO aW1 D.bl (m_a9 [eS a_script]) (C_a9 a_script):=ap1 ct_a9 rfl
end
noncomputable def ae1 (ns:List Int) (k:Int):Int:=(ns[k.toNat]?).getD 0
theorem az5 (ns:List Int) (k:Int) (hk:0≤k):(C_b9 ns k).res= .ok (ae1 ns k):=by
 unfold C_b9 bh1 aO8 aO7 an9 ae1
 by_cases h:k < ns.length
 · obtain ⟨v,e⟩:∃ v,ns[k.toNat]?=some v:=⟨_,List.getElem?_eq_getElem (by omega)⟩
   simp [h,aP6 ns hk,e]
 · have e:ns[k.toNat]?=none:=List.getElem?_eq_none (by omega)
   simp [h,e]
theorem ae0 {α:Type}:∀ {l:List α} {j:Nat} (h:j < l.length),(l[j] :: l.eraseIdx j).Perm l
 | x :: l,0,h=>List.Perm.refl _
 | x :: l,j + 1,h=>by
   have ih:=ae0 (l:=l) (j:=j) (by simpa using h)
   rw [List.eraseIdx_cons_succ,List.getElem_cons_succ]
   exact (List.Perm.swap x _ _).trans (ih.cons x)
structure RoadOk (sz:Int) (r:List Int):Prop where
 two:2≤r.length
 last:r.getLast?=some 0
 nd:r.Nodup
 all:∀ x∈r,0≤x∧x < sz
theorem bj8 {α:Type} {l:List α} {i:Int} (h0:0≤i) (h1:i < l.length) (h2:l.length≤20000):∃ (h:i.toNat < l.length),popC l i=some (l[i.toNat],l.eraseIdx i.toNat):=by
 have h:i.toNat < l.length:=by omega
 refine ⟨h,?_⟩
 unfold popC
 rw [if_pos ⟨h0,h1,by unfold ab4; omega⟩,List.getElem?_eq_getElem h]
 rfl
theorem ay6 {α:Type} {l:List α} {x:α} (h:l.length < ab4):appC l x=some ((),l ++ [x]):=by unfold appC; rw [if_pos h]
theorem bq3 {α:Type} {l m:List α} (h:l.length + m.length≤ab4):catC l m= .ok (l ++ m):=by unfold catC; rw [if_pos h]
theorem bb9 (c h sz:Int) (h1:1≤h) (h2:h < sz) (h3:sz≤1000):∃ r,(C_d9 c h sz).res= .ok r∧RoadOk sz r∧(∃ t,r=h :: t)∧r.length≤1001:=by
 have hc:ax9 (bnC rngC (kC (1:Int)) (pC fun p=>p.v16q)) (bnC (eqC true) (pC fun p=>p.1) (pC fun p=>p.2.v8q)) (pC fun p=>p.1) (⟨c,h,sz,none,none,none⟩:S_d9)= .ok ((rngI 1 sz).filter fun x=>!decide (x=h)):=by
  rw [aP0 (l:=rngI 1 sz) (fun x=>!decide (x=h)) (fun x=>x) (by simp [az9 (lo:=1) (hi:=sz) (by omega) (by omega) (by omega) (by omega)]) (by rw [ah8]; unfold ab4; omega) (fun a _=>by simp) (fun a _ _=>by simp)]
  simp
 have hR:∀ x∈(rngI 1 sz).filter (fun x=>!decide (x=h)),1≤x∧x < sz∧x≠h:=fun x hx=>by
  obtain ⟨q1,q2⟩:=List.mem_filter.mp hx
  have:=aD5.mp q1
  exact ⟨this.1,this.2,by simpa using q2⟩
 have ndR:((rngI 1 sz).filter fun x=>!decide (x=h)).Nodup:=(aF1 1 sz).filter _
 have lnR:((rngI 1 sz).filter fun x=>!decide (x=h)).length≤999:=Nat.le_trans (List.length_filter_le _ _) (by rw [ah8]; omega)
 generalize (rngI 1 sz).filter (fun x=>!decide (x=h))=R0 at hc hR ndR lnR
 have wh:=aF9 (t:=upC (andC (bnC gtC (vC fun p=>p.v11q) (kC (0:Int))) (bnC gtC (unC lenC (vC fun p=>p.v13q)) (kC (0:Int))))) (c:=aC8)
  (fun n (s:S_d9)=>∃ c' m rest mid,s=⟨c',h,sz,some rest,some (h :: mid),some m⟩∧rest.length=n∧(h :: mid ++ rest).Nodup∧(∀ x∈h :: mid ++ rest,1≤x∧x < sz)∧(h :: mid ++ rest).length≤1000)
  (fun s=>∃ c' m rest mid,s=⟨c',h,sz,some rest,some (h :: mid),some m⟩∧(h :: mid).Nodup∧(∀ x∈h :: mid,1≤x∧x < sz)∧(h :: mid).length≤1000) (by
    rintro n s ⟨c',m,rest,mid,rfl,rfl,nd,al,ln⟩
    have ln':mid.length + rest.length + 1≤1000:=by simpa using ln
    by_cases hm:0 < m∧0 < rest.length
    · have j0:0≤c' % (rest.length:Int):=Int.emod_nonneg _ (by omega)
      have j1:c' % (rest.length:Int) < rest.length:=Int.emod_lt_of_pos _ (by omega)
      obtain ⟨jl,hp⟩:=bj8 j0 j1 (by omega)
      have hz:(0:Int) < rest.length:=by omega
      generalize (c' % (rest.length:Int)).toNat=j at jl hp
      have ha:=ay6 (l:=h :: mid) (x:=rest[j]) (by simp only [List.length_cons]; unfold ab4; omega)
      refine .inr ⟨by simp [hm.1,hm.2],(rest.eraseIdx j).length,_,by rw [List.length_eraseIdx,if_pos jl]; omega,.inl (by simp [aC8,ax4,ax3,ax2,hm.2,hp,ha]),c' / 5,m - 1,rest.eraseIdx j,mid ++ [rest[j]],rfl,rfl,?_,?_,?_⟩
      · have e1:(h :: (mid ++ [rest[j]]) ++ rest.eraseIdx j).Perm (h :: mid ++ rest):=by
         have:(rest[j] :: rest.eraseIdx j).Perm rest:=ae0 jl
         simpa using (List.Perm.append_left (h :: mid) this)
        exact e1.nodup_iff.mpr nd
      · intro x hx
        refine al x ?_
        have e1:(h :: (mid ++ [rest[j]]) ++ rest.eraseIdx j).Perm (h :: mid ++ rest):=by
         have:(rest[j] :: rest.eraseIdx j).Perm rest:=ae0 jl
         simpa using (List.Perm.append_left (h :: mid) this)
        exact e1.mem_iff.mp hx
      · simp [List.length_eraseIdx,jl]; omega
    · refine .inl ⟨?_,c',m,rest,mid,rfl,(List.nodup_append.mp nd).1,fun x hx=>al x (List.mem_append_left _ hx),by simp; omega⟩
      by_cases hm1:0 < m
      · have e0:rest=[]:=List.length_eq_zero_iff.mp (by omega)
        subst e0
        simp [hm1]
      · simp [hm1])
 obtain ⟨s',e,c',m,rest,mid,rfl,nd,al,ln⟩:=wh 100000 R0.length ⟨c / 4,h,sz,some R0,some [h],some (if c / 4 % 8=3 then sz else c % 4)⟩
  ⟨c / 4,_,R0,[],rfl,rfl,List.nodup_cons.mpr ⟨fun z=>(hR h z).2.2 rfl,ndR⟩,fun x hx=>by
   rcases List.mem_cons.mp hx with z | z
   · rw [z]; exact ⟨h1,h2⟩
   · exact ⟨(hR x z).1,(hR x z).2.1⟩,by show (h :: R0).length≤1000; rw [List.length_cons]; omega⟩ (by omega)
 have lm:mid.length + 1≤1000:=by simpa using ln
 have hcat:=bq3 (l:=h :: mid) (m:=[(0:Int)]) (by simp only [List.length_cons,List.length_nil]; unfold ab4; omega)
 refine ⟨h :: mid ++ [0],?_,⟨by simp,List.getLast?_concat ..,?_,fun x hx=>?_⟩,⟨_,rfl⟩,by simp; omega⟩
 · have e1:aB9 ⟨c,h,sz,none,none,none⟩= .nx ⟨c,h,sz,some R0,none,none⟩:=by
    unfold aB9 setC upC
    rw [hc]; rfl
   have e2:aB8 ⟨c,h,sz,some R0,none,none⟩= .nx ⟨c,h,sz,some R0,some [h],none⟩:=by simp [aB8,ab4]
   have e3:aB7 ⟨c,h,sz,some R0,some [h],none⟩= .nx ⟨c,h,sz,some R0,some [h],some (c % 4)⟩:=by simp [aB7]
   have e4:aB6 ⟨c,h,sz,some R0,some [h],some (c % 4)⟩= .nx ⟨c,h,sz,some R0,some [h],some (if c / 4 % 8=3 then sz else c % 4)⟩:=by
    by_cases q:c / 4 % 8=3 <;> simp [aB6,an8,q]
   have e5:∀ x,aB5 ⟨c,h,sz,some R0,some [h],x⟩= .nx ⟨c / 4,h,sz,some R0,some [h],x⟩:=fun x=>by simp [aB5]
   have e6:aO4 ⟨c / 4,h,sz,some R0,some [h],some (if c / 4 % 8=3 then sz else c % 4)⟩=_:=e
   unfold C_d9 bg9
   simp only [seqC,e1,e2,e3,e4,e5,e6]
   simp [aO3,hcat,ab4,-catC]
 · exact List.nodup_append.mpr ⟨nd,by simp,fun a ha b hb=>by
    rw [List.mem_singleton.mp hb]
    have:=(al a ha).1
    omega⟩
 · rcases List.mem_append.mp hx with z | z
   · have:=al x z; omega
   · rw [List.mem_singleton.mp z]; omega
theorem ac7:∀ (n:Nat) (l:List Int),l.Nodup→(∀ x∈l,0≤x∧x < n)→l.length≤n:=by
 intro n
 induction n with
 | zero =>
   intro l nd al
   cases l with
   | nil=>exact Nat.le_refl _
   | cons x l=>have:=al x List.mem_cons_self; omega
 | succ n ih =>
   intro l nd al
   have h2:=ih (l.erase n) (nd.erase _) fun x hx=>by
    have hm:=(nd.mem_erase_iff).mp hx
    have:=al x hm.2
    have hne:=hm.1
    omega
   rw [List.length_erase] at h2
   split at h2 <;> omega
theorem RoadOk.len {sz:Int} {r:List Int} (h:RoadOk sz r):(r.length:Int)≤sz:=by
 have:=ac7 sz.toNat r h.nd fun x hx=>by have:=h.all x hx; omega
 obtain ⟨x,hx⟩:=List.exists_mem_of_ne_nil r (fun z=>by have:=h.two; rw [z] at this; simp at this)
 have:=h.all x hx
 omega
theorem aF0 {α:Type} {l:List α} {a:α} (h:l.Nodup) (ha:a∉l):(l ++ [a]).Nodup :=
 List.nodup_append.mpr ⟨h,by simp,fun x hx y hy=>by rw [List.mem_singleton.mp hy]; rintro rfl; exact ha hx⟩
theorem aS5 (l:List Int) (m:Int):0≤ac5 l m↔0≤m∧∀ x∈l,0≤x:=by
 obtain ⟨h1,h2,h3⟩:=ah1 l m
 constructor
 · intro h
   exact ⟨by omega,fun x hx=>by have:=h3 x hx; omega⟩
 · rintro ⟨a,b⟩
   rcases h1 with z | z
   · omega
   · exact b _ z
theorem au1 (hs:List Int) (n:Int) (h:∀ x∈hs,0≤x∧x < n) (h0:0 < n):(C_i9 hs n).res= .ok ():=by
 unfold C_i9 aU3
 first | unfold aB0 | skip
 cases hs with
 | nil =>
   have q:¬ n≤0:=by omega
   simp [q]
 | cons a l =>
   have q1:0≤ac5 l a:=(aS5 l a).mpr ⟨(h a List.mem_cons_self).1,fun x hx=>(h x (List.mem_cons_of_mem _ hx)).1⟩
   have q2:af4 l a < n:=by
    obtain ⟨z | z,_⟩:=aj3 l a
    · rw [z]; exact (h a List.mem_cons_self).2
    · exact (h _ (List.mem_cons_of_mem _ z)).2
   have q3:¬ ac5 l a < 0:=by omega
   have q4:¬ n≤af4 l a:=by omega
   simp [q3,q4]
theorem in1 {a n:Int} (ha:0≤a∧a < n):∀ x∈[a],0≤x∧x < n:=fun x hx=>by rw [List.mem_singleton.mp hx]; exact ha
theorem at1 {α:Type} (a b:α) (t:List α):atI (a :: b :: t) 1=some b:=by rw [aP6 _ (by omega)]; rfl
structure PathOk (sz:Int) (r:List Int):Prop where
 ne:r≠[]
 last:r.getLast?=some 0
 nd:r.Nodup
 all:∀ x∈r,0≤x∧x < sz
theorem PathOk.len {sz:Int} {r:List Int} (p:PathOk sz r):(r.length:Int)≤sz:=by
 have:=ac7 sz.toNat r p.nd fun x hx=>by have:=p.all x hx; omega
 obtain ⟨x,hx⟩:=List.exists_mem_of_ne_nil r p.ne
 have:=p.all x hx
 omega
theorem RoadOk.path {sz:Int} {r:List Int} (h:RoadOk sz r):PathOk sz r:=⟨fun z=>by have:=h.two; rw [z] at this; simp at this,h.last,h.nd,h.all⟩
theorem aq5 (told:List (Option (List Int))) (n:Int) (h0:0 < n) (ht:∀ r,some r∈told→PathOk n r):(C_h9 told n).res= .ok ():=by
 obtain ⟨s',e,x,rfl⟩:=aD7 (u:=fun a s=>{ s with v14q:=some a }) (c:=ai4) (fun s:S_h9=>∃ x,s=⟨told,n,x⟩) told ⟨told,n,none⟩ ⟨none,rfl⟩ (by
  rintro o s ho ⟨x,rfl⟩
  cases o with
  | none=>exact ⟨_,.inl (by simp [ai4]; rfl),_,rfl⟩
  | some r =>
    have:=au1 r n (ht r ho).all h0
    exact ⟨_,.inl (by simp [ai4,ai3,this]; rfl),_,rfl⟩)
 unfold C_h9 bg5 aN6
 simp [e]
noncomputable def as0 (T:List (Option (List Int))) (h:Int):Option (List Int):=T.getD h.toNat none
theorem at_T {T:List (Option (List Int))} {b:Int} (h0:0≤b) (h1:b < T.length):atI T b=some (as0 T b):=by
 rw [aP6 T h0,List.getElem?_eq_getElem (by omega)]
 unfold as0
 rw [List.getD_eq_getElem?_getD,List.getElem?_eq_getElem (by omega)]
 rfl
structure TableOk (sz:Int) (T:List (Option (List Int))):Prop where
 len:(T.length:Int)=sz
 all:∀ r,some r∈T→PathOk sz r
theorem path0 {sz:Int} (h:0 < sz):PathOk sz [0]:=⟨by simp,rfl,by simp,fun x hx=>by rw [List.mem_singleton.mp hx]; omega⟩
theorem TableOk.set {sz:Int} {T:List (Option (List Int))} (h:TableOk sz T) (j:Nat) (o:Option (List Int)) (ho:∀ r,o=some r→PathOk sz r):TableOk sz (T.set j o):=⟨by rw [List.length_set]; exact h.len,fun r hr=>by
 rcases List.mem_or_eq_of_mem_set hr with z | z
 · exact h.all r z
 · exact ho r z.symm⟩
theorem aQ8 (x:Int):(C_g9 x).res= .ok true:=by
 unfold C_g9 bg6 aN7
 simp
structure TabW (n:Int) (T:List (Option (List Int))):Prop where
 len:(T.length:Int)=n
 path:∀ r,some r∈T→PathOk n r
 two:∀ (i:Nat) r,0 < i→T[i]?=some (some r)→2≤r.length
theorem TabW.next {n x:Int} {T:List (Option (List Int))} {r:List Int} (h:TabW n T) (h0:0≤x) (h1:x < n) (hx:x≠0) (e:as0 T x=some r):∃ a b t,r=a :: b :: t∧0≤b∧b < n:=by
 have hl:x.toNat < T.length:=by have:=h.len; omega
 have e2:T[x.toNat]?=some (some r):=by
  unfold as0 at e
  rw [List.getD_eq_getElem?_getD,List.getElem?_eq_getElem hl] at e
  rw [List.getElem?_eq_getElem hl]
  exact congrArg some e
 have h2:=h.two x.toNat r (by omega) e2
 have hp:=h.path r (List.mem_of_getElem? e2)
 match r,h2,hp with
 | a :: b :: t,_,hp=>exact ⟨a,b,t,rfl,hp.all b (by simp)⟩
noncomputable def wk (T:List (Option (List Int))):Nat→List Int→Int→Str×List Int
 | 0,gone,_=>("comes",gone)
 | k + 1,gone,x=>if x=0 then ("comes",gone) else match as0 T x with
   | none=>("stops",gone)
   | some r=>match r with
     | _ :: y :: _=>if y∈gone then ("rings",gone) else wk T k (gone ++ [y]) y
     | _=>("comes",gone)
theorem af6 (g:List Int) (x:Int):atI (g ++ [x]) (-1)=some x:=L2.aE0 g x
theorem aL0 {n x b:Int} {g:List Int} (nd:(g ++ [x]).Nodup) (al:∀ y∈g ++ [x],0≤y∧y < n) (hb:b∉g ++ [x]) (h0:0≤b) (h1:b < n):(g ++ [x] ++ [b]).Nodup∧∀ y∈g ++ [x] ++ [b],0≤y∧y < n :=
 ⟨aF0 nd hb,fun y hy=>by
  rcases List.mem_append.mp hy with z | z
  · exact al y z
  · rw [List.mem_singleton.mp z]; exact ⟨h0,h1⟩⟩
noncomputable abbrev tW:S_j9→OutC S_j9 Bool:=upC (bnC (eqC true) (bnC ixC (vC fun p=>p.v6q) (unC negC (kC (1:Int)))) (kC (0:Int)))
theorem aG0 {n:Int} {T:List (Option (List Int))} (hT:TabW n T) (hn:n≤1000) (h:Int):∀ (k:Nat) (g:List Int) (x:Int) (o:Option (Option (List Int))) (F:Nat),(g ++ [x]).Nodup→(∀ y∈g ++ [x],0≤y∧y < n)→n.toNat + 1≤k + (g ++ [x]).length→k < F →
 ∃ s',seqC (whC tW af2 F) as2 ⟨T,h,some (g ++ [x]),o⟩= .rt (wk T k (g ++ [x]) x) s':=by
 intro k
 induction k with
 | zero =>
   intro g x o F nd al hl hF
   have:=ac7 n.toNat _ nd fun y hy=>by have:=al y hy; omega
   omega
 | succ k ih =>
   intro g x o F nd al hl hF
   obtain ⟨F,rfl⟩:∃ F',F=F' + 1:=⟨F - 1,by omega⟩
   have hxr:=al x (by simp)
   have hlen:=ac7 n.toNat _ nd fun y hy=>by have:=al y hy; omega
   unfold wk
   by_cases hx:x=0
   · subst hx
     have e:whC tW af2 (F + 1) ⟨T,h,some (g ++ [0]),o⟩= .nx ⟨T,h,some (g ++ [0]),o⟩:=by
      unfold whC
      simp [tW,af6]
     refine ⟨⟨T,h,none,o⟩,?_⟩
     simp [e,as2]
   · have et:tW ⟨T,h,some (g ++ [x]),o⟩= .ok true ⟨T,h,some (g ++ [x]),o⟩:=by simp [tW,af6,hx]
     have ea:an2 ⟨T,h,some (g ++ [x]),o⟩= .nx ⟨T,h,some (g ++ [x]),some (as0 T x)⟩:=by
      simp [an2,af6,at_T hxr.1 (show x < T.length by have:=hT.len; omega)]
     rw [if_neg hx]
     cases en:as0 T x with
     | none =>
       refine ⟨⟨T,h,none,some none⟩,?_⟩
       have eb:af2 ⟨T,h,some (g ++ [x]),o⟩= .rt ("stops",g ++ [x]) ⟨T,h,none,some none⟩:=by
        unfold af2 seqC
        rw [ea,en]
        simp [ai2,ai1]
       unfold seqC whC
       rw [et]
       dsimp only
       rw [eb]
     | some r =>
       obtain ⟨a,b,t,rfl,b0,b1⟩:=hT.next hxr.1 hxr.2 hx en
       dsimp only
       by_cases hb:b∈g ++ [x]
       · rw [if_pos hb]
         refine ⟨⟨T,h,none,some (some (a :: b :: t))⟩,?_⟩
         have eb:af2 ⟨T,h,some (g ++ [x]),o⟩= .rt ("rings",g ++ [x]) ⟨T,h,none,some (some (a :: b :: t))⟩:=by
          unfold af2 seqC
          rw [ea,en]
          simp only [ai2,an1,ai0]
          have hb':b∈g∨b=x:=by simpa using hb
          simp [at1,hb']
         unfold seqC whC
         rw [et]
         dsimp only
         rw [eb]
       · rw [if_neg hb]
         obtain ⟨nd2,al2⟩:=aL0 nd al hb b0 b1
         obtain ⟨s',e'⟩:=ih (g ++ [x]) b (some (some (a :: b :: t))) F nd2 al2 (by rw [List.length_append (as:=g ++ [x]),List.length_singleton]; omega) (by omega)
         refine ⟨s',?_⟩
         have hz:appC (g ++ [x]) b=some ((),g ++ [x] ++ [b]):=ay6 (by unfold ab4; omega)
         have hb':¬ (b∈g∨b=x):=fun z=>hb (by rcases z with z | z; exact List.mem_append_left _ z; simp [z])
         have eb:af2 ⟨T,h,some (g ++ [x]),o⟩= .nx ⟨T,h,some (g ++ [x] ++ [b]),some (some (a :: b :: t))⟩:=by
          unfold af2 seqC
          rw [ea,en]
          simp only [ai2,an1,ax1]
          simp [at1,hb',hz,-List.append_assoc]
         rw [← e']
         unfold seqC
         rw [whC,et]
         dsimp only
         rw [eb]
theorem sp_j9 {n h:Int} {T:List (Option (List Int))} (hT:TabW n T) (hn:n≤1000) (h0:0≤h) (h1:h < n):(C_j9 T h).res= .ok (wk T n.toNat [h] h):=by
 have e1:=au1 [h] n (in1 ⟨h0,h1⟩) (by omega)
 have e2:=aq5 T n (by omega) hT.path
 obtain ⟨s',e⟩:=aG0 hT hn h n.toNat [] h none 100000 (by simp) (fun y hy=>by simp at hy; omega) (by simp) (by omega)
 unfold C_j9 aU2
 have c1:an3 ⟨T,h,none,none⟩= .nx ⟨T,h,none,none⟩:=by simp [an3,hT.len,e1,ab4]
 have c2:aA9 ⟨T,h,none,none⟩= .nx ⟨T,h,none,none⟩:=by simp [aA9,hT.len,e2]
 have c3:aA8 ⟨T,h,none,none⟩= .nx ⟨T,h,some [h],none⟩:=by simp [aA8,ab4]
 have c4:seqC aN5 as2 ⟨T,h,some [h],none⟩=_:=e
 have nxs:∀ {a b:S_j9→FlC S_j9 (Str×List Int)} {s s':S_j9},a s= .nx s'→seqC a b s=b s':=fun h=>by unfold seqC; rw [h]
 rw [nxs c1,nxs c2,nxs c3,c4]
 rfl
theorem aI1 {n h:Int} {T:List (Option (List Int))} (hT:TabW n T) (hh:h < 0∨n≤h):(C_j9 T h).res= .exc 11:=by
 have e1:(C_i9 [h] n).res= .exc 11:=by
  unfold C_i9 aU3 aB0 an4
  rcases hh with q | q
  · simp [ac5,q,aD0]
  · by_cases z:h < 0 <;> simp [ac5,af4,q,z,aD0]
 unfold C_j9 aU2
 have c1:an3 ⟨T,h,none,none⟩= .exc 11 ⟨T,h,none,none⟩:=by simp [an3,hT.len,e1,ab4]
 unfold seqC
 rw [c1]
 rfl
theorem ao6 {n h:Int} {T:List (Option (List Int))} (hT:TabW n T) (hh:h < 0∨n≤h):(C_c9 T h).res= .ok true:=by
 have e:=aI1 hT hh
 have c2:aC0 ⟨T,h,some false,none⟩= .nx ⟨T,h,some true,none⟩:=by
  unfold aC0 tryC
  have:am5 (β:=Bool) (upC (pc2C C_j9 (pC fun p=>p.v17q) (pC fun p=>p.v8q))) (⟨T,h,some false,none⟩:S_c9)= .exc 11 ⟨T,h,some false,none⟩:=by simp [e]
  rw [this]
  rfl
 unfold C_c9 bh0
 simp [aO6,c2,aO5]
theorem bb8 (f:List Int):(C_e9 f f).res= .ok true:=by
 obtain ⟨s',e,x,rfl⟩:=aD7 (u:=fun a s=>{ s with v8q:=some a }) (c:=an7) (fun s:S_e9=>∃ x,s=⟨f,f,x⟩) f ⟨f,f,none⟩ ⟨none,rfl⟩ (by
  rintro o s ho ⟨x,rfl⟩
  exact ⟨_,.inl (by simp [an7,aQ8]; rfl),_,rfl⟩)
 unfold C_e9 bg8 aO2 aO1 aO0 aN9
 simp [e]
theorem aQ9 (ns:List Int) (sz:Int) (h0:0 < sz) (h1:sz≤60):∃ T,(C_f9 ns sz).res= .ok T∧TabW sz T:=by
 obtain ⟨s',e,T,hh,c,rfl,hl,hp,h2⟩:=aT4 (u:=fun a s=>{ s with v8q:=some a }) (c:=as9) (fun p (s:S_f9)=>∃ T hh c,s=⟨ns,sz,some T,hh,c⟩∧T.length=p.length + 1∧(∀ r,some r∈T→PathOk sz r)∧∀ (i:Nat) r,0 < i→T[i]?=some (some r)→2≤r.length)
  (rngI 1 sz) ⟨ns,sz,some [some [0]],none,none⟩ ⟨_,_,_,rfl,rfl,fun r hr=>by rw [Option.some.inj (List.mem_singleton.mp hr)]; exact path0 h0,fun i r hi q=>by
    obtain ⟨i,rfl⟩:∃ j,i=j + 1:=⟨i - 1,by omega⟩
    simp at q⟩ (by
    rintro p x r s he ⟨T,hh,c,rfl,hl,hp,h2⟩
    obtain ⟨xe,x0,x1⟩:=bc8 he
    have pl:p.length < 60:=by
     have:=ah8 1 sz
     rw [he,List.length_append,List.length_cons] at this
     omega
    have hz:T.length < ab4:=by unfold ab4; omega
    have c9:0≤2 + x % 9:=by have:=Int.emod_nonneg x (show (9:Int)≠0 by decide); omega
    generalize hcv:ae1 ns (2 + x % 9) + x * ae1 ns 11=cv
    have xm:-18446744073709551616 < x∧x < 18446744073709551616:=by omega
    have ec:an6 ⟨ns,sz,some T,some x,c⟩= .nx ⟨ns,sz,some T,some x,some cv⟩:=by
     simp [an6,az5 ns _ c9,az5 ns 11 (by decide),xm,hcv]
    have key:∀ o:Option (List Int),(∀ r,o=some r→PathOk sz r∧2≤r.length)→((T ++ [o]).length=(p ++ [x]).length + 1∧(∀ r,some r∈T ++ [o]→PathOk sz r)∧∀ (i:Nat) r,0 < i→(T ++ [o])[i]?=some (some r)→2≤r.length):=fun o ho=>by
     refine ⟨by simp [hl],fun r hr=>?_,fun i r hi q=>?_⟩
     · rcases List.mem_append.mp hr with z | z
       · exact hp r z
       · exact (ho r (List.mem_singleton.mp z).symm).1
     · rcases Nat.lt_or_ge i T.length with z | z
       · rw [List.getElem?_append_left z] at q; exact h2 i r hi q
       · rw [List.getElem?_append_right z] at q
         cases hd:i - T.length with
         | zero=>rw [hd] at q; exact (ho r (Option.some.inj q)).2
         | succ j=>rw [hd] at q; simp at q
    by_cases q:cv % 4=1
    · refine ⟨_,.inl ?_,T ++ [none],some x,some cv,rfl,key none fun _ z=>(nomatch z)⟩
      unfold as9 seqC
      rw [ec]
      simp [an5,ai5,q,ay6 hz]
    · obtain ⟨rd,er,ro,⟨t,ht⟩,_⟩:=bb9 (cv / 4) x sz x0 x1 (by omega)
      refine ⟨_,.inl ?_,T ++ [some rd],some x,some cv,rfl,key (some rd) fun r z=>by cases z; exact ⟨ro.path,ro.two⟩⟩
      unfold as9 seqC
      rw [ec]
      simp [an5,ai6,q,er,ay6 hz])
 refine ⟨T,?_,?_,hp,h2⟩
 · unfold C_f9 bg7
   have c1:aB2 ⟨ns,sz,none,none,none⟩= .nx ⟨ns,sz,some [some [0]],none,none⟩:=by simp [aB2,ab4]
   have c2:aB1 ⟨ns,sz,some [some [0]],none,none⟩= .nx ⟨ns,sz,some T,hh,c⟩:=by
    unfold aB1
    simp [az9 (lo:=1) (hi:=sz) (by omega) (by omega) (by omega) (by omega),e]
   simp only [seqC,c1,c2]
   simp [aN8]
 · have:=ah8 1 sz; omega
noncomputable abbrev tL:S_a9→OutC S_a9 Bool:=upC (andC (bnC (eqC true) (bnC ixC (vC fun p=>p.v6q) (unC negC (kC (1:Int)))) (kC (0:Int))) (bnC (eqC false) (vC fun p=>p.v19q) (kC ("comes" : Str))))
theorem ne1:(("stops" : Str) = "comes")=False:=by simp; decide
theorem ne2:(("rings" : Str) = "comes")=False:=by simp; decide
theorem aS7 {n:Int} {T Hd:List (Option (List Int))} (hT:TabW n T) (hn:n≤1000) (ns:List Int) (h:Int) (f:Str×List Int):∀ (k:Nat) (g:List Int) (x:Int) (o:Option (Option (List Int))) (F:Nat),(g ++ [x]).Nodup→(∀ y∈g ++ [x],0≤y∧y < n)→n.toNat + 1≤k + (g ++ [x]).length→k + 1 < F →
 ∃ o',whC tL af8 F ⟨ns,some n,some T,some h,some Hd,some f,some (g ++ [x]),some "comes",o⟩= .nx ⟨ns,some n,some T,some h,some Hd,some f,some (wk T k (g ++ [x]) x).2,some (wk T k (g ++ [x]) x).1,o'⟩:=by
 intro k
 induction k with
 | zero =>
   intro g x o F nd al hl hF
   have:=ac7 n.toNat _ nd fun y hy=>by have:=al y hy; omega
   omega
 | succ k ih =>
   intro g x o F nd al hl hF
   obtain ⟨F,rfl⟩:∃ F',F=F' + 1:=⟨F - 1,by omega⟩
   have hxr:=al x (by simp)
   have hlen:=ac7 n.toNat _ nd fun y hy=>by have:=al y hy; omega
   unfold wk
   by_cases hx:x=0
   · subst hx
     refine ⟨o,?_⟩
     unfold whC
     simp [tL,af6]
   · have et:tL ⟨ns,some n,some T,some h,some Hd,some f,some (g ++ [x]),some "comes",o⟩= .ok true ⟨ns,some n,some T,some h,some Hd,some f,some (g ++ [x]),some "comes",o⟩:=by simp [tL,af6,hx]
     have ea:ao0 ⟨ns,some n,some T,some h,some Hd,some f,some (g ++ [x]),some "comes",o⟩= .nx ⟨ns,some n,some T,some h,some Hd,some f,some (g ++ [x]),some "comes",some (as0 T x)⟩:=by
      simp [ao0,af6,at_T hxr.1 (show x < T.length by have:=hT.len; omega)]
     obtain ⟨F,rfl⟩:∃ F',F=F' + 1:=⟨F - 1,by omega⟩
     rw [if_neg hx]
     cases en:as0 T x with
     | none =>
       refine ⟨some none,?_⟩
       have eb:af8 ⟨ns,some n,some T,some h,some Hd,some f,some (g ++ [x]),some "comes",o⟩= .nx ⟨ns,some n,some T,some h,some Hd,some f,some (g ++ [x]),some "stops",some none⟩:=by
        unfold af8 seqC
        rw [ea,en]
        simp [ai8,ai7]
       rw [whC,et]
       dsimp only
       rw [eb]
       dsimp only
       rw [whC]
       simp [tL,af6,hx,ne1]
     | some r =>
       obtain ⟨a,b,t,rfl,b0,b1⟩:=hT.next hxr.1 hxr.2 hx en
       dsimp only
       by_cases hb:b∈g ++ [x]
       · rw [if_pos hb]
         refine ⟨some (some (a :: b :: t)),?_⟩
         have eb:af8 ⟨ns,some n,some T,some h,some Hd,some f,some (g ++ [x]),some "comes",o⟩= .nx ⟨ns,some n,some T,some h,some Hd,some f,some (g ++ [x]),some "rings",some (some (a :: b :: t))⟩:=by
          unfold af8 seqC
          rw [ea,en]
          have hb':b∈g∨b=x:=by simpa using hb
          simp [ai8,af1,ae7,at1,hb']
         rw [whC,et]
         dsimp only
         rw [eb]
         dsimp only
         rw [whC]
         simp [tL,af6,hx,ne2]
       · rw [if_neg hb]
         obtain ⟨nd2,al2⟩:=aL0 nd al hb b0 b1
         obtain ⟨o',e'⟩:=ih (g ++ [x]) b (some (some (a :: b :: t))) (F + 1) nd2 al2 (by rw [List.length_append (as:=g ++ [x]),List.length_singleton]; omega) (by omega)
         refine ⟨o',?_⟩
         have hz:appC (g ++ [x]) b=some ((),g ++ [x] ++ [b]):=ay6 (by unfold ab4; omega)
         have hb':¬ (b∈g∨b=x):=fun z=>hb (by rcases z with z | z; exact List.mem_append_left _ z; simp [z])
         have eb:af8 ⟨ns,some n,some T,some h,some Hd,some f,some (g ++ [x]),some "comes",o⟩= .nx ⟨ns,some n,some T,some h,some Hd,some f,some (g ++ [x] ++ [b]),some "comes",some (some (a :: b :: t))⟩:=by
          unfold af8 seqC
          rw [ea,en]
          simp [ai8,af1,ae8,at1,hb',hz,-List.append_assoc]
         rw [← e',whC,et]
         dsimp only
         rw [eb]
theorem aF5 (ns:List Int):∃ s,C_a9 ns= .ok true s:=by
 have cell:∀ k:Int,0≤k→(C_b9 ns k).res= .ok (ae1 ns k):=fun k hk=>az5 ns k hk
 have k0:=cell 0 (by decide)
 have k1:=cell 1 (by decide)
 have m8:=Int.emod_nonneg (ae1 ns 0) (show (8:Int)≠0 by decide)
 have m8':=Int.emod_lt_of_pos (ae1 ns 0) (show (0:Int) < 8 by decide)
 obtain ⟨sz,e12,z0,z1⟩:∃ sz:Int,seqC as8 as4 ⟨ns,none,none,none,none,none,none,none,none⟩= .nx ⟨ns,some sz,none,none,none,none,none,none,none⟩∧0 < sz∧sz≤60:=by
  by_cases q:ae1 ns 0 / 8 % 4=1
  · exact ⟨60,by simp [as8,as4,ao1,k0,q],by omega,by omega⟩
  · exact ⟨1 + ae1 ns 0 % 8,by simp [as8,as4,k0,q],by omega,by omega⟩
 obtain ⟨T,eT,hT⟩:=aQ9 ns sz z0 z1
 have h0:=Int.emod_nonneg (ae1 ns 1) (show sz≠0 by omega)
 have h1:=Int.emod_lt_of_pos (ae1 ns 1) z0
 have n0:=Int.emod_nonneg (ae1 ns 1) (show (9:Int)≠0 by decide)
 have e3:aC6 ⟨ns,some sz,none,none,none,none,none,none,none⟩= .nx ⟨ns,some sz,some T,none,none,none,none,none,none⟩:=by simp [aC6,eT]
 have e4:aC5 ⟨ns,some sz,some T,none,none,none,none,none,none⟩= .nx ⟨ns,some sz,some T,some (ae1 ns 1 % sz),none,none,none,none,none⟩:=by simp [aC5,k1,z0]
 generalize ae1 ns 1 % sz=h at h0 h1 e4
 have lT:T.length < ab4:=by have:=hT.len; unfold ab4; omega
 have hc:ax9 (vC fun p=>p.v17q) (fun _=> .ok true) (iteC (unC (isnC false nonO) (pC fun p=>p.1)) (unC (aK8:Unit→Res (Option (List Int))) (kC ())) (unC aI2 (unC idC (unC optC (pC fun p=>p.1))))) (⟨ns,some sz,some T,some h,none,none,none,none,none⟩:S_a9)= .ok T:=by
  have:=aU1 (src:=vC fun p=>p.v17q) (te:=iteC (unC (isnC false nonO) (pC fun p=>p.1)) (unC (aK8:Unit→Res (Option (List Int))) (kC ())) (unC aI2 (unC idC (unC optC (pC fun p=>p.1))))) (s:=(⟨ns,some sz,some T,some h,none,none,none,none,none⟩:S_a9)) (l:=T) (fun o=>o) (by simp) lT (fun o _=>by cases o <;> simp)
  rw [this,List.map_id']
 have e5:aC4 ⟨ns,some sz,some T,some h,none,none,none,none,none⟩= .nx ⟨ns,some sz,some T,some h,some T,none,none,none,none⟩:=by
  unfold aC4 setC upC
  rw [hc]
  rfl
 have ew:=sp_j9 hT (by omega) h0 h1
 have e6:aC3 ⟨ns,some sz,some T,some h,some T,none,none,none,none⟩= .nx ⟨ns,some sz,some T,some h,some T,some (wk T sz.toNat [h] h),none,none,none⟩:=by simp [aC3,ew]
 have e7:aC2 ⟨ns,some sz,some T,some h,some T,some (wk T sz.toNat [h] h),none,none,none⟩= .nx ⟨ns,some sz,some T,some h,some T,some (wk T sz.toNat [h] h),some [h],none,none⟩:=by simp [aC2,ab4]
 have e8:aC1 ⟨ns,some sz,some T,some h,some T,some (wk T sz.toNat [h] h),some [h],none,none⟩= .nx ⟨ns,some sz,some T,some h,some T,some (wk T sz.toNat [h] h),some [h],some "comes",none⟩:=by simp [aC1]
 obtain ⟨o,e9⟩:=aS7 hT (by omega) (Hd:=T) ns h (wk T sz.toNat [h] h) sz.toNat [] h none 100000 (by simp) (fun y hy=>by simp at hy; omega) (by simp) (by omega)
 replace e9:aO9 ⟨ns,some sz,some T,some h,some T,some (wk T sz.toNat [h] h),some [h],some "comes",none⟩= .nx ⟨ns,some sz,some T,some h,some T,some (wk T sz.toNat [h] h),some (wk T sz.toNat [h] h).2,some (wk T sz.toNat [h] h).1,o⟩:=e9
 generalize wk T sz.toNat [h] h=fw at e6 e7 e8 e9
 have e10:as7 ⟨ns,some sz,some T,some h,some T,some fw,some fw.2,some fw.1,o⟩= .nx ⟨ns,some sz,some T,some h,some T,some fw,some fw.2,some fw.1,o⟩:=by simp [as7]
 have e11:as6 ⟨ns,some sz,some T,some h,some T,some fw,some fw.2,some fw.1,o⟩= .nx ⟨ns,some sz,some T,some h,some T,some fw,some fw.2,some fw.1,o⟩:=by simp [as6,bb8]
 have b1:=ao6 (h:=-1) hT (.inl (by decide))
 have b2:=ao6 (h:=sz + ae1 ns 1 % 9) hT (.inr (by omega))
 have e12':as5 ⟨ns,some sz,some T,some h,some T,some fw,some fw.2,some fw.1,o⟩= .rt true ⟨ns,some sz,some T,some h,some T,some fw,some fw.2,some fw.1,o⟩:=by simp [as5,k1,b1,b2]
 refine ⟨⟨ns,some sz,some T,some h,some T,some fw,some fw.2,some fw.1,o⟩,?_⟩
 have nxs:∀ {a b:S_a9→FlC S_a9 Bool} {s s':S_a9},a s= .nx s'→seqC a b s=b s':=fun h=>by unfold seqC; rw [h]
 have assoc:∀ {a b c:S_a9→FlC S_a9 Bool} {s s':S_a9},seqC a b s= .nx s'→seqC a (seqC b c) s=c s':=fun {a b c s s'} h=>by
  unfold seqC at h ⊢
  cases q:a s with
  | nx s1=>rw [q] at h; dsimp only at h ⊢; rw [h]
  | _=>rw [q] at h; cases h
 unfold C_a9 bh2
 rw [assoc e12,nxs e3,nxs e4,nxs e5,nxs e6,nxs e7,nxs e8,nxs e9,nxs e10,nxs e11,e12']
 rfl
theorem aS6 (ns:List Int) (hl:ns.length≤63):∃ ρ,m_a9 [.scr (ns.map D.int)]= .ok (.bl true) ρ:=by
 obtain ⟨s,e⟩:=aF5 ns
 have:=cf_a9 ns
 rw [e] at this
 exact ⟨_,this⟩
end K06
namespace K06
open PySem L2
theorem funO {K:PySem.W.Frag} {x q:Str} {st s2:Stmt} {f:Addr} (h:HD.fnO K f q=HD.fnE x q st) (e:st=s2):∃ d,Fun K x q s2 f d:=by
 subst e
 have hk:=HD.fn_keep h
 obtain ⟨oc,od,kV,doc,pm,an,cdv,ct,osl,l,c⟩:=HD.fn_of h
 have e1:HD.dA st=an0 st:=by cases st <;> rfl
 have e2:HD.dB st=af0 st:=by cases st <;> rfl
 have e3:HD.dS st=aa6 st:=by cases st <;> rfl
 rw [e1,e2,e3] at l
 exact ⟨_,bp0 l c hk⟩
noncomputable def tns:Tns:=[]
theorem bq9 {w:World} {K:PySem.W.Frag} {h:Heap} {mg:Str→Option Value} {T:Tbs} {fa:Addr} (X:K.In h) (G:h.Ns mainGlobals mg) (hfa:mg "law" = some (.ref fa)) (TO:TabsOf mg h tns T) (y:HD.obK nsL msL fsL csL dsL esL ksL K=xpL PySem.Challenge.pw_heraldways_k06_a_walk):∃ fd:FuncData,(∀ (s:Shared) (v:Value),BindsTo s fd ⟨[v],[]⟩ [("script",v)])∧∀ base:Heap,K.In base→base.Ns mainGlobals mg→(∀ c P,PySem.W.CodeHd h c P→PySem.W.CodeHd base c P)→FnOk PySem.Challenge.rw_heraldways_k06_a_walk.prog w K mg base CX0 5 fa fd ["script"] (Mi.spT K T):=by
 have y1:=congrArg (·.1) y
 have y2:=congrArg (·.2.1) y
 have y3:=congrArg (·.2.2.1) y
 have y4:=congrArg (·.2.2.2.1) y
 have y5:=congrArg (·.2.2.2.2.1) y
 have y6:=congrArg (·.2.2.2.2.2) y
 clear y
 have e:=hfa.symm.trans (PySem.W.mg_of X G (HD.nth y1 9 rfl rfl))
 cases e
 obtain ⟨d_b9,F_b9⟩:=funO (s2:=s_b9) (HD.nth y4 0 rfl rfl) rfl
 obtain ⟨d_d9,F_d9⟩:=funO (s2:=s_d9) (HD.nth y4 1 rfl rfl) rfl
 obtain ⟨d_g9,F_g9⟩:=funO (s2:=s_g9) (HD.nth y4 2 rfl rfl) rfl
 obtain ⟨d_i9,F_i9⟩:=funO (s2:=s_i9) (HD.nth y4 3 rfl rfl) rfl
 obtain ⟨d_e9,F_e9⟩:=funO (s2:=s_e9) (HD.nth y4 4 rfl rfl) rfl
 obtain ⟨d_f9,F_f9⟩:=funO (s2:=s_f9) (HD.nth y4 5 rfl rfl) rfl
 obtain ⟨d_h9,F_h9⟩:=funO (s2:=s_h9) (HD.nth y4 6 rfl rfl) rfl
 obtain ⟨d_j9,F_j9⟩:=funO (s2:=s_j9) (HD.nth y4 7 rfl rfl) rfl
 obtain ⟨d_c9,F_c9⟩:=funO (s2:=s_c9) (HD.nth y4 8 rfl rfl) rfl
 obtain ⟨d_a9,F_a9⟩:=funO (s2:=s_a9) (HD.nth y4 9 rfl rfl) rfl
 have b_b9:=F_b9.binds (ps:=["script", "k"]) fun _ _ _ _ _ _=>L2.aw0 fun _ _=>rfl
 have b_d9:=F_d9.binds (ps:=["cell", "house", "size"]) fun _ _ _ _ _ _=>L2.lenV3 fun _ _ _=>rfl
 have b_g9:=F_g9.binds (ps:=["found"]) fun _ _ _ _ _ _=>L2.bf2 fun _=>rfl
 have b_i9:=F_i9.binds (ps:=["houses", "count"]) fun _ _ _ _ _ _=>L2.aw0 fun _ _=>rfl
 have b_e9:=F_e9.binds (ps:=["found", "due"]) fun _ _ _ _ _ _=>L2.aw0 fun _ _=>rfl
 have b_f9:=F_f9.binds (ps:=["script", "size"]) fun _ _ _ _ _ _=>L2.aw0 fun _ _=>rfl
 have b_h9:=F_h9.binds (ps:=["told", "count"]) fun _ _ _ _ _ _=>L2.aw0 fun _ _=>rfl
 have b_j9:=F_j9.binds (ps:=["table", "house"]) fun _ _ _ _ _ _=>L2.aw0 fun _ _=>rfl
 have b_c9:=F_c9.binds (ps:=["table", "house"]) fun _ _ _ _ _ _=>L2.aw0 fun _ _=>rfl
 have b_a9:=F_a9.binds (ps:=["script"]) fun _ _ _ _ _ _=>L2.bf2 fun _=>rfl
 have hb:∀ (s:Shared) (v:Value),BindsTo s d_a9 ⟨[v],[]⟩ [("script",v)]:=by
  obtain ⟨oc,od,kV,doc,pm,an,cdv,ct,osl,rfl,lk,hcd⟩:=F_a9.ex
  exact fun s v=> .of_eq rfl
 refine ⟨d_a9,hb,fun base _ _ tr=>?_⟩
 have T0:Txt K mg ⟨24,37,67,d_b9,86,d_d9,74,d_g9,46,d_i9,81,d_e9,93,d_f9,53,d_h9,60,d_j9,100,d_c9,105,d_a9⟩ base:={
  mgC_GuildError:=PySem.W.mg_of X G (HD.nth y1 21 rfl rfl)
  ek_GuildError:=(Prod.mk.inj (HD.nth y5 0 rfl rfl)).1
  mgC_NoHouse:=PySem.W.mg_of X G (HD.nth y1 22 rfl rfl)
  ek_NoHouse:=(Prod.mk.inj (HD.nth y5 1 rfl rfl)).1
  sb_NoHouse_NoHouse:=by rw [show mroK K 37=_ from (Prod.mk.inj (HD.nth y5 1 rfl rfl)).2]; rfl
  kt_NoHouse_GuildError:=HD.nth y6 0 rfl rfl
  F_b9:=F_b9
  b_b9:=b_b9
  m_b9:=PySem.W.mg_of X G (HD.nth y1 0 rfl rfl)
  kp_b9:=F_b9.kp
  F_d9:=F_d9
  b_d9:=b_d9
  m_d9:=PySem.W.mg_of X G (HD.nth y1 1 rfl rfl)
  kp_d9:=F_d9.kp
  F_g9:=F_g9
  b_g9:=b_g9
  m_g9:=PySem.W.mg_of X G (HD.nth y1 2 rfl rfl)
  kp_g9:=F_g9.kp
  F_i9:=F_i9
  b_i9:=b_i9
  m_i9:=PySem.W.mg_of X G (HD.nth y1 3 rfl rfl)
  kp_i9:=F_i9.kp
  F_e9:=F_e9
  b_e9:=b_e9
  m_e9:=PySem.W.mg_of X G (HD.nth y1 4 rfl rfl)
  kp_e9:=F_e9.kp
  F_f9:=F_f9
  b_f9:=b_f9
  m_f9:=PySem.W.mg_of X G (HD.nth y1 5 rfl rfl)
  kp_f9:=F_f9.kp
  F_h9:=F_h9
  b_h9:=b_h9
  m_h9:=PySem.W.mg_of X G (HD.nth y1 6 rfl rfl)
  kp_h9:=F_h9.kp
  F_j9:=F_j9
  b_j9:=b_j9
  m_j9:=PySem.W.mg_of X G (HD.nth y1 7 rfl rfl)
  kp_j9:=F_j9.kp
  F_c9:=F_c9
  b_c9:=b_c9
  m_c9:=PySem.W.mg_of X G (HD.nth y1 8 rfl rfl)
  kp_c9:=F_c9.kp
  F_a9:=F_a9
  b_a9:=b_a9
  m_a9:=PySem.W.mg_of X G (HD.nth y1 9 rfl rfl)
  kp_a9:=F_a9.kp
  g_SEAT:=⟨_,PySem.W.mg_of X G (HD.nth y1 10 rfl rfl)⟩
  z_len:=PySem.W.mg_none_of X G (HD.nth y1 11 rfl rfl)
  z_range:=PySem.W.mg_none_of X G (HD.nth y1 12 rfl rfl)
  z_min:=PySem.W.mg_none_of X G (HD.nth y1 13 rfl rfl)
  z_max:=PySem.W.mg_none_of X G (HD.nth y1 14 rfl rfl)
  z_list:=PySem.W.mg_none_of X G (HD.nth y1 15 rfl rfl)
  z_tuple:=PySem.W.mg_none_of X G (HD.nth y1 16 rfl rfl)
  z_isinstance:=PySem.W.mg_none_of X G (HD.nth y1 17 rfl rfl)
  z_bool:=PySem.W.mg_none_of X G (HD.nth y1 18 rfl rfl)
  z_int:=PySem.W.mg_none_of X G (HD.nth y1 19 rfl rfl)
  z_str:=PySem.W.mg_none_of X G (HD.nth y1 20 rfl rfl)
 }
 refine (ok_a9 T0).calm.imp fun vs H Q E hs=>?_
 obtain ⟨a,xs,hv,hq,hl,ht,hk⟩:=hs
 refine Mi.bo0 aS6 hv hq hl (fun p hp=>?_) hk
 cases hp
theorem walk {K:PySem.W.Frag} {q:Program} {loose:List Str} {XP:(Str→Option Value)→Heap→Prop} {d:DefRec} (hdf:d.params.defaults=[]) (hnm:d.name = "law") (y:HD.obK nsL msL fsL csL dsL esL ksL K=xpL PySem.Challenge.pw_heraldways_k06_a_walk):PySem.W.WalkO q loose XP (fun _ h=>K.In h) PySem.Challenge.rw_heraldways_k06_a_walk.row.toRowW d [] (fun f vs=>PySem.call f vs) :=
 L2.aX8 (l:=PySem.Challenge.rw_heraldways_k06_a_walk) (K:=fun _=>K) (n:=63) (k:=5) (x := "script") (CX:=fun _=>CX0) (sp:=fun _ T=>Mi.spT K T) tns rfl (by decide) hdf ⟨rfl,by decide,by decide⟩ (fun _ _ Y=>Y) (fun _ h=>absurd rfl h) (fun _ h=>(nomatch h)) (by unfold Tns.ok tns; decide) (fun w mg fa h T X G hfa TO=>bq9 X G (hnm ▸ hfa) TO y) (fun w T H a ns hl hO hS=>⟨a,ns,rfl,Mi.bi9 hO hS,hl,Mi.tb_of hO,fun _=>rfl⟩) fun _ _ _ _ _ z=>z
end K06
open PySem PySem.W PyProof.Rows
set_option maxRecDepth 100000 in
set_option maxHeartbeats 0 in
theorem PySem.Challenge.cw_heraldways_k06_a_walk_holds : PySem.Challenge.rw_heraldways_k06_a_walk.Holds := by
 refine K06.hd0 fun said=>?_
 refine holds_openX (q:=K06.qP PySem.Challenge.pw_heraldways_k06_a_walk) (loose:=[]) (Xt:=fun s=>xlAt (K06.qP PySem.Challenge.pw_heraldways_k06_a_walk) [] s && recOk (RowW.records PySem.Challenge.rw_heraldways_k06_a_walk.row.toRowW) s) (XP:=XL (K06.qP PySem.Challenge.pw_heraldways_k06_a_walk) []) (Yf:=HD.ob 106 K06.nsL K06.msL K06.fsL K06.csL K06.dsL K06.esL K06.ksL) (Ya:=fun _=>K06.xpL PySem.Challenge.pw_heraldways_k06_a_walk) (N:=1632) (fun w=>HD.two (K06.left1 w) (K06.left2 w)) (fun s e=>xl_of s (Bool.and_eq_true_iff.mp e).1) XL.keeps (by rfl) (by rfl) (by rfl) (fun s e=>recFacts_of (Bool.and_eq_true_iff.mp e).2) (by rfl) said (by decide +kernel) ⟨rfl,rfl,rfl,rfl,rfl,by decide +kernel⟩ ?hw (HD.walkX fun K y=>K06.walk rfl rfl y)
 case hw=>w_witness2
