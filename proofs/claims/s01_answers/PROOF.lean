import PyProof.Rows.All
import Wide.All
import OpenK.AllK
import Wide.FinOn
import PyProof.EqAt
import PyProof.EqKinds
import PyProof.TupleCall
import KE.BitLaws
import Open.SpecLaws
import KE.OsHead
import KE.OsGo
import KE.KNestM
import KE.KLam
import KE.KSortKeySt
import VbfuaoSpec
import PySem.Challenge.RW_threebooks_s01_answers
set_option Elab.async false
set_option linter.all false
set_option maxRecDepth 100000
set_option maxHeartbeats 4000000
noncomputable section
section
open PySem PySem.W PyProof.Rows
set_option maxHeartbeats 0
noncomputable def TB.asL:List Addr:=[2,3,15,17,18,20,21,22,24,25,27,28,29,31,32,34,35,36,37,38,39,40,43,44,52,54,55,57,58,59,60,61,62,63,73,75,76,78,79,80,82,83,85,86,87,88,89,90,91,101,103,104,106,107,108,109,110,111,112,122,124,125,127,128,129,131,132,134,135,136,138,139,141,142,143,145,146,148,149,150,152,153,155,156,157,159,160,162,163,164,167,168,169,171,172,174,175,176,179,180,181,184,185,186,188,189,191,192,193,195,196,198,199,200,202,203,205,206,207,209,210,212,213,214,216,217,219,220,221,222,223,224,225,235,237,238,240,241,242,243,244,245,246,256,258,259,261,262,263,265,266,268,269,270,272,273,275,276,277,278,279,280,281,284,287,288,289,292,293,294,296,297,299,300,301,303,304,306,307,315,317,318,320,321,322,325,326,327,329,330,332,333,334,336,337,339,340,341,343,344,346,347,348,349,350,351,352,355,357,358,360,361,362,364,365,367,368,369,372,373,374,376,377,379,380,381,383,384,386,387,388,390,391,393,394,395,397,398,400,401,402,404,405,407,408,409,412,413,414,417,418,419,421,422,424,425,426,429,430,431,433,434,436,437,438,440,441,443,444,445,447,448,450,451,452,455,456,457,460,461,462,465,466,467,469,470,472,473,474,476,477,479,480,481,483,484,486,487,488,490,491,493,494,495,497,498,500,501,502,504,505,507,508,509,511,512,514,515,516,517,519,520,522,523,524,526,527,529,530,531,533,534,536,537,538,540,541,543,544]
noncomputable def TB.vw:Program:=view PySem.Challenge.pw_threebooks_s01_answers [0,1,2,3,4,5,6,7,9,10,11,12,14,15,16,17,18,19,20,21,22,23,25,26,27,28,29,30,31,32,33,34,36,37,38,39,40,41,42,43,44,45,47,48,49,50,51,52,53,54,55,56,57,58,59,60,62,63,64,65,66,67,68,69,70,71,72,73,74,75,76,77,78,79,80,81,82,83,84,85]
theorem TB.join {p q:Program} {loose:List Str} {Xt:Shared→Bool} {α : Type} {Yf:Shared→α} {Ya:World→α} {N:Nat} {w:World} {o:Option Shared} (ho:openEnds treeTable p w N=o)
  (E:o.map (fun s=>(seen ((recsOf q).map (·.name)) (ownsOf q) [] { s with gens:=#[] },s.heap.bltView))=some (expectedOf q,bltViewBooted))
  (Ca:o.map (fun s=>(s.heap.keysOk (looseW q loose) ((recsOf q).map (·.name)) ((litsOf q).map (·.1)) ((clssOf q (looseW q loose)).map (·.name))&&s.heap.accountedOkI (importedModules p.main.body)))=some true)
  (Cb:o.map (fun s=>(s.heap.isNs mainGlobals&&s.heap.isNs builtinsNs&&tablesOk q s.heap&&Xt s&&(if true then s.gens.size == 0 else !leftWithCleanup s.gens)))=some true)
  (C3:o.map (fun s=>tabsOk q s)=some true)
  (D:o.map (fun s=>(pinSeenD q (drecsOf q) s,plainSeenE q (looseW q loose) s,plainSeenD q loose s,wideSeen q s,clsSeenW q loose s))=some (pinGoodD (drecsOf q),plainGoodE q (looseW q loose),plainGoodD q loose,wideGood q,clsGoodW q loose))
  (B:o.map Yf=some (Ya w)) :
  (openEnds treeTable p w N).map (fun s=>(openSeen q loose (importedModules p.main.body) Xt true s,Yf s))=some (openGood q loose,Ya w):=by
  rw [ho]
  cases o with
  | none=>exact nomatch B
  | some s =>
    have E:=Prod.mk.inj (Option.some.inj E)
    have Ca:=Option.some.inj Ca
    have Cb:=Option.some.inj Cb
    have C2:(s.heap.keysOk (looseW q loose) ((recsOf q).map (·.name)) ((litsOf q).map (·.1)) ((clssOf q (looseW q loose)).map (·.name))&&s.heap.accountedOkI (importedModules p.main.body)&&s.heap.isNs mainGlobals&&s.heap.isNs builtinsNs&&tablesOk q s.heap&&Xt s&&(if true then s.gens.size == 0 else !leftWithCleanup s.gens))=true:=by
      simp only [Bool.and_eq_true] at Ca Cb ⊢
      exact ⟨⟨⟨⟨⟨Ca,Cb.1.1.1.1⟩,Cb.1.1.1.2⟩,Cb.1.1.2⟩,Cb.1.2⟩,Cb.2⟩
    have C3:=Option.some.inj C3
    have D:=Prod.mk.inj (Option.some.inj D)
    have D2:=Prod.mk.inj D.2
    have D3:=Prod.mk.inj D2.2
    have D4:=Prod.mk.inj D3.2
    have B:=Option.some.inj B
    refine congrArg some (Prod.ext (Prod.ext E.1 (Prod.ext E.2 (Prod.ext C2 (Prod.ext C3 (Prod.ext D.1 (Prod.ext D2.1 (Prod.ext D3.1 (Prod.ext D4.1 D4.2)))))))) B)
noncomputable def TB.lhsCa (w:World):=(openEnds treeTable PySem.Challenge.pw_threebooks_s01_answers w 7856).map (fun s=>(s.heap.keysOk (looseW TB.vw []) ((recsOf TB.vw).map (·.name)) ((litsOf TB.vw).map (·.1)) ((clssOf TB.vw (looseW TB.vw [])).map (·.name))&&s.heap.accountedOkI (importedModules PySem.Challenge.pw_threebooks_s01_answers.main.body)))
noncomputable def TB.rhsCa (w:World):=some true
lay_quick TB.lhsCa TB.rhsCa
theorem TB.lefCa (w:World):PySem.W.Fast.tw6350162313682010805 w=TB.rhsCa w:=by kernel_rfl
theorem TB.leftCa (w:World):TB.lhsCa w=TB.rhsCa w:=(congrFun PySem.W.Fast.te6350162313682010805 w).trans (TB.lefCa w)
noncomputable def TB.lhsCb (w:World):=(openEnds treeTable PySem.Challenge.pw_threebooks_s01_answers w 7856).map (fun s=>(s.heap.isNs mainGlobals&&s.heap.isNs builtinsNs&&tablesOk TB.vw s.heap&&(xlAt TB.vw [] s&&recOk [] s)&&(if true then s.gens.size == 0 else !leftWithCleanup s.gens)))
noncomputable def TB.rhsCb (w:World):=some true
lay_quick TB.lhsCb TB.rhsCb
theorem TB.lefCb (w:World):PySem.W.Fast.tw8103839127256723920 w=TB.rhsCb w:=by kernel_rfl
theorem TB.leftCb (w:World):TB.lhsCb w=TB.rhsCb w:=(congrFun PySem.W.Fast.te8103839127256723920 w).trans (TB.lefCb w)
noncomputable def TB.lhsE (w:World):=(openEnds treeTable PySem.Challenge.pw_threebooks_s01_answers w 7856).map (fun s=>(seen ((recsOf TB.vw).map (·.name)) (ownsOf TB.vw) [] { s with gens:=#[] },s.heap.bltView))
noncomputable def TB.rhsE (w:World):=some (expectedOf TB.vw,bltViewBooted)
lay_quick TB.lhsE
theorem TB.lefE (w:World):PySem.W.Fast.tw1872267922048193978 w=TB.rhsE w:=by kernel_rfl
theorem TB.leftE (w:World):TB.lhsE w=TB.rhsE w:=(congrFun PySem.W.Fast.te1872267922048193978 w).trans (TB.lefE w)
noncomputable def TB.lhsC3 (w:World):=(openEnds treeTable PySem.Challenge.pw_threebooks_s01_answers w 7856).map (fun s=>(tabsOk TB.vw s))
noncomputable def TB.rhsC3 (w:World):=some true
lay_quick TB.lhsC3 TB.rhsC3
theorem TB.lefC3 (w:World):PySem.W.Fast.tw3002365623450834716 w=TB.rhsC3 w:=by kernel_rfl
theorem TB.leftC3 (w:World):TB.lhsC3 w=TB.rhsC3 w:=(congrFun PySem.W.Fast.te3002365623450834716 w).trans (TB.lefC3 w)
noncomputable def TB.lhsD (w:World):=(openEnds treeTable PySem.Challenge.pw_threebooks_s01_answers w 7856).map (fun s=>(pinSeenD TB.vw (drecsOf TB.vw) s,plainSeenE TB.vw (looseW TB.vw []) s,plainSeenD TB.vw [] s,wideSeen TB.vw s,clsSeenW TB.vw [] s))
noncomputable def TB.rhsD (w:World):=some (pinGoodD (drecsOf TB.vw),plainGoodE TB.vw (looseW TB.vw []),plainGoodD TB.vw [],wideGood TB.vw,clsGoodW TB.vw [])
lay_quick TB.lhsD TB.rhsD
theorem TB.lefD (w:World):PySem.W.Fast.tw2488372169914372307 w=PySem.W.Fast.tw11524957218413929645 w:=by kernel_rfl
theorem TB.leftD (w:World):TB.lhsD w=TB.rhsD w:=(congrFun PySem.W.Fast.te2488372169914372307 w).trans ((TB.lefD w).trans (congrFun PySem.W.Fast.te11524957218413929645 w).symm)
section
open PySem PySem.W PyProof.Rows
local macro_rules | `(tactic| o_headS ($f:ident $k $a $e)) => `(tactic| exact (by assumption : ∀ p : Prop, p) _)
set_option maxRecDepth 100000 in
set_option maxHeartbeats 0 in
theorem TB.headT (h:∀ p:Prop,p):PySem.Challenge.rw_threebooks_s01_answers.Holds:=by
  w_on;k_headS
end
noncomputable def TB.lhsB (w:World):=(openEnds treeTable PySem.Challenge.pw_threebooks_s01_answers w 7856).map (fun s=>(TB.asL.map s.heap.get?,[165].map s.heap.get?))
noncomputable def TB.rhsB (w:World):=some ((TB.headT.heap_1 w.params).map fun p=>some p.2,[165].map fun _=>some (tabObj #[]))
lay_quick TB.lhsB
theorem TB.lefB (w:World):PySem.W.Fast.tw1135814571566049707 w=TB.rhsB w:=by kernel_rfl
theorem TB.leftB (w:World):TB.lhsB w=TB.rhsB w:=(congrFun PySem.W.Fast.te1135814571566049707 w).trans (TB.lefB w)
theorem TB.asE (P:Params):TB.asL=(TB.headT.heap_1 P).map (·.1):=by kernel_rfl
noncomputable def TB.hk:Hook:=kmHook TB.headT.heap_1 TB.asL TB.asE [165]
theorem TB.left:LeftO PySem.Challenge.pw_threebooks_s01_answers TB.vw [] (fun s=>xlAt TB.vw [] s&&recOk [] s) TB.hk.obs TB.hk.val 7856:=fun w=>TB.join rfl (TB.leftE w) (TB.leftCa w) (TB.leftCb w) (TB.leftC3 w) (TB.leftD w) (TB.leftB w)
end
namespace L2
open PySem PySem.Spec PyProof.Rows
abbrev Key:=Sum Int Str
def keyIs:Key→Value→Bool
  | .inl k,v=>Value.isInt k v
  | .inr x,v=>Value.isStrOf x v
def keyH (w:World):Key→Int
  | .inl k=>hashInt k
  | .inr x=>hashStr w x
theorem keyIs_shape:∀ {k:Key} {v:Value},keyIs k v=true→(∃ i t,k=Sum.inl i∧v=Value.int i t)∨(∃ x t,k=Sum.inr x∧v=Value.str x t)
  | .inl i,v,h=>by
    obtain ⟨t,e⟩:=Value.isInt_shape (k:=i) (v:=v) h
    exact .inl ⟨i,t,rfl,e⟩
  | .inr x,v,h=>by
    obtain ⟨t,e⟩:=Value.isStrOf_shape (x:=x) (v:=v) h
    exact .inr ⟨x,t,rfl,e⟩
theorem keyIs_int (i:Int) (t:Tok):keyIs (.inl i) (.int i t)=true:=by simp [keyIs,Value.isInt]
theorem keyIs_str (x:Str) (t:Tok):keyIs (.inr x) (.str x t)=true:=by simp [keyIs,Value.isStrOf]
theorem key_ll (a b:Int):decide ((Sum.inl a:Key)=Sum.inl b)=(a == b):=by
  by_cases e:a=b
  · subst e;simp
  · have h : ¬ (Sum.inl a:Key)=Sum.inl b:=fun q=>e (Sum.inl.inj q)
    rw [decide_eq_false h]
    exact (beq_eq_false_iff_ne.mpr e).symm
theorem key_rr (a b:Str):decide ((Sum.inr a:Key)=Sum.inr b)=decide (a=b):=by
  by_cases e:a=b
  · subst e;simp
  · have h : ¬ (Sum.inr a:Key)=Sum.inr b:=fun q=>e (Sum.inr.inj q)
    rw [decide_eq_false h,decide_eq_false e]
theorem key_lr (a:Int) (b:Str):decide ((Sum.inl a:Key)=Sum.inr b)=false:=decide_eq_false (fun q=>nomatch q)
theorem key_rl (a:Str) (b:Int):decide ((Sum.inr a:Key)=Sum.inl b)=false:=decide_eq_false (fun q=>nomatch q)
def mixKind (prog:Program) (w:World):PySem.KeyKind prog w Key where
  is:=keyIs
  hash:=keyH w
  inj:=fun v a b ha hb=>by
    rcases keyIs_shape ha with ⟨i,t,rfl,rfl⟩ | ⟨x,t,rfl,rfl⟩
    · rcases keyIs_shape hb with ⟨j,u,rfl,e⟩ | ⟨y,u,rfl,e⟩
      · injection e with e1 _;rw [e1]
      · exact nomatch e
    · rcases keyIs_shape hb with ⟨j,u,rfl,e⟩ | ⟨y,u,rfl,e⟩
      · exact nomatch e
      · injection e with e1 _;rw [e1]
  byValue:=fun k v h=>by
    rcases keyIs_shape h with ⟨i,t,rfl,rfl⟩ | ⟨x,t,rfl,rfl⟩ <;> rfl
  pyHash:=fun hv h=>by
    rcases keyIs_shape hv with ⟨i,t,rfl,rfl⟩ | ⟨x,t,rfl,rfl⟩
    · exact wpAny_pyHash_int h
    · exact wpAny_pyHash_str h
  eqBool:=fun hu hv h=>by
    rcases keyIs_shape hu with ⟨i,t,rfl,rfl⟩ | ⟨x,t,rfl,rfl⟩
    · rcases keyIs_shape hv with ⟨j,u,rfl,rfl⟩ | ⟨y,u,rfl,rfl⟩
      · rw [key_ll] at h;exact wpAny_eqBool_int h
      · rw [key_lr] at h;exact SeqAt.EqAt.int_str i t y u _ _ _ _ h
    · rcases keyIs_shape hv with ⟨j,u,rfl,rfl⟩ | ⟨y,u,rfl,rfl⟩
      · rw [key_rl] at h;exact SeqAt.EqAt.str_int x t j u _ _ _ _ h
      · rw [key_rr] at h;exact wpAny_eqBool_str h
  «strs»:=fun k x t v h=>by
    rcases keyIs_shape h with ⟨i,u,rfl,e⟩ | ⟨y,u,rfl,e⟩
    · exact nomatch e
    · injection e with e1 _
      subst e1
      cases v <;> rfl
theorem mixKind_int (prog:Program) (w:World) (i:Int) (t:Tok):(mixKind prog w).is (.inl i) (.int i t)=true:=keyIs_int i t
theorem mixKind_str (prog:Program) (w:World) (x:Str) (t:Tok):(mixKind prog w).is (.inr x) (.str x t)=true:=keyIs_str x t
end L2
namespace L2
open PySem PySem.Spec PyProof.Rows
inductive V where
  | non | bl (b:Bool) | int (i:Int) | str (x:Str) | byt (b:Array UInt8) | flt (b:UInt64) | ref (a:Addr) | ty (n:String)
  deriving DecidableEq
def RelV:V→Value→Prop
  | .non,u=>u=Value.none
  | .bl b,u=>u=Value.bool b
  | .int i,u=>∃ t,u=Value.int i t
  | .str x,u=>∃ t,u=Value.str x t
  | .byt b,u=>∃ t,u=Value.bytes b t
  | .flt b,u=>∃ t,u=Value.float b t
  | .ref a,u=>u=Value.ref a
  | .ty n,u=>u=Value.type n
abbrev Vals:List V→List Value→Prop:=Paired RelV
theorem Vals.length {xs:List V} {us:List Value} (r:Vals xs us):xs.length=us.length:=Paired.length r
theorem Vals.get:∀ {xs:List V} {us:List Value} {i:Nat} {x:V},Vals xs us→xs[i]? = some x→∃ u,us[i]? = some u∧RelV x u
  | _,_,_,_,.nil,e=>by simp at e
  | _,_,0,_,.cons r _,e=>by simp at e;subst e;exact ⟨_,rfl,r⟩
  | _,_,i + 1,x,.cons _ t,e=>by
    obtain ⟨u,h1,h2⟩:=Vals.get (i:=i) (x:=x) t (by simpa using e)
    exact ⟨u,by simpa using h1,h2⟩
theorem Vals.set {x:V} {u:Value} (r:RelV x u):∀ {xs:List V} {us:List Value} (i:Nat),Vals xs us→Vals (xs.set i x) (us.set i u)
  | _,_,_,.nil=>.nil
  | _,_,0,.cons _ t=>.cons r t
  | _,_,i + 1,.cons q t=>.cons q (Vals.set r i t)
theorem Vals.append:∀ {xs ys:List V} {us ws:List Value},Vals xs us→Vals ys ws→Vals (xs++ys) (us++ws)
  | _,_,_,_,.nil,s=>s
  | _,_,_,_,.cons r t,s=>.cons r (Vals.append t s)
theorem Vals.take:∀ {xs:List V} {us:List Value} (n:Nat),Vals xs us→Vals (xs.take n) (us.take n)
  | _,_,0,_=>.nil
  | _,_,_ + 1,.nil=>.nil
  | _,_,n + 1,.cons r t=>.cons r (Vals.take n t)
theorem Vals.drop:∀ {xs:List V} {us:List Value} (n:Nat),Vals xs us→Vals (xs.drop n) (us.drop n)
  | _,_,0,r=>r
  | _,_,_ + 1,.nil=>.nil
  | _,_,n + 1,.cons _ t=>Vals.drop n t
def RelO:Option V→Option Value→Prop
  | some v,some u=>RelV v u
  | none,none=>True
  | _,_=>False
def KV {κ : Type}:List (κ × V)→List (κ × Value)→Prop:=Paired fun (p : κ × V) (q : κ × Value)=>p.1=q.1∧RelV p.2 q.2
def kV:Key→V
  | .inl i=>.int i
  | .inr x=>.str x
inductive HO where
  | lst (xs:List V)
  | tup (xs:List V)
  | dK (kvs:List (Key × V)) | dT (kvs:List (List Key × V))
  | set (S:Int→Bool) (n:Nat)
  | ins (C dx:Addr) (fs:List (Str × V))
  | own (x:Addr)
  | xd (fs:List (Str × V))
  | met (f x:Addr)
  | rng (lo hi:Int)
  | frz (o:Obj) (u:HO)
  | tbl (ps:Array Value)
  | ext (φ : Heap→Prop)
abbrev Hp:=Addr→Option HO
def upd (H:Hp) (a:Addr) (o:HO):Hp:=fun b=>if b=a then some o else H b
theorem upd_same {H:Hp} {a:Addr} {o:HO}:upd H a o a=some o:=by unfold upd;rw [if_pos rfl]
theorem upd_ne {H:Hp} {a b:Addr} {o:HO} (h:b≠a):upd H a o b=H b:=by unfold upd;rw [if_neg h]
theorem upd_upd {H:Hp} {a:Addr} {o u:HO}:upd (upd H a o) a u=upd H a u:=by
  funext b;unfold upd;split <;> rfl
theorem ne_of {H:Hp} {a b:Addr} {o u:HO} (h:H a=some o) (h':H b=some u) (d:o≠u):a≠b:=by
  intro e;subst e;rw [h] at h';exact d (Option.some.inj h')
theorem ne_of_none {H:Hp} {a b:Addr} {o:HO} (h:H a=some o) (h':H b=none):a≠b:=by
  intro e;subst e;rw [h] at h';cases h'
section
variable (P:Program) (w:World)
def ObjOk (H:Hp) (h:Heap) (a:Addr):HO→Prop
  | .lst xs=>xs.length≤sizeLine∧∃ (its:List Value) (n:Nat),Vals xs its∧h.get? a=some { cls:=.type "list",data:=.seq its.toArray n }
  | .tup xs=>xs.length≤sizeLine∧∃ its:List Value,Vals xs its∧IsTup h a its.toArray
  | .dK kvs=>kvs.length≤sizeLine∧(a == sysModules)=false∧∃ vs,KV kvs vs∧h.DictOf (mixKind P w) a vs
  | .dT kvs => kvs.length ≤ sizeLine ∧ (a == sysModules) = false ∧ ∃ xs : List (List Key × Addr × Value),
      Paired (fun (p:List Key × V) (q:List Key × Addr × Value)=>p.1=q.1∧H q.2.1=some (.tup (p.1.map kV))∧RelV p.2 q.2.2) kvs xs ∧
      ∃ o es ep,h.get? a=some o∧o.ExactDict∧o.data = .dict es ep∧es.toList=xs.map (entryOfKey (tupleKind (mixKind P w)))∧(xs.map (·.1)).Nodup
  | .set S n=>h.SetOf (intKind P w) a S n
  | .ins C dx fs => H dx = some (.own a) ∧ fs.length ≤ 1000 ∧ dx ≠ a ∧ h.get? a = some (PySem.W.instObj C dx) ∧
      ∃ mA,h.Ns1 dx mA∧(∀ f,RelO (fs.lookup f) (mA f))∧PySem.Within mA (fs.map (·.1))
  | .own _=>∃ o,h.get? a=some o
  | .xd fs=>∃ mA,h.Ns1 a mA∧∀ f,RelO (fs.lookup f) (mA f)
  | .rng lo hi=>∃ t u v,h.get? a=some { cls:=.type "range",data:=.fields #[.int lo t,.int hi u,.int 1 v] }
  | .frz o u=>h.get? a=some o∧ObjOk H h a u
  | .tbl ps=>h.get? a=some { cls:=.none,data:=.fields ps }
  | .met f x=>h.get? a=some (PySem.W.methodObj (.ref f) (.ref x))
  | .ext φ=>φ h∧(∃ o,h.get? a=some o)∧∀ h1 h2:Heap,φ h1→(∀ o,h1.get? a=some o→h2.get? a=some o)→φ h2
def HOk (H:Hp) (h:Heap):Prop:=∀ a o,H a=some o→ObjOk P w H h a o
end
section
variable {P:Program} {w:World} {H H':Hp} {h h':Heap} {a:Addr} {o:HO}
theorem ObjOk.lt (x:ObjOk P w H h a o):a < h.objs.size:=by
  cases o with
  | lst xs=>obtain ⟨_,_,_,_,e⟩:=x;exact Heap.lt_size e
  | tup xs=>obtain ⟨_,_,_,p⟩:=x;exact p.lt
  | dK kvs=>obtain ⟨_,_,_,_,o,_,_,e,_⟩:=x;exact Heap.lt_size e
  | dT kvs=>obtain ⟨_,_,_,_,o,_,_,e,_⟩:=x;exact Heap.lt_size e
  | set S n=>obtain ⟨o,_,_,_,e,_⟩:=x;exact Heap.lt_size e
  | ins C dx fs=>obtain ⟨_,_,_,e,_⟩:=x;exact Heap.lt_size e
  | own y=>obtain ⟨_,e⟩:=x;exact Heap.lt_size e
  | xd fs=>obtain ⟨_,⟨_,_,_,e,_⟩,_⟩:=x;exact Heap.lt_size e
  | rng lo hi=>obtain ⟨_,_,_,e⟩:=x;exact Heap.lt_size e
  | frz ob u=>obtain ⟨e,_⟩:=x;exact Heap.lt_size e
  | tbl ps=>exact Heap.lt_size (show h.get? a=some _ from x)
  | met f y=>exact Heap.lt_size (show h.get? a=some _ from x)
  | ext φ=>obtain ⟨_,⟨_,e⟩,_⟩:=x;exact Heap.lt_size e
theorem Paired.mapP {α β : Type} {F G : α→β→Prop}:∀ {l₁ : List α} {l₂ : List β},Paired F l₁ l₂→(∀ a b,F a b→G a b)→Paired G l₁ l₂
  | _,_,.nil,_=>.nil
  | _,_,.cons r t,f=>.cons (f _ _ r) (Paired.mapP t f)
theorem ObjOk.stay (x : ObjOk P w H h a o) (k : ∀ b u, (b = a ∨ H b = some (.own a)) → h.get? b = some u → h'.get? b = some u)
    (ho:∀ b,H b=some (.own a)→H' b=some (.own a)) (ht:∀ b xs,H b=some (.tup xs)→H' b=some (.tup xs)):ObjOk P w H' h' a o:=by
  induction o with
  | lst xs=>obtain ⟨z,its,n,r,e⟩:=x;exact ⟨z,its,n,r,k _ _ (.inl rfl) e⟩
  | tup xs=>obtain ⟨z,its,r,ob,e,c⟩:=x;exact ⟨z,its,r,ob,k _ _ (.inl rfl) e,c⟩
  | dK kvs=>obtain ⟨z,y,vs,r,ob,es,ep,e,c⟩:=x;exact ⟨z,y,vs,r,ob,es,ep,k _ _ (.inl rfl) e,c⟩
  | dT kvs =>
    obtain ⟨z,y,xs,r,ob,es,ep,e,c⟩:=x
    exact ⟨z,y,xs,Paired.mapP r fun p q z=>⟨z.1,ht _ _ z.2.1,z.2.2⟩,ob,es,ep,k _ _ (.inl rfl) e,c⟩
  | set S n=>obtain ⟨ob,es,ep,t,e,c⟩:=x;exact ⟨ob,es,ep,t,k _ _ (.inl rfl) e,c⟩
  | ins C dx fs =>
    obtain ⟨d,z,ne,e,mA,⟨od,es,ep,e2,c⟩,r⟩:=x
    exact ⟨ho _ d,z,ne,k _ _ (.inl rfl) e,mA,⟨od,es,ep,k _ _ (.inr d) e2,c⟩,r⟩
  | own y=>obtain ⟨ob,e⟩:=x;exact ⟨ob,k _ _ (.inl rfl) e⟩
  | xd fs=>obtain ⟨mA,⟨od,es,ep,e,c⟩,r⟩:=x;exact ⟨mA,⟨od,es,ep,k _ _ (.inl rfl) e,c⟩,r⟩
  | rng lo hi=>obtain ⟨t,u,v,e⟩:=x;exact ⟨t,u,v,k _ _ (.inl rfl) e⟩
  | frz ob u ih=>obtain ⟨e,q⟩:=x;exact ⟨k _ _ (.inl rfl) e,ih q⟩
  | tbl ps =>
    have e:h.get? a=some { cls:=.none,data:=.fields ps }:=x
    show h'.get? a=some { cls:=.none,data:=.fields ps }
    exact k a _ (.inl rfl) e
  | met f y =>
    have e:h.get? a=some (PySem.W.methodObj (.ref f) (.ref y)):=x
    show h'.get? a=some (PySem.W.methodObj (.ref f) (.ref y))
    exact k a _ (.inl rfl) e
  | ext φ=>obtain ⟨p,⟨o,e⟩,st⟩:=x;exact ⟨st _ _ p fun o q=>k _ _ (.inl rfl) q,⟨o,k _ _ (.inl rfl) e⟩,st⟩
theorem HOk.lt (x:HOk P w H h) (e:H a=some o):a < h.objs.size:=(x a o e).lt
theorem HOk.fresh (x:HOk P w H h) (e:h.objs.size≤a):H a=none:=by
  cases q:H a with
  | none=>rfl
  | some u=>exact absurd (Nat.lt_of_lt_of_le (x.lt q) e) (Nat.lt_irrefl _)
theorem HOk.kept (x:HOk P w H h) (k:∀ b u,h.get? b=some u→h'.get? b=some u):HOk P w H h':=fun a o e =>
  (x a o e).stay (fun b u _ q=>k b u q) (fun _ q=>q) fun _ _ q=>q
theorem HOk.laid (x:HOk P w H h) (k:∀ b u,h.get? b=some u→h'.get? b=some u) (hp:h.objs.size≤a) (new:ObjOk P w (upd H a o) h' a o):HOk P w (upd H a o) h':=fun b u e=>by
  have hn:=x.fresh hp
  by_cases hb:b=a
  · subst hb;rw [upd_same] at e;cases e;exact new
  · rw [upd_ne hb] at e
    exact (x b u e).stay (fun c v _ q=>k c v q) (fun c q=>by rw [upd_ne (ne_of_none q hn)];exact q) fun c xs q=>by rw [upd_ne (ne_of_none q hn)];exact q
end
def Rd (H:Hp) (a:Addr) (u:HO):Prop:=H a=some u∨∃ o,H a=some (.frz o u)
theorem Rd.ok {P:Program} {w:World} {H:Hp} {h:Heap} {a:Addr} {u:HO} (r:Rd H a u) (x:HOk P w H h):ObjOk P w H h a u:=by
  rcases r with r | ⟨o,r⟩
  · exact x a u r
  · obtain ⟨_,q⟩:=x a _ r
    exact q
def Mut:Option HO→Prop
  | some (.lst _)=>True
  | some (.dK _)=>True
  | some (.dT _)=>True
  | some (.set _ _)=>True
  | some (.ins _ _ _)=>True
  | some (.ext _)=>True
  | _=>False
section
variable {P:Program} {w:World} {H:Hp} {h h':Heap} {x e:Addr} {o':HO}
theorem HOk.write (ok : HOk P w H h) (mu : Mut (H x)) (he : e = x ∨ H e = some (.own x)) (k : ∀ b u, b ≠ e → h.get? b = some u → h'.get? b = some u) (heo : ∃ u, h'.get? e = some u)
    (new:ObjOk P w (upd H x o') h' x o'):HOk P w (upd H x o') h':=fun b u q=>by
  have nown:∀ c y,H c=some (.own y)→c≠x:=fun c y r z=>by subst z;rw [r] at mu;exact mu
  have ntup:∀ c xs,H c=some (.tup xs)→c≠x:=fun c xs r z=>by subst z;rw [r] at mu;exact mu
  by_cases hb:b=x
  · subst hb;rw [upd_same] at q;cases q;exact new
  · rw [upd_ne hb] at q
    by_cases hbe:b=e
    · have q':H b=some (.own x):=by
        rcases he with z | z
        · exact absurd (hbe.trans z) hb
        · rw [hbe];exact z
      rw [q] at q';cases q'
      obtain ⟨v,hv⟩:=heo
      exact ⟨v,by rw [hbe];exact hv⟩
    · refine (ok b u q).stay (fun c v hc r=>k c v ?_ r) (fun c r=>by rw [upd_ne (nown c b r)];exact r) fun c xs r=>by rw [upd_ne (ntup c xs r)];exact r
      rcases hc with rfl | hc
      · exact hbe
      · rintro rfl
        rcases he with z | z
        · exact nown c b hc z
        · rw [hc] at z;cases z;exact hb rfl
end
structure Un (fs ex:List Addr) (H H':Hp) (h h':Heap):Prop where
  keep:∀ b o,h.get? b=some o→H b=none→b ∉ fs→b ∉ ex→h'.get? b=some o
  slot:∀ b o,h.get? b=some o→H b=none→b ∈ fs→b ∉ ex→∃ sl,h'.get? b=some { o with slots:=sl }
  free:∀ b o,h.get? b=some o→H b=none→b ∉ ex→H' b=none
  there:∀ b o,h.get? b=some o→b ∉ ex→∃ o',h'.get? b=some o'
  tups:∀ b xs,H b=some (.tup xs)→H' b=some (.tup xs)
  frzs:∀ b o u,H b=some (.frz o u)→H' b=some (.frz o u)
  tbls:∀ b ps,H b=some (.tbl ps)→∃ more,H' b=some (.tbl (ps++more))
section
variable {fs fs' ex ex':List Addr} {H H1 H2:Hp} {h h1 h2 h':Heap} {a x e:Addr} {o:HO}
theorem Un.any (u:Un fs ex H H1 h h1) {b:Addr} {ob:Obj} (q:h.get? b=some ob) (n:H b=none) (hx:b ∉ ex):∃ sl,h1.get? b=some { ob with slots:=sl }:=by
  by_cases hb:b ∈ fs
  · exact u.slot b ob q n hb hx
  · exact ⟨ob.slots,u.keep b ob q n hb hx⟩
theorem Un.kept (k:∀ b u,h.get? b=some u→h'.get? b=some u):Un fs ex H H h h' :=
  ⟨fun b ob q _ _ _=>k b ob q,fun b ob q _ _ _=>⟨ob.slots,k b ob q⟩,fun _ _ _ n _=>n,fun b ob q _=>⟨ob,k b ob q⟩,fun _ _ q=>q,fun _ _ _ q=>q,fun _ ps q=>⟨#[],by rw [q];simp⟩⟩
theorem Un.refl:Un fs ex H H h h:=Un.kept fun _ _ q=>q
theorem Un.laid (k:∀ b u,h.get? b=some u→h'.get? b=some u) (hp:h.objs.size≤a) (hn:H a=none):Un fs ex H (upd H a o) h h' where
  keep:=fun b u q _ _ _=>k b u q
  slot:=fun b u q _ _ _=>⟨u.slots,k b u q⟩
  free:=fun b u q n _=>by rw [upd_ne (Nat.ne_of_lt (Nat.lt_of_lt_of_le (Heap.lt_size q) hp))];exact n
  there:=fun b u q _=>⟨u,k b u q⟩
  tups:=fun b xs q=>by rw [upd_ne (ne_of_none q hn)];exact q
  frzs:=fun b u xs q=>by rw [upd_ne (ne_of_none q hn)];exact q
  tbls:=fun b ps q=>⟨#[],by rw [upd_ne (ne_of_none q hn),q];simp⟩
theorem Un.write (mu:Mut (H x)) (he:e=x∨H e=some (.own x)) (k:∀ b u,b≠e→h.get? b=some u→h'.get? b=some u) (heo:∃ u,h'.get? e=some u):Un fs ex H (upd H x o) h h':=by
  have hx:∀ b,H b=none→b≠x:=fun b n z=>by subst z;rw [n] at mu;exact mu
  have hb:∀ b,H b=none→b≠e:=fun b n z=>by
    subst z
    rcases he with r | r
    · exact hx b n r
    · rw [n] at r;cases r
  have hm:∀ b u,H b=some u→¬ Mut (some u)→b≠x:=fun b u q nm z=>by subst z;rw [q] at mu;exact nm mu
  refine ⟨fun b u q n _ _=>k b u (hb b n) q,fun b u q n _ _=>⟨u.slots,k b u (hb b n) q⟩,fun b u q n _=>by rw [upd_ne (hx b n)];exact n,fun b u q _=>?_,
    fun b xs q=>by rw [upd_ne (hm b _ q fun z=>z)];exact q,fun b u xs q=>by rw [upd_ne (hm b _ q fun z=>z)];exact q,fun b ps q=>⟨#[],by rw [upd_ne (hm b _ q fun z=>z),q];simp⟩⟩
  by_cases hbe:b=e
  · subst hbe;exact heo
  · exact ⟨u,k b u hbe q⟩
end
def trk (h:Heap) (H:Hp):List Addr:=(List.range h.objs.size).filter fun a=>(H a).isSome
def hidT (h:Heap) (H:Hp):Heap:=PySem.W.hideAll h (trk h H)
theorem hidT_size (h:Heap) (H:Hp):(hidT h H).objs.size=h.objs.size:=PySem.W.hideAll_size _ _
theorem hidT_get {h:Heap} {H:Hp} {b:Addr} {o:Obj} (e:h.get? b=some o) (n:H b=none):(hidT h H).get? b=some o :=
  PySem.W.hideAll_get _ e fun hm=>by
    have q:(H b).isSome=true:=(List.mem_filter.mp hm).2
    rw [n] at q;simp at q
theorem of_hidT {h:Heap} {H:Hp} {b:Addr} {o:Obj} (e:(hidT h H).get? b=some o):h.get? b=some o∧H b=none:=by
  have e':h.get? b=some o:=PySem.W.of_hideAll (trk h H) e
  refine ⟨e',?_⟩
  cases q:H b with
  | none=>rfl
  | some x =>
    have hm:b ∈ trk h H:=List.mem_filter.mpr ⟨List.mem_range.mpr (Heap.lt_size e'),by simp [q]⟩
    have z:(hidT h H).get? b=none:=PySem.W.hideAll_none (trk h H) hm
    rw [z] at e;cases e
def allNews (g h:Heap) (L:Addr):List (Addr × Obj):=(List.range h.objs.size).filterMap fun a=>if a=L∨(g.get? a).isSome=true then none else (h.get? a).map fun o=>(a,o)
theorem mem_allNews {g h:Heap} {L a:Addr} {o:Obj} (h1:a≠L) (h2:g.get? a=none) (h3:h.get? a=some o):(a,o) ∈ allNews g h L :=
  List.mem_filterMap.mpr ⟨a,List.mem_range.mpr (Heap.lt_size h3),by simp [h1,h2,h3]⟩
theorem of_mem_allNews {g h:Heap} {L:Addr} {p:Addr × Obj} (hp:p ∈ allNews g h L):p.1≠L∧g.get? p.1=none∧h.get? p.1=some p.2:=by
  obtain ⟨b,_,e⟩:=List.mem_filterMap.mp hp
  split at e
  · cases e
  · rename_i hn
    cases q:h.get? b with
    | none=>rw [q] at e;simp at e
    | some u =>
      rw [q] at e
      simp only [Option.map_some,Option.some.injEq] at e
      subst e
      refine ⟨fun z=>hn (.inl z),?_,q⟩
      show g.get? b=none
      cases r:g.get? b with
      | none=>rfl
      | some v=>exact (hn (.inr (by simp [r]))).elim
theorem news_all {g h:Heap} {L:Addr}:News g L h (allNews g h L):=fun p hp=>let ⟨a,b,c⟩:=of_mem_allNews hp;⟨c,a,b⟩
end L2
namespace L2
open PySem PySem.Spec PyProof.Rows
structure Mod (K:PySem.W.Frag) (mg:Str→Option Value) (base:Heap):Prop where
  kin:K.In base
  glob:base.Ns mainGlobals mg
  blt:∃ mb,base.Ns builtinsNs mb∧∀ x:Str,x ≠ "__name__" → mb x=bootBuiltins x
  nolimit:base.NoLimit
structure Cx where
  prog:Program
  w:World
  K:PySem.W.Frag
  mg:Str→Option Value
  base:Heap
  A:Around
  N:List Str
  s_0:Shared
  H_0:Hp
  env:Env
  outer:List Env
  stack:List Env
  ex:List Addr
  fn:Str→Bool
  calm:Bool
  pn:List (Addr × Obj)
  xe:Value→Shared→Prop
def frs (l:List Env):List Addr:=l.filterMap (·.frame)
abbrev Cx.fs (X:Cx):List Addr:=frs X.outer
def Vis (sc:Scope) (x:Str):Prop:=sc.names.lookup x=some .local∨sc.names.lookup x=some .cell∨sc.names.lookup x=some .free
def Loc (sc:Scope) (x:Str):Prop:=sc.names.lookup x=some .local∨sc.names.lookup x=some .cell
def Look (env:Env) (h:Heap) (m:Str→Option Value) (x:Str) (u:Value):Prop :=
  (env.kindOf x=some .local∧m x=some u)∨((env.kindOf x=some .cell∨env.kindOf x=some .free)∧∃ c,env.cells.lookup x=some c∧h.IsCell c (some u))
structure Cx.Ok (X:Cx):Prop where
  mod:Mod X.K X.mg X.base
  kind:X.env.scope.kind = .function
  glob:X.env.globals=mainGlobals
  blt:X.env.builtins=builtinsNs
  above:X.s_0.heap.objs.size≤X.env.locals
  inj:∀ x y c,X.env.cells.lookup x=some c→X.env.cells.lookup y=some c→x=y
  has:∀ x,(X.env.kindOf x=some .cell∨X.env.kindOf x=some .free)→∃ c,X.env.cells.lookup x=some c
  cab:∀ x c,X.fn x=true→X.env.cells.lookup x=some c→X.s_0.heap.objs.size≤c
  hd:X.calm=true→X.A.handled=none
  frames:X.A.frames=some X.stack
  stk:X.stack=X.outer∨(X.stack=X.env :: X.outer∧X.env.frame=some X.env.locals)
  exf:∀ b ∈ X.ex,b≠X.env.locals∧∀ x c,X.env.cells.lookup x=some c→c≠b
  bs:∀ b o,X.base.get? b=some o→X.s_0.heap.get? b=some o∧X.H_0 b=none
  bsz:X.base.objs.size≤X.s_0.heap.objs.size
  noex:∀ b o,X.base.get? b=some o→b ∉ X.ex
  exfs:∀ b ∈ X.ex,b ∉ X.fs
  funs:X.s_0.heap.FunFrames X.base X.outer
  frf:∀ b ∈ X.fs,X.H_0 b=none
structure Inv (X:Cx) (pins:List (Addr × Obj)) (σ : List (Option V)) (H:Hp) (s:Shared):Prop where
  ok:X.Ok
  os:s.os=X.s_0.os
  bare:AllBare s.gens
  base:Un X.fs X.ex X.H_0 H X.s_0.heap s.heap
  loc:∃ m,s.heap.Ns X.env.locals m∧∀ (i:Nat) (x:Str) (v:V),X.N[i]? = some x→σ[i]? = some (some v)→Vis X.env.scope x→∃ u,RelV v u∧Look X.env s.heap m x u
  cell:∀ x c,X.env.cells.lookup x=some c→∃ v,s.heap.IsCell c v
  free:H X.env.locals=none
  freeC:∀ x c,X.env.cells.lookup x=some c→H c=none
  pin:∀ p ∈ X.pn++pins,s.heap.get? p.1=some p.2∧H p.1=none∧p.1≠X.env.locals∧p.1 ∉ X.fs∧∀ v,p.2.data ≠ .cell v
  hok:HOk X.prog X.w H s.heap
  len : σ.length=X.N.length
section
variable {X:Cx} {pins:List (Addr × Obj)} {σ : List (Option V)} {H H':Hp} {s:Shared} {h':Heap}
theorem Cx.Ok.nofr (ok:X.Ok) {b:Addr} {o:Obj} (e:X.base.get? b=some o):b ∉ X.fs:=fun hb=>by
  have:=(ok.funs.mem hb).1
  rw [e] at this;cases this
theorem Inv.bs (I:Inv X pins σ H s):∀ b o,X.base.get? b=some o→s.heap.get? b=some o∧H b=none:=fun b o e =>
  ⟨I.base.keep b o (I.ok.bs b o e).1 (I.ok.bs b o e).2 (I.ok.nofr e) (I.ok.noex b o e),I.base.free b o (I.ok.bs b o e).1 (I.ok.bs b o e).2 (I.ok.noex b o e)⟩
theorem Inv.bk (I:Inv X pins σ H s):∀ b o,X.base.get? b=some o→s.heap.get? b=some o:=fun b o e=>(I.bs b o e).1
theorem Inv.mod (I:Inv X pins σ H s):Mod X.K X.mg X.base:=I.ok.mod
theorem Inv.kIn (I:Inv X pins σ H s):X.K.In s.heap:=I.ok.mod.kin.keeps I.bk
theorem Inv.fr (I:Inv X pins σ H s):∃ m,Fr X.base X.env.locals s.heap m :=
  let ⟨m,hn,_⟩:=I.loc
  ⟨m,hn,I.bk,Nat.le_trans I.ok.bsz I.ok.above⟩
theorem Inv.lt (I:Inv X pins σ H s):X.env.locals < s.heap.objs.size:=let ⟨_,hn,_⟩:=I.loc;hn.lt
theorem Inv.sz (I:Inv X pins σ H s):X.s_0.heap.objs.size≤s.heap.objs.size:=Nat.le_trans I.ok.above (Nat.le_of_lt I.lt)
theorem Inv.nofs (I:Inv X pins σ H s) {a:Addr} (h:s.heap.objs.size≤a):a ∉ X.fs:=fun hb=>by
  obtain ⟨_,o,ho,_⟩:=I.ok.funs.mem hb
  exact absurd (Nat.lt_of_lt_of_le (Heap.lt_size ho) (Nat.le_trans I.sz h)) (Nat.lt_irrefl _)
theorem Inv.cne (I:Inv X pins σ H s):∀ x c,X.env.cells.lookup x=some c→c≠X.env.locals:=fun x c e z=>by
  obtain ⟨v,o,ho,hd⟩:=I.cell x c e
  obtain ⟨m,⟨o',es,ep,ho',hd',_⟩,_⟩:=I.loc
  rw [z,ho'] at ho;cases ho;rw [hd'] at hd;cases hd
theorem Inv.funs (I:Inv X pins σ H s):s.heap.FunFrames X.base X.outer:=by
  have all:∀ (l:List Env),(∀ b ∈ frs l,b ∈ X.fs)→X.s_0.heap.FunFrames X.base l→s.heap.FunFrames X.base l:=by
    intro l
    induction l with
    | nil=>intro _ _;trivial
    | cons env r ih =>
      intro hs hl
      obtain ⟨hk,⟨L,o,hf,hn,ho,hd⟩,hr⟩:=hl
      have hL:L ∈ X.fs:=hs L (by unfold frs;rw [List.filterMap_cons,hf];exact List.mem_cons_self)
      obtain ⟨sl,e⟩:=I.base.slot L o ho (I.ok.frf L hL) hL fun z=>I.ok.exfs L z hL
      exact ⟨hk,⟨L,_,hf,hn,e,hd⟩,ih (fun b hb=>hs b (by unfold frs;rw [List.filterMap_cons,hf];exact List.mem_cons_of_mem _ hb)) hr⟩
  exact all X.outer (fun _ hb=>hb) I.ok.funs
theorem Inv.stack (I:Inv X pins σ H s):s.heap.FunFrames X.base X.stack:=by
  rcases I.ok.stk with e | ⟨e,hf⟩
  · rw [e];exact I.funs
  · rw [e]
    obtain ⟨m,hn,_⟩:=I.loc
    refine .cons (by rw [I.ok.kind];decide) hf hn ?_ I.funs
    exact Heap.get?_none_of_le (Nat.le_trans I.ok.bsz I.ok.above)
theorem Inv.stkSub (I:Inv X pins σ H s):∀ b ∈ frs X.stack,b ∈ X.env.locals :: X.fs:=fun b hb=>by
  rcases I.ok.stk with e | ⟨e,hf⟩
  · rw [e] at hb;exact List.mem_cons_of_mem _ hb
  · rw [e] at hb
    unfold frs at hb
    rw [List.filterMap_cons,hf] at hb
    exact hb
theorem Inv.stkFree (I:Inv X pins σ H s):∀ b ∈ frs X.stack,H b=none:=fun b hb=>by
  rcases List.mem_cons.mp (I.stkSub b hb) with e | hb
  · rw [e];exact I.free
  · obtain ⟨_,o,ho,_⟩:=I.ok.funs.mem hb
    exact I.base.free b o ho (I.ok.frf b hb) fun z=>I.ok.exfs b z hb
theorem Inv.step {g' : Array GenState} {t' : Nat} {d' : Drawn} {ch : List Addr} (I : Inv X pins σ H s)
    (hch:∀ b ∈ ch,(b ∈ X.ex∨X.s_0.heap.objs.size≤b)∧b≠X.env.locals∧(∀ x c,X.env.cells.lookup x=some c→c≠b)∧∀ p ∈ X.pn++pins,p.1≠b)
    (keep:∀ b o,b≠X.env.locals→b ∉ X.fs→b ∉ ch→s.heap.get? b=some o→H b=none→h'.get? b=some o)
    (slot:∀ b o,b≠X.env.locals→b ∈ X.fs→b ∉ ch→s.heap.get? b=some o→H b=none→∃ sl,h'.get? b=some { o with slots:=sl }) (free:∀ b o,b ∉ ch→s.heap.get? b=some o→H b=none→H' b=none)
    (there:∀ b o,b ∉ ch→s.heap.get? b=some o→∃ o',h'.get? b=some o')
    (tups:∀ b xs,H b=some (.tup xs)→H' b=some (.tup xs)) (frzs:∀ b o u,H b=some (.frz o u)→H' b=some (.frz o u)) (tbls:∀ b ps,H b=some (.tbl ps)→∃ more,H' b=some (.tbl (ps++more)))
    (ns:∀ m,s.heap.Ns X.env.locals m→h'.Ns X.env.locals m) (hok:HOk X.prog X.w H' h') (hg:AllBare g') :
    Inv X pins σ H' { s with heap:=h',gens:=g',drawn:=d',toks:=t' }:=by
  have neL:∀ b o,X.s_0.heap.get? b=some o→b≠X.env.locals:=fun b o e=>Nat.ne_of_lt (Nat.lt_of_lt_of_le (Heap.lt_size e) I.ok.above)
  have neC:∀ b o,X.s_0.heap.get? b=some o→b ∉ X.ex→b ∉ ch:=fun b o e hx hb=>by
    rcases (hch b hb).1 with z | z
    · exact hx z
    · exact absurd (Nat.lt_of_lt_of_le (Heap.lt_size e) z) (Nat.lt_irrefl _)
  have cellK:∀ x c,X.env.cells.lookup x=some c→∀ v,s.heap.IsCell c v→h'.IsCell c v:=fun x c e v ⟨o,ho,hd⟩=>by
    have nch:c ∉ ch:=fun z=>(hch c z).2.2.1 x c e rfl
    by_cases hc:c ∈ X.fs
    · obtain ⟨sl,q⟩:=slot c o (I.cne x c e) hc nch ho (I.freeC x c e)
      exact ⟨_,q,hd⟩
    · exact ⟨o,keep c o (I.cne x c e) hc nch ho (I.freeC x c e),hd⟩
  refine ⟨I.ok,I.os,hg,⟨fun b o e n hb hx=>?_,fun b o e n hb hx=>?_,fun b o e n hx=>?_,fun b o e hx=>?_,fun b xs e=>tups b xs (I.base.tups b xs e),fun b o xs e=>frzs b o xs (I.base.frzs b o xs e),fun b ps e=>?_⟩,?_,fun x c e=>?_,?_,fun x c e=>?_,fun p hp=>?_,hok,I.len⟩
  · exact keep b o (neL b o e) hb (neC b o e hx) (I.base.keep b o e n hb hx) (I.base.free b o e n hx)
  · obtain ⟨sl,e1⟩:=I.base.slot b o e n hb hx
    obtain ⟨sl',e2⟩:=slot b _ (neL b o e) hb (neC b o e hx) e1 (I.base.free b o e n hx)
    exact ⟨sl',e2⟩
  · obtain ⟨o',e1⟩:=I.base.there b o e hx
    exact free b o' (neC b o e hx) e1 (I.base.free b o e n hx)
  · obtain ⟨o',e1⟩:=I.base.there b o e hx
    exact there b o' (neC b o e hx) e1
  · obtain ⟨m1,e1⟩:=I.base.tbls b ps e
    obtain ⟨m2,e2⟩:=tbls b _ e1
    exact ⟨m1++m2,by rw [e2,Array.append_assoc]⟩
  · obtain ⟨m,hn,hl⟩:=I.loc
    refine ⟨m,ns m hn,fun i x v e1 e2 e3=>?_⟩
    obtain ⟨u,r,l⟩:=hl i x v e1 e2 e3
    refine ⟨u,r,?_⟩
    rcases l with l | ⟨k,c,e,z⟩
    · exact .inl l
    · exact .inr ⟨k,c,e,cellK x c e _ z⟩
  · obtain ⟨v,z⟩:=I.cell x c e
    exact ⟨v,cellK x c e v z⟩
  · obtain ⟨m,⟨o,_,_,ho,_⟩,_⟩:=I.loc
    exact free _ o (fun z=>(hch _ z).2.1 rfl) ho I.free
  · obtain ⟨v,o,ho,hd⟩:=I.cell x c e
    exact free c o (fun z=>(hch c z).2.2.1 x c e rfl) ho (I.freeC x c e)
  · obtain ⟨e,n,ne,nf,d⟩:=I.pin p hp
    have nch:p.1 ∉ ch:=fun z=>(hch p.1 z).2.2.2 p hp rfl
    exact ⟨keep p.1 p.2 ne nf nch e n,free p.1 p.2 nch e n,ne,nf,d⟩
theorem Inv.un {t':Nat} (I:Inv X pins σ H s) (u:Un X.fs [] H H' s.heap h') (hok:HOk X.prog X.w H' h'):Inv X pins σ H' { s with heap:=h',toks:=t' }:=by
  obtain ⟨m,⟨o,es,ep,ho,r⟩,_⟩:=id I.loc
  obtain ⟨sl,hL⟩:=u.any ho I.free (by simp)
  exact I.step (g':=s.gens) (d':=s.drawn) (ch:=[]) (fun _ z=>nomatch z) (fun b o _ hb _ e n=>u.keep b o e n hb (by simp)) (fun b o _ hb _ e n=>u.slot b o e n hb (by simp)) (fun b o _ e n=>u.free b o e n (by simp)) (fun b o _ e=>u.there b o e (by simp)) u.tups u.frzs u.tbls (fun m' hm=>by
    obtain ⟨o',es',ep',ho',r'⟩:=hm
    rw [ho] at ho';cases ho'
    exact ⟨_,es',ep',hL,r'⟩) hok I.bare
theorem Inv.call {g' : Array GenState} {t' : Nat} {d' : Drawn} {ch : List Addr} (I : Inv X pins σ H s) (u : Un (frs X.stack) ch H H' s.heap h') (hok : HOk X.prog X.w H' h') (hg : AllBare g')
    (hch:∀ b ∈ ch,(b ∈ X.ex∨X.s_0.heap.objs.size≤b)∧b≠X.env.locals∧(∀ x c,X.env.cells.lookup x=some c→c≠b)∧∀ p ∈ X.pn++pins,p.1≠b) :
    Inv X pins σ H' { s with heap:=h',gens:=g',drawn:=d',toks:=t' }:=by
  obtain ⟨m,⟨o,es,ep,ho,r⟩,_⟩:=id I.loc
  obtain ⟨sl,hL⟩:=u.any ho I.free fun z=>(hch _ z).2.1 rfl
  exact I.step (ch:=ch) hch (fun b o hL hb hc e n=>u.keep b o e n (fun z=>(List.mem_cons.mp (I.stkSub b z)).elim hL hb) hc) (fun b o _ _ hc e n=>u.any e n hc) (fun b o hc e n=>u.free b o e n hc) (fun b o hc e=>u.there b o e hc) u.tups u.frzs u.tbls (fun m' hm=>by
    obtain ⟨o',es',ep',ho',r'⟩:=hm
    rw [ho] at ho';cases ho'
    exact ⟨_,es',ep',hL,r'⟩) hok hg
theorem Inv.turned {t' : Nat} {it : Addr} (I : Inv X pins σ H s) (k : ∀ b o, b ≠ it → s.heap.get? b = some o → h'.get? b = some o) (hn : H it = none) (hL : it ≠ X.env.locals)
    (h1:it ∈ X.ex∨X.s_0.heap.objs.size≤it) (h2:∀ x c,X.env.cells.lookup x=some c→c≠it) (h3:∀ p ∈ X.pn++pins,p.1≠it):Inv X pins σ H { s with heap:=h',toks:=t' }:=by
  have nit:∀ b u,H b=some u→b≠it:=fun b u e z=>by rw [z,hn] at e;cases e
  refine I.step (g':=s.gens) (d':=s.drawn) (ch:=[it]) (fun b hb=>?_) (fun b o _ _ hc e _=>k b o (fun z=>hc (by simp [z])) e) (fun b o _ _ hc e _=>⟨o.slots,k b o (fun z=>hc (by simp [z])) e⟩) (fun _ _ _ _ n=>n)
    (fun b o hc e=>⟨o,k b o (fun z=>hc (by simp [z])) e⟩) (fun _ _ e=>e) (fun _ _ _ e=>e) (fun b ps e=>⟨#[],by rw [e];simp⟩) (fun m hm=>?_) (fun b u e=>?_) I.bare
  · have e:b=it:=by simpa using hb
    subst e
    exact ⟨h1,hL,h2,h3⟩
  · obtain ⟨o,es,ep,ho,r⟩:=hm
    exact ⟨o,es,ep,k _ o (Ne.symm hL) ho,r⟩
  · refine (I.hok b u e).stay (fun c v hc q=>k c v ?_ q) (fun _ q=>q) fun _ _ q=>q
    rcases hc with z | z
    · rw [z];exact nit b u e
    · exact nit c _ z
theorem Inv.tok (I:Inv X pins σ H s) (t:Nat):Inv X pins σ H { s with toks:=t }:=I.un (h':=s.heap) (t':=t) Un.refl I.hok
theorem Inv.kept {t':Nat} (I:Inv X pins σ H s) (k:∀ b u,s.heap.get? b=some u→h'.get? b=some u):Inv X pins σ H { s with heap:=h',toks:=t' }:=I.un (Un.kept k) (I.hok.kept k)
theorem Inv.laid {a : Addr} {o : HO} {t' : Nat} (I : Inv X pins σ H s) (k : ∀ b u, s.heap.get? b = some u → h'.get? b = some u) (hp : s.heap.objs.size ≤ a) (new : ObjOk X.prog X.w (upd H a o) h' a o) :
    Inv X pins σ (upd H a o) { s with heap:=h',toks:=t' }:=I.un (Un.laid k hp (I.hok.fresh hp)) (I.hok.laid k hp new)
theorem Inv.write {x e : Addr} {o : HO} {t' : Nat} (I : Inv X pins σ H s) (mu : Mut (H x)) (he : e = x ∨ H e = some (.own x)) (k : ∀ b u, b ≠ e → s.heap.get? b = some u → h'.get? b = some u) (heo : ∃ u, h'.get? e = some u)
    (new:ObjOk X.prog X.w (upd H x o) h' x o):Inv X pins σ (upd H x o) { s with heap:=h',toks:=t' }:=I.un (Un.write mu he k heo) (I.hok.write mu he k heo new)
theorem Inv.weak {σ':List (Option V)} (I:Inv X pins σ H s) (hl : σ'.length = σ.length) (w:∀ (i:Nat) v,σ'[i]? = some (some v)→σ[i]? = some (some v)):Inv X pins σ' H s :=
  ⟨I.ok,I.os,I.bare,I.base,let ⟨m,hn,hl'⟩:=I.loc;⟨m,hn,fun i x v e1 e2 e3=>hl' i x v e1 (w i v e2) e3⟩,I.cell,I.free,I.freeC,I.pin,I.hok,hl.trans I.len⟩
theorem Inv.pins_of {pins':List (Addr × Obj)} (I:Inv X pins σ H s) (h:∀ p ∈ pins',s.heap.get? p.1=some p.2∧H p.1=none∧p.1≠X.env.locals∧p.1 ∉ X.fs∧∀ v,p.2.data ≠ .cell v):Inv X pins' σ H s :=
  ⟨I.ok,I.os,I.bare,I.base,I.loc,I.cell,I.free,I.freeC,fun p hp=>(List.mem_append.mp hp).elim (fun z=>I.pin p (List.mem_append_left _ z)) (h p),I.hok,I.len⟩
theorem nodup_ix {N:List Str} (hN:N.Nodup) {i j:Nat} {x:Str} (a:N[i]? = some x) (b:N[j]? = some x):i=j:=by
  obtain ⟨h1,e1⟩:=List.getElem?_eq_some_iff.mp a
  obtain ⟨h2,e2⟩:=List.getElem?_eq_some_iff.mp b
  exact (List.getElem_inj hN).mp (e1.trans e2.symm)
theorem store_ok2 {M : Model} {A : Around} {E : Value → Shared → Prop} {i : Nat} {x : Str} {v : V} {u : Value} {Q : Unit → Shared → Prop} (I : Inv X pins σ H s) (hN : X.N.Nodup) (hi : X.N[i]? = some x) (hx : Loc X.env.scope x) (r : RelV v u)
    (h:∀ s',Inv X pins (σ.set i (some v)) H s'→(∃ a,Heap.SameBut a s.heap s'.heap∧(a=X.env.locals∨X.env.cells.lookup x=some a))→Q () s') (hf:X.fn x=true∨X.env.scope.names.lookup x=some .local:=by first | exact .inl rfl | exact .inr rfl | assumption):wpAny M A (storeName X.env x u) Q E s:=by
  obtain ⟨m,hn,hl⟩:=id I.loc
  have hcls:(X.env.scope.kind == .class || (X.env.scope.kind == .module&&X.env.locals != X.env.globals))=false:=by rw [I.ok.kind];rfl
  have hiσ : i < σ.length:=by rw [I.len];exact (List.getElem?_eq_some_iff.mp hi).1
  have cne:=I.cne
  have tracked:∀ {a:Addr} {h':Heap},(∃ o,s.heap.get? a=some o∧H a=none)→Heap.SameBut a s.heap h'→HOk X.prog X.w H h':=fun {a h'} ha hs b ob e=>by
    obtain ⟨_,_,hfree⟩:=ha
    refine (I.hok b ob e).stay (fun c w' hc q=>(hs.2 c ?_).trans q) (fun _ q=>q) fun _ _ q=>q
    rintro rfl
    rcases hc with rfl | hc
    · rw [hfree] at e;cases e
    · rw [hfree] at hc;cases hc
  rcases hx with hk | hk
  · refine wpAny_storeName_local hk hn (fun h' hn' hs=>?_) hcls
    obtain ⟨oL,_,_,hoL,_⟩:=id hn
    refine h _ ⟨I.ok,I.os,I.bare,⟨fun b o e n hb hx=>?_,fun b o e n hb hx=>?_,I.base.free,fun b o e hx=>?_,I.base.tups,I.base.frzs,I.base.tbls⟩,⟨_,hn',fun j y v' e1 e2 e3=>?_⟩,fun y c e=>?_,I.free,I.freeC,fun p hp=>?_,tracked ⟨oL,hoL,I.free⟩ hs,by simpa using I.len⟩ ⟨_,hs,.inl rfl⟩
    · exact (hs.2 b (Nat.ne_of_lt (Nat.lt_of_lt_of_le (Heap.lt_size e) I.ok.above))).trans (I.base.keep b o e n hb hx)
    · obtain ⟨sl,e1⟩:=I.base.slot b o e n hb hx
      exact ⟨sl,(hs.2 b (Nat.ne_of_lt (Nat.lt_of_lt_of_le (Heap.lt_size e) I.ok.above))).trans e1⟩
    · obtain ⟨o',e1⟩:=I.base.there b o e hx
      exact ⟨o',(hs.2 b (Nat.ne_of_lt (Nat.lt_of_lt_of_le (Heap.lt_size e) I.ok.above))).trans e1⟩
    · by_cases hj:j=i
      · subst hj
        rw [hi] at e1;cases e1
        rw [List.getElem?_set_self hiσ] at e2
        cases e2
        exact ⟨u,r,.inl ⟨hk,by simp⟩⟩
      · rw [List.getElem?_set_ne (Ne.symm hj)] at e2
        obtain ⟨u',r',q⟩:=hl j y v' e1 e2 e3
        refine ⟨u',r',?_⟩
        rcases q with ⟨k,e⟩ | ⟨k,c,e,z⟩
        · refine .inl ⟨k,?_⟩
          have:y≠x:=fun e=>hj (nodup_ix hN e1 (e ▸ hi))
          simp [this,e]
        · exact .inr ⟨k,c,e,z.sameBut hs (cne y c e)⟩
    · obtain ⟨w',z⟩:=I.cell y c e
      exact ⟨w',z.sameBut hs (cne y c e)⟩
    · obtain ⟨e,n,ne,nf,d⟩:=I.pin p hp
      exact ⟨(hs.2 p.1 ne).trans e,n,ne,nf,d⟩
  · have hfn:X.fn x=true:=by
      rcases hf with z | z
      · exact z
      · rw [z] at hk;cases hk
    obtain ⟨c,hc⟩:=I.ok.has x (.inl hk)
    obtain ⟨w',z⟩:=I.cell x c hc
    refine wpAny_storeName_cell I.ok.kind hk hc z (fun h' hc' hs=>?_)
    obtain ⟨oc,hoc,hocd⟩:=id z
    refine h { s with heap:=h' } ⟨I.ok,I.os,I.bare,⟨fun b o e n hb hx=>?_,fun b o e n hb hx=>?_,I.base.free,fun b o e hx=>?_,I.base.tups,I.base.frzs,I.base.tbls⟩,⟨m,hn.sameBut hs (Ne.symm (cne x c hc)),fun j y v' e1 e2 e3=>?_⟩,fun y c' e=>?_,I.free,I.freeC,fun p hp=>?_,tracked ⟨oc,hoc,I.freeC x c hc⟩ hs,by simpa using I.len⟩ ⟨c,hs,.inr hc⟩
    · exact (hs.2 b (Nat.ne_of_lt (Nat.lt_of_lt_of_le (Heap.lt_size e) (I.ok.cab x c hfn hc)))).trans (I.base.keep b o e n hb hx)
    · obtain ⟨sl,e1⟩:=I.base.slot b o e n hb hx
      exact ⟨sl,(hs.2 b (Nat.ne_of_lt (Nat.lt_of_lt_of_le (Heap.lt_size e) (I.ok.cab x c hfn hc)))).trans e1⟩
    · obtain ⟨o',e1⟩:=I.base.there b o e hx
      exact ⟨o',(hs.2 b (Nat.ne_of_lt (Nat.lt_of_lt_of_le (Heap.lt_size e) (I.ok.cab x c hfn hc)))).trans e1⟩
    · by_cases hj:j=i
      · subst hj
        rw [hi] at e1;cases e1
        rw [List.getElem?_set_self hiσ] at e2
        cases e2
        exact ⟨u,r,.inr ⟨.inl hk,c,hc,hc'⟩⟩
      · rw [List.getElem?_set_ne (Ne.symm hj)] at e2
        obtain ⟨u',r',q⟩:=hl j y v' e1 e2 e3
        refine ⟨u',r',?_⟩
        rcases q with q | ⟨k,c',e,z'⟩
        · exact .inl q
        · refine .inr ⟨k,c',e,z'.sameBut hs ?_⟩
          rintro rfl
          exact hj (nodup_ix hN e1 (I.ok.inj _ _ _ e hc ▸ hi))
    · by_cases hcc:c'=c
      · subst hcc;exact ⟨_,hc'⟩
      · obtain ⟨w2,z2⟩:=I.cell y c' e
        exact ⟨w2,z2.sameBut hs hcc⟩
    · obtain ⟨e,n,ne,nf,d⟩:=I.pin p hp
      refine ⟨(hs.2 p.1 ?_).trans e,n,ne,nf,d⟩
      intro q
      rw [q,hoc] at e
      have q':oc=p.2:=Option.some.inj e
      exact d w' (by rw [← q'];exact hocd)
theorem store_ok {M : Model} {A : Around} {E : Value → Shared → Prop} {i : Nat} {x : Str} {v : V} {u : Value} {Q : Unit → Shared → Prop} (I : Inv X pins σ H s) (hN : X.N.Nodup) (hi : X.N[i]? = some x) (hx : Loc X.env.scope x) (r : RelV v u)
    (h:∀ s',Inv X pins (σ.set i (some v)) H s'→Q () s') (hf:X.fn x=true∨X.env.scope.names.lookup x=some .local:=by first | exact .inl rfl | exact .inr rfl | assumption):wpAny M A (storeName X.env x u) Q E s :=
  store_ok2 I hN hi hx r (fun s' I' _=>h s' I') hf
theorem Inv.call' {s' : Shared} {ch : List Addr} (I : Inv X pins σ H s) (ho : s'.os = s.os) (u : Un (frs X.stack) ch H H' s.heap s'.heap) (hok : HOk X.prog X.w H' s'.heap) (hg : AllBare s'.gens)
    (hch:∀ b ∈ ch,(b ∈ X.ex∨X.s_0.heap.objs.size≤b)∧b≠X.env.locals∧(∀ x c,X.env.cells.lookup x=some c→c≠b)∧∀ p ∈ X.pn++pins,p.1≠b):Inv X pins σ H' s':=by
  obtain ⟨h',g',d',t',o'⟩:=s'
  have e:o'=s.os:=ho
  subst e
  exact I.call (g':=g') (t':=t') (d':=d') u hok hg hch
end
abbrev XK:=Value→Option Addr→Hp→Prop
abbrev St:=List (Option V)
abbrev VK:=V→Hp→Prop
abbrev TE:=St→Hp→VK→Prop
abbrev TT:=St→Hp→(Bool→Hp→Prop)→Prop
abbrev TA:=St→Hp→(List V→Hp→Prop)→Prop
structure Ends where
  nx:St→Hp→Prop
  rt:VK
  bk:St→Hp→Prop:=fun _ _=>False
  ct:St→Hp→Prop:=fun _ _=>False
abbrev TS:=Ends→St→Hp→Prop
def EP (X:Cx) (pins:List (Addr × Obj)) (σ : St) (Q:VK) (u:Value) (s':Shared):Prop:=∃ v H',Inv X pins σ H' s'∧RelV v u∧Q v H'
def TP (X:Cx) (pins:List (Addr × Obj)) (σ : St) (Q:Bool→Hp→Prop) (b:Bool) (s':Shared):Prop:=∃ H',Inv X pins σ H' s'∧Q b H'
def AP (X:Cx) (pins:List (Addr × Obj)) (σ : St) (Q:List V→Hp→Prop) (us:List Value) (s':Shared):Prop:=∃ vs H',Inv X pins σ H' s'∧Vals vs us∧Q vs H'
def SP (X:Cx) (pins:List (Addr × Obj)) (D:Ends) (f:Flow) (s':Shared):Prop :=
  match f with
  | .next=>∃ σ' H',Inv X pins σ' H' s'∧D.nx σ' H'
  | .brk=>∃ σ' H',Inv X pins σ' H' s'∧D.bk σ' H'
  | .cont=>∃ σ' H',Inv X pins σ' H' s'∧D.ct σ' H'
  | .ret u=>∃ v σ' H',Inv X pins σ' H' s'∧RelV v u∧D.rt v H'
def PE (X:Cx) (e:Expr) (t:TE):Prop :=
  ∀ (pins:List (Addr × Obj)) (s:Shared) (σ : St) (H:Hp) (Q:VK),Inv X pins σ H s→t σ H Q→wpAny (model X.prog X.w) X.A (eval e X.env) (EP X pins σ Q) X.xe s
def PT (X:Cx) (e:Expr) (t:TT):Prop :=
  ∀ (pins:List (Addr × Obj)) (s:Shared) (σ : St) (H:Hp) (Q:Bool→Hp→Prop),Inv X pins σ H s→t σ H Q→wpAny (model X.prog X.w) X.A (isTrue e X.env (eval e X.env)) (TP X pins σ Q) X.xe s
def PW (X:Cx) (e:Expr) (t:TT):Prop :=
  ∀ (whole:Sem Value) (pins:List (Addr × Obj)) (s:Shared) (σ : St) (H:Hp) (Q:Bool→Hp→Prop),Inv X pins σ H s→t σ H Q→wpAny (model X.prog X.w) X.A (isTrue e X.env whole) (TP X pins σ Q) X.xe s
theorem PW.pt {X:Cx} {e:Expr} {t:TT} (h:PW X e t):PT X e t:=h _
def PA (X:Cx) (es:List Expr) (t:TA):Prop :=
  ∀ (pos:Pos) (pins:List (Addr × Obj)) (s:Shared) (σ : St) (H:Hp) (Q:List V→Hp→Prop),Inv X pins σ H s→t σ H Q→wpAny (model X.prog X.w) X.A (spliced (backTo pos (starEach es X.env))) (AP X pins σ Q) X.xe s
def PS (X:Cx) (st:Stmt) (t:TS):Prop :=
  ∀ (pins:List (Addr × Obj)) (s:Shared) (σ : St) (H:Hp) (D:Ends),Inv X pins σ H s→t D σ H→wpAny (model X.prog X.w) X.A (exec st X.env) (SP X pins D) X.xe s
def PSs (X:Cx) (st:List Stmt) (t:TS):Prop :=
  ∀ (pins:List (Addr × Obj)) (s:Shared) (σ : St) (H:Hp) (D:Ends),Inv X pins σ H s→t D σ H→wpAny (model X.prog X.w) X.A (execs st X.env) (SP X pins D) X.xe s
theorem thn {α : Type} {t:Sem α} {Q Q' : α→Shared→Prop} {M:Model} {A:Around} {E:Value→Shared→Prop} {s:Shared} (h:wpAny M A t Q E s) (hQ:∀ a s,Q a s→Q' a s):wpAny M A t Q' E s:=wpAny_mono h hQ fun _ _ x=>x
end L2
namespace L2
open PySem PySem.Spec PyProof.Rows
section
variable {X:Cx}
def tVar (i:Nat):TE:=fun σ H Q=>∃ v,σ[i]? = some (some v)∧Q v H
def tC (v:V):TE:=fun _ H Q=>Q v H
theorem pe_var {i:Nat} {x:Str} {pos:Pos} (hN:X.N[i]? = some x) (hv:Vis X.env.scope x) (hd:(x == ("__debug__" : Str))=false:=by decide) (hcd:(x == ("__classdict__" : Str))=false:=by decide):PE X (.Name x pos) (tVar i):=by
  intro pins s σ H Q I h
  obtain ⟨v,e,h⟩:=h
  obtain ⟨m,hn,hl⟩:=I.loc
  obtain ⟨u,r,l⟩:=hl i x v hN e hv
  have fin:EP X pins σ Q u s:=⟨v,H,I,r,h⟩
  rcases l with ⟨hk,hm⟩ | ⟨hk,c,hc,hcell⟩
  · exact wpAny_Name (wpAny_loadName_local I.ok.kind hk hn hm fin) hd
  · rcases hk with hk | hk
    · exact wpAny_Name (wpAny_loadName_cell I.ok.kind hk hc hcell fin) hd
    · exact wpAny_Name (wpAny_loadName_free I.ok.kind hk hc hcell fin hcd) hd
theorem pe_int {i j pos}:PE X (.Constant (.int i) j pos) (tC (.int i)):=fun _ _ _ H _ I h=>wpAny_Constant_int ⟨.int i,H,I.tok _,⟨_,rfl⟩,h⟩
theorem pe_bl {b j pos}:PE X (.Constant (.bool b) j pos) (tC (.bl b)):=fun _ _ _ H _ I h=>Constant_bool ⟨.bl b,H,I,rfl,h⟩
theorem pe_non {j pos}:PE X (.Constant .none j pos) (tC .non):=fun _ _ _ H _ I h=>Constant_none ⟨.non,H,I,rfl,h⟩
def Gl (X:Cx) (x:Str):Prop:=X.env.kindOf x=some .globalImplicit
theorem ld_glob {E : Value → Shared → Prop} {pins : List (Addr × Obj)} {s : Shared} {σ : St} {H : Hp} {x : Str} {u : Value} {pos : Pos} {Q : Value → Shared → Prop} (I : Inv X pins σ H s) (hg : Gl X x) (hm : X.mg x = some u) (h : Q u s)
    (hd:(x == ("__debug__" : Str))=false:=by decide):wpAny (model X.prog X.w) X.A (eval (.Name x pos) X.env) Q E s :=
  Calls.Name_function_global I.ok.kind hg (Calls.loadGlobal_global (by rw [I.ok.glob];exact I.mod.glob.keeps I.bk) hm h) hd
theorem ld_blt {E : Value → Shared → Prop} {pins : List (Addr × Obj)} {s : Shared} {σ : St} {H : Hp} {x : Str} {u : Value} {pos : Pos} {Q : Value → Shared → Prop} (I : Inv X pins σ H s) (hg : Gl X x) (hm : X.mg x = none) (hv : bootBuiltins x = some u) (h : Q u s)
    (hn:x ≠ "__name__" := by decide) (hd:(x == ("__debug__" : Str))=false:=by decide):wpAny (model X.prog X.w) X.A (eval (.Name x pos) X.env) Q E s:=by
  obtain ⟨mb,h1,h2⟩:=I.mod.blt
  exact Calls.Name_function_global I.ok.kind hg (Calls.loadGlobal_builtin (by rw [I.ok.glob];exact I.mod.glob.keeps I.bk) hm (by rw [I.ok.blt];exact h1.keeps I.bk) ((h2 x hn).trans hv) h) hd
theorem pe_glob {x:Str} {v:V} {u:Value} {pos:Pos} (hg:Gl X x) (hm:X.mg x=some u) (r:RelV v u) (hd:(x == ("__debug__" : Str))=false:=by decide):PE X (.Name x pos) (tC v) :=
  fun _ _ _ H _ I h=>ld_glob I hg hm ⟨v,H,I,r,h⟩ hd
variable {a b:Expr} {ta tb:TE} {pos:Pos}
def PC (X:Cx) (op:CmpOp) (a b:Expr) (t:TE):Prop :=
  ∀ (pins:List (Addr × Obj)) (s:Shared) (σ : St) (H:Hp) (Q:VK),Inv X pins σ H s→t σ H Q →
    wpAny (model X.prog X.w) X.A (eval a X.env) (fun v s₁=>wpAny (model X.prog X.w) X.A (eval b X.env) (fun u s₂=>wpAny (model X.prog X.w) X.A (compareOp op v u) (EP X pins σ Q) X.xe s₂) X.xe s₁) X.xe s
theorem nobehind (b:Expr) {op:CmpOp} (h:op ≠ .In) (h2:op ≠ .NotIn):behindInMarks op b=false:=by
  have e1:(op == CmpOp.In)=false:=by cases op <;> first | rfl | exact absurd rfl h
  have e2:(op == CmpOp.NotIn)=false:=by cases op <;> first | rfl | exact absurd rfl h2
  cases b <;> simp [behindInMarks,e1,e2]
def tIsN (ta:TE):TE:=fun σ H Q=>ta σ H fun x H1=>Q (.bl (decide (x = .non))) H1
def tNotN (ta:TE):TE:=fun σ H Q=>ta σ H fun x H1=>Q (.bl (!decide (x = .non))) H1
theorem RelV.none_iff {x:V} {v:Value} (r:RelV x v):(v == Value.none)=decide (x = .non):=by
  cases x with
  | non=>cases r;rfl
  | bl _=>cases r;rfl
  | int _=>obtain ⟨t,rfl⟩:=r;rfl
  | str _=>obtain ⟨t,rfl⟩:=r;rfl
  | byt _=>obtain ⟨t,rfl⟩:=r;rfl
  | flt _=>obtain ⟨t,rfl⟩:=r;rfl
  | ref _=>cases r;rfl
  | ty _=>cases r;rfl
theorem pc_isN {j pos'} (ha:PE X a ta):PC X .Is a (.Constant .none j pos') (tIsN ta):=by
  intro pins s σ H Q I h
  refine thn (ha pins s σ H _ I h) fun v s1 ⟨x,H1,I1,r1,q1⟩=>?_
  exact Constant_none (is_none_gen ⟨.bl _,H1,I1,by rw [r1.none_iff];rfl,q1⟩)
theorem pc_notN {j pos'} (ha:PE X a ta):PC X .IsNot a (.Constant .none j pos') (tNotN ta):=by
  intro pins s σ H Q I h
  refine thn (ha pins s σ H _ I h) fun v s1 ⟨x,H1,I1,r1,q1⟩=>?_
  exact Constant_none (isnot_none_gen ⟨.bl _,H1,I1,by rw [r1.none_iff];rfl,q1⟩)
def tB (t:TE):TT:=fun σ H Q=>t σ H fun x H1=>∃ c,x = .bl c∧Q c H1
theorem pe_cmp {op:CmpOp} {t:TE} (h:PC X op a b t) (h1:behindInMarks op b=false:=by first | exact nobehind _ (by decide) (by decide) | rfl):PE X (.Compare a [op] [b] pos) t:=fun pins s σ H Q I hw=>wpAny_Compare1 (h pins s σ H Q I hw) h1
theorem pt_cmp {op:CmpOp} {t:TE} (h:PC X op a b t) (h1:behindInMarks op b=false:=by first | exact nobehind _ (by decide) (by decide) | rfl):PT X (.Compare a [op] [b] pos) (tB t):=by
  intro pins s σ H Q I hw
  refine wpAny_isTrue_Compare1 (thn (h pins s σ H _ I hw) fun v s1 h1=>thn h1 fun u s2 h2=>thn h2 fun c s3 ⟨x,H1,I1,r1,q1⟩=>?_) h1
  obtain ⟨d,rfl,q⟩:=q1
  cases r1
  exact wpAny_truthy_bool ⟨H1,I1,q⟩
theorem pt_val {e:Expr} {t:TE} (h:PE X e t) (he:∀ whole,isTrue e X.env whole=(do let v ← whole;standAt e.pos;holding [v] (truthy v)):=by intro _;rfl):PT X e (tB t):=by
  intro pins s σ H Q I hw
  refine isTrue_plain (thn (h pins s σ H _ I hw) fun v s1 ⟨x,H1,I1,r1,q1⟩=>?_) (he _)
  obtain ⟨d,rfl,q⟩:=q1
  cases r1
  exact wpAny_truthy_bool ⟨H1,I1,q⟩
variable {tA tB':TT} {rest:List Expr}
def tAnd (t u:TT):TT:=fun σ H Q=>t σ H fun c H1=>if c=true then u σ H1 Q else Q false H1
def tOr (t u:TT):TT:=fun σ H Q=>t σ H fun c H1=>if c=true then Q true H1 else u σ H1 Q
def tNot (t:TT):TT:=fun σ H Q=>t σ H fun c H1=>Q (!c) H1
theorem pw_and1 (ha:PT X a tA):PW X (.BoolOp .And [a] pos) tA:=by
  intro wh pins s σ H Q I h
  refine isTrue_and (thn (ha pins s σ H Q I h) fun c s1 e=>?_)
  cases c with
  | true=>exact isTrue_and_nil e
  | false=>exact e
theorem pw_or1 (ha:PT X a tA):PW X (.BoolOp .Or [a] pos) tA:=by
  intro wh pins s σ H Q I h
  refine isTrue_or (thn (ha pins s σ H Q I h) fun c s1 e=>?_)
  cases c with
  | false=>exact isTrue_or_nil e
  | true=>exact e
theorem pw_and (ha:PT X a tA) (hb:PW X (.BoolOp .And (b :: rest) pos) tB'):PW X (.BoolOp .And (a :: b :: rest) pos) (tAnd tA tB'):=by
  intro wh pins s σ H Q I h
  refine isTrue_and (thn (ha pins s σ H _ I h) fun c s1 ⟨H1,I1,q1⟩=>?_)
  cases c with
  | true=>exact hb wh pins s1 σ H1 Q I1 q1
  | false=>exact ⟨H1,I1,q1⟩
theorem pw_or (ha:PT X a tA) (hb:PW X (.BoolOp .Or (b :: rest) pos) tB'):PW X (.BoolOp .Or (a :: b :: rest) pos) (tOr tA tB'):=by
  intro wh pins s σ H Q I h
  refine isTrue_or (thn (ha pins s σ H _ I h) fun c s1 ⟨H1,I1,q1⟩=>?_)
  cases c with
  | true=>exact ⟨H1,I1,q1⟩
  | false=>exact hb wh pins s1 σ H1 Q I1 q1
theorem pt_not (ha:PT X a tA):PT X (.UnaryOp .Not a pos) (tNot tA):=by
  intro pins s σ H Q I h
  exact isTrue_not (ha pins s σ H (fun c H1=>Q (!c) H1) I h)
def tAndV (ta tb:TE):TE:=fun σ H Q=>ta σ H fun x H1=>∃ c,x = .bl c∧if c=true then tb σ H1 Q else Q (.bl false) H1
theorem pe_one {op} {t:TE} (h:PE X a t):PE X (.BoolOp op [a] pos) t:=fun pins s σ H Q I hw=>BoolOp_one (h pins s σ H Q I hw)
theorem pe_and (ha:PE X a ta) (hb:PE X (.BoolOp .And (b :: rest) pos) tb):PE X (.BoolOp .And (a :: b :: rest) pos) (tAndV ta tb):=by
  intro pins s σ H Q I h
  refine BoolOp_and (thn (ha pins s σ H _ I h) fun v s1 ⟨x,H1,I1,r1,q1⟩=>?_)
  obtain ⟨c,rfl,q1⟩:=q1
  cases r1
  refine wpAny_truthy_bool ?_
  cases c with
  | true=>exact hb pins s1 σ H1 Q I1 q1
  | false=>exact ⟨.bl false,H1,I1,rfl,q1⟩
def tIf (t:TT) (ta tb:TE):TE:=fun σ H Q=>t σ H fun c H1=>if c=true then ta σ H1 Q else tb σ H1 Q
theorem pe_ifExp {c:Expr} (hc:PT X c tA) (ha:PE X a ta) (hb:PE X b tb):PE X (.IfExp c a b pos) (tIf tA ta tb):=by
  intro pins s σ H Q I h
  refine wpAny_IfExp (thn (hc pins s σ H _ I h) fun d s1 ⟨H1,I1,q1⟩=>?_)
  cases d with
  | true=>exact ha pins s1 σ H1 Q I1 q1
  | false=>exact hb pins s1 σ H1 Q I1 q1
end
end L2
namespace L2
open PySem PySem.Spec PyProof.Rows
def SqL (K:PySem.W.Frag) (H:Hp) (a:Addr) (xs:List V):Prop :=
  Rd H a (.lst xs) ∨
    ∃ (o:Obj) (its:Array Value) (n:Nat),K.lookup a=some o∧o.cls = .type "list" ∧ o.dict=none∧o.data = .seq its n∧its.size≤sizeLine∧Vals xs its.toList
def SqT (K:PySem.W.Frag) (H:Hp) (a:Addr) (xs:List V):Prop :=
  Rd H a (.tup xs) ∨
    ∃ (o:Obj) (its:Array Value) (n:Nat),K.lookup a=some o∧o.cls = .type "tuple" ∧ o.data = .seq its n∧its.size≤sizeLine∧Vals xs its.toList
def absV:Value→Option V
  | .none=>some .non
  | .bool b=>some (.bl b)
  | .int i _=>some (.int i)
  | .str x _=>some (.str x)
  | .bytes b _=>some (.byt b)
  | .float b _=>some (.flt b)
  | .ref a=>some (.ref a)
  | .type n=>some (.ty n)
  | _=>none
theorem RelV.abs {x:V} {u:Value} (r:RelV x u):absV u=some x:=by
  cases x with
  | non=>cases r;rfl
  | bl _=>cases r;rfl
  | int _=>obtain ⟨t,rfl⟩:=r;rfl
  | str _=>obtain ⟨t,rfl⟩:=r;rfl
  | byt _=>obtain ⟨t,rfl⟩:=r;rfl
  | flt _=>obtain ⟨t,rfl⟩:=r;rfl
  | ref _=>cases r;rfl
  | ty _=>cases r;rfl
theorem RelV.inj {x y:V} {u:Value} (r:RelV x u) (q:RelV y u):x=y:=Option.some.inj (r.abs.symm.trans q.abs)
theorem Vals.inj:∀ {xs ys:List V} {us:List Value},Vals xs us→Vals ys us→xs=ys
  | _,_,_,.nil,.nil=>rfl
  | _,_,_,.cons r t,.cons r' t'=>by rw [r.inj r',Vals.inj t t']
section
variable {X:Cx} {pins:List (Addr × Obj)} {σ : St} {H:Hp} {s:Shared} {a:Addr} {xs ys:List V}
theorem SqL.of {K:PySem.W.Frag} (h:H a=some (.lst xs)):SqL K H a xs:=.inl (.inl h)
theorem SqT.of {K:PySem.W.Frag} (h:H a=some (.tup xs)):SqT K H a xs:=.inl (.inl h)
theorem Inv.list (I:Inv X pins σ H s) (h:SqL X.K H a xs):∃ its:List Value,Vals xs its∧PlainL s.heap a its.toArray∧xs.length≤sizeLine:=by
  rcases h with h | ⟨o,its,n,hk,hc,hd,hs,hz,r⟩
  · obtain ⟨z,its,n,r,e⟩:=h.ok I.hok
    exact ⟨its,r,⟨_,n,e,rfl,rfl,rfl⟩,z⟩
  · refine ⟨its.toList,r,⟨o,n,I.kIn a o hk,hc,hd,by simpa using hs⟩,?_⟩
    have e:=r.length
    simp only [Array.length_toList] at e
    omega
theorem Inv.tuple (I:Inv X pins σ H s) (h:SqT X.K H a xs):∃ its:List Value,Vals xs its∧IsTup s.heap a its.toArray∧xs.length≤sizeLine:=by
  rcases h with h | ⟨o,its,n,hk,hc,hs,hz,r⟩
  · obtain ⟨z,its,r,p⟩:=h.ok I.hok
    exact ⟨its,r,p,z⟩
  · refine ⟨its.toList,r,⟨o,I.kIn a o hk,hc,n,by simpa using hs⟩,?_⟩
    have e:=r.length
    simp only [Array.length_toList] at e
    omega
theorem Inv.list_inj (I:Inv X pins σ H s) (h:SqL X.K H a xs) (h':SqL X.K H a ys):xs=ys:=by
  obtain ⟨its,r,⟨o,n,e,_,_,d⟩,_⟩:=I.list h
  obtain ⟨its',r',⟨o',n',e',_,_,d'⟩,_⟩:=I.list h'
  rw [e] at e';cases e'
  rw [d] at d'
  injection d' with d1 _
  have:its=its':=by simpa using congrArg Array.toList d1
  subst this
  exact r.inj r'
end
abbrev Cx.wish (X:Cx) (E:Value→Shared→Prop):Cx:={ X with xe:=E }
abbrev Cx.nox (X:Cx):Cx:=X.wish fun _ _=>False
theorem Cx.Ok.wish {X:Cx} (ok:X.Ok) (E:Value→Shared→Prop):(X.wish E).Ok :=
  ⟨ok.mod,ok.kind,ok.glob,ok.blt,ok.above,ok.inj,ok.has,ok.cab,ok.hd,ok.frames,ok.stk,ok.exf,ok.bs,ok.bsz,ok.noex,ok.exfs,ok.funs,ok.frf⟩
theorem Cx.Ok.unwish {X:Cx} {E:Value→Shared→Prop} (ok:(X.wish E).Ok):X.Ok :=
  ⟨ok.mod,ok.kind,ok.glob,ok.blt,ok.above,ok.inj,ok.has,ok.cab,ok.hd,ok.frames,ok.stk,ok.exf,ok.bs,ok.bsz,ok.noex,ok.exfs,ok.funs,ok.frf⟩
section
variable {X:Cx} {pins:List (Addr × Obj)} {σ : St} {H:Hp} {s:Shared} {E:Value→Shared→Prop}
theorem Inv.wish (I:Inv X pins σ H s) (E:Value→Shared→Prop):Inv (X.wish E) pins σ H s:=⟨I.ok.wish E,I.os,I.bare,I.base,I.loc,I.cell,I.free,I.freeC,I.pin,I.hok,I.len⟩
theorem Inv.unwish (I:Inv (X.wish E) pins σ H s):Inv X pins σ H s:=⟨I.ok.unwish,I.os,I.bare,I.base,I.loc,I.cell,I.free,I.freeC,I.pin,I.hok,I.len⟩
theorem SP.unwish {D:Ends} {f:Flow} {s':Shared} (h:SP (X.wish E) pins D f s'):SP X pins D f s':=by
  cases f with
  | next=>obtain ⟨σ',H',I,q⟩:=h;exact ⟨σ',H',I.unwish,q⟩
  | brk=>obtain ⟨σ',H',I,q⟩:=h;exact ⟨σ',H',I.unwish,q⟩
  | cont=>obtain ⟨σ',H',I,q⟩:=h;exact ⟨σ',H',I.unwish,q⟩
  | ret u=>obtain ⟨v,σ',H',I,r,q⟩:=h;exact ⟨v,σ',H',I.unwish,r,q⟩
theorem PSs.nox {st:List Stmt} {t:TS} (h:PSs X.nox st t):PSs X st t:=fun pins s σ H D I hw =>
  wpAny_mono (h pins s σ H D (I.wish _) hw) (fun _ _ q=>q.unwish) fun _ _ z=>False.elim z
end
section
variable {X:Cx} {st:Stmt} {rest:List Stmt} {t u:TS} {e:Expr} {te:TE} {pos:Pos}
def tNext:TS:=fun D σ H=>D.nx σ H
def tSeq (t u:TS):TS:=fun D σ H=>t { D with nx:=u D } σ H
theorem pss_nil:PSs X [] tNext:=fun _ _ σ H _ I h=>wpAny_execs_nil ⟨σ,H,I,h⟩
theorem pss_cons (h1:PS X st t) (h2:PSs X rest u):PSs X (st :: rest) (tSeq t u):=by
  intro pins s σ H D I h
  refine wpAny_execs_cons (thn (h1 pins s σ H { D with nx:=u D } I h) fun f s1 q=>?_)
  cases f with
  | next =>
    obtain ⟨σ',H',I',q⟩:=q
    exact h2 pins s1 σ' H' D I' q
  | ret v=>exact q
  | brk=>exact q
  | cont=>exact q
theorem pss_one (h1:PS X st t):PSs X [st] t:=by
  intro pins s σ H D I h
  refine wpAny_execs_cons (thn (h1 pins s σ H D I h) fun f s1 q=>?_)
  cases f with
  | next=>exact wpAny_execs_nil q
  | ret v=>exact q
  | brk=>exact q
  | cont=>exact q
theorem Inv.quiet {pins:List (Addr × Obj)} {σ : St} {H:Hp} {s:Shared} (I:Inv X pins σ H s):interactive X.env=false:=by simp [interactive,I.ok.kind]
def tDrop (te:TE):TS:=fun D σ H=>te σ H fun _ H1=>D.nx σ H1
theorem ps_expr (he:PE X e te) (hs:swapsWith e none pos.line X.env=pure false:=by rfl):PS X (.Expr e pos) (tDrop te):=by
  intro pins s σ H D I h
  exact wpAny_Expr_any (thn (he pins s σ H _ I h) fun v s1 ⟨x,H1,I1,r1,q1⟩=>⟨σ,H1,I1,q1⟩) I.quiet hs
def tRet (te:TE):TS:=fun D σ H=>te σ H D.rt
theorem ps_ret (he:PE X e te):PS X (.Return (some e) pos) (tRet te):=by
  intro pins s σ H D I h
  exact wpAny_Return_some (thn (he pins s σ H _ I h) fun v s1 ⟨x,H1,I1,r1,q1⟩=>⟨x,σ,H1,I1,r1,q1⟩)
def tIfS (c:TT) (t u:TS):TS:=fun D σ H=>c σ H fun b H1=>if b=true then t D σ H1 else u D σ H1
theorem ps_if {c:Expr} {a b:List Stmt} {tc:TT} (hc:PT X c tc) (ha:PSs X a t) (hb:PSs X b u):PS X (.If c a b pos) (tIfS tc t u):=by
  intro pins s σ H D I h
  refine wpAny_If (thn (hc pins s σ H _ I h) fun d s1 ⟨H1,I1,q1⟩=>?_)
  cases d with
  | true=>exact ha pins s1 σ H1 D I1 q1
  | false=>exact hb pins s1 σ H1 D I1 q1
end
abbrev TG:=V→St→Hp→(St→Hp→Prop)→Prop
abbrev TGs:=List V→St→Hp→(St→Hp→Prop)→Prop
def PG (X:Cx) (target:Expr) (t:TG):Prop :=
  ∀ (pins:List (Addr × Obj)) (s:Shared) (σ : St) (H:Hp) (v:V) (u:Value) (Q:St→Hp→Prop),Inv X pins σ H s→RelV v u→t v σ H Q →
    wpAny (model X.prog X.w) X.A (assign target X.env u) (fun _ s'=>∃ σ' H',Inv X pins σ' H' s'∧Q σ' H') X.xe s
def PGs (X:Cx) (ts:List Expr) (t:TGs):Prop :=
  ∀ (pins:List (Addr × Obj)) (s:Shared) (σ : St) (H:Hp) (vs:List V) (us:List Value) (Q:St→Hp→Prop),Inv X pins σ H s→Vals vs us→t vs σ H Q →
    wpAny (model X.prog X.w) X.A (assignInOrder ((assignEach ts X.env).map (·.2)) us) (fun _ s'=>∃ σ' H',Inv X pins σ' H' s'∧Q σ' H') X.xe s
abbrev TSet:=V→V→V→Hp→(Hp→Prop)→Prop
def PSet (X:Cx) (t:TSet):Prop :=
  ∀ (pins:List (Addr × Obj)) (s:Shared) (σ : St) (H:Hp) (o i v:V) (ov iv u:Value) (Q:Hp→Prop),Inv X pins σ H s→RelV o ov→RelV i iv→RelV v u→t o i v H Q →
    wpAny (model X.prog X.w) X.A (setItem ov iv u) (fun _ s'=>∃ H',Inv X pins σ H' s'∧Q H') X.xe s
section
variable {X:Cx} {pos:Pos}
def gName (i:Nat):TG:=fun v σ H Q=>Q (σ.set i (some v)) H
theorem pg_name {i:Nat} {x:Str} (hN:X.N.Nodup) (hi:X.N[i]? = some x) (hx:Loc X.env.scope x) (hf:X.fn x=true∨X.env.scope.names.lookup x=some .local:=by first | exact .inl rfl | exact .inr rfl | assumption):PG X (.Name x pos) (gName i):=by
  intro pins s σ H v u Q I r h
  exact wpAny_assign_Name (store_ok I hN hi hx r (fun s' I'=>⟨_,H,I',h⟩) hf)
def gNil:TGs:=fun vs σ H Q=>vs=[]∧Q σ H
def gCons (t:TG) (u:TGs):TGs:=fun vs σ H Q=>∃ v r,vs=v :: r∧t v σ H fun σ' H'=>u r σ' H' Q
theorem pgs_nil:PGs X [] gNil:=by
  intro pins s σ H vs us Q I r h
  obtain ⟨e,h⟩:=h
  subst e
  cases r
  exact assignInOrder_nil ⟨σ,H,I,h⟩
theorem pgs_cons {e : Expr} {es : List Expr} {t : TG} {u : TGs} (h1 : PG X e t) (h2 : PGs X es u)
    (hs:(assignEach (e :: es) X.env).map (·.2)=assign e X.env :: (assignEach es X.env).map (·.2):=by rfl):PGs X (e :: es) (gCons t u):=by
  intro pins s σ H vs us Q I r h
  obtain ⟨v,vr,e1,h⟩:=h
  subst e1
  cases r with
  | cons r rr =>
    rw [hs]
    refine assignInOrder_cons (thn (h1 pins s σ H _ _ _ I r h) fun _ s1 ⟨σ1,H1,I1,q1⟩=>?_)
    exact h2 pins s1 σ1 H1 _ _ Q I1 rr q1
def gTup (K:PySem.W.Frag) (n:Nat) (t:TGs):TG:=fun v σ H Q=>∃ a xs,v = .ref a∧SqT K H a xs∧xs.length=n∧t xs σ H Q
theorem pg_tup {es : List Expr} {k : Nat} {t : TGs} {n : Nat} (hc : X.calm = true) (h : PGs X es t)
    (hn:(assignEach es X.env).length=n:=by rfl) (hst:(assignEach es X.env).findIdx? (·.1)=none:=by rfl):PG X (.Tuple es k pos) (gTup X.K n t):=by
  intro pins s σ H v u Q I r hw
  obtain ⟨a,xs,e1,hq,hl,hw⟩:=hw
  subst e1
  cases r
  obtain ⟨its,rv,ht,hz⟩:=I.tuple hq
  refine assign_Tuple_tuple (I.ok.hd hc) ht (by simp [hn,← hl,rv.length]) hst fun h' hx=>?_
  have I1:Inv X pins σ H { s with heap:=h' }:=I.kept (t':=s.toks) fun b o e=>hx b o (Nat.ne_of_lt (Heap.lt_size e)) e
  exact h pins _ σ H xs _ Q I1 (by simpa using rv) hw
def gSub (to ti:TE) (t:TSet):TG:=fun v σ H Q=>to σ H fun o H1=>ti σ H1 fun i H2=>t o i v H2 fun H3=>Q σ H3
theorem pg_sub {o i : Expr} {to ti : TE} {t : TSet} (ho : PE X o to) (hi : PE X i ti) (hs : PSet X t)
    (ha:∀ v,assign (.Subscript o i pos) X.env v=(do
      let ov ← holding [v] (eval o X.env)
      let iv ← holding [v,ov] (eval i X.env)
      standAt pos
      holding [v,ov,iv] (setItem ov iv v)
      release [v,ov,iv] []):=by intro _;rfl):PG X (.Subscript o i pos) (gSub to ti t):=by
  intro pins s σ H v u Q I r h
  rw [ha]
  refine wpAny_bind (wpAny_holding (thn (ho pins s σ H _ I h) fun ov s1 ⟨x,H1,I1,r1,q1⟩=>?_))
  refine wpAny_bind (wpAny_holding (thn (hi pins s1 σ H1 _ I1 q1) fun iv s2 ⟨y,H2,I2,r2,q2⟩=>?_))
  refine wpAny_bind (wpAny_standAt (wpAny_bind (wpAny_holding (thn (hs pins s2 σ H2 x y v ov iv u _ I2 r1 r2 r q2) fun _ s3 ⟨H3,I3,q3⟩=>?_))))
  exact wpAny_release ⟨σ,H3,I3,q3⟩
def tAsg (te:TE) (g:TG):TS:=fun D σ H=>te σ H fun x H1=>g x σ H1 D.nx
theorem ps_asg {tg e : Expr} {te : TE} {g : TG} (he : PE X e te) (hg : PG X tg g) (hs : swapsWithSole [tg] e pos.line X.env = pure false := by rfl) (hw : swappedStores [tg] e X.env = pure none := by rfl)
    (h1:(assignEach [tg] X.env).map (·.2)=[assign tg X.env]:=by rfl):PS X (.Assign [tg] e pos) (tAsg te g):=by
  intro pins s σ H D I h
  refine wpAny_Assign_stores (thn (he pins s σ H _ I h) fun v s1 ⟨x,H1,I1,r1,q1⟩=>?_) hs hw
  rw [h1]
  exact thn (hg pins s1 σ H1 x v _ I1 r1 q1) fun _ s2 q=>q
theorem ps_set {i : Nat} {x : Str} {e : Expr} {te : TE} {pos' : Pos} (hN : X.N.Nodup) (hi : X.N[i]? = some x) (hx : Loc X.env.scope x) (he : PE X e te) (hs : swapsWith e (some (.Name x pos')) pos.line X.env = pure false := by rfl) (hf : X.fn x = true ∨ X.env.scope.names.lookup x = some .local := by first | exact .inl rfl | exact .inr rfl | assumption) :
    PS X (.Assign [.Name x pos'] e pos) (tAsg te (gName i)):=by
  intro pins s σ H D I h
  refine wpAny_Assign_Name (thn (he pins s σ H _ I h) fun v s1 ⟨y,H1,I1,r1,q1⟩=>?_) hs
  exact store_ok I1 hN hi hx r1 (fun s2 I2=>⟨_,H1,I2,q1⟩) hf
end
section
variable {X:Cx} {pos:Pos}
def tWhile (c:TT) (tb:TS):TS:=fun D σ H=>∃ W:Nat→St→Hp→Prop,(∃ m,W m σ H)∧∀ m σ H,W m σ H →
  c σ H fun b H1=>if b=true then ∃ N:St→Hp→Prop,(∀ σ' H',N σ' H'→∃ m',m' < m∧W m' σ' H')∧tb { D with nx:=N,ct:=N,bk:=D.nx } σ H1 else D.nx σ H1
theorem ps_while {c:Expr} {body:List Stmt} {tc:TT} {tb:TS} (hp:PassesOwn (model X.prog X.w) X.A X.env X.xe) (hc:PT X c tc) (hb:PSs X body tb):PS X (.While c body [] pos) (tWhile tc tb):=by
  intro pins s σ H D I h
  obtain ⟨W,⟨m0,w0⟩,turn⟩:=h
  refine wpAny_While (codeAny_whileLoop (fun n s'=>∃ σ' H',Inv X pins σ' H' s'∧W n σ' H') ?_ m0 ⟨σ,H,I,w0⟩)
  rintro n s1 ⟨σ1,H1,I1,w1⟩
  refine wpAny_passesOwn hp (thn (hc pins s1 σ1 H1 _ I1 (turn n σ1 H1 w1)) fun b s2 ⟨H2,I2,q2⟩=>?_)
  cases b with
  | true =>
    obtain ⟨N,hN,q2⟩:=q2
    rw [if_pos rfl]
    refine wpAny_passesOwn hp (thn (hb pins s2 σ1 H2 _ I2 q2) fun f s3 q3=>?_)
    cases f with
    | next =>
      obtain ⟨σ3,H3,I3,n3⟩:=q3
      obtain ⟨m',hm,w3⟩:=hN σ3 H3 n3
      exact ⟨m',hm,σ3,H3,I3,w3⟩
    | cont =>
      obtain ⟨σ3,H3,I3,n3⟩:=q3
      obtain ⟨m',hm,w3⟩:=hN σ3 H3 n3
      exact ⟨m',hm,σ3,H3,I3,w3⟩
    | brk=>exact q3
    | ret v=>exact q3
  | false =>
    rw [if_neg Bool.false_ne_true]
    exact wpAny_execs_nil ⟨σ1,H2,I2,q2⟩
end
structure It where
  go:Nat→Hp→Prop
  yld:Nat→Hp→V→Hp→Prop
  stop:Nat→Hp→Prop
def FpOk (X:Cx) (pins:List (Addr × Obj)) (H:Hp) (b:Addr):Prop :=
  H b=none∧b≠X.env.locals∧b ∉ X.fs∧(b ∈ X.ex∨X.s_0.heap.objs.size≤b)∧(∀ x c,X.env.cells.lookup x=some c→c≠b)∧∀ p ∈ X.pn++pins,p.1≠b
theorem Inv.fpOk {X:Cx} {pins:List (Addr × Obj)} {σ : St} {H H':Hp} {s:Shared} {b:Addr} (I:Inv X pins σ H s) (hb:s.heap.objs.size≤b) (hn:H' b=none):FpOk X pins H' b:=by
  refine ⟨hn,Nat.ne_of_gt (Nat.lt_of_lt_of_le I.lt hb),I.nofs hb,.inr (Nat.le_trans I.sz hb),fun x c e z=>?_,fun p hp z=>?_⟩
  · obtain ⟨v,q⟩:=I.cell x c e
    exact absurd (Nat.lt_of_lt_of_le q.lt (by rw [z];exact hb)) (Nat.lt_irrefl _)
  · exact absurd (Nat.lt_of_lt_of_le (Heap.lt_size (I.pin p hp).1) (by rw [z];exact hb)) (Nat.lt_irrefl _)
structure Turn (P:Program) (w:World) (K:PySem.W.Frag) (tg:Expr) (J:It) (fp:List Addr) (it:Addr) (tn:Nat→Heap→Prop):Prop where
  mem:it ∈ fp
  obj:∀ i h,tn i h→∀ b ∈ fp,∃ o,h.get? b=some o∧∀ v,o.data ≠ .cell v
  keep:∀ i h h',tn i h→(∀ b ∈ fp,∀ o,h.get? b=some o→h'.get? b=some o)→tn i h'
  item:∀ (X:Cx),X.prog=P→X.w=w→X.K=K→X.calm=true→∀ (i:Nat) (pins:List (Addr × Obj)) (s:Shared) (σ : St) (H:Hp) (E:Value→Shared→Prop),Inv X pins σ H s→(∀ b ∈ fp,FpOk X pins H b)→tn i s.heap→J.go i H →
    wpAny (model P w) X.A (pyNext (.ref it)) (fun r s1=>∃ u,r=some u ∧
      wpAny (model P w) X.A (letOwnedTupleGo tg (.ref it) u) (fun _ s2=>∃ x H',Inv X pins σ H' s2∧RelV x u∧J.yld i H x H'∧tn (i + 1) s2.heap∧∀ b ∈ fp,H' b=none) E s1) E s
  done:∀ (X:Cx),X.prog=P→X.w=w→X.K=K→X.calm=true→∀ (i:Nat) (pins:List (Addr × Obj)) (s:Shared) (σ : St) (H:Hp) (E:Value→Shared→Prop),Inv X pins σ H s→(∀ b ∈ fp,FpOk X pins H b)→tn i s.heap→J.stop i H →
    wpAny (model P w) X.A (pyNext (.ref it)) (fun r s1=>r=none∧Inv X pins σ H s1) E s
  self:∀ (A:Around) (i:Nat) (s:Shared) (Q:Value→Shared→Prop) (E:Value→Shared→Prop),tn i s.heap→Q (.ref it) s→wpAny (model P w) A (pyIter (.ref it)) Q E s
abbrev TI:=St→Hp→(It→Hp→Prop)→Prop
def PIE (X:Cx) (pins:List (Addr × Obj)) (σ : St) (tg:Expr) (R:It→Hp→Prop) (itv:Value) (s2:Shared):Prop :=
  ∃ (it:Addr) (fp:List Addr) (tn:Nat→Heap→Prop) (J:It) (H':Hp),itv = .ref it∧Inv X pins σ H' s2∧Turn X.prog X.w X.K tg J fp it tn∧tn 0 s2.heap∧(∀ b ∈ fp,FpOk X pins H' b)∧R J H'
def PI (X:Cx) (tg iter:Expr) (wi:TI):Prop :=
  ∀ (pins:List (Addr × Obj)) (s:Shared) (σ : St) (H:Hp) (R:It→Hp→Prop),Inv X pins σ H s→wi σ H R →
    wpAny (model X.prog X.w) X.A (eval iter X.env) (fun v s1=>wpAny (model X.prog X.w) X.A (pyIter v) (PIE X pins σ tg R) X.xe s1) X.xe s
theorem go_of {M : Model} {A : Around} {E : Value → Shared → Prop} {s : Shared} {tg : Expr} {it : Addr} {u : Value} {o : Obj} {n : String} {vs : Array Value} {Q : Unit → Shared → Prop} (ho : s.heap.get? it = some o) (hc : o.cls = .type n) (hd : o.data = .fields vs)
    (hn:["enumerate", "zip", "dict_itemiterator", "dict_reverseitemiterator", "odict_iterator", "itertools.zip_longest", "itertools.pairwise"].contains n=false) (hQ:Q () s):wpAny M A (letOwnedTupleGo tg (.ref it) u) Q E s:=by
  unfold letOwnedTupleGo
  cases tg <;> first
    | exact wpAny_pure hQ
    | (cases u <;> first
        | exact wpAny_pure hQ
        | (refine wpAny_bind (wpAny_load ho ?_)
           rw [hc,hd]
           show wpAny M A (if (["enumerate", "zip", "dict_itemiterator", "dict_reverseitemiterator", "odict_iterator", "itertools.zip_longest", "itertools.pairwise"].contains n&&vs[0]? == some (rawInt _))=true then _ else _) Q E s
           rw [if_neg (by intro h;rw [hn,Bool.false_and] at h;cases h)]
           exact wpAny_pure hQ))
def Itl (K:PySem.W.Frag) (a:Addr):It :=
  ⟨fun i H=>∃ xs x,SqL K H a xs∧xs[i]? = some x,fun i H x H'=>H'=H∧∀ xs,SqL K H a xs→xs[i]? = some x,fun i H=>∃ xs,SqL K H a xs∧xs.length≤i⟩
def Itr (lo:Int) (n:Nat):It:=⟨fun i _=>i < n,fun i H x H'=>H'=H∧x = .int (lo + i),fun i _=>n≤i⟩
theorem turn_list {P:Program} {w:World} {K:PySem.W.Frag} {tg:Expr} (a it:Addr):Turn P w K tg (Itl K a) [it] it (fun i h=>h.IsListIter it a i) where
  mem:=by simp
  obj:=fun i h st b hb=>by
    have e:b=it:=by simpa using hb
    subst e
    obtain ⟨o,e,c,d⟩:=st
    exact ⟨o,e,fun v z=>by rw [d] at z;cases z⟩
  keep:=fun i h h' st k=>st.at fun o e=>k it (by simp) o e
  item:=by
    intro X hP hw hK hc i pins s σ H E I hf st hg
    subst hP hw hK
    obtain ⟨xs,x,hq,hx⟩:=hg
    obtain ⟨its,rv,p,hz⟩:=I.list hq
    obtain ⟨u,hu,ru⟩:=rv.get hx
    obtain ⟨f0,f1,f2,f3,f4,f5⟩:=hf it (by simp)
    refine wpAny_pyNext_list_item st p.isList (x:=u) (by simpa using hu) fun h' st' sb=>?_
    have I1:Inv X pins σ H { s with heap:=h' }:=I.turned (t':=s.toks) (fun b o hb e=>(sb.2 b hb).trans e) f0 f1 f3 f4 f5
    obtain ⟨o,e,c,d⟩:=id st'
    exact ⟨u,rfl,go_of (s:={ s with heap:=h' }) e c d (by decide) ⟨x,H,I1,ru,⟨rfl,fun ys hy=>by rw [I.list_inj hy hq];exact hx⟩,st',fun b hb=>(hf b hb).1⟩⟩
  done:=by
    intro X hP hw hK hc i pins s σ H E I hf st hg
    subst hP hw hK
    obtain ⟨xs,hq,hx⟩:=hg
    obtain ⟨its,rv,p,hz⟩:=I.list hq
    obtain ⟨f0,f1,f2,f3,f4,f5⟩:=hf it (by simp)
    have hl:=rv.length
    exact wpAny_pyNext_list_end (I.ok.hd hc) st p.isList (by simp;omega) fun h' eb=>⟨rfl,I.turned (t':=s.toks) (fun b o hb e=>eb b o hb e) f0 f1 f3 f4 f5⟩
  self:=fun _ _ _ _ _ st h=>wpAny_pyIter_listiter st h
theorem turn_range {P:Program} {w:World} {K:PySem.W.Frag} {tg:Expr} (it:Addr) (lo:Int) (n:Nat):Turn P w K tg (Itr lo n) [it] it (fun i h=>IsRangeIter h it (lo + (i:Nat) * 1) ((n:Int) - (i:Nat)) 1) where
  mem:=by simp
  obj:=fun i h st b hb=>by
    have e:b=it:=by simpa using hb
    subst e
    exact ⟨_,st,fun v z=>by
      have z':Data.fields _=Data.cell v:=z
      cases z'⟩
  keep:=fun i h h' st k=>k it (by simp) _ st
  item:=by
    intro X hP hw hK hc i pins s σ H E I hf st hg
    subst hP hw hK
    obtain ⟨f0,f1,f2,f3,f4,f5⟩:=hf it (by simp)
    have W:=Walks.range (prog:=X.prog) (w:=X.w) (I.ok.hd hc) it lo 1 n
    refine W.item i s _ _ hg st fun v h' tk hv st' kk=>?_
    obtain ⟨t,rfl⟩:=hv
    have I1:Inv X pins σ H { s with heap:=h',toks:=tk }:=I.turned (fun b o hb e=>kk b o (by simpa using hb) e) f0 f1 f3 f4 f5
    refine ⟨_,rfl,go_of (s:={ s with heap:=h',toks:=tk }) (n := "range_iterator") st' rfl rfl (by decide) ⟨.int (lo + i),H,I1,⟨t,?_⟩,⟨rfl,rfl⟩,st',fun b hb=>(hf b hb).1⟩⟩
    rw [Int.mul_one]
  done:=by
    intro X hP hw hK hc i pins s σ H E I hf st hg
    subst hP hw hK
    obtain ⟨f0,f1,f2,f3,f4,f5⟩:=hf it (by simp)
    exact wpAny_pyNext_range_end (I.ok.hd hc) st (by have:n≤i:=hg;omega) fun h' eb=>⟨rfl,I.turned (t':=s.toks) (fun b o hb e=>eb b o hb e) f0 f1 f3 f4 f5⟩
  self:=fun _ _ _ _ _ st h=>wpAny_pyIter_rangeiter st h
end L2
namespace L2
open PySem PySem.Spec PyProof.Rows
section
variable {X:Cx} {tg:Expr}
def iList (K:PySem.W.Frag) (tl:TE):TI:=fun σ H R=>tl σ H fun x H1=>∃ a,x = .ref a∧(∃ xs,SqL K H1 a xs)∧R (Itl K a) H1
theorem pi_list {l:Expr} {tl:TE} (hl:PE X l tl):PI X tg l (iList X.K tl):=by
  intro pins s σ H R I h
  refine thn (hl pins s σ H _ I h) fun v s1 ⟨x,H1,I1,r1,q1⟩=>?_
  obtain ⟨a,e,⟨xs,hq⟩,q⟩:=q1
  subst e
  cases r1
  obtain ⟨its,rv,p,hz⟩:=I1.list hq
  refine wpAny_pyIter_list p.isList ?_
  refine ⟨s1.heap.objs.size,[s1.heap.objs.size],_,_,H1,rfl,I1.kept (t':=s1.toks) fun b o e=>Heap.get?_push_of_some _ e,turn_list a _,⟨_,Heap.get?_push_size _ rfl,rfl,rfl⟩,fun b hb=>?_,q⟩
  have e:b=s1.heap.objs.size:=by simpa using hb
  subst e
  exact I1.fpOk (Nat.le_refl _) (I1.hok.fresh (Nat.le_refl _))
theorem range_it {pins : List (Addr × Obj)} {σ : St} {H : Hp} {s : Shared} {R : It → Hp → Prop} {E : Value → Shared → Prop} {lo hi : Int} {t u v : Tok} {tk : Nat} (I : Inv X pins σ H s) (h1 : -(2 ^ 62) ≤ lo) (h2 : lo < 2 ^ 62) (h3 : -(2 ^ 62) ≤ hi) (h4 : hi < 2 ^ 62)
    (q:R (Itr lo (hi - lo).toNat) H):wpAny (model X.prog X.w) X.A (pyIter (.ref s.heap.objs.size)) (PIE X pins σ tg R) E { s with heap:=s.heap.push { cls:=.type "range",data:=.fields #[.int lo t,.int hi u,.int 1 v] },toks:=tk }:=by
  refine wpAny_pyIter_range (IsRange.new ..) (small_one h1 h2 h3 h4) ?_
  have I1:Inv X pins σ H { s with heap:=s.heap.push { cls:=.type "range",data:=.fields #[.int lo t,.int hi u,.int 1 v] },toks:=tk }:=I.kept fun b o e=>Heap.get?_push_of_some _ e
  refine ⟨(s.heap.push { cls:=.type "range",data:=.fields #[.int lo t,.int hi u,.int 1 v] }).objs.size,[(s.heap.push { cls:=.type "range",data:=.fields #[.int lo t,.int hi u,.int 1 v] }).objs.size],_,_,H,rfl,
    I1.kept (t':=tk) fun b o e=>Heap.get?_push_of_some _ e,turn_range _ lo (hi - lo).toNat,?_,fun b hb=>?_,q⟩
  · have e1:lo + ((0:Nat):Int) * 1=lo:=by simp
    have e2:(((hi - lo).toNat:Nat):Int) - ((0:Nat):Int)=Builtin.Range.rangeSize lo hi 1:=by rw [rangeSize_one];split <;> omega
    show IsRangeIter _ _ (lo + ((0:Nat):Int) * 1) ((((hi - lo).toNat:Nat):Int) - ((0:Nat):Int)) 1
    rw [e1,e2]
    exact Heap.get?_push_size _ rfl
  · have e:b=(s.heap.push { cls:=.type "range",data:=.fields #[.int lo t,.int hi u,.int 1 v] }).objs.size:=by simpa using hb
    subst e
    exact I1.fpOk (Nat.le_refl _) (I1.hok.fresh (Nat.le_refl _))
def iRng1 (ta:TA):TI:=fun σ H R=>ta σ H fun vs H1=>∃ j:Int,vs=[.int j]∧-(2 ^ 62)≤j∧j < 2 ^ 62∧R (Itr 0 j.toNat) H1
theorem pi_range1 {a:Expr} {ta:TA} {p pos:Pos} (hg:Gl X "range") (hm:X.mg "range" = none) (ha:PA X [a] ta) (hs:starEach [a] X.env=[(false,eval a X.env)]:=by rfl):PI X tg (.Call (.Name "range" p) [a] [] pos) (iRng1 ta):=by
  intro pins s σ H R I h
  refine Call_ (ld_blt I hg hm boot_range (PyProof.Rows.callWith_type1 (thn (ha pos pins s σ H _ I h) fun us s1 ⟨vs,H1,I1,r1,q1⟩=>?_) hs rfl))
  obtain ⟨j,e,q1,q2,q⟩:=q1
  subst e
  cases r1 with
  | cons r rr =>
    cases rr
    obtain ⟨t,rfl⟩:=r
    exact call_range_1 (range_it I1 (by omega) (by omega) q1 q2 (by simpa using q))
def tFor (wi:TI) (g:TG) (tb:TS):TS:=fun D σ H=>wi σ H fun J H1=>∃ W:Nat→Nat→St→Hp→Prop,(∃ m,W 0 m σ H1)∧∀ i m σ H,W i m σ H →
  (J.stop i H∧D.nx σ H)∨(J.go i H∧∃ N:St→Hp→Prop,(∀ σ' H',N σ' H'→∃ m',m' < m∧W (i + 1) m' σ' H')∧∀ x H',J.yld i H x H'→g x σ H' fun σ2 H2=>tb { D with nx:=N,ct:=N,bk:=D.nx } σ2 H2)
def pinsAt (fp:List Addr) (h:Heap):List (Addr × Obj):=fp.filterMap fun b=>(h.get? b).map fun o=>(b,o)
theorem mem_pinsAt {fp:List Addr} {h:Heap} {b:Addr} {o:Obj} (hb:b ∈ fp) (e:h.get? b=some o):(b,o) ∈ pinsAt fp h:=List.mem_filterMap.mpr ⟨b,hb,by rw [e];rfl⟩
theorem of_pinsAt {fp:List Addr} {h:Heap} {p:Addr × Obj} (hp:p ∈ pinsAt fp h):p.1 ∈ fp∧h.get? p.1=some p.2:=by
  obtain ⟨b,hb,e⟩:=List.mem_filterMap.mp hp
  cases q:h.get? b with
  | none=>rw [q] at e;cases e
  | some o =>
    rw [q] at e
    have e':(b,o)=p:=Option.some.inj e
    subst e'
    exact ⟨hb,q⟩
theorem Inv.pinned {pins:List (Addr × Obj)} {σ : St} {H:Hp} {s:Shared} {fp:List Addr} (I:Inv X pins σ H s) (hf:∀ b ∈ fp,FpOk X pins H b) (ho:∀ b ∈ fp,∃ o,s.heap.get? b=some o∧∀ v,o.data ≠ .cell v):Inv X (pins++pinsAt fp s.heap) σ H s :=
  I.pins_of fun p hp=>(List.mem_append.mp hp).elim (fun z=>I.pin p (List.mem_append_right _ z)) fun z=>by
    obtain ⟨hb,e⟩:=of_pinsAt z
    obtain ⟨f0,f1,f2,_⟩:=hf p.1 hb
    obtain ⟨o,e',d⟩:=ho p.1 hb
    rw [e] at e';cases e'
    exact ⟨e,f0,f1,f2,d⟩
theorem Inv.unpinned {pins pl:List (Addr × Obj)} {σ : St} {H:Hp} {s:Shared} (I:Inv X (pins++pl) σ H s):Inv X pins σ H s:=I.pins_of fun p hp=>I.pin p (List.mem_append_right _ (List.mem_append_left _ hp))
theorem ps_for {iter : Expr} {body : List Stmt} {wi : TI} {g : TG} {tb : TS} {pos : Pos} (hp : PassesOwn (model X.prog X.w) X.A X.env X.xe) (hc : X.calm = true) (hi : PI X tg iter wi) (hg : PG X tg g) (hb : PSs X body tb)
    (hs:∀ x,foldedSetIterable iter X.env x=pure x:=by intro _;rfl):PS X (.For tg iter body [] pos) (tFor wi g tb):=by
  intro pins s σ H D I h
  refine wpAny_For (thn (hi pins s σ H _ I h) fun v s1 h1=>thn h1 fun itv s2 h2=>?_) hs
  obtain ⟨it,fp,tn,J,H2,e,I2,T,st2,f2,W,⟨m0,w0⟩,turn⟩:=h2
  subst e
  have stat:∀ {H':Hp},(∀ b ∈ fp,H' b=none)→∀ b ∈ fp,FpOk X pins H' b:=fun hn b hb=>⟨hn b hb,(f2 b hb).2⟩
  refine codeAny_forLoop_any (fun n s'=>∃ i σ' H',Inv X pins σ' H' s'∧tn i s'.heap∧(∀ b ∈ fp,H' b=none)∧W i n σ' H') ?_ m0 ⟨0,σ,H2,I2,st2,fun b hb=>(f2 b hb).1,w0⟩
  rintro n s3 ⟨i,σ3,H3,I3,st3,fr3,w3⟩
  rcases turn i n σ3 H3 w3 with ⟨stop,qn⟩ | ⟨go,N,hN,step⟩
  · refine wpAny_passesOwn hp (thn (T.done X rfl rfl rfl hc i pins s3 σ3 H3 X.xe I3 (stat fr3) st3 stop) fun r s4 ⟨hr,I4⟩=>?_)
    subst hr
    exact wpAny_execs_nil ⟨σ3,H3,I4,qn⟩
  · refine wpAny_passesOwn hp (thn (T.item X rfl rfl rfl hc i pins s3 σ3 H3 X.xe I3 (stat fr3) st3 go) fun r s4 ⟨u,hr,h4⟩=>?_)
    subst hr
    refine wpAny_passesOwn hp (thn h4 fun _ s5 ⟨x,H5,I5,r5,y5,st5,fr5⟩=>?_)
    have I5':=I5.pinned (stat fr5) (T.obj _ _ st5)
    refine wpAny_passesOwn hp (thn (hg _ s5 σ3 H5 x u _ I5' r5 (step x H5 y5)) fun _ s6 ⟨σ6,H6,I6,q6⟩=>?_)
    refine wpAny_passesOwn hp (thn (hb _ s6 σ6 H6 _ I6 q6) fun f s7 q7=>?_)
    have again:∀ {σ7:St} {H7:Hp},Inv X (pins++pinsAt fp s5.heap) σ7 H7 s7→N σ7 H7→∃ m,m < n∧∃ i σ' H',Inv X pins σ' H' s7∧tn i s7.heap∧(∀ b ∈ fp,H' b=none)∧W i m σ' H':=fun {σ7 H7} I7 n7=>by
      obtain ⟨m',hm,w7⟩:=hN σ7 H7 n7
      refine ⟨m',hm,i + 1,σ7,H7,I7.unpinned,T.keep _ _ _ st5 fun b hb o e=>(I7.pin (b,o) (List.mem_append_right _ (List.mem_append_right _ (mem_pinsAt hb e)))).1,fun b hb=>?_,w7⟩
      obtain ⟨o,e,d⟩:=T.obj _ _ st5 b hb
      exact (I7.pin (b,o) (List.mem_append_right _ (List.mem_append_right _ (mem_pinsAt hb e)))).2.1
    cases f with
    | next=>obtain ⟨σ7,H7,I7,n7⟩:=q7;exact again I7 n7
    | cont=>obtain ⟨σ7,H7,I7,n7⟩:=q7;exact again I7 n7
    | brk=>obtain ⟨σ7,H7,I7,q7⟩:=q7;exact ⟨σ7,H7,I7.unpinned,q7⟩
    | ret v=>obtain ⟨x7,σ7,H7,I7,r7,q7⟩:=q7;exact ⟨x7,σ7,H7,I7.unpinned,r7,q7⟩
end
theorem for_list {K : PySem.W.Frag} {a : Addr} {xs : List V} {g : TG} {tb : TS} {D : Ends} {σ : St} {H : Hp} (Pv : Nat → St → Hp → Prop) (h0 : Pv 0 σ H) (hl : ∀ i σ H, i ≤ xs.length → Pv i σ H → SqL K H a xs)
    (hs:∀ i x σ H,xs[i]? = some x→Pv i σ H→g x σ H fun σ2 H2=>tb { D with nx:=Pv (i + 1),ct:=Pv (i + 1),bk:=D.nx } σ2 H2) (hd:∀ σ H,Pv xs.length σ H→D.nx σ H) :
    ∃ W:Nat→Nat→St→Hp→Prop,(∃ m,W 0 m σ H)∧∀ i m σ H,W i m σ H →
      ((Itl K a).stop i H∧D.nx σ H)∨((Itl K a).go i H∧∃ N:St→Hp→Prop,(∀ σ' H',N σ' H'→∃ m',m' < m∧W (i + 1) m' σ' H')∧∀ x H',(Itl K a).yld i H x H'→g x σ H' fun σ2 H2=>tb { D with nx:=N,ct:=N,bk:=D.nx } σ2 H2):=by
  refine ⟨fun i m σ H=>m=xs.length - i∧i≤xs.length∧Pv i σ H,⟨xs.length,by simp,Nat.zero_le _,h0⟩,?_⟩
  rintro i m σ H ⟨rfl,hi,p⟩
  have q:=hl i σ H hi p
  by_cases hlt:i < xs.length
  · refine .inr ⟨⟨xs,xs[i],q,by simp [hlt]⟩,Pv (i + 1),fun σ' H' p'=>⟨xs.length - (i + 1),by omega,rfl,hlt,p'⟩,fun x H' y=>?_⟩
    obtain ⟨e,y⟩:=y
    subst e
    exact hs i x σ _ (y xs q) p
  · have e:i=xs.length:=by omega
    subst e
    exact .inl ⟨⟨xs,q,Nat.le_refl _⟩,hd σ H p⟩
end L2
namespace L2
open PySem PySem.Spec PyProof.Rows
abbrev R2:=V→V→Hp→VK→Prop
def OpR (X:Cx) (f:Value→Value→Sem Value) (r:R2):Prop :=
  ∀ (pins:List (Addr × Obj)) (s:Shared) (σ : St) (H:Hp) (x y:V) (v u:Value) (Q:VK),Inv X pins σ H s→RelV x v→RelV y u→r x y H Q →
    wpAny (model X.prog X.w) X.A (f v u) (EP X pins σ Q) X.xe s
def UnR (X:Cx) (f:Value→Sem Value) (r:V→Hp→VK→Prop):Prop :=
  ∀ (pins:List (Addr × Obj)) (s:Shared) (σ : St) (H:Hp) (x:V) (v:Value) (Q:VK),Inv X pins σ H s→RelV x v→r x H Q →
    wpAny (model X.prog X.w) X.A (f v) (EP X pins σ Q) X.xe s
def CallR (X:Cx) (f:Value) (r:List V→Hp→VK→Prop):Prop :=
  ∀ (pins:List (Addr × Obj)) (s:Shared) (σ : St) (H:Hp) (xs:List V) (us:List Value) (Q:VK),Inv X pins σ H s→Vals xs us→r xs H Q →
    wpAny (model X.prog X.w) X.A (call f us) (EP X pins σ Q) X.xe s
def TruR (X:Cx) (r:V→Hp→(Bool→Hp→Prop)→Prop):Prop :=
  ∀ (pins:List (Addr × Obj)) (s:Shared) (σ : St) (H:Hp) (x:V) (v:Value) (Q:Bool→Hp→Prop),Inv X pins σ H s→RelV x v→r x H Q →
    wpAny (model X.prog X.w) X.A (truthy v) (TP X pins σ Q) X.xe s
def tOp (r:R2) (ta tb:TE):TE:=fun σ H Q=>ta σ H fun x H1=>tb σ H1 fun y H2=>r x y H2 Q
def tUn (r:V→Hp→VK→Prop) (ta:TE):TE:=fun σ H Q=>ta σ H fun x H1=>r x H1 Q
def rI (C:Int→Int→Prop) (g:Int→Int→V):R2:=fun x y H Q=>∃ i j,x = .int i∧y = .int j∧C i j∧Q (g i j) H
def rI0 (g:Int→Int→V):R2:=fun x y H Q=>∃ i j,x = .int i∧y = .int j∧Q (g i j) H
def rU (g:Int→V):V→Hp→VK→Prop:=fun x H Q=>∃ i,x = .int i∧Q (g i) H
section
variable {X:Cx} {a b c:Expr} {ta tb tc:TE} {pos:Pos}
theorem binT (ha : PE X a ta) (hb : PE X b tb) {pins : List (Addr × Obj)} {s : Shared} {σ : St} {H : Hp} {R : V → V → Hp → Prop} (I : Inv X pins σ H s)
    (h:ta σ H fun x H1=>tb σ H1 fun y H2=>R x y H2) {Q:Value→Shared→Prop} {f:Value→Value→Sem Value}
    (hf:∀ v u s2 x y H2,Inv X pins σ H2 s2→RelV x v→RelV y u→R x y H2→wpAny (model X.prog X.w) X.A (f v u) Q X.xe s2) :
    wpAny (model X.prog X.w) X.A (eval a X.env) (fun v s₁=>wpAny (model X.prog X.w) X.A (eval b X.env) (fun u s₂=>wpAny (model X.prog X.w) X.A (f v u) Q X.xe s₂) X.xe s₁) X.xe s:=by
  refine thn (ha pins s σ H _ I h) fun v s1 ⟨x,H1,I1,r1,q1⟩=>?_
  refine thn (hb pins s1 σ H1 _ I1 q1) fun u s2 ⟨y,H2,I2,r2,q2⟩=>?_
  exact hf v u s2 x y H2 I2 r1 r2 q2
theorem pe_op {op:Operator} {r:R2} (ho:OpR X (binaryOp op) r) (ha:PE X a ta) (hb:PE X b tb):PE X (.BinOp a op b pos) (tOp r ta tb):=by
  intro pins s σ H Q I h
  exact wpAny_BinOp (binT ha hb I h fun v u s2 x y H2 I2 rx ry q=>ho pins s2 σ H2 x y v u Q I2 rx ry q)
theorem pe_un {op:UnaryOp} {r:V→Hp→VK→Prop} (ho:UnR X (unaryOp op) r) (ha:PE X a ta):PE X (.UnaryOp op a pos) (tUn r ta):=by
  intro pins s σ H Q I h
  exact UnaryOp_ (thn (ha pins s σ H _ I h) fun v s1 ⟨x,H1,I1,r1,q1⟩=>ho pins s1 σ H1 x v Q I1 r1 q1)
theorem opI {f : Value → Value → Sem Value} {C : Int → Int → Prop} {g : Int → Int → Int}
    (rule:∀ (i j:Int) (t u:Tok) (s:Shared) (Q:Value→Shared→Prop) (E:Value→Shared→Prop),C i j→Q (.int (g i j) s.toks) { s with toks:=s.toks + 1 }→wpAny (model X.prog X.w) X.A (f (.int i t) (.int j u)) Q E s) :
    OpR X f (rI C fun i j=>.int (g i j)):=by
  intro pins s σ H x y v u Q I rx ry h
  obtain ⟨i,j,rfl,rfl,hc,q⟩:=h
  obtain ⟨t,rfl⟩:=rx
  obtain ⟨t',rfl⟩:=ry
  exact rule i j t t' s _ _ hc ⟨.int (g i j),H,I.tok _,⟨_,rfl⟩,q⟩
theorem opI0 {f : Value → Value → Sem Value} {g : Int → Int → Int}
    (rule:∀ (i j:Int) (t u:Tok) (s:Shared) (Q:Value→Shared→Prop) (E:Value→Shared→Prop),Q (.int (g i j) s.toks) { s with toks:=s.toks + 1 }→wpAny (model X.prog X.w) X.A (f (.int i t) (.int j u)) Q E s) :
    OpR X f (rI0 fun i j=>.int (g i j)):=by
  intro pins s σ H x y v u Q I rx ry h
  obtain ⟨i,j,rfl,rfl,q⟩:=h
  obtain ⟨t,rfl⟩:=rx
  obtain ⟨t',rfl⟩:=ry
  exact rule i j t t' s _ _ ⟨.int (g i j),H,I.tok _,⟨_,rfl⟩,q⟩
theorem opB0 {f : Value → Value → Sem Value} {g : Int → Int → Bool}
    (rule:∀ (i j:Int) (t u:Tok) (s:Shared) (Q:Value→Shared→Prop) (E:Value→Shared→Prop),Q (.bool (g i j)) s→wpAny (model X.prog X.w) X.A (f (.int i t) (.int j u)) Q E s) :
    OpR X f (rI0 fun i j=>.bl (g i j)):=by
  intro pins s σ H x y v u Q I rx ry h
  obtain ⟨i,j,rfl,rfl,q⟩:=h
  obtain ⟨t,rfl⟩:=rx
  obtain ⟨t',rfl⟩:=ry
  exact rule i j t t' s _ _ ⟨.bl (g i j),H,I,rfl,q⟩
def CPow (i j:Int):Prop:=0≤j∧j≤1000000∧i.natAbs < 2 ^ 64
def CMul (i j:Int):Prop:=(-(2 ^ 64) < i∧i < 2 ^ 64)∨(-(2 ^ 64) < j∧j < 2 ^ 64)
theorem CMul.ok {i j:Int} (h:CMul i j):IntMulOk i j:=by
  rcases h with ⟨h1,h2⟩ | ⟨h1,h2⟩
  · exact .of_left (intBits_le_64 h1 h2)
  · exact .of_right (intBits_le_64 h1 h2)
theorem op_add:OpR X (binaryOp .Add) (rI0 fun i j=>.int (i + j)):=opI0 fun _ _ _ _ _ _ _ q=>add_int q
theorem op_sub:OpR X (binaryOp .Sub) (rI0 fun i j=>.int (i - j)):=opI0 fun _ _ _ _ _ _ _ q=>sub_int q
theorem op_mul:OpR X (binaryOp .Mult) (rI CMul fun i j=>.int (i * j)):=opI fun _ _ _ _ _ _ _ hc q=>mul_int q hc.ok
theorem op_shl:OpR X (binaryOp .LShift) (rI CPow fun i j=>.int (i * 2 ^ j.toNat)):=opI fun _ _ _ _ _ _ _ hc q=>lshift_int_small hc.1 hc.2.1 hc.2.2 q
theorem op_and:OpR X (binaryOp .BitAnd) (rI0 fun i j=>.int (Builtin.bitAnd i j)):=opI0 fun _ _ _ _ _ _ _ q=>and_int q
theorem unI {f : Value → Sem Value} {g : Int → Int}
    (rule:∀ (i:Int) (t:Tok) (s:Shared) (Q:Value→Shared→Prop) (E:Value→Shared→Prop),Q (.int (g i) s.toks) { s with toks:=s.toks + 1 }→wpAny (model X.prog X.w) X.A (f (.int i t)) Q E s) :
    UnR X f (rU fun i=>.int (g i)):=by
  intro pins s σ H x v Q I rx h
  obtain ⟨i,rfl,q⟩:=h
  obtain ⟨t,rfl⟩:=rx
  exact rule i t s _ _ ⟨.int (g i),H,I.tok _,⟨_,rfl⟩,q⟩
theorem un_neg:UnR X (unaryOp .USub) (rU fun i=>.int (-i)):=unI fun _ _ _ _ _ q=>neg_int q
end
def scal:V→V→Bool
  | .non,.non=>true | .non,.int _=>true | .int _,.non=>true | .non,.bl _=>true | .bl _,.non=>true | .non,.str _=>true | .str _,.non=>true
  | .int _,.int _=>true | .bl _,.bl _=>true | .str _,.str _=>true | .byt _,.byt _=>true
  | .int _,.str _=>true | .str _,.int _=>true | .bl _,.str _=>true | .str _,.bl _=>true
  | _,_=>false
def rEq:R2:=fun x y H Q=>scal x y=true∧Q (.bl (decide (x=y))) H
def rNe:R2:=fun x y H Q=>scal x y=true∧Q (.bl (!decide (x=y))) H
theorem dec_int {i j:Int}:decide (V.int i=V.int j)=(i == j):=by
  rw [Bool.eq_iff_iff]
  simp
theorem dec_bl {i j:Bool}:decide (V.bl i=V.bl j)=(i == j):=by
  rw [Bool.eq_iff_iff]
  simp
theorem dec_str {i j:Str}:decide (V.str i=V.str j)=(i == j):=by
  rw [Bool.eq_iff_iff]
  simp
theorem dec_byt {i j:Array UInt8}:decide (V.byt i=V.byt j)=(i.toList == j.toList):=by
  rw [Bool.eq_iff_iff]
  cases i
  cases j
  simp
section
variable {X:Cx} {a b c:Expr} {ta tb tc:TE} {pos:Pos}
theorem fin_bl {pins:List (Addr × Obj)} {σ : St} {H:Hp} {s:Shared} {Q:VK} {k k':Bool} (I:Inv X pins σ H s) (q:Q (.bl k) H) (e:k=k'):EP X pins σ Q (.bool k') s:=by
  subst e
  exact ⟨.bl k,H,I,rfl,q⟩
theorem op_eq:OpR X (compareOp .Eq) rEq:=by
  intro pins s σ H x y v u Q I rx ry h
  obtain ⟨hs,q⟩:=h
  cases x with
  | non =>
    cases rx
    cases y with
    | non=>cases ry;exact PySem.EqNone.eq_none_none (fin_bl I q (by simp))
    | bl j=>cases ry;exact PySem.EqNone.eq_none_bool (fin_bl I q (by simp))
    | int j=>obtain ⟨t',rfl⟩:=ry;exact PySem.EqNone.eq_none_int (fin_bl I q (by simp))
    | str j=>obtain ⟨t',rfl⟩:=ry;exact PySem.EqNone.eq_none_str (fin_bl I q (by simp))
    | _=>exact absurd (show false=true from hs) Bool.false_ne_true
  | bl i =>
    cases rx
    cases y with
    | non=>cases ry;exact PySem.EqNone.eq_bool_none (fin_bl I q (by simp))
    | bl j=>cases ry;exact eq_bool (fin_bl I q dec_bl)
    | str j=>obtain ⟨t',rfl⟩:=ry;exact PySem.EqMixed.eq_bool_str (fin_bl I q (by simp))
    | _=>exact absurd (show false=true from hs) Bool.false_ne_true
  | int i =>
    obtain ⟨t,rfl⟩:=rx
    cases y with
    | non=>cases ry;exact PySem.EqNone.eq_int_none (fin_bl I q (by simp))
    | int j=>obtain ⟨t',rfl⟩:=ry;exact eq_int (fin_bl I q dec_int)
    | str j=>obtain ⟨t',rfl⟩:=ry;exact PySem.EqMixed.eq_int_str (fin_bl I q (by simp))
    | _=>exact absurd (show false=true from hs) Bool.false_ne_true
  | str i =>
    obtain ⟨t,rfl⟩:=rx
    cases y with
    | non=>cases ry;exact PySem.EqNone.eq_str_none (fin_bl I q (by simp))
    | bl j=>cases ry;exact PySem.EqMixed.eq_str_bool (fin_bl I q (by simp))
    | int j=>obtain ⟨t',rfl⟩:=ry;exact PySem.EqMixed.eq_str_int (fin_bl I q (by simp))
    | str j=>obtain ⟨t',rfl⟩:=ry;exact eq_str (fin_bl I q dec_str)
    | _=>exact absurd (show false=true from hs) Bool.false_ne_true
  | byt i =>
    obtain ⟨t,rfl⟩:=rx
    cases y with
    | byt j=>obtain ⟨t',rfl⟩:=ry;exact PySem.W.eq_bytes (fin_bl I q dec_byt)
    | _=>exact absurd (show false=true from hs) Bool.false_ne_true
  | _=>cases y <;> exact absurd (show false=true from hs) Bool.false_ne_true
theorem op_ne:OpR X (compareOp .NotEq) rNe:=by
  intro pins s σ H x y v u Q I rx ry h
  obtain ⟨hs,q⟩:=h
  cases x with
  | non =>
    cases rx
    cases y with
    | non=>cases ry;exact PySem.EqNone.ne_none_none (fin_bl I q (by simp))
    | bl j=>cases ry;exact PySem.EqNone.ne_none_bool (fin_bl I q (by simp))
    | int j=>obtain ⟨t',rfl⟩:=ry;exact PySem.EqNone.ne_none_int (fin_bl I q (by simp))
    | str j=>obtain ⟨t',rfl⟩:=ry;exact PySem.EqNone.ne_none_str (fin_bl I q (by simp))
    | _=>exact absurd (show false=true from hs) Bool.false_ne_true
  | bl i =>
    cases rx
    cases y with
    | non=>cases ry;exact PySem.EqNone.ne_bool_none (fin_bl I q (by simp))
    | bl j=>cases ry;exact ne_bool (fin_bl I q (congrArg not dec_bl))
    | str j=>obtain ⟨t',rfl⟩:=ry;exact PySem.EqMixed.ne_bool_str (fin_bl I q (by simp))
    | _=>exact absurd (show false=true from hs) Bool.false_ne_true
  | int i =>
    obtain ⟨t,rfl⟩:=rx
    cases y with
    | non=>cases ry;exact PySem.EqNone.ne_int_none (fin_bl I q (by simp))
    | int j=>obtain ⟨t',rfl⟩:=ry;exact ne_int (fin_bl I q (congrArg not dec_int))
    | str j=>obtain ⟨t',rfl⟩:=ry;exact PySem.EqMixed.ne_int_str (fin_bl I q (by simp))
    | _=>exact absurd (show false=true from hs) Bool.false_ne_true
  | str i =>
    obtain ⟨t,rfl⟩:=rx
    cases y with
    | non=>cases ry;exact PySem.EqNone.ne_str_none (fin_bl I q (by simp))
    | bl j=>cases ry;exact PySem.EqMixed.ne_str_bool (fin_bl I q (by simp))
    | int j=>obtain ⟨t',rfl⟩:=ry;exact PySem.EqMixed.ne_str_int (fin_bl I q (by simp))
    | str j=>obtain ⟨t',rfl⟩:=ry;exact ne_str (fin_bl I q (congrArg not dec_str))
    | _=>exact absurd (show false=true from hs) Bool.false_ne_true
  | byt i =>
    obtain ⟨t,rfl⟩:=rx
    cases y with
    | byt j=>obtain ⟨t',rfl⟩:=ry;exact PySem.W.ne_bytes (fin_bl I q (congrArg not dec_byt))
    | _=>exact absurd (show false=true from hs) Bool.false_ne_true
  | _=>cases y <;> exact absurd (show false=true from hs) Bool.false_ne_true
theorem op_lt:OpR X (compareOp .Lt) (rI0 fun i j=>.bl (decide (i < j))):=opB0 fun _ _ _ _ _ _ _ q=>lt_int q
theorem op_le:OpR X (compareOp .LtE) (rI0 fun i j=>.bl (decide (i≤j))):=opB0 fun _ _ _ _ _ _ _ q=>le_int q
theorem op_gt:OpR X (compareOp .Gt) (rI0 fun i j=>.bl (decide (j < i))):=opB0 fun _ _ _ _ _ _ _ q=>gt_int q
theorem nomark (b:Expr) {op:CmpOp} (h:op ≠ .In:=by decide) (h2:op ≠ .NotIn:=by decide):behindInMarks op b=false:=by
  have e1:(op == CmpOp.In)=false:=by cases op <;> first | rfl | exact absurd rfl h
  have e2:(op == CmpOp.NotIn)=false:=by cases op <;> first | rfl | exact absurd rfl h2
  cases b <;> simp [behindInMarks,e1,e2]
theorem pe_cmpR {op:CmpOp} {r:R2} (ho:OpR X (compareOp op) r) (ha:PE X a ta) (hb:PE X b tb) (hm:behindInMarks op b=false):PE X (.Compare a [op] [b] pos) (tOp r ta tb):=by
  intro pins s σ H Q I h
  exact wpAny_Compare1 (binT ha hb I h fun v u s2 x y H2 I2 rx ry q=>ho pins s2 σ H2 x y v u Q I2 rx ry q) hm
def tTest (t:TE):TT:=fun σ H Q=>t σ H fun x H'=>∃ k,x = .bl k∧Q k H'
theorem pt_cmpR {op:CmpOp} {r:R2} (ho:OpR X (compareOp op) r) (ha:PE X a ta) (hb:PE X b tb) (hm:behindInMarks op b=false):PT X (.Compare a [op] [b] pos) (tTest (tOp r ta tb)):=by
  intro pins s σ H Q I h
  refine wpAny_isTrue_Compare1 (thn (ha pins s σ H _ I h) fun v s1 ⟨x,H1,I1,r1,q1⟩=>thn (hb pins s1 σ H1 _ I1 q1) fun u s2 ⟨y,H2,I2,r2,q2⟩ =>
    thn (ho pins s2 σ H2 x y v u _ I2 r1 r2 q2) fun c s3 ⟨z,H3,I3,r3,k,e,q3⟩=>?_) hm
  subst e
  cases r3
  exact wpAny_truthy_bool ⟨H3,I3,q3⟩
def tChain (r r':R2) (ta tb tc:TE):TE:=fun σ H Q=>ta σ H fun x H1=>tb σ H1 fun y H2=>r x y H2 fun z H3=>∃ k,z = .bl k ∧
  (if k=true then tc σ H3 fun w' H4=>r' y w' H4 Q else Q (.bl false) H3)
theorem pe_chain {op op' : CmpOp} {r r' : R2} (ho : OpR X (compareOp op) r) (ho' : OpR X (compareOp op') r') (ha : PE X a ta) (hb : PE X b tb) (hc : PE X c tc)
    (hm:lastMarks [op,op'] [b,c]=false:=by with_unfolding_all rfl):PE X (.Compare a [op,op'] [b,c] pos) (tChain r r' ta tb tc):=by
  intro pins s σ H Q I h
  refine Compare_chain (thn (ha pins s σ H _ I h) fun v s1 ⟨x,H1,I1,r1,q1⟩=>chain_link (thn (hb pins s1 σ H1 _ I1 q1) fun u s2 ⟨y,H2,I2,r2,q2⟩ =>
    thn (ho pins s2 σ H2 x y v u _ I2 r1 r2 q2) fun d s3 ⟨z,H3,I3,r3,k,e,q3⟩=>?_)) hm
  subst e
  cases r3
  refine wpAny_truthy_bool ?_
  cases k with
  | false=>exact ite_ff ⟨.bl false,H3,I3,rfl,q3⟩
  | true=>exact ite_tt (chain_last (thn (hc pins s3 σ H3 _ I3 q3) fun w' s4 ⟨z',H4,I4,r4,q4⟩=>ho' pins s4 σ H4 y z' u w' Q I4 r2 r4 q4))
theorem pt_chain {op op' : CmpOp} {r r' : R2} (ho : OpR X (compareOp op) r) (ho' : OpR X (compareOp op') r') (ha : PE X a ta) (hb : PE X b tb) (hc : PE X c tc)
    (hm:lastMarks [op,op'] [b,c]=false:=by with_unfolding_all rfl):PT X (.Compare a [op,op'] [b,c] pos) (tTest (tChain r r' ta tb tc)):=by
  intro pins s σ H Q I h
  refine isTrue_chain (thn (ha pins s σ H _ I h) fun v s1 ⟨x,H1,I1,r1,q1⟩=>test_link (thn (hb pins s1 σ H1 _ I1 q1) fun u s2 ⟨y,H2,I2,r2,q2⟩ =>
    thn (ho pins s2 σ H2 x y v u _ I2 r1 r2 q2) fun d s3 ⟨z,H3,I3,r3,k,e,q3⟩=>?_)) hm
  subst e
  cases r3
  refine wpAny_truthy_bool ?_
  cases k with
  | false =>
    obtain ⟨k',e',q'⟩:=q3
    cases e'
    exact ite_ff ⟨H3,I3,q'⟩
  | true =>
    refine ite_tt (test_last (thn (hc pins s3 σ H3 _ I3 q3) fun w' s4 ⟨z',H4,I4,r4,q4⟩=>thn (ho' pins s4 σ H4 y z' u w' _ I4 r2 r4 q4) fun d' s5 ⟨z2,H5,I5,r5,k2,e2,q5⟩=>?_))
    subst e2
    cases r5
    exact wpAny_truthy_bool ⟨H5,I5,q5⟩
def TruV (K:PySem.W.Frag) (x:V) (H:Hp) (k:Bool):Prop :=
  match x with
  | .non=>k=false
  | .bl b=>k=b
  | .int i=>k=(i != 0)
  | .str y=>y.length≤sizeLine∧k=((y.length:Int) != 0)
  | .byt y=>y.size≤sizeLine∧k=((y.size:Int) != 0)
  | .ref p=>(∃ xs,SqL K H p xs∧k = !xs.isEmpty)∨(∃ xs,SqT K H p xs∧k = !xs.isEmpty)∨∃ kvs,H p=some (.dK kvs)∧k = !kvs.isEmpty
  | _=>False
theorem isEmpty_kv {κ : Type} {kvs:List (κ × V)} {vs:List (κ × Value)} (r:KV kvs vs):(!vs.isEmpty) = !kvs.isEmpty:=by
  cases r <;> rfl
theorem isEmpty_of {xs:List V} {its:List Value} (r:Vals xs its):(!its.toArray.isEmpty) = !xs.isEmpty:=by
  cases r <;> simp
theorem line63:(sizeLine:Nat) < 2 ^ 63:=by rw [sizeLine_eq];decide
theorem tru_ok:TruR X (fun x H Q=>∃ k,TruV X.K x H k∧Q k H):=by
  intro pins s σ H x v Q I rx h
  obtain ⟨k,e,q⟩:=h
  have hl:=line63
  have hs:sizeLine=16777216:=sizeLine_eq
  cases x with
  | non =>
    cases rx
    have e':k=false:=e
    subst e'
    exact truthy_none ⟨H,I,q⟩
  | bl b =>
    cases rx
    have e':k=b:=e
    subst e'
    exact wpAny_truthy_bool ⟨H,I,q⟩
  | int i =>
    obtain ⟨t,rfl⟩:=rx
    have e':k=(i != 0):=e
    subst e'
    exact PySem.P.truthy_int ⟨H,I,q⟩
  | str y =>
    obtain ⟨t,rfl⟩:=rx
    obtain ⟨hy,e'⟩:y.length≤sizeLine∧k=((y.length:Int) != 0):=e
    subst e'
    exact PySem.P.truthy_str (by omega) ⟨H,I.tok _,q⟩
  | byt y =>
    obtain ⟨t,rfl⟩:=rx
    obtain ⟨hy,e'⟩:y.size≤sizeLine∧k=((y.size:Int) != 0):=e
    subst e'
    exact PySem.W.truthy_bytes (by omega) ⟨H,I.tok _,q⟩
  | ref p =>
    cases rx
    have e':(∃ xs,SqL X.K H p xs∧k = !xs.isEmpty)∨(∃ xs,SqT X.K H p xs∧k = !xs.isEmpty)∨∃ kvs,H p=some (.dK kvs)∧k = !kvs.isEmpty:=e
    rcases e' with ⟨xs,hx,e'⟩ | ⟨xs,hx,e'⟩ | ⟨kvs,hx,e'⟩
    · subst e'
      obtain ⟨its,r,pl,hz⟩:=I.list hx
      have hlen:=r.length
      exact wpAny_truthy_list pl.isList (by simp only [List.size_toArray];omega) ⟨H,I.tok _,by rw [isEmpty_of r];exact q⟩
    · subst e'
      obtain ⟨its,r,pl,hz⟩:=I.tuple hx
      have hlen:=r.length
      exact truthy_tuple pl (by simp only [List.size_toArray];omega) ⟨H,I.tok _,by rw [isEmpty_of r];exact q⟩
    · subst e'
      obtain ⟨hz,hS,vs,r,m⟩:kvs.length≤sizeLine∧(p == sysModules)=false∧∃ vs,KV kvs vs∧s.heap.DictOf (mixKind X.prog X.w) p vs:=I.hok p _ hx
      have hlen:kvs.length=vs.length:=Paired.length r
      exact wpAny_truthy_dict hS m (by omega) ⟨H,I.tok _,by rw [isEmpty_kv r];exact q⟩
  | _=>exact (show False from e).elim
theorem pt_truth (ha : PE X a ta) (he : ∀ whole, isTrue a X.env whole = (do let v ← whole; standAt a.pos; holding [v] (truthy v))) :
    PT X a (fun σ H Q=>ta σ H fun x H'=>∃ k,TruV X.K x H' k∧Q k H'):=by
  intro pins s σ H Q I h
  exact isTrue_plain (thn (ha pins s σ H _ I h) fun v s1 ⟨x,H1,I1,r1,q1⟩=>tru_ok pins s1 σ H1 x v Q I1 r1 q1) (he _)
theorem vals1 {x:V} {us:List Value} (r:Vals [x] us):∃ u,us=[u]∧RelV x u:=by
  cases r with
  | cons r1 r2=>cases r2;exact ⟨_,rfl,r1⟩
theorem call_abs:CallR X (.builtin "abs") (fun xs H Q=>∃ i,xs=[.int i]∧Q (.int (if i < 0 then -i else i)) H):=by
  intro pins s σ H xs us Q I r h
  obtain ⟨i,rfl,q⟩:=h
  obtain ⟨u,rfl,t,rfl⟩:=vals1 r
  exact call_abs_int fun u tk=>⟨.int (if i < 0 then -i else i),H,I.tok _,⟨_,rfl⟩,q⟩
end
end L2
namespace L2
open PySem PySem.Spec PyProof.Rows
structure ObjM (h:Heap) (x dx C:Addr) (mA:Str→Option Value):Prop where
  obj:h.get? x=some (PySem.W.instObj C dx)
  ns:h.Ns1 dx mA
  ne:dx≠x
theorem lookIn_ns {h:Heap} {dx:Addr} {mA:Str→Option Value} (n:h.Ns1 dx mA):∃ od,h.get? dx=some od∧∀ name,PySem.W.lookIn name od=some (mA name):=by
  obtain ⟨o,es,ep,ho,hd,hk,_,hm⟩:=n
  refine ⟨o,ho,fun name=>?_⟩
  have e:=hm name
  unfold nsFind findBy at e
  rw [← Array.find?_toList] at e
  unfold PySem.W.lookIn
  rw [hd]
  dsimp only
  split
  · rename_i y q
    rw [q] at e
    exact congrArg some e
  · rename_i q
    rw [q] at e
    have a:es.toList.any (·.refKey)=false:=by
      rw [List.any_eq_false]
      intro y hy
      obtain ⟨z,t,hkey⟩:=hk y (Array.mem_toList_iff.mp hy)
      simp [DictEntry.refKey,hkey]
    have a' : ¬ es.toList.any (·.refKey)=true:=by rw [a];exact Bool.false_ne_true
    rw [if_neg a']
    exact congrArg some e
theorem ObjM.look {h:Heap} {x dx C:Addr} {mA:Str→Option Value} (I:ObjM h x dx C mA):∃ od,PySem.W.InstAt h x (PySem.W.instObj C dx) C (some od)∧∀ name,PySem.W.lookIn name od=some (mA name) :=
  let ⟨od,ho,hl⟩:=lookIn_ns I.ns
  ⟨od,⟨I.obj,rfl,rfl,ho⟩,hl⟩
section
variable {prog:Program} {w:World} {A:Around} {E:Value→Shared→Prop} {s:Shared} {K:PySem.W.Frag} {x dx C f:Addr} {mA:Str→Option Value} {name:Str} {v:Value}
theorem get_map {expr : Bool} {Q : Value → Shared → Prop} (X : K.In s.heap) (I : ObjM s.heap x dx C mA) (hg : PySem.W.plainGet K C name = true) (hh : PySem.W.hasDictIn K C = true)
    (ha:PySem.W.findIn K (.ref C) name=some none) (hv:mA name=some v) (hv':PySem.W.handedIn v=true) (h:Q v { s with toks:=s.toks + 1 }) :
    wpAny (model prog w) A (getAttr (.ref x) name expr) Q E s:=by
  obtain ⟨od,J,hl⟩:=I.look
  exact PySem.W.get_value X J (PySem.W.plainGet_of hg).1 (PySem.W.findObj_own hh ha rfl (by rw [hl,hv])) hv' h
theorem get_meth {pl : Sem Bool} {Q : Value × List Value → Shared → Prop} (X : K.In s.heap) (I : ObjM s.heap x dx C mA) (hg : PySem.W.plainGet K C name = true)
    (hf:PySem.W.findIn K (.ref C) name=some (some (.ref f))) (ht:PySem.W.isFn K (.ref f)=true) (hv:mA name=none) (h:Q (.ref f,[.ref x]) s) :
    wpAny (model prog w) A (getMethod (.ref x) name pl) Q E s:=by
  obtain ⟨od,J,hl⟩:=I.look
  exact PySem.W.method_fn X J (PySem.W.plainGet_of hg).1 (PySem.W.plainGet_of hg).2 hf (beq_iff_eq.mp ht) (by show (PySem.W.lookIn name od).map (·.isSome)=some false;rw [hl,hv];rfl) h
theorem set_map {ns : List Str} {Q : Unit → Shared → Prop} (X : K.In s.heap) (I : ObjM s.heap x dx C mA)
    (hs:PySem.W.findIn K (.ref C) "__setattr__" = some (some (.builtin "object.__setattr__"))) (hp:PySem.W.plainOver K C=true) (ht:PySem.W.takerIn K C name=some none) (hh:PySem.W.hasDictIn K C=true)
    (hw:PySem.Within mA ns) (hsz:ns.length≤sizeLine)
    (h:∀ h',ObjM h' x dx C (fun y=>if y=name then some v else mA y)→Heap.SameBut dx s.heap h'→Q () { s with heap:=h',toks:=s.toks + 2 }) :
    wpAny (model prog w) A (setAttr (.ref x) name v) Q E s:=by
  obtain ⟨od,J,hl⟩:=I.look
  refine PySem.W.set_plain X J hs (PySem.W.osa_open (s:={ s with toks:=s.toks + 1 }) (r:=none) X J hp ht fun b=>?_)
  obtain ⟨cd,hc,hd'⟩:=PySem.W.any_some hh
  have hx:s.heap.get? x=some ⟨.ref C,some dx,.plain,#[]⟩:=I.obj
  refine wpAny_bind (wpAny_pure (wpAny_bind (wpAny_bind (wpAny_loadPart hx (wpAny_bind (PySem.W.Looks.here (s:={ s with toks:=s.toks + 1 }) (PySem.W.looks_clsIn X hc) ?_))))))
  rw [hd']
  refine wpAny_pure (a:=some dx) (wpAny_bind (wpAny_pure (wpAny_bind ?_)))
  refine wpAny_nsSet1 (s:={ s with toks:=s.toks + 1 }) I.ns fun h' hn2 hs2=>?_
  obtain ⟨oD,esD,epD,hoD,hdD,hcD⟩:=hn2.count (PySem.Within.cons name v hw)
  refine wpAny_bind (wpAny_lookBehind hoD (by rw [hdD];exact pastItsLine_dict (Nat.le_trans hcD (by rw [List.length_cons];omega))) ?_)
  exact wpAny_pure (h _ ⟨(hs2.2 _ (Ne.symm I.ne)).trans I.obj,hn2,I.ne⟩ hs2)
theorem make_map {R : Result → Shared → Prop} {vs : List Value} {kw : List (Str × Value)} (X : K.In s.heap) (hm : PySem.W.makesIn K C = true)
    (hi:PySem.W.findIn K (.ref C) "__init__" = some (some (.ref f))) (hf:PySem.W.typeIn K (.ref f)=some (.type "function"))
    (h:codeAny (model prog w) (A.under (.builtin "type.__call__" ⟨.ref C :: vs,kw⟩)) (.call (.ref f) ⟨.ref (s.heap.objs.size + 1) :: vs,kw⟩) (PySem.W.InitBack (s.heap.objs.size + 1) R)
      { s with heap:=(s.heap.push PySem.W.emptyDict).push (PySem.W.instObj C s.heap.objs.size) }) :
    codeAny (model prog w) A (.call (.ref C) ⟨vs,kw⟩) R s:=by
  obtain ⟨hh,g,d,t,os⟩:=s
  exact PySem.W.make_core (PySem.W.makes_of X hm) (PySem.W.looks_findIn X hi) (fun self=>PySem.W.bind_fn X self hf) (.inl rfl) h
end
def putF (f:Str) (v:V):List (Str × V)→List (Str × V)
  | []=>[(f,v)]
  | (g,x) :: r=>if g=f then (g,v) :: r else (g,x) :: putF f v r
theorem lookup_putF (f g:Str) (v:V):∀ fs:List (Str × V),(putF f v fs).lookup g=if g=f then some v else fs.lookup g
  | []=>by
    show List.lookup g [(f,v)]=_
    by_cases h:g=f
    · have hb:(g == f)=true:=beq_iff_eq.mpr h
      simp only [List.lookup,hb,if_pos h]
    · have hb:(g == f)=false:=beq_eq_false_iff_ne.mpr h
      simp only [List.lookup,hb,if_neg h]
  | (k,x) :: r=>by
    have ih:=lookup_putF f g v r
    rw [show putF f v ((k,x) :: r)=(if k=f then (k,v) :: r else (k,x) :: putF f v r) from rfl]
    by_cases hk:k=f
    · rw [if_pos hk]
      by_cases h:g=k
      · have hb:(g == k)=true:=beq_iff_eq.mpr h
        simp only [List.lookup,hb,if_pos (h.trans hk)]
      · have hb:(g == k)=false:=beq_eq_false_iff_ne.mpr h
        simp only [List.lookup,hb,if_neg (fun e:g=f=>h (e.trans hk.symm))]
    · rw [if_neg hk]
      by_cases h:g=k
      · have hb:(g == k)=true:=beq_iff_eq.mpr h
        simp only [List.lookup,hb,if_neg (fun e:g=f=>hk (h.symm.trans e))]
      · have hb:(g == k)=false:=beq_eq_false_iff_ne.mpr h
        simp only [List.lookup,hb]
        exact ih
theorem keys_putF (f:Str) (v:V):∀ fs:List (Str × V),f ∈ (putF f v fs).map (·.1)∧∀ g,g ∈ fs.map (·.1)→g ∈ (putF f v fs).map (·.1)
  | []=>⟨by simp [putF],fun g h=>by simp at h⟩
  | (k,x) :: r=>by
    obtain ⟨i1,i2⟩:=keys_putF f v r
    rw [show putF f v ((k,x) :: r)=(if k=f then (k,v) :: r else (k,x) :: putF f v r) from rfl]
    by_cases hk:k=f
    · rw [if_pos hk]
      subst hk
      exact ⟨by simp,fun g h=>by simpa using h⟩
    · rw [if_neg hk]
      refine ⟨?_,fun g h=>?_⟩
      · rw [List.map_cons]
        exact List.mem_cons_of_mem _ i1
      · rw [List.map_cons] at h ⊢
        rcases List.mem_cons.mp h with e | e
        · exact List.mem_cons.mpr (.inl e)
        · exact List.mem_cons_of_mem _ (i2 g e)
theorem length_putF (f:Str) (v:V):∀ fs:List (Str × V),(putF f v fs).length≤fs.length + 1
  | []=>by simp [putF]
  | (k,x) :: r=>by
    have ih:=length_putF f v r
    rw [show putF f v ((k,x) :: r)=(if k=f then (k,v) :: r else (k,x) :: putF f v r) from rfl]
    by_cases hk:k=f
    · rw [if_pos hk,List.length_cons,List.length_cons];omega
    · rw [if_neg hk,List.length_cons,List.length_cons];omega
theorem RelO.some_of {v:V} {o:Option Value} (r:RelO (some v) o):∃ u,o=some u∧RelV v u:=by
  cases o with
  | none=>exact (show False from r).elim
  | some u=>exact ⟨u,rfl,r⟩
theorem RelO.none_of {o:Option Value} (r:RelO none o):o=none:=by
  cases o with
  | none=>rfl
  | some u=>exact (show False from r).elim
theorem handed_of {v:V} {u:Value} (r:RelV v u):PySem.W.handedIn u=true:=by
  cases v with
  | non=>cases (show u=Value.none from r);rfl
  | bl b=>cases (show u=Value.bool b from r);rfl
  | int i=>obtain ⟨t,e⟩:=(show ∃ t,u=Value.int i t from r);cases e;rfl
  | str x=>obtain ⟨t,e⟩:=(show ∃ t,u=Value.str x t from r);cases e;rfl
  | byt b=>obtain ⟨t,e⟩:=(show ∃ t,u=Value.bytes b t from r);cases e;rfl
  | flt b=>obtain ⟨t,e⟩:=(show ∃ t,u=Value.float b t from r);cases e;rfl
  | ref a=>cases (show u=Value.ref a from r);rfl
  | ty n=>cases (show u=Value.type n from r);rfl
section
variable {P:Program} {w:World} {H H':Hp} {h h':Heap} {a C dx:Addr} {fs fs':List (Str × V)}
theorem ins_get (hok:HOk P w H h) (e:H a=some (.ins C dx fs)):∃ mA,ObjM h a dx C mA∧(∀ f,RelO (fs.lookup f) (mA f))∧PySem.Within mA (fs.map (·.1))∧fs.length≤1000∧H dx=some (.own a):=by
  obtain ⟨d,z,ne,ob,mA,n,r,q⟩:=(show ObjOk P w H h a (.ins C dx fs) from hok a _ e)
  exact ⟨mA,⟨ob,n,ne⟩,r,q,z,d⟩
end
structure Cls (K:PySem.W.Frag) (C:Addr):Prop where
  pg:PySem.W.plainGet K C Str.empty=true
  hd:PySem.W.hasDictIn K C=true
  po:PySem.W.plainOver K C=true
  sa:PySem.W.findIn K (.ref C) "__setattr__" = some (some (.builtin "object.__setattr__"))
theorem Cls.get {K:PySem.W.Frag} {C:Addr} (c:Cls K C) (f:Str):PySem.W.plainGet K C f=true:=c.pg
def NoAttr (K:PySem.W.Frag) (C:Addr) (f:Str):Prop:=PySem.W.findIn K (.ref C) f=some none
theorem NoAttr.taker {K:PySem.W.Frag} {C:Addr} {f:Str} (n:NoAttr K C f):PySem.W.takerIn K C f=some none:=by
  unfold PySem.W.takerIn
  rw [show PySem.W.findIn K (.ref C) f=some none from n]
  rfl
structure Meth (K:PySem.W.Frag) (C:Addr) (m:Str) (f:Addr):Prop where
  at_:PySem.W.findIn K (.ref C) m=some (some (.ref f))
  fn:PySem.W.isFn K (.ref f)=true
  kp:PySem.W.keepIn K (.ref f)=true
section
variable {X:Cx} {pins:List (Addr × Obj)} {σ : St} {H:Hp} {s:Shared} {a C dx:Addr} {fs:List (Str × V)} {f:Str} {v:V} {A:Around} {E:Value→Shared→Prop}
theorem getattr_ok {b : Bool} {Q : Value → Shared → Prop} (I : Inv X pins σ H s) (e : H a = some (.ins C dx fs)) (c : Cls X.K C) (n : NoAttr X.K C f) (l : fs.lookup f = some v)
    (h:∀ u s',Inv X pins σ H s'→RelV v u→Q u s'):wpAny (model X.prog X.w) A (getAttr (.ref a) f b) Q E s:=by
  obtain ⟨mA,O,r,_,_,_⟩:=ins_get I.hok e
  obtain ⟨u,hu,ru⟩:=RelO.some_of (v:=v) (o:=mA f) (by rw [← l];exact r f)
  exact get_map I.kIn O (c.get f) c.hd n hu (handed_of ru) (h u _ (I.tok _) ru)
theorem getmeth_ok {m : Str} {g : Addr} {pl : Sem Bool} {Q : Value × List Value → Shared → Prop} (I : Inv X pins σ H s) (e : H a = some (.ins C dx fs)) (c : Cls X.K C) (k : Meth X.K C m g) (l : fs.lookup m = none)
    (h:Q (.ref g,[.ref a]) s):wpAny (model X.prog X.w) A (getMethod (.ref a) m pl) Q E s:=by
  obtain ⟨mA,O,r,_,_,_⟩:=ins_get I.hok e
  have hn:mA m=none:=RelO.none_of (by rw [← l];exact r m)
  exact get_meth I.kIn O (c.get m) k.at_ k.fn hn h
theorem setattr_ok {y : V} {u : Value} {Q : Unit → Shared → Prop} (I : Inv X pins σ H s) (e : H a = some (.ins C dx fs)) (c : Cls X.K C) (n : NoAttr X.K C f) (hl : fs.length < 1000) (ry : RelV y u)
    (h:∀ s',Inv X pins σ (upd H a (.ins C dx (putF f y fs))) s'→Q () s'):wpAny (model X.prog X.w) A (setAttr (.ref a) f u) Q E s:=by
  obtain ⟨mA,O,r,wi,_,ho⟩:=ins_get I.hok e
  have hz:(fs.map (·.1)).length≤sizeLine:=by rw [List.length_map,sizeLine_eq];omega
  refine set_map I.kIn O c.sa c.po n.taker c.hd wi hz fun h' O' sb=>h _ ?_
  have hd:∃ o,h'.get? dx=some o:=let ⟨o,_,_,e',_⟩:=O'.ns;⟨o,e'⟩
  refine I.write (x:=a) (e:=dx) (by rw [e];exact True.intro) (.inr ho) (fun b q hb z=>(sb.2 b hb).trans z) hd ?_
  refine ⟨by rw [upd_ne O.ne];exact ho,?_,O.ne,O'.obj,_,O'.ns,fun g=>?_,fun g hg=>?_⟩
  · have:=length_putF f y fs;omega
  · show RelO ((putF f y fs).lookup g) (if g=f then some u else mA g)
    rw [lookup_putF]
    by_cases q:g=f
    · rw [if_pos q,if_pos q];exact ry
    · rw [if_neg q,if_neg q];exact r g
  · by_cases q:g=f
    · rw [q];exact (keys_putF f y fs).1
    · refine (keys_putF f y fs).2 g (wi g fun z=>hg ?_)
      show (if g=f then some u else mA g)=none
      rw [if_neg q];exact z
theorem Inv.made (I : Inv X pins σ H s) : Inv X pins σ (upd (upd H s.heap.objs.size (.own (s.heap.objs.size + 1))) (s.heap.objs.size + 1) (.ins C s.heap.objs.size []))
    { s with heap:=(s.heap.push PySem.W.emptyDict).push (PySem.W.instObj C s.heap.objs.size) }:=by
  have e1:(s.heap.push PySem.W.emptyDict).get? s.heap.objs.size=some PySem.W.emptyDict:=Heap.get?_push_size s.heap rfl
  have e2:((s.heap.push PySem.W.emptyDict).push (PySem.W.instObj C s.heap.objs.size)).get? (s.heap.objs.size + 1)=some (PySem.W.instObj C s.heap.objs.size):=by
    have:=Heap.get?_push_size (s.heap.push PySem.W.emptyDict) (o:=PySem.W.instObj C s.heap.objs.size) rfl
    rwa [Heap.size_push] at this
  have e3:(s.heap.push PySem.W.emptyDict).Ns s.heap.objs.size (fun _=>none):=⟨PySem.W.emptyDict,#[],_,e1,rfl,(fun e he=>absurd he (by simp)),fun _=>rfl⟩
  have I1:=I.laid (a:=s.heap.objs.size) (o:=.own (s.heap.objs.size + 1)) (h':=s.heap.push PySem.W.emptyDict) (t':=s.toks) (fun b u q=>Heap.get?_push_of_some _ q) (Nat.le_refl _) ⟨_,e1⟩
  refine I1.laid (a:=s.heap.objs.size + 1) (o:=.ins C s.heap.objs.size []) (t':=s.toks) (fun b u q=>Heap.get?_push_of_some _ q) (Nat.le_of_eq (Heap.size_push _ _)) ?_
  have ne:s.heap.objs.size≠s.heap.objs.size + 1:=Nat.ne_of_lt (Nat.lt_succ_self _)
  refine ⟨by rw [upd_ne ne,upd_same],Nat.zero_le _,ne,e2,fun _=>none,(Heap.Ns1.of_empty e3).at fun o q=>Heap.get?_push_of_some _ q,fun _=>True.intro,fun y hy=>absurd rfl hy⟩
theorem attr_of {prog : Program} {w : World} {env : Env} {e : Expr} {f : Str} {pos : Pos} {s : Shared} {Q : Value → Shared → Prop} (hb : attributeBase e f env (eval e env) = eval e env)
    (h:wpAny (model prog w) A (eval e env) (fun o s₁=>wpAny (model prog w) A (getAttr o f true) Q E s₁) E s):wpAny (model prog w) A (eval (.Attribute e f pos) env) Q E s :=
  Attribute_any_ h (by rw [arm_eval_Attribute,hb])
end
def tFld (K:PySem.W.Frag) (ta:TE) (f:Str):TE:=fun σ H Q=>ta σ H fun x H1=>∃ a C dx fs v,x = .ref a∧H1 a=some (.ins C dx fs)∧Cls K C∧NoAttr K C f∧fs.lookup f=some v∧Q v H1
def sFld (K:PySem.W.Frag) (ta tv:TE) (f:Str):TS:=fun D σ H=>tv σ H fun y H1=>ta σ H1 fun x H2=>∃ a C dx fs,x = .ref a∧H2 a=some (.ins C dx fs)∧Cls K C∧NoAttr K C f∧fs.length < 1000 ∧
  D.nx σ (upd H2 a (.ins C dx (putF f y fs)))
section
variable {X:Cx} {o e value:Expr} {f:Str} {pos pos' tpos:Pos} {ta tv:TE}
theorem pe_fld (he:PE X e ta) (hb:attributeBase e f X.env (eval e X.env)=eval e X.env):PE X (.Attribute e f pos) (tFld X.K ta f):=by
  intro pins s σ H Q I h
  refine attr_of hb (thn (he pins s σ H _ I h) fun u s1 ⟨x,H1,I1,rx,a,C,dx,fs,v,ex,ea,c,n,l,q⟩=>?_)
  subst ex
  obtain rfl:u=Value.ref a:=rx
  exact getattr_ok I1 ea c n l fun u' s2 I2 ru=>⟨v,H1,I2,ru,q⟩
theorem ps_fld (ha:PE X o ta) (hv:PE X value tv) (hs:swapsWith value (some (.Attribute o f pos')) pos.line X.env=pure false):PS X (.Assign [.Attribute o f pos'] value pos) (sFld X.K ta tv f):=by
  intro pins s σ H D I h
  refine plainObj_wpAny_Assign_Attribute (thn (hv pins s σ H _ I h) fun u s1 ⟨y,H1,I1,ry,q⟩=>thn (ha pins s1 σ H1 _ I1 q) fun ov s2 ⟨x,H2,I2,rx,a,C,dx,fs,ex,ea,c,n,l,q2⟩=>?_) hs
  subst ex
  obtain rfl:ov=Value.ref a:=rx
  exact setattr_ok I2 ea c n l ry fun s3 I3=>⟨σ,_,I3,q2⟩
end
section
variable {X:Cx} {pins:List (Addr × Obj)} {σ : St} {H:Hp} {s:Shared} {A:Around} {E:Value→Shared→Prop} {Q:Value→Shared→Prop} {c:Value} {b:Bool}
end
end L2
namespace L2
open PySem PySem.Spec PyProof.Rows
structure Room (k:Nat) (A:Around):Prop where
  hd:A.handled=none
  dp:A.depth + 3 * k + 5 < recursionLimit
  un:A.units + 16 * k + 200 < cLine
theorem Room.mono {j k:Nat} {A:Around} (r:Room k A) (h:j≤k):Room j A:=⟨r.hd,by have:=r.dp;omega,by have:=r.un;omega⟩
theorem Room.deeper {k:Nat} {A:Around} (r:Room (k + 1) A) (env:Env):Room k (A.deeper env) :=
  ⟨r.hd,by have:=r.dp;show A.depth + 1 + 3 * k + 5 < _;omega,by have:=r.un;show A.units + 3 + 16 * k + 200 < _;omega⟩
theorem Room.in1 {k:Nat} {A:Around} (r:Room (k + 1) A):Room k A.in1 :=
  ⟨r.hd,by have:=r.dp;show A.depth + 3 * k + 5 < _;omega,by have:=r.un;show A.units + 1 + 16 * k + 200 < _;omega⟩
theorem make_depth {A:Around} {C:Addr} {us:List Value} {kw:List (Str × Value)}:(A.under (.builtin "type.__call__" ⟨.ref C :: us,kw⟩)).depth=A.depth + 1:=by
  first | rfl | simp [Around.under,Code.weight,Code.isCreation,Code.isGuard,Code.isCaller,Code.frames,Code.isFrame,guardIds]
theorem make_units {A:Around} {C:Addr} {us:List Value} {kw:List (Str × Value)}:(A.under (.builtin "type.__call__" ⟨.ref C :: us,kw⟩)).units=A.units + 1:=by
  first | rfl | simp [Around.under,Code.cUnits,Code.frames,Code.isFrame]
theorem Room.make {k:Nat} {A:Around} (r:Room (k + 1) A) (C:Addr) (us:List Value) (kw:List (Str × Value)):Room k (A.under (.builtin "type.__call__" ⟨.ref C :: us,kw⟩)) :=
  ⟨r.hd,by have:=r.dp;rw [make_depth];omega,by have:=r.un;rw [make_units];omega⟩
theorem Room.depth {k:Nat} {A:Around} (r:Room k A):A.depth < recursionLimit:=by have:=r.dp;omega
theorem Room.units {k:Nat} {A:Around} (r:Room k A):A.units + 64 < cLine:=by have:=r.un;omega
theorem Room.units0 {k:Nat} {A:Around} (r:Room k A):A.units < cLine:=by have:=r.un;omega
def tNil:TA:=fun _ H Q=>Q [] H
def tCons (ta:TE) (tr:TA):TA:=fun σ H Q=>ta σ H fun x H1=>tr σ H1 fun xs H2=>Q (x :: xs) H2
section
variable {X:Cx} {e:Expr} {es:List Expr} {te:TE} {t:TA} {pos:Pos}
theorem pa_nil:PA X [] tNil:=fun _ _ _ _ H Q I h=>Calls.spliced_nil ⟨[],H,I,.nil,h⟩
theorem pa_cons (ha:PE X e te) (hr:PA X es t) (hs:starEach (e :: es) X.env=(false,eval e X.env) :: starEach es X.env:=by rfl):PA X (e :: es) (tCons te t):=by
  intro pos pins s σ H Q I h
  rw [hs]
  show wpAny _ _ (spliced ((false,eval e X.env) :: backTo pos (starEach es X.env))) _ _ s
  refine Calls.spliced_cons (thn (ha pins s σ H _ I h) fun u s1 ⟨x,H1,I1,r1,q1⟩=>?_)
  exact thn (hr pos pins s1 σ H1 _ I1 q1) fun us s2 ⟨xs,H2,I2,r2,q2⟩=>⟨x :: xs,H2,I2,.cons r1 r2,q2⟩
def tTup (t:TA):TE:=fun σ H Q=>t σ H fun xs H1=>xs.length≤sizeLine∧∀ p,H1 p=none→Q (.ref p) (upd H1 p (.tup xs))
def tLst (t:TA):TE:=fun σ H Q=>t σ H fun xs H1=>xs.length≤sizeLine∧∀ p,H1 p=none→Q (.ref p) (upd H1 p (.lst xs))
theorem pe_tup {x1} (h:PA X es t):PE X (.Tuple es x1 pos) (tTup t):=by
  intro pins s σ H Q I hq
  refine wpAny_Tuple_spliced (thn (h pos pins s σ H _ I hq) fun us s1 ⟨xs,H1,I1,r,z,q⟩=>⟨by rw [← r.length];exact z,?_⟩)
  have hf:H1 s1.heap.objs.size=none:=I1.hok.fresh (Nat.le_refl _)
  refine ⟨.ref s1.heap.objs.size,upd H1 s1.heap.objs.size (.tup xs),I1.laid (t':=s1.toks) (fun b u e=>Heap.get?_push_of_some _ e) (Nat.le_refl _) ?_,rfl,q _ hf⟩
  exact ⟨z,us,r,⟨_,Heap.get?_push_size _ rfl,rfl,_,rfl⟩⟩
theorem pe_lst (h:PA X es t):PE X (.List es pos) (tLst t):=by
  intro pins s σ H Q I hq
  refine wpAny_List_spliced (thn (h pos pins s σ H _ I hq) fun us s1 ⟨xs,H1,I1,r,z,q⟩=>⟨by rw [← r.length];exact z,?_⟩)
  have hf:H1 s1.heap.objs.size=none:=I1.hok.fresh (Nat.le_refl _)
  refine ⟨.ref s1.heap.objs.size,upd H1 s1.heap.objs.size (.lst xs),I1.laid (t':=s1.toks) (fun b u e=>Heap.get?_push_of_some _ e) (Nat.le_refl _) ?_,rfl,q _ hf⟩
  exact ⟨z,us,0,r,Heap.get?_push_size _ rfl⟩
end
abbrev Sp:=List V→Hp→VK→XK→Prop
abbrev CXT:=List Env→Hp→Shared→XK→Value→Shared→Prop
structure Env0 (P:Program) (w:World) (K:PySem.W.Frag) (mg:Str→Option Value) (base:Heap) (A:Around) (outer:List Env) (s:Shared) (H:Hp):Prop where
  frames:A.frames=some outer
  mod:Mod K mg base
  bs:∀ b o,base.get? b=some o→s.heap.get? b=some o∧H b=none
  bsz:base.objs.size≤s.heap.objs.size
  funs:s.heap.FunFrames base outer
  frf:∀ b ∈ frs outer,H b=none
  hok:HOk P w H s.heap
  bare:AllBare s.gens
def CE (outer:List Env) (P:Program) (w:World) (H:Hp) (s:Shared) (Q:VK) (u:Value) (s':Shared):Prop :=
  ∃ v H',s'.os=s.os∧AllBare s'.gens∧Un (frs outer) [] H H' s.heap s'.heap∧HOk P w H' s'.heap∧RelV v u∧Q v H'
def CR (CX:CXT) (outer:List Env) (P:Program) (w:World) (H:Hp) (s:Shared) (Q:VK) (E:XK) (r:Result) (s':Shared):Prop :=
  match r with
  | .ok (.ret u)=>CE outer P w H s Q u s'
  | .ok _=>False
  | .error e=>CX outer H s E e s'
structure FnOk (P:Program) (w:World) (K:PySem.W.Frag) (mg:Str→Option Value) (base:Heap) (CX:CXT) (k:Nat) (f:Addr) (fd:FuncData) (ps:List Str) (sp:Sp):Prop where
  len:∀ vs H Q E,sp vs H Q E→vs.length=ps.length
  run:∀ (A:Around) (outer:List Env) (s:Shared) (H:Hp) (args:Args) (us:List Value) (vs:List V) (Q:VK) (E:XK),Room k A→Env0 P w K mg base A outer s H→BindsTo s fd args (ps.zip us)→Vals vs us→sp vs H Q E →
    codeAny (model P w) A (.call (.ref f) args) (CR CX outer P w H s Q E) s
theorem FnOk.mono {P : Program} {w : World} {K : PySem.W.Frag} {mg : Str → Option Value} {base : Heap} {CX : CXT} {j k : Nat} {f : Addr} {fd : FuncData} {ps : List Str} {sp : Sp} (F : FnOk P w K mg base CX j f fd ps sp) (h : j ≤ k) :
    FnOk P w K mg base CX k f fd ps sp:=⟨F.len,fun A outer s H args us vs Q E hr=>F.run A outer s H args us vs Q E (hr.mono h)⟩
theorem Env0.make {P : Program} {w : World} {K : PySem.W.Frag} {mg : Str → Option Value} {base : Heap} {A : Around} {outer : List Env} {s : Shared} {H : Hp} (e : Env0 P w K mg base A outer s H) (C : Addr) (us : List Value) (kw : List (Str × Value)) :
    Env0 P w K mg base (A.under (.builtin "type.__call__" ⟨.ref C :: us,kw⟩)) outer s H:=⟨by first | exact e.frames | (simpa [Around.under,Code.envs,Code.isFrame,pushEnvs] using e.frames),e.mod,e.bs,e.bsz,e.funs,e.frf,e.hok,e.bare⟩
section
variable {X:Cx} {pins:List (Addr × Obj)} {σ : St} {H:Hp} {s s':Shared}
theorem Inv.env0 (I:Inv X pins σ H s):Env0 X.prog X.w X.K X.mg X.base X.A X.stack s H :=
  ⟨I.ok.frames,I.ok.mod,I.bs,Nat.le_trans I.ok.bsz I.sz,I.stack,I.stkFree,I.hok,I.bare⟩
theorem Inv.after {Q:VK} {u:Value} (I:Inv X pins σ H s) (h:CE X.stack X.prog X.w H s Q u s'):EP X pins σ Q u s':=by
  obtain ⟨v,H',os,bare,un,hok,r,q⟩:=h
  obtain ⟨hh,g,d,t,os'⟩:=s'
  obtain rfl:os'=s.os:=os
  exact ⟨v,H',I.call (h':=hh) (g':=g) (d':=d) (t':=t) (ch:=[]) un hok bare (fun b z=>absurd z (by simp)),r,q⟩
end
def tCall (sp:Sp) (dvs:List V) (E:XK) (t:TA):TE:=fun σ H Q=>t σ H fun vs H1=>sp (vs++dvs) H1 Q E
def tMeth (C:Addr) (m:Str) (sp:Sp) (dvs:List V) (E:XK) (ta:TE) (t:TA):TE:=fun σ H Q=>ta σ H fun x H1=>∃ a dx fs,x = .ref a∧H1 a=some (.ins C dx fs)∧fs.lookup m=none ∧
  t σ H1 fun vs H2=>sp (x :: (vs++dvs)) H2 Q E
def tMake (C:Addr) (sp:Sp) (dvs:List V) (E:XK) (t:TA):TE:=fun σ H Q=>t σ H fun vs H1=>∀ x dx,H1 x=none→H1 dx=none→dx≠x →
  sp (.ref x :: (vs++dvs)) (upd (upd H1 dx (.own x)) x (.ins C dx [])) (fun v H2=>v = .non∧Q (.ref x) H2) E
def Binds (K:PySem.W.Frag) (fd:FuncData) (ps:List Str) (ds:List Value):Prop :=
  ∀ (s:Shared) (us:List Value),K.In s.heap→(us++ds).length=ps.length→BindsTo s fd ⟨us,[]⟩ (ps.zip (us++ds))
theorem Binds.all {K:PySem.W.Frag} {fd:FuncData} {ps:List Str} (h:∀ us:List Value,us.length=ps.length→bindArgs fd ⟨us,[]⟩=pure (ps.zip us)):Binds K fd ps []:=fun s us _ hl=>by
  rw [List.append_nil] at hl ⊢
  exact .of_eq (h us hl)
def Passes (CX:CXT) (X:Cx) (E:XK):Prop:=∀ (pins:List (Addr × Obj)) (σ : St) (H:Hp) (s:Shared) (e:Value) (s':Shared),Inv X pins σ H s→CX X.stack H s E e s'→X.xe e s'
section
variable {X:Cx} {CX:CXT} {k:Nat} {f C:Addr} {fd:FuncData} {ps:List Str} {sp:Sp} {dvs:List V} {ds:List Value} {E:XK} {x m:Str} {p pos apos:Pos} {e o:Expr} {es:List Expr} {ta:TE} {t:TA}
theorem run_fn {pins : List (Addr × Obj)} {σ : St} {H : Hp} {s : Shared} {Q : VK} {us : List Value} {vs : List V} (F : FnOk X.prog X.w X.K X.mg X.base CX k f fd ps sp) (hr : Room k X.A) (hb : Binds X.K fd ps ds) (hd : Vals dvs ds) (hx : Passes CX X E)
    (I:Inv X pins σ H s) (r:Vals vs us) (h:sp (vs++dvs) H Q E):wpAny (model X.prog X.w) X.A (call (.ref f) us) (EP X pins σ Q) X.xe s:=by
  have r2:Vals (vs++dvs) (us++ds):=r.append hd
  have hl:(us++ds).length=ps.length:=by rw [← r2.length];exact F.len _ _ _ _ h
  refine wpAny_call (codeAny_mono (F.run X.A X.stack s H ⟨us,[]⟩ (us++ds) (vs++dvs) Q E hr I.env0 (hb s us I.kIn hl) r2 h) fun r s' hq=>?_)
  cases r with
  | error e=>exact hx pins σ H s e s' I hq
  | ok fl =>
    cases fl with
    | ret u=>exact I.after hq
    | next=>exact False.elim hq
    | brk=>exact False.elim hq
    | cont=>exact False.elim hq
theorem pe_call (F : FnOk X.prog X.w X.K X.mg X.base CX k f fd ps sp) (hr : Room k X.A) (hg : Gl X x) (hm : X.mg x = some (.ref f)) (hk : PySem.W.keepIn X.K (.ref f) = true) (hb : Binds X.K fd ps ds) (hd : Vals dvs ds) (hx : Passes CX X E)
    (ha:PA X (e :: es) t) (hdb:(x == ("__debug__" : Str))=false:=by decide) (he:starEach (e :: es) X.env=(false,eval e X.env) :: starEach es X.env:=by rfl) (hpl:(backTo pos (starEach es X.env)).any (·.1)=false:=by rfl) :
    PE X (.Call (.Name x p) (e :: es) [] pos) (tCall sp dvs E t):=by
  intro pins s σ H Q I h
  refine wpAny_Call_Name_kw (ld_glob I hg hm ?_ hdb)
  refine PySem.W.callWith_K (h₀:=X.base) I.ok.mod.kin hk (thn (ha pos pins s σ H _ I h) fun us s1 ⟨vs,H1,I1,r,q⟩=>⟨I1.kIn,?_⟩) he hpl
  exact run_fn F hr hb hd hx I1 r q
theorem pe_meth {pl : Sem Bool} (he : PE X o ta) (c : Cls X.K C) (hm : Meth X.K C m f) (F : FnOk X.prog X.w X.K X.mg X.base CX k f fd ps sp) (hr : Room k X.A) (hb : Binds X.K fd ps ds) (hd : Vals dvs ds) (hx : Passes CX X E) (ha : PA X (e :: es) t)
    (hst:starEach (e :: es) X.env=(false,eval e X.env) :: starEach es X.env:=by rfl) (hpl:(backTo pos (starEach es X.env)).any (·.1)=false:=by rfl)
    (ht:eval (.Call (.Attribute o m apos) (e :: es) [] pos) X.env=(do
      let ov ← eval o X.env
      standAt apos.atName
      let (f,first) ← holding [ov] (getMethod ov m pl)
      callWith pos f first (backTo pos (starEach (e :: es) X.env)) (backToKw pos (keywordEach [] X.env))):=by rfl) :
    PE X (.Call (.Attribute o m apos) (e :: es) [] pos) (tMeth C m sp dvs E ta t):=by
  intro pins s σ H Q I h
  refine PySem.W.methodCall_KW (pl:=pl) (thn (he pins s σ H _ I h) fun u s1 ⟨x,H1,I1,rx,a,dx,fs,ex,ea,l,q⟩=>?_) ht
  subst ex
  obtain rfl:u=Value.ref a:=rx
  refine getmeth_ok I1 ea c hm l ?_
  refine PySem.W.callWith_K (first:=[.ref a]) (h₀:=X.base) I.ok.mod.kin hm.kp (thn (ha pos pins s1 σ H1 _ I1 q) fun us s2 ⟨vs,H2,I2,r,q2⟩=>⟨I2.kIn,?_⟩) hst hpl
  exact run_fn (us:=.ref a :: us) (vs:=.ref a :: vs) F hr hb hd hx I2 (.cons rfl r) q2
theorem pe_meth0 {pl : Sem Bool} (he : PE X o ta) (c : Cls X.K C) (hm : Meth X.K C m f) (F : FnOk X.prog X.w X.K X.mg X.base CX k f fd ps sp) (hr : Room k X.A) (hb : Binds X.K fd ps ds) (hd : Vals dvs ds) (hx : Passes CX X E)
    (ht:eval (.Call (.Attribute o m apos) [] [] pos) X.env=(do
      let ov ← eval o X.env
      standAt apos.atName
      let (f,first) ← holding [ov] (getMethod ov m pl)
      callWith pos f first (backTo pos (starEach [] X.env)) (backToKw pos (keywordEach [] X.env))):=by rfl) :
    PE X (.Call (.Attribute o m apos) [] [] pos) (tMeth C m sp dvs E ta tNil):=by
  intro pins s σ H Q I h
  refine PySem.W.methodCall_KW (pl:=pl) (thn (he pins s σ H _ I h) fun u s1 ⟨x,H1,I1,rx,a,dx,fs,ex,ea,l,q⟩=>?_) ht
  subst ex
  obtain rfl:u=Value.ref a:=rx
  refine getmeth_ok I1 ea c hm l ?_
  exact PySem.W.callWith_K0 (first:=[.ref a]) I1.kIn hm.kp (run_fn (us:=[.ref a]) (vs:=[.ref a]) F hr hb hd hx I1 (.cons rfl .nil) q)
structure Mk (K:PySem.W.Frag) (C f:Addr):Prop where
  makes:PySem.W.makesIn K C=true
  init:PySem.W.findIn K (.ref C) "__init__" = some (some (.ref f))
  fn:PySem.W.isFn K (.ref f)=true
  kp:PySem.W.keepIn K (.ref C)=true
theorem run_make {pins : List (Addr × Obj)} {σ : St} {H : Hp} {s : Shared} {Q : VK} {us : List Value} {vs : List V} (M : Mk X.K C f) (F : FnOk X.prog X.w X.K X.mg X.base CX k f fd ps sp) (hr : Room (k + 1) X.A) (hb : Binds X.K fd ps ds) (hd : Vals dvs ds)
    (hx:Passes CX X E) (I:Inv X pins σ H s) (r:Vals vs us)
    (h:∀ x dx,H x=none→H dx=none→dx≠x→sp (.ref x :: (vs++dvs)) (upd (upd H dx (.own x)) x (.ins C dx [])) (fun v H2=>v = .non∧Q (.ref x) H2) E) :
    wpAny (model X.prog X.w) X.A (call (.ref C) us) (EP X pins σ Q) X.xe s:=by
  have hq:=h (s.heap.objs.size + 1) s.heap.objs.size (I.hok.fresh (Nat.le_succ _)) (I.hok.fresh (Nat.le_refl _)) (Nat.ne_of_lt (Nat.lt_succ_self _))
  have I2:=Inv.made (C:=C) I
  have r2:Vals (V.ref (s.heap.objs.size + 1) :: (vs++dvs)) (Value.ref (s.heap.objs.size + 1) :: (us++ds)):=.cons rfl (r.append hd)
  have hl:(Value.ref (s.heap.objs.size + 1) :: us++ds).length=ps.length:=by
    have e:=r2.length
    rw [F.len _ _ _ _ hq] at e
    exact e.symm
  refine wpAny_call (make_map (f:=f) I.kIn M.makes M.init (beq_iff_eq.mp M.fn) (codeAny_mono (F.run _ X.stack _ _ ⟨Value.ref (s.heap.objs.size + 1) :: us,[]⟩ (Value.ref (s.heap.objs.size + 1) :: (us++ds)) _ _ E (hr.make C us [])
    (I2.env0.make C us []) (hb _ (Value.ref (s.heap.objs.size + 1) :: us) I2.kIn hl) r2 hq) fun r s' hq'=>?_))
  cases r with
  | error e=>exact hx pins σ _ _ e s' I2 hq'
  | ok fl =>
    cases fl with
    | ret u =>
      obtain ⟨v,H',I3,rv,ev,q3⟩:=I2.after hq'
      subst ev
      exact ⟨rv,⟨V.ref (s.heap.objs.size + 1),H',I3,rfl,q3⟩⟩
    | next=>exact False.elim hq'
    | brk=>exact False.elim hq'
    | cont=>exact False.elim hq'
theorem pe_make (M : Mk X.K C f) (F : FnOk X.prog X.w X.K X.mg X.base CX k f fd ps sp) (hr : Room (k + 1) X.A) (hg : Gl X x) (hm : X.mg x = some (.ref C)) (hb : Binds X.K fd ps ds) (hd : Vals dvs ds) (hx : Passes CX X E)
    (ha:PA X (e :: es) t) (hdb:(x == ("__debug__" : Str))=false:=by decide) (he:starEach (e :: es) X.env=(false,eval e X.env) :: starEach es X.env:=by rfl) (hpl:(backTo pos (starEach es X.env)).any (·.1)=false:=by rfl) :
    PE X (.Call (.Name x p) (e :: es) [] pos) (tMake C sp dvs E t):=by
  intro pins s σ H Q I h
  refine wpAny_Call_Name_kw (ld_glob I hg hm ?_ hdb)
  refine PySem.W.callWith_K (h₀:=X.base) I.ok.mod.kin M.kp (thn (ha pos pins s σ H _ I h) fun us s1 ⟨vs,H1,I1,r,q⟩=>⟨I1.kIn,?_⟩) he hpl
  exact run_make M F hr hb hd hx I1 r q
theorem pe_make0 (M : Mk X.K C f) (F : FnOk X.prog X.w X.K X.mg X.base CX k f fd ps sp) (hr : Room (k + 1) X.A) (hg : Gl X x) (hm : X.mg x = some (.ref C)) (hb : Binds X.K fd ps ds) (hd : Vals dvs ds) (hx : Passes CX X E)
    (hdb:(x == ("__debug__" : Str))=false:=by decide):PE X (.Call (.Name x p) [] [] pos) (tMake C sp dvs E tNil):=by
  intro pins s σ H Q I h
  refine wpAny_Call_Name_kw (ld_glob I hg hm ?_ hdb)
  exact PySem.W.callWith_K0 I.kIn M.kp (run_make (us:=[]) M F hr hb hd hx I .nil h)
end
section
variable {X:Cx} {CX:CXT} {k:Nat} {f C:Addr} {fd:FuncData} {ps ks:List Str} {sp:Sp} {E:XK} {x m:Str} {p pos apos kpos:Pos} {e o:Expr} {es:List Expr} {kws:List Keyword} {te ta:TE} {t tk:TA} {nm:Option Str}
variable {g:List Value→List Value→List Value} {gV:List V→List V→List V}
end
structure FnScope (N P:List Str) (sc:Scope):Prop where
  kind:sc.kind = .function
  co:sc.isCoroutine=false
  gen:sc.isGenerator=false
  nd:N.Nodup
  pre:N.take P.length=P
  par:∀ x ∈ P,sc.names.lookup x=some .local∨sc.names.lookup x=some .cell
  nofree:∀ y ∈ sc.names,y.2 ≠ .free
theorem bindL_out {kindOf:Str→Option NameKind} {x:Str}:∀ {binds:List (Str × Value)} {m:Str→Option Value},(∀ v,(x,v) ∉ binds)→bindL kindOf binds m x=m x
  | [],_,_=>rfl
  | (n,v) :: r,m,h=>by
    unfold bindL
    rw [bindL_out fun w hw=>h w (List.mem_cons_of_mem _ hw)]
    split
    · have:x≠n:=by rintro rfl;exact h v List.mem_cons_self
      simp [this]
    · rfl
theorem bindC_out {kindOf:Str→Option NameKind} {x:Str}:∀ {binds:List (Str × Value)} {m:Str→Option Value},(∀ v,(x,v) ∉ binds)→bindC kindOf binds m x=m x
  | [],_,_=>rfl
  | (n,v) :: r,m,h=>by
    unfold bindC
    rw [bindC_out fun w hw=>h w (List.mem_cons_of_mem _ hw)]
    split
    · rfl
    · have:x≠n:=by rintro rfl;exact h v List.mem_cons_self
      simp [this]
theorem bindL_get {kindOf : Str → Option NameKind} {x : Str} {v : Value} : ∀ {P : List Str} {vs : List Value} {i : Nat} {m : Str → Option Value}, P.Nodup → P[i]? = some x → vs[i]? = some v → kindOf x = some .local →
    bindL kindOf (P.zip vs) m x=some v
  | [],_,_,_,_,h,_,_=>by simp at h
  | _ :: _,[],_,_,_,_,h,_=>by simp at h
  | p :: P,w :: vs,0,m,nd,h1,h2,hk=>by
    simp at h1 h2;subst h1;subst h2
    show bindL kindOf ((p,w) :: P.zip vs) m p=_
    unfold bindL
    rw [bindL_out fun v hv=>(List.nodup_cons.mp nd).1 (List.of_mem_zip hv).1,if_pos hk]
    simp
  | p :: P,w :: vs,i + 1,m,nd,h1,h2,hk=>by
    show bindL kindOf ((p,w) :: P.zip vs) m x=_
    unfold bindL
    exact bindL_get (i:=i) (List.nodup_cons.mp nd).2 (by simpa using h1) (by simpa using h2) hk
theorem bindC_get {kindOf : Str → Option NameKind} {x : Str} {v : Value} : ∀ {P : List Str} {vs : List Value} {i : Nat} {m : Str → Option Value}, P.Nodup → P[i]? = some x → vs[i]? = some v → kindOf x ≠ some .local →
    bindC kindOf (P.zip vs) m x=some v
  | [],_,_,_,_,h,_,_=>by simp at h
  | _ :: _,[],_,_,_,_,h,_=>by simp at h
  | p :: P,w :: vs,0,m,nd,h1,h2,hk=>by
    simp at h1 h2;subst h1;subst h2
    show bindC kindOf ((p,w) :: P.zip vs) m p=_
    unfold bindC
    rw [bindC_out fun v hv=>(List.nodup_cons.mp nd).1 (List.of_mem_zip hv).1,if_neg hk]
    simp
  | p :: P,w :: vs,i + 1,m,nd,h1,h2,hk=>by
    show bindC kindOf ((p,w) :: P.zip vs) m x=_
    unfold bindC
    exact bindC_get (i:=i) (List.nodup_cons.mp nd).2 (by simpa using h1) (by simpa using h2) hk
def start (N:List Str) (vs:List V):St:=vs.map some++List.replicate (N.length - vs.length) none
def cxOf (CX:CXT) (P:Program) (w:World) (K:PySem.W.Frag) (mg:Str→Option Value) (base:Heap) (N:List Str) (qual:Str) (scope:Scope) (f:Addr) (cd:Value) (A:Around) (outer:List Env) (s:Shared) (H:Hp) (E:XK):Cx where
  prog:=P
  w:=w
  K:=K
  mg:=mg
  base:=base
  A:=A.deeper (envOfC qual scope s.heap.objs.size f cd)
  N:=N
  s_0:=s
  H_0:=H
  env:=envOfC qual scope s.heap.objs.size f cd
  outer:=outer
  stack:=envOfC qual scope s.heap.objs.size f cd :: outer
  ex:=[]
  calm:=true
  fn:=fun _=>true
  pn:=[]
  xe:=fun e s'=>wpAny (model P w) (A.deeper (envOfC qual scope s.heap.objs.size f cd)) (leaving (envOfC qual scope s.heap.objs.size f cd) e) (fun _ s''=>CX outer H s E e s'') (fun e' s''=>CX outer H s E e' s'') s'
theorem cell_has {sc:Scope} {n:Nat} {x:Str} (h:sc.names.lookup x=some .cell):∃ c,(cellsFrom n sc.names []).lookup x=some c:=by
  have q:=PySem.W.cellsFrom_some sc.names n [] (.inl h)
  exact Option.isSome_iff_exists.mp q
theorem inv_start {CX : CXT} {P : Program} {w : World} {K : PySem.W.Frag} {mg : Str → Option Value} {base : Heap} {N ps : List Str} {qual : Str} {scope : Scope} {f : Addr} {cd : Value} {A : Around} {outer : List Env} {s s1 : Shared} {H : Hp} {E : XK} {us : List Value} {vs : List V}
    (S:FnScope N ps scope) (hd:A.handled=none) (e0:Env0 P w K mg base A outer s H) (hl:vs.length=ps.length) (r:Vals vs us)
    (x:InCallC s s.heap.objs.size (bindL (envOfC qual scope s.heap.objs.size f cd).kindOf (ps.zip us) fun _=>none) (cellsFrom (s.heap.objs.size + 1) scope.names []) (bindC (envOfC qual scope s.heap.objs.size f cd).kindOf (ps.zip us) fun _=>none) s1) :
    Inv (cxOf CX P w K mg base N qual scope f cd A outer s H E) [] (start N vs) H s1:=by
  have hpl:ps.length≤N.length:=by have:=congrArg List.length S.pre;rw [List.length_take] at this;omega
  obtain ⟨h1,tk,rfl,hk⟩:=x.done
  have noA:∀ b:Addr,b ∉ (cxOf CX P w K mg base N qual scope f cd A outer s H E).ex:=fun b z=>absurd (show b ∈ ([]:List Addr) from z) (by simp)
  refine ⟨⟨e0.mod,S.kind,rfl,rfl,Nat.le_refl _,fun y z c h1 h2=>?_,fun y hy=>?_,fun y c _ h=>?_,fun _=>hd,Around.frames_deeper e0.frames,.inr ⟨rfl,rfl⟩,fun b z=>absurd z (noA b),e0.bs,e0.bsz,fun b _ _=>noA b,fun b z=>absurd z (noA b),e0.funs,e0.frf⟩,
    rfl,e0.bare,Un.kept hk,⟨_,x.toInCall.ns,fun i y v h1 h2 h3=>?_⟩,fun y c h=>⟨_,x.cell y c h⟩,e0.hok.fresh (Nat.le_refl _),fun y c h=>?_,fun p hp=>absurd (show p ∈ ([]:List (Addr × Obj)) from hp) (by simp),e0.hok.kept hk,?_⟩
  · exact name_of_addr x.apart (PySem.mem_of_lookup h1) (PySem.mem_of_lookup h2)
  · have hy:scope.names.lookup y=some .cell∨scope.names.lookup y=some .free:=hy
    rcases hy with hy | hy
    · exact cell_has hy
    · exact absurd rfl (S.nofree _ (PySem.mem_of_lookup hy))
  · exact Nat.le_of_lt (x.above y c (PySem.mem_of_lookup h))
  · have hi:i < vs.length:=by
      unfold start at h2
      by_cases hi:i < vs.length
      · exact hi
      · rw [List.getElem?_append_right (by simpa using hi)] at h2
        rw [List.getElem?_replicate] at h2
        split at h2 <;> cases h2
    have ha:vs[i]? = some v:=by
      unfold start at h2
      rw [List.getElem?_append_left (by simpa using hi),List.getElem?_map] at h2
      cases e:vs[i]? with
      | none=>rw [e] at h2;cases h2
      | some a=>rw [e] at h2;cases h2;rfl
    obtain ⟨u,hu,rv⟩:=r.get ha
    have hp:ps[i]? = some y:=by
      rw [← S.pre,List.getElem?_take_of_lt (by omega)];exact h1
    have ndP:ps.Nodup:=by rw [← S.pre];exact S.nd.sublist (List.take_sublist _ _)
    refine ⟨u,rv,?_⟩
    rcases S.par y (List.mem_of_getElem? hp) with k | k
    · exact .inl ⟨k,bindL_get ndP hp hu k⟩
    · obtain ⟨c,e⟩:=cell_has (n:=s.heap.objs.size + 1) k
      refine .inr ⟨.inl k,c,e,?_⟩
      have q:=x.cell y c e
      rw [bindC_get ndP hp hu (by show scope.names.lookup y≠_;rw [k];decide)] at q
      exact q
  · exact e0.hok.fresh (Nat.le_of_lt (x.above y c (PySem.mem_of_lookup h)))
  · unfold start
    show _=N.length
    rw [List.length_append,List.length_map,List.length_replicate]
    omega
theorem fn_of {CX : CXT} {P : Program} {w : World} {K : PySem.W.Frag} {mg : Str → Option Value} {base : Heap} {k : Nat} {f : Addr} {name qual : Str} {params : Arguments} {body : List Stmt} {scope : Scope} {dV kV doc pm cdv ct oc : Value} {an od : Option Addr}
    {osl:Array (Option Value)} {N ps:List Str} {sp:Sp} (lk:K.lookup f=some ⟨oc,od,.func (PySem.W.fnOf name qual params body scope dV kV doc pm an cdv ct),osl⟩) (hcd:PySem.W.codeIn K cdv qual=true) (S:FnScope N ps scope)
    (len:∀ vs H Q E,sp vs H Q E→vs.length=ps.length)
    (hbody:∀ (A:Around) (outer:List Env) (s:Shared) (H:Hp) (vs:List V) (Q:VK) (E:XK),Room k (A.deeper (envOfC qual scope s.heap.objs.size f cdv))→sp vs H Q E →
      ∃ t,PSs (cxOf CX P w K mg base N qual scope f cdv A outer s H E) body t∧t { nx:=fun _ H'=>Q .non H',rt:=Q } (start N vs) H) :
    FnOk P w K mg base CX (k + 1) f (PySem.W.fnOf name qual params body scope dV kV doc pm an cdv ct) ps sp:=by
  refine ⟨len,fun A outer s H args us vs Q E hr e0 hb r hsp=>?_⟩
  have hl:=len _ _ _ _ hsp
  have KX:K.In s.heap:=e0.mod.kin.keeps fun b o e=>(e0.bs b o e).1
  have lim:s.heap.NoLimit:=e0.mod.nolimit.keeps fun b o e=>(e0.bs b o e).1
  have hkind:∀ y ∈ ps.zip us,scope.names.lookup y.1=some .local∨(scope.names.lookup y.1=some .cell∧((cellsFrom (s.heap.objs.size + 1) scope.names []).lookup y.1).isSome=true):=fun ⟨n,v⟩ hy=>by
    rcases S.par n (List.of_mem_zip hy).1 with q | q
    · exact .inl q
    · exact .inr ⟨q,PySem.W.cellsFrom_some _ _ _ (.inl q)⟩
  refine codeAny_call_function hr.depth (KX _ _ lk) rfl S.co S.gen rfl (PySem.W.codeRec_of KX hcd) (hb _ _ _ _ ?_)
  refine wpAny_newFunctionEnv_cells S.kind hkind fun env he s1 x=>?_
  subst he
  refine ⟨lim.keeps x.toInCall.keep,codeAny_func ?_⟩
  obtain ⟨t,ht,hq⟩:=hbody A outer s H vs Q E (hr.deeper _) hsp
  have I:Inv (cxOf CX P w K mg base N qual scope f cdv A outer s H E) [] (start N vs) H s1:=inv_start S hr.hd e0 hl r x
  refine wpAny_mono (ht [] s1 (start N vs) H _ I hq) (fun fl s' hs=>?_) fun e s' hs=>hs
  have fin:∀ {σ':St} {H':Hp} {v:V} {u:Value},Inv (cxOf CX P w K mg base N qual scope f cdv A outer s H E) [] σ' H' s'→RelV v u→Q v H'→CE outer P w H s Q u s' :=
    fun {σ' H' v u} J rv q=>⟨v,H',J.os,J.bare,J.base,J.hok,rv,q⟩
  cases fl with
  | ret u =>
    obtain ⟨v,σ',H',J,rv,q⟩:=hs
    exact fin J rv q
  | next =>
    obtain ⟨σ',H',J,q⟩:=hs
    exact fin (v:=V.non) (u:=Value.none) J rfl q
  | brk =>
    obtain ⟨_,_,_,q⟩:=hs
    exact False.elim q
  | cont =>
    obtain ⟨_,_,_,q⟩:=hs
    exact False.elim q
end L2
namespace L2
open PySem PySem.Spec PyProof.Rows
section
variable {X:Cx} {x:Str} {p pos:Pos} {e:Expr} {es:List Expr} {t:TA} {id T:String} {r:List V→Hp→VK→Prop}
def tCB (r:List V→Hp→VK→Prop) (t:TA):TE:=fun σ H Q=>t σ H fun vs H1=>r vs H1 Q
theorem pe_callB (hc : CallR X (.builtin id) r) (hg : Gl X x) (hm : X.mg x = none) (hv : bootBuiltins x = some (.builtin id)) (ha : PA X (e :: es) t) (hn : x ≠ "__name__" := by decide) (hdb : (x == ("__debug__" : Str)) = false := by decide)
    (he:starEach (e :: es) X.env=(false,eval e X.env) :: starEach es X.env:=by rfl) (hpl:(backTo pos (starEach es X.env)).any (·.1)=false:=by rfl):PE X (.Call (.Name x p) (e :: es) [] pos) (tCB r t):=by
  intro pins s σ H Q I h
  refine wpAny_Call_Name_kw (ld_blt I hg hm hv ?_ hn hdb)
  exact PyProof.Rows.callWith_builtin1 (thn (ha pos pins s σ H _ I h) fun us s1 ⟨vs,H1,I1,r1,q1⟩=>hc pins s1 σ H1 vs us Q I1 r1 q1) he hpl
theorem pe_callTy (hc : CallR X (.type T) r) (hg : Gl X x) (hm : X.mg x = none) (hv : bootBuiltins x = some (.type T)) (ha : PA X (e :: es) t) (hn : x ≠ "__name__" := by decide) (hdb : (x == ("__debug__" : Str)) = false := by decide)
    (he:starEach (e :: es) X.env=(false,eval e X.env) :: starEach es X.env:=by rfl) (hpl:(backTo pos (starEach es X.env)).any (·.1)=false:=by rfl):PE X (.Call (.Name x p) (e :: es) [] pos) (tCB r t):=by
  intro pins s σ H Q I h
  refine wpAny_Call_Name_kw (ld_blt I hg hm hv ?_ hn hdb)
  exact PyProof.Rows.callWith_type1 (thn (ha pos pins s σ H _ I h) fun us s1 ⟨vs,H1,I1,r1,q1⟩=>hc pins s1 σ H1 vs us Q I1 r1 q1) he hpl
end
end L2
namespace HT
open PySem PyProof.Rows
def lexLt:List Int→List Int→Bool
  | [],[]=>false
  | [],_ :: _=>true
  | _ :: _,[]=>false
  | x :: xs,y :: ys=>if x=y then lexLt xs ys else decide (x < y)
theorem lexLt_cons (x y:Int) (xs ys:List Int):lexLt (x :: xs) (y :: ys)=if x=y then lexLt xs ys else decide (x < y):=rfl
theorem lexLt_nil_nil:lexLt [] []=false:=rfl
theorem lexLt_nil_cons (y:Int) (ys:List Int):lexLt [] (y :: ys)=true:=rfl
theorem lexLt_cons_nil (x:Int) (xs:List Int):lexLt (x :: xs) []=false:=rfl
theorem eqAt_int (A:Around) (s:Shared) (a:Int) (t:Tok) (c:Int) (u:Tok):∃ e,SeqAt.EqAt A s (.int a t) (.int c u) e∧(e=true↔a=c) :=
  ⟨(a == c),SeqAt.EqAt.int_int a t c u,by simp⟩
theorem rcLt_int (A : Around) (s : Shared) (a : Int) (t : Tok) (c : Int) (u : Tok) (prog : Program) (w : World) (E : Value → Shared → Prop) (Q : Value → Shared → Prop) (h : Q (.bool (decide (a < c))) s) :
    wpAny (model prog w) A (richCompare .Lt (.int a t) (.int c u)) Q E s :=
  (PyProof.Rows.lt_int h:wpAny (model prog w) A (compareOp .Lt (.int a t) (.int c u)) Q E s)
section
open PySem.SeqAt
open PySem.AutoSeq1 (wpAny_loadPart')
open PySem.MeetsSeq PySem.MeetsSeq2 PySem.MeetsSeq3
theorem tuple_lt_ints (l b : Addr) (items items2 : Array Value) (n n2 : Nat) (dd dd2 : Option Addr) (sl sl2 : Array (Option Value)) (ns ms : List Int) (hi : IntsAre items.toList ns) (hj : IntsAre items2.toList ms) :
    Meets (Builtin.«tuple.__lt__» ⟨[.ref l,.ref b],[]⟩)
      (fun _ R s=>s.heap.get? l=some { cls:=.type "tuple",dict:=dd,data:=.seq items n,slots:=sl }∧s.heap.get? b=some { cls:=.type "tuple",dict:=dd2,data:=.seq items2 n2,slots:=sl2 } ∧
        R (.ok (.ret (.bool (lexLt ns ms)))) s) :=
  .of_wp fun prog w A R s h=>by
    obtain ⟨hp,g,d,tk,os⟩:=s;obtain ⟨hl,hb,h⟩:=h
    have f2:=AutoSeq1.sub_tuple_tuple
    have z1:items.size=ns.length:=by rw [← hi.length];simp
    have z2:items2.size=ms.length:=by rw [← hj.length];simp
    wp_walk using wpAny_loadPart' hl,wpAny_loadPart' hb,wpAny_forIn_list _ (fun rest b s'=>b.1=none∧s'=⟨hp,g,d,tk,os⟩∧∃ (vs ws:List Value) (ns' ms':List Int),rest=vs.zip ws ∧
      IntsAre vs ns'∧IntsAre ws ms'∧ns'.length + items2.size=ms'.length + items.size∧R (.ok (.ret (.bool (lexLt ns' ms')))) ⟨hp,g,d,tk,os⟩) _
    case turn =>
      rintro ⟨y,x⟩ rest b s' ⟨hb',rfl,vs,ws,ns',ms',hz,hvi,hwi,hlen,hR⟩
      cases hvi with
      | nil=>rw [List.zip_nil_left] at hz;cases hz
      | cons a t hvi' =>
        cases hwi with
        | nil=>rw [List.zip_nil_right] at hz;cases hz
        | cons c u hwi' =>
          rw [List.zip_cons_cons] at hz
          injection hz with hyx hrest
          injection hyx with hy hx
          subst hy hx
          rw [lexLt_cons] at hR
          simp only [List.length_cons] at hlen
          obtain ⟨e,he,hiff⟩:=eqAt_int A.in1 ⟨hp,g,d,tk,os⟩ a t c u
          refine wpAny_bind (he prog w _ _ ?_)
          cases e with
          | true =>
            rw [if_pos (hiff.mp rfl)] at hR
            wp_walk
            exact ⟨rfl,rfl,_,_,_,_,hrest,hvi',hwi',by omega,hR⟩
          | false =>
            rw [if_neg (fun q=>absurd (hiff.mpr q) Bool.false_ne_true)] at hR
            have hri:=rcLt_int A.in1 ⟨hp,g,d,tk,os⟩ a t c u prog w
            wp_walk using hri
            exact ⟨_,rfl,by simpa using hR⟩
    case fin =>
      rintro ⟨b1,b2⟩ s' ⟨hb',rfl,vs,ws,ns',ms',hz,hvi,hwi,hlen,hR⟩
      simp only at hb'
      subst hb'
      have hv:lexLt ns' ms'=decide (items.size < items2.size):=by
        cases hvi with
        | nil =>
          cases hwi with
          | nil =>
            simp only [List.length_nil] at hlen
            rw [lexLt_nil_nil]
            exact (decide_eq_false (by omega)).symm
          | cons c u hw =>
            simp only [List.length_nil,List.length_cons] at hlen
            rw [lexLt_nil_cons]
            exact (decide_eq_true (by omega)).symm
        | cons a t hv =>
          cases hwi with
          | nil =>
            simp only [List.length_nil,List.length_cons] at hlen
            rw [lexLt_cons_nil]
            exact (decide_eq_false (by omega)).symm
          | cons c u hw =>
            rw [List.zip_cons_cons] at hz
            cases hz
      rw [hv] at hR
      wp_walk
      exact ⟨_,rfl,by simpa [Builtin.Tuple.tupleCompareSizes] using hR⟩
    case h =>
      exact ⟨rfl,rfl,items.toList,items2.toList,ns,ms,rfl,hi,hj,by omega,h⟩
end
section
variable {prog:Program} {w:World} {A:Around} {E:Value→Shared→Prop} {s:Shared}
theorem lt_tupInts {l b : Addr} {items items2 : Array Value} {ns ms : List Int} {Q : Value → Shared → Prop} (hl : IsTup s.heap l items) (hb : IsTup s.heap b items2) (hi : IntsAre items.toList ns) (hj : IntsAre items2.toList ms)
    (hu:A.units < cLine) (h:Q (.bool (lexLt ns ms)) s):wpAny (model prog w) A (compareOp .Lt (.ref l) (.ref b)) Q E s:=by
  obtain ⟨⟨cls,dd,data,sl⟩,ho,hc,n,hd⟩:=id hl
  obtain ⟨⟨cls2,dd2,data2,sl2⟩,ho2,hc2,n2,hd2⟩:=id hb
  simp only at hc hd hc2 hd2
  subst hc hd hc2 hd2
  exact richCompare_meets_room (op:=.Lt) ⟨_,ho,rfl⟩ ⟨_,ho2,rfl⟩ PySem.F.slot_tuple_lt PySem.F.entry_tuple_lt (PySem.F.args_tuple_lt_2 _ _) (tuple_lt_ints l b items items2 n n2 dd dd2 sl sl2 ns ms hi hj)
    ⟨ho,ho2,show Value.bool (lexLt ns ms)≠Value.notImplemented∧Q (.bool (lexLt ns ms)) s from ⟨(fun x=>nomatch x),h⟩⟩ hu
def sIx (n d:Nat):Option Int→Nat
  | none=>d
  | some v=>if v < 0 then (v + (n:Int)).toNat else min v.toNat n
theorem sIx_none (n d:Nat):sIx n d none=d:=rfl
theorem sIx_nat (n d k:Nat):sIx n d (some (k:Int))=min k n:=by
  show (if (k:Int) < 0 then ((k:Int) + (n:Int)).toNat else min (k:Int).toNat n)=min k n
  rw [if_neg (by omega),Int.toNat_natCast]
end
end HT
namespace L2
open PySem PySem.Spec PyProof.Rows
abbrev TO:=St→Hp→(Option Int→Hp→Prop)→Prop
def PO (X:Cx) (e:Option Expr) (t:TO):Prop :=
  ∀ (pins:List (Addr × Obj)) (s:Shared) (σ : St) (H:Hp) (Q:Option Int→Hp→Prop),Inv X pins σ H s→t σ H Q →
    wpAny (model X.prog X.w) X.A (evalPart e X.env) (fun u s'=>∃ o H',Inv X pins σ H' s'∧IsPart u o∧Q o H') X.xe s
def tNoPart:TO:=fun _ H Q=>Q none H
def tPart (t:TE):TO:=fun σ H Q=>t σ H fun x H1=>∃ i,x = .int i∧Q (some i) H1
theorem intsAre_of {ns:List Int}:∀ {us:List Value},Vals (ns.map V.int) us→IntsAre us ns:=by
  induction ns with
  | nil=>intro us r;rw [List.map_nil] at r;cases r;exact .nil
  | cons n ns ih =>
    intro us r
    rw [List.map_cons] at r
    cases r with
    | cons r1 r2 =>
      obtain ⟨t,e⟩:=r1
      subst e
      exact .cons n t (ih r2)
section
variable {X:Cx} {e:Expr} {te:TE} {lo hi:Option Expr} {tl th:TO} {pos p2:Pos}
theorem po_none:PO X none tNoPart:=by
  intro pins s σ H Q I h
  rw [evalPart_none]
  exact wpAny_pure ⟨none,H,I,.none,h⟩
theorem po_some (h:PE X e te):PO X (some e) (tPart te):=by
  intro pins s σ H Q I hw
  rw [evalPart_some]
  refine thn (h pins s σ H _ I hw) fun u s1 ⟨x,H1,I1,r1,q1⟩=>?_
  obtain ⟨i,rfl,q⟩:=q1
  obtain ⟨t,rfl⟩:=r1
  exact ⟨some i,H1,I1,.int i t,q⟩
def SlR (X:Cx) (r:V→Option Int→Option Int→Hp→VK→Prop):Prop :=
  ∀ (pins:List (Addr × Obj)) (s:Shared) (σ : St) (H:Hp) (x:V) (v vl vu:Value) (lo hi:Option Int) (sl:Addr) (Q:VK),Inv X pins σ H s→RelV x v→s.heap.IsSliceOf sl vl vu .none→IsPart vl lo→IsPart vu hi→r x lo hi H Q →
    ∃ T id,typeLookup (.type T) "__getitem__" = pure (some (.builtin id))∧s.TypeIs v T∧wpAny (model X.prog X.w) X.A (getItem v (.ref sl)) (EP X pins σ Q) X.xe s
def tSl (r:V→Option Int→Option Int→Hp→VK→Prop) (te:TE) (tl th:TO):TE:=fun σ H Q=>te σ H fun x H1=>tl σ H1 fun l H2=>th σ H2 fun u H3=>r x l u H3 Q
theorem pe_slice {r:V→Option Int→Option Int→Hp→VK→Prop} (hr:SlR X r) (he:PE X e te) (hl:PO X lo tl) (hu:PO X hi th):PE X (.Subscript e (.Slice lo hi none p2) pos) (tSl r te tl th):=by
  intro pins s σ H Q I h
  refine Subscript_ (thn (he pins s σ H _ I h) fun v s1 ⟨x,H1,I1,r1,q1⟩=>?_)
  refine wpAny_Slice (thn (hl pins s1 σ H1 _ I1 q1) fun vl s2 ⟨l,H2,I2,pl,q2⟩=>thn (hu pins s2 σ H2 _ I2 q2) fun vu s3 ⟨u,H3,I3,pu,q3⟩=>?_)
  rw [evalPart_none]
  refine wpAny_pure ?_
  have I4:Inv X pins σ H3 { s3 with heap:=s3.heap.push { cls:=.type "slice",data:=.fields #[vl,vu,.none] } }:=I3.kept (t':=s3.toks) fun b ob q=>Heap.get?_push_of_some _ q
  obtain ⟨T,id,hT,ht,hg⟩:=hr pins { s3 with heap:=s3.heap.push { cls:=.type "slice",data:=.fields #[vl,vu,.none] } } σ H3 x v vl vu l u s3.heap.objs.size Q I4 r1 (Heap.IsSliceOf.new ..) pl pu q3
  show wpAny (model X.prog X.w) X.A (subscriptTail e (.Slice lo hi none p2) v (.ref s3.heap.objs.size)) (EP X pins σ Q) X.xe { s3 with heap:=s3.heap.push { cls:=.type "slice",data:=.fields #[vl,vu,.none] } }
  exact tail_any (ops:=[.ref s3.heap.objs.size,v]) ht hT hg (by with_unfolding_all rfl)
def cutV (xs:List V) (lo hi:Option Int):List V:=(xs.drop (HT.sIx xs.length 0 lo)).take (HT.sIx xs.length xs.length hi - HT.sIx xs.length 0 lo)
theorem cutV_length (xs:List V) (lo hi:Option Int):(cutV xs lo hi).length≤xs.length:=by
  unfold cutV
  rw [List.length_take,List.length_drop]
  omega
def rLtT (K:PySem.W.Frag):R2:=fun x y H Q=>∃ a b ns ms,x = .ref a∧y = .ref b∧SqT K H a (ns.map V.int)∧SqT K H b (ms.map V.int)∧Q (.bl (HT.lexLt ns ms)) H
theorem op_ltT (hu:X.A.units < cLine):OpR X (compareOp .Lt) (rLtT X.K):=by
  intro pins s σ H x y v u Q I rx ry h
  obtain ⟨a,b,ns,ms,rfl,rfl,ha,hb,q⟩:=h
  cases rx
  cases ry
  obtain ⟨its,r1,p1,_⟩:=I.tuple ha
  obtain ⟨its2,r2,p2,_⟩:=I.tuple hb
  have i1:IntsAre its.toArray.toList ns:=intsAre_of r1
  have i2:IntsAre its2.toArray.toList ms:=intsAre_of r2
  exact HT.lt_tupInts p1 p2 i1 i2 hu ⟨.bl (HT.lexLt ns ms),H,I,rfl,q⟩
end
end L2
namespace L2
open PySem PySem.Spec PyProof.Rows
def ixN (n:Nat) (i:Int):Option Nat:=if 0≤i then (if i < n then some i.toNat else none) else if -(n:Int)≤i then some (i + n).toNat else none
def atI {α : Type} (xs:List α) (i:Int):Option α:=(ixN xs.length i).bind fun j=>xs[j]?
theorem ixN_seq {n:Nat} {i:Int} {j:Nat} (h:ixN n i=some j):seqIndex? i n=some j∧j < n∧-(n:Int)≤i∧i < n:=by
  unfold ixN at h
  by_cases h0:0≤i
  · rw [if_pos h0] at h
    by_cases h1:i < n
    · rw [if_pos h1] at h
      have e:i.toNat=j:=Option.some.inj h
      exact ⟨by rw [seqIndex_of h0 h1,e],by omega,by omega,h1⟩
    · rw [if_neg h1] at h;cases h
  · rw [if_neg h0] at h
    by_cases h1 : -(n:Int)≤i
    · rw [if_pos h1] at h
      have e:(i + n).toNat=j:=Option.some.inj h
      exact ⟨by rw [seqIndex_neg (by omega) h1,e],by omega,h1,by omega⟩
    · rw [if_neg h1] at h;cases h
theorem atI_get {α : Type} {xs:List α} {i:Int} {v : α} (h:atI xs i=some v):∃ j,seqIndex? i xs.length=some j∧xs[j]? = some v∧j < xs.length∧-(xs.length:Int)≤i∧i < xs.length:=by
  unfold atI at h
  cases e:ixN xs.length i with
  | none=>rw [e] at h;cases h
  | some j =>
    rw [e] at h
    obtain ⟨h1,h2,h3,h4⟩:=ixN_seq e
    exact ⟨j,h1,h,h2,h3,h4⟩
theorem atI_nat {α : Type} {xs:List α} {j:Nat} {v : α} (h:xs[j]? = some v):atI xs (j:Int)=some v:=by
  have hj:j < xs.length:=(List.getElem?_eq_some_iff.mp h).1
  have e:ixN xs.length (j:Int)=some j:=by
    unfold ixN
    rw [if_pos (by omega),if_pos (by omega)];simp
  unfold atI;rw [e];exact h
def PlainIx (b:Expr):Prop:=∀ o i,subscripted b false o i=operate [o,i] (getItem o i)
def IxR (X:Cx) (r:R2):Prop :=
  ∀ (value slice:Expr) (pins:List (Addr × Obj)) (s:Shared) (σ : St) (H:Hp) (x y:V) (v u:Value) (Q:VK),Inv X pins σ H s→RelV x v→RelV y u→r x y H Q →
    subscripted slice false v u=operate [v,u] (getItem v u)→wpAny (model X.prog X.w) X.A (subscriptTail value slice v u) (EP X pins σ Q) X.xe s
def MtR (X:Cx) (id:String) (r:V→List V→Hp→VK→Prop):Prop :=
  ∀ (pins:List (Addr × Obj)) (s:Shared) (σ : St) (H:Hp) (x:V) (xs:List V) (v:Value) (us:List Value) (Q:VK),Inv X pins σ H s→RelV x v→Vals xs us→r x xs H Q →
    wpAny (model X.prog X.w) X.A (call (.builtin id) (v :: us)) (EP X pins σ Q) X.xe s
section
variable {X:Cx} {a b:Expr} {ta tb:TE} {pos:Pos}
theorem pe_ix {r:R2} (hr:IxR X r) (ha:PE X a ta) (hb:PE X b tb) (hs:PlainIx b):PE X (.Subscript a b pos) (tOp r ta tb):=by
  intro pins s σ H Q I h
  exact Subscript_ (binT ha hb I h fun v u s2 x y H2 I2 rx ry q=>hr a b pins s2 σ H2 x y v u Q I2 rx ry q (hs _ _))
def rIxL (K:PySem.W.Frag):R2:=fun x y H Q=>∃ p xs i v,x = .ref p∧y = .int i∧SqL K H p xs∧atI xs i=some v∧Q v H
def rIxT (K:PySem.W.Frag):R2:=fun x y H Q=>∃ p xs i v,x = .ref p∧y = .int i∧SqT K H p xs∧atI xs i=some v∧Q v H
theorem ix_list:IxR X (rIxL X.K):=by
  intro value slice pins s σ H x y v u Q I rx ry h hs
  obtain ⟨p,xs,i,z,rfl,rfl,hq,he,q⟩:=h
  cases rx
  obtain ⟨t,rfl⟩:=ry
  obtain ⟨its,r,pl,hz⟩:=I.list hq
  obtain ⟨j,h1,h2,h3,h4,h5⟩:=atI_get he
  obtain ⟨w,ew,rw'⟩:=r.get h2
  have hl:=r.length
  have hn:=line63
  have fin:EP X pins σ Q w s:=⟨z,H,I,rw',q⟩
  by_cases h0:0≤i
  · have hj:i.toNat=j:=by
      rw [seqIndex_of h0 h5] at h1
      exact Option.some.inj h1
    exact item_listR pl.isList h0 (by omega) (by rw [hj];simpa using ew) fin hs
  · have hj:(i + (its.toArray.size:Int)).toNat=j:=by
      rw [seqIndex_neg (by omega) h4] at h1
      rw [List.size_toArray,← hl]
      exact Option.some.inj h1
    exact subscriptTail_builtinR (x:=w) pl.isList.typeIs slot_list_getitem.lookup
      (wpAny_getItem_list_neg (Q:=fun r s'=>r=w∧EP X pins σ Q r s') pl.isList (by omega) (by rw [List.size_toArray] <;> omega) (by omega) (by rw [hj];simpa using ew) ⟨rfl,fin⟩) hs
theorem ix_tup:IxR X (rIxT X.K):=by
  intro value slice pins s σ H x y v u Q I rx ry h hs
  obtain ⟨p,xs,i,z,rfl,rfl,hq,he,q⟩:=h
  cases rx
  obtain ⟨t,rfl⟩:=ry
  obtain ⟨its,r,pl,hz⟩:=I.tuple hq
  obtain ⟨j,h1,h2,h3,h4,h5⟩:=atI_get he
  obtain ⟨w,ew,rw'⟩:=r.get h2
  have hl:=r.length
  have hn:=line63
  have fin:EP X pins σ Q w s:=⟨z,H,I,rw',q⟩
  exact subscriptTail_builtinR (x:=w) pl.typeIs slot_tuple_getitem.lookup
    (getItem_tuple (j:=j) (Q:=fun r s'=>r=w∧EP X pins σ Q r s') pl (by omega) (by omega) (by rw [List.size_toArray,← hl];exact h1) (by simpa using ew) ⟨rfl,fin⟩) hs
theorem mapSeq_set (its:List Value) (n j:Nat) (u:Value):Obj.mapSeq (·.setIfInBounds j u) { cls:=.type "list",data:=.seq its.toArray n }={ cls:=.type "list",data:=.seq (its.set j u).toArray n }:=by
  simp [Obj.mapSeq]
theorem Inv.lst {pins : List (Addr × Obj)} {σ : St} {H : Hp} {s : Shared} {p : Addr} {xs : List V} (I : Inv X pins σ H s) (h : H p = some (.lst xs)) :
    ∃ (its:List Value) (n:Nat),Vals xs its∧s.heap.get? p=some { cls:=.type "list",data:=.seq its.toArray n }∧xs.length≤sizeLine:=by
  obtain ⟨z,its,n,r,e⟩:=I.hok p _ h
  exact ⟨its,n,r,e,z⟩
theorem Inv.lstUpd {pins : List (Addr × Obj)} {σ : St} {H : Hp} {s : Shared} {p : Addr} {xs ys : List V} {its its' : List Value} {n n' : Nat} {f : Obj → Obj} (I : Inv X pins σ H s) (h : H p = some (.lst xs))
    (ho:s.heap.get? p=some { cls:=.type "list",data:=.seq its.toArray n }) (hf:f { cls:=.type "list",data:=.seq its.toArray n }={ cls:=.type "list",data:=.seq its'.toArray n' }) (r:Vals ys its') (hz:ys.length≤sizeLine) (t:Nat) :
    Inv X pins σ (upd H p (.lst ys)) { s with heap:=s.heap.update p f,toks:=t }:=by
  have e:(s.heap.update p f).get? p=some { cls:=.type "list",data:=.seq its'.toArray n' }:=by
    rw [Heap.get?_update_self f ho (by rw [hf] <;> rfl),hf]
  refine I.write (x:=p) (e:=p) (by rw [h];trivial) (.inl rfl) (fun b u hb q=>(Heap.get?_update_other _ _ (Ne.symm hb)).trans q) ⟨_,e⟩ ?_
  exact ⟨hz,its',n',r,e⟩
def rSetL:V→V→V→Hp→(Hp→Prop)→Prop:=fun o i v H Q=>∃ p xs k j,o = .ref p∧i = .int k∧H p=some (.lst xs)∧ixN xs.length k=some j∧Q (upd H p (.lst (xs.set j v)))
theorem set_list:PSet X rSetL:=by
  intro pins s σ H o i v ov iv u Q I ro ri rv h
  obtain ⟨p,xs,k,j,rfl,rfl,hp,hj,q⟩:=h
  cases ro
  obtain ⟨t,rfl⟩:=ri
  obtain ⟨its,n,r,ho,hz⟩:=I.lst hp
  obtain ⟨h1,h2,h3,h4⟩:=ixN_seq hj
  have hl:=r.length
  have hn:=line63
  have I':Inv X pins σ (upd H p (.lst (xs.set j v))) { s with heap:=s.heap.update p (Obj.mapSeq (·.setIfInBounds j u)) } :=
    I.lstUpd hp ho (mapSeq_set its n j u) (r.set rv j) (by rw [List.length_set];exact hz) s.toks
  by_cases h0:0≤k
  · have hk:k.toNat=j:=by
      rw [seqIndex_of h0 h4] at h1
      exact Option.some.inj h1
    exact PySem.W.ki_setAt ho h0 (by omega) (by rw [List.size_toArray,← hl];exact h4) (by rw [hk];exact ⟨_,I',q⟩)
  · have hk:(k + (its.toArray.size:Int)).toNat=j:=by
      rw [seqIndex_neg (by omega) h3] at h1
      rw [List.size_toArray,← hl]
      exact Option.some.inj h1
    exact PySem.W.ki_setBack ho (by omega) (by rw [List.size_toArray,← hl];exact h3) (by omega) (by rw [hk];exact ⟨_,I',q⟩)
theorem slice_bounds (lo hi:Option Int) (n:Nat):(sliceBounds lo hi none n).1=((HT.sIx n 0 lo:Nat):Int)∧(sliceBounds lo hi none n).2.1=((HT.sIx n n hi:Nat):Int)∧(sliceBounds lo hi none n).2.2=1:=by
  refine ⟨?_,?_,rfl⟩
  · cases lo with
    | none=>simp [sliceBounds,HT.sIx]
    | some i =>
      simp only [sliceBounds,HT.sIx,Option.getD_none,show (1:Int) > 0 by decide,if_true]
      by_cases h:i < 0
      · simp only [h,if_true] <;> omega
      · simp only [h,if_false] <;> omega
  · cases hi with
    | none=>simp [sliceBounds,HT.sIx]
    | some i =>
      simp only [sliceBounds,HT.sIx,Option.getD_none,show (1:Int) > 0 by decide,if_true]
      by_cases h:i < 0
      · simp only [h,if_true] <;> omega
      · simp only [h,if_false] <;> omega
theorem slicePick_cut (its:List Value) (lo hi:Option Int):slicePick its.toArray lo hi none=((its.drop (HT.sIx its.length 0 lo)).take (HT.sIx its.length its.length hi - HT.sIx its.length 0 lo)).toArray:=by
  obtain ⟨h1,h2,h3⟩:=slice_bounds lo hi its.toArray.size
  unfold slicePick
  rw [h1,h2,h3]
  simp only [sliceRange_one,pick_run,List.size_toArray] <;> rfl
def rSlL (K:PySem.W.Frag):V→Option Int→Option Int→Hp→VK→Prop:=fun x lo hi H Q=>∃ a xs,x = .ref a∧SqL K H a xs∧∀ p,H p=none→Q (.ref p) (upd H p (.lst (cutV xs lo hi)))
theorem sl_list:SlR X (rSlL X.K):=by
  intro pins s σ H x v vl vu lo hi sl Q I rx hs pl pu h
  obtain ⟨a,xs,rfl,hx,q⟩:=h
  cases rx
  obtain ⟨its,r,ht,hz⟩:=I.list hx
  have hlen:=r.length
  refine ⟨"list",_,slot_list_getitem.lookup,ht.isList.typeIs,?_⟩
  refine wpAny_getItem_list_slice ht.isList hs pl pu .none (by simp) ?_ (by rw [List.size_toArray] <;> omega)
  rw [slicePick_cut,← hlen]
  refine ⟨.ref s.heap.objs.size,_,I.laid (t':=s.toks) (o:=.lst (cutV xs lo hi)) (fun b ob q=>Heap.get?_push_of_some _ q) (Nat.le_refl _) ?_,rfl,q _ (I.hok.fresh (Nat.le_refl _))⟩
  exact ⟨Nat.le_trans (cutV_length xs lo hi) hz,_,0,(r.drop (HT.sIx xs.length 0 lo)).take (HT.sIx xs.length xs.length hi - HT.sIx xs.length 0 lo),Heap.get?_push_size _ rfl⟩
def flatV:V→Bool
  | .non=>true
  | .bl _=>true
  | .int _=>true
  | .str _=>true
  | _=>false
def eqV:V→V→Bool
  | .non,.non=>true
  | .bl a,.bl b=>a == b
  | .bl a,.int b=>(if a then 1 else 0) == b
  | .int a,.bl b=>a == (if b then 1 else 0)
  | .int a,.int b=>a == b
  | .str a,.str b=>a == b
  | _,_=>false
theorem eqAt_V {A:Around} {s:Shared} {y x:V} {u v:Value} (ry:RelV y u) (rx:RelV x v) (fy:flatV y=true) (fx:flatV x=true):SeqAt.EqAt A s u v (eqV y x):=by
  cases y with
  | non =>
    cases ry
    cases x with
    | non=>cases rx;exact SeqAt.EqAt.same _
    | bl b=>cases rx;exact SeqAt.EqAt.none_bool b
    | int b=>obtain ⟨t,rfl⟩:=rx;exact SeqAt.EqAt.none_int b t
    | str b=>obtain ⟨t,rfl⟩:=rx;exact SeqAt.EqAt.none_str b t
    | _=>exact absurd (show false=true from fx) Bool.false_ne_true
  | bl a =>
    cases ry
    cases x with
    | non=>cases rx;exact SeqAt.EqAt.bool_none a
    | bl b=>cases rx;exact SeqAt.EqAt.bool_bool a b
    | int b=>obtain ⟨t,rfl⟩:=rx;exact SeqAt.EqAt.bool_int a b t
    | str b=>obtain ⟨t,rfl⟩:=rx;exact SeqAt.EqAt.bool_str a b t
    | _=>exact absurd (show false=true from fx) Bool.false_ne_true
  | int a =>
    obtain ⟨t',rfl⟩:=ry
    cases x with
    | non=>cases rx;exact SeqAt.EqAt.int_none a t'
    | bl b=>cases rx;exact SeqAt.EqAt.int_bool a t' b
    | int b=>obtain ⟨t,rfl⟩:=rx;exact SeqAt.EqAt.int_int a t' b t
    | str b=>obtain ⟨t,rfl⟩:=rx;exact SeqAt.EqAt.int_str a t' b t
    | _=>exact absurd (show false=true from fx) Bool.false_ne_true
  | str a =>
    obtain ⟨t',rfl⟩:=ry
    cases x with
    | non=>cases rx;exact SeqAt.EqAt.str_none a t'
    | bl b=>cases rx;exact SeqAt.EqAt.str_bool a t' b
    | int b=>obtain ⟨t,rfl⟩:=rx;exact SeqAt.EqAt.str_int a t' b t
    | str b=>obtain ⟨t,rfl⟩:=rx;exact SeqAt.EqAt.str_str a t' b t
    | _=>exact absurd (show false=true from fx) Bool.false_ne_true
  | _=>exact absurd (show false=true from fy) Bool.false_ne_true
def eqU (x:V) (u:Value):Bool:=match u with
  | .none=>eqV .non x
  | .bool b=>eqV (.bl b) x
  | .int i _=>eqV (.int i) x
  | .str z _=>eqV (.str z) x
  | _=>false
theorem eqU_of {x y:V} {u:Value} (r:RelV y u) (f:flatV y=true):eqU x u=eqV y x:=by
  cases y with
  | non=>cases r;rfl
  | bl b=>cases r;rfl
  | int i=>obtain ⟨t,rfl⟩:=r;rfl
  | str z=>obtain ⟨t,rfl⟩:=r;rfl
  | _=>exact absurd (show false=true from f) Bool.false_ne_true
theorem any_eqU {x:V}:∀ {xs:List V} {us:List Value},Vals xs us→xs.all flatV=true→us.any (eqU x)=xs.any fun y=>eqV y x
  | _,_,.nil,_=>rfl
  | y :: xs,u :: us,.cons r t,f=>by
    rw [List.all_cons,Bool.and_eq_true] at f
    rw [List.any_cons,List.any_cons,eqU_of r f.1,any_eqU t f.2]
theorem mem_eqAt {A:Around} {s:Shared} {x:V} {v:Value} (rx:RelV x v) (fx:flatV x=true):∀ {xs:List V} {us:List Value},Vals xs us→xs.all flatV=true→∀ u ∈ us,SeqAt.EqAt A s u v (eqU x u)
  | _,_,.nil,_=>fun u hu=>by cases hu
  | y :: xs,u :: us,.cons r t,f=>fun u' hu=>by
    rw [List.all_cons,Bool.and_eq_true] at f
    rcases List.mem_cons.mp hu with rfl | hu
    · rw [eqU_of r f.1];exact eqAt_V r rx f.1 fx
    · exact mem_eqAt rx fx t f.2 u' hu
def inV (x:V) (xs:List V):Bool:=xs.any fun y=>eqV y x
def rIn (K:PySem.W.Frag) (neg:Bool):R2:=fun x y H Q=>∃ p xs,y = .ref p∧(SqL K H p xs∨SqT K H p xs)∧flatV x=true∧xs.all flatV=true∧Q (.bl (if neg then !inV x xs else inV x xs)) H
theorem op_notIn_seq:OpR X (compareOp .NotIn) (rIn X.K true):=by
  intro pins s σ H x y v u Q I rx ry h
  obtain ⟨p,xs,rfl,hq,fx,fs,q⟩:=h
  cases ry
  rcases hq with hq | hq
  · obtain ⟨its,r,pl,hz⟩:=I.list hq
    refine SeqAt.notIn_listAt (eqU x) pl.isList (fun w hw=>mem_eqAt rx fx r fs w (by simpa using hw)) ⟨.bl _,H,I,rfl,?_⟩
    rw [show its.toArray.any (eqU x)=its.any (eqU x) by simp,any_eqU r fs]
    exact q
  · obtain ⟨its,r,pl,hz⟩:=I.tuple hq
    refine SeqAt.notIn_tupleAt (eqU x) pl (fun w hw=>mem_eqAt rx fx r fs w (by simpa using hw)) ⟨.bl _,H,I,rfl,?_⟩
    rw [show its.toArray.any (eqU x)=its.any (eqU x) by simp,any_eqU r fs]
    exact q
theorem call_len_seq:CallR X (.builtin "len") (fun xs H Q=>∃ p ys,xs=[.ref p]∧(SqL X.K H p ys∨SqT X.K H p ys)∧Q (.int ys.length) H):=by
  intro pins s σ H xs us Q I r h
  obtain ⟨p,ys,rfl,hq,q⟩:=h
  obtain ⟨u,rfl,rx⟩:=vals1 r
  cases rx
  have hn:=line63
  rcases hq with hq | hq
  · obtain ⟨its,r',pl,hz⟩:=I.list hq
    have hlen:=r'.length
    exact Calls.call_len_list pl.isList (by simp only [List.size_toArray] <;> omega) ⟨.int ys.length,H,I.tok _,⟨s.toks + 1,by rw [List.size_toArray,hlen]⟩,q⟩
  · obtain ⟨its,r',pl,hz⟩:=I.tuple hq
    have hlen:=r'.length
    exact len_tuple pl (by simp only [List.size_toArray] <;> omega) ⟨.int ys.length,H,I.tok _,⟨s.toks + 1,by rw [List.size_toArray,hlen]⟩,q⟩
theorem call_list_of:CallR X (.type "list") (fun xs H Q=>∃ p ys,xs=[.ref p]∧(SqL X.K H p ys∨SqT X.K H p ys)∧∀ l,H l=none→Q (.ref l) (upd H l (.lst ys))):=by
  intro pins s σ H xs us Q I r h
  obtain ⟨p,ys,rfl,hq,q⟩:=h
  obtain ⟨u,rfl,rx⟩:=vals1 r
  cases rx
  have fin : ∀ (its : List Value), Vals ys its → ys.length ≤ sizeLine → ∀ (h' : Heap) (c' : Nat), (∀ b o', s.heap.get? b = some o' → h'.get? b = some o') →
      h'.get? s.heap.objs.size=some { cls:=.type "list",dict:=none,data:=.seq its.toArray c',slots:=#[] }→EP X pins σ Q (.ref s.heap.objs.size) { s with heap:=h' }:=fun its r' hz h' c' kp e =>
    ⟨.ref s.heap.objs.size,_,I.laid (t':=s.toks) kp (Nat.le_refl _) (show ObjOk X.prog X.w _ h' _ (.lst ys) from ⟨hz,its,c',r',e⟩),rfl,q _ (I.hok.fresh (Nat.le_refl _))⟩
  rcases hq with hq | hq
  · obtain ⟨its,r',pl,hz⟩:=I.list hq
    have hlen:=r'.length
    obtain ⟨o,ho,hc,n,hd⟩:=pl.isList
    exact call_list_seq p (.inl rfl) ho hc hd (fun h' c' kp e=>fin its r' hz h' c' kp e) (by simp only [List.size_toArray] <;> omega)
  · obtain ⟨its,r',pl,hz⟩:=I.tuple hq
    have hlen:=r'.length
    obtain ⟨o,ho,hc,n,hd⟩:=pl
    exact call_list_seq p (.inr rfl) ho hc hd (fun h' c' kp e=>fin its r' hz h' c' kp e) (by simp only [List.size_toArray] <;> omega)
def tyV (K:PySem.W.Frag) (T:String) (x:V) (H:Hp):Prop:=match x with
  | .str _=>T = "str"
  | .int _=>T = "int"
  | .ref p => (T = "list" ∧ ∃ xs, SqL K H p xs) ∨ (T = "tuple" ∧ ∃ o, K.lookup p = some o ∧ o.cls = .type "tuple" ∧ o.dict = none) ∨
      (T = "dict" ∧ ((∃ kvs,H p=some (.dK kvs))∨∃ kvs,H p=some (.dT kvs)))∨(T = "set" ∧ ∃ S n,H p=some (.set S n))
  | _=>False
theorem tyV_is {pins : List (Addr × Obj)} {σ : St} {H : Hp} {s : Shared} {T : String} {x : V} {v : Value} (I : Inv X pins σ H s) (r : RelV x v) (ty : tyV X.K T x H) :
    s.TypeIs v T∧∀ a,v = .ref a→∃ ob,s.heap.get? a=some ob∧ob.dict=none:=by
  cases x with
  | str z =>
    obtain ⟨t,rfl⟩:=r
    cases (show T = "str" from ty)
    exact ⟨typeIs_str s z t,fun _ e=>nomatch e⟩
  | int i =>
    obtain ⟨t,rfl⟩:=r
    cases (show T = "int" from ty)
    exact ⟨typeIs_int s i t,fun _ e=>nomatch e⟩
  | ref p =>
    cases r
    rcases ty with ⟨rfl,xs,hq⟩ | ⟨rfl,o,hk,hc,hd⟩ | ⟨rfl,hk⟩ | ⟨rfl,S,n,hk⟩
    · obtain ⟨its,_,pl,_⟩:=I.list hq
      refine ⟨pl.isList.typeIs,fun a e=>?_⟩
      cases e
      obtain ⟨o,n,e,c,hd,_⟩:=pl
      exact ⟨o,e,hd⟩
    · refine ⟨⟨o,I.kIn p o hk,hc⟩,fun a e=>?_⟩
      cases e
      exact ⟨o,I.kIn _ o hk,hd⟩
    · have z:∃ o,s.heap.get? p=some o∧o.ExactDict:=by
        rcases hk with ⟨kvs,hk⟩ | ⟨kvs,hk⟩
        · obtain ⟨_,_,_,_,o,_,_,e,ex,_⟩:=I.hok p _ hk
          exact ⟨o,e,ex⟩
        · obtain ⟨_,_,_,_,o,_,_,e,ex,_⟩:=I.hok p _ hk
          exact ⟨o,e,ex⟩
      obtain ⟨o,e,ex⟩:=z
      refine ⟨⟨o,e,ex.1⟩,fun a e2=>?_⟩
      cases e2
      exact ⟨o,e,ex.2.1⟩
    · obtain ⟨o,_,_,_,e,ex,_⟩:=I.hok p _ hk
      refine ⟨⟨o,e,ex.1⟩,fun a e2=>?_⟩
      cases e2
      exact ⟨o,e,ex.2.1⟩
  | _=>exact False.elim ty
def tBM (K:PySem.W.Frag) (T:String) (r:V→List V→Hp→VK→Prop) (to:TE) (t:TA):TE:=fun σ H Q=>to σ H fun x H1=>tyV K T x H1∧t σ H1 fun xs H2=>r x xs H2 Q
variable {o e:Expr} {es:List Expr} {to:TE} {t:TA} {name:Str} {apos cpos:Pos} {T id:String} {r:V→List V→Hp→VK→Prop}
theorem pe_bm (pa : PlainAttrs T) (slot : Slot T name id) (hty : typeOf (.builtin id) = pure (.type "method_descriptor")) (hm : MtR X id r) (ho : PE X o to) (ha : PA X (e :: es) t)
    (hbase:attributeBase o name X.env (eval o X.env)=eval o X.env:=by rfl)
    (hfew:((backTo cpos (starEach (e :: es) X.env)).all (fun x=>!x.1)&&(backToKw cpos (keywordEach [] X.env)).all (fun x=>x.1.isSome)
      && decide ((e :: es).length + ([]:List Keyword).length + (if ([]:List Keyword).isEmpty then 0 else 1) < 30))=true:=by rfl)
    (hline:(apos.endLine == cpos.line)=true:=by rfl) (hs:starEach (e :: es) X.env=(false,eval e X.env) :: starEach es X.env:=by rfl) (hplain:(backTo cpos (starEach es X.env)).any (·.1)=false:=by rfl) :
    PE X (.Call (.Attribute o name apos) (e :: es) [] cpos) (tBM X.K T r to t):=by
  intro pins s σ H Q I h
  refine wpAny_Call_method_late hbase hfew hline rfl (thn (ho pins s σ H _ I h) fun v s1 ⟨x,H1,I1,r1,ty,q1⟩=>?_)
  obtain ⟨h1,h2⟩:=tyV_is I1 r1 ty
  refine ⟨T,id,pa,slot,hty,h1,h2,?_⟩
  have hA:=ha cpos pins s1 σ H1 _ I1 q1
  rw [hs] at hA ⊢
  refine Calls.callWith_builtin (by show (false || (backTo cpos (starEach es X.env)).any (·.1))=false;rw [hplain] <;> rfl) (Calls.evalArgs_plain ?_)
  exact thn hA fun us s2 ⟨vs,H2,I2,r2,q2⟩=>hm pins s2 σ H2 x vs v us Q I2 r1 r2 q2
end
end L2
namespace L2
open PySem PySem.Spec PyProof.Rows
def MtM (X:Cx) (id:String) (r:V→List V→Hp→VK→Prop):Prop :=
  ∀ (pins:List (Addr × Obj)) (s:Shared) (σ : St) (H:Hp) (x:V) (xs:List V) (v:Value) (us:List Value) (Q:VK),Inv X pins σ H s→RelV x v→Vals xs us→r x xs H Q →
    wpAny (model X.prog X.w) X.A (call (.builtin id) (v :: us)) (EP X pins σ Q) X.xe s
theorem Vals.one:∀ {x:V} {us:List Value},Vals [x] us→∃ u,us=[u]∧RelV x u
  | _,_,.cons r .nil=>⟨_,rfl,r⟩
section
variable {X:Cx} {pins:List (Addr × Obj)} {σ : St} {H:Hp} {s:Shared} {l b:Addr} {xs ys zs:List V}
theorem Inv.lset {its its' : List Value} {n : Nat} {f : Array Value → Array Value} {t' : Nat} (I : Inv X pins σ H s) (hH : H l = some (.lst xs))
    (e:s.heap.get? l=some { cls:=.type "list",data:=.seq its.toArray n }) (hf:f its.toArray=its'.toArray) (hv:Vals ys its') (hz:ys.length≤sizeLine) :
    Inv X pins σ (upd H l (.lst ys)) { s with heap:=s.heap.update l (Obj.mapSeq f),toks:=t' }:=by
  have q:=PySem.IsL.update e f
  rw [hf] at q
  refine I.write (x:=l) (e:=l) (by rw [hH];exact trivial) (.inl rfl) (fun b' u hb hu=>(Heap.get?_update_other s.heap (Obj.mapSeq f) (Ne.symm hb)).trans hu) ⟨_,q⟩ ?_
  exact ⟨hz,its',_,hv,q⟩
theorem Inv.lnew {its : List Value} {t' : Nat} (I : Inv X pins σ H s) (hv : Vals ys its) (hz : ys.length ≤ sizeLine) :
    Inv X pins σ (upd H s.heap.objs.size (.lst ys)) { s with heap:=s.heap.push { cls:=.type "list",data:=.seq its.toArray },toks:=t' } :=
  I.laid (fun _ _ q=>Heap.get?_push_of_some _ q) (Nat.le_refl _) ⟨hz,its,0,hv,Heap.get?_push_size _ rfl⟩
theorem Inv.fresh (I:Inv X pins σ H s):H s.heap.objs.size=none:=I.hok.fresh (Nat.le_refl _)
theorem Inv.lstM (I:Inv X pins σ H s) (hH:H l=some (.lst xs)):xs.length≤sizeLine∧∃ (its:List Value) (n:Nat),Vals xs its∧xs.length=its.length∧s.heap.get? l=some { cls:=.type "list",data:=.seq its.toArray n }:=by
  obtain ⟨z,its,n,r,e⟩:=I.hok l _ hH
  exact ⟨z,its,n,r,r.length,e⟩
theorem notLongL {n:Nat} (h:n≤sizeLine):Builtin.List.listTooLong n=false:=by
  unfold Builtin.List.listTooLong
  exact decide_eq_false (by omega)
end
section
variable {X:Cx}
def rAppend:V→List V→Hp→VK→Prop:=fun x vs H Q=>∃ l xs y,x = .ref l∧vs=[y]∧H l=some (.lst xs)∧xs.length < sizeLine∧Q .non (upd H l (.lst (xs++[y])))
theorem mt_append:MtM X "list.append" rAppend:=by
  intro pins s σ H x vs v us Q I rx rv h
  obtain ⟨l,xs,y,rfl,rfl,hH,hz,q⟩:=h
  cases rx
  obtain ⟨u,rfl,ru⟩:=rv.one
  obtain ⟨z,its,n,r,hl,e⟩:=I.lstM hH
  refine call_meets F.slot_list_append ⟨_,e,rfl⟩ F.entry_list_append (F.args_list_append_2 _ _) (PySem.list_append l its.toArray n u (by rw [List.size_toArray];omega)) ⟨e,?_⟩
  refine ⟨.non,_,I.lset (its':=its++[u]) hH e (by simp) (r.append (.cons ru .nil)) ?_,rfl,q⟩
  rw [List.length_append,List.length_singleton]
  omega
def rExtend:V→List V→Hp→VK→Prop:=fun x vs H Q=>∃ l b xs zs,x = .ref l∧vs=[.ref b]∧H l=some (.lst xs)∧H b=some (.lst zs)∧xs.length + zs.length≤sizeLine∧Q .non (upd H l (.lst (xs++zs)))
theorem mt_extend:MtM X "list.extend" rExtend:=by
  intro pins s σ H x vs v us Q I rx rv h
  obtain ⟨l,b,xs,zs,rfl,rfl,hH,hB,hz,q⟩:=h
  cases rx
  obtain ⟨u,rfl,ru⟩:=rv.one
  cases ru
  obtain ⟨z,its,n,r,hl,e⟩:=I.lstM hH
  obtain ⟨z2,its2,n2,r2,hl2,e2⟩:=I.lstM hB
  have hsz:its.toArray.size + its2.toArray.size≤sizeLine:=by rw [List.size_toArray,List.size_toArray];omega
  have hlong : ¬ (!its.toArray.isEmpty&&Builtin.List.listTooLong (its.toArray.size + its2.toArray.size))=true:=by
    rw [notLongL hsz,Bool.and_false]
    exact Bool.false_ne_true
  refine call_meets F.slot_list_extend ⟨_,e,rfl⟩ F.entry_list_extend (F.args_list_extend_2 _ _)
    (AutoSeq1.list_extend_list_list_0 l its.toArray n b its2.toArray n2 hlong (by rw [List.size_toArray];omega) (by omega)) ⟨e,e2,?_⟩
  refine ⟨.non,_,I.lset (its':=its++its2) hH e (by simp) (r.append r2) ?_,rfl,q⟩
  rw [List.length_append]
  omega
def rCat:R2:=fun x y H Q=>∃ l b xs zs,x = .ref l∧y = .ref b∧H l=some (.lst xs)∧H b=some (.lst zs)∧xs.length + zs.length≤sizeLine∧∀ p,H p=none→Q (.ref p) (upd H p (.lst (xs++zs)))
theorem op_cat:OpR X (binaryOp .Add) rCat:=by
  intro pins s σ H x y v u Q I rx ry h
  obtain ⟨l,b,xs,zs,rfl,rfl,hH,hB,hz,q⟩:=h
  cases rx
  cases ry
  obtain ⟨z,its,n,r,hl,e⟩:=I.lstM hH
  obtain ⟨z2,its2,n2,r2,hl2,e2⟩:=I.lstM hB
  refine PySem.P.add_list e e2 ?_ (by rw [List.size_toArray,List.size_toArray];omega)
  have ea:its.toArray++its2.toArray=(its++its2).toArray:=by simp
  rw [ea]
  exact ⟨.ref _,_,I.lnew (t':=s.toks) (r.append r2) (by rw [List.length_append];omega),rfl,q _ I.fresh⟩
end
section
variable {prog:Program} {w:World} {A:Around} {E:Value→Shared→Prop} {s:Shared}
end
section
variable {X:Cx}
end
end L2
namespace L2
open PySem PySem.Spec PyProof.Rows
theorem Vals.ints:∀ {ns:List Int} {us:List Value},Vals (ns.map V.int) us→IntsAre us ns
  | [],us,h=>by
    rw [List.map_nil] at h
    cases h
    exact IntsAre.nil
  | n :: ns,us,h=>by
    rw [List.map_cons] at h
    cases h with
    | cons r t =>
      obtain ⟨k,rfl⟩:=r
      exact IntsAre.cons n k (Vals.ints t)
theorem Vals.bls:∀ {bs:List Bool} {us:List Value},Vals (bs.map V.bl) us→us=bs.map Value.bool
  | [],us,h=>by
    rw [List.map_nil] at h
    cases h
    rfl
  | b :: bs,us,h=>by
    rw [List.map_cons] at h
    cases h with
    | cons r t =>
      cases r
      rw [Vals.bls t,List.map_cons]
theorem Vals.ref1 {a:Addr} {us:List Value} (r:Vals [V.ref a] us):us=[Value.ref a]:=by
  cases r with
  | cons r t =>
    cases t
    cases r
    rfl
section
variable {prog:Program} {w:World} {A:Around} {E:Value→Shared→Prop} {s:Shared} {l:Addr} {its:List Value} {ns:List Int} {Q:Value→Shared→Prop}
theorem sum_raw (hh : A.handled = none) (hl : s.heap.IsList l its.toArray) (hi : IntsAre its ns)
    (h:∀ h' tk t',(∀ b o,s.heap.get? b=some o→h'.get? b=some o)→Q (.int ns.sum t') { s with heap:=h',toks:=tk }):wpAny (model prog w) A (call (.builtin "sum") [.ref l]) Q E s:=by
  obtain ⟨xs,e⟩:=hi.allInts.items
  have hn:numsOf (intItems xs).toList=ns:=by rw [← e];exact hi.numsOf
  rw [nums_intItems] at hn
  rw [e] at hl
  refine PySem.sum_intListG hh hl fun h' tk t' hk=>?_
  have:=h h' tk t' hk
  rw [preSum_eq,List.take_of_length_le (by simp),hn];exact this
theorem max_raw (hh : A.handled = none) (hl : s.heap.IsList l its.toArray) (hi : IntsAre its ns) (hne : 0 < ns.length)
    (h:∀ h' tk M t',(∀ b o,s.heap.get? b=some o→h'.get? b=some o)→M ∈ ns→(∀ a,a ∈ ns→a≤M)→Q (.int M t') { s with heap:=h',toks:=tk }):wpAny (model prog w) A (call (.builtin "max") [.ref l]) Q E s:=by
  obtain ⟨xs,e⟩:=hi.allInts.items
  have hn:numsOf (intItems xs).toList=ns:=by rw [← e];exact hi.numsOf
  rw [nums_intItems] at hn
  subst hn
  rw [e] at hl
  have hsz:0 < xs.size:=by simpa using hne
  refine PySem.max_intList hh hl hsz fun v h' tk hv hk=>?_
  obtain ⟨t,rfl⟩:=intItems_at hv
  obtain ⟨h1,h2⟩:=argBest_gt (numAt xs) (xs.size - 1)
  refine h h' tk _ t hk ?_ fun a ha=>?_
  · rw [numAt_eq];exact PySem.getD_mem (by rw [List.length_map,Array.length_toList];omega)
  · obtain ⟨j,hj,rfl⟩:=mem_getD ha
    rw [List.length_map,Array.length_toList] at hj
    rw [← numAt_eq];exact h2 j (by omega)
theorem min_raw (hh : A.handled = none) (hl : s.heap.IsList l its.toArray) (hi : IntsAre its ns) (hne : 0 < ns.length)
    (h:∀ h' tk M t',(∀ b o,s.heap.get? b=some o→h'.get? b=some o)→M ∈ ns→(∀ a,a ∈ ns→M≤a)→Q (.int M t') { s with heap:=h',toks:=tk }):wpAny (model prog w) A (call (.builtin "min") [.ref l]) Q E s:=by
  obtain ⟨xs,e⟩:=hi.allInts.items
  have hn:numsOf (intItems xs).toList=ns:=by rw [← e];exact hi.numsOf
  rw [nums_intItems] at hn
  subst hn
  rw [e] at hl
  have hsz:0 < xs.size:=by simpa using hne
  refine PySem.min_intList hh hl hsz fun v h' tk hv hk=>?_
  obtain ⟨t,rfl⟩:=intItems_at hv
  obtain ⟨h1,h2⟩:=argBest_lt (numAt xs) (xs.size - 1)
  refine h h' tk _ t hk ?_ fun a ha=>?_
  · rw [numAt_eq];exact PySem.getD_mem (by rw [List.length_map,Array.length_toList];omega)
  · obtain ⟨j,hj,rfl⟩:=mem_getD ha
    rw [List.length_map,Array.length_toList] at hj
    rw [← numAt_eq];exact h2 j (by omega)
end
section
variable {X:Cx}
def rSum (K:PySem.W.Frag):List V→Hp→VK→Prop:=fun vs H Q=>∃ (a:Addr) (ns:List Int),vs=[V.ref a]∧SqL K H a (ns.map V.int)∧Q (.int ns.sum) H
def rMax (K:PySem.W.Frag):List V→Hp→VK→Prop:=fun vs H Q=>∃ (a:Addr) (ns:List Int),vs=[V.ref a]∧SqL K H a (ns.map V.int)∧0 < ns.length∧∀ m,m ∈ ns→(∀ y,y ∈ ns→y≤m)→Q (.int m) H
def rMin (K:PySem.W.Frag):List V→Hp→VK→Prop:=fun vs H Q=>∃ (a:Addr) (ns:List Int),vs=[V.ref a]∧SqL K H a (ns.map V.int)∧0 < ns.length∧∀ m,m ∈ ns→(∀ y,y ∈ ns→m≤y)→Q (.int m) H
theorem cr_sum (hc:X.calm=true):CallR X (.builtin "sum") (rSum X.K):=by
  intro pins s σ H vs us Q I r h
  obtain ⟨a,ns,rfl,hs,q⟩:=h
  obtain ⟨its,rv,hl,_⟩:=I.list hs
  rw [Vals.ref1 r]
  exact sum_raw (I.ok.hd hc) hl.isList rv.ints fun h' tk t' hk=>⟨.int _,H,I.kept hk,⟨_,rfl⟩,q⟩
theorem cr_max (hc:X.calm=true):CallR X (.builtin "max") (rMax X.K):=by
  intro pins s σ H vs us Q I r h
  obtain ⟨a,ns,rfl,hs,hne,q⟩:=h
  obtain ⟨its,rv,hl,_⟩:=I.list hs
  rw [Vals.ref1 r]
  exact max_raw (I.ok.hd hc) hl.isList rv.ints hne fun h' tk m t' hk h1 h2=>⟨.int _,H,I.kept hk,⟨_,rfl⟩,q m h1 h2⟩
theorem cr_min (hc:X.calm=true):CallR X (.builtin "min") (rMin X.K):=by
  intro pins s σ H vs us Q I r h
  obtain ⟨a,ns,rfl,hs,hne,q⟩:=h
  obtain ⟨its,rv,hl,_⟩:=I.list hs
  rw [Vals.ref1 r]
  exact min_raw (I.ok.hd hc) hl.isList rv.ints hne fun h' tk m t' hk h1 h2=>⟨.int _,H,I.kept hk,⟨_,rfl⟩,q m h1 h2⟩
end
section
variable {X:Cx}
end
section
variable {X:Cx}
end
theorem iter_any {prog : Program} {w : World} {A : Around} {E : Value → Shared → Prop} {s : Shared} {l : Addr} {items : Array Value} {Q : Value → Shared → Prop} (hl : s.heap.IsList l items)
    (h:∀ s₂ : Shared,s₂ = { s with heap:=s.heap.push { cls:=.type "list_iterator",data:=.fields #[.ref l,.int 0 0] } } →
      (s₂.heap.IsListIter s.heap.objs.size l 0∧s₂.heap.IsList l items)→l≠s.heap.objs.size→Q (.ref s.heap.objs.size) s₂):wpAny (model prog w) A (pyIter (.ref l)) Q E s:=by
  have hlt:l < s.heap.objs.size:=by obtain ⟨_,e,_⟩:=hl;exact Heap.lt_size e
  exact wpAny_pyIter_list hl (h _ rfl ⟨⟨_,Heap.get?_push_size _ rfl,rfl,rfl⟩,hl.push _⟩ (Nat.ne_of_lt hlt))
theorem truth_bools {prog : Program} {w : World} {A : Around} {bs : List Bool} {its : List Value} (e : its = bs.map Value.bool) :
    TruthOf prog w A (fun i v=>its.toArray[i]? = some v) (fun i=>bs.getD i false):=fun i v s Q E hv hq=>by
  have hv':its[i]? = some v:=by simpa using hv
  rw [e,List.getElem?_map] at hv'
  obtain ⟨b,hb,rfl⟩:=Option.map_eq_some_iff.mp hv'
  have hg:bs.getD i false=b:=by rw [List.getD_eq_getElem?_getD,hb] <;> rfl
  have hq':Q (bs.getD i false) s:=hq
  rw [hg] at hq'
  exact wpAny_truthy_bool hq'
theorem any_range:∀ bs:List Bool,(List.range bs.length).any (fun i=>bs.getD i false)=bs.any id
  | []=>rfl
  | b :: bs=>by
    rw [List.length_cons,List.range_succ_eq_map,List.any_cons,List.any_map,List.any_cons,← any_range bs]
    all_goals rfl
theorem all_range:∀ bs:List Bool,(List.range bs.length).all (fun i=>bs.getD i false)=bs.all id
  | []=>rfl
  | b :: bs=>by
    rw [List.length_cons,List.range_succ_eq_map,List.all_cons,List.all_map,List.all_cons,← all_range bs]
    all_goals rfl
section
variable {X:Cx}
def rAny (K:PySem.W.Frag):List V→Hp→VK→Prop:=fun vs H Q=>∃ (a:Addr) (bs:List Bool),vs=[V.ref a]∧SqL K H a (bs.map V.bl)∧Q (.bl (bs.any id)) H
def rAll (K:PySem.W.Frag):List V→Hp→VK→Prop:=fun vs H Q=>∃ (a:Addr) (bs:List Bool),vs=[V.ref a]∧SqL K H a (bs.map V.bl)∧Q (.bl (bs.all id)) H
theorem cr_any (hc:X.calm=true):CallR X (.builtin "any") (rAny X.K):=by
  intro pins s σ H vs us Q I r h
  obtain ⟨a,bs,rfl,hs,q⟩:=h
  obtain ⟨its,rv,hl,_⟩:=I.list hs
  rw [Vals.ref1 r]
  have hb:=rv.bls
  refine call_any_walk (iter_any hl.isList fun s₂ e2 st hne=>?_)
  subst e2
  refine ⟨_,_,_,_,_,_,_,rfl,Walks.list (A:=X.A.in1) (I.ok.hd hc) _ a hne its.toArray,st,truth_bools hb,fun h' tk hk=>?_⟩
  refine ⟨.bl _,H,I.kept fun b o eo=>hk b o (fun hmem=>?_) (Heap.get?_push_of_some _ eo),?_,q⟩
  · rcases List.mem_cons.mp hmem with e1 | hmem
    · exact absurd (e1 ▸ Heap.lt_size eo) (Nat.lt_irrefl _)
    · cases hmem
  · show Value.bool _=Value.bool _
    rw [← any_range,hb,List.size_toArray,List.length_map]
theorem cr_all (hc:X.calm=true):CallR X (.builtin "all") (rAll X.K):=by
  intro pins s σ H vs us Q I r h
  obtain ⟨a,bs,rfl,hs,q⟩:=h
  obtain ⟨its,rv,hl,_⟩:=I.list hs
  rw [Vals.ref1 r]
  have hb:=rv.bls
  refine call_all_walk (iter_any hl.isList fun s₂ e2 st hne=>?_)
  subst e2
  refine ⟨_,_,_,_,_,_,_,rfl,Walks.list (A:=X.A.in1) (I.ok.hd hc) _ a hne its.toArray,st,truth_bools hb,fun h' tk hk=>?_⟩
  refine ⟨.bl _,H,I.kept fun b o eo=>hk b o (fun hmem=>?_) (Heap.get?_push_of_some _ eo),?_,q⟩
  · rcases List.mem_cons.mp hmem with e1 | hmem
    · exact absurd (e1 ▸ Heap.lt_size eo) (Nat.lt_irrefl _)
    · cases hmem
  · show Value.bool _=Value.bool _
    rw [← all_range,hb,List.size_toArray,List.length_map]
end
section
variable {X:Cx} {pins:List (Addr × Obj)} {σ : St} {H:Hp} {s:Shared}
end
section
variable {X:Cx}
end
end L2
namespace L2
open PySem PySem.Spec PyProof.Rows
abbrev CellAt (h:Heap) (c:Addr) (v:Option Value):Prop:=h.IsCell c v
def relS (scope sc:Scope):Scope :=
  { scope with names:=scope.names.map fun (n,k)=>if (k == .free&&sc.kind == .function&&sc.names.lookup n == some .cell) then (n,.cell) else (n,k) }
def cloFrom (cells:List (Str × Addr)):List (Str × NameKind)→List (Str × Addr)→List (Str × Addr)
  | [],acc=>acc
  | (n,k) :: r,acc=>if k == .free then cloFrom cells r ((n,(cells.lookup n).getD 0) :: acc) else cloFrom cells r acc
theorem closure_loop (env : Env) (f : Str × NameKind → List (Str × Addr) → Sem (ForInStep (List (Str × Addr))))
    (hf:∀ n k c,f (n,k) c=if k == .free then (do let a ← cellOf env n;pure (.yield ((n,a) :: c))) else pure (.yield c)) :
    ∀ (names:List (Str × NameKind)) (acc:List (Str × Addr)),(∀ y ∈ names,y.2 = .free→∃ c,env.cells.lookup y.1=some c)→forIn names acc f=pure (cloFrom env.cells names acc)
  | [],acc,_=>by rw [List.forIn_nil];rfl
  | (n,k) :: r,acc,h=>by
    rw [List.forIn_cons,hf]
    have ih:=fun acc=>closure_loop env f hf r acc fun y hy=>h y (List.mem_cons_of_mem _ hy)
    unfold cloFrom
    by_cases hk:(k == NameKind.free)=true
    · rw [if_pos hk,if_pos hk]
      obtain ⟨c,hc⟩:=h (n,k) List.mem_cons_self (by simpa using hk)
      have e:cellOf env n=pure c:=by unfold cellOf;rw [hc]
      rw [e]
      have e2:(env.cells.lookup n).getD 0=c:=by rw [hc];rfl
      rw [e2]
      exact ih _
    · rw [if_neg hk,if_neg hk]
      exact ih _
theorem closure_ok {scope:Scope} {env:Env} (h:∀ y ∈ scope.names,y.2 = .free→∃ c,env.cells.lookup y.1=some c):closureFor scope env=pure (cloFrom env.cells scope.names []):=by
  simp only [closureFor]
  rw [closure_loop env _ (fun n k c=>rfl) scope.names [] h]
  rfl
theorem mem_lookup {α : Type}:∀ {l:List (Str × α)} {n:Str} {c : α},(n,c) ∈ l→∃ c',l.lookup n=some c'
  | (k,v) :: r,n,c,h=>by
    rw [List.lookup_cons]
    cases hb:n == k with
    | true=>exact ⟨_,rfl⟩
    | false =>
      rcases List.mem_cons.mp h with e | h
      · cases e;simp at hb
      · exact mem_lookup h
theorem cloFrom_mem {cells:List (Str × Addr)}:∀ {names:List (Str × NameKind)} {acc:List (Str × Addr)} {n:Str} {c:Addr},(n,c) ∈ cloFrom cells names acc→(n,c) ∈ acc∨((n,.free) ∈ names∧c=(cells.lookup n).getD 0)
  | [],_,_,_,h=>.inl h
  | (m,k) :: r,acc,n,c,h=>by
    unfold cloFrom at h
    split at h
    · rename_i hk
      have hk:k = .free:=by simpa using hk
      rcases cloFrom_mem h with h | ⟨h1,h2⟩
      · rcases List.mem_cons.mp h with e | h
        · cases e;exact .inr ⟨hk ▸ List.mem_cons_self,rfl⟩
        · exact .inl h
      · exact .inr ⟨List.mem_cons_of_mem _ h1,h2⟩
    · rcases cloFrom_mem h with h | ⟨h1,h2⟩
      · exact .inl h
      · exact .inr ⟨List.mem_cons_of_mem _ h1,h2⟩
theorem cloFrom_acc {cells:List (Str × Addr)}:∀ {names:List (Str × NameKind)} {acc:List (Str × Addr)} {p:Str × Addr},p ∈ acc→p ∈ cloFrom cells names acc
  | [],_,_,h=>h
  | (m,k) :: r,acc,p,h=>by
    unfold cloFrom
    split
    · exact cloFrom_acc (List.mem_cons_of_mem _ h)
    · exact cloFrom_acc h
theorem cloFrom_has {cells:List (Str × Addr)}:∀ {names:List (Str × NameKind)} {acc:List (Str × Addr)} {n:Str},(n,.free) ∈ names→(n,(cells.lookup n).getD 0) ∈ cloFrom cells names acc
  | (m,k) :: r,acc,n,h=>by
    unfold cloFrom
    rcases List.mem_cons.mp h with e | h
    · cases e
      exact cloFrom_acc List.mem_cons_self
    · split
      · exact cloFrom_has h
      · exact cloFrom_has h
theorem cells_mem : ∀ {names : List (Str × NameKind)} {h : Heap} {acc : List (Str × Addr)} {x : Str} {c : Addr}, (x, c) ∈ cellsFrom h.objs.size names acc →
    (x,c) ∈ acc∨((x,.cell) ∈ names∧h.objs.size≤c∧CellAt (pushCells h names) c none)
  | [],_,_,_,_,h=>.inl h
  | (n,k) :: r,h,acc,x,c,hm=>by
    unfold cellsFrom at hm
    unfold pushCells
    split at hm
    · rename_i hk
      rw [if_pos hk]
      have hk:k = .cell:=by simpa using hk
      rw [← Heap.size_push h { cls:=.type "cell",data:=.cell none }] at hm
      rcases cells_mem hm with hm | ⟨h1,h2,h3⟩
      · rcases List.mem_cons.mp hm with e | hm
        · cases e
          exact .inr ⟨hk ▸ List.mem_cons_self,Nat.le_refl _,_,pushCells_keeps r _ _ _ (Heap.get?_push_size _ rfl),rfl⟩
        · exact .inl hm
      · rw [Heap.size_push] at h2
        exact .inr ⟨List.mem_cons_of_mem _ h1,Nat.le_of_succ_le h2,h3⟩
    · rename_i hk
      rw [if_neg hk]
      rcases cells_mem hm with hm | ⟨h1,h2,h3⟩
      · exact .inl hm
      · exact .inr ⟨List.mem_cons_of_mem _ h1,h2,h3⟩
theorem cells_acc:∀ {names:List (Str × NameKind)} {n:Nat} {acc:List (Str × Addr)} {p:Str × Addr},p ∈ acc→p ∈ cellsFrom n names acc
  | [],_,_,_,h=>h
  | (m,k) :: r,n,acc,p,h=>by
    unfold cellsFrom
    split
    · exact cells_acc (List.mem_cons_of_mem _ h)
    · exact cells_acc h
theorem cells_has:∀ {names:List (Str × NameKind)} {n:Nat} {acc:List (Str × Addr)} {x:Str},(x,.cell) ∈ names→∃ c,(x,c) ∈ cellsFrom n names acc
  | (m,k) :: r,n,acc,x,h=>by
    unfold cellsFrom
    rcases List.mem_cons.mp h with e | h
    · cases e
      exact ⟨n,cells_acc List.mem_cons_self⟩
    · split
      · exact cells_has h
      · exact cells_has h
theorem cells_inj : ∀ {names : List (Str × NameKind)} {h : Heap} {acc : List (Str × Addr)} {x y : Str} {c : Addr}, (∀ p ∈ acc, p.2 < h.objs.size) → (∀ x y c, (x, c) ∈ acc → (y, c) ∈ acc → x = y) →
    (x,c) ∈ cellsFrom h.objs.size names acc→(y,c) ∈ cellsFrom h.objs.size names acc→x=y
  | [],_,_,_,_,_,_,hi,h1,h2=>hi _ _ _ h1 h2
  | (n,k) :: r,h,acc,x,y,c,hl,hi,h1,h2=>by
    unfold cellsFrom at h1 h2
    split at h1
    · rename_i hk
      rw [if_pos hk] at h2
      rw [← Heap.size_push h { cls:=.type "cell",data:=.cell none }] at h1 h2
      refine cells_inj (h:=h.push _) (fun p hp=>?_) (fun x y c a b=>?_) h1 h2
      · rw [Heap.size_push]
        rcases List.mem_cons.mp hp with rfl | hp
        · exact Nat.lt_succ_self _
        · exact Nat.lt_succ_of_lt (hl p hp)
      · rcases List.mem_cons.mp a with e | a <;> rcases List.mem_cons.mp b with e' | b
        · cases e;cases e';rfl
        · cases e;exact absurd (hl _ b) (Nat.lt_irrefl _)
        · cases e';exact absurd (hl _ a) (Nat.lt_irrefl _)
        · exact hi _ _ _ a b
    · rename_i hk
      rw [if_neg hk] at h2
      exact cells_inj hl hi h1 h2
theorem newEnv_comp {M : Model} {A : Around} {E : Value → Shared → Prop} {s : Shared} {scope : Scope} {globals : Addr} {closure : List (Str × Addr)} {qual : Str} {func : Option Addr} {code : Value} {around : Env} {builtins : Addr} {Q : Env → Shared → Prop}
    (h:Q (newEnv scope s.heap.objs.size globals (cellsFrom (s.heap.objs.size + 1) scope.names closure) qual func code (some around) builtins)
      { s with heap:=pushCells (s.heap.push { cls:=.type "dict",data:=.dict #[] }) scope.names }) :
    wpAny M A (newFunctionEnv scope globals closure [] qual func code (some around) builtins) Q E s:=by
  simp only [newFunctionEnv,Option.isSome_some,if_true]
  refine wpAny_bind (wpAny_alloc ?_)
  refine wpAny_bind (wpAny_layCells _ (fun n k c=>rfl) scope.names closure _ _ ?_)
  rw [show ({ s with heap:=s.heap.push { cls:=.type "dict",data:=.dict #[] } }:Shared).heap.objs.size=s.heap.objs.size + 1 from Heap.size_push ..]
  rw [List.forIn_nil]
  exact wpAny_bind (wpAny_pure (wpAny_pure h))
theorem lookup_relS {sc : Scope} : ∀ {names : List (Str × NameKind)} {x : Str} {k : NameKind},
    (names.map fun (n,k)=>if (k == NameKind.free&&sc.kind == .function&&sc.names.lookup n == some .cell) then (n,NameKind.cell) else (n,k)).lookup x=some k →
    ∃ k',names.lookup x=some k'∧(k=k'∨(k' = .free∧k = .cell))
  | [],_,_,h=>by simp at h
  | (n,k₀) :: r,x,k,h=>by
    have ih:=@lookup_relS sc r x k
    have h':List.lookup x ((if (k₀ == NameKind.free&&sc.kind == .function&&sc.names.lookup n == some .cell)=true then (n,NameKind.cell) else (n,k₀)) :: (r.map _))=some k:=h
    cases hx:x == n with
    | true =>
      simp only [List.lookup_cons,hx]
      by_cases hc:(k₀ == NameKind.free&&sc.kind == .function&&sc.names.lookup n == some .cell)=true
      · rw [if_pos hc] at h'
        simp only [List.lookup_cons,hx] at h'
        cases h'
        simp only [Bool.and_eq_true,beq_iff_eq] at hc
        exact ⟨k₀,rfl,.inr ⟨hc.1.1,rfl⟩⟩
      · rw [if_neg hc] at h'
        simp only [List.lookup_cons,hx] at h'
        cases h'
        exact ⟨_,rfl,.inl rfl⟩
    | false =>
      simp only [List.lookup_cons,hx]
      by_cases hc:(k₀ == NameKind.free&&sc.kind == .function&&sc.names.lookup n == some .cell)=true
      · rw [if_pos hc] at h'
        simp only [List.lookup_cons,hx] at h'
        exact ih h'
      · rw [if_neg hc] at h'
        simp only [List.lookup_cons,hx] at h'
        exact ih h'
structure BlkOk (N:List Str) (sc scope:Scope) (own:List (Str × Nat)):Prop where
  kind:scope.kind = .function
  uniq:∀ y ∈ scope.names,scope.names.lookup y.1=some y.2
  ix:∀ p ∈ own,N[p.2]? = some p.1
  free:∀ y ∈ scope.names,y.2 = .free→sc.names.lookup y.1=some .cell∨sc.names.lookup y.1=some .free
  own:∀ y ∈ scope.names,y.2 = .local∨y.2 = .cell→y.1 ∈ own.map (·.1)∨y.1 ∉ N
def wipe (σ : St):List Nat→St
  | []=>σ
  | v :: vs=>(wipe σ vs).set v none
theorem wipe_length (σ : St):∀ vs:List Nat,(wipe σ vs).length = σ.length
  | []=>rfl
  | v :: vs=>by unfold wipe;rw [List.length_set,wipe_length σ vs]
theorem wipe_some {σ : St} {i:Nat} {x:V}:∀ {vs:List Nat},(wipe σ vs)[i]? = some (some x)→σ[i]? = some (some x)∧i ∉ vs
  | [],h=>⟨h,by simp⟩
  | v :: vs,h=>by
    unfold wipe at h
    by_cases hi:v=i
    · subst hi
      by_cases hv:v < (wipe σ vs).length
      · rw [List.getElem?_set_self hv] at h;cases h
      · rw [List.getElem?_eq_none (by simpa using hv)] at h;cases h
    · rw [List.getElem?_set_ne hi] at h
      obtain ⟨h1,h2⟩:=wipe_some h
      exact ⟨h1,by simp only [List.mem_cons,not_or];exact ⟨fun e=>hi e.symm,h2⟩⟩
abbrev Cx.blk (X:Cx) (s:Shared) (H:Hp) (scope:Scope) (cenv:Env) (fp:List Addr):Cx:={ X with s_0:=s,H_0:=H,env:=cenv,outer:=X.stack,ex:=fp,fn:=fun x=>scope.names.lookup x == some .cell,pn:=[],xe:=fun _ _=>False }
section
variable {X:Cx} {pins:List (Addr × Obj)} {σ : St} {H:Hp} {s:Shared}
theorem block_start {scope : Scope} {own : List (Str × Nat)} {fp : List Addr} (I : Inv X pins σ H s) (ok : BlkOk X.N X.env.scope scope own) (hN : X.N.Nodup) (hfp : ∀ b ∈ fp, FpOk X pins H b ∧ b < s.heap.objs.size) :
    Inv (X.blk s H scope (compEnvC scope (cellsFrom (s.heap.objs.size + 1) scope.names (cloFrom X.env.cells scope.names [])) s.heap.objs.size X.env) fp) [] (wipe σ (own.map (·.2))) H { s with heap:=pushCells (s.heap.push { cls:=.type "dict",data:=.dict #[] }) scope.names }:=by
  have hfree:∀ y ∈ scope.names,y.2 = .free→∃ c,X.env.cells.lookup y.1=some c:=fun y hy e=>by
    rcases ok.free y hy e with k | k
    · exact I.ok.has _ (.inl k)
    · exact I.ok.has _ (.inr k)
  generalize hcenv:compEnvC scope (cellsFrom (s.heap.objs.size + 1) scope.names (cloFrom X.env.cells scope.names [])) s.heap.objs.size X.env=cenv
  have kp:∀ b o,s.heap.get? b=some o→(pushCells (s.heap.push { cls:=.type "dict",data:=.dict #[] }) scope.names).get? b=some o:=fun b o e=>pushCells_keeps _ _ _ _ (Heap.get?_push_of_some _ e)
  have hL:cenv.locals=s.heap.objs.size:=by rw [← hcenv];rfl
  have hcl:cenv.cells=cellsFrom (s.heap.objs.size + 1) scope.names (cloFrom X.env.cells scope.names []):=by rw [← hcenv];rfl
  have hsc:cenv.scope=relS scope X.env.scope:=by rw [← hcenv];rfl
  rw [← Heap.size_push s.heap { cls:=.type "dict",data:=.dict #[] }] at hcl
  have cm:∀ {y c},(y,c) ∈ cloFrom X.env.cells scope.names []→X.env.cells.lookup y=some c∧c < s.heap.objs.size:=fun {y c} hm=>by
    rcases cloFrom_mem hm with hm | ⟨h1,rfl⟩
    · cases hm
    · obtain ⟨c,hc⟩:=hfree _ h1 rfl
      rw [hc]
      obtain ⟨w,z⟩:=I.cell _ _ hc
      exact ⟨rfl,z.lt⟩
  have mem:∀ {y c},cenv.cells.lookup y=some c→(X.env.cells.lookup y=some c∧c < s.heap.objs.size)∨(s.heap.objs.size + 1≤c∧CellAt (pushCells (s.heap.push { cls:=.type "dict",data:=.dict #[] }) scope.names) c none):=fun {y c} e=>by
    rw [hcl] at e
    rcases cells_mem (PySem.mem_of_lookup e) with hm | ⟨_,h2,h3⟩
    · exact .inl (cm hm)
    · rw [Heap.size_push] at h2;exact .inr ⟨h2,h3⟩
  have look:∀ {y},scope.names.lookup y=some .free→∃ c,cenv.cells.lookup y=some c∧X.env.cells.lookup y=some c:=fun {y} hl=>by
    have hy:(y,NameKind.free) ∈ scope.names:=PySem.mem_of_lookup hl
    obtain ⟨c',e'⟩:=mem_lookup (cells_acc (names:=scope.names) (n:=(s.heap.push { cls:=.type "dict",data:=.dict #[] }).objs.size) (cloFrom_has (cells:=X.env.cells) (acc:=[]) hy))
    rw [← hcl] at e'
    refine ⟨c',e',?_⟩
    rw [hcl] at e'
    rcases cells_mem (PySem.mem_of_lookup e') with hm | ⟨h1,_,_⟩
    · exact (cm hm).1
    · have:=ok.uniq _ h1
      rw [hl] at this;cases this
  have okB:(X.blk s H scope cenv fp).Ok:=by
    refine ⟨I.ok.mod,by show cenv.scope.kind=_;rw [hsc];exact ok.kind,by show cenv.globals=_;rw [← hcenv];exact I.ok.glob,by show cenv.builtins=_;rw [← hcenv];exact I.ok.blt,by show s.heap.objs.size≤cenv.locals;rw [hL];exact Nat.le_refl _,
      fun y z c e1 e2=>?_,fun y hy=>?_,fun y c z e=>?_,I.ok.hd,I.ok.frames,.inl rfl,fun b hb=>⟨?_,fun y c e z=>?_⟩,I.bs,Nat.le_trans I.ok.bsz I.sz,fun b o e hb=>?_,fun b hb z=>?_,I.stack,I.stkFree⟩
    · have e1:cenv.cells.lookup y=some c:=e1
      have e2:cenv.cells.lookup z=some c:=e2
      rw [hcl] at e1 e2
      refine cells_inj (fun p hp=>?_) (fun y z c a b=>I.ok.inj y z c (cm a).1 (cm b).1) (PySem.mem_of_lookup e1) (PySem.mem_of_lookup e2)
      rw [Heap.size_push]
      exact Nat.lt_succ_of_lt (cm (y:=p.1) (c:=p.2) hp).2
    · show ∃ c,cenv.cells.lookup y=some c
      have key:∀ k,cenv.kindOf y=some k→(k = .cell∨k = .free)→∃ c,cenv.cells.lookup y=some c:=fun k hk hk'=>by
        unfold Env.kindOf at hk
        rw [hsc] at hk
        obtain ⟨k',e,r⟩:=lookup_relS hk
        have:k' = .cell∨k' = .free:=by
          rcases r with rfl | ⟨rfl,_⟩
          · exact hk'
          · exact .inr rfl
        rcases this with rfl | rfl
        · obtain ⟨c,hm⟩:=cells_has (n:=(s.heap.push { cls:=.type "dict",data:=.dict #[] }).objs.size) (acc:=cloFrom X.env.cells scope.names []) (PySem.mem_of_lookup e)
          obtain ⟨c',e'⟩:=mem_lookup hm
          exact ⟨c',by rw [hcl];exact e'⟩
        · obtain ⟨c,h1,_⟩:=look e
          exact ⟨c,h1⟩
      rcases hy with hy | hy
      · exact key _ hy (.inl rfl)
      · exact key _ hy (.inr rfl)
    · have z:(scope.names.lookup y == some NameKind.cell)=true:=z
      have z:scope.names.lookup y=some .cell:=by simpa using z
      have e:cenv.cells.lookup y=some c:=e
      rw [hcl] at e
      rcases cells_mem (PySem.mem_of_lookup e) with hm | ⟨_,h2,_⟩
      · rcases cloFrom_mem hm with hm | ⟨h1,_⟩
        · cases hm
        · have q:=ok.uniq _ h1
          rw [z] at q;cases q
      · rw [Heap.size_push] at h2
        exact Nat.le_of_succ_le h2
    · show b≠cenv.locals
      rw [hL];exact Nat.ne_of_lt (hfp b hb).2
    · have e:cenv.cells.lookup y=some c:=e
      rcases mem e with ⟨h1,_⟩ | ⟨h1,_⟩
      · exact (hfp b hb).1.2.2.2.2.1 y c h1 z
      · have h2:s.heap.objs.size + 1≤b:=by rw [← z];exact h1
        exact absurd (Nat.lt_of_lt_of_le (hfp b hb).2 (Nat.le_of_succ_le h2)) (Nat.lt_irrefl _)
    · rcases (hfp b hb).1.2.2.2.1 with z | z
      · exact I.ok.noex b o e z
      · exact absurd (Nat.lt_of_lt_of_le (Heap.lt_size e) (Nat.le_trans I.ok.bsz z)) (Nat.lt_irrefl _)
    · rcases List.mem_cons.mp (I.stkSub b z) with z | z
      · exact (hfp b hb).1.2.1 z
      · exact (hfp b hb).1.2.2.1 z
  refine ⟨okB,rfl,I.bare,Un.kept kp,⟨fun _=>none,?_,fun i y av e1 e2 e3=>?_⟩,fun y c e=>?_,?_,fun y c e=>?_,fun p hp=>?_,I.hok.kept kp,by rw [wipe_length];exact I.len⟩
  · show Heap.Ns _ cenv.locals _
    rw [hL]
    exact Heap.Ns.keeps (Heap.Ns.new ..) fun b o e=>pushCells_keeps _ _ _ _ e
  · obtain ⟨e2,hne⟩:=wipe_some e2
    have hfr:scope.names.lookup y=some .free∧(cenv.kindOf y=some .cell∨cenv.kindOf y=some .free):=by
      have key:∀ k,cenv.scope.names.lookup y=some k→k = .local∨k = .cell∨k = .free→scope.names.lookup y=some .free∧(cenv.kindOf y=some .cell∨cenv.kindOf y=some .free):=fun k hk hk'=>by
        have hk0:=hk
        rw [hsc] at hk
        obtain ⟨k',e,r⟩:=lookup_relS hk
        have no : ¬ (k' = .local∨k' = .cell):=fun hh=>by
          rcases ok.own _ (PySem.mem_of_lookup e) hh with e' | e'
          · obtain ⟨p,hp,hpy⟩:=List.mem_map.mp e'
            have e3:=ok.ix p hp
            have:p.1=y:=hpy
            rw [this] at e3
            exact hne (List.mem_map.mpr ⟨p,hp,nodup_ix hN e3 e1⟩)
          · exact e' (List.mem_of_getElem? e1)
        rcases r with rfl | ⟨rfl,rfl⟩
        · rcases hk' with rfl | rfl | rfl
          · exact absurd (.inl rfl) no
          · exact absurd (.inr rfl) no
          · exact ⟨e,.inr hk0⟩
        · exact ⟨e,.inl hk0⟩
      have e3:Vis cenv.scope y:=e3
      rcases e3 with e3 | e3 | e3
      · exact key _ e3 (.inl rfl)
      · exact key _ e3 (.inr (.inl rfl))
      · exact key _ e3 (.inr (.inr rfl))
    obtain ⟨m,hn,hl⟩:=I.loc
    have hvis:Vis X.env.scope y:=(ok.free _ (PySem.mem_of_lookup hfr.1) rfl).elim (fun k=>.inr (.inl k)) (fun k=>.inr (.inr k))
    obtain ⟨w,r,q⟩:=hl i y av e1 e2 hvis
    refine ⟨w,r,.inr ⟨hfr.2,?_⟩⟩
    obtain ⟨c,h1,h2⟩:=look hfr.1
    rcases q with ⟨k,_⟩ | ⟨_,c',e',z⟩
    · have k:X.env.scope.names.lookup y=some .local:=k
      rcases ok.free _ (PySem.mem_of_lookup hfr.1) rfl with k' | k' <;> rw [show X.env.scope.names.lookup y=_ from k'] at k <;> cases k
    · rw [h2] at e';cases e'
      exact ⟨c,h1,z.keeps kp⟩
  · have e:cenv.cells.lookup y=some c:=e
    rcases mem e with ⟨h1,_⟩ | ⟨_,z⟩
    · obtain ⟨w,z⟩:=I.cell y c h1
      exact ⟨w,z.keeps kp⟩
    · exact ⟨_,z⟩
  · show H cenv.locals=none
    rw [hL];exact I.hok.fresh (Nat.le_refl _)
  · have e:cenv.cells.lookup y=some c:=e
    rcases mem e with ⟨h1,_⟩ | ⟨h1,_⟩
    · exact I.freeC y c h1
    · exact I.hok.fresh (Nat.le_of_succ_le h1)
  · exact absurd (show p ∈ ([]:List (Addr × Obj))++[] from hp) (by simp)
theorem app_ok {E : Value → Shared → Prop} {D : Addr} {xs : List V} {y : V} {v : Value} {Q : Value → Shared → Prop} (I : Inv X pins σ H s) (hD : H D = some (.lst xs)) (hz : xs.length < sizeLine) (r : RelV y v)
    (h:∀ s',Inv X pins σ (upd H D (.lst (xs++[y]))) s'→Q .none s'):wpAny (model X.prog X.w) X.A (call (.builtin "list.append") [.ref D,v]) Q E s:=by
  obtain ⟨hz',its,n,ri,e⟩:=I.hok D _ hD
  have hl:=ri.length
  refine append_at (hsz:=by rw [List.size_toArray];omega) e fun h' sb ho'=>?_
  refine h { s with heap:=h' } (I.write (t':=s.toks) (by rw [hD];trivial) (.inl rfl) (fun b u hb q=>(sb.2 b hb).trans q) ⟨_,ho'⟩ ⟨by rw [List.length_append];exact hz,its++[v],n + 1,ri.append (.cons r .nil),?_⟩)
  rw [ho']
  simp
def PTs (X:Cx) (ifs:List Expr) (t:TT):Prop :=
  ∀ (pins:List (Addr × Obj)) (s:Shared) (σ : St) (H:Hp) (Q:Bool→Hp→Prop),Inv X pins σ H s→t σ H Q →
    wpAny (model X.prog X.w) X.A (forIn ifs true fun c r=>if r=true then do let ok ← isTrue c X.env (eval c X.env);pure (ForInStep.yield ok) else pure (ForInStep.yield r)) (TP X pins σ Q) X.xe s
def tYes:TT:=fun _ H Q=>Q true H
theorem pts_nil:PTs X [] tYes:=fun _ _ _ H _ I h=>wpAny_tests_nil ⟨H,I,h⟩
theorem pts_one {c:Expr} {t:TT} (h:PT X c t):PTs X [c] t:=fun pins s σ H Q I hw=>wpAny_tests_one (h pins s σ H Q I hw)
end
theorem thnF {α : Type} {t:Sem α} {Q Q' : α→Shared→Prop} {M:Model} {A:Around} {E:Value→Shared→Prop} {s:Shared} (h:wpAny M A t Q (fun _ _=>False) s) (hQ:∀ a s,Q a s→Q' a s):wpAny M A t Q' E s:=wpAny_mono h hQ fun _ _ z=>False.elim z
theorem compLoop_any {prog : Program} {w : World} {A : Around} {R : Result → Shared → Prop} {s : Shared} {elt target iter : Expr} {ifs : List Expr} {scope : Scope} {pos : Pos} {it acc : Value} {env : Env} (I : Nat → Shared → Prop)
    (turn:∀ n s,I n s→wpAny (model prog w) A (pyNext it) (fun r s₁=>match r with
      | none=>R (.ok .next) s₁
      | some v => wpAny (model prog w) A (letOwnedTupleGo target it v) (fun _ s₁' => wpAny (model prog w) A (assign target env v) (fun _ s₂ =>
          wpAny (model prog w) A (forIn ifs true fun c r=>if r=true then do let ok ← isTrue c env (eval c env);pure (ForInStep.yield ok) else pure (ForInStep.yield r)) (fun ok s₃ =>
            if ok=true then wpAny (model prog w) A (eval elt env) (fun x s₄ =>
              wpAny (model prog w) A (call (.builtin "list.append") [acc,x]) (fun _ s₅=>∃ m,m < n∧I m s₅) (notedBy (model prog w) A env fun e s'=>R (.error e) s') s₄) (notedBy (model prog w) A env fun e s'=>R (.error e) s') s₃
            else ∃ m,m < n∧I m s₃) (notedBy (model prog w) A env fun e s'=>R (.error e) s') s₂) (notedBy (model prog w) A env fun e s'=>R (.error e) s') s₁') (notedBy (model prog w) A env fun e s'=>R (.error e) s') s₁) (notedBy (model prog w) A env fun e s'=>R (.error e) s') s)
    (n:Nat) (h:I n s) :
    codeAny (model prog w) A (.compLoop (.ListComp elt [⟨target,iter,ifs,0⟩] scope pos) 0 it acc env) R s:=by
  refine codeAny_loop rfl I (fun n s hI=>?_) n h
  show wpAny _ A ((compTurn (.ListComp elt [⟨target,iter,ifs,0⟩] scope pos) 0 it acc env).onRaise (fun x=>do noteFrame x env;theTreesLotGoes x)) _ _ s
  refine wpAny_noted ?_
  rw [compTurn_list]
  refine wpAny_bind (wpAny_standAt (wpAny_bind (wpAny_mono (turn n s hI) (fun r s₁ h₁=>?_) fun _ _ h'=>h')))
  cases r with
  | none=>exact wpAny_pure h₁
  | some v =>
    refine wpAny_bind (wpAny_mono h₁ (fun _ s₁' h₁'=>?_) fun _ _ h'=>h')
    refine wpAny_bind (wpAny_mono h₁' (fun _ s₂ h₂=>wpAny_bind (wpAny_mono h₂ (fun ok s₃ h₃=>?_) fun _ _ h'=>h')) fun _ _ h'=>h')
    cases ok with
    | false=>exact wpAny_pure ⟨rfl,h₃⟩
    | true =>
      exact wpAny_bind (wpAny_bind (wpAny_mono h₃ (fun x s₄ h₄=>wpAny_bind (wpAny_mono h₄ (fun _ s₅ h₅=>wpAny_pure (wpAny_pure ⟨rfl,h₅⟩)) fun _ _ h'=>h')) fun _ _ h'=>h'))
section
variable {X:Cx}
def tLc (wi:TI) (g:TG) (tt:TT) (te:TE) (vs:List Nat):TE:=fun σ H Q=>wi σ H fun J H1=>∀ D,H1 D=none→∃ W:Nat→Nat→Hp→Prop,(∃ m,W 0 m (upd H1 D (.lst [])))∧∀ i m H,W i m H →
  (J.stop i H∧Q (.ref D) H)∨(J.go i H∧∃ Nx:Hp→Prop,(∀ H',Nx H'→∃ m',m' < m∧W (i + 1) m' H')∧∀ x H',J.yld i H x H'→g x (wipe σ vs) H' fun σ2 H2=>wipe σ2 vs=wipe σ vs∧tt σ2 H2 fun b H3 =>
    if b=true then te σ2 H3 fun y H4=>∃ acc,H4 D=some (.lst acc)∧acc.length < sizeLine∧Nx (upd H4 D (.lst (acc++[y]))) else Nx H3)
theorem lc_core {pins : List (Addr × Obj)} {s : Shared} {σ : St} {H : Hp} {Q : VK} {elt tg iter : Expr} {ifs : List Expr} {scope : Scope} {own : List (Str × Nat)} {pos pos' : Pos} {wi : TI} {g : TG} {tt : TT} {te : TE} {use : Option (Value → Sem Unit)} {Qf : Value → Shared → Prop}
    (hc:X.calm=true) (hN:X.N.Nodup) (I:Inv X pins σ H s) (hi:PI X tg iter wi) (ok:BlkOk X.N X.env.scope scope own)
    (hg:∀ (s:Shared) (H:Hp) (C:Addr) (cl:List (Str × Addr)) (fp:List Addr),PG (X.blk s H scope (compEnvC scope cl C X.env) fp) tg g) (ht:∀ (s:Shared) (H:Hp) (C:Addr) (cl:List (Str × Addr)) (fp:List Addr),PTs (X.blk s H scope (compEnvC scope cl C X.env) fp) ifs tt)
    (he:∀ (s:Shared) (H:Hp) (C:Addr) (cl:List (Str × Addr)) (fp:List Addr),PE (X.blk s H scope (compEnvC scope cl C X.env) fp) elt te) (hs:∀ x,foldedSetIterable iter X.env x=pure x)
    (h:tLc wi g tt te (own.map (·.2)) σ H Q)
    (hRR:∀ D C s' m H',Inv X pins σ H' s'→Q (.ref D) H'→s'.heap.Ns C m→FpOk X pins H' C→compPost (model X.prog X.w) X.A X.xe use Qf (.ref D) C (.ok .next) s') :
    wpAny (model X.prog X.w) X.A (comprehension (.ListComp elt [⟨tg,iter,ifs,0⟩] scope pos) scope X.env pos' (newList []) false (eval iter X.env) use) Qf X.xe s:=by
  have hfree:∀ y ∈ scope.names,y.2 = .free→∃ c,X.env.cells.lookup y.1=some c:=fun y hy e=>by
    rcases ok.free y hy e with k | k
    · exact I.ok.has _ (.inl k)
    · exact I.ok.has _ (.inr k)
  refine wpAny_comprehension_free (use:=use) rfl hs (closure_ok hfree) ok.kind (fun y hy e=>by rw [ok.uniq y hy,e])
    (thn (hi pins s σ H _ I h) fun xv s1 hx=>thn hx fun itv s2 h2=>?_)
  obtain ⟨it,fp,tn,J,H2,e,I2,T,st2,f2,q⟩:=h2
  subst e
  refine wpAny_newObj_type (newEnv_comp ?_) (by show 0≤sizeLine;decide)
  generalize hD:s2.heap.objs.size=D
  have hDn:H2 D=none:=I2.hok.fresh (Nat.le_of_eq hD)
  obtain ⟨W,⟨m0,w0⟩,turn⟩:=q D hDn
  generalize hs3:({ s2 with heap:=s2.heap.push { cls:=.type "list",data:=.seq ([]:List Value).toArray } }:Shared)=s3
  have I3:Inv X pins σ (upd H2 D (.lst [])) s3:=by
    rw [← hs3]
    refine I2.laid (t':=s2.toks) (fun b o e=>Heap.get?_push_of_some _ e) (Nat.le_of_eq hD) ⟨Nat.zero_le _,[],0,.nil,?_⟩
    rw [← hD]
    exact Heap.get?_push_size _ rfl
  have h3:s3.heap=s2.heap.push { cls:=.type "list",data:=.seq ([]:List Value).toArray }:=by rw [← hs3]
  have sz:∀ b ∈ fp,b < s2.heap.objs.size:=fun b hb=>by
    obtain ⟨o,e,_⟩:=T.obj _ _ st2 b hb
    exact Heap.lt_size e
  have f3:∀ b ∈ fp,FpOk X pins (upd H2 D (.lst [])) b∧b < s3.heap.objs.size:=fun b hb=>by
    have hlt:=sz b hb
    refine ⟨⟨?_,(f2 b hb).2⟩,by rw [h3,Heap.size_push];exact Nat.lt_succ_of_lt hlt⟩
    rw [upd_ne (by rw [← hD];exact Nat.ne_of_lt hlt)]
    exact (f2 b hb).1
  have st3:tn 0 s3.heap:=T.keep _ _ _ st2 fun b _ o e=>by rw [h3];exact Heap.get?_push_of_some _ e
  have I4:=block_start I3 ok hN f3
  have pg:=hg s3 (upd H2 D (.lst [])) s3.heap.objs.size (cellsFrom (s3.heap.objs.size + 1) scope.names (cloFrom X.env.cells scope.names [])) fp
  have pt:=ht s3 (upd H2 D (.lst [])) s3.heap.objs.size (cellsFrom (s3.heap.objs.size + 1) scope.names (cloFrom X.env.cells scope.names [])) fp
  have pe:=he s3 (upd H2 D (.lst [])) s3.heap.objs.size (cellsFrom (s3.heap.objs.size + 1) scope.names (cloFrom X.env.cells scope.names [])) fp
  show codeAny _ _ (.compStart (.ListComp elt [⟨tg,iter,ifs,0⟩] scope pos) 0 (.ref it) (.ref D) (compEnvC scope (cellsFrom (s3.heap.objs.size + 1) scope.names (cloFrom X.env.cells scope.names [])) s3.heap.objs.size X.env)) (compPost (model X.prog X.w) X.A X.xe use Qf (.ref D) s3.heap.objs.size) { s3 with heap:=pushCells (s3.heap.push { cls:=.type "dict",data:=.dict #[] }) scope.names }
  have nfp:∀ b ∈ fp,(upd H2 D (.lst [])) b=none:=fun b hb=>(f3 b hb).1.1
  generalize hce:compEnvC scope (cellsFrom (s3.heap.objs.size + 1) scope.names (cloFrom X.env.cells scope.names [])) s3.heap.objs.size X.env=ce at I4 pg pt pe ⊢
  have cL:ce.locals=s3.heap.objs.size:=by subst hce;rfl
  generalize hH3:upd H2 D (.lst [])=H3 at I3 I4 pg pt pe w0 nfp f3
  generalize hs4:({ s3 with heap:=pushCells (s3.heap.push { cls:=.type "dict",data:=.dict #[] }) scope.names }:Shared)=s4 at I4 ⊢
  have st4:tn 0 s4.heap:=T.keep _ _ _ st3 fun b _ o e=>by rw [← hs4];exact pushCells_keeps _ _ _ _ (Heap.get?_push_of_some _ e)
  have stat:∀ {σ':St} {H':Hp} {s':Shared},Inv (X.blk s3 H3 scope ce fp) [] σ' H' s'→(∀ b ∈ fp,H' b=none)→∀ b ∈ fp,FpOk (X.blk s3 H3 scope ce fp) [] H' b:=fun {σ' H' s'} I' hn b hb =>
    ⟨hn b hb,(I'.ok.exf b hb).1,I'.ok.exfs b hb,.inl hb,fun x c e=>(I'.ok.exf b hb).2 x c e,fun p hp=>absurd (show p ∈ ([]:List (Addr × Obj))++[] from hp) (by simp)⟩
  have loop:codeAny (model X.prog X.w) X.A (.compLoop (.ListComp elt [⟨tg,iter,ifs,0⟩] scope pos) 0 (.ref it) (.ref D) ce) (compPost (model X.prog X.w) X.A X.xe use Qf (.ref D) s3.heap.objs.size) s4:=by
    refine compLoop_any (fun n s'=>∃ i H',Inv (X.blk s3 H3 scope ce fp) [] (wipe σ (own.map (·.2))) H' s'∧tn i s'.heap∧(∀ b ∈ fp,H' b=none)∧W i n H') ?_ m0 ⟨0,H3,I4,st4,nfp,w0⟩
    rintro n s5 ⟨i,H5,I5,st5,n5,w5⟩
    rcases turn i n H5 w5 with ⟨stop,qq⟩ | ⟨go,Nx,hNx,step⟩
    · have td:=T.done (X.blk s3 H3 scope ce fp) rfl rfl rfl hc i [] s5 _ H5 (fun _ _=>False) I5 (stat I5 n5) st5 stop
      refine thnF td fun r s6 ⟨hr,I6⟩=>?_
      subst hr
      have I7:Inv X pins σ H5 s6:=I3.call' (ch:=fp) I6.os I6.base I6.hok I6.bare fun b hb=>⟨(f3 b hb).1.2.2.2.1,(f3 b hb).1.2.1,(f3 b hb).1.2.2.2.2.1,(f3 b hb).1.2.2.2.2.2⟩
      have nC:H5 s3.heap.objs.size=none:=by
        have z:H5 ce.locals=none:=I6.free
        rw [cL] at z
        exact z
      obtain ⟨m,hn,_⟩:=I6.loc
      have hn:s6.heap.Ns ce.locals m:=hn
      rw [cL] at hn
      exact hRR D s3.heap.objs.size s6 m H5 I7 qq hn (I3.fpOk (Nat.le_refl _) nC)
    · have ti:=T.item (X.blk s3 H3 scope ce fp) rfl rfl rfl hc i [] s5 _ H5 (fun _ _=>False) I5 (stat I5 n5) st5 go
      refine thnF ti fun r s6 ⟨u,hr,h6⟩=>?_
      subst hr
      refine thnF h6 fun _ s7 ⟨x,H7,I7,r7,y7,st7,n7⟩=>?_
      have I7':=I7.pinned (stat I7 n7) (T.obj _ _ st7)
      refine thnF (pg _ s7 _ H7 x u _ I7' r7 (step x H7 y7)) fun _ s8 ⟨σ8,H8,I8,hw8,q8⟩=>?_
      refine thnF (pt _ s8 σ8 H8 _ I8 q8) fun b s9 ⟨H9,I9,q9⟩=>?_
      have fin:∀ {s':Shared} {H':Hp},Inv (X.blk s3 H3 scope ce fp) ([]++pinsAt fp s7.heap) σ8 H' s'→Nx H'→∃ m,m < n∧∃ i H',Inv (X.blk s3 H3 scope ce fp) [] (wipe σ (own.map (·.2))) H' s'∧tn i s'.heap∧(∀ b ∈ fp,H' b=none)∧W i m H':=fun {s' H'} I' nx=>by
        obtain ⟨m',hm,w'⟩:=hNx H' nx
        have pin':∀ b ∈ fp,∀ o,s7.heap.get? b=some o→s'.heap.get? b=some o∧H' b=none:=fun b hb o e =>
          let z:=I'.pin (b,o) (List.mem_append_right _ (List.mem_append_right _ (mem_pinsAt hb e)))
          ⟨z.1,z.2.1⟩
        have hl:(wipe σ (own.map (·.2))).length = σ8.length:=by rw [← hw8,wipe_length]
        refine ⟨m',hm,i + 1,H',(I'.unpinned (pins:=[])).weak hl (fun j v e=>?_),T.keep _ _ _ st7 fun b hb o e=>(pin' b hb o e).1,fun b hb=>?_,w'⟩
        · rw [← hw8] at e
          exact (wipe_some e).1
        · obtain ⟨o,e,_⟩:=T.obj _ _ st7 b hb
          exact (pin' b hb o e).2
      cases b with
      | false =>
        simp only [Bool.false_eq_true,if_false] at q9 ⊢
        exact fin I9 q9
      | true =>
        simp only [if_true] at q9 ⊢
        refine thnF (pe _ s9 σ8 H9 _ I9 q9) fun z s10 ⟨yv,H10,I10,r10,acc,hD10,hz10,nx⟩=>?_
        exact app_ok (X:=X.blk s3 H3 scope ce fp) I10 hD10 hz10 r10 fun s11 I11=>fin I11 nx
  exact codeAny_compStart_list loop (T.self X.A 0 _ _ _ st4 loop)
theorem pe_lc {elt tg iter : Expr} {ifs : List Expr} {scope : Scope} {own : List (Str × Nat)} {pos : Pos} {wi : TI} {g : TG} {tt : TT} {te : TE} (hc : X.calm = true) (hN : X.N.Nodup) (hi : PI X tg iter wi) (ok : BlkOk X.N X.env.scope scope own)
    (hg:∀ (s:Shared) (H:Hp) (C:Addr) (cl:List (Str × Addr)) (fp:List Addr),PG (X.blk s H scope (compEnvC scope cl C X.env) fp) tg g) (ht:∀ (s:Shared) (H:Hp) (C:Addr) (cl:List (Str × Addr)) (fp:List Addr),PTs (X.blk s H scope (compEnvC scope cl C X.env) fp) ifs tt)
    (he:∀ (s:Shared) (H:Hp) (C:Addr) (cl:List (Str × Addr)) (fp:List Addr),PE (X.blk s H scope (compEnvC scope cl C X.env) fp) elt te) (hs:∀ x,foldedSetIterable iter X.env x=pure x:=by intro _;rfl) :
    PE X (.ListComp elt [⟨tg,iter,ifs,0⟩] scope pos) (tLc wi g tt te (own.map (·.2))):=by
  intro pins s σ H Q I h
  rw [eval_ListComp]
  refine lc_core hc hN I hi ok hg ht he hs h fun D C s' m H' I' q hn f=>⟨m,hn,fun h'' sb=>?_⟩
  obtain ⟨f0,f1,f2,f3,f4,f5⟩:=f
  exact ⟨.ref D,H',I'.turned (t':=s'.toks) (fun b o hb e=>(sb.2 b hb).trans e) f0 f1 f3 f4 f5,rfl,q⟩
theorem ps_setLc {i : Nat} {y : Str} {py : Pos} {elt tg iter : Expr} {ifs : List Expr} {scope : Scope} {own : List (Str × Nat)} {pos spos : Pos} {wi : TI} {g : TG} {tt : TT} {te : TE} (hc : X.calm = true) (hN : X.N.Nodup) (hy : X.N[i]? = some y) (hyl : X.env.scope.names.lookup y = some .local)
    (hsw:swapsWith (.ListComp elt [⟨tg,iter,ifs,0⟩] scope pos) (some (.Name y py)) spos.line X.env=pure true) (hi:PI X tg iter wi) (ok:BlkOk X.N X.env.scope scope own)
    (hg:∀ (s:Shared) (H:Hp) (C:Addr) (cl:List (Str × Addr)) (fp:List Addr),PG (X.blk s H scope (compEnvC scope cl C X.env) fp) tg g) (ht:∀ (s:Shared) (H:Hp) (C:Addr) (cl:List (Str × Addr)) (fp:List Addr),PTs (X.blk s H scope (compEnvC scope cl C X.env) fp) ifs tt)
    (he:∀ (s:Shared) (H:Hp) (C:Addr) (cl:List (Str × Addr)) (fp:List Addr),PE (X.blk s H scope (compEnvC scope cl C X.env) fp) elt te) (hs:∀ x,foldedSetIterable iter X.env x=pure x:=by intro _;rfl) :
    PS X (.Assign [.Name y py] (.ListComp elt [⟨tg,iter,ifs,0⟩] scope pos) spos) (tAsg (tLc wi g tt te (own.map (·.2))) (gName i)):=by
  intro pins s σ H D I h
  rw [exec_Assign_Name_used _ _ _ _ hsw]
  refine wpAny_bind (wpAny_standAt (wpAny_bind ?_))
  show wpAny _ X.A (do let _ ← comprehension (.ListComp elt [⟨tg,iter,ifs,0⟩] scope pos) scope X.env (firstIterPos [⟨tg,iter,ifs,0⟩] pos) (newList []) false (eval iter X.env) (some (assign (.Name y py) X.env))) _ _ s
  have h:tLc wi g tt te (own.map (·.2)) σ H (fun x H1=>gName i x σ H1 D.nx):=h
  refine wpAny_bind (thn (lc_core (Qf:=fun _ s'=>SP X pins D .next s') hc hN I hi ok hg ht he hs h fun L C s' m H' I' q hn f=>?_) fun _ s' hq=>wpAny_pure (wpAny_pure hq))
  show wpAny _ _ (assign (.Name y py) X.env (.ref L)) _ _ _
  refine wpAny_assign_Name (store_ok2 (v:=V.ref L) I' hN hy (.inl hyl) rfl (fun s2 I2 ⟨a,sb,ha⟩=>?_) (.inr hyl))
  obtain ⟨f0,f1,f2,f3,f4,f5⟩:=f
  have haC:C≠a:=by
    rcases ha with z | z
    · rw [z];exact f1
    · exact fun e=>f4 y a z e.symm
  refine ⟨m,hn.sameBut sb haC,fun h3 sb3=>?_⟩
  exact ⟨_,H',I2.turned (t':=s2.toks) (fun b o hb e=>(sb3.2 b hb).trans e) f0 f1 f3 f4 f5,q⟩
theorem sw_true {elt : Expr} {gs : List Comprehension} {scope : Scope} {pos py : Pos} {y : Str} {l : Nat} {env : Env} (hk : env.scope.kind = .function) (hy : env.scope.names.lookup y = some .local) (hl : (py.line == pos.line) = true)
    (ha:(scope.names.any fun (n,k)=>n == y&&(k == .local || k == .cell))=false):swapsWith (.ListComp elt gs scope pos) (some (.Name y py)) l env=pure true:=by
  have ky:env.kindOf y=some .local:=hy
  have hb:env.blockKind = .function:=by unfold Env.blockKind;rw [hk];rfl
  unfold swapsWith
  simp only [hb,ky,ha,Expr.pos,hl]
  rfl
end
theorem lc_range {lo : Int} {n : Nat} {g : TG} {tt : TT} {te : TE} {vs : List Nat} {σ : St} {H1 : Hp} {D : Addr} {Qd : Hp → Prop} (Pv : Nat → Hp → Prop) (h0 : Pv 0 (upd H1 D (.lst [])))
    (hs:∀ i H,i < n→Pv i H→g (.int (lo + i)) (wipe σ vs) H fun σ2 H2=>wipe σ2 vs=wipe σ vs∧tt σ2 H2 fun b H3 =>
      if b=true then te σ2 H3 fun y H4=>∃ acc,H4 D=some (.lst acc)∧acc.length < sizeLine∧Pv (i + 1) (upd H4 D (.lst (acc++[y]))) else Pv (i + 1) H3) (hd:∀ H,Pv n H→Qd H) :
    ∃ W:Nat→Nat→Hp→Prop,(∃ m,W 0 m (upd H1 D (.lst [])))∧∀ i m H,W i m H →
      ((Itr lo n).stop i H∧Qd H)∨((Itr lo n).go i H∧∃ Nx:Hp→Prop,(∀ H',Nx H'→∃ m',m' < m∧W (i + 1) m' H')∧∀ x H',(Itr lo n).yld i H x H'→g x (wipe σ vs) H' fun σ2 H2=>wipe σ2 vs=wipe σ vs∧tt σ2 H2 fun b H3 =>
        if b=true then te σ2 H3 fun y H4=>∃ acc,H4 D=some (.lst acc)∧acc.length < sizeLine∧Nx (upd H4 D (.lst (acc++[y]))) else Nx H3):=by
  refine ⟨fun i m H=>m=n - i∧i≤n∧Pv i H,⟨n,by simp,Nat.zero_le _,h0⟩,?_⟩
  rintro i m H ⟨rfl,hi,p⟩
  by_cases hlt:i < n
  · refine .inr ⟨hlt,Pv (i + 1),fun H' p'=>⟨n - (i + 1),by omega,rfl,hlt,p'⟩,fun x H' y=>?_⟩
    obtain ⟨e,y⟩:=y
    subst e y
    exact hs i _ hlt p
  · have e:i=n:=by omega
    subst e
    exact .inl ⟨Nat.le_refl _,hd H p⟩
theorem lc_list {K : PySem.W.Frag} {a : Addr} {xs : List V} {g : TG} {tt : TT} {te : TE} {vs : List Nat} {σ : St} {H1 : Hp} {D : Addr} {Qd : Hp → Prop} (Pv : Nat → Hp → Prop) (h0 : Pv 0 (upd H1 D (.lst []))) (hl : ∀ i H, i ≤ xs.length → Pv i H → SqL K H a xs)
    (hs:∀ i x H,xs[i]? = some x→Pv i H→g x (wipe σ vs) H fun σ2 H2=>wipe σ2 vs=wipe σ vs∧tt σ2 H2 fun b H3 =>
      if b=true then te σ2 H3 fun y H4=>∃ acc,H4 D=some (.lst acc)∧acc.length < sizeLine∧Pv (i + 1) (upd H4 D (.lst (acc++[y]))) else Pv (i + 1) H3) (hd:∀ H,Pv xs.length H→Qd H) :
    ∃ W:Nat→Nat→Hp→Prop,(∃ m,W 0 m (upd H1 D (.lst [])))∧∀ i m H,W i m H →
      ((Itl K a).stop i H∧Qd H)∨((Itl K a).go i H∧∃ Nx:Hp→Prop,(∀ H',Nx H'→∃ m',m' < m∧W (i + 1) m' H')∧∀ x H',(Itl K a).yld i H x H'→g x (wipe σ vs) H' fun σ2 H2=>wipe σ2 vs=wipe σ vs∧tt σ2 H2 fun b H3 =>
        if b=true then te σ2 H3 fun y H4=>∃ acc,H4 D=some (.lst acc)∧acc.length < sizeLine∧Nx (upd H4 D (.lst (acc++[y]))) else Nx H3):=by
  refine ⟨fun i m H=>m=xs.length - i∧i≤xs.length∧Pv i H,⟨xs.length,by simp,Nat.zero_le _,h0⟩,?_⟩
  rintro i m H ⟨rfl,hi,p⟩
  have q:=hl i H hi p
  by_cases hlt:i < xs.length
  · refine .inr ⟨⟨xs,xs[i],q,by simp [hlt]⟩,Pv (i + 1),fun H' p'=>⟨xs.length - (i + 1),by omega,rfl,hlt,p'⟩,fun x H' y=>?_⟩
    obtain ⟨e,y⟩:=y
    subst e
    exact hs i x _ (y xs q) p
  · have e:i=xs.length:=by omega
    subst e
    exact .inl ⟨⟨xs,q,Nat.le_refl _⟩,hd H p⟩
def blkC (N:List Str) (sc scope:Scope) (own:List (Str × Nat)):Bool :=
  (match scope.kind with | .function=>true | _=>false)&&(scope.names.all fun y=>decide (scope.names.lookup y.1=some y.2))&&(own.all fun p=>decide (N[p.2]? = some p.1)) &&
    (scope.names.all fun y=>match y.2 with
      | .free=>(match sc.names.lookup y.1 with | some .cell=>true | some .free=>true | _=>false)
      | .local=>decide (y.1 ∈ own.map (·.1)) || decide (y.1 ∉ N)
      | .cell=>decide (y.1 ∈ own.map (·.1)) || decide (y.1 ∉ N)
      | _=>true)
theorem blkOk_by {N:List Str} {sc scope:Scope} {own:List (Str × Nat)} (h:blkC N sc scope own=true):BlkOk N sc scope own:=by
  unfold blkC at h
  simp only [Bool.and_eq_true,List.all_eq_true,decide_eq_true_eq] at h
  obtain ⟨⟨⟨h1,h2⟩,h3⟩,h4⟩:=h
  refine ⟨?_,h2,h3,fun y hy e=>?_,fun y hy e=>?_⟩
  · split at h1
    · assumption
    · cases h1
  · have q:=h4 y hy
    simp only [e] at q
    split at q <;> first | exact .inl (by assumption) | exact .inr (by assumption) | cases q
  · have q:=h4 y hy
    rcases e with e | e <;> (simp only [e,Bool.or_eq_true,decide_eq_true_eq] at q;exact q)
end L2
namespace L2
open PySem PySem.Spec PyProof.Rows
section
variable {prog:Program} {w:World} {A:Around} {R:Result→Shared→Prop} {s:Shared} {elt t0 i0 t1 i1:Expr} {ifs0 ifs1:List Expr} {scope:Scope} {pos:Pos} {it acc:Value} {env:Env}
end
section
variable {X:Cx}
end
end L2
namespace L2
open PySem PySem.Spec PyProof.Rows
section
variable {κ : Type} [DecidableEq κ]
def valV (kvs:List (κ × V)) (k : κ):Option V:=(kvs.find? fun kv=>decide (kv.1=k)).map (·.2)
def putK (kvs:List (κ × V)) (k : κ) (v:V):List (κ × V) :=
  if (kvs.any fun kv=>decide (kv.1=k))=true then kvs.map (fun kv=>if kv.1=k then (kv.1,v) else kv) else kvs++[(k,v)]
theorem valV_pos {p : κ × V} {r:List (κ × V)} {k : κ} (e:p.1=k):valV (p :: r) k=some p.2:=by simp [valV,List.find?_cons,e]
theorem valV_neg {p : κ × V} {r:List (κ × V)} {k : κ} (e : ¬ p.1=k):valV (p :: r) k=valV r k:=by simp [valV,List.find?_cons,e]
theorem valV_any (k : κ):∀ kvs:List (κ × V),(kvs.any fun kv=>decide (kv.1=k))=(valV kvs k).isSome
  | []=>rfl
  | p :: r=>by
    rw [List.any_cons]
    by_cases e:p.1=k
    · simp only [valV_pos e,decide_eq_true e,Bool.true_or,Option.isSome_some]
    · rw [valV_neg e,decide_eq_false e,Bool.false_or];exact valV_any k r
theorem valV_map (k j : κ) (y:V):∀ kvs:List (κ × V),valV (kvs.map fun kv=>if kv.1=k then (kv.1,y) else kv) j=(valV kvs j).map fun x=>if j=k then y else x
  | []=>rfl
  | p :: r=>by
    have ih:=valV_map k j y r
    rw [List.map_cons]
    by_cases h:p.1=k
    · rw [if_pos h]
      by_cases e:p.1=j
      · rw [valV_pos (p:=(p.1,y)) e,valV_pos e,Option.map_some,if_pos (e.symm.trans h)]
      · rw [valV_neg (p:=(p.1,y)) e,valV_neg e,ih]
    · rw [if_neg h]
      by_cases e:p.1=j
      · rw [valV_pos (p:=p) e,valV_pos e,Option.map_some,if_neg (fun z=>h (e.trans z))]
      · rw [valV_neg (p:=p) e,valV_neg e,ih]
theorem valV_snoc (k j : κ) (y:V):∀ kvs:List (κ × V),valV kvs k=none→valV (kvs++[(k,y)]) j=if j=k then some y else valV kvs j
  | [],_=>by
    by_cases e:k=j
    · rw [if_pos e.symm];exact valV_pos (p:=(k,y)) e
    · rw [if_neg (fun z=>e z.symm)];exact valV_neg (p:=(k,y)) e
  | p :: r,hn=>by
    rw [List.cons_append]
    have hk : ¬ p.1=k:=fun z=>by rw [valV_pos z] at hn;cases hn
    rw [valV_neg hk] at hn
    have ih:=valV_snoc k j y r hn
    by_cases e:p.1=j
    · rw [valV_pos e,valV_pos e,if_neg (fun z=>hk (e.trans z))]
    · rw [valV_neg e,valV_neg e,ih]
theorem valV_put (kvs:List (κ × V)) (k j : κ) (y:V):valV (putK kvs k y) j=if j=k then some y else valV kvs j:=by
  unfold putK
  by_cases a:(kvs.any fun kv=>decide (kv.1=k))=true
  · rw [if_pos a,valV_map]
    rw [valV_any] at a
    by_cases e:j=k
    · obtain ⟨x,hx⟩:=Option.isSome_iff_exists.mp a
      rw [if_pos e,e,hx,Option.map_some,if_pos rfl]
    · rw [if_neg e]
      cases valV kvs j with
      | none=>rfl
      | some x=>rw [Option.map_some,if_neg e]
  · rw [if_neg a]
    refine valV_snoc k j y kvs ?_
    rw [valV_any] at a
    cases q:valV kvs k with
    | none=>rfl
    | some x=>rw [q] at a;exact (a rfl).elim
theorem length_putK (kvs:List (κ × V)) (k : κ) (v:V):(putK kvs k v).length≤kvs.length + 1:=by
  unfold putK
  split
  · rw [List.length_map];omega
  · rw [List.length_append,List.length_cons,List.length_nil];omega
theorem putK_new {kvs:List (κ × V)} {k : κ} (v:V) (h:valV kvs k=none):putK kvs k v=kvs++[(k,v)]:=by
  unfold putK
  rw [valV_any,h]
  exact if_neg (by decide)
theorem RelO.isSome_eq {o:Option V} {u:Option Value} (r:RelO o u):o.isSome=u.isSome:=by
  cases o with
  | none=>cases u with
    | none=>rfl
    | some _=>exact (show False from r).elim
  | some _=>cases u with
    | none=>exact (show False from r).elim
    | some _=>rfl
theorem KV.val {kvs:List (κ × V)} {vs:List (κ × Value)} (r:KV kvs vs) (k : κ):RelO (valV kvs k) (valueAt vs k):=by
  unfold KV at r
  induction r with
  | nil=>exact True.intro
  | @cons p q ps qs h t ih =>
    obtain ⟨h1,h2⟩:=h
    by_cases e:p.1=k
    · have e':q.1=k:=h1.symm.trans e
      have b:valueAt (q :: qs) k=some q.2:=by simp [valueAt,List.find?_cons,e']
      rw [valV_pos e,b];exact h2
    · have e' : ¬ q.1=k:=fun z=>e (h1.trans z)
      have b:valueAt (q :: qs) k=valueAt qs k:=by simp [valueAt,List.find?_cons,e']
      rw [valV_neg e,b];exact ih
theorem KV.any {kvs:List (κ × V)} {vs:List (κ × Value)} (r:KV kvs vs) (k : κ):(kvs.any fun kv=>decide (kv.1=k))=vs.any fun kv=>decide (kv.1=k):=by
  unfold KV at r
  induction r with
  | nil=>rfl
  | cons h t ih=>rw [List.any_cons,List.any_cons,ih,h.1]
theorem KV.repl {kvs : List (κ × V)} {vs : List (κ × Value)} (r : KV kvs vs) (k : κ) {y : V} {u : Value} (ry : RelV y u) :
    KV (kvs.map fun kv=>if kv.1=k then (kv.1,y) else kv) (vs.map fun kv=>if kv.1=k then (kv.1,u) else kv):=by
  unfold KV at r ⊢
  induction r with
  | nil=>exact .nil
  | @cons p q ps qs h t ih =>
    rw [List.map_cons,List.map_cons]
    refine .cons ?_ ih
    obtain ⟨h1,h2⟩:=h
    by_cases e:p.1=k
    · rw [if_pos e,if_pos (h1.symm.trans e)];exact ⟨h1,ry⟩
    · rw [if_neg e,if_neg (fun z=>e (h1.trans z))];exact ⟨h1,h2⟩
theorem KV.put {kvs:List (κ × V)} {vs:List (κ × Value)} (r:KV kvs vs) (k : κ) {y:V} {u:Value} (ry:RelV y u):KV (putK kvs k y) (stored vs k u):=by
  unfold putK stored
  rw [r.any k]
  by_cases e:(vs.any fun kv=>decide (kv.1=k))=true
  · rw [if_pos e,if_pos e];exact r.repl k ry
  · rw [if_neg e,if_neg e];exact Paired.snoc r ⟨rfl,ry⟩
theorem KV.length {kvs:List (κ × V)} {vs:List (κ × Value)} (r:KV kvs vs):kvs.length=vs.length:=Paired.length r
end
theorem kV_is {P:Program} {w:World} {k:Key} {u:Value} (r:RelV (kV k) u):(mixKind P w).is k u=true:=by
  cases k with
  | inl i=>obtain ⟨t,e⟩:=(show ∃ t,u=Value.int i t from r);subst e;exact mixKind_int P w i t
  | inr x=>obtain ⟨t,e⟩:=(show ∃ t,u=Value.str x t from r);subst e;exact mixKind_str P w x t
theorem items_are {P:Program} {w:World}:∀ {ks:List Key} {us:List Value},Vals (ks.map kV) us→ItemsAre (mixKind P w) ks us
  | [],_,r=>by rw [List.map_nil] at r;cases r;exact .nil
  | k :: ks,_,r=>by
    rw [List.map_cons] at r
    cases r with
    | cons h t=>exact .cons (kV_is h) (items_are t)
abbrev KT (H:Hp):List (List Key × V)→List (List Key × Addr × Value)→Prop:=Paired fun p q=>p.1=q.1∧H q.2.1=some (.tup (p.1.map kV))∧RelV p.2 q.2.2
theorem KT.val {H:Hp} {kvs:List (List Key × V)} {xs:List (List Key × Addr × Value)} (r:KT H kvs xs) (k:List Key):RelO (valV kvs k) ((atKey xs k).map (·.2)):=by
  induction r with
  | nil=>exact True.intro
  | @cons p q ps qs h t ih =>
    obtain ⟨h1,_,h2⟩:=h
    by_cases e:p.1=k
    · have e':q.1=k:=h1.symm.trans e
      have b:atKey (q :: qs) k=some q.2:=by simp [atKey,List.find?_cons,e']
      rw [valV_pos e,b];exact h2
    · have e' : ¬ q.1=k:=fun z=>e (h1.trans z)
      have b:atKey (q :: qs) k=atKey qs k:=by simp [atKey,List.find?_cons,e']
      rw [valV_neg e,b];exact ih
theorem KT.repl {H : Hp} {kvs : List (List Key × V)} {xs : List (List Key × Addr × Value)} (r : KT H kvs xs) (k : List Key) {y : V} {u : Value} (ry : RelV y u) :
    KT H (kvs.map fun kv=>if kv.1=k then (kv.1,y) else kv) (xs.map (putAt k u)):=by
  induction r with
  | nil=>exact .nil
  | @cons p q ps qs h t ih =>
    rw [List.map_cons,List.map_cons]
    refine .cons ?_ ih
    obtain ⟨h1,h2,h3⟩:=h
    unfold putAt
    by_cases e:p.1=k
    · rw [if_pos e,if_pos (h1.symm.trans e)];exact ⟨h1,h2,ry⟩
    · rw [if_neg e,if_neg (fun z=>e (h1.trans z))];exact ⟨h1,h2,h3⟩
theorem KT.put {H : Hp} {kvs : List (List Key × V)} {xs : List (List Key × Addr × Value)} (r : KT H kvs xs) (k : List Key) {b : Addr} {y : V} {u : Value} (hb : H b = some (.tup (k.map kV))) (ry : RelV y u) :
    KT H (putK kvs k y) (storedH xs k b u):=by
  have e:(kvs.any fun kv=>decide (kv.1=k))=(atKey xs k).isSome:=by
    rw [valV_any,(r.val k).isSome_eq,Option.isSome_map]
  unfold putK storedH
  rw [e]
  by_cases q:(atKey xs k).isSome=true
  · rw [if_pos q,if_pos q];exact r.repl k ry
  · rw [if_neg q,if_neg q];exact Paired.snoc r ⟨rfl,hb,ry⟩
theorem KT.keeps {H H':Hp} {kvs:List (List Key × V)} {xs:List (List Key × Addr × Value)} (r:KT H kvs xs) (ht:∀ b ys,H b=some (.tup ys)→H' b=some (.tup ys)):KT H' kvs xs :=
  Paired.mapP r fun _ _ z=>⟨z.1,ht _ _ z.2.1,z.2.2⟩
section
variable {P:Program} {w:World} {H:Hp} {h:Heap} {a:Addr}
theorem rd_of {u:HO} (ok:HOk P w H h) (e:Rd H a u):ObjOk P w H h a u:=e.ok ok
theorem dk_rd {kvs:List (Key × V)} (ok:HOk P w H h) (e:Rd H a (.dK kvs)):kvs.length≤sizeLine∧(a == sysModules)=false∧∃ vs,KV kvs vs∧h.DictOf (mixKind P w) a vs :=
  show ObjOk P w H h a (.dK kvs) from rd_of ok e
theorem dk_of {kvs:List (Key × V)} (ok:HOk P w H h) (e:H a=some (.dK kvs)):kvs.length≤sizeLine∧(a == sysModules)=false∧∃ vs,KV kvs vs∧h.DictOf (mixKind P w) a vs:=dk_rd ok (.inl e)
theorem key_of {ks:List Key} (ok:HOk P w H h) (e:H a=some (.tup (ks.map kV))):(tupleKind (mixKind P w)).is h ks a:=by
  obtain ⟨_,its,r,o,h1,h2,n,h3⟩:=(show ObjOk P w H h a (.tup (ks.map kV)) from ok a _ e)
  exact ⟨o,its.toArray,n,h1,h2,h3,by simpa using items_are r⟩
theorem dt_rd {kvs : List (List Key × V)} (ok : HOk P w H h) (e : Rd H a (.dT kvs)) : kvs.length ≤ sizeLine ∧ (a == sysModules) = false ∧
    ∃ xs,KT H kvs xs∧h.DictOfH (tupleKind (mixKind P w)) a xs:=by
  obtain ⟨z,y,xs,r,o,es,ep,h1,h2,h3,h4,h5⟩:=(show ObjOk P w H h a (.dT kvs) from rd_of ok e)
  refine ⟨z,y,xs,r,o,es,ep,h1,h2,h3,h4,fun x hx=>?_,h5⟩
  have all:∀ {l:List (List Key × V)} {m:List (List Key × Addr × Value)},KT H l m→∀ x ∈ m,(tupleKind (mixKind P w)).is h x.1 x.2.1:=by
    intro l m q
    induction q with
    | nil=>intro x hx;exact nomatch hx
    | @cons p q ps qs hq t ih =>
      intro x hx
      rcases List.mem_cons.mp hx with e | hx
      · subst e
        exact key_of ok (by rw [← hq.1];exact hq.2.1)
      · exact ih x hx
  exact all r x hx
theorem dt_of {kvs : List (List Key × V)} (ok : HOk P w H h) (e : H a = some (.dT kvs)) : kvs.length ≤ sizeLine ∧ (a == sysModules) = false ∧
    ∃ xs,KT H kvs xs∧h.DictOfH (tupleKind (mixKind P w)) a xs:=dt_rd ok (.inl e)
end
def DGet (H:Hp) (a:Addr) (y:V) (r:Option V):Prop :=
  (∃ kvs k,Rd H a (.dK kvs)∧y=kV k∧r=valV kvs k)∨∃ kvs k b,Rd H a (.dT kvs)∧y = .ref b∧H b=some (.tup (k.map kV))∧r=valV kvs k
def DPut (H:Hp) (a:Addr) (y v:V) (H':Hp):Prop :=
  (∃ kvs k,H a=some (.dK kvs)∧y=kV k∧kvs.length < sizeLine∧H'=upd H a (.dK (putK kvs k v))) ∨
  ∃ kvs k b,H a=some (.dT kvs)∧y = .ref b∧H b=some (.tup (k.map kV))∧kvs.length < sizeLine∧H'=upd H a (.dT (putK kvs k v))
theorem DGet.k {H:Hp} {a:Addr} {kvs:List (Key × V)} {k:Key} (e:H a=some (.dK kvs)):DGet H a (kV k) (valV kvs k):=.inl ⟨kvs,k,.inl e,rfl,rfl⟩
theorem DPut.k {H:Hp} {a:Addr} {kvs:List (Key × V)} {k:Key} {v:V} (e:H a=some (.dK kvs)) (hl:kvs.length < sizeLine):DPut H a (kV k) v (upd H a (.dK (putK kvs k v))):=.inl ⟨kvs,k,e,rfl,hl,rfl⟩
section
variable {X:Cx} {pins:List (Addr × Obj)} {σ : St} {H:Hp} {s:Shared} {a:Addr} {y v:V} {u r:Value} {o:Option V} {A:Around} {E:Value→Shared→Prop}
theorem Inv.big (I:Inv X pins σ H s):sysModules < s.heap.objs.size:=by
  have h:mainGlobals < s.heap.objs.size:=(I.mod.glob.keeps I.bk).lt
  exact Nat.lt_trans (by decide) h
theorem d_getItem {Q : Value → Shared → Prop} (hu : A.units + 1 < cLine) (I : Inv X pins σ H s) (g : DGet H a y (some v)) (ry : RelV y u) (h : ∀ w' s', Inv X pins σ H s' → RelV v w' → Q w' s') :
    wpAny (model X.prog X.w) A (getItem (.ref a) u) Q E s:=by
  rcases g with ⟨kvs,k,e,ey,l⟩ | ⟨kvs,k,b,e,ey,eb,l⟩
  · subst ey
    obtain ⟨z,hd,vs,rel,dd⟩:=dk_rd I.hok e
    obtain ⟨w',hw,rw'⟩:=RelO.some_of (v:=v) (o:=valueAt vs k) (by rw [l];exact rel.val k)
    exact wpAny_getItem_of (kV_is ry) dd.mapOf hw (h w' _ (I.tok _) rw')
  · subst ey
    cases (show u=Value.ref b from ry)
    obtain ⟨z,hd,xs,rel,dd⟩:=dt_rd I.hok e
    obtain ⟨w',hw,rw'⟩:=RelO.some_of (v:=v) (o:=(atKey xs k).map (·.2)) (by rw [l];exact rel.val k)
    obtain ⟨p,hp,hp2⟩:=Option.map_eq_some_iff.mp hw
    refine wpAny_getItem_heap (tupleKind_room_in1 hu) (key_of I.hok eb) dd hp ?_
    rw [hp2]
    exact h w' _ (I.tok _) rw'
theorem d_notIn {Q : Value → Shared → Prop} (hu : A.units + 1 < cLine) (I : Inv X pins σ H s) (g : DGet H a y o) (ry : RelV y u) (h : ∀ s', Inv X pins σ H s' → Q (.bool (!o.isSome)) s') :
    wpAny (model X.prog X.w) A (compareOp .NotIn u (.ref a)) Q E s:=by
  rcases g with ⟨kvs,k,e,ey,l⟩ | ⟨kvs,k,b,e,ey,eb,l⟩
  · subst ey
    obtain ⟨z,hd,vs,rel,dd⟩:=dk_rd I.hok e
    refine wpAny_notIn_of (kV_is ry) hd dd.mapOf ?_
    rw [← (rel.val k).isSome_eq,← l]
    exact h _ (I.tok _)
  · subst ey
    cases (show u=Value.ref b from ry)
    obtain ⟨z,hd,xs,rel,dd⟩:=dt_rd I.hok e
    refine wpAny_notIn_heap (tupleKind_room_in1 hu) (key_of I.hok eb) hd dd ?_
    have q:=(rel.val k).isSome_eq
    rw [Option.isSome_map] at q
    rw [← q,← l]
    exact h _ (I.tok _)
theorem d_write {h' : Heap} {t' : Nat} {ob : HO} (I : Inv X pins σ H s) (mu : Mut (H a)) (hs : Heap.SameBut a s.heap h') (he : ∃ q, h'.get? a = some q) (new : ObjOk X.prog X.w (upd H a ob) h' a ob) :
    Inv X pins σ (upd H a ob) { s with heap:=h',toks:=t' } :=
  I.write (x:=a) (e:=a) mu (.inl rfl) (fun b q hb z=>(hs.2 b hb).trans z) he new
theorem dk_new {P : Program} {w : World} {H' : Hp} {h' : Heap} {kvs : List (Key × V)} {vs : List (Key × Value)} (z : kvs.length ≤ sizeLine) (hd : (a == sysModules) = false) (rel : KV kvs vs) (dd : h'.DictOf (mixKind P w) a vs) :
    ObjOk P w H' h' a (.dK kvs):=⟨z,hd,vs,rel,dd⟩
theorem d_setItem {H' : Hp} {Q : Unit → Shared → Prop} (hu : A.units + 1 < cLine) (I : Inv X pins σ H s) (g : DPut H a y v H') (ry : RelV y u) (rv : RelV v r) (h : ∀ s', Inv X pins σ H' s' → Q () s') :
    wpAny (model X.prog X.w) A (setItem (.ref a) u r) Q E s:=by
  rcases g with ⟨kvs,k,e,ey,l,eH⟩ | ⟨kvs,k,b,e,ey,eb,l,eH⟩
  · subst ey eH
    obtain ⟨z,hd,vs,rel,dd⟩:=dk_of I.hok e
    have hz:vs.length≤sizeLine:=by rw [← rel.length];exact z
    have hl:(putK kvs k v).length≤sizeLine:=by have:=length_putK kvs k v;omega
    refine wpAny_setItem_pairs (hsz:=hz) (kV_is ry) dd fun h' dd' hs=>h _ ?_
    have he:∃ q,h'.get? a=some q:=let ⟨q,_,_,hq,_⟩:=dd';⟨q,hq⟩
    exact d_write I (by rw [e];exact True.intro) hs he (dk_new hl hd (rel.put k rv) dd')
  · subst ey eH
    cases (show u=Value.ref b from ry)
    obtain ⟨z,hd,xs,rel,dd⟩:=dt_of I.hok e
    have hz:xs.length≤sizeLine:=by rw [← Paired.length rel];exact z
    have hl:(putK kvs k v).length≤sizeLine:=by have:=length_putK kvs k v;omega
    refine wpAny_setItem_heap (hsz:=hz) (tupleKind_room_in1 hu) (key_of I.hok eb) dd fun h' dd' hs=>h _ ?_
    obtain ⟨q,es,ep,hq,h2,h3,h4,_,h5⟩:=dd'
    refine d_write I (by rw [e];exact True.intro) hs ⟨q,hq⟩ ⟨hl,hd,_,(rel.put k eb rv).keeps fun c ys ec=>?_,q,es,ep,hq,h2,h3,h4,h5⟩
    rw [upd_ne (ne_of ec e (fun z=>nomatch z))]
    exact ec
end
section
variable {X:Cx} {pins:List (Addr × Obj)} {σ : St} {H:Hp} {s:Shared} {a:Addr} {kvs:List (Key × V)} {k:Key} {u:Value} {A:Around} {E:Value→Shared→Prop}
end
def NoSl (i:Expr):Prop:=∀ ov iv,subscripted i false ov iv=operate [ov,iv] (getItem ov iv)
theorem subD_of {prog : Program} {w : World} {A : Around} {E : Value → Shared → Prop} {s : Shared} {env : Env} {value slice : Expr} {pos : Pos} {T id : String} {Q : Value → Shared → Prop}
    (hl:typeLookup (.type T) "__getitem__" = pure (some (.builtin id))) (hs:NoSl slice)
    (h:wpAny (model prog w) A (eval value env) (fun o s₁=>wpAny (model prog w) A (eval slice env) (fun i s₂=>s₂.TypeIs o T∧wpAny (model prog w) A (getItem o i) Q E s₂) E s₁) E s) :
    wpAny (model prog w) A (eval (.Subscript value slice pos) env) Q E s:=by
  refine Subscript_ (wpAny_mono h (fun o s₁ h₁=>wpAny_mono h₁ (fun i s₂ h₂=>?_) fun _ _ x=>x) fun _ _ x=>x)
  obtain ⟨hT,h₂⟩:=h₂
  unfold subscriptTail
  refine wpAny_bind ?_
  rw [getitemInPython_of_ne hT.not_modules]
  refine wpAny_bind (wpAny_specialOf hT hl ?_)
  have fin:wpAny (model prog w) A (subscripted slice false o i) (fun r s₃=>wpAny (model prog w) A (letTemporaryGo value o r >>= fun _=>pure r) Q E s₃) E s₂:=by
    rw [hs o i]
    exact wpAny_operating (wpAny_mono h₂ (fun r s₃ h₃=>wpAny_bind (wpAny_letTemporaryGo (wpAny_pure h₃))) fun _ _ x=>x)
  first
    | exact wpAny_pure (wpAny_bind fin)
    | exact wpAny_bind (wpAny_pure (wpAny_bind fin))
    | exact wpAny_bind fin
theorem dict_typeIs {X:Cx} {pins:List (Addr × Obj)} {σ : St} {H:Hp} {s:Shared} {a:Addr} {y:V} {o:Option V} (I:Inv X pins σ H s) (g:DGet H a y o):s.TypeIs (.ref a) "dict" := by
  rcases g with ⟨kvs,k,e,_,_⟩ | ⟨kvs,k,b,e,_,_,_⟩
  · obtain ⟨_,_,vs,_,dd⟩:=dk_rd I.hok e
    exact dd.typeIs
  · obtain ⟨_,_,xs,_,dd⟩:=dt_rd I.hok e
    exact dd.typeIs
def tDGet (td ty:TE):TE:=fun σ H Q=>td σ H fun x H1=>ty σ H1 fun y H2=>∃ a v,x = .ref a∧DGet H2 a y (some v)∧Q v H2
def tDNotIn (ty td:TE):TE:=fun σ H Q=>ty σ H fun y H1=>td σ H1 fun x H2=>∃ a o,x = .ref a∧DGet H2 a y o∧Q (.bl (!o.isSome)) H2
def sDPut (td ty tv:TE):TS:=fun D σ H=>tv σ H fun v H1=>td σ H1 fun x H2=>ty σ H2 fun y H3=>∃ a H4,x = .ref a∧DPut H3 a y v H4∧D.nx σ H4
section
variable {X:Cx} {o i e value:Expr} {pos pos' tpos:Pos} {td ty tv:TE}
theorem pe_dget (hu:X.A.units + 1 < cLine) (ho:PE X o td) (hi:PE X i ty) (hs:NoSl i):PE X (.Subscript o i pos) (tDGet td ty):=by
  intro pins s σ H Q I h
  refine subD_of PySem.F.slot_dict_getitem.lookup hs (thn (ho pins s σ H _ I h) fun u s1 ⟨x,H1,I1,rx,q1⟩=>thn (hi pins s1 σ H1 _ I1 q1) fun iv s2 ⟨y,H2,I2,ry,a,v,ex,g,q2⟩=>?_)
  subst ex
  obtain rfl:u=Value.ref a:=rx
  exact ⟨dict_typeIs I2 g,d_getItem hu I2 g ry fun w' s3 I3 rw'=>⟨v,H2,I3,rw',q2⟩⟩
theorem pc_dnotin (hu:X.A.units + 1 < cLine) (hi:PE X i ty) (ho:PE X o td):PC X .NotIn i o (tDNotIn ty td):=by
  intro pins s σ H Q I h
  refine thn (hi pins s σ H _ I h) fun iv s1 ⟨y,H1,I1,ry,q1⟩=>thn (ho pins s1 σ H1 _ I1 q1) fun u s2 ⟨x,H2,I2,rx,a,ov,ex,g,q2⟩=>?_
  subst ex
  obtain rfl:u=Value.ref a:=rx
  exact d_notIn hu I2 g ry fun s3 I3=>⟨.bl (!ov.isSome),H2,I3,rfl,q2⟩
theorem ps_dput (hu : X.A.units + 1 < cLine) (ho : PE X o td) (hi : PE X i ty) (hv : PE X value tv) (hs : swapsWith value (some (.Subscript o i pos')) pos.line X.env = pure false) :
    PS X (.Assign [.Subscript o i pos'] value pos) (sDPut td ty tv):=by
  intro pins s σ H D I h
  refine wpAny_Assign_Subscript (thn (hv pins s σ H _ I h) fun r s1 ⟨v,H1,I1,rv,q1⟩=>thn (ho pins s1 σ H1 _ I1 q1) fun u s2 ⟨x,H2,I2,rx,q2⟩=>thn (hi pins s2 σ H2 _ I2 q2) fun iv s3 ⟨y,H3,I3,ry,a,H4,ex,g,q3⟩=>?_) hs
  subst ex
  obtain rfl:u=Value.ref a:=rx
  exact d_setItem hu I3 g ry rv fun s4 I4=>⟨σ,H4,I4,q3⟩
end
theorem dk_empty {P:Program} {w:World} {H:Hp} (h:Heap) (hb:sysModules < h.objs.size):ObjOk P w H (h.push { cls:=.type "dict",data:=.dict #[] }) h.objs.size (.dK []) :=
  ⟨Nat.zero_le _,beq_eq_false_iff_ne.mpr (Ne.symm (Nat.ne_of_lt hb)),[],.nil,Heap.DictOf.new h⟩
def tDNewK:TE:=fun _ H Q=>∀ p,H p=none→Q (.ref p) (upd H p (.dK []))
section
variable {X:Cx} {pos:Pos}
theorem pe_dnewK:PE X (.Dict [] [] pos) tDNewK:=fun pins s σ H Q I h =>
  wpAny_Dict_empty ⟨.ref s.heap.objs.size,_,I.laid (a:=s.heap.objs.size) (o:=.dK []) (t':=s.toks) (fun _ _ q=>Heap.get?_push_of_some _ q) (Nat.le_refl _) (dk_empty s.heap I.big),rfl,h _ (I.hok.fresh (Nat.le_refl _))⟩
end
section
variable {X:Cx} {pins:List (Addr × Obj)} {σ : St} {H:Hp} {s:Shared} {a:Addr} {y d:V} {u r:Value} {o:Option V} {A:Around} {E:Value→Shared→Prop}
end
section
variable {X:Cx} {o e f:Expr} {apos cpos:Pos} {td ty tx:TE}
end
section
variable {X:Cx} {pins:List (Addr × Obj)} {σ : St} {H:Hp} {s:Shared} {a:Addr} {kvs:List (Key × V)} {A:Around} {E:Value→Shared→Prop}
end
section
variable {X:Cx} {pins:List (Addr × Obj)} {σ : St} {H:Hp} {s:Shared} {a:Addr} {y:V} {u:Value} {A:Around} {E:Value→Shared→Prop}
end
end L2
namespace L2
open PySem PySem.Spec PyProof.Rows
section
variable {prog:Program} {w:World} {A:Around} {E:Value→Shared→Prop}
end
section
variable {X:Cx}
end
end L2
namespace L2
open PySem PySem.Spec PyProof.Rows
section
variable {X:Cx} {pins:List (Addr × Obj)} {σ : St} {H:Hp} {s:Shared} {h':Heap}
theorem Inv.turnedNew {t' : Nat} {ch : List Addr} {T : Addr} {ob : HO} (I : Inv X pins σ H s) (k : ∀ b o, b ∉ ch → s.heap.get? b = some o → h'.get? b = some o) (hf : ∀ b ∈ ch, FpOk X pins H b) (hT : s.heap.objs.size ≤ T)
    (new:ObjOk X.prog X.w (upd H T ob) h' T ob):Inv X pins σ (upd H T ob) { s with heap:=h',toks:=t' }:=by
  have hn:H T=none:=I.hok.fresh hT
  have nit:∀ b u,H b=some u→b ∉ ch:=fun b u e z=>by
    have q:=(hf b z).1
    rw [q] at e;cases e
  refine I.step (g':=s.gens) (d':=s.drawn) (ch:=ch) (fun b hb=>⟨(hf b hb).2.2.2.1,(hf b hb).2.1,(hf b hb).2.2.2.2.1,(hf b hb).2.2.2.2.2⟩) (fun b o _ _ hc e _=>k b o hc e) (fun b o _ _ hc e _=>⟨o.slots,k b o hc e⟩)
    (fun b o _ e n=>?_) (fun b o hc e=>⟨o,k b o hc e⟩) (fun b xs e=>?_) (fun b o u e=>?_) (fun b ps e=>⟨#[],?_⟩) (fun m hm=>?_) (fun b u e=>?_) I.bare
  · rw [upd_ne (Nat.ne_of_lt (Nat.lt_of_lt_of_le (Heap.lt_size e) hT))];exact n
  · rw [upd_ne (ne_of_none e hn)];exact e
  · rw [upd_ne (ne_of_none e hn)];exact e
  · rw [upd_ne (ne_of_none e hn),e];simp
  · obtain ⟨o,es,ep,ho,r⟩:=hm
    exact ⟨o,es,ep,k _ o (fun z=>(hf _ z).2.1 rfl) ho,r⟩
  · by_cases hb:b=T
    · subst hb
      rw [upd_same] at e
      cases e
      exact new
    · rw [upd_ne hb] at e
      refine (I.hok b u e).stay (fun c v hc q=>k c v ?_ q) (fun c q=>by rw [upd_ne (ne_of_none q hn)];exact q) fun c xs q=>by rw [upd_ne (ne_of_none q hn)];exact q
      rcases hc with z | z
      · rw [z];exact nit b u e
      · exact nit c _ z
end
section
variable {X:Cx}
end
section
variable {X:Cx} {tg:Expr}
end
section
variable {X:Cx} {tg:Expr}
end
section
variable {prog:Program} {w:World} {A:Around} {E:Value→Shared→Prop} {s:Shared}
end
section
variable {X:Cx} {pins:List (Addr × Obj)} {σ : St} {H:Hp} {s:Shared} {d:Addr} {o:Obj}
end
section
variable {P:Program} {w:World} {K:PySem.W.Frag} {tg:Expr} {d:Addr} {o:Obj} {es:Array DictEntry} {ep:Nat}
end
section
variable {X:Cx} {tg e:Expr} {td:TE} {apos cpos:Pos}
end
end L2
section
namespace Bits
open PySem PyProof.Rows
end Bits
end
section
namespace TL
open PySem PySem.Builtin PySem.Builtin.Str PySem.StrLaws
end TL
end
namespace L2
open PySem PySem.Spec PyProof.Rows
section
variable {X:Cx} {pins:List (Addr × Obj)} {σ : St} {H:Hp} {s:Shared} {Q:VK}
end
section
variable {X:Cx}
end
section
variable {X:Cx} {o e:Expr} {to te:TE}
end
end L2
namespace L2
open PySem PySem.Spec PyProof.Rows
section
variable {X:Cx}
end
end L2
namespace Att
open PySem PySem.W PySem.Calls PyProof.Rows
section
variable {prog:Program} {w:World} {A:Around} {E:Value→Shared→Prop} {s:Shared} {K:Frag}
end
end Att
namespace L2
open PySem PySem.Spec PyProof.Rows
end L2
namespace L2
open PySem PySem.Spec PyProof.Rows
end L2
namespace L2
open PySem PySem.Spec PyProof.Rows
def inClass (s:Stmt) (j:Nat):Stmt:=match s with
  | .ClassDef _ _ _ body _ _ _ _ _ _ _=>body.getD j (.Pass ⟨0,0,0,0⟩)
  | _=>.Pass ⟨0,0,0,0⟩
def defArgs (s:Stmt):Arguments:=match s with
  | .FunctionDef _ a _ _ _ _ _ _ _ _=>a
  | _=>{ posonlyargs:=[],args:=[],vararg:=none,kwonlyargs:=[],kw_defaults:=[],kwarg:=none,defaults:=[] }
def defBody (s:Stmt):List Stmt:=match s with
  | .FunctionDef _ _ b _ _ _ _ _ _ _=>b
  | _=>[]
def defScope (s:Stmt):Scope:=match s with
  | .FunctionDef _ _ _ _ _ _ sc _ _ _=>sc
  | _=>{ kind:=.function,names:=[],isGenerator:=false,isCoroutine:=false }
abbrev CX0:CXT:=fun _ _ _ _ _ _=>False
abbrev E0:XK:=fun _ _ _=>False
theorem pass0 {X:Cx}:Passes CX0 X E0:=fun _ _ _ _ _ _ _ h=>h.elim
structure Fun (K:PySem.W.Frag) (x qual:Str) (st:Stmt) (f:Addr) (fd:FuncData):Prop where
  ex:∃ (oc:Value) (od:Option Addr) (kV doc pm:Value) (an:Option Addr) (cdv ct:Value) (osl:Array (Option Value)),
    fd=PySem.W.fnOf x qual (defArgs st) (defBody st) (defScope st) .none kV doc pm an cdv ct∧K.lookup f=some ⟨oc,od,.func fd,osl⟩∧PySem.W.codeIn K cdv qual=true
  kp:PySem.W.keepIn K (.ref f)=true
section
variable {P:Program} {w:World} {K:PySem.W.Frag} {mg:Str→Option Value} {base:Heap}
theorem Fun.ok {x qual : Str} {st : Stmt} {f : Addr} {fd : FuncData} {N ps : List Str} {k : Nat} {sp : Sp} (F : Fun K x qual st f fd) (S : FnScope N ps (defScope st)) (len : ∀ vs H Q E, sp vs H Q E → vs.length = ps.length)
    (hbody:∀ (cdv:Value) (A:Around) (outer:List Env) (s:Shared) (H:Hp) (vs:List V) (Q:VK) (E:XK),Room k (A.deeper (envOfC qual (defScope st) s.heap.objs.size f cdv))→sp vs H Q E →
      ∃ t,PSs (cxOf CX0 P w K mg base N qual (defScope st) f cdv A outer s H E).nox (defBody st) t∧t { nx:=fun _ H'=>Q .non H',rt:=Q } (start N vs) H):FnOk P w K mg base CX0 (k + 1) f fd ps sp:=by
  obtain ⟨oc,od,kV,doc,pm,an,cdv,ct,osl,rfl,lk,hcd⟩:=F.ex
  refine fn_of lk hcd S len fun A outer s H vs Q E hr hsp=>?_
  obtain ⟨t,h,q⟩:=hbody cdv A outer s H vs Q E hr hsp
  exact ⟨t,h.nox,q⟩
theorem Fun.binds {x qual : Str} {st : Stmt} {f : Addr} {fd : FuncData} {ps : List Str} (F : Fun K x qual st f fd)
    (h:∀ (kV doc pm:Value) (an:Option Addr) (cdv ct:Value) (us:List Value),us.length=ps.length→bindArgs (PySem.W.fnOf x qual (defArgs st) (defBody st) (defScope st) .none kV doc pm an cdv ct) ⟨us,[]⟩=pure (ps.zip us)):Binds K fd ps []:=by
  obtain ⟨oc,od,kV,doc,pm,an,cdv,ct,osl,rfl,lk,hcd⟩:=F.ex
  exact .all (h kV doc pm an cdv ct)
theorem fun_mk {x qual : Str} {st : Stmt} {f : Addr} {oc : Value} {od an : Option Addr} {osl : Array (Option Value)} {kV doc pm cdv ct : Value} (l : K.lookup f = some ⟨oc, od, .func (PySem.W.fnOf x qual (defArgs st) (defBody st) (defScope st) .none kV doc pm an cdv ct), osl⟩)
    (c:PySem.W.codeIn K cdv qual=true) (k:PySem.W.keepIn K (.ref f)=true):Fun K x qual st f (PySem.W.fnOf x qual (defArgs st) (defBody st) (defScope st) .none kV doc pm an cdv ct):=⟨⟨oc,od,kV,doc,pm,an,cdv,ct,osl,rfl,l,c⟩,k⟩
end
theorem hu_of {A:Around} {k:Nat} (hr:Room k A):A.units + 1 < cLine:=Nat.lt_of_le_of_lt (Nat.add_le_add_left (by decide:1≤64) _) hr.units
section
variable {X:Cx}
theorem pv (i : Nat) {x : Str} {pos : Pos} (hN : X.N[i]? = some x := by rfl) (hv : Vis X.env.scope x := by first | exact Or.inl rfl | exact Or.inr (Or.inl rfl) | exact Or.inr (Or.inr rfl)) (hd : (x == ("__debug__" : Str)) = false := by decide)
    (hcd:(x == ("__classdict__" : Str))=false:=by decide):PE X (.Name x pos) (tVar i):=pe_var hN hv hd hcd
end
theorem iteF {A B:Prop} (h:B):if false=true then A else B:=by
  rw [if_neg Bool.false_ne_true]
  exact h
theorem iteT {A B:Prop} (h:A):if true=true then A else B:=by
  rw [if_pos rfl]
  exact h
theorem ite2 {c A B:Prop} [Decidable c] (h1:c→A) (h2 : ¬ c→B):if c then A else B:=by
  by_cases h:c
  · rw [if_pos h]
    exact h1 h
  · rw [if_neg h]
    exact h2 h
section
variable {κ : Type} [DecidableEq κ]
theorem valV_not {kvs:List (κ × V)} {k : κ} (h:valV kvs k=none) : ¬ k ∈ kvs.map (·.1):=by
  intro m
  obtain ⟨p,hp,e⟩:=List.mem_map.mp m
  have q:(kvs.any fun kv=>decide (kv.1=k))=true:=List.any_eq_true.mpr ⟨p,hp,decide_eq_true e⟩
  rw [valV_any,h] at q
  exact absurd q (by simp)
theorem valV_in {kvs:List (κ × V)} {k : κ} {v:V} (h:valV kvs k=some v):k ∈ kvs.map (·.1):=by
  have q:(kvs.any fun kv=>decide (kv.1=k))=true:=by
    rw [valV_any,h]
    all_goals rfl
  obtain ⟨p,hp,e⟩:=List.any_eq_true.mp q
  exact List.mem_map.mpr ⟨p,hp,of_decide_eq_true e⟩
theorem nd_snoc:∀ {l:List κ} {k : κ},l.Nodup→¬ k ∈ l→(l++[k]).Nodup
  | [],k,_,_=>by simp
  | a :: r,k,h,hk=>by
    obtain ⟨h1,h2⟩:=List.nodup_cons.mp h
    show (a :: (r++[k])).Nodup
    refine List.nodup_cons.mpr ⟨fun m=>?_,nd_snoc h2 fun m=>hk (List.mem_cons.mpr (Or.inr m))⟩
    rcases List.mem_append.mp m with q | q
    · exact h1 q
    · exact hk (List.mem_cons.mpr (Or.inl (List.mem_singleton.mp q).symm))
theorem nd_putK {kvs:List (κ × V)} {k : κ} (v:V) (hn:(kvs.map (·.1)).Nodup) (h:valV kvs k=none):((putK kvs k v).map (·.1)).Nodup:=by
  rw [putK_new v h,List.map_append]
  exact nd_snoc hn (valV_not h)
end
theorem at_of {xs:List V} {z:Int} {j:Nat} {v:V} (e:z=(j:Int)) (h:xs[j]? = some v):atI xs z=some v:=by
  rw [e]
  exact atI_nat h
theorem nd_ix {α : Type} {l:List α} (hN:l.Nodup) {i j:Nat} {x : α} (a:l[i]? = some x) (b:l[j]? = some x):i=j:=by
  obtain ⟨h1,e1⟩:=List.getElem?_eq_some_iff.mp a
  obtain ⟨h2,e2⟩:=List.getElem?_eq_some_iff.mp b
  exact (List.getElem_inj hN).mp (e1.trans e2.symm)
end L2
section
namespace L2
open PySem PySem.Spec PyProof.Rows
open PySem.W (WData Codec OpenSpec Well WellAll ReadsW ReadsAllW)
mutual
inductive Dw (K:PySem.W.Frag) (H:Hp):V→WData→Prop
  | non:Dw K H .non .none
  | bl (b:Bool):Dw K H (.bl b) (.bool b)
  | int (i:Int):Dw K H (.int i) (.int i)
  | str (x:Str):Dw K H (.str x) (.str x)
  | byt (b:Array UInt8):Dw K H (.byt b) (.bytes b.toList)
  | lst {a:Addr} {xs:List V} {ds:List WData}:SqL K H a xs→DwAll K H xs ds→Dw K H (.ref a) (.list ds)
  | tup {a:Addr} {xs:List V} {ds:List WData}:SqT K H a xs→DwAll K H xs ds→Dw K H (.ref a) (.tuple ds)
inductive DwAll (K:PySem.W.Frag) (H:Hp):List V→List WData→Prop
  | nil:DwAll K H [] []
  | cons {v:V} {vs:List V} {d:WData} {ds:List WData}:Dw K H v d→DwAll K H vs ds→DwAll K H (v :: vs) (d :: ds)
end
theorem dw_ints {K:PySem.W.Frag} {H:Hp}:∀ ns:List Int,DwAll K H (ns.map V.int) (ns.map WData.int)
  | []=>.nil
  | n :: r=>.cons (.int n) (dw_ints r)
theorem ints_dw {K:PySem.W.Frag} {H:Hp}:∀ (ns:List Int) (xs:List V),DwAll K H xs (ns.map WData.int)→xs=ns.map V.int
  | [],xs,h=>by
    cases h
    rfl
  | n :: r,xs,h=>by
    cases h with
    | cons h1 h2 =>
      cases h1
      rw [ints_dw r _ h2] <;> rfl
section
variable {P:Program} {w:World} {K:PySem.W.Frag} {H:Hp} {h:Heap} {R:PySem.W.WRecords} {cl:Str→Option Addr}
theorem sqL_at {a:Addr} {xs:List V} (hok:HOk P w H h) (KX:K.In h) (q:SqL K H a xs):∃ (its:List Value) (o:Obj) (n:Nat),Vals xs its∧h.get? a=some o∧o.cls = .type "list" ∧ o.data = .seq its.toArray n:=by
  rcases q with q | ⟨o,its,n,e,hc,_,hd,_,hv⟩
  · obtain ⟨_,its,n,hv,e⟩:=(show ObjOk P w H h a (.lst xs) from q.ok hok)
    exact ⟨its,_,n,hv,e,rfl,rfl⟩
  · exact ⟨its.toList,o,n,hv,KX _ _ e,hc,by simp [hd]⟩
theorem sqT_at {a:Addr} {xs:List V} (hok:HOk P w H h) (KX:K.In h) (q:SqT K H a xs):∃ (its:List Value) (o:Obj) (n:Nat),Vals xs its∧h.get? a=some o∧o.cls = .type "tuple" ∧ o.data = .seq its.toArray n:=by
  rcases q with q | ⟨o,its,n,e,hc,hd,_,hv⟩
  · obtain ⟨_,its,hv,o,e,hc,n,hd⟩:=(show ObjOk P w H h a (.tup xs) from q.ok hok)
    exact ⟨its,o,n,hv,e,hc,hd⟩
  · exact ⟨its.toList,o,n,hv,KX _ _ e,hc,by simp [hd]⟩
mutual
theorem Dw.reads (hok:HOk P w H h) (KX:K.In h):∀ (d:WData) (v:V) (u:Value),Dw K H v d→RelV v u→∃ as,ReadsW R cl h u d as
  | .none,_,_,x,r=>by
    cases x
    cases r
    exact ⟨_,ReadsW.none⟩
  | .bool b,_,_,x,r=>by
    cases x
    cases r
    exact ⟨_,ReadsW.bool b⟩
  | .int i,_,_,x,r=>by
    cases x
    obtain ⟨t,rfl⟩:=r
    exact ⟨_,ReadsW.int i t⟩
  | .str s,_,_,x,r=>by
    cases x
    obtain ⟨t,rfl⟩:=r
    exact ⟨_,ReadsW.str s t⟩
  | .bytes b,_,_,x,r=>by
    cases x
    obtain ⟨t,rfl⟩:=r
    exact ⟨_,ReadsW.bytes _ t⟩
  | .list ds,_,_,x,r=>by
    cases x with
    | lst hs ha =>
      cases r
      obtain ⟨its,o,n,rv,ho,hc,hd⟩:=sqL_at hok KX hs
      obtain ⟨as,hr⟩:=Dw.readsAll hok KX ds _ its ha rv
      exact ⟨_,ReadsW.list ho hc hd hr⟩
  | .tuple ds,_,_,x,r=>by
    cases x with
    | tup hs ha =>
      cases r
      obtain ⟨its,o,n,rv,ho,hc,hd⟩:=sqT_at hok KX hs
      obtain ⟨as,hr⟩:=Dw.readsAll hok KX ds _ its ha rv
      exact ⟨_,ReadsW.tuple ho hc hd hr⟩
  | .float _,_,_,x,_=>by cases x
  | .dict _,_,_,x,_=>by cases x
  | .bytearray _,_,_,x,_=>by cases x
  | .set _,_,_,x,_=>by cases x
  | .frozenset _,_,_,x,_=>by cases x
  | .obj _ _,_,_,x,_=>by cases x
theorem Dw.readsAll (hok:HOk P w H h) (KX:K.In h):∀ (ds:List WData) (vs:List V) (us:List Value),DwAll K H vs ds→Vals vs us→∃ as,ReadsAllW R cl h us ds as
  | [],_,_,x,r=>by
    cases x
    cases r
    exact ⟨_,ReadsAllW.nil⟩
  | d :: ds,_,_,x,r=>by
    cases x with
    | cons h1 h2 =>
      cases r with
      | cons r1 r2 =>
        obtain ⟨as,q1⟩:=Dw.reads hok KX d _ _ h1 r1
        obtain ⟨bs,q2⟩:=Dw.readsAll hok KX ds _ _ h2 r2
        exact ⟨_,ReadsAllW.cons q1 q2⟩
end
end
mutual
def plW:WData→Bool
  | .none=>true
  | .bool _=>true
  | .int _=>true
  | .str _=>true
  | .bytes _=>true
  | .list xs=>plWs xs
  | .tuple xs=>plWs xs
  | _=>false
def plWs:List WData→Bool
  | []=>true
  | x :: r=>plW x&&plWs r
end
theorem plWs_map {α : Type} {f : α→WData} (h:∀ a,plW (f a)=true):∀ l:List α,plWs (l.map f)=true
  | []=>rfl
  | x :: r=>by
    show (plW (f x)&&plWs (r.map f))=true
    rw [h x,plWs_map h r] <;> rfl
theorem pl_enc:∀ (c:Codec) (a:c.denote),plW (c.enc a)=true
  | .unit,_=>rfl
  | .bool,_=>rfl
  | .int _ _,_=>rfl
  | .nat _ _,_=>rfl
  | .u8,_=>rfl
  | .bytes _ _,_=>rfl
  | .text _ _ _ _,_=>rfl
  | .list _ _ c,a=>plWs_map (fun x=>pl_enc c x) a
  | .pair c d,a=>by
    show (plW (c.enc a.1)&&(plW (d.enc a.2)&&true))=true
    rw [pl_enc c a.1,pl_enc d a.2] <;> rfl
  | .triple c d e,a=>by
    show (plW (c.enc a.1)&&(plW (d.enc a.2.1)&&(plW (e.enc a.2.2)&&true)))=true
    rw [pl_enc c a.1,pl_enc d a.2.1,pl_enc e a.2.2] <;> rfl
  | .option c,none=>rfl
  | .option c,some x=>pl_enc c x
theorem pl_encAll:∀ (cs:List Codec) (a:Codec.denoteAll cs),plWs (Codec.encAll cs a)=true
  | [],_=>rfl
  | c :: cs,a=>by
    show (plW (c.enc a.1)&&plWs (Codec.encAll cs a.2))=true
    rw [pl_enc c a.1,pl_encAll cs a.2] <;> rfl
theorem weight_mem:∀ {xs:List WData} {d:WData},d ∈ xs→d.weight≤WData.weightAll xs
  | [],d,h=>absurd h (by simp)
  | x :: r,d,h=>by
    show d.weight≤x.weight + 1 + WData.weightAll r
    rcases List.mem_cons.mp h with e | m
    · rw [e]
      omega
    · have z:=weight_mem m
      omega
def toV:Value→V
  | .none=>.non
  | .bool b=>.bl b
  | .int i _=>.int i
  | .str x _=>.str x
  | .bytes b _=>.byt b
  | .ref a=>.ref a
  | _=>.non
def OkU (A:List Addr):Value→Prop
  | .none=>True
  | .bool _=>True
  | .int _ _=>True
  | .str _ _=>True
  | .bytes _ _=>True
  | .ref a=>a ∈ A
  | _=>False
theorem OkU.mono {A B:List Addr} (h:∀ a ∈ A,a ∈ B):∀ {u:Value},OkU A u→OkU B u:=fun {u} x=>by
  cases u with
  | ref a=>exact h a x
  | none=>trivial
  | bool b=>trivial
  | int i t=>trivial
  | str s t=>trivial
  | bytes b t=>trivial
  | _=>exact False.elim x
theorem relV_toV {A:List Addr} {u:Value} (x:OkU A u):RelV (toV u) u:=by
  cases u with
  | ref a=>rfl
  | none=>rfl
  | bool b=>rfl
  | int i t=>exact ⟨t,rfl⟩
  | str s t=>exact ⟨t,rfl⟩
  | bytes b t=>exact ⟨t,rfl⟩
  | _=>exact False.elim x
theorem vals_toV {A:List Addr}:∀ {vs:List Value},(∀ u ∈ vs,OkU A u)→Vals (vs.map toV) vs
  | [],_=>.nil
  | u :: r,h=>.cons (relV_toV (h u (List.mem_cons_self ..))) (vals_toV fun x hx=>h x (List.mem_cons_of_mem _ hx))
def ArgOb (h:Heap) (A:List Addr) (a:Addr):Prop:=∃ vs:List Value,vs.length≤sizeLine∧(∀ u ∈ vs,OkU A u) ∧
  (h.get? a=some { cls:=.type "list",data:=.seq vs.toArray }∨h.get? a=some { cls:=.type "tuple",data:=.seq vs.toArray })
theorem ArgOb.mono {h:Heap} {A B:List Addr} {a:Addr} (k:∀ a ∈ A,a ∈ B) (x:ArgOb h A a):ArgOb h B a:=by
  obtain ⟨vs,h1,h2,h3⟩:=x
  exact ⟨vs,h1,fun u hu=>(h2 u hu).mono k,h3⟩
theorem wellAll_len {P:Params} {h:Heap}:∀ {vs:List Value} {ds:List WData},WellAll P h vs ds→vs.length=ds.length
  | _,_,.nil=>rfl
  | _,_,.cons _ b=>by
    show _ + 1=_ + 1
    rw [wellAll_len b]
theorem well_list {P:Params} {h:Heap} {v:Value} {ds:List WData} (x:Well P h v (.list ds)):∃ (a:Addr) (vs:List Value),v = .ref a∧h.get? a=some { cls:=.type "list",data:=.seq vs.toArray }∧WellAll P h vs ds:=by
  cases x with
  | list ho hall=>exact ⟨_,_,rfl,ho,hall⟩
theorem well_tuple {P:Params} {h:Heap} {v:Value} {ds:List WData} (x:Well P h v (.tuple ds)):∃ (a:Addr) (vs:List Value),v = .ref a∧h.get? a=some { cls:=.type "tuple",data:=.seq vs.toArray }∧WellAll P h vs ds:=by
  cases x with
  | tuple ho hall=>exact ⟨_,_,rfl,ho,hall⟩
theorem well_cons {P:Params} {h:Heap} {us:List Value} {d:WData} {ds:List WData} (x:WellAll P h us (d :: ds)):∃ (v:Value) (vs:List Value),us=v :: vs∧Well P h v d∧WellAll P h vs ds:=by
  cases x with
  | cons a b=>exact ⟨_,_,rfl,a,b⟩
theorem line_of {n:Nat} (h:n≤1048576):n≤sizeLine:=Nat.le_trans h (by decide)
section
variable {P:Params} {h:Heap}
mutual
theorem area_one:∀ (d:WData) (v:Value),Well P h v d→plW d=true→d.weight≤1048576→∃ A:List Addr,OkU A v∧∀ a ∈ A,ArgOb h A a
  | .none,_,x,_,_=>by
    cases x
    exact ⟨[],trivial,fun a m=>absurd m (by simp)⟩
  | .bool b,_,x,_,_=>by
    cases x
    exact ⟨[],trivial,fun a m=>absurd m (by simp)⟩
  | .int i,_,x,_,_=>by
    cases x
    exact ⟨[],trivial,fun a m=>absurd m (by simp)⟩
  | .str s,_,x,_,_=>by
    cases x
    exact ⟨[],trivial,fun a m=>absurd m (by simp)⟩
  | .bytes b,_,x,_,_=>by
    cases x
    exact ⟨[],trivial,fun a m=>absurd m (by simp)⟩
  | .list ds,_,x,p,z=>by
    obtain ⟨a,vs,rfl,ho,hall⟩:=well_list x
    have z2:WData.weightAll ds≤1048576:=z
    obtain ⟨A,h1,h2⟩:=area_all ds _ hall p fun d hd=>Nat.le_trans (weight_mem hd) z2
    have k:∀ b ∈ A,b ∈ a :: A:=fun b hb=>List.mem_cons_of_mem _ hb
    refine ⟨a :: A,List.mem_cons_self ..,fun b hb=>?_⟩
    rcases List.mem_cons.mp hb with e | m
    · rw [e]
      exact ⟨vs,line_of (by rw [wellAll_len hall];exact Nat.le_trans (PySem.W.length_le_weightAllW ds) z2),fun u hu=>(h1 u hu).mono k,.inl ho⟩
    · exact (h2 b m).mono k
  | .tuple ds,_,x,p,z=>by
    obtain ⟨a,vs,rfl,ho,hall⟩:=well_tuple x
    have z2:WData.weightAll ds≤1048576:=z
    obtain ⟨A,h1,h2⟩:=area_all ds _ hall p fun d hd=>Nat.le_trans (weight_mem hd) z2
    have k:∀ b ∈ A,b ∈ a :: A:=fun b hb=>List.mem_cons_of_mem _ hb
    refine ⟨a :: A,List.mem_cons_self ..,fun b hb=>?_⟩
    rcases List.mem_cons.mp hb with e | m
    · rw [e]
      exact ⟨vs,line_of (by rw [wellAll_len hall];exact Nat.le_trans (PySem.W.length_le_weightAllW ds) z2),fun u hu=>(h1 u hu).mono k,.inr ho⟩
    · exact (h2 b m).mono k
  | .float _,_,_,p,_=>Bool.noConfusion (show false=true from p)
  | .dict _,_,_,p,_=>Bool.noConfusion (show false=true from p)
  | .bytearray _,_,_,p,_=>Bool.noConfusion (show false=true from p)
  | .set _,_,_,p,_=>Bool.noConfusion (show false=true from p)
  | .frozenset _,_,_,p,_=>Bool.noConfusion (show false=true from p)
  | .obj _ _,_,_,p,_=>Bool.noConfusion (show false=true from p)
theorem area_all:∀ (ds:List WData) (vs:List Value),WellAll P h vs ds→plWs ds=true→(∀ d ∈ ds,d.weight≤1048576)→∃ A:List Addr,(∀ u ∈ vs,OkU A u)∧∀ a ∈ A,ArgOb h A a
  | [],_,x,_,_=>by
    cases x
    exact ⟨[],fun u m=>absurd m (by simp),fun a m=>absurd m (by simp)⟩
  | d :: ds,_,x,p,z=>by
    obtain ⟨v,vs,rfl,x1,x2⟩:=well_cons x
    have q:plW d=true∧plWs ds=true:=Bool.and_eq_true_iff.mp p
    obtain ⟨A,a1,a2⟩:=area_one d v x1 q.1 (z d (List.mem_cons_self ..))
    obtain ⟨B,b1,b2⟩:=area_all ds vs x2 q.2 fun e he=>z e (List.mem_cons_of_mem _ he)
    have kA:∀ b ∈ A,b ∈ A++B:=fun b hb=>List.mem_append.mpr (.inl hb)
    have kB:∀ b ∈ B,b ∈ A++B:=fun b hb=>List.mem_append.mpr (.inr hb)
    refine ⟨A++B,fun u hu=>?_,fun b hb=>?_⟩
    · rcases List.mem_cons.mp hu with e | m
      · rw [e]
        exact a1.mono kA
      · exact (b1 u m).mono kB
    · rcases List.mem_append.mp hb with m | m
      · exact (a2 b m).mono kA
      · exact (b2 b m).mono kB
end
end
def hoOf (o:Obj):Option HO:=match o.data with
  | .seq vs _=>if (o.cls == Value.type "list")=true then some (.frz o (.lst (vs.toList.map toV))) else some (.frz o (.tup (vs.toList.map toV)))
  | _=>none
def argH (K:PySem.W.Frag) (h:Heap) (A:List Addr):Hp:=fun b=>if b ∈ A then (if (K.lookup b).isNone=true then (h.get? b).bind hoOf else none) else none
theorem hoOf_lst (vs:List Value):hoOf { cls:=.type "list",data:=.seq vs.toArray }=some (.frz { cls:=.type "list",data:=.seq vs.toArray } (.lst (vs.map toV))):=by
  show (if (Value.type "list" == Value.type "list")=true then some (HO.frz { cls:=.type "list",data:=.seq vs.toArray } (.lst (vs.toArray.toList.map toV))) else some (HO.frz { cls:=.type "list",data:=.seq vs.toArray } (.tup (vs.toArray.toList.map toV))))=_
  rw [if_pos (beq_self_eq_true _)]
theorem hoOf_tup (vs:List Value):hoOf { cls:=.type "tuple",data:=.seq vs.toArray }=some (.frz { cls:=.type "tuple",data:=.seq vs.toArray } (.tup (vs.map toV))):=by
  show (if (Value.type "tuple" == Value.type "list")=true then some (HO.frz { cls:=.type "tuple",data:=.seq vs.toArray } (.lst (vs.toArray.toList.map toV))) else some (HO.frz { cls:=.type "tuple",data:=.seq vs.toArray } (.tup (vs.toArray.toList.map toV))))=_
  rw [if_neg (by decide)]
section
variable {P:Program} {w:World} {K:PySem.W.Frag} {h:Heap} {A:List Addr}
theorem argH_at {b:Addr} {o:Obj} (hb:b ∈ A) (hk:K.lookup b=none) (e:h.get? b=some o):argH K h A b=hoOf o:=by
  unfold argH
  rw [if_pos hb,hk,if_pos (show (none:Option Obj).isNone=true from rfl),e] <;> rfl
theorem of_argH {b:Addr} {u:HO} (q:argH K h A b=some u):b ∈ A∧K.lookup b=none:=by
  unfold argH at q
  by_cases hb:b ∈ A
  · rw [if_pos hb] at q
    cases hk:K.lookup b with
    | none=>exact ⟨hb,rfl⟩
    | some o =>
      rw [hk,if_neg (by simp)] at q
      cases q
  · rw [if_neg hb] at q
    cases q
theorem argH_is (ar : ∀ a ∈ A, ArgOb h A a) {b : Addr} {u : HO} (q : argH K h A b = some u) : K.lookup b = none ∧ ∃ vs : List Value, vs.length ≤ sizeLine ∧ (∀ u ∈ vs, OkU A u) ∧
    ((h.get? b=some { cls:=.type "list",data:=.seq vs.toArray }∧u = .frz { cls:=.type "list",data:=.seq vs.toArray } (.lst (vs.map toV))) ∨
     (h.get? b=some { cls:=.type "tuple",data:=.seq vs.toArray }∧u = .frz { cls:=.type "tuple",data:=.seq vs.toArray } (.tup (vs.map toV)))):=by
  obtain ⟨hb,hk⟩:=of_argH q
  obtain ⟨vs,h1,h2,h3⟩:=ar b hb
  refine ⟨hk,vs,h1,h2,?_⟩
  rcases h3 with e | e
  · rw [argH_at hb hk e,hoOf_lst] at q
    exact .inl ⟨e,(Option.some.inj q).symm⟩
  · rw [argH_at hb hk e,hoOf_tup] at q
    exact .inr ⟨e,(Option.some.inj q).symm⟩
theorem seq_inj {c c':Value} {vs us:List Value} (e:(some { cls:=c,data:=.seq vs.toArray }:Option Obj)=some { cls:=c',data:=.seq us.toArray }):c=c'∧vs=us:=by
  have e1:=Option.some.inj e
  have e2:c=c':=congrArg Obj.cls e1
  have e3:Data.seq vs.toArray=Data.seq us.toArray:=congrArg Obj.data e1
  injection e3 with e4
  refine ⟨e2,?_⟩
  have e5:=congrArg Array.toList e4
  simpa using e5
theorem argL (KX:K.In h) (ar:∀ a ∈ A,ArgOb h A a) {a:Addr} {vs:List Value} (ha:a ∈ A) (e:h.get? a=some { cls:=.type "list",data:=.seq vs.toArray }):(∀ u ∈ vs,OkU A u)∧SqL K (argH K h A) a (vs.map toV):=by
  obtain ⟨us,h1,h2,h3⟩:=ar a ha
  have hu:us=vs:=by
    rcases h3 with q | q
    · rw [e] at q
      exact (seq_inj q).2.symm
    · rw [e] at q
      exact absurd (Value.type.inj (seq_inj q).1) (by decide)
  subst hu
  refine ⟨h2,?_⟩
  cases hk:K.lookup a with
  | none=>exact .inl (.inr ⟨_,by rw [argH_at ha hk e,hoOf_lst]⟩)
  | some o =>
    have e2:=KX a o hk
    rw [e] at e2
    obtain rfl:=Option.some.inj e2
    exact .inr ⟨_,us.toArray,_,hk,rfl,rfl,rfl,by rw [List.size_toArray];exact h1,by simpa using vals_toV h2⟩
theorem argT (KX:K.In h) (ar:∀ a ∈ A,ArgOb h A a) {a:Addr} {vs:List Value} (ha:a ∈ A) (e:h.get? a=some { cls:=.type "tuple",data:=.seq vs.toArray }):(∀ u ∈ vs,OkU A u)∧SqT K (argH K h A) a (vs.map toV):=by
  obtain ⟨us,h1,h2,h3⟩:=ar a ha
  have hu:us=vs:=by
    rcases h3 with q | q
    · rw [e] at q
      exact absurd (Value.type.inj (seq_inj q).1) (by decide)
    · rw [e] at q
      exact (seq_inj q).2.symm
  subst hu
  refine ⟨h2,?_⟩
  cases hk:K.lookup a with
  | none=>exact .inl (.inr ⟨_,by rw [argH_at ha hk e,hoOf_tup]⟩)
  | some o =>
    have e2:=KX a o hk
    rw [e] at e2
    obtain rfl:=Option.some.inj e2
    exact .inr ⟨_,us.toArray,_,hk,rfl,rfl,by rw [List.size_toArray];exact h1,by simpa using vals_toV h2⟩
mutual
theorem dw_one {Pm:Params} (KX:K.In h) (ar:∀ a ∈ A,ArgOb h A a):∀ (d:WData) (v:Value),Well Pm h v d→plW d=true→OkU A v→Dw K (argH K h A) (toV v) d
  | .none,_,x,_,_=>by
    cases x
    exact .non
  | .bool b,_,x,_,_=>by
    cases x
    exact .bl b
  | .int i,_,x,_,_=>by
    cases x
    exact .int i
  | .str s,_,x,_,_=>by
    cases x
    exact .str s
  | .bytes b,_,x,_,_=>by
    cases x
    have z:=Dw.byt (K:=K) (H:=argH K h A) b.toArray
    exact z
  | .list ds,_,x,p,hu=>by
    obtain ⟨a,vs,rfl,ho,hall⟩:=well_list x
    obtain ⟨h2,hs⟩:=argL KX ar hu ho
    exact .lst hs (dw_all KX ar ds _ hall p h2)
  | .tuple ds,_,x,p,hu=>by
    obtain ⟨a,vs,rfl,ho,hall⟩:=well_tuple x
    obtain ⟨h2,hs⟩:=argT KX ar hu ho
    exact .tup hs (dw_all KX ar ds _ hall p h2)
  | .float _,_,_,p,_=>Bool.noConfusion (show false=true from p)
  | .dict _,_,_,p,_=>Bool.noConfusion (show false=true from p)
  | .bytearray _,_,_,p,_=>Bool.noConfusion (show false=true from p)
  | .set _,_,_,p,_=>Bool.noConfusion (show false=true from p)
  | .frozenset _,_,_,p,_=>Bool.noConfusion (show false=true from p)
  | .obj _ _,_,_,p,_=>Bool.noConfusion (show false=true from p)
theorem dw_all {Pm:Params} (KX:K.In h) (ar:∀ a ∈ A,ArgOb h A a):∀ (ds:List WData) (vs:List Value),WellAll Pm h vs ds→plWs ds=true→(∀ u ∈ vs,OkU A u)→DwAll K (argH K h A) (vs.map toV) ds
  | [],_,x,_,_=>by
    cases x
    exact .nil
  | d :: ds,_,x,p,hu=>by
    obtain ⟨v,vs,rfl,x1,x2⟩:=well_cons x
    have q:plW d=true∧plWs ds=true:=Bool.and_eq_true_iff.mp p
    exact .cons (dw_one KX ar d v x1 q.1 (hu _ (List.mem_cons_self ..))) (dw_all KX ar ds vs x2 q.2 fun u m=>hu u (List.mem_cons_of_mem _ m))
end
end
theorem layable_weight {ds:List WData} (h:WData.layableAll ds=true):∀ d ∈ ds,d.weight≤1048576:=fun d hd =>
  (PySem.W.layableW_iff.mp (List.all_eq_true.mp h d hd)).2.2
theorem encAll_len:∀ (cs:List Codec) (a:Codec.denoteAll cs),(Codec.encAll cs a).length=cs.length
  | [],_=>rfl
  | c :: cs,a=>by
    show (Codec.encAll cs a.2).length + 1=cs.length + 1
    rw [encAll_len cs a.2]
end L2
end
namespace TB
open PySem PySem.Spec PyProof.Rows L2
theorem Zf {K:PySem.W.Frag} {f:Str} {a C dx:Addr} {fs:List (Str × V)} {v:V} {H:Hp} {Q:V→Prop} (e:H a=some (.ins C dx fs)) (c:Cls K C) (n:NoAttr K C f) (l:fs.lookup f=some v) (k:Q v):∃ a' C' dx' fs' v',V.ref a = .ref a'∧H a'=some (.ins C' dx' fs')∧Cls K C'∧NoAttr K C' f∧fs'.lookup f=some v'∧Q v':=⟨_,_,_,_,_,rfl,e,c,n,l,k⟩
theorem Zm {C a dx:Addr} {m:Str} {fs:List (Str × V)} {H:Hp} {Q:Addr→Prop} (e:H a=some (.ins C dx fs)) (l:fs.lookup m=none) (k:Q a):∃ a' dx' fs',V.ref a = .ref a'∧H a'=some (.ins C dx' fs')∧fs'.lookup m=none∧Q a':=⟨_,_,_,rfl,e,l,k⟩
theorem Ze {A:Type} {p q:A→Prop} {v:A} (h:p v) (k:q v):∃ v,p v∧q v:=⟨v,h,k⟩
theorem Zo {A B:Type} {p q r:A→B→Prop} {i:A} {j:B} (h:p i j) (g:q i j) (k:r i j):∃ i j,p i j∧q i j∧r i j:=⟨i,j,h,g,k⟩
end TB
namespace TB
open Vbfuao
abbrev Grp:=List Nat × List Nat
theorem mem_choices:∀ (n:Nat) (l a:List Nat),a ∈ choices n l↔a.Sublist l∧a.length≤n
  | n,[],a=>by
    have e:choices n []=[[]]:=by cases n <;> rfl
    rw [e,List.mem_singleton]
    constructor
    · rintro rfl
      exact ⟨List.Sublist.refl _,Nat.zero_le _⟩
    · rintro ⟨h,_⟩
      exact List.sublist_nil.mp h
  | 0,i :: r,a=>by
    show a ∈ ([[]]:List (List Nat))↔_
    rw [List.mem_singleton]
    constructor
    · rintro rfl
      exact ⟨List.nil_sublist _,Nat.le_refl _⟩
    · rintro ⟨_,h⟩
      exact List.length_eq_zero_iff.mp (Nat.le_zero.mp h)
  | n + 1,i :: r,a=>by
    show a ∈ choices (n + 1) r++(choices n r).map (fun l=>i :: l)↔_
    rw [List.mem_append,List.mem_map,mem_choices (n + 1) r a]
    constructor
    · rintro (⟨h1,h2⟩ | ⟨b,hb,rfl⟩)
      · exact ⟨h1.cons _,h2⟩
      · rw [mem_choices n r b] at hb
        exact ⟨hb.1.cons_cons _,Nat.succ_le_succ hb.2⟩
    · rintro ⟨h1,h2⟩
      cases h1 with
      | cons _ h=>exact .inl ⟨h,h2⟩
      | cons_cons _ h =>
        rename_i b
        exact .inr ⟨b,(mem_choices n r b).mpr ⟨h,Nat.le_of_succ_le_succ h2⟩,rfl⟩
theorem mem_minus {l m:List Nat} {i:Nat}:i ∈ minus l m↔i ∈ l∧i ∉ m:=by
  unfold minus
  rw [List.mem_filter]
  simp
theorem minus_sub (l m:List Nat):(minus l m).Sublist l:=List.filter_sublist
theorem minus_len:∀ {l m:List Nat},l.Nodup→m.Sublist l→(minus l m).length + m.length=l.length
  | [],m,_,h=>by
    have:=List.sublist_nil.mp h
    subst this
    rfl
  | i :: l,m,hn,h=>by
    rw [List.nodup_cons] at hn
    cases h with
    | cons _ h =>
      have ih:=minus_len hn.2 h
      have hi:i ∉ m:=fun q=>hn.1 (h.subset q)
      have e:minus (i :: l) m=i :: minus l m:=by
        unfold minus
        rw [List.filter_cons,if_pos (by simp [hi])]
      rw [e,List.length_cons,List.length_cons]
      omega
    | cons_cons _ h =>
      rename_i b
      have ih:=minus_len hn.2 h
      have e:minus (i :: l) (i :: b)=minus l b:=by
        unfold minus
        rw [List.filter_cons,if_neg (by simp)]
        refine List.filter_congr fun j hj=>?_
        have:j≠i:=fun q=>hn.1 (q ▸ hj)
        simp [this]
      rw [e,List.length_cons,List.length_cons]
      omega
def mem1 (g:Grp):List Nat:=g.1++g.2
def allm:List Grp→List Nat
  | []=>[]
  | g :: r=>mem1 g++allm r
def gap1 (s:State) (g:Grp):Nat:=(sumOf s g.1 - sumOf s g.2).natAbs
def gapAll (s:State):List Grp→Nat
  | []=>0
  | g :: r=>gapAll s r + gap1 s g
inductive Pl (s:State) (x:Account):List Nat→List Nat→List Grp→Prop
  | nil (r:List Nat):Pl s x [] r []
  | skip {i:Nat} {l r:List Nat} {gs:List Grp}:Pl s x l r gs→Pl s x (i :: l) r gs
  | grp {i:Nat} {l r a b:List Nat} {gs:List Grp}:a.Sublist l→a.length≤x.size - 1→b.Sublist r→b.length≤x.size→fits s x (i :: a) b=true→Pl s x (minus l a) (minus r b) gs→Pl s x (i :: l) r ((i :: a,b) :: gs)
variable {s:State} {x:Account}
theorem Pl.none:∀ (l r:List Nat),Pl s x l r []
  | [],r=>.nil r
  | _ :: l,r=>.skip (Pl.none l r)
theorem Pl.mem {l r:List Nat} {gs:List Grp} (h:Pl s x l r gs):∀ g ∈ gs,(∀ j ∈ g.1,j ∈ l)∧(∀ j ∈ g.2,j ∈ r):=by
  induction h with
  | nil r=>intro g hg;cases hg
  | skip _ ih =>
    intro g hg
    obtain ⟨h1,h2⟩:=ih g hg
    exact ⟨fun j hj=>List.mem_cons_of_mem _ (h1 j hj),h2⟩
  | grp ha _ hb _ _ _ ih =>
    intro g hg
    rcases List.mem_cons.mp hg with rfl | hg
    · refine ⟨fun j hj=>?_,fun j hj=>hb.subset hj⟩
      rcases List.mem_cons.mp hj with rfl | hj
      · exact List.mem_cons_self
      · exact List.mem_cons_of_mem _ (ha.subset hj)
    · obtain ⟨h1,h2⟩:=ih g hg
      exact ⟨fun j hj=>List.mem_cons_of_mem _ (mem_minus.mp (h1 j hj)).1,fun j hj=>(mem_minus.mp (h2 j hj)).1⟩
theorem mem_allm {gs:List Grp} {j:Nat}:j ∈ allm gs↔∃ g ∈ gs,j ∈ g.1∨j ∈ g.2:=by
  induction gs with
  | nil=>simp [allm]
  | cons g r ih =>
    show j ∈ mem1 g++allm r↔_
    rw [List.mem_append,ih]
    unfold mem1
    rw [List.mem_append]
    constructor
    · rintro (h | ⟨g',h1,h2⟩)
      · exact ⟨g,List.mem_cons_self,h⟩
      · exact ⟨g',List.mem_cons_of_mem _ h1,h2⟩
    · rintro ⟨g',h1,h2⟩
      rcases List.mem_cons.mp h1 with rfl | h1
      · exact .inl h2
      · exact .inr ⟨g',h1,h2⟩
theorem Pl.memAll {l r:List Nat} {gs:List Grp} (h:Pl s x l r gs) {j:Nat} (hj:j ∈ allm gs):j ∈ l∨j ∈ r:=by
  obtain ⟨g,hg,hj⟩:=mem_allm.mp hj
  obtain ⟨h1,h2⟩:=h.mem g hg
  rcases hj with hj | hj
  · exact .inl (h1 j hj)
  · exact .inr (h2 j hj)
theorem Pl.len {l r:List Nat} {gs:List Grp} (h:Pl s x l r gs):gs.length≤l.length:=by
  induction h with
  | nil r=>exact Nat.le_refl _
  | skip _ ih=>exact Nat.le_succ_of_le ih
  | grp _ _ _ _ _ _ ih =>
    rw [List.length_cons,List.length_cons]
    exact Nat.succ_le_succ (Nat.le_trans ih (minus_sub _ _).length_le)
theorem len_mem1 (g:Grp) (gs:List Grp):(allm (g :: gs)).length=g.1.length + g.2.length + (allm gs).length:=by
  show ((g.1++g.2)++allm gs).length=_
  rw [List.length_append,List.length_append]
theorem Pl.allm_le {l r:List Nat} {gs:List Grp} (h:Pl s x l r gs) (hl:l.Nodup) (hr:r.Nodup):(allm gs).length≤l.length + r.length:=by
  induction h with
  | nil r=>exact Nat.zero_le _
  | skip _ ih =>
    rw [List.nodup_cons] at hl
    have:=ih hl.2 hr
    rw [List.length_cons]
    omega
  | grp ha _ hb _ _ _ ih =>
    rw [List.nodup_cons] at hl
    have:=ih (hl.2.sublist (minus_sub _ _)) (hr.sublist (minus_sub _ _))
    have hm1:=minus_len hl.2 ha
    have hm2:=minus_len hr hb
    rw [len_mem1,List.length_cons,List.length_cons]
    dsimp only
    omega
theorem mem_plans:∀ (n:Nat) (l r:List Nat),l.length≤n→l.Nodup→r.Nodup→∀ p:Plan,p ∈ plans s x n l r↔Pl s x l r p.groups∧p.left + (allm p.groups).length=l.length + r.length∧p.gap=gapAll s p.groups
  | n,[],r,_,_,_,p=>by
    have e:plans s x n [] r=[{ groups:=[],left:=r.length,gap:=0 }]:=by
      cases n with
      | zero =>
        show [({ groups:=[],left:=([]:List Nat).length + r.length,gap:=0 }:Plan)]=_
        rw [List.length_nil,Nat.zero_add]
      | succ n=>rfl
    rw [e,List.mem_singleton]
    constructor
    · rintro rfl
      exact ⟨.nil r,by simp [allm],rfl⟩
    · rintro ⟨h,h2,h3⟩
      obtain ⟨gs,lf,gp⟩:=p
      dsimp only at h h2 h3
      cases h
      simp [allm,gapAll] at h2 h3
      subst h2 h3
      rfl
  | 0,i :: l,r,h,_,_,_=>by simp at h
  | n + 1,i :: l,r,hl,hn,hr,p=>by
    have hl':l.length≤n:=Nat.le_of_succ_le_succ hl
    rw [List.nodup_cons] at hn
    show p ∈ ((plans s x n l r).map fun p=>({ p with left:=p.left + 1 }:Plan)) ++
      (choices (x.size - 1) l).flatMap (fun a=>(choices x.size r).flatMap fun b =>
        if fits s x (i :: a) b=true then (plans s x n (minus l a) (minus r b)).map (fun p=>({ p with groups:=(i :: a,b) :: p.groups,gap:=p.gap + (sumOf s (i :: a) - sumOf s b).natAbs }:Plan)) else [])↔_
    rw [List.mem_append,List.mem_map,List.mem_flatMap]
    constructor
    · rintro (⟨q,hq,rfl⟩ | ⟨a,ha,hb⟩)
      · rw [mem_plans n l r hl' hn.2 hr] at hq
        refine ⟨.skip hq.1,?_,hq.2.2⟩
        have:=hq.2.1
        show q.left + 1 + (allm q.groups).length=(l.length + 1) + r.length
        omega
      · rw [List.mem_flatMap] at hb
        obtain ⟨b,hb,hp⟩:=hb
        rw [mem_choices] at ha hb
        by_cases hf:fits s x (i :: a) b=true
        · rw [if_pos hf,List.mem_map] at hp
          obtain ⟨q,hq,rfl⟩:=hp
          have hm1:=minus_len hn.2 ha.1
          have hm2:=minus_len hr hb.1
          rw [mem_plans n _ _ (by omega) (hn.2.sublist (minus_sub _ _)) (hr.sublist (minus_sub _ _))] at hq
          refine ⟨.grp ha.1 ha.2 hb.1 hb.2 hf hq.1,?_,?_⟩
          · have:=hq.2.1
            show q.left + (allm ((i :: a,b) :: q.groups)).length=(l.length + 1) + r.length
            rw [len_mem1]
            show q.left + ((a.length + 1) + b.length + (allm q.groups).length)=_
            omega
          · show q.gap + _=gapAll s q.groups + gap1 s (i :: a,b)
            rw [hq.2.2]
            rfl
        · rw [if_neg hf] at hp
          cases hp
    · rintro ⟨h,h2,h3⟩
      obtain ⟨gs,lf,gp⟩:=p
      dsimp only at h h2 h3
      cases h with
      | skip h =>
        refine .inl ?_
        have hle:(allm gs).length≤l.length + r.length:=by
          exact h.allm_le hn.2 hr
        refine ⟨⟨gs,lf - 1,gp⟩,(mem_plans n l r hl' hn.2 hr _).mpr ⟨h,?_,h3⟩,?_⟩
        · show lf - 1 + (allm gs).length=l.length + r.length
          rw [List.length_cons] at h2
          omega
        · rw [List.length_cons] at h2
          have:lf - 1 + 1=lf:=by omega
          show (⟨gs,lf - 1 + 1,gp⟩:Plan)=⟨gs,lf,gp⟩
          rw [this]
      | grp ha ha2 hb hb2 hf hp =>
        rename_i a b gs
        refine .inr ⟨a,(mem_choices _ _ _).mpr ⟨ha,ha2⟩,?_⟩
        rw [List.mem_flatMap]
        refine ⟨b,(mem_choices _ _ _).mpr ⟨hb,hb2⟩,?_⟩
        rw [if_pos hf,List.mem_map]
        have hm1:=minus_len hn.2 ha
        have hm2:=minus_len hr hb
        refine ⟨⟨gs,lf,gapAll s gs⟩,(mem_plans n _ _ (by omega) (hn.2.sublist (minus_sub _ _)) (hr.sublist (minus_sub _ _)) _).mpr ⟨hp,?_,rfl⟩,?_⟩
        · show lf + (allm gs).length=_
          rw [len_mem1] at h2
          have h2':lf + ((a.length + 1) + b.length + (allm gs).length)=(l.length + 1) + r.length:=h2
          omega
        · rw [h3]
          rfl
end TB
namespace TB
open Vbfuao
def num:List Nat→Nat
  | []=>0
  | d :: r=>d * 8 ^ r.length + num r
theorem num_lt:∀ l:List Nat,(∀ d ∈ l,d < 8)→num l < 8 ^ l.length
  | [],_=>by decide
  | d :: r,h=>by
    have h1:=num_lt r fun e he=>h e (List.mem_cons_of_mem _ he)
    have h2:d≤7:=Nat.le_of_lt_succ (h d List.mem_cons_self)
    show d * 8 ^ r.length + num r < 8 ^ (r.length + 1)
    have h3:d * 8 ^ r.length≤7 * 8 ^ r.length:=Nat.mul_le_mul_right _ h2
    rw [Nat.pow_succ]
    omega
theorem num_less:∀ a b:List Nat,a.length=b.length→(∀ d ∈ a,d < 8)→(∀ d ∈ b,d < 8)→(less a b=true↔num a < num b)
  | [],[],_,_,_=>by simp [less,num]
  | d :: r,e :: t,hl,ha,hb=>by
    have hl':r.length=t.length:=by simpa using hl
    have ih:=num_less r t hl' (fun x hx=>ha x (List.mem_cons_of_mem _ hx)) (fun x hx=>hb x (List.mem_cons_of_mem _ hx))
    have h1:=num_lt r fun x hx=>ha x (List.mem_cons_of_mem _ hx)
    have h2:=num_lt t fun x hx=>hb x (List.mem_cons_of_mem _ hx)
    show (decide (d < e) || (d == e&&less r t))=true↔d * 8 ^ r.length + num r < e * 8 ^ t.length + num t
    rw [hl'] at h1 ⊢
    by_cases hde:d < e
    · have h3:(d + 1) * 8 ^ t.length≤e * 8 ^ t.length:=Nat.mul_le_mul_right _ hde
      rw [Nat.succ_mul] at h3
      simp only [hde,decide_true,Bool.true_or,true_iff]
      omega
    · by_cases he:d=e
      · subst he
        simp only [Nat.lt_irrefl,decide_false,Bool.false_or,beq_self_eq_true,Bool.true_and,ih]
        omega
      · have h3:(e + 1) * 8 ^ t.length≤d * 8 ^ t.length:=Nat.mul_le_mul_right _ (by omega)
        rw [Nat.succ_mul] at h3
        have:(d == e)=false:=by simpa using he
        simp only [hde,decide_false,Bool.false_or,this,Bool.false_and]
        constructor
        · intro q;cases q
        · intro q;omega
theorem num_inj:∀ a b:List Nat,a.length=b.length→(∀ d ∈ a,d < 8)→(∀ d ∈ b,d < 8)→num a=num b→a=b
  | [],[],_,_,_,_=>rfl
  | d :: r,e :: t,hl,ha,hb,h=>by
    have hl':r.length=t.length:=by simpa using hl
    have h1:=num_lt r fun x hx=>ha x (List.mem_cons_of_mem _ hx)
    have h2:=num_lt t fun x hx=>hb x (List.mem_cons_of_mem _ hx)
    have h':d * 8 ^ r.length + num r=e * 8 ^ t.length + num t:=h
    rw [hl'] at h1 h'
    have hde:d=e:=by
      rcases Nat.lt_trichotomy d e with q | q | q
      · have h3:(d + 1) * 8 ^ t.length≤e * 8 ^ t.length:=Nat.mul_le_mul_right _ q
        rw [Nat.succ_mul] at h3
        omega
      · exact q
      · have h3:(e + 1) * 8 ^ t.length≤d * 8 ^ t.length:=Nat.mul_le_mul_right _ q
        rw [Nat.succ_mul] at h3
        omega
    subst hde
    rw [num_inj r t hl' (fun x hx=>ha x (List.mem_cons_of_mem _ hx)) (fun x hx=>hb x (List.mem_cons_of_mem _ hx)) (by omega)]
theorem num_add (f g:Nat→Nat):∀ R:List Nat,num (R.map f) + num (R.map g)=num (R.map fun j=>f j + g j)
  | []=>rfl
  | j :: R=>by
    have ih:=num_add f g R
    show (f j * 8 ^ (R.map f).length + num (R.map f)) + (g j * 8 ^ (R.map g).length + num (R.map g))=(f j + g j) * 8 ^ (R.map fun j=>f j + g j).length + num (R.map fun j=>f j + g j)
    rw [List.length_map,List.length_map,List.length_map,Nat.add_mul,← ih]
    omega
def ind (A:List Nat) (j:Nat):Nat:=if j ∈ A then 1 else 0
def mark (R A:List Nat):Nat:=num (R.map (ind A))
theorem ind_le (A:List Nat) (j:Nat):ind A j≤1:=by
  unfold ind
  split <;> omega
theorem mark_congr {R A B:List Nat} (h:∀ j ∈ R,(j ∈ A↔j ∈ B)):mark R A=mark R B:=by
  unfold mark
  congr 1
  refine List.map_congr_left fun j hj=>?_
  unfold ind
  simp only [h j hj]
theorem mark_inj {R A B:List Nat} (h:mark R A=mark R B):∀ j ∈ R,(j ∈ A↔j ∈ B):=by
  have d:∀ (C:List Nat),∀ d ∈ R.map (ind C),d < 8:=fun C d hd=>by
    obtain ⟨j,_,rfl⟩:=List.mem_map.mp hd
    have:=ind_le C j
    omega
  have e:=num_inj _ _ (by rw [List.length_map,List.length_map]) (d A) (d B) h
  intro j hj
  have e2:ind A j=ind B j:=List.map_inj_left.mp e j hj
  unfold ind at e2
  by_cases h1:j ∈ A <;> by_cases h2:j ∈ B <;> simp [h1,h2] at e2 ⊢
theorem mark_add {R A B:List Nat} (h:∀ j ∈ R,¬ (j ∈ A∧j ∈ B)):mark R A + mark R B=mark R (A++B):=by
  unfold mark
  rw [num_add]
  congr 1
  refine List.map_congr_left fun j hj=>?_
  have:=h j hj
  unfold ind
  by_cases h1:j ∈ A <;> by_cases h2:j ∈ B <;> simp_all
theorem mark_nil (R:List Nat):mark R []=0:=by
  induction R with
  | nil=>rfl
  | cons j R ih =>
    show ind [] j * 8 ^ (R.map (ind [])).length + mark R []=0
    rw [ih]
    simp [ind]
theorem and_split (d e n x y:Nat) (hx:x < 2 ^ n) (hy:y < 2 ^ n):(d * 2 ^ n + x) &&& (e * 2 ^ n + y)=(d &&& e) * 2 ^ n + (x &&& y):=by
  have hxy:x &&& y < 2 ^ n:=Nat.and_lt_two_pow x hy
  rw [Nat.mul_comm d,Nat.mul_comm e,Nat.mul_comm (d &&& e)]
  refine Nat.eq_of_testBit_eq fun j=>?_
  rw [Nat.testBit_and,Nat.testBit_two_pow_mul_add _ hx,Nat.testBit_two_pow_mul_add _ hy,Nat.testBit_two_pow_mul_add _ hxy]
  by_cases hj:j < n
  · simp [hj]
  · simp [hj]
theorem mark_and (A B:List Nat):∀ R:List Nat,mark R A &&& mark R B=mark R (A.filter fun j=>decide (j ∈ B))
  | []=>by simp [mark,num]
  | j :: R=>by
    have ih:=mark_and A B R
    have lt:∀ C:List Nat,mark R C < 2 ^ (3 * R.length):=fun C=>by
      have h:=num_lt (R.map (ind C)) fun d hd=>by
        obtain ⟨j,_,rfl⟩:=List.mem_map.mp hd
        have:=ind_le C j
        omega
      rw [List.length_map] at h
      rw [Nat.pow_mul]
      exact h
    have sp:∀ C:List Nat,mark (j :: R) C=ind C j * 2 ^ (3 * R.length) + mark R C:=fun C=>by
      show ind C j * 8 ^ (R.map (ind C)).length + mark R C=_
      rw [List.length_map,Nat.pow_mul]
    rw [sp,sp,sp,and_split _ _ _ _ _ (lt A) (lt B),ih]
    congr 2
    unfold ind
    by_cases h1:j ∈ A <;> by_cases h2:j ∈ B <;> simp [h1,h2]
theorem mark_sub {R A B:List Nat} (hAR:∀ j ∈ A,j ∈ R):mark R A &&& mark R B=mark R A↔∀ j ∈ A,j ∈ B:=by
  rw [mark_and]
  constructor
  · intro h j hj
    have:=(mark_inj h j (hAR j hj)).mpr hj
    rw [List.mem_filter] at this
    simpa using this.2
  · intro h
    refine mark_congr fun j _=>?_
    rw [List.mem_filter]
    constructor
    · exact fun q=>q.1
    · exact fun q=>⟨q,by simpa using h j q⟩
theorem mark_zero {R A:List Nat}:mark R A=0↔∀ j ∈ R,j ∉ A:=by
  constructor
  · intro h j hj hA
    rw [← mark_nil R] at h
    have:=(mark_inj h j hj).mp hA
    cases this
  · intro h
    rw [← mark_nil R]
    refine mark_congr fun j hj=>?_
    constructor
    · intro q;exact absurd q (h j hj)
    · intro q;cases q
theorem mark_one {R:List Nat} {j:Nat} {B:List Nat} (hj:j ∈ R):mark R [j] &&& mark R B=0↔j ∉ B:=by
  rw [mark_and,mark_zero]
  constructor
  · intro h q
    refine h j hj ?_
    rw [List.mem_filter]
    exact ⟨List.mem_singleton.mpr rfl,by simpa using q⟩
  · intro h i _ q
    rw [List.mem_filter] at q
    obtain ⟨q1,q2⟩:=q
    rw [List.mem_singleton] at q1
    subst q1
    exact h (by simpa using q2)
theorem mark_weight:∀ (pre post:List Nat) (j:Nat),(pre++j :: post).Nodup→mark (pre++j :: post) [j]=2 ^ (3 * post.length)
  | [],post,j,h=>by
    have hj:j ∉ post:=(List.nodup_cons.mp h).1
    show ind [j] j * 8 ^ (post.map (ind [j])).length + mark post [j]=_
    have e:mark post [j]=0:=mark_zero.mpr fun i hi q=>hj (by rw [List.mem_singleton] at q;exact q ▸ hi)
    rw [e,List.length_map,Nat.pow_mul]
    simp [ind]
  | i :: pre,post,j,h=>by
    have h':=List.nodup_cons.mp (show (i :: (pre++j :: post)).Nodup from h)
    have hij:i≠j:=fun q=>h'.1 (by rw [q];simp)
    have ih:=mark_weight pre post j h'.2
    show ind [j] i * 8 ^ ((pre++j :: post).map (ind [j])).length + mark (pre++j :: post) [j]=_
    rw [ih]
    simp [ind,hij]
theorem mark_sum {R:List Nat}:∀ {A:List Nat},A.Nodup→(A.map fun j=>mark R [j]).sum=mark R A
  | [],_=>by rw [mark_nil];rfl
  | j :: A,h=>by
    obtain ⟨h1,h2⟩:=List.nodup_cons.mp h
    rw [List.map_cons,List.sum_cons,mark_sum h2,mark_add fun i _ q=>h1 (by rw [List.mem_singleton] at q;exact q.1 ▸ q.2)]
    rfl
end TB
namespace TB
open Vbfuao
def bump (n:Nat):Nat:=if n=0 then 0 else n + 1
theorem lab_cons (g:Grp) (gs:List Grp) (k j:Nat):labelIn (g :: gs) k j=if j ∈ mem1 g then k else labelIn gs (k + 1) j:=by
  show (if g.1.contains j=true∨g.2.contains j=true then k else labelIn gs (k + 1) j)=_
  unfold mem1
  simp only [List.contains_iff_mem,List.mem_append]
theorem lab_succ:∀ (gs:List Grp) (k j:Nat),1≤k→labelIn gs (k + 1) j=bump (labelIn gs k j)
  | [],_,_,_=>rfl
  | g :: gs,k,j,hk=>by
    rw [lab_cons,lab_cons,lab_succ gs (k + 1) j (by omega)]
    by_cases h:j ∈ mem1 g
    · rw [if_pos h,if_pos h]
      unfold bump
      rw [if_neg (by omega)]
    · rw [if_neg h,if_neg h]
theorem lab_zero:∀ (gs:List Grp) (k j:Nat),1≤k→(labelIn gs k j=0↔j ∉ allm gs)
  | [],_,_,_=>by simp [labelIn,allm]
  | g :: gs,k,j,hk=>by
    rw [lab_cons]
    show _↔j ∉ mem1 g++allm gs
    rw [List.mem_append,not_or]
    by_cases h:j ∈ mem1 g
    · rw [if_pos h]
      constructor
      · intro q;omega
      · intro q;exact absurd h q.1
    · rw [if_neg h,lab_zero gs (k + 1) j (by omega)]
      exact ⟨fun q=>⟨h,q⟩,fun q=>q.2⟩
theorem lab_lt:∀ (gs:List Grp) (k j:Nat),1≤k→labelIn gs k j < k + gs.length
  | [],k,_,hk=>by show 0 < k + 0;omega
  | g :: gs,k,j,hk=>by
    rw [lab_cons,List.length_cons]
    by_cases h:j ∈ mem1 g
    · rw [if_pos h];omega
    · rw [if_neg h]
      have:=lab_lt gs (k + 1) j (by omega)
      omega
theorem lab_first {g:Grp} {gs:List Grp} {k j:Nat} (hk:1≤k):labelIn (g :: gs) k j=k↔j ∈ mem1 g:=by
  rw [lab_cons]
  by_cases h:j ∈ mem1 g
  · simp [h]
  · rw [if_neg h]
    constructor
    · intro q
      exfalso
      rw [lab_succ _ _ _ hk] at q
      have:∀ (gs:List Grp) (k:Nat),1≤k→labelIn gs k j=0∨k≤labelIn gs k j:=by
        intro gs
        induction gs with
        | nil=>intro k _;exact .inl rfl
        | cons g gs ih =>
          intro k hk
          rw [lab_cons]
          by_cases h:j ∈ mem1 g
          · rw [if_pos h];exact .inr (Nat.le_refl _)
          · rw [if_neg h]
            rcases ih (k + 1) (by omega) with q | q
            · exact .inl q
            · exact .inr (by omega)
      unfold bump at q
      split at q
      · omega
      · rcases this gs k hk with z | z <;> omega
    · intro q;exact absurd q h
def Apart:List Grp→Prop
  | []=>True
  | g :: gs=>(∀ j ∈ allm gs,j ∉ mem1 g)∧Apart gs
variable {s:State} {x:Account}
theorem Pl.apart {l r:List Nat} {gs:List Grp} (h:Pl s x l r gs) (hl:l.Nodup) (hd:∀ j ∈ l,j ∉ r):Apart gs:=by
  induction h with
  | nil r=>trivial
  | skip _ ih=>exact ih (List.nodup_cons.mp hl).2 fun j hj=>hd j (List.mem_cons_of_mem _ hj)
  | grp ha _ hb _ _ hp ih =>
    rename_i i l r a b gs _ _ _
    obtain ⟨h1,h2⟩:=List.nodup_cons.mp hl
    refine ⟨fun j hj=>?_,ih (h2.sublist (minus_sub _ _)) fun j hj q=>hd j (List.mem_cons_of_mem _ (mem_minus.mp hj).1) (mem_minus.mp q).1⟩
    have hm:=hp.memAll hj
    unfold mem1
    rw [List.mem_append]
    show ¬ (j ∈ i :: a∨j ∈ b)
    rw [List.mem_cons]
    rintro ((rfl | q) | q)
    · rcases hm with hm | hm
      · exact h1 (mem_minus.mp hm).1
      · exact hd j List.mem_cons_self (mem_minus.mp hm).1
    · rcases hm with hm | hm
      · exact (mem_minus.mp hm).2 q
      · exact hd j (List.mem_cons_of_mem _ (ha.subset q)) (mem_minus.mp hm).1
    · rcases hm with hm | hm
      · exact hd j (List.mem_cons_of_mem _ (mem_minus.mp hm).1) (hb.subset q)
      · exact (mem_minus.mp hm).2 q
def rowN (R:List Nat) (gs:List Grp):Nat:=num (R.map (labelIn gs 1))
theorem rowN_nil (R:List Nat):rowN R []=0:=by
  rw [← mark_nil R]
  unfold rowN mark
  congr 1
theorem rowN_bump (R:List Nat) (gs:List Grp):num (R.map fun j=>bump (labelIn gs 1 j))=rowN R gs + mark R (allm gs):=by
  unfold rowN mark
  rw [num_add]
  congr 1
  refine List.map_congr_left fun j _=>?_
  have:=lab_zero gs 1 j (Nat.le_refl _)
  unfold bump ind
  by_cases h:j ∈ allm gs
  · rw [if_neg (fun q=>this.mp q h),if_pos h]
  · rw [if_pos (this.mpr h),if_neg h,this.mpr h]
theorem rowN_cons {R:List Nat} {g:Grp} {gs:List Grp} (h:∀ j ∈ allm gs,j ∉ mem1 g):rowN R (g :: gs)=mark R (mem1 g) + rowN R gs + mark R (allm gs):=by
  rw [Nat.add_assoc,← rowN_bump]
  unfold rowN mark
  rw [num_add]
  congr 1
  refine List.map_congr_left fun j _=>?_
  rw [lab_cons,lab_succ _ _ _ (Nat.le_refl _)]
  unfold ind
  by_cases hj:j ∈ mem1 g
  · rw [if_pos hj,if_pos hj,(lab_zero gs 1 j (Nat.le_refl _)).mpr fun q=>h j q hj]
    rfl
  · rw [if_neg hj,if_neg hj,Nat.zero_add]
def klt:List Int→List Int→Bool
  | [],[]=>false
  | [],_ :: _=>true
  | _ :: _,[]=>false
  | a :: r,b :: t=>if a=b then klt r t else decide (a < b)
theorem klt_irrefl:∀ a:List Int,klt a a=false
  | []=>rfl
  | a :: r=>by
    show (if a=a then klt r r else _)=false
    rw [if_pos rfl,klt_irrefl r]
theorem klt_trans:∀ {a b c:List Int},klt a b=true→klt b c=true→klt a c=true
  | [],[],c,h,h2=>h2
  | [],_ :: _,[],_,h2=>by cases h2
  | [],_ :: _,_ :: _,_,_=>rfl
  | _ :: _,[],_,h,_=>by cases h
  | _ :: _,_ :: _,[],_,h=>by cases h
  | a :: r,b :: t,c :: u,h,h2=>by
    have h':(if a=b then klt r t else decide (a < b))=true:=h
    have h2':(if b=c then klt t u else decide (b < c))=true:=h2
    show (if a=c then klt r u else decide (a < c))=true
    by_cases hab:a=b
    · subst hab
      rw [if_pos rfl] at h'
      by_cases hac:a=c
      · rw [if_pos hac] at h2' ⊢
        exact klt_trans h' h2'
      · rw [if_neg hac] at h2' ⊢
        exact h2'
    · rw [if_neg hab] at h'
      have q1:a < b:=by simpa using h'
      by_cases hbc:b=c
      · subst hbc
        rw [if_neg hab]
        exact h'
      · rw [if_neg hbc] at h2'
        have q2:b < c:=by simpa using h2'
        rw [if_neg (by omega)]
        exact decide_eq_true (by omega)
theorem klt_total:∀ (a b:List Int),klt a b=true∨a=b∨klt b a=true
  | [],[]=>.inr (.inl rfl)
  | [],_ :: _=>.inl rfl
  | _ :: _,[]=>.inr (.inr rfl)
  | a :: r,b :: t=>by
    show (if a=b then klt r t else decide (a < b))=true∨_∨(if b=a then klt t r else decide (b < a))=true
    by_cases h:a=b
    · subst h
      rw [if_pos rfl,if_pos rfl]
      rcases klt_total r t with q | q | q
      · exact .inl q
      · exact .inr (.inl (by rw [q]))
      · exact .inr (.inr q)
    · rw [if_neg h,if_neg (fun q=>h q.symm)]
      rcases Int.lt_or_gt_of_ne h with q | q
      · exact .inl (decide_eq_true q)
      · exact .inr (.inr (decide_eq_true q))
theorem kle_trans {a b c:List Int} (h:klt b a=false) (h2:klt c b=false):klt c a=false:=by
  cases q:klt c a with
  | false=>rfl
  | true =>
    rcases klt_total a b with z | z | z
    · rw [klt_trans q z] at h2;cases h2
    · subst z;rw [q] at h2;cases h2
    · rw [z] at h;cases h
def rank (s:State) (R:List Nat) (gs:List Grp):List Int:=[-((allm gs).length:Int),-(gs.length:Int),(gapAll s gs:Int),(rowN R gs:Int)]
theorem rank_nil (s:State) (R:List Nat):rank s R []=[0,0,0,0]:=by
  unfold rank
  rw [rowN_nil]
  rfl
theorem rank_cons {R : List Nat} {g : Grp} {gs : List Grp} (h : ∀ j ∈ allm gs, j ∉ mem1 g) :
    rank s R (g :: gs)=[-((allm gs).length:Int) - ((g.1.length + g.2.length:Nat):Int),-(gs.length:Int) - 1,(gapAll s gs:Int) + (gap1 s g:Int),(mark R (mem1 g):Int) + (rowN R gs:Int) + (mark R (allm gs):Int)]:=by
  unfold rank
  rw [len_mem1,rowN_cons h,List.length_cons]
  show [_,_,((gapAll s gs + gap1 s g:Nat):Int),_]=_
  congr 1
  · omega
  · congr 1
    · omega
end TB
namespace TB
open Vbfuao
variable {s:State} {x:Account}
theorem sub_filter {l a:List Nat} (h:a.Sublist l) (hn:l.Nodup):a=l.filter fun j=>decide (j ∈ a):=by
  induction h with
  | slnil=>rfl
  | cons i h ih =>
    obtain ⟨h1,h2⟩:=List.nodup_cons.mp hn
    rw [List.filter_cons,if_neg (by simpa using fun q=>h1 (h.subset q))]
    exact ih h2
  | cons_cons i h ih =>
    rename_i a l
    obtain ⟨h1,h2⟩:=List.nodup_cons.mp hn
    rw [List.filter_cons,if_pos (by simp)]
    have e:l.filter (fun j=>decide (j ∈ i :: a))=l.filter (fun j=>decide (j ∈ a)):=by
      refine List.filter_congr fun j hj=>?_
      have:j≠i:=fun q=>h1 (q ▸ hj)
      simp [this]
    rw [e,← ih h2]
theorem sub_eq {l a b:List Nat} (hn:l.Nodup) (ha:a.Sublist l) (hb:b.Sublist l) (h:∀ j ∈ l,(j ∈ a↔j ∈ b)):a=b:=by
  rw [sub_filter ha hn,sub_filter hb hn]
  refine List.filter_congr fun j hj=>?_
  simp [h j hj]
theorem Pl.inj {l r:List Nat} {gs:List Grp} (h:Pl s x l r gs):∀ {gs':List Grp} {k:Nat},Pl s x l r gs'→l.Nodup→r.Nodup→(∀ j ∈ l,j ∉ r)→1≤k→(∀ j,j ∈ l∨j ∈ r→labelIn gs k j=labelIn gs' k j)→gs=gs':=by
  induction h with
  | nil r =>
    intro gs' k h' _ _ _ _ _
    cases h'
    rfl
  | skip h ih =>
    rename_i i l r gs
    intro gs' k h' hl hr hd hk e
    obtain ⟨h1,h2⟩:=List.nodup_cons.mp hl
    cases h' with
    | skip h'=>exact ih h' h2 hr (fun j hj=>hd j (List.mem_cons_of_mem _ hj)) hk fun j hj=>e j (hj.imp (List.mem_cons_of_mem _) id)
    | grp ha _ hb _ _ hp =>
      exfalso
      have e1:=e i (.inl List.mem_cons_self)
      rw [(lab_zero gs k i hk).mpr fun q=>(h.memAll q).elim h1 (hd i List.mem_cons_self)] at e1
      have e2:=(lab_zero _ k i hk).mp e1.symm
      exact e2 (mem_allm.mpr ⟨_,List.mem_cons_self,.inl List.mem_cons_self⟩)
  | grp ha ha2 hb hb2 hf hp ih =>
    rename_i i l r a b gs
    intro gs' k h' hl hr hd hk e
    obtain ⟨h1,h2⟩:=List.nodup_cons.mp hl
    cases h' with
    | skip h' =>
      exfalso
      have e1:=e i (.inl List.mem_cons_self)
      rw [(lab_zero gs' k i hk).mpr fun q=>(h'.memAll q).elim h1 (hd i List.mem_cons_self)] at e1
      have e2:=(lab_zero _ k i hk).mp e1
      exact e2 (mem_allm.mpr ⟨_,List.mem_cons_self,.inl List.mem_cons_self⟩)
    | grp ha' ha2' hb' hb2' hf' hp' =>
      rename_i a' b' gs'
      have m:∀ j,j ∈ i :: l∨j ∈ r→(j ∈ mem1 (i :: a,b)↔j ∈ mem1 (i :: a',b')):=fun j hj=>by
        rw [← lab_first (gs:=gs) hk,← lab_first (gs:=gs') hk,e j hj]
      have ea:a=a':=sub_eq h2 ha ha' fun j hj=>by
        have q:=m j (.inl (List.mem_cons_of_mem _ hj))
        unfold mem1 at q
        rw [List.mem_append,List.mem_append] at q
        have nr:=hd j (List.mem_cons_of_mem _ hj)
        have n1:j ∉ b:=fun z=>nr (hb.subset z)
        have n2:j ∉ b':=fun z=>nr (hb'.subset z)
        have n3:j≠i:=fun z=>h1 (z ▸ hj)
        simpa [n1,n2,n3] using q
      have eb:b=b':=sub_eq hr hb hb' fun j hj=>by
        have q:=m j (.inr hj)
        unfold mem1 at q
        rw [List.mem_append,List.mem_append] at q
        have n3:j≠i:=fun z=>hd i List.mem_cons_self (z ▸ hj)
        have n1:j ∉ a:=fun z=>hd j (List.mem_cons_of_mem _ (ha.subset z)) hj
        have n2:j ∉ a':=fun z=>hd j (List.mem_cons_of_mem _ (ha'.subset z)) hj
        simpa [n1,n2,n3] using q
      subst ea eb
      have eg:=ih hp' (k:=k + 1) (h2.sublist (minus_sub _ _)) (hr.sublist (minus_sub _ _)) (fun j hj q=>hd j (List.mem_cons_of_mem _ (mem_minus.mp hj).1) (mem_minus.mp q).1) (by omega) fun j hj=>by
        have nm:j ∉ mem1 (i :: a,b):=by
          unfold mem1
          rw [List.mem_append]
          show ¬ (j ∈ i :: a∨j ∈ b)
          rw [List.mem_cons]
          rintro ((rfl | q) | q)
          · rcases hj with hj | hj
            · exact h1 (mem_minus.mp hj).1
            · exact hd j List.mem_cons_self (mem_minus.mp hj).1
          · rcases hj with hj | hj
            · exact (mem_minus.mp hj).2 q
            · exact hd j (List.mem_cons_of_mem _ (ha.subset q)) (mem_minus.mp hj).1
          · rcases hj with hj | hj
            · exact hd j (List.mem_cons_of_mem _ (mem_minus.mp hj).1) (hb.subset q)
            · exact (mem_minus.mp hj).2 q
        have q:=e j (hj.imp (fun z=>List.mem_cons_of_mem _ (mem_minus.mp z).1) fun z=>(mem_minus.mp z).1)
        rw [lab_cons,lab_cons,if_neg nm,if_neg nm] at q
        exact q
      rw [eg]
def Best (s:State) (x:Account) (R l r:List Nat) (gs:List Grp):Prop:=Pl s x l r gs∧∀ gs',Pl s x l r gs'→klt (rank s R gs') (rank s R gs)=false
theorem lab8 {gs:List Grp} (h:gs.length≤5) (R:List Nat):∀ d ∈ R.map (labelIn gs 1),d < 8:=fun d hd=>by
  obtain ⟨j,_,rfl⟩:=List.mem_map.mp hd
  have:=lab_lt gs 1 j (Nat.le_refl _)
  omega
theorem bump8 {gs:List Grp} (h:gs.length≤5) (R:List Nat):∀ d ∈ R.map (fun j=>bump (labelIn gs 1 j)),d < 8:=fun d hd=>by
  obtain ⟨j,_,rfl⟩:=List.mem_map.mp hd
  have:=lab_lt gs 1 j (Nat.le_refl _)
  unfold bump
  split <;> omega
theorem Best.unique {R l r:List Nat} {gs gs':List Grp} (h:Best s x R l r gs) (h':Best s x R l r gs') (hl:l.Nodup) (hr:r.Nodup) (hd:∀ j ∈ l,j ∉ r) (h5:l.length≤5) (hR:∀ j,j ∈ l∨j ∈ r→j ∈ R):gs=gs':=by
  have e:rank s R gs=rank s R gs':=by
    rcases klt_total (rank s R gs) (rank s R gs') with q | q | q
    · rw [h'.2 gs h.1] at q;cases q
    · exact q
    · rw [h.2 gs' h'.1] at q;cases q
  have e4:rowN R gs=rowN R gs':=by
    unfold rank at e
    injection e with _ e
    injection e with _ e
    injection e with _ e
    injection e with e _
    omega
  have e5:=num_inj _ _ (by rw [List.length_map,List.length_map]) (lab8 (Nat.le_trans h.1.len h5) R) (lab8 (Nat.le_trans h'.1.len h5) R) e4
  exact h.1.inj h'.1 hl hr hd (Nat.le_refl 1) fun j hj=>List.map_inj_left.mp e5 j (hR j hj)
theorem klt4 (a b c d a' b' c' d':Int):klt [a,b,c,d] [a',b',c',d']=true↔a < a'∨(a=a'∧(b < b'∨(b=b'∧(c < c'∨(c=c'∧d < d'))))):=by
  show (if a=a' then (if b=b' then (if c=c' then (if d=d' then false else decide (d < d')) else decide (c < c')) else decide (b < b')) else decide (a < a'))=true↔_
  by_cases h1:a=a'
  · rw [if_pos h1]
    by_cases h2:b=b'
    · rw [if_pos h2]
      by_cases h3:c=c'
      · rw [if_pos h3]
        by_cases h4:d=d'
        · rw [if_pos h4]
          constructor
          · intro q;cases q
          · intro q;omega
        · rw [if_neg h4,decide_eq_true_iff];omega
      · rw [if_neg h3,decide_eq_true_iff];omega
    · rw [if_neg h2,decide_eq_true_iff];omega
  · rw [if_neg h1,decide_eq_true_iff];omega
theorem less_bump (u v:Nat→Nat):∀ R:List Nat,less (R.map fun j=>bump (u j)) (R.map fun j=>bump (v j))=less (R.map u) (R.map v)
  | []=>rfl
  | j :: R=>by
    show (decide (bump (u j) < bump (v j)) || (bump (u j) == bump (v j)&&less (R.map fun j=>bump (u j)) (R.map fun j=>bump (v j))))=(decide (u j < v j) || (u j == v j&&less (R.map u) (R.map v)))
    rw [less_bump u v R]
    have h1:(bump (u j) < bump (v j))↔(u j < v j):=by
      unfold bump
      split <;> split <;> omega
    have h2:(bump (u j)=bump (v j))↔(u j=v j):=by
      unfold bump
      split <;> split <;> omega
    have h3:(bump (u j) == bump (v j))=(u j == v j):=by
      rw [Bool.eq_iff_iff,beq_iff_eq,beq_iff_eq]
      exact h2
    rw [h3]
    simp only [h1]
theorem row_mono {R:List Nat} {gs gs':List Grp} (h:gs.length≤5) (h':gs'.length≤5):rowN R gs' + mark R (allm gs') < rowN R gs + mark R (allm gs)↔rowN R gs' < rowN R gs:=by
  rw [← rowN_bump,← rowN_bump]
  rw [← num_less _ _ (by rw [List.length_map,List.length_map]) (bump8 h' R) (bump8 h R)]
  unfold rowN
  rw [← num_less _ _ (by rw [List.length_map,List.length_map]) (lab8 h' R) (lab8 h R),less_bump]
theorem rank_mono {R : List Nat} {g : Grp} {gs gs' : List Grp} (h : gs.length ≤ 5) (h' : gs'.length ≤ 5) (ha : ∀ j ∈ allm gs, j ∉ mem1 g) (ha' : ∀ j ∈ allm gs', j ∉ mem1 g) (k : klt (rank s R gs') (rank s R gs) = false) :
    klt (rank s R (g :: gs')) (rank s R (g :: gs))=false:=by
  rw [Bool.eq_false_iff] at k ⊢
  refine fun q=>k ?_
  rw [rank_cons ha,rank_cons ha',klt4] at q
  unfold rank
  rw [klt4]
  have:=row_mono (R:=R) h h'
  omega
theorem Best.step {R l r : List Nat} {i : Nat} {gs : List Grp} (hl : (i :: l).Nodup) (hd : ∀ j ∈ i :: l, j ∉ r) (h5 : l.length ≤ 4) (hgs : Pl s x (i :: l) r gs)
    (h0:∃ g0,Best s x R l r g0∧klt (rank s R g0) (rank s R gs)=false)
    (h1:∀ a b:List Nat,a.Sublist l→a.length≤x.size - 1→b.Sublist r→b.length≤x.size→fits s x (i :: a) b=true→∃ gab,Best s x R (minus l a) (minus r b) gab∧klt (rank s R ((i :: a,b) :: gab)) (rank s R gs)=false) :
    Best s x R (i :: l) r gs:=by
  refine ⟨hgs,fun gs' h'=>?_⟩
  cases h' with
  | skip h' =>
    obtain ⟨g0,b0,k0⟩:=h0
    exact kle_trans k0 (b0.2 gs' h')
  | grp ha ha2 hb hb2 hf hp =>
    rename_i a b gs'
    obtain ⟨gab,b1,k1⟩:=h1 a b ha ha2 hb hb2 hf
    refine kle_trans k1 ?_
    have hlen:∀ {q:List Grp},Pl s x (minus l a) (minus r b) q→q.length≤5:=fun {q} z=>by
      have z1:=z.len
      have z2:=(minus_sub l a).length_le
      omega
    have ap:=fun {q:List Grp} (z:Pl s x (minus l a) (minus r b) q)=>(Pl.apart (Pl.grp (i:=i) ha ha2 hb hb2 hf z) hl hd).1
    exact rank_mono (hlen b1.1) (hlen hp) (ap b1.1) (ap hp) (b1.2 gs' hp)
theorem better_klt {R : List Nat} {n : Nat} {p q : Plan} (hp : p.left + (allm p.groups).length = n) (hq : q.left + (allm q.groups).length = n) (gp : p.gap = gapAll s p.groups) (gq : q.gap = gapAll s q.groups) (lp : p.groups.length ≤ 5) (lq : q.groups.length ≤ 5) :
    better R p q=klt (rank s R p.groups) (rank s R q.groups):=by
  rw [Bool.eq_iff_iff]
  unfold rank
  rw [klt4]
  unfold better labels
  have h:=num_less (R.map (labelIn p.groups 1)) (R.map (labelIn q.groups 1)) (by rw [List.length_map,List.length_map]) (lab8 lp R) (lab8 lq R)
  simp only [Bool.or_eq_true,Bool.and_eq_true,decide_eq_true_eq,beq_iff_eq,h,gp,gq]
  unfold rowN
  omega
theorem bestOf_min {R : List Nat} (V : Plan → Prop) (hV : ∀ p q, V p → V q → better R p q = klt (rank s R p.groups) (rank s R q.groups)) :
    ∀ (ps:List Plan) (p:Plan),V p→(∀ q ∈ ps,V q)→V (bestOf R ps p)∧klt (rank s R p.groups) (rank s R (bestOf R ps p).groups)=false∧∀ q ∈ ps,klt (rank s R q.groups) (rank s R (bestOf R ps p).groups)=false
  | [],p,hp,_=>⟨hp,klt_irrefl _,fun q hq=>by cases hq⟩
  | q :: ps,p,hp,hps=>by
    show V (bestOf R ps (if better R q p=true then q else p))∧_=false∧_
    have hq:=hps q List.mem_cons_self
    by_cases hb:better R q p=true
    · obtain ⟨h1,h2,h3⟩:=bestOf_min V hV ps q hq fun z hz=>hps z (List.mem_cons_of_mem _ hz)
      have e:bestOf R (q :: ps) p=bestOf R ps q:=by
        show bestOf R ps (if better R q p=true then q else p)=_
        rw [if_pos hb]
      rw [if_pos hb,e]
      refine ⟨h1,kle_trans h2 ?_,fun z hz=>?_⟩
      · rw [hV q p hq hp] at hb
        cases w:klt (rank s R p.groups) (rank s R q.groups) with
        | false=>rfl
        | true =>
          have:=klt_trans hb w
          rw [klt_irrefl] at this
          cases this
      · rcases List.mem_cons.mp hz with rfl | hz
        · exact h2
        · exact h3 z hz
    · obtain ⟨h1,h2,h3⟩:=bestOf_min V hV ps p hp fun z hz=>hps z (List.mem_cons_of_mem _ hz)
      have e:bestOf R (q :: ps) p=bestOf R ps p:=by
        show bestOf R ps (if better R q p=true then q else p)=_
        rw [if_neg hb]
      rw [if_neg hb,e]
      refine ⟨h1,h2,fun z hz=>?_⟩
      rcases List.mem_cons.mp hz with rfl | hz
      · refine kle_trans h2 ?_
        rw [hV z p hq hp] at hb
        simpa using hb
      · exact h3 z hz
theorem least_eq {l r : List Nat} {gs : List Grp} (hl : l.Nodup) (hr : r.Nodup) (hd : ∀ j ∈ l, j ∉ r) (h5 : l.length ≤ 5) (h : Best s x (l ++ r) l r gs) :
    (least s x l r).groups=gs∧(least s x l r).left + (allm gs).length=l.length + r.length∧(least s x l r).gap=gapAll s gs:=by
  have mp:=fun p=>mem_plans (s:=s) (x:=x) l.length l r (Nat.le_refl _) hl hr p
  let V:Plan→Prop:=fun p=>Pl s x l r p.groups∧p.left + (allm p.groups).length=l.length + r.length∧p.gap=gapAll s p.groups
  have hV:∀ p q,V p→V q→better (l++r) p q=klt (rank s (l++r) p.groups) (rank s (l++r) q.groups):=fun p q hp hq =>
    better_klt hp.2.1 hq.2.1 hp.2.2 hq.2.2 (Nat.le_trans hp.1.len h5) (Nat.le_trans hq.1.len h5)
  have v0:V (none_ l r):=⟨Pl.none l r,rfl,rfl⟩
  obtain ⟨h1,h2,h3⟩:=bestOf_min V hV (plans s x l.length l r) (none_ l r) v0 fun q hq=>(mp q).mp hq
  have B:Best s x (l++r) l r (least s x l r).groups:=by
    refine ⟨h1.1,fun gs' h'=>?_⟩
    have z:=h3 ⟨gs',l.length + r.length - (allm gs').length,gapAll s gs'⟩ ((mp _).mpr ⟨h',?_,rfl⟩)
    · exact z
    · have:=h'.allm_le hl hr
      show l.length + r.length - (allm gs').length + (allm gs').length=_
      omega
  have e:(least s x l r).groups=gs:=B.unique h hl hr hd h5 fun j hj=>List.mem_append.mpr hj
  have h1':(least s x l r).left + (allm (least s x l r).groups).length=l.length + r.length∧(least s x l r).gap=gapAll s (least s x l r).groups:=h1.2
  rw [e] at h1'
  exact ⟨e,h1'⟩
end TB
namespace TB
open Vbfuao
def Ear (s:State) (i j:Nat):Prop:=(entryAt s i).day < (entryAt s j).day∨((entryAt s i).day=(entryAt s j).day∧i < j)
theorem earlier_iff (s:State) (i j:Nat):earlier s i j=true↔Ear s i j:=by
  unfold earlier Ear
  simp only [Bool.or_eq_true,Bool.and_eq_true,decide_eq_true_eq,beq_iff_eq]
theorem Ear.trans {s:State} {i j k:Nat} (h:Ear s i j) (h2:Ear s j k):Ear s i k:=by
  unfold Ear at *
  omega
theorem Ear.total {s:State} {i j:Nat} (h:i≠j):Ear s i j∨Ear s j i:=by
  unfold Ear
  omega
theorem Ear.asymm {s:State} {i j:Nat} (h:Ear s i j) (h2:Ear s j i):False:=by
  unfold Ear at *
  omega
theorem put_perm (s:State) (i:Nat):∀ l:List Nat,(putPlace s i l).Perm (i :: l)
  | []=>List.Perm.refl _
  | j :: r=>by
    show (if earlier s i j=true then i :: j :: r else j :: putPlace s i r).Perm _
    split
    · exact List.Perm.refl _
    · exact ((put_perm s i r).cons j).trans (List.Perm.swap i j r)
theorem put_sorted (s:State) (i:Nat):∀ l:List Nat,l.Pairwise (Ear s)→(∀ j ∈ l,j≠i)→(putPlace s i l).Pairwise (Ear s)
  | [],_,_=>List.pairwise_singleton _ _
  | j :: r,h,hn=>by
    show (if earlier s i j=true then i :: j :: r else j :: putPlace s i r).Pairwise _
    obtain ⟨h1,h2⟩:=List.pairwise_cons.mp h
    split
    · rename_i q
      rw [earlier_iff] at q
      refine List.pairwise_cons.mpr ⟨fun k hk=>?_,h⟩
      rcases List.mem_cons.mp hk with rfl | hk
      · exact q
      · exact q.trans (h1 k hk)
    · rename_i q
      rw [earlier_iff] at q
      refine List.pairwise_cons.mpr ⟨fun k hk=>?_,put_sorted s i r h2 fun k hk=>hn k (List.mem_cons_of_mem _ hk)⟩
      rcases List.mem_cons.mp ((put_perm s i r).mem_iff.mp hk) with rfl | hk
      · exact (Ear.total (hn j List.mem_cons_self)).elim id fun z=>absurd z q
      · exact h1 k hk
theorem fold_put (s:State):∀ (l acc:List Nat),l.Nodup→(∀ i ∈ l,i ∉ acc)→acc.Pairwise (Ear s)→(l.foldl (fun l i=>putPlace s i l) acc).Pairwise (Ear s)∧(l.foldl (fun l i=>putPlace s i l) acc).Perm (acc++l)
  | [],acc,_,_,h=>⟨h,by rw [List.append_nil];exact List.Perm.refl _⟩
  | i :: l,acc,hn,hd,h=>by
    obtain ⟨n1,n2⟩:=List.nodup_cons.mp hn
    have pp:=put_perm s i acc
    obtain ⟨h1,h2⟩:=fold_put s l (putPlace s i acc) n2 (fun j hj q=>by
      rcases List.mem_cons.mp (pp.mem_iff.mp q) with rfl | q
      · exact n1 hj
      · exact hd j (List.mem_cons_of_mem _ hj) q) (put_sorted s i acc h fun j hj q=>hd i List.mem_cons_self (q ▸ hj))
    refine ⟨h1,h2.trans ((pp.append_right l).trans ?_)⟩
    show (i :: (acc++l)).Perm (acc++i :: l)
    exact List.perm_middle.symm
def inBook (s:State) (book a i:Nat):Bool:=(entryAt s i).there&&((entryAt s i).book == book&&(entryAt s i).account == a)
theorem places_spec (s:State) (book a:Nat):(placesOf s book a).Pairwise (Ear s)∧(placesOf s book a).Perm ((List.range s.entries.length).filter (inBook s book a)):=by
  have h:=fold_put s ((List.range s.entries.length).filter (inBook s book a)) [] (List.nodup_range.sublist List.filter_sublist) (fun i _ q=>by cases q) List.Pairwise.nil
  rw [List.nil_append] at h
  exact h
def isOpenB (s:State) (p book a i:Nat):Bool:=inBook s book a i&&(groupOf s p i).isNone
theorem breaks_spec (s:State) (p book a:Nat):(breaksOf s p book a).Pairwise (Ear s)∧(breaksOf s p book a).Perm ((List.range s.entries.length).filter (isOpenB s p book a)):=by
  obtain ⟨h1,h2⟩:=places_spec s book a
  refine ⟨h1.sublist List.filter_sublist,?_⟩
  have h3:=h2.filter fun i=>(groupOf s p i).isNone
  rw [List.filter_filter] at h3
  refine h3.trans (List.Perm.of_eq (List.filter_congr fun i _=>?_))
  unfold isOpenB
  exact Bool.and_comm _ _
theorem ear_unique {s:State} {l m:List Nat} (h:l.Perm m) (hl:l.Pairwise (Ear s)) (hm:m.Pairwise (Ear s)):l=m :=
  h.eq_of_pairwise (le:=Ear s) (fun _ _ _ _ h1 h2=>(h1.asymm h2).elim) hl hm
theorem breaks_nodup (s:State) (p book a:Nat):(breaksOf s p book a).Nodup:=(breaks_spec s p book a).2.nodup_iff.mpr (List.nodup_range.sublist List.filter_sublist)
theorem mem_breaks {s:State} {p book a i:Nat}:i ∈ breaksOf s p book a↔i < s.entries.length∧isOpenB s p book a i=true:=by
  rw [(breaks_spec s p book a).2.mem_iff,List.mem_filter,List.mem_range]
theorem stable_ear {s : State} {ps src : List (Int × Nat)} (hk : ∀ q ∈ src, q.1 = ((entryAt s q.2).day : Int)) (hp : ps.Perm src) (h1 : ps.Pairwise fun p q => p.1 ≤ q.1) (h2 : ∀ c, ps.filter (fun p => p.1 == c) = src.filter (fun p => p.1 == c))
    (hs:(src.map (·.2)).Pairwise (· < ·)):(ps.map (·.2)).Pairwise (Ear s):=by
  have hs':src.Pairwise fun p q=>p.2 < q.2:=List.pairwise_map.mp hs
  have key:ps.Pairwise fun p q=>p.1=q.1→p.2 < q.2:=by
    clear h1 hk hs hp
    have:∀ (l:List (Int × Nat)),(∀ c,(l.filter (fun p=>p.1 == c)).Pairwise fun p q=>p.2 < q.2)→l.Pairwise fun p q=>p.1=q.1→p.2 < q.2:=by
      intro l
      induction l with
      | nil=>intro _;exact List.Pairwise.nil
      | cons p l ih =>
        intro hc
        refine List.pairwise_cons.mpr ⟨fun q hq e=>?_,ih fun c=>?_⟩
        · have z:=hc p.1
          rw [List.filter_cons,if_pos (beq_self_eq_true _)] at z
          exact (List.pairwise_cons.mp z).1 q (List.mem_filter.mpr ⟨hq,by rw [e];exact beq_self_eq_true _⟩)
        · have z:=hc c
          rw [List.filter_cons] at z
          split at z
          · exact (List.pairwise_cons.mp z).2
          · exact z
    refine this ps fun c=>?_
    rw [h2 c]
    exact hs'.sublist List.filter_sublist
  refine List.pairwise_map.mpr ?_
  have both:=h1.and key
  refine both.imp_of_mem fun {p q} hp' hq' r=>?_
  have e1:=hk p (hp.mem_iff.mp hp')
  have e2:=hk q (hp.mem_iff.mp hq')
  unfold Ear
  obtain ⟨r1,r2⟩:=r
  by_cases e:p.1=q.1
  · exact .inr ⟨by omega,r2 e⟩
  · exact .inl (by omega)
end TB
namespace TB
open PySem PySem.Spec PyProof.Rows L2
open PySem.W (Codec)
theorem boot_abs:bootBuiltins "abs" = some (.builtin "abs"):=by decide +kernel
theorem boot_list:bootBuiltins "list" = some (.type "list"):=by decide +kernel
theorem boot_set:bootBuiltins "set" = some (.type "set"):=by decide +kernel
structure FnT (K:PySem.W.Frag) (x qual:Str) (st:Stmt) (ps:List Str) where
  f:Addr
  fd:FuncData
  F:Fun K x qual st f fd
  b:Binds K fd ps []
  kp:PySem.W.keepIn K (.ref f)=true
def CmpK (K:PySem.W.Frag) (C:Addr):Prop :=
  ∃ (nm q:Str) (N:Addr) (bs:List Value) (hdct:Bool) (sn:List Str) (sub:List Value) (ab:Bool) (col:Option Bool) (dd:Option Addr) (k0 k1 k2 k3 k5:Option Value) (newId:String) (c:Value) (d:Option Addr) (es:Array DictEntry) (ep:Nat) (sl:Array (Option Value)),
    K.lookup C=some (excClassObj nm q C N bs [.type "object"] hdct sn sub ab col dd k0 k1 k2 k3 k5 newId)∧K.lookup N=some ⟨c,d,.dict es ep,sl⟩ ∧
    es.all (fun e=>match e.key with | .str _ _=>true | _=>false)=true∧nsFind es "__eq__" = none∧nsFind es "__ne__" = none
def KTup (K:PySem.W.Frag) (a:Addr) (xs:List V):Prop:=∀ H:Hp,SqT K H a xs
section
variable {X:Cx}
theorem pe_gint {x:Str} {i:Int} {pos:Pos} (hg:Gl X x) (hm:∃ t,X.mg x=some (.int i t)) (hd:(x == ("__debug__" : Str))=false:=by decide):PE X (.Name x pos) (tC (.int i)):=by
  obtain ⟨t,h⟩:=hm
  exact pe_glob hg h ⟨t,rfl⟩ hd
theorem pe_gref {x:Str} {a:Addr} {pos:Pos} (hg:Gl X x) (hm:X.mg x=some (.ref a)) (hd:(x == ("__debug__" : Str))=false:=by decide):PE X (.Name x pos) (tC (.ref a)):=pe_glob hg hm rfl hd
end
def top (i:Nat):Stmt:=PySem.Challenge.pw_threebooks_s01_answers.main.body.getD i (.Pass ⟨0,0,0,0⟩)
abbrev s_within:Stmt:=top 10
abbrev s_range_refusal:Stmt:=top 11
abbrev s_plan_refusal:Stmt:=top 12
abbrev s_gap_of:Stmt:=top 19
abbrev s_Account_init:Stmt:=inClass (top 20) 0
abbrev s_Entry_init:Stmt:=inClass (top 21) 0
abbrev s_Entry_is_open:Stmt:=inClass (top 21) 1
abbrev s_Group_init:Stmt:=inClass (top 22) 0
abbrev s_Fund_init:Stmt:=inClass (top 23) 0
abbrev s_Fund_begin:Stmt:=inClass (top 23) 1
abbrev s_Fund_entry_at:Stmt:=inClass (top 23) 2
abbrev s_Fund_group_at:Stmt:=inClass (top 23) 3
abbrev s_Fund_open_left:Stmt:=inClass (top 23) 4
abbrev s_Fund_open_right:Stmt:=inClass (top 23) 5
abbrev s_Fund_open_in_book:Stmt:=inClass (top 23) 6
abbrev s_Fund_how_many_open:Stmt:=inClass (top 23) 7
abbrev s_Fund_balance:Stmt:=inClass (top 23) 8
abbrev s_Fund_groups_that_hold:Stmt:=inClass (top 23) 9
abbrev s_Fund_has_room_for_entry:Stmt:=inClass (top 23) 10
abbrev s_Fund_has_room_for_groups:Stmt:=inClass (top 23) 11
abbrev s_Fund_add_entry:Stmt:=inClass (top 23) 12
abbrev s_Fund_add_group:Stmt:=inClass (top 23) 13
abbrev s_Fund_undo_group:Stmt:=inClass (top 23) 14
abbrev s_Fit_init:Stmt:=inClass (top 26) 0
abbrev s_Plan_init:Stmt:=inClass (top 27) 0
abbrev s_Plan_grouped:Stmt:=inClass (top 27) 1
abbrev s_Plan_gaps:Stmt:=inClass (top 27) 2
abbrev s_choices:Stmt:=top 28
abbrev s_do_fit:Stmt:=top 29
abbrev s_marks_for:Stmt:=top 30
abbrev s_rank_behind:Stmt:=top 31
abbrev s_Search_init:Stmt:=inClass (top 32) 0
abbrev s_Search_sum_of_marks:Stmt:=inClass (top 32) 1
abbrev s_Search_best_of:Stmt:=inClass (top 32) 2
abbrev s_Search_best_by_first:Stmt:=inClass (top 32) 3
abbrev s_Search_first_free:Stmt:=inClass (top 32) 4
abbrev s_least_explanation:Stmt:=top 33
abbrev s_plan_for:Stmt:=top 34
abbrev s_places_of:Stmt:=top 36
abbrev s_ask_best:Stmt:=top 37
abbrev s_ask_entry:Stmt:=top 38
abbrev s_ask_group:Stmt:=top 39
abbrev s_ask_breaks:Stmt:=top 40
abbrev s_ask_balance:Stmt:=top 41
abbrev s_ask_gap:Stmt:=top 42
abbrev s_ask_aged:Stmt:=top 43
abbrev s_ask_explain:Stmt:=top 44
abbrev s_ask_counts:Stmt:=top 45
abbrev s_clear_all:Stmt:=top 48
abbrev s_tell_account:Stmt:=top 49
abbrev s_write_entry:Stmt:=top 50
abbrev s_take_entry:Stmt:=top 51
abbrev s_may_be_group:Stmt:=top 52
abbrev s_pair_entries:Stmt:=top 53
abbrev s_unpair_group:Stmt:=top 54
abbrev s_first_alike:Stmt:=top 55
abbrev s_reference_matches:Stmt:=top 56
abbrev s_pair_by_reference:Stmt:=top 57
abbrev s_run_plan:Stmt:=top 58
abbrev s_mirror_entry:Stmt:=top 59
abbrev s_tick_days:Stmt:=top 60
abbrev s_answer_change:Stmt:=top 82
abbrev s_answer_ask:Stmt:=top 83
abbrev s_answer:Stmt:=top 84
abbrev s_answers:Stmt:=top 85
theorem sc_within:FnScope ["number", "least", "most"] ["number", "least", "most"] (defScope s_within):=⟨rfl,rfl,rfl,by decide +kernel,rfl,by decide +kernel,by decide +kernel⟩
theorem sc_range_refusal:FnScope ["fund", "book_or_pair", "account"] ["fund", "book_or_pair", "account"] (defScope s_range_refusal):=⟨rfl,rfl,rfl,by decide +kernel,rfl,by decide +kernel,by decide +kernel⟩
theorem sc_plan_refusal:FnScope ["fund", "pair", "account", "refusal"] ["fund", "pair", "account"] (defScope s_plan_refusal):=⟨rfl,rfl,rfl,by decide +kernel,rfl,by decide +kernel,by decide +kernel⟩
theorem sc_gap_of:FnScope ["left", "right", "entry"] ["left", "right"] (defScope s_gap_of):=⟨rfl,rfl,rfl,by decide +kernel,rfl,by decide +kernel,by decide +kernel⟩
theorem sc_Account_init:FnScope ["self", "window", "tolerance", "size"] ["self", "window", "tolerance", "size"] (defScope s_Account_init):=⟨rfl,rfl,rfl,by decide +kernel,rfl,by decide +kernel,by decide +kernel⟩
theorem sc_Entry_init:FnScope ["self", "place", "book", "account", "day", "amount", "reference"] ["self", "place", "book", "account", "day", "amount", "reference"] (defScope s_Entry_init):=⟨rfl,rfl,rfl,by decide +kernel,rfl,by decide +kernel,by decide +kernel⟩
theorem sc_Entry_is_open:FnScope ["self", "pair"] ["self", "pair"] (defScope s_Entry_is_open):=⟨rfl,rfl,rfl,by decide +kernel,rfl,by decide +kernel,by decide +kernel⟩
theorem sc_Group_init:FnScope ["self", "pair", "account", "left", "right"] ["self", "pair", "account", "left", "right"] (defScope s_Group_init):=⟨rfl,rfl,rfl,by decide +kernel,rfl,by decide +kernel,by decide +kernel⟩
theorem sc_Fund_init:FnScope ["self"] ["self"] (defScope s_Fund_init):=⟨rfl,rfl,rfl,by decide +kernel,rfl,by decide +kernel,by decide +kernel⟩
theorem sc_Fund_begin:FnScope ["self"] ["self"] (defScope s_Fund_begin):=⟨rfl,rfl,rfl,by decide +kernel,rfl,by decide +kernel,by decide +kernel⟩
theorem sc_Fund_entry_at:FnScope ["self", "place"] ["self", "place"] (defScope s_Fund_entry_at):=⟨rfl,rfl,rfl,by decide +kernel,rfl,by decide +kernel,by decide +kernel⟩
theorem sc_Fund_group_at:FnScope ["self", "place"] ["self", "place"] (defScope s_Fund_group_at):=⟨rfl,rfl,rfl,by decide +kernel,rfl,by decide +kernel,by decide +kernel⟩
theorem sc_Fund_open_left:FnScope ["self", "pair", "account"] ["self", "pair", "account"] (defScope s_Fund_open_left):=⟨rfl,rfl,rfl,by decide +kernel,rfl,by decide +kernel,by decide +kernel⟩
theorem sc_Fund_open_right:FnScope ["self", "pair", "account"] ["self", "pair", "account"] (defScope s_Fund_open_right):=⟨rfl,rfl,rfl,by decide +kernel,rfl,by decide +kernel,by decide +kernel⟩
theorem sc_Fund_open_in_book:FnScope ["self", "pair", "account", "book", "found", "entry"] ["self", "pair", "account", "book"] (defScope s_Fund_open_in_book):=⟨rfl,rfl,rfl,by decide +kernel,rfl,by decide +kernel,by decide +kernel⟩
theorem sc_Fund_how_many_open:FnScope ["self", "pair", "account"] ["self", "pair", "account"] (defScope s_Fund_how_many_open):=⟨rfl,rfl,rfl,by decide +kernel,rfl,by decide +kernel,by decide +kernel⟩
theorem sc_Fund_balance:FnScope ["self", "book", "account", "entry"] ["self", "book", "account"] (defScope s_Fund_balance):=⟨rfl,rfl,rfl,by decide +kernel,rfl,by decide +kernel,by decide +kernel⟩
theorem sc_Fund_groups_that_hold:FnScope ["self", "pair", "account", "group"] ["self", "pair", "account"] (defScope s_Fund_groups_that_hold):=⟨rfl,rfl,rfl,by decide +kernel,rfl,by decide +kernel,by decide +kernel⟩
theorem sc_Fund_has_room_for_entry:FnScope ["self"] ["self"] (defScope s_Fund_has_room_for_entry):=⟨rfl,rfl,rfl,by decide +kernel,rfl,by decide +kernel,by decide +kernel⟩
theorem sc_Fund_has_room_for_groups:FnScope ["self", "more"] ["self", "more"] (defScope s_Fund_has_room_for_groups):=⟨rfl,rfl,rfl,by decide +kernel,rfl,by decide +kernel,by decide +kernel⟩
theorem sc_Fund_add_entry:FnScope ["self", "book", "account", "day", "amount", "reference", "entry"] ["self", "book", "account", "day", "amount", "reference"] (defScope s_Fund_add_entry):=⟨rfl,rfl,rfl,by decide +kernel,rfl,by decide +kernel,by decide +kernel⟩
theorem sc_Fund_add_group:FnScope ["self", "pair", "left", "right", "place", "entry"] ["self", "pair", "left", "right"] (defScope s_Fund_add_group):=⟨rfl,rfl,rfl,by decide +kernel,rfl,by decide +kernel,by decide +kernel⟩
theorem sc_Fund_undo_group:FnScope ["self", "group", "entry"] ["self", "group"] (defScope s_Fund_undo_group):=⟨rfl,rfl,rfl,by decide +kernel,rfl,by decide +kernel,by decide +kernel⟩
theorem sc_Fit_init:FnScope ["self", "left", "right", "marks"] ["self", "left", "right", "marks"] (defScope s_Fit_init):=⟨rfl,rfl,rfl,by decide +kernel,rfl,by decide +kernel,by decide +kernel⟩
theorem sc_Plan_init:FnScope ["self", "fits", "rank", "marks"] ["self", "fits", "rank", "marks"] (defScope s_Plan_init):=⟨rfl,rfl,rfl,by decide +kernel,rfl,by decide +kernel,by decide +kernel⟩
theorem sc_Plan_grouped:FnScope ["self"] ["self"] (defScope s_Plan_grouped):=⟨rfl,rfl,rfl,by decide +kernel,rfl,by decide +kernel,by decide +kernel⟩
theorem sc_Plan_gaps:FnScope ["self"] ["self"] (defScope s_Plan_gaps):=⟨rfl,rfl,rfl,by decide +kernel,rfl,by decide +kernel,by decide +kernel⟩
theorem sc_choices:FnScope ["entries", "size", "found", "entry", "chosen"] ["entries", "size"] (defScope s_choices):=⟨rfl,rfl,rfl,by decide +kernel,rfl,by decide +kernel,by decide +kernel⟩
theorem sc_do_fit:FnScope ["left", "right", "account", "days", "entry"] ["left", "right", "account"] (defScope s_do_fit):=⟨rfl,rfl,rfl,by decide +kernel,rfl,by decide +kernel,by decide +kernel⟩
theorem sc_marks_for:FnScope ["entries", "marks", "position", "entry"] ["entries"] (defScope s_marks_for):=⟨rfl,rfl,rfl,by decide +kernel,rfl,by decide +kernel,by decide +kernel⟩
theorem sc_rank_behind:FnScope ["fit", "rest", "rank", "row"] ["fit", "rest"] (defScope s_rank_behind):=⟨rfl,rfl,rfl,by decide +kernel,rfl,by decide +kernel,by decide +kernel⟩
theorem sc_Search_init:FnScope ["self", "lefts", "rights", "account", "entry", "right_choices", "left", "right"] ["self", "lefts", "rights", "account"] (defScope s_Search_init):=⟨rfl,rfl,rfl,by decide +kernel,rfl,by decide +kernel,by decide +kernel⟩
theorem sc_Search_sum_of_marks:FnScope ["self", "entries", "entry"] ["self", "entries"] (defScope s_Search_sum_of_marks):=⟨rfl,rfl,rfl,by decide +kernel,rfl,by decide +kernel,by decide +kernel⟩
theorem sc_Search_best_of:FnScope ["self", "free"] ["self", "free"] (defScope s_Search_best_of):=⟨rfl,rfl,rfl,by decide +kernel,rfl,by decide +kernel,by decide +kernel⟩
theorem sc_Search_best_by_first:FnScope ["self", "free", "first", "best", "fit", "rest", "rank"] ["self", "free"] (defScope s_Search_best_by_first):=⟨rfl,rfl,rfl,by decide +kernel,rfl,by decide +kernel,by decide +kernel⟩
theorem sc_Search_first_free:FnScope ["self", "free", "entry"] ["self", "free"] (defScope s_Search_first_free):=⟨rfl,rfl,rfl,by decide +kernel,rfl,by decide +kernel,by decide +kernel⟩
theorem sc_least_explanation:FnScope ["lefts", "rights", "account", "search"] ["lefts", "rights", "account"] (defScope s_least_explanation):=⟨rfl,rfl,rfl,by decide +kernel,rfl,by decide +kernel,by decide +kernel⟩
theorem sc_plan_for:FnScope ["fund", "pair", "account", "lefts", "rights"] ["fund", "pair", "account"] (defScope s_plan_for):=⟨rfl,rfl,rfl,by decide +kernel,rfl,by decide +kernel,by decide +kernel⟩
theorem sc_places_of:FnScope ["entries", "entry"] ["entries"] (defScope s_places_of):=⟨rfl,rfl,rfl,by decide +kernel,rfl,by decide +kernel,by decide +kernel⟩
theorem sc_ask_best:FnScope ["fund", "p", "a", "refusal", "plan"] ["fund", "p", "a"] (defScope s_ask_best):=⟨rfl,rfl,rfl,by decide +kernel,rfl,by decide +kernel,by decide +kernel⟩
theorem sc_ask_entry:FnScope ["fund", "place", "entry"] ["fund", "place"] (defScope s_ask_entry):=⟨rfl,rfl,rfl,by decide +kernel,rfl,by decide +kernel,by decide +kernel⟩
theorem sc_ask_group:FnScope ["fund", "place", "group", "ahead"] ["fund", "place"] (defScope s_ask_group):=⟨rfl,rfl,rfl,by decide +kernel,rfl,by decide +kernel,by decide +kernel⟩
theorem sc_ask_breaks:FnScope ["fund", "p", "a", "refusal", "lefts", "rights"] ["fund", "p", "a"] (defScope s_ask_breaks):=⟨rfl,rfl,rfl,by decide +kernel,rfl,by decide +kernel,by decide +kernel⟩
theorem sc_ask_balance:FnScope ["fund", "book", "a", "refusal"] ["fund", "book", "a"] (defScope s_ask_balance):=⟨rfl,rfl,rfl,by decide +kernel,rfl,by decide +kernel,by decide +kernel⟩
theorem sc_ask_gap:FnScope ["fund", "p", "a", "refusal", "books_differ_by", "still_open", "let_pass", "group"] ["fund", "p", "a"] (defScope s_ask_gap):=⟨rfl,rfl,rfl,by decide +kernel,rfl,by decide +kernel,by decide +kernel⟩
theorem sc_ask_aged:FnScope ["fund", "p", "a", "n", "refusal", "either", "aged", "entry"] ["fund", "p", "a", "n"] (defScope s_ask_aged):=⟨rfl,rfl,rfl,by decide +kernel,rfl,by decide +kernel,by decide +kernel⟩
theorem sc_ask_explain:FnScope ["fund", "p", "a", "refusal", "plan", "told", "fit"] ["fund", "p", "a"] (defScope s_ask_explain):=⟨rfl,rfl,rfl,by decide +kernel,rfl,by decide +kernel,by decide +kernel⟩
theorem sc_ask_counts:FnScope ["fund", "there", "entry", "holding", "group"] ["fund"] (defScope s_ask_counts):=⟨rfl,rfl,rfl,by decide +kernel,rfl,by decide +kernel,by decide +kernel⟩
theorem sc_clear_all:FnScope ["fund"] ["fund"] (defScope s_clear_all):=⟨rfl,rfl,rfl,by decide +kernel,rfl,by decide +kernel,by decide +kernel⟩
theorem sc_tell_account:FnScope ["fund", "a", "window", "tolerance", "size"] ["fund", "a", "window", "tolerance", "size"] (defScope s_tell_account):=⟨rfl,rfl,rfl,by decide +kernel,rfl,by decide +kernel,by decide +kernel⟩
theorem sc_write_entry:FnScope ["fund", "book", "a", "day", "amount", "reference"] ["fund", "book", "a", "day", "amount", "reference"] (defScope s_write_entry):=⟨rfl,rfl,rfl,by decide +kernel,rfl,by decide +kernel,by decide +kernel⟩
theorem sc_take_entry:FnScope ["fund", "place", "entry", "pair"] ["fund", "place"] (defScope s_take_entry):=⟨rfl,rfl,rfl,by decide +kernel,rfl,by decide +kernel,by decide +kernel⟩
theorem sc_may_be_group:FnScope ["entries", "pair", "entry"] ["entries", "pair"] (defScope s_may_be_group):=⟨rfl,rfl,rfl,by decide +kernel,rfl,by decide +kernel,by decide +kernel⟩
theorem sc_pair_entries:FnScope ["fund", "p", "places", "place", "entries", "left", "entry", "right"] ["fund", "p", "places"] (defScope s_pair_entries):=⟨rfl,rfl,rfl,by decide +kernel,rfl,by decide +kernel,by decide +kernel⟩
theorem sc_unpair_group:FnScope ["fund", "place", "group"] ["fund", "place"] (defScope s_unpair_group):=⟨rfl,rfl,rfl,by decide +kernel,rfl,by decide +kernel,by decide +kernel⟩
theorem sc_first_alike:FnScope ["entry", "others", "other"] ["entry", "others"] (defScope s_first_alike):=⟨rfl,rfl,rfl,by decide +kernel,rfl,by decide +kernel,by decide +kernel⟩
theorem sc_reference_matches:FnScope ["lefts", "rights", "matches", "free", "left", "right"] ["lefts", "rights"] (defScope s_reference_matches):=⟨rfl,rfl,rfl,by decide +kernel,rfl,by decide +kernel,by decide +kernel⟩
theorem sc_pair_by_reference:FnScope ["fund", "p", "a", "refusal", "matches", "left", "right"] ["fund", "p", "a"] (defScope s_pair_by_reference):=⟨rfl,rfl,rfl,by decide +kernel,rfl,by decide +kernel,by decide +kernel⟩
theorem sc_run_plan:FnScope ["fund", "p", "a", "refusal", "plan", "fit"] ["fund", "p", "a"] (defScope s_run_plan):=⟨rfl,rfl,rfl,by decide +kernel,rfl,by decide +kernel,by decide +kernel⟩
theorem sc_mirror_entry:FnScope ["fund", "p", "place", "entry", "is_left", "other_book", "image"] ["fund", "p", "place"] (defScope s_mirror_entry):=⟨rfl,rfl,rfl,by decide +kernel,rfl,by decide +kernel,by decide +kernel⟩
theorem sc_tick_days:FnScope ["fund", "n"] ["fund", "n"] (defScope s_tick_days):=⟨rfl,rfl,rfl,by decide +kernel,rfl,by decide +kernel,by decide +kernel⟩
theorem sc_answer_change:FnScope ["fund", "number", "given", "row"] ["fund", "number", "given", "row"] (defScope s_answer_change):=⟨rfl,rfl,rfl,by decide +kernel,rfl,by decide +kernel,by decide +kernel⟩
theorem sc_answer_ask:FnScope ["fund", "number", "given"] ["fund", "number", "given"] (defScope s_answer_ask):=⟨rfl,rfl,rfl,by decide +kernel,rfl,by decide +kernel,by decide +kernel⟩
theorem sc_answer:FnScope ["fund", "number", "given", "row", "numbers"] ["fund", "number", "given", "row"] (defScope s_answer):=⟨rfl,rfl,rfl,by decide +kernel,rfl,by decide +kernel,by decide +kernel⟩
theorem sc_answers:FnScope ["calls", "fund", "told", "start", "number", "end", "given", "row", "row_start", "numbers"] ["calls"] (defScope s_answers):=⟨rfl,rfl,rfl,by decide +kernel,rfl,by decide +kernel,by decide +kernel⟩
set_option genInjectivity false in
set_option genSizeOf false in
structure Txt (K:PySem.W.Frag) (mg:Str→Option Value) where
  c_Account:Addr
  cl_Account:Cls K c_Account
  mg_Account:mg "Account" = some (.ref c_Account)
  na_Account_window:NoAttr K c_Account "window"
  na_Account_tolerance:NoAttr K c_Account "tolerance"
  na_Account_size:NoAttr K c_Account "size"
  c_Entry:Addr
  cl_Entry:Cls K c_Entry
  mg_Entry:mg "Entry" = some (.ref c_Entry)
  na_Entry_place:NoAttr K c_Entry "place"
  na_Entry_book:NoAttr K c_Entry "book"
  na_Entry_account:NoAttr K c_Entry "account"
  na_Entry_day:NoAttr K c_Entry "day"
  na_Entry_amount:NoAttr K c_Entry "amount"
  na_Entry_reference:NoAttr K c_Entry "reference"
  na_Entry_there:NoAttr K c_Entry "there"
  na_Entry_in_groups:NoAttr K c_Entry "in_groups"
  c_Group:Addr
  cl_Group:Cls K c_Group
  mg_Group:mg "Group" = some (.ref c_Group)
  na_Group_pair:NoAttr K c_Group "pair"
  na_Group_account:NoAttr K c_Group "account"
  na_Group_left:NoAttr K c_Group "left"
  na_Group_right:NoAttr K c_Group "right"
  na_Group_holds:NoAttr K c_Group "holds"
  c_Fund:Addr
  cl_Fund:Cls K c_Fund
  mg_Fund:mg "Fund" = some (.ref c_Fund)
  na_Fund_today:NoAttr K c_Fund "today"
  na_Fund_accounts:NoAttr K c_Fund "accounts"
  na_Fund_entries:NoAttr K c_Fund "entries"
  na_Fund_groups:NoAttr K c_Fund "groups"
  c_Fit:Addr
  cl_Fit:Cls K c_Fit
  mg_Fit:mg "Fit" = some (.ref c_Fit)
  na_Fit_left:NoAttr K c_Fit "left"
  na_Fit_right:NoAttr K c_Fit "right"
  na_Fit_gap:NoAttr K c_Fit "gap"
  na_Fit_many:NoAttr K c_Fit "many"
  na_Fit_marks:NoAttr K c_Fit "marks"
  c_Plan:Addr
  cl_Plan:Cls K c_Plan
  mg_Plan:mg "Plan" = some (.ref c_Plan)
  na_Plan_fits:NoAttr K c_Plan "fits"
  na_Plan_rank:NoAttr K c_Plan "rank"
  na_Plan_marks:NoAttr K c_Plan "marks"
  c_Search:Addr
  cl_Search:Cls K c_Search
  mg_Search:mg "Search" = some (.ref c_Search)
  na_Search_marks:NoAttr K c_Search "marks"
  na_Search_lefts:NoAttr K c_Search "lefts"
  na_Search_known:NoAttr K c_Search "known"
  na_Search_fits_from:NoAttr K c_Search "fits_from"
  f_within:FnT K "within" "within" s_within ["number", "least", "most"]
  m_within:mg "within" = some (.ref f_within.f)
  f_range_refusal:FnT K "range_refusal" "range_refusal" s_range_refusal ["fund", "book_or_pair", "account"]
  m_range_refusal:mg "range_refusal" = some (.ref f_range_refusal.f)
  f_plan_refusal:FnT K "plan_refusal" "plan_refusal" s_plan_refusal ["fund", "pair", "account"]
  m_plan_refusal:mg "plan_refusal" = some (.ref f_plan_refusal.f)
  f_gap_of:FnT K "gap_of" "gap_of" s_gap_of ["left", "right"]
  m_gap_of:mg "gap_of" = some (.ref f_gap_of.f)
  f_Account_init:FnT K "__init__" "Account.__init__" s_Account_init ["self", "window", "tolerance", "size"]
  mk_Account:Mk K c_Account f_Account_init.f
  f_Entry_init:FnT K "__init__" "Entry.__init__" s_Entry_init ["self", "place", "book", "account", "day", "amount", "reference"]
  mk_Entry:Mk K c_Entry f_Entry_init.f
  f_Entry_is_open:FnT K "is_open" "Entry.is_open" s_Entry_is_open ["self", "pair"]
  me_Entry_is_open:Meth K c_Entry "is_open" f_Entry_is_open.f
  f_Group_init:FnT K "__init__" "Group.__init__" s_Group_init ["self", "pair", "account", "left", "right"]
  mk_Group:Mk K c_Group f_Group_init.f
  f_Fund_init:FnT K "__init__" "Fund.__init__" s_Fund_init ["self"]
  mk_Fund:Mk K c_Fund f_Fund_init.f
  f_Fund_begin:FnT K "begin" "Fund.begin" s_Fund_begin ["self"]
  me_Fund_begin:Meth K c_Fund "begin" f_Fund_begin.f
  f_Fund_entry_at:FnT K "entry_at" "Fund.entry_at" s_Fund_entry_at ["self", "place"]
  me_Fund_entry_at:Meth K c_Fund "entry_at" f_Fund_entry_at.f
  f_Fund_group_at:FnT K "group_at" "Fund.group_at" s_Fund_group_at ["self", "place"]
  me_Fund_group_at:Meth K c_Fund "group_at" f_Fund_group_at.f
  f_Fund_open_left:FnT K "open_left" "Fund.open_left" s_Fund_open_left ["self", "pair", "account"]
  me_Fund_open_left:Meth K c_Fund "open_left" f_Fund_open_left.f
  f_Fund_open_right:FnT K "open_right" "Fund.open_right" s_Fund_open_right ["self", "pair", "account"]
  me_Fund_open_right:Meth K c_Fund "open_right" f_Fund_open_right.f
  f_Fund_open_in_book:FnT K "open_in_book" "Fund.open_in_book" s_Fund_open_in_book ["self", "pair", "account", "book"]
  me_Fund_open_in_book:Meth K c_Fund "open_in_book" f_Fund_open_in_book.f
  f_Fund_how_many_open:FnT K "how_many_open" "Fund.how_many_open" s_Fund_how_many_open ["self", "pair", "account"]
  me_Fund_how_many_open:Meth K c_Fund "how_many_open" f_Fund_how_many_open.f
  f_Fund_balance:FnT K "balance" "Fund.balance" s_Fund_balance ["self", "book", "account"]
  me_Fund_balance:Meth K c_Fund "balance" f_Fund_balance.f
  f_Fund_groups_that_hold:FnT K "groups_that_hold" "Fund.groups_that_hold" s_Fund_groups_that_hold ["self", "pair", "account"]
  me_Fund_groups_that_hold:Meth K c_Fund "groups_that_hold" f_Fund_groups_that_hold.f
  f_Fund_has_room_for_entry:FnT K "has_room_for_entry" "Fund.has_room_for_entry" s_Fund_has_room_for_entry ["self"]
  me_Fund_has_room_for_entry:Meth K c_Fund "has_room_for_entry" f_Fund_has_room_for_entry.f
  f_Fund_has_room_for_groups:FnT K "has_room_for_groups" "Fund.has_room_for_groups" s_Fund_has_room_for_groups ["self", "more"]
  me_Fund_has_room_for_groups:Meth K c_Fund "has_room_for_groups" f_Fund_has_room_for_groups.f
  f_Fund_add_entry:FnT K "add_entry" "Fund.add_entry" s_Fund_add_entry ["self", "book", "account", "day", "amount", "reference"]
  me_Fund_add_entry:Meth K c_Fund "add_entry" f_Fund_add_entry.f
  f_Fund_add_group:FnT K "add_group" "Fund.add_group" s_Fund_add_group ["self", "pair", "left", "right"]
  me_Fund_add_group:Meth K c_Fund "add_group" f_Fund_add_group.f
  f_Fund_undo_group:FnT K "undo_group" "Fund.undo_group" s_Fund_undo_group ["self", "group"]
  me_Fund_undo_group:Meth K c_Fund "undo_group" f_Fund_undo_group.f
  f_Fit_init:FnT K "__init__" "Fit.__init__" s_Fit_init ["self", "left", "right", "marks"]
  mk_Fit:Mk K c_Fit f_Fit_init.f
  f_Plan_init:FnT K "__init__" "Plan.__init__" s_Plan_init ["self", "fits", "rank", "marks"]
  mk_Plan:Mk K c_Plan f_Plan_init.f
  f_Plan_grouped:FnT K "grouped" "Plan.grouped" s_Plan_grouped ["self"]
  me_Plan_grouped:Meth K c_Plan "grouped" f_Plan_grouped.f
  f_Plan_gaps:FnT K "gaps" "Plan.gaps" s_Plan_gaps ["self"]
  me_Plan_gaps:Meth K c_Plan "gaps" f_Plan_gaps.f
  f_choices:FnT K "choices" "choices" s_choices ["entries", "size"]
  m_choices:mg "choices" = some (.ref f_choices.f)
  f_do_fit:FnT K "do_fit" "do_fit" s_do_fit ["left", "right", "account"]
  m_do_fit:mg "do_fit" = some (.ref f_do_fit.f)
  f_marks_for:FnT K "marks_for" "marks_for" s_marks_for ["entries"]
  m_marks_for:mg "marks_for" = some (.ref f_marks_for.f)
  f_rank_behind:FnT K "rank_behind" "rank_behind" s_rank_behind ["fit", "rest"]
  m_rank_behind:mg "rank_behind" = some (.ref f_rank_behind.f)
  f_Search_init:FnT K "__init__" "Search.__init__" s_Search_init ["self", "lefts", "rights", "account"]
  mk_Search:Mk K c_Search f_Search_init.f
  f_Search_sum_of_marks:FnT K "sum_of_marks" "Search.sum_of_marks" s_Search_sum_of_marks ["self", "entries"]
  me_Search_sum_of_marks:Meth K c_Search "sum_of_marks" f_Search_sum_of_marks.f
  f_Search_best_of:FnT K "best_of" "Search.best_of" s_Search_best_of ["self", "free"]
  me_Search_best_of:Meth K c_Search "best_of" f_Search_best_of.f
  f_Search_best_by_first:FnT K "best_by_first" "Search.best_by_first" s_Search_best_by_first ["self", "free"]
  me_Search_best_by_first:Meth K c_Search "best_by_first" f_Search_best_by_first.f
  f_Search_first_free:FnT K "first_free" "Search.first_free" s_Search_first_free ["self", "free"]
  me_Search_first_free:Meth K c_Search "first_free" f_Search_first_free.f
  f_least_explanation:FnT K "least_explanation" "least_explanation" s_least_explanation ["lefts", "rights", "account"]
  m_least_explanation:mg "least_explanation" = some (.ref f_least_explanation.f)
  f_plan_for:FnT K "plan_for" "plan_for" s_plan_for ["fund", "pair", "account"]
  m_plan_for:mg "plan_for" = some (.ref f_plan_for.f)
  f_places_of:FnT K "places_of" "places_of" s_places_of ["entries"]
  m_places_of:mg "places_of" = some (.ref f_places_of.f)
  f_ask_best:FnT K "ask_best" "ask_best" s_ask_best ["fund", "p", "a"]
  m_ask_best:mg "ask_best" = some (.ref f_ask_best.f)
  f_ask_entry:FnT K "ask_entry" "ask_entry" s_ask_entry ["fund", "place"]
  m_ask_entry:mg "ask_entry" = some (.ref f_ask_entry.f)
  f_ask_group:FnT K "ask_group" "ask_group" s_ask_group ["fund", "place"]
  m_ask_group:mg "ask_group" = some (.ref f_ask_group.f)
  f_ask_breaks:FnT K "ask_breaks" "ask_breaks" s_ask_breaks ["fund", "p", "a"]
  m_ask_breaks:mg "ask_breaks" = some (.ref f_ask_breaks.f)
  f_ask_balance:FnT K "ask_balance" "ask_balance" s_ask_balance ["fund", "book", "a"]
  m_ask_balance:mg "ask_balance" = some (.ref f_ask_balance.f)
  f_ask_gap:FnT K "ask_gap" "ask_gap" s_ask_gap ["fund", "p", "a"]
  m_ask_gap:mg "ask_gap" = some (.ref f_ask_gap.f)
  f_ask_aged:FnT K "ask_aged" "ask_aged" s_ask_aged ["fund", "p", "a", "n"]
  m_ask_aged:mg "ask_aged" = some (.ref f_ask_aged.f)
  f_ask_explain:FnT K "ask_explain" "ask_explain" s_ask_explain ["fund", "p", "a"]
  m_ask_explain:mg "ask_explain" = some (.ref f_ask_explain.f)
  f_ask_counts:FnT K "ask_counts" "ask_counts" s_ask_counts ["fund"]
  m_ask_counts:mg "ask_counts" = some (.ref f_ask_counts.f)
  f_clear_all:FnT K "clear_all" "clear_all" s_clear_all ["fund"]
  m_clear_all:mg "clear_all" = some (.ref f_clear_all.f)
  f_tell_account:FnT K "tell_account" "tell_account" s_tell_account ["fund", "a", "window", "tolerance", "size"]
  m_tell_account:mg "tell_account" = some (.ref f_tell_account.f)
  f_write_entry:FnT K "write_entry" "write_entry" s_write_entry ["fund", "book", "a", "day", "amount", "reference"]
  m_write_entry:mg "write_entry" = some (.ref f_write_entry.f)
  f_take_entry:FnT K "take_entry" "take_entry" s_take_entry ["fund", "place"]
  m_take_entry:mg "take_entry" = some (.ref f_take_entry.f)
  f_may_be_group:FnT K "may_be_group" "may_be_group" s_may_be_group ["entries", "pair"]
  m_may_be_group:mg "may_be_group" = some (.ref f_may_be_group.f)
  f_pair_entries:FnT K "pair_entries" "pair_entries" s_pair_entries ["fund", "p", "places"]
  m_pair_entries:mg "pair_entries" = some (.ref f_pair_entries.f)
  f_unpair_group:FnT K "unpair_group" "unpair_group" s_unpair_group ["fund", "place"]
  m_unpair_group:mg "unpair_group" = some (.ref f_unpair_group.f)
  f_first_alike:FnT K "first_alike" "first_alike" s_first_alike ["entry", "others"]
  m_first_alike:mg "first_alike" = some (.ref f_first_alike.f)
  f_reference_matches:FnT K "reference_matches" "reference_matches" s_reference_matches ["lefts", "rights"]
  m_reference_matches:mg "reference_matches" = some (.ref f_reference_matches.f)
  f_pair_by_reference:FnT K "pair_by_reference" "pair_by_reference" s_pair_by_reference ["fund", "p", "a"]
  m_pair_by_reference:mg "pair_by_reference" = some (.ref f_pair_by_reference.f)
  f_run_plan:FnT K "run_plan" "run_plan" s_run_plan ["fund", "p", "a"]
  m_run_plan:mg "run_plan" = some (.ref f_run_plan.f)
  f_mirror_entry:FnT K "mirror_entry" "mirror_entry" s_mirror_entry ["fund", "p", "place"]
  m_mirror_entry:mg "mirror_entry" = some (.ref f_mirror_entry.f)
  f_tick_days:FnT K "tick_days" "tick_days" s_tick_days ["fund", "n"]
  m_tick_days:mg "tick_days" = some (.ref f_tick_days.f)
  f_answer_change:FnT K "answer_change" "answer_change" s_answer_change ["fund", "number", "given", "row"]
  m_answer_change:mg "answer_change" = some (.ref f_answer_change.f)
  f_answer_ask:FnT K "answer_ask" "answer_ask" s_answer_ask ["fund", "number", "given"]
  m_answer_ask:mg "answer_ask" = some (.ref f_answer_ask.f)
  f_answer:FnT K "answer" "answer" s_answer ["fund", "number", "given", "row"]
  m_answer:mg "answer" = some (.ref f_answer.f)
  f_answers:FnT K "answers" "answers" s_answers ["calls"]
  m_answers:mg "answers" = some (.ref f_answers.f)
  g_OUT_OF_RANGE:∃ t,mg "OUT_OF_RANGE" = some (.int (-1) t)
  g_NO_ACCOUNT:∃ t,mg "NO_ACCOUNT" = some (.int (-2) t)
  g_FULL:∃ t,mg "FULL" = some (.int (-3) t)
  g_NOT_THERE:∃ t,mg "NOT_THERE" = some (.int (-4) t)
  g_NOT_FREE:∃ t,mg "NOT_FREE" = some (.int (-5) t)
  g_ONE_BOOK:∃ t,mg "ONE_BOOK" = some (.int (-6) t)
  g_GAP_TOO_WIDE:∃ t,mg "GAP_TOO_WIDE" = some (.int (-7) t)
  g_TOO_MANY_OPEN:∃ t,mg "TOO_MANY_OPEN" = some (.int (-8) t)
  g_MOST_OPEN:∃ t,mg "MOST_OPEN" = some (.int (5) t)
  g_MOST_ENTRIES:∃ t,mg "MOST_ENTRIES" = some (.int (200) t)
  g_MOST_GROUPS:∃ t,mg "MOST_GROUPS" = some (.int (300) t)
  g_LAST_DAY:∃ t,mg "LAST_DAY" = some (.int (100000) t)
  g_NO_GROUP:∃ t,mg "NO_GROUP" = some (.int (-1) t)
  g_LABEL_BITS:∃ t,mg "LABEL_BITS" = some (.int (3) t)
  g_MOST_AMOUNT:∃ t,mg "MOST_AMOUNT" = some (.int (1000000000000) t)
  g_CLEAR:∃ t,mg "CLEAR" = some (.int (0) t)
  g_ACCOUNT:∃ t,mg "ACCOUNT" = some (.int (1) t)
  g_ENTRY:∃ t,mg "ENTRY" = some (.int (2) t)
  g_TAKE:∃ t,mg "TAKE" = some (.int (3) t)
  g_PAIR:∃ t,mg "PAIR" = some (.int (4) t)
  g_UNPAIR:∃ t,mg "UNPAIR" = some (.int (5) t)
  g_BYREF:∃ t,mg "BYREF" = some (.int (6) t)
  g_RUN:∃ t,mg "RUN" = some (.int (7) t)
  g_BEST:∃ t,mg "BEST" = some (.int (8) t)
  g_MIRROR:∃ t,mg "MIRROR" = some (.int (9) t)
  g_TICK:∃ t,mg "TICK" = some (.int (10) t)
  g_ENTRYAT:∃ t,mg "ENTRYAT" = some (.int (11) t)
  g_GROUP:∃ t,mg "GROUP" = some (.int (12) t)
  g_BREAKS:∃ t,mg "BREAKS" = some (.int (13) t)
  g_BALANCE:∃ t,mg "BALANCE" = some (.int (14) t)
  g_GAP:∃ t,mg "GAP" = some (.int (15) t)
  g_AGED:∃ t,mg "AGED" = some (.int (16) t)
  g_EXPLAIN:∃ t,mg "EXPLAIN" = some (.int (17) t)
  g_COUNTS:∃ t,mg "COUNTS" = some (.int (18) t)
  a_pb:Addr
  g_PAIR_BOOKS:mg "PAIR_BOOKS" = some (.ref a_pb)
  a_pb0:Addr
  a_pb1:Addr
  a_pb2:Addr
  pb:KTup K a_pb [.ref a_pb0,.ref a_pb1,.ref a_pb2]
  pb0:KTup K a_pb0 [.int 0,.int 1]
  pb1:KTup K a_pb1 [.int 0,.int 2]
  pb2:KTup K a_pb2 [.int 1,.int 2]
  a_hm:Addr
  g_HOW_MANY:mg "HOW_MANY" = some (.ref a_hm)
  hm:KTup K a_hm [.int 0,.int 4,.int 5,.int 1,.int 1,.int 1,.int 2,.int 2,.int 2,.int 2,.int 1,.int 1,.int 1,.int 2,.int 2,.int 2,.int 3,.int 2,.int 0]
  n_sum:mg "sum" = none
  n_max:mg "max" = none
  n_min:mg "min" = none
  n_any:mg "any" = none
  n_all:mg "all" = none
  n_abs:mg "abs" = none
  n_len:mg "len" = none
  n_list:mg "list" = none
  n_set:mg "set" = none
  n_sorted:mg "sorted" = none
  n_range:mg "range" = none
  n_enumerate:mg "enumerate" = none
  n_reversed:mg "reversed" = none
  tab:PySem.W.codeHdIn K 167 165=true∧f_Fund_open_in_book.fd.code = .ref 167
  cmp:CmpK K c_Entry
  bm:mg "__builtins__" = some (.ref 4)
end TB
namespace TB
open PySem PySem.Spec PyProof.Rows L2
open PySem.W (Codec)
def lamQ:Str := "Fund.open_in_book.<locals>.<lambda>"
def CodeF (c:Addr):Heap→Prop:=fun h=>h.CodeRec (.ref c) lamQ
def BmF:Heap→Prop:=fun h=>∃ o,h.get? 4=some o∧o.cls = .type "module" ∧ o.dict=some builtinsNs∧o.data = .plain
def TabOk (H:Hp):Prop:=(∃ ob,H 4=some (.frz ob (.ext BmF)))∧∃ ps,H 165=some (.tbl ps)∧(ps=#[]∨∃ c,ps=#[rawInt 91,rawInt 33,.ref c]∧H c=some (.ext (CodeF c)))
def plain:HO→Bool
  | .lst _=>true
  | .tup _=>true
  | .dK _=>true
  | .ins _ _ _=>true
  | .frz _ (.ext _)=>false
  | .frz _ _=>true
  | .set _ _=>true
  | .own _=>true
  | _=>false
structure Sx (S:Addr→Prop) (H H':Hp):Prop where
  keep:∀ b o,¬ S b→plain o=true→H b=some o→H' b=some o
  free:∀ b,H' b=none→H b=none
  tab:TabOk H→TabOk H'
abbrev Sm:Hp→Hp→Prop:=Sx fun _=>False
theorem Sx.refl {S:Addr→Prop} (H:Hp):Sx S H H:=⟨fun _ _ _ _ h=>h,fun _ h=>h,fun h=>h⟩
theorem Sx.trans {S:Addr→Prop} {H H1 H2:Hp} (a:Sx S H H1) (b:Sx S H1 H2):Sx S H H2:=⟨fun c o n p h=>b.keep c o n p (a.keep c o n p h),fun c h=>a.free c (b.free c h),fun h=>b.tab (a.tab h)⟩
theorem Sx.mono {S S':Addr→Prop} {H H1:Hp} (a:Sx S H H1) (h:∀ b,S b→S' b):Sx S' H H1:=⟨fun c o n p q=>a.keep c o (fun z=>n (h c z)) p q,a.free,a.tab⟩
theorem Sx.weak {S:Addr→Prop} {H H1:Hp} (a:Sm H H1):Sx S H H1:=a.mono fun _ z=>z.elim
theorem Sx.get {H H':Hp} (a:Sm H H') {b:Addr} {o:HO} (h:H b=some o) (p:plain o=true:=by rfl):H' b=some o:=a.keep b o (fun z=>z) p h
theorem Sx.new {S:Addr→Prop} {H:Hp} {a:Addr} {o:HO} (h:H a=none):Sx S H (upd H a o):=by
  refine ⟨fun b u _ _ e=>by rw [upd_ne (ne_of_none e h)];exact e,fun b e=>?_,fun ⟨⟨ob,e0⟩,ps,e1,e2⟩=>⟨⟨ob,by rw [upd_ne (ne_of_none e0 h)];exact e0⟩,ps,by rw [upd_ne (ne_of_none e1 h)];exact e1,?_⟩⟩
  · by_cases hb:b=a
    · rw [hb];exact h
    · rw [upd_ne hb] at e;exact e
  · rcases e2 with e2 | ⟨c,e2,e3⟩
    · exact .inl e2
    · exact .inr ⟨c,e2,by rw [upd_ne (ne_of_none e3 h)];exact e3⟩
theorem Sx.put {S:Addr→Prop} {H:Hp} {a:Addr} {o u:HO} (hS:S a) (h:H a=some o) (hp:plain o=true:=by rfl):Sx S H (upd H a u):=by
  have na:∀ {b:Addr} {v:HO},plain v=false→H b=some v→b≠a:=fun {b v} pv e q=>by rw [q,h] at e;cases e;rw [hp] at pv;cases pv
  refine ⟨fun b v n _ e=>by rw [upd_ne (fun q=>n (by rw [q];exact hS))];exact e,fun b e=>?_,fun ⟨⟨ob,e0⟩,ps,e1,e2⟩=>⟨⟨ob,by rw [upd_ne (na rfl e0)];exact e0⟩,ps,by rw [upd_ne (na rfl e1)];exact e1,?_⟩⟩
  · by_cases hb:b=a
    · rw [hb,upd_same] at e;cases e
    · rw [upd_ne hb] at e;exact e
  · rcases e2 with e2 | ⟨c,e2,e3⟩
    · exact .inl e2
    · exact .inr ⟨c,e2,by rw [upd_ne (na rfl e3)];exact e3⟩
theorem Sx.put_new {S:Addr→Prop} {H H1:Hp} {a:Addr} {o u:HO} (s:Sx S H H1) (n:H a=none) (h:H1 a=some o) (hp:plain o=true:=by rfl):Sx S H (upd H1 a u):=by
  have z:Sx (fun b=>b=a) H1 (upd H1 a u):=Sx.put rfl h hp
  refine ⟨fun b v nb pv e=>z.keep b v (ne_of_none e n) pv (s.keep b v nb pv e),fun b e=>s.free b (z.free b e),fun t=>z.tab (s.tab t)⟩
theorem Sx.sq {H H':Hp} (a:Sm H H') {K:PySem.W.Frag} {l:Addr} {xs:List V} (h:SqL K H l xs):SqL K H' l xs:=by
  rcases h with (h | ⟨o,h⟩) | h
  · exact .inl (.inl (a.get h))
  · exact .inl (.inr ⟨o,a.get h⟩)
  · exact .inr h
theorem sz {n:Nat} (h:n≤100000):n < sizeLine:=by rw [sizeLine_eq];omega
theorem sz' {n:Nat} (h:n≤100000):n≤sizeLine:=Nat.le_of_lt (sz h)
theorem lc_fn {K : PySem.W.Frag} {a : Addr} {α : Type} {ys : List α} {c : α → V} {p : α → Bool} {f : α → V} {g : TG} {tt : TT} {te : TE} {vs : List Nat} {σ : L2.St} {H1 : Hp} {D : Addr} {Qd : Hp → Prop} (hD : H1 D = none) (hS : SqL K H1 a (ys.map c)) (hz : ys.length ≤ 100000)
    (hs:∀ y ∈ ys,∀ (H':Hp) (Q1:V→Hp→Prop) (Q0:Hp→Prop),Sm H1 H'→(p y=true→∀ H4,Sm H' H4→Q1 (f y) H4)→(p y=false→∀ H4,Sm H' H4→Q0 H4) →
      g (c y) (wipe σ vs) H' fun σ2 H2=>wipe σ2 vs=wipe σ vs∧tt σ2 H2 fun b H3=>if b=true then te σ2 H3 Q1 else Q0 H3)
    (hd:∀ H',Sm H1 H'→H' D=some (.lst ((ys.filter p).map f))→Qd H') :
    ∃ W:Nat→Nat→Hp→Prop,(∃ m,W 0 m (upd H1 D (.lst [])))∧∀ i m H,W i m H →
      ((Itl K a).stop i H∧Qd H)∨((Itl K a).go i H∧∃ Nx:Hp→Prop,(∀ H',Nx H'→∃ m',m' < m∧W (i + 1) m' H')∧∀ x H',(Itl K a).yld i H x H'→g x (wipe σ vs) H' fun σ2 H2=>wipe σ2 vs=wipe σ vs∧tt σ2 H2 fun b H3 =>
        if b=true then te σ2 H3 fun y H4=>∃ acc,H4 D=some (.lst acc)∧acc.length < sizeLine∧Nx (upd H4 D (.lst (acc++[y]))) else Nx H3):=by
  refine lc_list (xs:=ys.map c) (fun i H'=>Sm H1 H'∧H' D=some (.lst (((ys.take i).filter p).map f))) ⟨Sx.new hD,by rw [upd_same];rfl⟩ (fun i H' _ ⟨s,_⟩=>s.sq hS) ?_ ?_
  · rintro i x H' hi ⟨s,hDc⟩
    rw [List.getElem?_map] at hi
    cases e:ys[i]? with
    | none=>rw [e] at hi;cases hi
    | some y =>
      rw [e] at hi
      obtain rfl:c y=x:=Option.some.inj hi
      have et:ys.take (i + 1)=ys.take i++[y]:=by rw [List.take_add_one,e];rfl
      have hlen:(((ys.take i).filter p).map f).length < sizeLine:=by
        rw [List.length_map]
        refine sz (Nat.le_trans (List.length_filter_le _ _) ?_)
        rw [List.length_take];omega
      refine hs y (List.mem_of_getElem? e) H' _ _ s (fun hp H4 s4=>?_) (fun hp H4 s4=>?_)
      · refine ⟨_,s4.get hDc,hlen,(s.trans s4).put_new hD (s4.get hDc),?_⟩
        rw [upd_same,et,List.filter_append,List.filter_cons,if_pos hp,List.filter_nil,List.map_append];rfl
      · refine ⟨s.trans s4,?_⟩
        rw [et,List.filter_append,List.filter_cons,if_neg (by rw [hp];decide),List.filter_nil,List.append_nil]
        exact s4.get hDc
  · rintro H' ⟨s,hDc⟩
    rw [List.length_map,List.take_length] at hDc
    exact hd H' s hDc
abbrev State:=Vbfuao.State
def entF (i:Nat) (e:Vbfuao.Entry) (ig:Addr):List (Str × V):=[("place",.int (i:Nat)),("book",.int (e.book:Nat)),("account",.int (e.account:Nat)),("day",.int (e.day:Nat)),("amount",.int e.amount),("reference",.int (e.ref:Nat)),("there",.bl e.there),("in_groups",.ref ig)]
def grpF (x:Vbfuao.Group) (L R:Addr):List (Str × V):=[("pair",.int (x.pair:Nat)),("account",.int (x.account:Nat)),("left",.ref L),("right",.ref R),("holds",.bl x.holds)]
def accF (x:Vbfuao.Account):List (Str × V):=[("window",.int (x.window:Nat)),("tolerance",.int (x.tol:Nat)),("size",.int (x.size:Nat))]
def fundF (t:Nat) (A E G:Addr):List (Str × V):=[("today",.int (t:Nat)),("accounts",.ref A),("entries",.ref E),("groups",.ref G)]
structure Gh where
  F:Addr
  A:Addr
  E:Addr
  G:Addr
  es:List Addr
  igs:List Addr
  gs:List Addr
def Gh.ra (g:Gh) (i:Nat):Addr:=g.es.getD i 0
def Gh.rf (g:Gh) (i:Nat):V:=.ref (g.ra i)
def Gh.rfs (g:Gh) (ps:List Nat):List V:=ps.map g.rf
def grI (s:State) (p i:Nat):Int:=match Vbfuao.groupOf s p i with
  | none=>-1
  | some k=>(k:Nat)
def KeysOk (kvs:List (Key × V)):Prop:=(kvs.map (·.1)).Nodup∧∀ k ∈ kvs.map (·.1),k ∈ ([.inl 0,.inl 1,.inl 2,.inl 3]:List Key)
theorem KeysOk.len {kvs:List (Key × V)} (h:KeysOk kvs):kvs.length≤4:=by
  have:=h.1.length_le_of_subset (l₂:=([.inl 0,.inl 1,.inl 2,.inl 3]:List Key)) h.2
  rw [List.length_map] at this
  exact this
theorem KeysOk.put {kvs:List (Key × V)} (h:KeysOk kvs) {k:Key} (v:V) (hk:k ∈ ([.inl 0,.inl 1,.inl 2,.inl 3]:List Key)):KeysOk (putK kvs k v):=by
  cases e:valV kvs k with
  | none =>
    refine ⟨nd_putK v h.1 e,fun j hj=>?_⟩
    rw [putK_new v e,List.map_append] at hj
    rcases List.mem_append.mp hj with z | z
    · exact h.2 j z
    · rw [List.mem_singleton.mp z];exact hk
  | some u =>
    have ek:(putK kvs k v).map (·.1)=kvs.map (·.1):=by
      unfold putK
      have hin:=valV_in e
      rw [if_pos (by rw [valV_any,e];rfl),List.map_map]
      refine List.map_congr_left fun x _=>?_
      show (if x.1=k then (x.1,v) else x).1=x.1
      split <;> rfl
    exact ⟨by rw [ek];exact h.1,by rw [ek];exact h.2⟩
def accAt (s:State) (z:Int):Option Vbfuao.Account:=if z < 0 then none else Vbfuao.accountAt s z.toNat
section
variable {K:PySem.W.Frag} {mg:Str→Option Value}
def AccIs (T:Txt K mg) (H:Hp):Option V→Option Vbfuao.Account→Prop
  | none,none=>True
  | some (.ref a),some x=>∃ dx,H a=some (.ins T.c_Account dx (accF x))
  | _,_=>False
structure SideAt (H:Hp) (g:Gh) (L:Addr) (ps:List Nat):Prop where
  at_:H L=some (.lst (g.rfs ps))
  nE:L≠g.E
  nG:L≠g.G
  nI:L ∉ g.igs
structure Wf (s:State):Prop where
  acc4:s.accounts.length=4
  size:∀ (a:Nat) x,Vbfuao.accountAt s a=some x→1≤x.size∧x.size≤3
  book:∀ (i:Nat) e,s.entries[i]? = some e→e.book≤2∧∃ x,Vbfuao.accountAt s e.account=some x
  pair:∀ (j:Nat) x,s.groups[j]? = some x→x.pair≤2∧x.left≠[]∧x.left.Nodup∧x.right.Nodup∧(∀ i ∈ x.left,i ∉ x.right)∧∀ i ∈ x.left++x.right,i < s.entries.length
  there:∀ (j:Nat) x,s.groups[j]? = some x→x.holds=true→∀ i ∈ x.left++x.right,(Vbfuao.entryAt s i).there=true
  apart:∀ (j k:Nat) x y,s.groups[j]? = some x→s.groups[k]? = some y→x.holds=true→y.holds=true→x.pair=y.pair→(∃ i,i ∈ x.left++x.right∧i ∈ y.left++y.right)→j=k
  emax:s.entries.length≤200
  gmax:s.groups.length≤300
structure Rep (T:Txt K mg) (H:Hp) (g:Gh) (s:State):Prop where
  wf:Wf s
  tab:TabOk H
  fund:∃ dx,H g.F=some (.ins T.c_Fund dx (fundF s.today g.A g.E g.G))
  acc:∃ kvs,H g.A=some (.dK kvs)∧KeysOk kvs∧(∀ z:Int,AccIs T H (valV kvs (.inl z)) (accAt s z))
  ents:H g.E=some (.lst (g.es.map V.ref))
  grps:H g.G=some (.lst (g.gs.map V.ref))
  elen:g.es.length=s.entries.length
  ilen:g.igs.length=s.entries.length
  glen:g.gs.length=s.groups.length
  ent:∀ (i:Nat) (e:Vbfuao.Entry) (a ig:Addr),s.entries[i]? = some e→g.es[i]? = some a→g.igs[i]? = some ig→(∃ dx,H a=some (.ins T.c_Entry dx (entF i e ig)))∧H ig=some (.lst [.int (grI s 0 i),.int (grI s 1 i),.int (grI s 2 i)])
  grp:∀ (j:Nat) (x:Vbfuao.Group) (a:Addr),s.groups[j]? = some x→g.gs[j]? = some a→∃ dx L R,H a=some (.ins T.c_Group dx (grpF x L R))∧SideAt H g L x.left∧SideAt H g R x.right
  esnd:g.es.Nodup
  igsnd:g.igs.Nodup
  gsnd:g.gs.Nodup
  EI:g.E ∉ g.igs
  GI:g.G ∉ g.igs
  EG:g.E≠g.G
theorem Rep.keep {T:Txt K mg} {H H':Hp} {g:Gh} {s:State} (r:Rep T H g s) (m:Sm H H'):Rep T H' g s where
  wf:=r.wf
  tab:=m.tab r.tab
  fund:=let ⟨dx,h⟩:=r.fund;⟨dx,m.get h⟩
  acc:=by
    obtain ⟨kvs,h,hl,hv⟩:=r.acc
    refine ⟨kvs,m.get h,hl,fun z=>?_⟩
    have q:=hv z
    unfold AccIs at q ⊢
    split at q
    · exact trivial
    · obtain ⟨dx,e⟩:=q;exact ⟨dx,m.get e⟩
    · exact q
  ents:=m.get r.ents
  grps:=m.get r.grps
  elen:=r.elen
  ilen:=r.ilen
  glen:=r.glen
  ent:=fun i e a ig h1 h2 h3=>let ⟨⟨dx,e1⟩,e2⟩:=r.ent i e a ig h1 h2 h3;⟨⟨dx,m.get e1⟩,m.get e2⟩
  grp:=fun j x a h1 h2=>let ⟨dx,L,R,e1,e2,e3⟩:=r.grp j x a h1 h2;⟨dx,L,R,m.get e1,⟨m.get e2.at_,e2.nE,e2.nG,e2.nI⟩,⟨m.get e3.at_,e3.nE,e3.nG,e3.nI⟩⟩
  esnd:=r.esnd
  igsnd:=r.igsnd
  gsnd:=r.gsnd
  EI:=r.EI
  GI:=r.GI
  EG:=r.EG
theorem getD_of {l:List Addr} {i:Nat} {a:Addr} (h:l[i]? = some a):l.getD i 0=a:=by rw [List.getD_eq_getElem?_getD,h];rfl
theorem entryAt_of {s:State} {i:Nat} {e:Vbfuao.Entry} (h:s.entries[i]? = some e):Vbfuao.entryAt s i=e:=by unfold Vbfuao.entryAt;rw [List.getD_eq_getElem?_getD,h];rfl
theorem Rep.at {T : Txt K mg} {H : Hp} {g : Gh} {s : State} (r : Rep T H g s) {i : Nat} (hi : i < s.entries.length) :
    ∃ dx ig,H (g.ra i)=some (.ins T.c_Entry dx (entF i (Vbfuao.entryAt s i) ig))∧H ig=some (.lst [.int (grI s 0 i),.int (grI s 1 i),.int (grI s 2 i)])∧g.igs[i]? = some ig∧g.es[i]? = some (g.ra i):=by
  obtain ⟨e,he⟩:∃ e,s.entries[i]? = some e:=⟨_,List.getElem?_eq_getElem hi⟩
  obtain ⟨a,ha⟩:∃ a,g.es[i]? = some a:=⟨_,List.getElem?_eq_getElem (by rw [r.elen];exact hi)⟩
  obtain ⟨ig,hig⟩:∃ a,g.igs[i]? = some a:=⟨_,List.getElem?_eq_getElem (by rw [r.ilen];exact hi)⟩
  obtain ⟨⟨dx,h1⟩,h2⟩:=r.ent i e a ig he ha hig
  have er:g.ra i=a:=getD_of ha
  rw [er,entryAt_of he]
  exact ⟨dx,ig,h1,h2,hig,ha⟩
end
end TB
namespace TB
open PySem PySem.Spec PyProof.Rows L2
section
variable {X:Cx} {K:PySem.W.Frag}
theorem pe_fldK (hK:X.K=K) {e:Expr} {f:Str} {pos:Pos} {ta:TE} (he:PE X e ta) (hb:attributeBase e f X.env (eval e X.env)=eval e X.env):PE X (.Attribute e f pos) (tFld K ta f):=by
  subst hK;exact pe_fld he hb
theorem ix_tupK (hK:X.K=K):IxR X (rIxT K):=by subst hK;exact ix_tup
theorem call_len_seqK (hK:X.K=K):CallR X (.builtin "len") (fun xs H Q=>∃ p ys,xs=[.ref p]∧(SqL K H p ys∨SqT K H p ys)∧Q (.int ys.length) H):=by subst hK;exact call_len_seq
theorem yesT {σ : L2.St} {H:Hp} {A B:Hp→Prop} (h:A H):tYes σ H fun b H3=>if b=true then A H3 else B H3:=by
  show if true=true then A H else B H
  rw [if_pos rfl];exact h
end
section
variable {P:Program} {w:World} {K:PySem.W.Frag} {mg:Str→Option Value} {base:Heap}
theorem Fun.okc {x qual : Str} {st : Stmt} {f : Addr} {fd : FuncData} {N ps : List Str} {k : Nat} {sp : Sp} (F : Fun K x qual st f fd) (S : FnScope N ps (defScope st)) (len : ∀ vs H Q E, sp vs H Q E → vs.length = ps.length)
    (hbody:∀ (cdv:Value) (A:Around) (outer:List Env) (s:Shared) (H:Hp) (vs:List V) (Q:VK) (E:XK),fd.code=cdv→Room k (A.deeper (envOfC qual (defScope st) s.heap.objs.size f cdv))→sp vs H Q E →
      ∃ t,PSs (cxOf CX0 P w K mg base N qual (defScope st) f cdv A outer s H E).nox (defBody st) t∧t { nx:=fun _ H'=>Q .non H',rt:=Q } (start N vs) H):FnOk P w K mg base CX0 (k + 1) f fd ps sp:=by
  obtain ⟨oc,od,kV,doc,pm,an,cdv,ct,osl,rfl,lk,hcd⟩:=F.ex
  refine fn_of lk hcd S len fun A outer s H vs Q E hr hsp=>?_
  obtain ⟨t,h,q⟩:=hbody cdv A outer s H vs Q E rfl hr hsp
  exact ⟨t,h.nox,q⟩
end
end TB
namespace TB
open PySem PySem.Spec PyProof.Rows L2
open PySem.W (codeHd_of_K codeHdIn kla_obj kla_eval kla_makeFunction kla_makeFunctionHit kla_callFunE kla_codeExpr tabObj CodeHd)
section
variable {X:Cx} {pins:List (Addr × Obj)} {σ : L2.St} {H:Hp} {s:Shared}
theorem codeF_stable (c:Addr):∀ h1 h2:Heap,CodeF c h1→(∀ o,h1.get? c=some o→h2.get? c=some o)→CodeF c h2:=fun h1 h2 ⟨c',o,vs,t,e,ho,r⟩ k=>by
  cases e
  exact ⟨c,o,vs,t,rfl,k _ ho,r⟩
theorem lam_eval {params : Arguments} {body : Expr} {scope : Scope} {pos : Pos} {Q : Value → Shared → Prop} (I : Inv X pins σ H s) (hC : codeHdIn X.K 167 165 = true) (hcode : X.env.code = .ref 167) (hq : X.env.qual ++ "<lambda>" = lamQ) (hbm : X.mg "__builtins__" = some (.ref 4))
    (hcl:closureFor scope X.env=pure []) (hdef:defaultsOf params X.env=([],[])) (hl:pos.line=91) (hc:pos.col=33) (ht:TabOk H)
    (h:∀ f c' pm ctv H' s',Inv X pins σ H' s'→Sm H H'→s'.heap.get? f=some (kla_obj "<lambda>" lamQ params body scope [] pm c' ctv)→s'.heap.CodeRec (.ref c') lamQ→Q (.ref f) s') :
    wpAny (model X.prog X.w) X.A (eval (.Lambda params body scope pos) X.env) Q X.xe s:=by
  obtain ⟨⟨ob4,h4⟩,ps,hps,hor⟩:=ht
  obtain ⟨_,⟨ob,ho1,ho2,ho3,ho4⟩,_,_⟩:=(show ObjOk X.prog X.w H s.heap 4 (.frz ob4 (.ext BmF)) from I.hok 4 _ h4)
  have hP:s.heap.get? 165=some (tabObj ps):=I.hok 165 _ hps
  have hg:s.heap.Ns mainGlobals X.mg:=I.mod.glob.keeps I.bk
  have C:CodeHd s.heap 167 165:=codeHd_of_K I.kIn hC
  have hgP:mainGlobals≠165:=by decide
  have hb:s.heap.BuiltinsAt X.mg 165:=⟨4,ob,hbm,by decide,by decide,by decide,ho1,ho2,ho3,ho4⟩
  refine kla_eval hdef ?_
  rw [hq]
  rcases hor with rfl | ⟨c,rfl,hcc⟩
  · refine kla_makeFunction hcl I.ok.glob hg hcode C hP trivial rfl hgP hb fun c' ctv h' tk hx hge hlt hrec htb=>?_
    have hk:∀ b o,b≠165→s.heap.get? b=some o→(h'.push (kla_obj "<lambda>" lamQ params body scope [] ((X.mg "__name__").getD .none) c' ctv)).get? b=some o:=fun b o hb e=>Heap.get?_push_of_some _ (hx b o hb e)
    have hnew:H c'=none:=I.hok.fresh hge
    have e165:(165:Addr)≠c':=ne_of_none hps hnew
    rw [hl,hc] at htb
    have hrec':(h'.push (kla_obj "<lambda>" lamQ params body scope [] ((X.mg "__name__").getD .none) c' ctv)).CodeRec (.ref c') lamQ:=by
      obtain ⟨c₂,o,vs,t,e,h1,r⟩:=hrec
      exact ⟨c₂,o,vs,t,e,Heap.get?_push_of_some _ h1,r⟩
    have hor':∃ o,(h'.push (kla_obj "<lambda>" lamQ params body scope [] ((X.mg "__name__").getD .none) c' ctv)).get? c'=some o:=by
      obtain ⟨c₂,o,vs,t,e,h1,r⟩:=hrec'
      cases e
      exact ⟨o,h1⟩
    have un:Un X.fs [] H (upd (upd H 165 (.tbl (#[]++#[rawInt 91,rawInt 33,.ref c']))) c' (.ext (CodeF c'))) s.heap (h'.push (kla_obj "<lambda>" lamQ params body scope [] ((X.mg "__name__").getD .none) c' ctv)):=by
      have nf:∀ b,H b=none→b≠165:=fun b e q=>by rw [q,hps] at e;cases e
      have lt:∀ b o,s.heap.get? b=some o→b≠c':=fun b o e=>Nat.ne_of_lt (Nat.lt_of_lt_of_le (Heap.lt_size e) hge)
      refine ⟨fun b o e n _ _=>hk b o (nf b n) e,fun b o e n _ _=>⟨o.slots,hk b o (nf b n) e⟩,fun b o e n _=>?_,fun b o e _=>?_,fun b xs e=>?_,fun b o u e=>?_,fun b qs e=>?_⟩
      · rw [upd_ne (lt b o e),upd_ne (nf b n)];exact n
      · by_cases hb:b=165
        · subst hb;exact ⟨_,Heap.get?_push_of_some _ htb⟩
        · exact ⟨o,hk b o hb e⟩
      · rw [upd_ne (ne_of_none e hnew),upd_ne (ne_of e hps (by intro z;cases z))];exact e
      · rw [upd_ne (ne_of_none e hnew),upd_ne (ne_of e hps (by intro z;cases z))];exact e
      · rw [upd_ne (ne_of_none e hnew)]
        by_cases hb:b=165
        · subst hb;rw [hps] at e;cases e;exact ⟨_,upd_same⟩
        · rw [upd_ne hb];exact ⟨#[],by rw [e];simp⟩
    have ok:HOk X.prog X.w (upd (upd H 165 (.tbl (#[]++#[rawInt 91,rawInt 33,.ref c']))) c' (.ext (CodeF c'))) (h'.push (kla_obj "<lambda>" lamQ params body scope [] ((X.mg "__name__").getD .none) c' ctv)):=fun b u e=>by
      by_cases hb:b=c'
      · subst hb;rw [upd_same] at e;cases e
        exact ⟨hrec',hor',codeF_stable _⟩
      · rw [upd_ne hb] at e
        by_cases hb2:b=165
        · subst hb2;rw [upd_same] at e;cases e
          exact Heap.get?_push_of_some _ htb
        · rw [upd_ne hb2] at e
          refine (I.hok b u e).stay (fun d v hd q=>hk d v ?_ q) (fun d q=>?_) fun d xs q=>?_
          · rcases hd with z | z
            · rw [z];exact hb2
            · exact ne_of z hps (by intro z;cases z)
          · rw [upd_ne (ne_of_none q hnew),upd_ne (ne_of q hps (by intro z;cases z))];exact q
          · rw [upd_ne (ne_of_none q hnew),upd_ne (ne_of q hps (by intro z;cases z))];exact q
    refine h _ c' _ ctv _ _ (I.un (t':=tk) un ok) ⟨fun b o _ p e=>?_,fun b e=>?_,fun _=>⟨?_,_,?_,.inr ⟨c',rfl,upd_same⟩⟩⟩ (Heap.get?_push_size _ rfl) hrec'
    · have n1:b≠165:=fun q=>by rw [q,hps] at e;cases e;cases p
      rw [upd_ne (ne_of_none e hnew),upd_ne n1];exact e
    · by_cases hb:b=c'
      · rw [hb,upd_same] at e;cases e
      · rw [upd_ne hb] at e
        by_cases hb2:b=165
        · rw [hb2,upd_same] at e;cases e
        · rw [upd_ne hb2] at e;exact e
    · rw [upd_ne (ne_of_none h4 hnew),upd_ne (by decide)];exact ⟨_,h4⟩
    · rw [upd_ne e165,upd_same];rfl
  · obtain ⟨hcr,_,_⟩:=(show ObjOk X.prog X.w H s.heap c (.ext (CodeF c)) from I.hok c _ hcc)
    refine kla_makeFunctionHit (cv:=.ref c) hcl I.ok.glob hg hcode C hP trivial (by simp [codeAmong,rawInt,hl,hc]) hb fun ctv h' tk hk hsz=>?_
    have hk':∀ b o,s.heap.get? b=some o→(h'.push (kla_obj "<lambda>" lamQ params body scope [] ((X.mg "__name__").getD .none) c ctv)).get? b=some o:=fun b o e=>Heap.get?_push_of_some _ (hk b o e)
    refine h _ c _ ctv H _ (I.kept (t':=tk) hk') (Sx.refl _) (Heap.get?_push_size _ rfl) ?_
    obtain ⟨c₂,o,vs,t,e,h1,r⟩:=hcr
    exact ⟨c₂,o,vs,t,e,hk' _ _ h1,r⟩
def dayArgs (p:Pos):Arguments:={ posonlyargs:=[],args:=[{ arg := "entry",annotation:=none,pos:=p }],vararg:=none,kwonlyargs:=[],kw_defaults:=[],kwarg:=none,defaults:=[] }
def dayScope:Scope:={ kind:=.function,names:=[("entry",.local)],isGenerator:=false,isCoroutine:=false }
theorem all_kept {g h h' : Heap} {L : Addr} {m : Str → Option Value} (k : ∀ b o, g.get? b = some o → h.get? b = some o) (F : Fr g L h' m) {own : List (Addr × Obj)} (N : News g L h' (allNews g h L ++ own)) :
    ∀ b o,b≠L→h.get? b=some o→h'.get? b=some o:=fun b o h1 e=>by
  cases q:g.get? b with
  | some u =>
    have:=k b u q
    rw [e] at this;cases this
    exact F.keep b _ q
  | none=>exact (N (b,o) (List.mem_append_left _ (mem_allNews h1 q e))).1
theorem sort_call {l f c' : Addr} {as : List Addr} {kz : List Int} {pm ctv : Value} {p1 p2 p3 : Pos} {Q : Value → Shared → Prop} {E : Value → Shared → Prop} (I : Inv X pins σ H s) (hr : Room 4 X.A) (hl : s.heap.IsList l (as.map Value.ref).toArray) (hlen : kz.length = as.length) (hz : as.length ≤ sizeLine)
    (hobj:∀ (i:Nat) a k,as[i]? = some a→kz[i]? = some k→∃ C dx fs,H a=some (.ins C dx fs)∧Cls X.K C∧NoAttr X.K C "day" ∧ fs.lookup ("day" : Str)=some (V.int k))
    (hf:s.heap.get? f=some (kla_obj "<lambda>" lamQ (dayArgs p1) (.Attribute (.Name "entry" p2) "day" p3) dayScope [] pm c' ctv)) (hc:s.heap.CodeRec (.ref c') lamQ)
    (h:∀ D h' tk out c,(∀ b o,b≠X.env.locals→s.heap.get? b=some o→h'.get? b=some o)→(∀ m,s.heap.Ns X.env.locals m→h'.Ns X.env.locals m)→h'.get? D=some (seqObj "list" out c)→s.heap.get? D=none→D≠X.env.locals →
      KskOutSt false kz (as.map Value.ref) out.toList→Q (.ref D) { s with heap:=h',toks:=tk }) :
    wpAny (model X.prog X.w) X.A (call (.builtin "sorted") [.ref l] [(Str.ofString "key",.ref f)]) Q E s:=by
  obtain ⟨m,F⟩:=I.fr
  have N:News X.base X.env.locals s.heap (allNews X.base s.heap X.env.locals):=news_all
  refine ksk_sortedSt (b:=false) (f:=.ref f) (kz:=kz) F N hl (by rw [hlen,List.length_map]) (by rw [List.length_map];exact hz) (ksk_s1 _ _) (fun x=>ksk_l1 _ _) (fun x=>ksk_t1 f x) ?turn ?fin
  case fin =>
    intro D h' tk out c F' N' hlt hout
    have N2:News X.base X.env.locals h' (allNews X.base s.heap X.env.locals++[]):=fun p hp=>N' p (.tail _ (by rw [List.append_nil] at hp;exact hp))
    have hD:=N' _ (.head _)
    refine h D h' tk out c (all_kept I.bk F' N2) (fun m' hm=>?_) hD.1 ?_ hD.2.1 hout
    · have e1:=hm.eq_nsMap
      have e2:=F.ns.eq_nsMap
      rw [e1,← e2];exact F'.ns
    · cases q:s.heap.get? D with
      | none=>rfl
      | some o=>exact absurd (hlt (D,o) (mem_allNews hD.2.1 hD.2.2 q)) (Nat.lt_irrefl _)
  case turn =>
    intro i v k hv hk h1 tk own F1 N1
    have kp:=all_kept I.bk F1 N1
    rw [List.getElem?_map] at hv
    cases ea:as[i]? with
    | none=>rw [ea] at hv;cases hv
    | some a =>
      rw [ea] at hv
      obtain rfl:Value.ref a=v:=Option.some.inj hv
      obtain ⟨C,dx,fs,e1,e2,e3,e4⟩:=hobj i a k ea hk
      have nL:∀ {b:Addr} {o:HO},H b=some o→b≠X.env.locals:=fun {b o} e=>ne_of_none e I.free
      obtain ⟨mA,O,r,_,_,ho⟩:=ins_get I.hok e1
      obtain ⟨u,hu,ru⟩:=RelO.some_of (v:=V.int k) (o:=mA "day") (by rw [← e4];exact r _)
      obtain ⟨t,rfl⟩:=ru
      have nlf:f≠X.env.locals:=fun q=>by
        obtain ⟨o,es,ep,g1,g2,_⟩:=F.ns
        rw [q,g1] at hf;cases hf;cases g2
      obtain ⟨c₂,oc,vs,tq,ec,hoc,hdc,hq⟩:=hc
      cases ec
      have nlc:c'≠X.env.locals:=fun q=>by
        obtain ⟨o,es,ep,g1,g2,_⟩:=F.ns
        rw [q,g1] at hoc;cases hoc;rw [g2] at hdc;cases hdc
      have X1:X.K.In h1:=I.ok.mod.kin.keeps F1.keep
      have lim:h1.NoLimit:=I.ok.mod.nolimit.keeps F1.keep
      have dp:X.A.in1.in1.depth < recursionLimit:=(hr.in1.in1).depth
      refine wpAny_call ?_
      refine kla_callFunE (s:={ s with heap:=h1,toks:=tk }) dp (kp f _ nlf hf) rfl rfl rfl rfl ⟨c',oc,vs,tq,rfl,kp c' oc nlc hoc,hdc,hq⟩ ?_
      rw [show bindArgs (PySem.W.kla_fn "<lambda>" lamQ (dayArgs p1) (.Attribute (.Name "entry" p2) "day" p3) dayScope [] pm (.ref c') ctv) ⟨[Value.ref a],[]⟩=pure [(("entry" : Str),Value.ref a)] from rfl]
      refine wpAny_pure ?_
      refine wpAny_newFunctionEnv (by intro x hx;simp [dayScope] at hx;subst hx;decide) (by intro x hx;simp at hx;subst hx;rfl) (fun h2 hns hsb=>⟨lim.fresh _ hsb,?_⟩) rfl
      have hk2:∀ b o,h1.get? b=some o→h2.get? b=some o:=fun b o e=>hsb.extBut b o (Nat.ne_of_lt (Heap.lt_size e)) (Heap.get?_push_of_some _ e)
      refine kla_codeExpr (attr_of rfl ?_)
      refine wpAny_Name (wpAny_loadName_local rfl rfl hns rfl ?_) (by decide)
      have O2:ObjM h2 a dx C mA:=by
        refine ⟨hk2 _ _ (kp _ _ (nL e1) O.obj),?_,O.ne⟩
        obtain ⟨o,es,ep,g1,g2⟩:=O.ns
        exact ⟨o,es,ep,hk2 _ _ (kp _ _ (nL ho) g1),g2⟩
      refine get_map (X1.keeps hk2) O2 (e2.get _) e2.hd e3 hu rfl ?_
      refine KskEnd.intro (h':=h2) (news':=allNews X.base s.heap X.env.locals++own) ⟨F1.ns.keeps hk2,fun b o e=>hk2 _ _ (F1.keep b o e),F1.above⟩ (fun p hp=>⟨hk2 _ _ (N1 p hp).1,(N1 p hp).2⟩) fun p hp=>hp
def tSortDay (K:PySem.W.Frag) (te:TE):TE:=fun σ H Q=>te σ H fun x H1=>∃ (l:Addr) (as:List Addr) (ks:List Int),x = .ref l∧SqL K H1 l (as.map V.ref)∧ks.length=as.length∧TabOk H1 ∧
  (∀ (i:Nat) a k,as[i]? = some a→ks[i]? = some k→∃ C dx fs,H1 a=some (.ins C dx fs)∧Cls K C∧NoAttr K C "day" ∧ fs.lookup ("day" : Str)=some (V.int k)) ∧
  ∀ D H2 (qs:List (Int × Addr)),H1 D=none→Sm H1 H2→H2 D=some (.lst (qs.map fun q=>V.ref q.2))→qs.Perm (ks.zip as)→qs.Pairwise (fun p q=>p.1≤q.1)→(∀ c,qs.filter (fun p=>p.1 == c)=(ks.zip as).filter (fun p=>p.1 == c))→Q (.ref D) H2
theorem vals_refs:∀ {as:List Addr} {us:List Value},Vals (as.map V.ref) us→us=as.map Value.ref
  | [],_,.nil=>rfl
  | a :: as,_,.cons r t=>by
    rw [vals_refs t]
    cases r
    rfl
theorem zip_refs:∀ (ks:List Int) (as:List Addr),ks.zip (as.map Value.ref)=(ks.zip as).map fun q=>(q.1,Value.ref q.2)
  | [],_=>rfl
  | _ :: _,[]=>rfl
  | k :: ks,a :: as=>by
    show (k,Value.ref a) :: ks.zip (as.map Value.ref)=(k,Value.ref a) :: (ks.zip as).map _
    rw [zip_refs ks as]
def unref:Int × Value→Int × Addr
  | (k,.ref a)=>(k,a)
  | (k,_)=>(k,0)
theorem unref_ref (l:List (Int × Addr)):(l.map fun q=>(q.1,Value.ref q.2)).map unref=l:=by
  rw [List.map_map]
  conv=>rhs;rw [← List.map_id l]
  rfl
theorem vals_qs:∀ qs:List (Int × Addr),Vals (qs.map fun q=>V.ref q.2) (qs.map fun q=>Value.ref q.2)
  | []=>.nil
  | _ :: r=>.cons rfl (vals_qs r)
theorem ok_get {P:Program} {w:World} {H:Hp} {h:Heap} {a:Addr} {o:HO} (x:ObjOk P w H h a o):∃ ob,h.get? a=some ob:=by
  induction o with
  | lst xs=>obtain ⟨_,its,n,_,e⟩:=x;exact ⟨_,e⟩
  | tup xs=>obtain ⟨_,its,_,ob,e,_⟩:=x;exact ⟨_,e⟩
  | dK kvs=>obtain ⟨_,_,vs,_,ob,es,ep,e,_⟩:=x;exact ⟨_,e⟩
  | dT kvs=>obtain ⟨_,_,xs,_,ob,es,ep,e,_⟩:=x;exact ⟨_,e⟩
  | set S n=>obtain ⟨ob,es,ep,t,e,_⟩:=x;exact ⟨_,e⟩
  | ins C dx fs=>obtain ⟨_,_,_,e,_⟩:=x;exact ⟨_,e⟩
  | own y=>exact x
  | xd fs=>obtain ⟨mA,⟨od,es,ep,e,_⟩,_⟩:=x;exact ⟨_,e⟩
  | rng lo hi=>obtain ⟨t,u,v,e⟩:=x;exact ⟨_,e⟩
  | frz ob u ih=>obtain ⟨e,_⟩:=x;exact ⟨_,e⟩
  | tbl ps=>exact ⟨_,x⟩
  | met f y=>exact ⟨_,x⟩
  | ext φ=>obtain ⟨_,e,_⟩:=x;exact e
theorem pe_sortDay {y : Str} {pe p pos kpos lpos p1 p2 p3 : Pos} {te : TE} (hC : codeHdIn X.K 167 165 = true) (hcode : X.env.code = .ref 167) (hbm : X.mg "__builtins__" = some (.ref 4)) (hg : Gl X "sorted") (hm : X.mg "sorted" = none) (hr : Room 4 X.A) (he : PE X (.Name y pe) te)
    (hq:X.env.qual ++ "<lambda>" = lamQ:=by rfl) (hcl:closureFor dayScope X.env=pure []:=by rfl) (hdef:defaultsOf (dayArgs p1) X.env=([],[]):=by rfl) (hl:lpos.line=91:=by rfl) (hc:lpos.col=33:=by rfl) :
    PE X (.Call (.Name "sorted" p) [.Name y pe] [⟨some "key",.Lambda (dayArgs p1) (.Attribute (.Name "entry" p2) "day" p3) dayScope lpos,kpos⟩] pos) (tSortDay X.K te):=by
  intro pins s σ H Q I h
  refine wpAny_Call_Name_kw (ld_blt I hg hm boot_sorted ?_)
  have hp:PA X [.Name y pe] (tCons te tNil):=pa_cons he pa_nil
  refine callWith_kw (thn (hp pos pins s σ H (fun vs H1=>match vs with
    | [x]=>∃ (l:Addr) (as:List Addr) (ks:List Int),x = .ref l∧SqL X.K H1 l (as.map V.ref)∧ks.length=as.length∧TabOk H1 ∧
      (∀ (i:Nat) a k,as[i]? = some a→ks[i]? = some k→∃ C dx fs,H1 a=some (.ins C dx fs)∧Cls X.K C∧NoAttr X.K C "day" ∧ fs.lookup ("day" : Str)=some (V.int k)) ∧
      ∀ D H2 (qs:List (Int × Addr)),H1 D=none→Sm H1 H2→H2 D=some (.lst (qs.map fun q=>V.ref q.2))→qs.Perm (ks.zip as)→qs.Pairwise (fun p q=>p.1≤q.1)→(∀ c,qs.filter (fun p=>p.1 == c)=(ks.zip as).filter (fun p=>p.1 == c))→Q (.ref D) H2
    | _=>False) I h) fun us s1 ⟨vs,H1,I1,r1,q1⟩=>?_)
  obtain ⟨x,rfl⟩:∃ x,vs=[x]:=by
    match vs,q1 with
    | [x],_=>exact ⟨x,rfl⟩
  obtain ⟨l,as,ks,rfl,hS,hlen,ht,hob,k⟩:=q1
  rw [Vals.ref1 r1]
  show wpAny _ _ (evalAll [do let v ← eval (.Lambda (dayArgs p1) (.Attribute (.Name "entry" p2) "day" p3) dayScope lpos) X.env;standAt pos;pure v]) _ _ s1
  refine wpAny_evalAll_cons (wpAny_bind (lam_eval I1 hC hcode hq hbm hcl hdef hl hc ht fun f c' pm ctv H2 s2 I2 m2 hf hcr=>wpAny_bind (wpAny_standAt (wpAny_pure ?_))))
  refine wpAny_evalAll_nil ?_
  obtain ⟨its,rv,pl,hz⟩:=I2.list (m2.sq hS)
  have ev:=vals_refs rv
  subst ev
  rw [List.length_map] at hz
  refine sort_call I2 hr pl.isList hlen hz (fun i a k' h1 h2=>?_) hf hcr fun D h' tk out c kp hns hD hDn hDL hout=>?_
  · obtain ⟨C,dx,fs,e1,e2,e3,e4⟩:=hob i a k' h1 h2
    exact ⟨C,dx,fs,m2.get e1,e2,e3,e4⟩
  · obtain ⟨ps,hp1,hp2,hp3,hp4⟩:=hout
    rw [zip_refs] at hp1 hp4
    have hps:ps=(ps.map unref).map fun q=>(q.1,Value.ref q.2):=by
      rw [List.map_map]
      conv=>lhs;rw [← List.map_id ps]
      refine List.map_congr_left fun q hq=>?_
      obtain ⟨z,_,rfl⟩:=List.mem_map.mp (hp1.mem_iff.mp hq)
      rfl
    generalize hqs:ps.map unref=qs at hps
    have hfst:∀ q:Int × Value,q ∈ ps→(unref q).1=q.1:=fun q hq=>by
      obtain ⟨z,_,rfl⟩:=List.mem_map.mp (hp1.mem_iff.mp hq)
      rfl
    have qperm:qs.Perm (ks.zip as):=by
      have:=hp1.map unref
      rw [unref_ref,hqs] at this
      exact this
    have hHD:H2 D=none:=by
      cases q:H2 D with
      | none=>rfl
      | some o =>
        obtain ⟨ob,e⟩:=ok_get (I2.hok D o q)
        rw [hDn] at e;cases e
    have nL:∀ {b:Addr} {o:HO},H2 b=some o→b≠X.env.locals:=fun {b o} e=>ne_of_none e I2.free
    have eout:out.toList=qs.map fun q=>Value.ref q.2:=by
      rw [hp2,hps,List.map_map];rfl
    have hq5:qs.length=as.length:=by rw [qperm.length_eq,List.length_zip,hlen,Nat.min_self]
    have ok:HOk X.prog X.w (upd H2 D (.lst (qs.map fun q=>V.ref q.2))) h':=fun b u e=>by
      by_cases hb:b=D
      · subst hb;rw [upd_same] at e;cases e
        refine ⟨by rw [List.length_map,hq5];exact hz,out.toList,c,?_,?_⟩
        · rw [eout];exact vals_qs qs
        · rw [hD]
      · rw [upd_ne hb] at e
        refine (I2.hok b u e).stay (fun d v hd q=>kp d v ?_ q) (fun d q=>?_) fun d xs q=>?_
        · rcases hd with z | z
          · rw [z];exact nL e
          · exact nL z
        · rw [upd_ne (ne_of_none q hHD)];exact q
        · rw [upd_ne (ne_of_none q hHD)];exact q
    have I3:L2.Inv X pins σ (upd H2 D (.lst (qs.map fun q=>V.ref q.2))) { s2 with heap:=h',toks:=tk }:=by
      refine I2.step (g':=s2.gens) (d':=s2.drawn) (t':=tk) (ch:=[]) (fun _ z=>nomatch z) (fun b o hL _ _ e _=>kp b o hL e) (fun b o hL _ _ e _=>⟨o.slots,kp b o hL e⟩) (fun b o _ e n=>?_) (fun b o _ e=>?_) (fun b xs e=>?_) (fun b o u e=>?_) (fun b ps e=>⟨#[],?_⟩) hns ok I2.bare
      · rw [upd_ne (fun q=>by rw [q,hDn] at e;cases e)];exact n
      · by_cases hL:b=X.env.locals
        · obtain ⟨mm,hm,_⟩:=I2.loc
          obtain ⟨o',es,ep,ho',_⟩:=hns mm hm
          exact ⟨o',by rw [hL];exact ho'⟩
        · exact ⟨o,kp b o hL e⟩
      · rw [upd_ne (ne_of_none e hHD)];exact e
      · rw [upd_ne (ne_of_none e hHD)];exact e
      · rw [upd_ne (ne_of_none e hHD),e];simp
    refine ⟨.ref D,_,I3,rfl,k D _ qs (m2.free D hHD) (m2.trans (Sx.new hHD)) upd_same qperm ?_ fun c=>?_⟩
    · rw [hps] at hp3
      rw [List.pairwise_map] at hp3
      exact hp3
    · have z:=hp4 c
      rw [hps,List.filter_map,List.filter_map] at z
      have z2:=congrArg (List.map unref) z
      rw [unref_ref,unref_ref] at z2
      exact z2
end
end TB
namespace PySem.MeetsSeq
open PySem
theorem remove_loopAt (l : Addr) (items : Array Value) (n : Nat) (x : Value) (e : Value → Bool) (j : Nat) (hj : j < items.size) (hit : e items[j] = true) (k : Nat) (hs1 : items.size ≤ sizeLine) :
    ∀ i:Nat,j - i=k→i≤j→(∀ m (hm:m < items.size),i≤m→m < j→e items[m]=false)→Meets (Builtin.«list.remove.loop» ⟨[.ref l,x,rawInt i],[]⟩)
      (fun A R s=>s.heap.get? l=some { cls:=.type "list",dict:=none,data:=.seq items n,slots:=#[] }∧(∀ y,y ∈ items→SeqAt.EqAt A.in1 s y x (e y))∧R (.ok (.ret .none)) { s with heap:=s.heap.update l (Obj.mapSeq fun xs=>xs.eraseIdxIfInBounds j) }):=by
  induction k with
  | zero =>
    intro i hk hij hno prog w A R s h
    obtain ⟨hp,g,d,tk,os⟩:=s;obtain ⟨hl,he,h⟩:=h
    have hij':i=j:=by omega
    subst hij'
    wp_walk using wpAny_loadPart' hl
    have hi:items[((i:Nat):Int).toNat]? = some items[i]:=by simp [hj]
    rw [hi]
    refine wpAny_bind (he _ (Array.getElem_mem hj) prog w _ _ ?_)
    rw [hit]
    have hz':(items.eraseIdxIfInBounds i).size≤sizeLine + 1:=Nat.le_trans (size_erased items _) (Nat.le_succ_of_le hs1)
    wp_walk using (wpAny_updateSeq hl rfl (hz:=hs1) (_hz':=hz')),wpAny_loadPart' hl
    simpa using h
  | succ k ih =>
    intro i hk hij hno prog w A R s h
    obtain ⟨hp,g,d,tk,os⟩:=s;obtain ⟨hl,he,h⟩:=h
    have hlt:i < items.size:=by omega
    wp_walk using wpAny_loadPart' hl
    have hi:items[((i:Nat):Int).toNat]? = some items[i]:=by simp [hlt]
    have hc:((i:Int) + 1)=((i + 1:Nat):Int):=by push_cast;rfl
    rw [hi]
    refine wpAny_bind (he _ (Array.getElem_mem hlt) prog w _ _ ?_)
    rw [hno i hlt (Nat.le_refl _) (by omega)]
    wp_walk
    rw [hc]
    exact ⟨plainId_quiet plain_remove_loop _,codeAny_builtin entry_remove_loop (by
      rw [Around.under_plainId plain_remove_loop _]
      exact ih (i + 1) (by omega) (by omega) (fun m hm h1 h2=>hno m hm (by omega) h2) prog w A R _ ⟨hl,he,h⟩)⟩
theorem list_removeAt (l : Addr) (items : Array Value) (n : Nat) (x : Value) (e : Value → Bool) (j : Nat) (hj : j < items.size)
    (hit:e items[j]=true) (hno:∀ m (hm:m < items.size),m < j→e items[m]=false) (hs1:items.size≤sizeLine) :
    Meets (Builtin.«list.remove» ⟨[.ref l,x],[]⟩)
      (fun A R s=>s.heap.get? l=some { cls:=.type "list",dict:=none,data:=.seq items n,slots:=#[] }∧(∀ y,y ∈ items→SeqAt.EqAt A.in1 s y x (e y))∧R (.ok (.ret .none)) { s with heap:=s.heap.update l (Obj.mapSeq fun xs=>xs.eraseIdxIfInBounds j) }):=by
  intro prog w A R s h
  obtain ⟨hp,g,d,tk,os⟩:=s;obtain ⟨hl,he,h⟩:=h
  wp_walk using wpAny_loadPart' hl
  exact ⟨plainId_quiet plain_remove_loop _,codeAny_builtin entry_remove_loop (by
    rw [Around.under_plainId plain_remove_loop _]
    exact remove_loopAt l items n x e j hj hit _ hs1 0 rfl (Nat.zero_le _) (fun m hm _ h2=>hno m hm h2) prog w A R _ ⟨hl,he,h⟩)⟩
end PySem.MeetsSeq
namespace TB
open PySem PySem.Spec PyProof.Rows L2
section
variable {X:Cx}
def dcnt (ns:List Int):Nat:=(ns.foldl step_dedup []).length
theorem range_getD (ns:List Int):(List.range ns.length).map (fun i=>ns.getD i 0)=ns:=by
  refine List.ext_getElem (by simp) fun i h1 h2=>?_
  rw [List.getElem_map,List.getElem_range,List.getD_eq_getElem?_getD,List.getElem?_eq_getElem h2];rfl
theorem call_setInts (hc:X.calm=true:=by rfl):CallR X (.type "set") (fun xs H Q=>∃ a ns,xs=[.ref a]∧SqL X.K H a (ns.map V.int)∧ns.length≤1000∧∀ p S,H p=none→Q (.ref p) (upd H p (.set S (dcnt ns)))):=by
  intro pins s σ H vs us Q I r h
  obtain ⟨a,ns,rfl,hs,hz,q⟩:=h
  obtain ⟨its,rv,hl,_⟩:=I.list hs
  rw [Vals.ref1 r]
  have hi:=rv.ints
  have hlen:=hi.length
  have hsz:its.toArray.size=ns.length:=by rw [List.size_toArray];exact hlen
  refine call_set_list (I.ok.hd hc) hl.isList (by simpa using hi) (by rw [hsz];unfold scanBound;omega) fun h' tk hS hk=>?_
  have e1:firstMet (fun i=>ns.getD i 0) its.toArray.size=ns.foldl step_dedup []:=by
    unfold firstMet;rw [hsz,range_getD]
  rw [e1] at hS
  have hk':∀ b o,s.heap.get? b=some o→h'.get? b=some o:=fun b o e=>hk b o (Heap.lt_size e) e
  exact ⟨.ref _,_,I.laid (t':=tk) (o:=.set _ (dcnt ns)) hk' (Nat.le_refl _) hS,rfl,q _ _ (I.hok.fresh (Nat.le_refl _))⟩
theorem call_lenSet:CallR X (.builtin "len") (fun xs H Q=>∃ p S n,xs=[.ref p]∧H p=some (.set S n)∧n≤1000∧Q (.int (n:Nat)) H):=by
  intro pins s σ H vs us Q I r h
  obtain ⟨p,S,n,rfl,hp,hz,q⟩:=h
  rw [Vals.ref1 r]
  have hS:s.heap.SetOf (intKind X.prog X.w) p S n:=I.hok p _ hp
  obtain ⟨o,es,ep,t,ho,hex,hd,_,_,_,hf,hn⟩:=hS
  subst hn
  exact call_len_set ho hex hd hf (by omega) ⟨.int _,H,I.tok _,⟨_,rfl⟩,q⟩
theorem cmpInst {K:PySem.W.Frag} {h:Heap} {x dx C:Addr} (X:K.In h) (c:CmpK K C) (hx:h.get? x=some (PySem.W.instObj C dx)):h.CmpInst x C [.type "object"]:=by
  obtain ⟨nm,q,N,bs,hdct,sn,sub,ab,col,dd,k0,k1,k2,k3,k5,newId,c0,d,es,ep,sl,e1,e2,e3,e4,e5⟩:=c
  have hN:h.Ns N (h.nsMap N):=by
    refine Heap.Ns.of_isNs ?_
    unfold Heap.isNs
    rw [X _ _ e2]
    exact e3
  have hm:∀ y,h.nsMap N y=nsFind es y:=fun y=>by unfold Heap.nsMap;rw [X _ _ e2]
  exact ⟨_,nm,q,N,bs,hdct,sn,sub,ab,col,dd,k0,k1,k2,k3,k5,newId,_,hx,rfl,X _ _ e1,hN,(hm _).trans e4,(hm _).trans e5⟩
theorem map_erase (f:Addr→Value):∀ (as:List Addr) (j:Nat),(as.map f).eraseIdx j=(as.eraseIdx j).map f
  | [],_=>rfl
  | _ :: _,0=>rfl
  | a :: as,j + 1=>by
    show f a :: (as.map f).eraseIdx j=f a :: (as.eraseIdx j).map f
    rw [map_erase f as j]
theorem vals_of_refs:∀ as:List Addr,Vals (as.map V.ref) (as.map Value.ref)
  | []=>.nil
  | _ :: r=>.cons rfl (vals_of_refs r)
def rRemove (C:Addr):V→List V→Hp→VK→Prop:=fun x vs H Q=>∃ (l:Addr) (as:List Addr) (a:Addr) (j:Nat),x = .ref l∧vs=[.ref a]∧H l=some (.lst (as.map V.ref))∧as[j]? = some a∧(∀ (i:Nat) b,i < j→as[i]? = some b→b≠a) ∧
  (∀ b ∈ as,∃ dx fs,H b=some (.ins C dx fs))∧Q .non (upd H l (.lst ((as.eraseIdx j).map V.ref)))
theorem mt_remove {C:Addr} (hC:CmpK X.K C) (hu:X.A.units + 64 < cLine):MtM X "list.remove" (rRemove C):=by
  intro pins s σ H x vs v us Q I rx rv h
  obtain ⟨l,as,a,j,rfl,rfl,hH,hj,hno,hob,q⟩:=h
  cases rx
  rw [Vals.ref1 rv]
  obtain ⟨z,its,n,r,hl,e⟩:=I.lstM hH
  have ev:=vals_refs r
  subst ev
  have hjl:j < as.length:=(List.getElem?_eq_some_iff.mp hj).1
  have haj:as[j]=a:=(List.getElem?_eq_some_iff.mp hj).2
  have inst:∀ b ∈ as,∃ dx,s.heap.get? b=some (PySem.W.instObj C dx):=fun b hb=>by
    obtain ⟨dx,fs,eb⟩:=hob b hb
    obtain ⟨mA,O,_⟩:=ins_get I.hok eb
    exact ⟨dx,O.obj⟩
  refine call_meets PySem.F.slot_list_remove ⟨_,e,rfl⟩ PySem.F.entry_list_remove (PySem.F.args_list_remove_2 _ _)
    (PySem.MeetsSeq.list_removeAt l (as.map Value.ref).toArray n (.ref a) (fun u=>decide (u=Value.ref a)) j (by simpa using hjl) (by simp [haj]) ?_ (by rw [List.size_toArray,List.length_map];rw [List.length_map] at z;exact z)) ⟨e,?_,?_⟩
  · intro m hm hmj
    have hml:m < as.length:=by simpa using hm
    have:=hno m as[m] hmj (List.getElem?_eq_getElem hml)
    simpa using this
  · intro y hy
    obtain ⟨b,hb,rfl⟩:∃ b ∈ as,Value.ref b=y:=by simpa using hy
    by_cases hab:b=a
    · subst hab
      rw [show decide (Value.ref b=Value.ref b)=true by simp]
      exact SeqAt.EqAt.same _
    · rw [show decide (Value.ref b=Value.ref a)=false by simpa using hab]
      obtain ⟨d1,e1⟩:=inst b hb
      obtain ⟨d2,e2⟩:=inst a (List.mem_of_getElem? hj)
      refine SeqAt.EqAt.of_refs hab fun prog w E Q hq=>?_
      obtain ⟨hp,g,d,tk,os⟩:=s
      exact richCompare_eq_other F.cmp_object F.cmp_object (cmpInst I.kIn hC e1) (cmpInst I.kIn hC e2) hab (by first | omega | (simp;omega)) hq
  · refine ⟨.non,_,I.lset (its':=(as.eraseIdx j).map Value.ref) hH e (by simp [map_erase]) ?_ ?_,rfl,q⟩
    · exact vals_of_refs _
    · rw [List.length_map] at z ⊢
      exact Nat.le_trans (List.length_eraseIdx_le _ _) z
end
end TB
namespace PySem
open Sem (wp)
open AutoSeq1 (wpAny_loadPart')
set_option maxHeartbeats 1000000 in
theorem meets_enumerate_newR (it l : Addr) (i : Int) (oi : Obj) (hc : oi.cls = .type "list_reverseiterator") (hd : oi.data = .fields #[.ref l, rawInt i]) :
    Meets (Builtin.«enumerate.__new__» ⟨[.type "enumerate",.ref it],[]⟩) (fun _ R s=>s.heap.get? it=some oi ∧
      R (.ok (.ret (.ref s.heap.objs.size))) { s with heap:=s.heap.push { cls:=.type "enumerate",data:=.fields #[.none,.bool false,.ref it,rawInt 0,.none,.none] } }) :=
  .of_wp fun prog w A R s h=>by
    obtain ⟨hp,g,d,tk,os⟩:=s;obtain ⟨hl,h⟩:=h
    have hsub:=sub_enumerate
    have hL:Heap.IsRevIter (Shared.heap ⟨hp,g,d,tk,os⟩) it l i:=⟨_,hl,hc,hd⟩
    wp_walk using wpAny_loadPart' hl
    refine wpAny_stack_any fun st=>wpAny_pure ?_
    split
    · rename_i c _ _ _ _ _
      cases (c == Value.type "enumerate")
      · wp_walk using wpAny_loadPart' hl,wpAny_pyIter_revIter hL
        exact ⟨_,rfl,h⟩
      · wp_walk using wpAny_loadPart' hl,wpAny_pyIter_revIter hL
        exact ⟨_,rfl,h⟩
    · wp_walk using wpAny_loadPart' hl,wpAny_pyIter_revIter hL
      exact ⟨_,rfl,h⟩
section
variable {prog:Program} {w:World} {A:Around} {E:Value→Shared→Prop} {s:Shared}
theorem call_enumerate_rev {it l : Addr} {i : Int} {Q : Value → Shared → Prop} (hL : s.heap.IsRevIter it l i)
    (h:IsEnum (s.heap.push { cls:=.type "enumerate",data:=.fields #[.none,.bool false,.ref it,rawInt 0,.none,.none] }) s.heap.objs.size it 0 .none→Q (.ref s.heap.objs.size) { s with heap:=s.heap.push { cls:=.type "enumerate",data:=.fields #[.none,.bool false,.ref it,rawInt 0,.none,.none] } }) :
    wpAny (model prog w) A (call (.type "enumerate") [.ref it]) Q E s:=by
  obtain ⟨oi,ho,hc,hd⟩:=hL
  refine callType_new F.called_enumerate (by decide) (F.typeCall_enumerate_1 _) (F.newCall_enumerate_1 _) (fun obj=>F.args_object_init_2 obj _) F.entry_enumerate_new
    (meets_enumerate_newR it l i oi hc hd) ⟨ho,?_⟩
  have he:IsEnum (s.heap.push { cls:=.type "enumerate",data:=.fields #[.none,.bool false,.ref it,rawInt 0,.none,.none] }) s.heap.objs.size it 0 .none:=Heap.get?_push_size _ rfl
  exact ⟨⟨_,he,rfl⟩,h he⟩
theorem wpAny_nextOf_rev_item {it l : Addr} {i : Nat} {items : Array Value} {x : Value} {Q : Value → Shared → Prop} (hit : s.heap.IsRevIter it l (i : Int)) (hl : s.heap.IsList l items) (hx : items[i]? = some x)
    (hQ:∀ h',h'.IsRevIter it l ((i:Int) - 1)→Heap.SameBut it s.heap h'→Q x { s with heap:=h' }):wpAny (model prog w) A (Builtin.SmallTypes.nextOf (.ref it)) Q E s:=by
  obtain ⟨o,ho,hc,hd⟩:=id hit
  obtain ⟨ol,hol,_,nl,hdl⟩:=hl
  unfold Builtin.SmallTypes.nextOf
  refine wpAny_bind (wpAny_callSpecial?_slot (name:=Str.ofString "__next__") hit.typeIs F.slot_lri_next
    (wpAny_call_entry F.slot_lri_next hit.typeIs F.entry_lri_next ?_ (F.args_lri_next_1 _)))
  unfold Builtin.«list_reverseiterator.__next__»
  refine wpAny_bind (wpAny_of_eq (a:=(Value.ref it,[])) rfl ?_)
  try dsimp only
  refine wpAny_bind (wpAny_field ho hd (x:=rawInt (i:Int)) rfl ?_)
  show wpAny _ _ (if (i:Int) < 0 then _ else _) _ _ s
  rw [if_neg (by omega)]
  show wpAny _ _ (field (.ref it) 0 >>= _) _ _ s
  refine wpAny_bind (wpAny_field ho hd (x:=.ref l) rfl ?_)
  show wpAny _ _ (seqItems? (.ref l) >>= _) _ _ s
  refine wpAny_bind (wpAny_seqItems hol hdl ?_)
  simp only [Int.toNat_natCast,hx]
  refine wpAny_bind (wpAny_setField ho hd (by simp) ?_)
  first
  | refine wpAny_pure ⟨x,rfl,wpAny_pure (hQ _ ?_ (Heap.SameBut.update ..))⟩
  | refine wpAny_bind (wpAny_pure (wpAny_pure ⟨x,rfl,wpAny_pure (hQ _ ?_ (Heap.SameBut.update ..))⟩))
  exact ⟨_,Heap.get?_update_self _ ho (Obj.isFreed_of_fields (Obj.data_mapFields hd _)),(Obj.cls_mapFields ..).trans hc,by
    rw [Obj.data_mapFields hd];simp⟩
theorem wpAny_nextOf_rev_end {it l : Addr} {Q : Value → Shared → Prop} (hh : A.handled = none) (hit : s.heap.IsRevIter it l (-1))
    (hE:∀ h' e,Heap.ExtBut it s.heap h'→(∃ o,h'.get? e=some o∧o.cls = .type "StopIteration")→E (.ref e) { s with heap:=h' }):wpAny (model prog w) A (Builtin.SmallTypes.nextOf (.ref it)) Q E s:=by
  obtain ⟨o,ho,hc,hd⟩:=id hit
  unfold Builtin.SmallTypes.nextOf
  refine wpAny_bind (wpAny_callSpecial?_slot (name:=Str.ofString "__next__") hit.typeIs F.slot_lri_next
    (wpAny_call_entry F.slot_lri_next hit.typeIs F.entry_lri_next ?_ (F.args_lri_next_1 _)))
  unfold Builtin.«list_reverseiterator.__next__»
  refine wpAny_bind (wpAny_of_eq (a:=(Value.ref it,[])) rfl ?_)
  try dsimp only
  refine wpAny_bind (wpAny_field ho hd (x:=rawInt (-1)) rfl ?_)
  show wpAny _ _ (if (-1:Int) < 0 then _ else _) _ _ s
  rw [if_pos (by decide)]
  refine wpAny_bind (wpAny_rule ?_)
  first
  | show wpAny _ _ (newExc (.type "StopIteration") [] >>= _) _ _ _
  | (refine wpAny_bind ?_;show wpAny _ _ (newExc (.type "StopIteration") [] >>= _) _ _ _)
  refine wpAny_bind ?_
  simp only [newExc,newTuple]
  refine wpAny_bind (wpAny_newObj_type ?_ (by size_fits))
  refine wpAny_bind (m:=firstArgMember _ _) (wpAny_of_eq (a:=Value.none) (by first | rfl | (simp only [firstArgMember];rfl)) ?_)
  refine wpAny_newObj_type ?_ (by size_fits)
  simp only [raiseNew]
  refine wpAny_bind (wpAny_handled ?_)
  first | rw [show A.in1.handled=none from hh] | rw [hh]
  refine wpAny_bind (wpAny_pure (wpAny_throw ?_))
  exact hE _ _ (((Heap.ExtBut.refl _ _).push _).push _) ⟨_,Heap.get?_push_size _ rfl,rfl⟩
end
theorem Draws.rev {prog : Program} {w : World} {A : Around} (hh : A.handled = none) (it l : Addr) (hne : l ≠ it) (items : Array Value) :
    Draws prog w A it [it,l] items.size (fun i v=>items[items.size - 1 - i]? = some v) (fun i h=>i≤items.size∧h.IsRevIter it l ((items.size:Int) - 1 - (i:Int))∧h.IsList l items) where
  live:=fun _ _ st=>let ⟨o,ho,_⟩:=st.2.1;⟨o,ho⟩
  frame:=fun _ _ _ st hk=>⟨st.1,st.2.1.at fun o e=>hk it (by simp) o e,st.2.2.at fun o e=>hk l (by simp) o e⟩
  item:=fun i s Q E hi st hQ=>by
    have e:(items.size:Int) - 1 - (i:Int)=((items.size - 1 - i:Nat):Int):=by omega
    have hit:=st.2.1
    rw [e] at hit
    have hlt:items.size - 1 - i < items.size:=by omega
    refine wpAny_nextOf_rev_item hit st.2.2 (x:=items[items.size - 1 - i]) (by simp [hlt]) fun h' hit' hs'=>?_
    have e2:((items.size - 1 - i:Nat):Int) - 1=(items.size:Int) - 1 - ((i + 1:Nat):Int):=by omega
    rw [e2] at hit'
    exact hQ _ h' s.toks (by simp [hlt]) ⟨by omega,hit',st.2.2.extBut hs'.extBut hne⟩ hs'
  done:=fun s Q E st hE=>by
    have e:(items.size:Int) - 1 - (items.size:Int) = -1:=by omega
    have hit:=st.2.1
    rw [e] at hit
    exact wpAny_nextOf_rev_end hh hit hE
end PySem
namespace TB
open PySem PySem.Spec PyProof.Rows L2
def Ier (K:PySem.W.Frag) (a:Addr) (n:Nat):It :=
  ⟨fun i H=>i < n∧∃ (xs:List V) (x:V),SqL K H a xs∧xs.length=n∧xs[n - 1 - i]? = some x,fun i H v H'=>∃ T x,v = .ref T∧H T=none∧H'=upd H T (.tup [.int (i:Nat),x])∧∀ xs,SqL K H a xs→xs[n - 1 - i]? = some x,fun i H=>n=i∧∃ (xs:List V),SqL K H a xs∧xs.length=n⟩
theorem turn_enumRev {P : Program} {w : World} {K : PySem.W.Frag} {elts : List Expr} {kk : Nat} {tpos : Pos} (a e it : Addr) (n : Nat) :
    Turn P w K (.Tuple elts kk tpos) (Ier K a n) [e,it] e (fun i h=>(∃ old,IsEnum h e it ((i:Nat):Int) old)∧i≤n∧h.IsRevIter it a ((n:Int) - 1 - (i:Int))∧e≠it) where
  mem:=by simp
  obj:=fun i h st b hb=>by
    obtain ⟨⟨old,he⟩,_,⟨o,ho,hc,hd⟩,_⟩:=st
    have e':b=e∨b=it:=by simpa using hb
    rcases e' with z | z
    · rw [z];exact ⟨_,he,fun v q=>nomatch q⟩
    · rw [z];exact ⟨o,ho,fun v q=>by rw [hd] at q;cases q⟩
  keep:=fun i h h' st k=>let ⟨⟨old,he⟩,hin,hi,hne⟩:=st;⟨⟨old,k e (by simp) _ he⟩,hin,hi.at fun o q=>k it (by simp) o q,hne⟩
  item:=by
    intro X hP hw hK hc i pins s σ H E I hf st hg
    subst hP hw hK
    obtain ⟨⟨old,he⟩,hin,hit,hne⟩:=st
    obtain ⟨hlt,xs,x,hq,hxl,hx⟩:=hg
    obtain ⟨its,rv,p,hz⟩:=I.list hq
    obtain ⟨u,hu,ru⟩:=rv.get hx
    have hsz:its.toArray.size=n:=by rw [List.size_toArray,← rv.length];exact hxl
    have hel:e < s.heap.objs.size:=Heap.lt_size he
    have hil:it < s.heap.objs.size:=by obtain ⟨_,q,_⟩:=hit;exact Heap.lt_size q
    have hai:a≠it:=fun z=>by
      obtain ⟨o,ho,hc1,_⟩:=p.isList
      obtain ⟨o2,ho2,hc2,_⟩:=hit
      rw [z,ho2] at ho;cases ho;rw [hc2] at hc1;exact absurd (Value.type.inj hc1) (by decide)
    have hae:e≠a:=fun z=>by
      obtain ⟨o,ho,hc1,_⟩:=p.isList
      have he2:s.heap.get? e=_:=he
      rw [z,ho] at he2;cases he2;exact absurd (Value.type.inj hc1) (by decide)
    have hst:i≤its.toArray.size∧s.heap.IsRevIter it a ((its.toArray.size:Int) - 1 - (i:Int))∧s.heap.IsList a its.toArray:=by rw [hsz];exact ⟨hin,hit,p.isList⟩
    refine wpAny_pyNext_enum_itemD (Draws.rev (A:=X.A.in1) (by simp [I.ok.hd hc]) it a hai its.toArray) he hst (by rw [hsz];exact hlt) hne (by simp [hne,hae]) fun y h' tk hy ho hst' hT hsz' hk=>?_
    have hyu:y=u:=by
      have h1:its.toArray[its.toArray.size - 1 - i]? = some y:=hy
      rw [hsz] at h1
      simp only [List.getElem?_toArray] at h1
      rw [hu] at h1
      exact (Option.some.inj h1).symm
    subst hyu
    refine ⟨_,rfl,wpAny_letOwnedTupleGo_enum (s:={ s with heap:=h',toks:=tk + 1 }) ho fun h'' he' sb=>?_⟩
    have hT2:h''.get? s.heap.objs.size=some { cls:=.type "tuple",data:=.seq #[.int i tk,y] }:=(sb.2 _ (Nat.ne_of_gt hel)).trans hT
    have new:ObjOk X.prog X.w (upd H s.heap.objs.size (.tup [.int (i:Nat),x])) h'' s.heap.objs.size (.tup [.int (i:Nat),x]) :=
      ⟨by show 2≤sizeLine;decide,[.int i tk,y],.cons ⟨_,rfl⟩ (.cons ru .nil),⟨_,hT2,rfl,_,rfl⟩⟩
    have I1:L2.Inv X pins σ (upd H s.heap.objs.size (.tup [.int (i:Nat),x])) { s with heap:=h'',toks:=tk + 1 } :=
      I.turnedNew (ch:=[e,it]) (fun b ob hb q=>(sb.2 b (fun z=>hb (by simp [z]))).trans (hk b ob (fun z=>hb (by simp [z])) (fun z=>hb (by simp [z])) q)) hf (Nat.le_refl _) new
    refine ⟨.ref s.heap.objs.size,_,I1,rfl,⟨_,x,rfl,I.hok.fresh (Nat.le_refl _),rfl,fun ys hy=>by rw [I.list_inj hy hq];exact hx⟩,⟨⟨y,?_⟩,?_,?_,hne⟩,fun b hb=>?_⟩
    · have e1:((i + 1:Nat):Int)=(i:Int) + 1:=by omega
      rw [e1];exact he'
    · exact hlt
    · have z:=hst'.2.1
      rw [hsz] at z
      exact z.at fun o q=>(sb.2 it (Ne.symm hne)).trans q
    · have hb':b < s.heap.objs.size:=by
        have e':b=e∨b=it:=by simpa using hb
        rcases e' with z | z
        · rw [z];exact hel
        · rw [z];exact hil
      rw [upd_ne (Nat.ne_of_lt hb')]
      exact (hf b hb).1
  done:=by
    intro X hP hw hK hc i pins s σ H E I hf st hg
    subst hP hw hK
    obtain ⟨⟨old,he⟩,hin,hit,hne⟩:=st
    obtain ⟨rfl,xs,hq,hxl⟩:=hg
    obtain ⟨its,rv,p,hz⟩:=I.list hq
    obtain ⟨f0,f1,f2,f3,f4,f5⟩:=hf it (by simp)
    have hsz:its.toArray.size=n:=by rw [List.size_toArray,← rv.length];exact hxl
    have hai:a≠it:=fun z=>by
      obtain ⟨o,ho,hc1,_⟩:=p.isList
      obtain ⟨o2,ho2,hc2,_⟩:=hit
      rw [z,ho2] at ho;cases ho;rw [hc2] at hc1;exact absurd (Value.type.inj hc1) (by decide)
    have hst:its.toArray.size≤its.toArray.size∧s.heap.IsRevIter it a ((its.toArray.size:Int) - 1 - (its.toArray.size:Int))∧s.heap.IsList a its.toArray:=⟨Nat.le_refl _,by rw [hsz];exact hit,p.isList⟩
    exact wpAny_pyNext_enum_endD (Draws.rev (A:=X.A.in1) (by simp [I.ok.hd hc]) it a hai its.toArray) he hst fun h' eb=>⟨rfl,I.turned (t':=s.toks) (fun b o hb q=>eb b o hb q) f0 f1 f3 f4 f5⟩
  self:=fun A i s Q E st h=>let ⟨⟨_,he⟩,_⟩:=st;wpAny_pyIter_enum he h
def iEnumRev (K:PySem.W.Frag) (ta:TA):TI:=fun σ H R=>ta σ H fun vs H1=>∃ a xs,vs=[.ref a]∧SqL K H1 a xs∧R (Ier K a xs.length) H1
theorem boot_reversed:bootBuiltins "reversed" = some (.type "reversed"):=by decide +kernel
theorem pi_enumRev {X : Cx} {e : Expr} {ta : TA} {p pos p2 pos2 tpos : Pos} {elts : List Expr} {kk : Nat} (hg : Gl X "enumerate") (hg2 : Gl X "reversed") (hm : X.mg "enumerate" = none) (hm2 : X.mg "reversed" = none) (ha : PA X [e] ta) (hs : starEach [e] X.env = [(false, eval e X.env)] := by rfl)
    (hs2:starEach [.Call (.Name "reversed" p2) [e] [] pos2] X.env=[(false,eval (.Call (.Name "reversed" p2) [e] [] pos2) X.env)]:=by rfl) :
    PI X (.Tuple elts kk tpos) (.Call (.Name "enumerate" p) [.Call (.Name "reversed" p2) [e] [] pos2] [] pos) (iEnumRev X.K ta):=by
  intro pins s σ H R I h
  refine Call_ (ld_blt I hg hm boot_enumerate (PyProof.Rows.callWith_type1 ?_ hs2 rfl))
  rw [hs2]
  show wpAny _ _ (spliced ((false,eval (.Call (.Name "reversed" p2) [e] [] pos2) X.env) :: [])) _ _ s
  refine Calls.spliced_cons ?_
  refine Call_ (ld_blt I hg2 hm2 boot_reversed (PyProof.Rows.callWith_type1 (thn (ha pos2 pins s σ H _ I h) fun us s1 ⟨vs,H1,I1,r1,q1⟩=>?_) hs rfl))
  obtain ⟨a,xs,ex,hq,q⟩:=q1
  subst ex
  rw [Vals.ref1 r1]
  obtain ⟨its,rv,p',hz⟩:=I1.list hq
  have hl:=rv.length
  refine call_reversed_list p'.isList (Calls.spliced_nil ?_)
  have e1:((its.toArray.size:Nat):Int) - 1=(xs.length:Int) - 1 - ((0:Nat):Int):=by simp only [List.size_toArray];omega
  have hrev:(s1.heap.push (revObj a ((its.toArray.size:Int) - 1))).IsRevIter s1.heap.objs.size a ((its.toArray.size:Int) - 1):=⟨_,Heap.get?_push_size _ rfl,rfl,rfl⟩
  refine call_enumerate_rev (s:={ s1 with heap:=s1.heap.push (revObj a ((its.toArray.size:Int) - 1)) }) hrev fun he=>wpAny_pyIter_enum he ?_
  have hsz:(s1.heap.push (revObj a ((its.toArray.size:Int) - 1))).objs.size=s1.heap.objs.size + 1:=Heap.size_push ..
  have hk:∀ b o,s1.heap.get? b=some o→((s1.heap.push (revObj a ((its.toArray.size:Int) - 1))).push { cls:=.type "enumerate",data:=.fields #[.none,.bool false,.ref s1.heap.objs.size,rawInt 0,.none,.none] }).get? b=some o:=fun b o x=>Heap.get?_push_of_some _ (Heap.get?_push_of_some _ x)
  have I2:=I1.kept (t':=s1.toks) hk
  refine ⟨(s1.heap.push (revObj a ((its.toArray.size:Int) - 1))).objs.size,[(s1.heap.push (revObj a ((its.toArray.size:Int) - 1))).objs.size,s1.heap.objs.size],_,_,H1,rfl,I2,turn_enumRev a _ s1.heap.objs.size xs.length,⟨⟨.none,he⟩,Nat.zero_le _,?_,by rw [hsz];exact Nat.succ_ne_self _⟩,fun b hb=>?_,q⟩
  · rw [← e1];exact hrev.at fun o x=>Heap.get?_push_of_some _ x
  · rw [hsz] at hb
    have e':b=s1.heap.objs.size + 1∨b=s1.heap.objs.size:=by simpa using hb
    have hle:s1.heap.objs.size≤b:=by
      rcases e' with z | z
      · rw [z];exact Nat.le_add_right _ _
      · rw [z];exact Nat.le_refl _
    exact I1.fpOk hle (I1.hok.fresh hle)
end TB
namespace TB
open PySem PySem.Spec PyProof.Rows L2
open PySem.W (WData Codec OpenSpec Well WellAll ReadsW ReadsAllW)
section
variable {K:PySem.W.Frag} {H H':Hp}
theorem sqL_le (k:∀ b u,H b=some u→H' b=some u) {a:Addr} {xs:List V} (h:SqL K H a xs):SqL K H' a xs:=by
  rcases h with (h | ⟨o,h⟩) | h
  · exact .inl (.inl (k _ _ h))
  · exact .inl (.inr ⟨o,k _ _ h⟩)
  · exact .inr h
theorem sqT_le (k:∀ b u,H b=some u→H' b=some u) {a:Addr} {xs:List V} (h:SqT K H a xs):SqT K H' a xs:=by
  rcases h with (h | ⟨o,h⟩) | h
  · exact .inl (.inl (k _ _ h))
  · exact .inl (.inr ⟨o,k _ _ h⟩)
  · exact .inr h
mutual
theorem dw_le (k:∀ b u,H b=some u→H' b=some u):∀ (d:WData) (v:V),Dw K H v d→Dw K H' v d
  | .none,_,x=>by cases x;exact .non
  | .bool b,_,x=>by cases x;exact .bl b
  | .int i,_,x=>by cases x;exact .int i
  | .str s,_,x=>by cases x;exact .str s
  | .bytes b,_,x=>by cases x;exact .byt _
  | .list ds,_,x=>by
    cases x with
    | lst hs ha=>exact .lst (sqL_le k hs) (dws_le k ds _ ha)
  | .tuple ds,_,x=>by
    cases x with
    | tup hs ha=>exact .tup (sqT_le k hs) (dws_le k ds _ ha)
  | .float _,_,x=>by cases x
  | .dict _,_,x=>by cases x
  | .bytearray _,_,x=>by cases x
  | .set _,_,x=>by cases x
  | .frozenset _,_,x=>by cases x
  | .obj _ _,_,x=>by cases x
theorem dws_le (k:∀ b u,H b=some u→H' b=some u):∀ (ds:List WData) (vs:List V),DwAll K H vs ds→DwAll K H' vs ds
  | [],_,x=>by cases x;exact .nil
  | d :: ds,_,x=>by
    cases x with
    | cons h1 h2=>exact .cons (dw_le k d _ h1) (dws_le k ds _ h2)
end
end
theorem bmF_stable:∀ h1 h2:Heap,BmF h1→(∀ o,h1.get? 4=some o→h2.get? 4=some o)→BmF h2:=fun _ _ ⟨o,e,r⟩ k=>⟨o,k o e,r⟩
theorem spec_callT {P : Program} {w : World} {K : PySem.W.Frag} {mg mb : Str → Option Value} {CX : CXT} {k : Nat} {fa : Addr} {fd : FuncData} {ps : List Str} {sp : Sp} {s1 : Shared} {vals : List Value} {ds : List WData} {R : PySem.W.WRecords} {cl : Str → Option Addr} {d0 : WData} {ob : Obj}
    (KX:K.In s1.heap) (hns:s1.heap.Ns mainGlobals mg) (hb:s1.heap.Ns builtinsNs mb) (hbb:∀ x:Str,x ≠ "__name__" → mb x=bootBuiltins x) (hlim:s1.heap.NoLimit) (hg:s1.gens=#[])
    (h4:s1.heap.get? 4=some ob) (hob:ob.cls = .type "module" ∧ ob.dict=some builtinsNs∧ob.data = .plain) (k4:K.lookup 4=none) (k165:K.lookup 165=none) (h165:s1.heap.get? 165=some (PySem.W.tabObj #[])) (hcd:PySem.W.CodeHd s1.heap 167 165) (k167:(K.lookup 167).isSome=true)
    (hwl:WellAll w.params s1.heap vals ds) (hpl:plWs ds=true) (hwt:∀ d ∈ ds,d.weight≤1048576) (hr:Room k callerA)
    (F:∀ base:Heap,K.In base→base.Ns mainGlobals mg→FnOk P w K mg base CX k fa fd ps sp) (hbind:∀ (s:Shared) (us:List Value),us.length=ps.length→BindsTo s fd ⟨us,[]⟩ (ps.zip us)) (hlen:ds.length=ps.length)
    (hsp:∀ (H:Hp) (xs:List V),TabOk H→DwAll K H xs ds→sp xs H (fun v H'=>Dw K H' v d0) fun _ _ _=>False)
    (hCX:∀ H e s',CX [] H s1 (fun _ _ _=>False) e s'→False) :
    codeAny (model P w) callerA (.call (.ref fa) ⟨vals,[]⟩) (fun r s'=>∃ u as,r = .ok (.ret u)∧ReadsW R cl s'.heap u d0 as∧OldK s1.heap s'.heap∧s'.os=s1.os∧AllBare s'.gens) s1:=by
  obtain ⟨A,ho,ar⟩:=area_all ds vals hwl hpl hwt
  have hS0:=dw_all KX ar ds vals hwl hpl ho
  have hV:=vals_toV ho
  have isq:∀ b u,argH K s1.heap A b=some u→K.lookup b=none∧b≠4∧b≠165∧∃ o,s1.heap.get? b=some o∧(∃ vs n,o.data = .seq vs n)∧∃ o2 u2,u = .frz o2 u2∧s1.heap.get? b=some o2∧∀ H:Hp,ObjOk P w H s1.heap b u:=fun b u q=>by
    obtain ⟨e1,vs,h1,h2,h3⟩:=argH_is ar q
    have e2:∃ o,s1.heap.get? b=some o∧(∃ vs n,o.data = .seq vs n)∧∃ o2 u2,u = .frz o2 u2∧s1.heap.get? b=some o2∧∀ H:Hp,ObjOk P w H s1.heap b u:=by
      rcases h3 with ⟨e,rfl⟩ | ⟨e,rfl⟩
      · exact ⟨_,e,⟨_,_,rfl⟩,_,_,rfl,e,fun H=>⟨e,by rw [List.length_map];exact h1,vs,_,vals_toV h2,e⟩⟩
      · exact ⟨_,e,⟨_,_,rfl⟩,_,_,rfl,e,fun H=>⟨e,by rw [List.length_map];exact h1,vs,vals_toV h2,_,e,rfl,_,rfl⟩⟩
    refine ⟨e1,fun z=>?_,fun z=>?_,e2⟩
    · obtain ⟨o,e,⟨vs,n,d⟩,_⟩:=e2
      rw [z,h4] at e
      cases e
      rw [hob.2.2] at d
      cases d
    · obtain ⟨o,e,⟨vs,n,d⟩,_⟩:=e2
      rw [z,h165] at e
      cases e
      cases d
  let H:Hp:=upd (upd (argH K s1.heap A) 165 (.tbl #[])) 4 (.frz ob (.ext BmF))
  have H4:H 4=some (.frz ob (.ext BmF)):=upd_same
  have H165:H 165=some (.tbl #[]):=by
    show upd _ 4 _ 165=_
    rw [upd_ne (by decide),upd_same]
  have Hne:∀ {b:Addr},b≠4→b≠165→H b=argH K s1.heap A b:=fun {b} n1 n2=>by
    show upd (upd _ 165 _) 4 _ b=_
    rw [upd_ne n1,upd_ne n2]
  have cases3:∀ {b:Addr} {u:HO},H b=some u→(b=4∧u = .frz ob (.ext BmF))∨(b=165∧u = .tbl #[])∨(b≠4∧b≠165∧argH K s1.heap A b=some u):=fun {b u} e=>by
    by_cases n1:b=4
    · rw [n1,H4] at e;exact .inl ⟨n1,(Option.some.inj e).symm⟩
    · by_cases n2:b=165
      · rw [n2,H165] at e;exact .inr (.inl ⟨n2,(Option.some.inj e).symm⟩)
      · rw [Hne n1 n2] at e;exact .inr (.inr ⟨n1,n2,e⟩)
  have hS:DwAll K H (vals.map toV) ds:=dws_le (fun b u q=>by rw [Hne (isq b u q).2.1 (isq b u q).2.2.1];exact q) ds _ hS0
  have ht:TabOk H:=⟨⟨ob,H4⟩,#[],H165,.inl rfl⟩
  have hok:HOk P w H s1.heap:=fun b u e=>by
    rcases cases3 e with ⟨rfl,rfl⟩ | ⟨rfl,rfl⟩ | ⟨_,_,q⟩
    · exact ⟨h4,⟨ob,h4,hob⟩,⟨ob,h4⟩,bmF_stable⟩
    · exact h165
    · obtain ⟨_,_,_,_,_,_,_,_,_,_,z⟩:=isq b u q
      exact z H
  have hK:∀ b u,H b=some u→K.lookup b=none:=fun b u e=>by
    rcases cases3 e with ⟨rfl,_⟩ | ⟨rfl,_⟩ | ⟨_,_,q⟩
    · exact k4
    · exact k165
    · exact (isq b u q).1
  have noA:∀ {b:Addr} {o:Obj} {es:Array DictEntry} {ep:Nat},s1.heap.get? b=some o→o.data = .dict es ep→H b=none:=fun {b o es ep} e d=>by
    cases q:H b with
    | none=>rfl
    | some u =>
      rcases cases3 q with ⟨rfl,_⟩ | ⟨rfl,_⟩ | ⟨_,_,q⟩
      · rw [h4] at e;cases e;rw [hob.2.2] at d;cases d
      · rw [h165] at e;cases e;cases d
      · obtain ⟨_,_,_,o2,e2,⟨vs,n,d2⟩,_⟩:=isq b u q
        rw [e2] at e;cases e;rw [d2] at d;cases d
  clear_value H
  have base_of:∀ {b:Addr} {o:Obj},s1.heap.get? b=some o→H b=none→(hidT s1.heap H).get? b=some o:=fun e n=>hidT_get e n
  have nsK:∀ {b:Addr} {m:Str→Option Value},s1.heap.Ns b m→(hidT s1.heap H).Ns b m:=fun {b m} ⟨o,es,ep,e,d,r⟩=>⟨o,es,ep,base_of e (noA e d),d,r⟩
  have nK:∀ b o,K.lookup b=some o→H b=none:=fun b o e=>by
    cases q:H b with
    | none=>rfl
    | some u=>rw [hK b u q] at e;cases e
  have hKb:K.In (hidT s1.heap H):=fun b o e=>base_of (KX b o e) (nK b o e)
  have hM:Mod K mg (hidT s1.heap H):=⟨hKb,nsK hns,⟨mb,nsK hb,hbb⟩,let ⟨mc,h1,h2⟩:=hlim;⟨mc,nsK h1,h2⟩⟩
  have e0:Env0 P w K mg (hidT s1.heap H) callerA [] s1 H:=⟨rfl,hM,fun b o e=>of_hidT e,Nat.le_of_eq (hidT_size _ _),trivial,fun b hb=>absurd (show b ∈ ([]:List Addr) from hb) (by simp),hok,.of_eq hg⟩
  have hl:vals.length=ps.length:=by rw [wellAll_len hwl];exact hlen
  refine codeAny_mono ((F _ hKb (nsK hns)).run callerA [] s1 H ⟨vals,[]⟩ vals (vals.map toV) _ _ hr e0 (hbind s1 vals hl) hV (hsp H _ ht hS)) fun r s' x=>?_
  cases r with
  | error e=>exact (hCX H e s' x).elim
  | ok fl =>
    cases fl with
    | next=>exact False.elim x
    | brk=>exact False.elim x
    | cont=>exact False.elim x
    | ret u =>
      obtain ⟨v,H',os,bare,un,hok',r',q⟩:=x
      have kept:∀ b o,b≠165→s1.heap.get? b=some o→s'.heap.get? b=some o:=fun b o nb e=>by
        cases q2:H b with
        | none=>exact un.keep b o e q2 (by intro z;exact absurd (show b ∈ ([]:List Addr) from z) (by simp)) (by simp)
        | some u2 =>
          have fz:∃ o2 u3,H b=some (.frz o2 u3):=by
            rcases cases3 q2 with ⟨_,rfl⟩ | ⟨z,_⟩ | ⟨_,_,q3⟩
            · exact ⟨_,_,q2⟩
            · exact absurd z nb
            · obtain ⟨_,_,_,_,_,_,o2,u3,rfl,_⟩:=isq b u2 q3
              exact ⟨_,_,q2⟩
          obtain ⟨o2,u3,z⟩:=fz
          have z2:=un.frzs b o2 _ z
          obtain ⟨e1,_⟩:=hok b _ z
          obtain ⟨e2,_⟩:=hok' b _ z2
          rw [e] at e1
          cases e1
          exact e2
      have KX':K.In s'.heap:=fun b o e=>kept b o (fun z=>by rw [z,k165] at e;cases e) (KX b o e)
      obtain ⟨as,hrd⟩:=Dw.reads (R:=R) (cl:=cl) hok' KX' d0 v u q r'
      obtain ⟨more,hm⟩:=un.tbls 165 #[] H165
      have t165:s'.heap.get? 165=some (PySem.W.tabObj (#[]++more)):=hok' 165 _ hm
      have ht0:s1.heap.TableAt 167 165 #[]:=hcd.tab h165
      have hx:Heap.ExtBut 165 s1.heap s'.heap:=fun b o nb e=>kept b o nb e
      have ht1:s'.heap.TableAt 167 165 (#[]++more):=by
        obtain ⟨⟨o,vs,e1,e2,e3,e4⟩,_⟩:=ht0
        exact ⟨⟨o,vs,kept 167 o (by decide) e1,e2,e3,e4⟩,t165⟩
      exact ⟨u,as,rfl,hrd,(OldK.refl s1.heap).step_table ht0 ht0 ht1 hx (by decide),os,bare⟩
theorem walk_specT {r : OpenSpec} {k : Nat} {q : Program} {loose : List Str} {XP : (Str → Option Value) → Heap → Prop} {YP : World → Heap → Prop} {d : DefRec} {K : Params → PySem.W.Frag} {CX : CXT} {ps : List Str} {sp : PySem.W.Frag → Sp}
    (hwell:r.wellSaid=true) (hdf:d.params.defaults=[]) (hlen:r.args.length=ps.length) (hr:Room k callerA)
    (hY:∀ (w:World) (h:Heap),YP w h→(K w.params).In h∧h.get? 165=some (PySem.W.tabObj #[]))
    (h4:∀ w:World,PySem.W.nsIn (K w.params) mainGlobals "__builtins__" = some (some (.ref 4))) (k4:∀ w:World,(K w.params).lookup 4=none) (k165:∀ w:World,(K w.params).lookup 165=none) (hcd:∀ w:World,PySem.W.codeHdIn (K w.params) 167 165=true)
    (F:∀ (w:World) (mg:Str→Option Value) (fa:Addr) (h:Heap),(K w.params).In h→h.Ns mainGlobals mg→mg d.name=some (.ref fa) →
      ∃ fd:FuncData,(∀ (s:Shared) (us:List Value),us.length=ps.length→BindsTo s fd ⟨us,[]⟩ (ps.zip us)) ∧
        ∀ base:Heap,(K w.params).In base→base.Ns mainGlobals mg→FnOk r.prog w (K w.params) mg base CX k fa fd ps (sp (K w.params)))
    (hsp:∀ (K:PySem.W.Frag) (H:Hp) (xs:List V) (a:Codec.denoteAll r.args),TabOk H→Codec.withinAll r.args a=true→Codec.app r.args r.asked a=true→DwAll K H xs (Codec.encAll r.args a) →
      sp K xs H (fun v H'=>Dw K H' v (r.ret.enc (Codec.app r.args r.f a))) fun _ _ _=>False)
    (hCX:∀ (H:Hp) (s:Shared) (e:Value) (s':Shared),CX [] H s (fun _ _ _=>False) e s'→False) :
    PySem.W.WalkOS q loose XP YP r d [] (fun f vs=>PySem.call f vs):=by
  intro w s_0 s1 mg mb G Y fa o pm cd doc dV kV ho hd hcd' hD hmg hg args vals as hpre hlay hrd hwl hlo
  obtain ⟨a,e1,e2⟩:=PySem.W.os_pre_some hpre
  obtain ⟨e3,hwi⟩:=Codec.encAll_of_decAll r.args args a e1
  subst e3
  obtain ⟨KX,h165⟩:=hY w _ Y
  obtain ⟨fd,hb,hF⟩:=F w mg fa _ KX G.T.g hmg
  obtain ⟨bm,ob,b1,_,b3,b4,b5,b6⟩:=G.T.bmain
  have eb:=PySem.W.mg_of KX G.T.g (h4 w)
  rw [eb] at b1
  have hbm:bm=4:=by cases b1;rfl
  subst hbm
  have hc:=PySem.W.codeHd_of_K KX (hcd w)
  have k167:((K w.params).lookup 167).isSome=true:=by
    have:=hcd w
    unfold PySem.W.codeHdIn at this
    split at this
    · rename_i h;rw [h];rfl
    · cases this
  refine PySem.W.enter_call (codeAny_mono (spec_callT (R:=[]) (cl:=classAt s_0.heap) (d0:=r.ret.enc (Codec.app r.args r.f a)) KX G.T.g G.T.b G.T.builtins G.T.nolimit hg b3 ⟨b4,b5,b6⟩ (k4 w) (k165 w) h165 hc k167 hwl (pl_encAll _ _) (layable_weight hlay) hr hF hb (by rw [encAll_len];exact hlen)
    (fun H xs hO hS=>hsp (K w.params) H xs a hO hwi e2 hS) fun H e s'=>hCX H s1 e s') fun r' s' hq=>?_)
  obtain ⟨u,as',rfl,h1,h2,h3,h4'⟩:=hq
  exact ⟨.inl ⟨u,_,as',rfl,fun _=>rfl,h1,(OpenSpec.post_iff hwell hwi _ _).mpr rfl,fun z=>Bool.noConfusion (show false=true from z)⟩,h2,h3,h4'⟩
end TB
namespace TB
open PySem PySem.Spec PyProof.Rows L2
open PySem.W (Codec)
section
variable {P:Program} {w:World} {K:PySem.W.Frag} {mg:Str→Option Value} {base:Heap}
def sp_within (T:Txt K mg):Sp:=fun vs H Q _=>∃ z lo hi:Int,vs=[.int z,.int lo,.int hi]∧Q (.bl (Vbfuao.within z lo hi)) H
theorem ok_within (T:Txt K mg):FnOk P w K mg base CX0 1 T.f_within.f T.f_within.fd ["number", "least", "most"] (sp_within T):=by
  refine T.f_within.F.ok sc_within (fun vs H Q E h=>?_) (fun cdv A outer s H vs Q E hr h=>?_)
  · obtain ⟨z,lo,hi,rfl,_⟩:=h;rfl
  · obtain ⟨z,lo,hi,rfl,k⟩:=h
    refine ⟨_,(pss_one (ps_ret (pe_chain op_le op_le (pv 1) (pv 0) (pv 2)))),?_⟩
    refine (Ze rfl (Ze rfl (Zo rfl rfl (Ze rfl ?_))))
    unfold Vbfuao.within at k
    refine ite2 (fun h1=>?_) (fun h1=>?_)
    · refine (Ze rfl (Zo rfl rfl ?_))
      rw [h1,Bool.true_and] at k
      exact k
    · rw [Bool.eq_false_iff.mpr h1,Bool.false_and] at k
      exact k
theorem sumInt_eq:∀ l:List Int,Vbfuao.sumInt l=l.sum
  | []=>rfl
  | a :: l=>by
    show a + Vbfuao.sumInt l=(a :: l).sum
    rw [sumInt_eq l,List.sum_cons]
structure LstAt (H:Hp) (g:Gh) (s:State) (l:Addr) (ps:List Nat):Prop where
  at_:H l=some (.lst (g.rfs ps))
  ok:∀ i ∈ ps,i < s.entries.length
  len:ps.length≤1000
theorem LstAt.keep {H H':Hp} {g:Gh} {s:State} {l:Addr} {ps:List Nat} (h:LstAt H g s l ps) (m:Sm H H'):LstAt H' g s l ps:=⟨m.get h.at_,h.ok,h.len⟩
theorem amounts {s:State} {ps:List Nat}:((ps.filter fun _=>true).map fun i=>V.int (Vbfuao.entryAt s i).amount)=(ps.map fun i=>(Vbfuao.entryAt s i).amount).map V.int:=by
  rw [List.filter_eq_self.mpr (fun _ _=>rfl),List.map_map];rfl
def sp_gap_of (T:Txt K mg):Sp:=fun vs H Q _=>∃ (g:Gh) (s:State) (l r:Addr) (ps qs:List Nat),vs=[.ref l,.ref r]∧Rep T H g s∧LstAt H g s l ps∧LstAt H g s r qs∧∀ H',Sm H H'→Q (.int (Vbfuao.sumOf s ps - Vbfuao.sumOf s qs)) H'
theorem ok_gap_of (T:Txt K mg):FnOk P w K mg base CX0 1 T.f_gap_of.f T.f_gap_of.fd ["left", "right"] (sp_gap_of T):=by
  refine T.f_gap_of.F.ok sc_gap_of (fun vs H Q E h=>?_) (fun cdv A outer s H vs Q E hr h=>?_)
  · obtain ⟨_,_,_,_,_,_,rfl,_⟩:=h;rfl
  · obtain ⟨g,S,l,r,ps,qs,rfl,R,hl,hr',k⟩:=h
    refine ⟨_,(pss_one (ps_ret (pe_op op_sub (pe_callB (cr_sum rfl) rfl T.n_sum boot_sum (pa_cons (pe_lc rfl sc_gap_of.nd (pi_list (pv 0)) (blkOk_by (own:=[("entry",2)]) (by kernel_rfl)) (fun _ _ _ _ _=>pg_name (i:=2) sc_gap_of.nd rfl (Or.inl rfl)) (fun _ _ _ _ _=>pts_nil) (fun _ _ _ _ _=>(pe_fldK (K:=K) rfl (pv 2) rfl))) pa_nil)) (pe_callB (cr_sum rfl) rfl T.n_sum boot_sum (pa_cons (pe_lc rfl sc_gap_of.nd (pi_list (pv 1)) (blkOk_by (own:=[("entry",2)]) (by kernel_rfl)) (fun _ _ _ _ _=>pg_name (i:=2) sc_gap_of.nd rfl (Or.inl rfl)) (fun _ _ _ _ _=>pts_nil) (fun _ _ _ _ _=>(pe_fldK (K:=K) rfl (pv 2) rfl))) pa_nil))))),?_⟩
    refine (Ze rfl ⟨l,rfl,⟨_,SqL.of hl.at_⟩,fun D hD=>lc_fn (ys:=ps) (p:=fun _=>true) (f:=fun i=>V.int (Vbfuao.entryAt S i).amount) hD (SqL.of hl.at_) (Nat.le_trans hl.len (by decide)) (fun i hi H1 Q1 Q0 m1 h1 h0=>?_) fun H1 m1 e1=>?_⟩)
    · obtain ⟨dx,ig,e,_⟩:=(R.keep m1).at (hl.ok i hi)
      refine ⟨rfl,?_⟩
      refine yesT (Ze rfl (Zf e T.cl_Entry T.na_Entry_amount rfl (h1 rfl _ (Sx.refl _))))
    · refine ⟨D,Ze rfl ⟨SqL.of (e1.trans (congrArg (fun q=>some (HO.lst q)) amounts)),?_⟩⟩
      have R1:=R.keep m1
      refine (Ze rfl ⟨r,rfl,⟨_,SqL.of (hr'.keep m1).at_⟩,fun D hD=>lc_fn (ys:=qs) (p:=fun _=>true) (f:=fun i=>V.int (Vbfuao.entryAt S i).amount) hD (SqL.of (hr'.keep m1).at_) (Nat.le_trans hr'.len (by decide)) (fun i hi H1 Q1 Q0 m1 h1 h0=>?_) fun H2 m2 e2=>?_⟩)
      · obtain ⟨dx,ig,e,_⟩:=(R1.keep m1).at (hr'.ok i hi)
        refine ⟨rfl,?_⟩
        refine yesT (Ze rfl (Zf e T.cl_Entry T.na_Entry_amount rfl (h1 rfl _ (Sx.refl _))))
      · refine ⟨D,Ze rfl ⟨SqL.of (e2.trans (congrArg (fun q=>some (HO.lst q)) amounts)),?_⟩⟩
        refine (Zo rfl rfl ?_)
        have z:=k H2 (m1.trans m2)
        unfold Vbfuao.sumOf at z
        rw [sumInt_eq,sumInt_eq] at z
        exact z
end
end TB
namespace TB
open PySem PySem.Spec PyProof.Rows L2
open PySem.W (Codec)
section
variable {P:Program} {w:World} {K:PySem.W.Frag} {mg:Str→Option Value} {base:Heap}
theorem ite3 {c A B:Prop} [Decidable c] (h1:c→A) (h2 : ¬ c→B):if decide c=true then A else B:=by
  by_cases h:c
  · rw [if_pos (decide_eq_true h)];exact h1 h
  · rw [if_neg (by simpa using h)];exact h2 h
theorem iteb {b:Bool} {A B:Prop} (h1:b=true→A) (h2:b=false→B):if b=true then A else B:=by
  cases b with
  | true=>exact iteT (h1 rfl)
  | false=>exact iteF (h2 rfl)
theorem iten {b:Bool} {A B:Prop} (h1:b=false→A) (h2:b=true→B):if (!b)=true then A else B:=by
  cases b with
  | true=>exact iteF (h2 rfl)
  | false=>exact iteT (h1 rfl)
theorem ite3n {c A B:Prop} [Decidable c] (h1 : ¬ c→A) (h2:c→B):if (!decide c)=true then A else B:=by
  by_cases h:c
  · rw [if_neg (by simpa using h)];exact h2 h
  · rw [if_pos (by simpa using h)];exact h1 h
theorem acc_some {T:Txt K mg} {H:Hp} {ov:Option V} {ox:Option Vbfuao.Account} (h:AccIs T H ov ox):ov.isSome=ox.isSome:=by
  unfold AccIs at h
  split at h
  · rfl
  · rfl
  · exact h.elim
def rr (s:State) (b z:Int):Int:=if (accAt s z).isSome=true then (if Vbfuao.within b 0 2=true then 0 else -1) else -2
def sp_range_refusal (T:Txt K mg):Sp:=fun vs H Q _=>∃ (g:Gh) (s:State) (b z:Int),vs=[.ref g.F,.int b,.int z]∧Rep T H g s∧Q (.int (rr s b z)) H
theorem ok_range_refusal (T:Txt K mg):FnOk P w K mg base CX0 2 T.f_range_refusal.f T.f_range_refusal.fd ["fund", "book_or_pair", "account"] (sp_range_refusal T):=by
  have G_within:=ok_within (P:=P) (w:=w) (base:=base) T
  refine T.f_range_refusal.F.ok sc_range_refusal (fun vs H Q E h=>?_) (fun cdv A outer s H vs Q E hr h=>?_)
  · obtain ⟨_,_,_,_,rfl,_⟩:=h;rfl
  · obtain ⟨g,S,b,z,rfl,R,k⟩:=h
    refine ⟨_,(pss_cons (ps_if (pt_cmp (pc_dnotin (hu_of hr) (pv 2) (pe_fld (pv 0) rfl))) (pss_one (ps_ret (pe_gint rfl T.g_NO_ACCOUNT))) pss_nil)
      (pss_cons (ps_if (pt_not (pt_val (pe_call G_within (hr.mono (by decide)) rfl T.m_within T.f_within.kp T.f_within.b .nil pass0 (pa_cons (pv 1) (pa_cons pe_int (pa_cons pe_int pa_nil)))))) (pss_one (ps_ret (pe_gint rfl T.g_OUT_OF_RANGE))) pss_nil)
      (pss_one (ps_ret pe_int)))),?_⟩
    obtain ⟨dF,eF⟩:=R.fund
    obtain ⟨kvs,eA,_,hv⟩:=R.acc
    have hs:=acc_some (hv z)
    unfold rr at k
    refine (Ze rfl (Ze rfl (Zf eF T.cl_Fund T.na_Fund_accounts rfl ⟨g.A,Ze rfl ⟨DGet.k (k:=Sum.inl z) eA,Ze rfl ?_⟩⟩)))
    rw [hs]
    refine iten (fun h1=>?_) (fun h1=>?_)
    · rw [h1] at k
      exact k
    · rw [h1,if_pos rfl] at k
      refine (Ze rfl ⟨b,0,2,rfl,Ze rfl ?_⟩)
      refine iten (fun h2=>?_) (fun h2=>?_)
      · rw [h2] at k
        exact k
      · rw [h2,if_pos rfl] at k
        exact k
def sp_Account_init (T:Txt K mg):Sp:=fun vs H Q _=>∃ (p dx:Addr) (a b c:V),vs=[.ref p,a,b,c]∧H p=some (.ins T.c_Account dx [])∧Q .non (upd H p (.ins T.c_Account dx [("window",a),("tolerance",b),("size",c)]))
theorem ok_Account_init (T:Txt K mg):FnOk P w K mg base CX0 1 T.f_Account_init.f T.f_Account_init.fd ["self", "window", "tolerance", "size"] (sp_Account_init T):=by
  refine T.f_Account_init.F.ok sc_Account_init (fun vs H Q E h=>?_) (fun cdv A outer s H vs Q E hr h=>?_)
  · obtain ⟨_,_,_,_,_,rfl,_⟩:=h;rfl
  · obtain ⟨p,dx,a,b,c,rfl,e,k⟩:=h
    refine ⟨_,(pss_cons (ps_fld (pv 0) (pv 1) rfl)
      (pss_cons (ps_fld (pv 0) (pv 2) rfl)
      (pss_one (ps_fld (pv 0) (pv 3) rfl)))),?_⟩
    refine (Ze rfl (Ze rfl ⟨p,_,dx,(Ze rfl ⟨e,T.cl_Account,T.na_Account_window,by show 0 < 1000;decide,?_⟩)⟩))
    refine (Ze rfl (Ze rfl ⟨p,_,dx,(Ze rfl ⟨upd_same,T.cl_Account,T.na_Account_tolerance,by show 1 < 1000;decide,?_⟩)⟩))
    refine (Ze rfl (Ze rfl ⟨p,_,dx,(Ze rfl ⟨upd_same,T.cl_Account,T.na_Account_size,by show 2 < 1000;decide,?_⟩)⟩))
    rw [upd_upd,upd_upd]
    exact k
def sp_Plan_init (T:Txt K mg):Sp:=fun vs H Q _=>∃ (p dx:Addr) (a b c:V),vs=[.ref p,a,b,c]∧H p=some (.ins T.c_Plan dx [])∧Q .non (upd H p (.ins T.c_Plan dx [("fits",a),("rank",b),("marks",c)]))
theorem ok_Plan_init (T:Txt K mg):FnOk P w K mg base CX0 1 T.f_Plan_init.f T.f_Plan_init.fd ["self", "fits", "rank", "marks"] (sp_Plan_init T):=by
  refine T.f_Plan_init.F.ok sc_Plan_init (fun vs H Q E h=>?_) (fun cdv A outer s H vs Q E hr h=>?_)
  · obtain ⟨_,_,_,_,_,rfl,_⟩:=h;rfl
  · obtain ⟨p,dx,a,b,c,rfl,e,k⟩:=h
    refine ⟨_,(pss_cons (ps_fld (pv 0) (pv 1) rfl)
      (pss_cons (ps_fld (pv 0) (pv 2) rfl)
      (pss_one (ps_fld (pv 0) (pv 3) rfl)))),?_⟩
    refine (Ze rfl (Ze rfl ⟨p,_,dx,(Ze rfl ⟨e,T.cl_Plan,T.na_Plan_fits,by show 0 < 1000;decide,?_⟩)⟩))
    refine (Ze rfl (Ze rfl ⟨p,_,dx,(Ze rfl ⟨upd_same,T.cl_Plan,T.na_Plan_rank,by show 1 < 1000;decide,?_⟩)⟩))
    refine (Ze rfl (Ze rfl ⟨p,_,dx,(Ze rfl ⟨upd_same,T.cl_Plan,T.na_Plan_marks,by show 2 < 1000;decide,?_⟩)⟩))
    rw [upd_upd,upd_upd]
    exact k
def sp_Group_init (T:Txt K mg):Sp:=fun vs H Q _=>∃ (p dx:Addr) (a b c d:V),vs=[.ref p,a,b,c,d]∧H p=some (.ins T.c_Group dx [])∧Q .non (upd H p (.ins T.c_Group dx [("pair",a),("account",b),("left",c),("right",d),("holds",.bl true)]))
theorem ok_Group_init (T:Txt K mg):FnOk P w K mg base CX0 1 T.f_Group_init.f T.f_Group_init.fd ["self", "pair", "account", "left", "right"] (sp_Group_init T):=by
  refine T.f_Group_init.F.ok sc_Group_init (fun vs H Q E h=>?_) (fun cdv A outer s H vs Q E hr h=>?_)
  · obtain ⟨_,_,_,_,_,_,rfl,_⟩:=h;rfl
  · obtain ⟨p,dx,a,b,c,d,rfl,e,k⟩:=h
    refine ⟨_,(pss_cons (ps_fld (pv 0) (pv 1) rfl)
      (pss_cons (ps_fld (pv 0) (pv 2) rfl)
      (pss_cons (ps_fld (pv 0) (pv 3) rfl)
      (pss_cons (ps_fld (pv 0) (pv 4) rfl)
      (pss_one (ps_fld (pv 0) pe_bl rfl)))))),?_⟩
    refine (Ze rfl (Ze rfl ⟨p,_,dx,(Ze rfl ⟨e,T.cl_Group,T.na_Group_pair,by show 0 < 1000;decide,?_⟩)⟩))
    refine (Ze rfl (Ze rfl ⟨p,_,dx,(Ze rfl ⟨upd_same,T.cl_Group,T.na_Group_account,by show 1 < 1000;decide,?_⟩)⟩))
    refine (Ze rfl (Ze rfl ⟨p,_,dx,(Ze rfl ⟨upd_same,T.cl_Group,T.na_Group_left,by show 2 < 1000;decide,?_⟩)⟩))
    refine (Ze rfl (Ze rfl ⟨p,_,dx,(Ze rfl ⟨upd_same,T.cl_Group,T.na_Group_right,by show 3 < 1000;decide,?_⟩)⟩))
    refine (Ze rfl ⟨p,_,dx,(Ze rfl ⟨upd_same,T.cl_Group,T.na_Group_holds,by show 4 < 1000;decide,?_⟩)⟩)
    rw [upd_upd,upd_upd,upd_upd,upd_upd]
    exact k
def entV (a b c d e f:V) (ig:Addr):List (Str × V):=[("place",a),("book",b),("account",c),("day",d),("amount",e),("reference",f),("there",.bl true),("in_groups",.ref ig)]
def sp_Entry_init (T:Txt K mg):Sp:=fun vs H Q _=>∃ (p dx:Addr) (a b c d e f:V),vs=[.ref p,a,b,c,d,e,f]∧H p=some (.ins T.c_Entry dx []) ∧
  ∀ ig,H ig=none→Q .non (upd (upd H ig (.lst [.int (-1),.int (-1),.int (-1)])) p (.ins T.c_Entry dx (entV a b c d e f ig)))
theorem ok_Entry_init (T:Txt K mg):FnOk P w K mg base CX0 1 T.f_Entry_init.f T.f_Entry_init.fd ["self", "place", "book", "account", "day", "amount", "reference"] (sp_Entry_init T):=by
  refine T.f_Entry_init.F.ok sc_Entry_init (fun vs H Q E h=>?_) (fun cdv A outer s H vs Q E hr h=>?_)
  · obtain ⟨_,_,_,_,_,_,_,_,rfl,_⟩:=h;rfl
  · obtain ⟨p,dx,a,b,c,d,e,f,rfl,ep,k⟩:=h
    refine ⟨_,(pss_cons (ps_fld (pv 0) (pv 1) rfl)
      (pss_cons (ps_fld (pv 0) (pv 2) rfl)
      (pss_cons (ps_fld (pv 0) (pv 3) rfl)
      (pss_cons (ps_fld (pv 0) (pv 4) rfl)
      (pss_cons (ps_fld (pv 0) (pv 5) rfl)
      (pss_cons (ps_fld (pv 0) (pv 6) rfl)
      (pss_cons (ps_fld (pv 0) pe_bl rfl)
      (pss_one (ps_fld (pv 0) (pe_lst (pa_cons (pe_gint rfl T.g_NO_GROUP) (pa_cons (pe_gint rfl T.g_NO_GROUP) (pa_cons (pe_gint rfl T.g_NO_GROUP) pa_nil)))) rfl))))))))),?_⟩
    refine (Ze rfl (Ze rfl ⟨p,_,dx,(Ze rfl ⟨ep,T.cl_Entry,T.na_Entry_place,by show 0 < 1000;decide,?_⟩)⟩))
    refine (Ze rfl (Ze rfl ⟨p,_,dx,(Ze rfl ⟨upd_same,T.cl_Entry,T.na_Entry_book,by show 1 < 1000;decide,?_⟩)⟩))
    refine (Ze rfl (Ze rfl ⟨p,_,dx,(Ze rfl ⟨upd_same,T.cl_Entry,T.na_Entry_account,by show 2 < 1000;decide,?_⟩)⟩))
    refine (Ze rfl (Ze rfl ⟨p,_,dx,(Ze rfl ⟨upd_same,T.cl_Entry,T.na_Entry_day,by show 3 < 1000;decide,?_⟩)⟩))
    refine (Ze rfl (Ze rfl ⟨p,_,dx,(Ze rfl ⟨upd_same,T.cl_Entry,T.na_Entry_amount,by show 4 < 1000;decide,?_⟩)⟩))
    refine (Ze rfl (Ze rfl ⟨p,_,dx,(Ze rfl ⟨upd_same,T.cl_Entry,T.na_Entry_reference,by show 5 < 1000;decide,?_⟩)⟩))
    refine (Ze rfl ⟨p,_,dx,(Ze rfl ⟨upd_same,T.cl_Entry,T.na_Entry_there,by show 6 < 1000;decide,?_⟩)⟩)
    rw [upd_upd,upd_upd,upd_upd,upd_upd,upd_upd,upd_upd]
    refine ⟨by show 3≤sizeLine;decide,fun ig hig=>?_⟩
    have np:p≠ig:=ne_of_none upd_same hig
    rw [upd_ne (Ne.symm np)] at hig
    refine (Ze rfl ⟨p,_,dx,(Ze rfl ⟨by rw [upd_ne np,upd_same],T.cl_Entry,T.na_Entry_in_groups,by show 7 < 1000;decide,?_⟩)⟩)
    have q:=k ig hig
    have z:∀ (o o1 o2:HO),upd (upd (upd H p o) ig o1) p o2=upd (upd H ig o1) p o2:=fun o o1 o2=>by
      funext b;unfold upd;by_cases h1:b=p
      · simp [h1]
      · simp [h1]
    rw [z]
    exact q
theorem gr_at (s:State) (i:Nat) {p:Nat} (hp:p≤2):([.int (grI s 0 i),.int (grI s 1 i),.int (grI s 2 i)]:List V)[p]? = some (.int (grI s p i)):=by
  match p,hp with
  | 0,_=>rfl
  | 1,_=>rfl
  | 2,_=>rfl
theorem grI_none (s:State) (p i:Nat):decide (V.int (grI s p i)=V.int (-1))=(Vbfuao.groupOf s p i).isNone:=by
  unfold grI
  cases h:Vbfuao.groupOf s p i with
  | none=>simp
  | some k=>simp
def opB (s:State) (p i:Nat):Bool:=(Vbfuao.entryAt s i).there&&(Vbfuao.groupOf s p i).isNone
def sp_Entry_is_open (T:Txt K mg):Sp:=fun vs H Q _=>∃ (g:Gh) (s:State) (i p:Nat),vs=[g.rf i,.int (p:Nat)]∧Rep T H g s∧i < s.entries.length∧p≤2∧Q (.bl (opB s p i)) H
theorem ok_Entry_is_open (T:Txt K mg):FnOk P w K mg base CX0 1 T.f_Entry_is_open.f T.f_Entry_is_open.fd ["self", "pair"] (sp_Entry_is_open T):=by
  refine T.f_Entry_is_open.F.ok sc_Entry_is_open (fun vs H Q E h=>?_) (fun cdv A outer s H vs Q E hr h=>?_)
  · obtain ⟨_,_,_,_,rfl,_⟩:=h;rfl
  · obtain ⟨g,S,i,p,rfl,R,hi,hp,k⟩:=h
    refine ⟨_,(pss_one (ps_ret (pe_and (pe_fld (pv 0) rfl) (pe_one (pe_cmpR op_eq (pe_ix ix_list (pe_fld (pv 0) rfl) (pv 1) (fun _ _=>rfl)) (pe_gint rfl T.g_NO_GROUP) (nomark _)))))),?_⟩
    obtain ⟨dx,ig,e1,e2,_⟩:=R.at hi
    unfold opB at k
    refine (Ze rfl (Zf e1 T.cl_Entry T.na_Entry_there rfl (Ze rfl ?_)))
    refine iteb (fun h1=>?_) (fun h1=>?_)
    · refine (Ze rfl (Zf e1 T.cl_Entry T.na_Entry_in_groups rfl (Ze rfl ⟨_,_,_,_,rfl,rfl,SqL.of e2,atI_nat (gr_at S i hp),rfl,?_⟩)))
      rw [h1,Bool.true_and] at k
      rw [grI_none]
      exact k
    · rw [h1,Bool.false_and] at k
      exact k
def sp_Fund_entry_at (T:Txt K mg):Sp:=fun vs H Q _=>∃ (g:Gh) (s:State) (z:Int),vs=[.ref g.F,.int z]∧Rep T H g s∧Q (match Vbfuao.thereAt s z with | none=>.non | some k=>g.rf k) H
theorem entryAt_out {s:State} {i:Nat} (h:s.entries.length≤i):Vbfuao.entryAt s i=Vbfuao.noEntry:=by
  unfold Vbfuao.entryAt
  rw [List.getD_eq_getElem?_getD,List.getElem?_eq_none h];rfl
theorem thereAt_of {s:State} {z:Int} {k:Nat} (h:Vbfuao.thereAt s z=some k):z=(k:Int)∧k < s.entries.length∧(Vbfuao.entryAt s k).there=true:=by
  unfold Vbfuao.thereAt at h
  split at h
  · cases h
  · split at h
    · rename_i h1 h2
      cases h
      refine ⟨by omega,?_,h2⟩
      by_cases q:z.toNat < s.entries.length
      · exact q
      · rw [entryAt_out (by omega)] at h2;cases h2
    · cases h
theorem es_at {T:Txt K mg} {H:Hp} {g:Gh} {s:State} (R:Rep T H g s) {i:Nat} (hi:i < s.entries.length):(g.es.map V.ref)[i]? = some (g.rf i):=by
  obtain ⟨_,_,_,_,_,h⟩:=R.at hi
  rw [List.getElem?_map,h];rfl
theorem ok_Fund_entry_at (T:Txt K mg):FnOk P w K mg base CX0 1 T.f_Fund_entry_at.f T.f_Fund_entry_at.fd ["self", "place"] (sp_Fund_entry_at T):=by
  refine T.f_Fund_entry_at.F.ok sc_Fund_entry_at (fun vs H Q E h=>?_) (fun cdv A outer s H vs Q E hr h=>?_)
  · obtain ⟨_,_,_,rfl,_⟩:=h;rfl
  · obtain ⟨g,S,z,rfl,R,k⟩:=h
    refine ⟨_,(pss_cons (ps_if (PW.pt (pw_and (pt_chain op_le op_lt pe_int (pv 1) (pe_callB call_len_seq rfl T.n_len PySem.boot_len (pa_cons (pe_fld (pv 0) rfl) pa_nil))) (pw_and1 (pt_val (pe_fld (pe_ix ix_list (pe_fld (pv 0) rfl) (pv 1) (fun _ _=>rfl)) rfl))))) (pss_one (ps_ret (pe_ix ix_list (pe_fld (pv 0) rfl) (pv 1) (fun _ _=>rfl)))) pss_nil)
      (pss_one (ps_ret pe_non))),?_⟩
    obtain ⟨dF,eF⟩:=R.fund
    unfold Vbfuao.thereAt at k
    refine (Ze rfl (Zo rfl rfl (Ze rfl ?_)))
    refine ite3 (fun h1=>?_) (fun h1=>?_)
    · rw [if_neg (by omega)] at k
      refine (Ze rfl (Zf eF T.cl_Fund T.na_Fund_entries rfl ⟨_,_,rfl,.inl (SqL.of R.ents),(Zo rfl rfl (Ze rfl ?_))⟩))
      rw [List.length_map,R.elen]
      refine ite3 (fun h2=>?_) (fun h2=>?_)
      · have hz:z=((z.toNat:Nat):Int):=by omega
        have hi:z.toNat < S.entries.length:=by omega
        obtain ⟨dx,ig,e1,e2,_⟩:=R.at hi
        have ea:atI (g.es.map V.ref) z=some (g.rf z.toNat):=at_of hz (es_at R hi)
        refine (Ze rfl (Zf eF T.cl_Fund T.na_Fund_entries rfl (Ze rfl ⟨_,_,_,_,rfl,rfl,SqL.of R.ents,ea,(Zf e1 T.cl_Entry T.na_Entry_there rfl (Ze rfl ?_))⟩)))
        refine iteb (fun h3=>?_) (fun h3=>?_)
        · rw [if_pos h3] at k
          exact (Ze rfl (Zf eF T.cl_Fund T.na_Fund_entries rfl (Ze rfl ⟨_,_,_,_,rfl,rfl,SqL.of R.ents,ea,k⟩)))
        · rw [if_neg (by rw [h3];decide)] at k
          exact k
      · rw [entryAt_out (by omega),if_neg (by decide)] at k
        exact iteF k
    · rw [if_pos (by omega)] at k
      exact (Ze rfl (iteF k))
def holdAt (s:State) (z:Int):Option Nat:=if z < 0 then none else match s.groups[z.toNat]? with
  | none=>none
  | some x=>if x.holds=true then some z.toNat else none
def Gh.rg (g:Gh) (j:Nat):V:=.ref (g.gs.getD j 0)
def sp_Fund_group_at (T:Txt K mg):Sp:=fun vs H Q _=>∃ (g:Gh) (s:State) (z:Int),vs=[.ref g.F,.int z]∧Rep T H g s∧Q (match holdAt s z with | none=>.non | some k=>g.rg k) H
theorem holdAt_of {s:State} {z:Int} {k:Nat} (h:holdAt s z=some k):z=(k:Int)∧∃ x,s.groups[k]? = some x∧x.holds=true:=by
  unfold holdAt at h
  split at h
  · cases h
  · split at h
    · cases h
    · rename_i x hx
      split at h
      · cases h
        exact ⟨by omega,x,hx,by assumption⟩
      · cases h
theorem Rep.gat {T : Txt K mg} {H : Hp} {g : Gh} {s : State} (r : Rep T H g s) {j : Nat} {x : Vbfuao.Group} (hx : s.groups[j]? = some x) :
    ∃ a dx L R,g.gs[j]? = some a∧g.rg j = .ref a∧H a=some (.ins T.c_Group dx (grpF x L R))∧SideAt H g L x.left∧SideAt H g R x.right:=by
  have hj:j < s.groups.length:=(List.getElem?_eq_some_iff.mp hx).1
  obtain ⟨a,ha⟩:∃ a,g.gs[j]? = some a:=⟨_,List.getElem?_eq_getElem (by rw [r.glen];exact hj)⟩
  obtain ⟨dx,L,R,h1,h2,h3⟩:=r.grp j x a hx ha
  exact ⟨a,dx,L,R,ha,by unfold Gh.rg;rw [getD_of ha],h1,h2,h3⟩
theorem ok_Fund_group_at (T:Txt K mg):FnOk P w K mg base CX0 1 T.f_Fund_group_at.f T.f_Fund_group_at.fd ["self", "place"] (sp_Fund_group_at T):=by
  refine T.f_Fund_group_at.F.ok sc_Fund_group_at (fun vs H Q E h=>?_) (fun cdv A outer s H vs Q E hr h=>?_)
  · obtain ⟨_,_,_,rfl,_⟩:=h;rfl
  · obtain ⟨g,S,z,rfl,R,k⟩:=h
    refine ⟨_,(pss_cons (ps_if (PW.pt (pw_and (pt_chain op_le op_lt pe_int (pv 1) (pe_callB call_len_seq rfl T.n_len PySem.boot_len (pa_cons (pe_fld (pv 0) rfl) pa_nil))) (pw_and1 (pt_val (pe_fld (pe_ix ix_list (pe_fld (pv 0) rfl) (pv 1) (fun _ _=>rfl)) rfl))))) (pss_one (ps_ret (pe_ix ix_list (pe_fld (pv 0) rfl) (pv 1) (fun _ _=>rfl)))) pss_nil)
      (pss_one (ps_ret pe_non))),?_⟩
    obtain ⟨dF,eF⟩:=R.fund
    unfold holdAt at k
    refine (Ze rfl (Zo rfl rfl (Ze rfl ?_)))
    refine ite3 (fun h1=>?_) (fun h1=>?_)
    · rw [if_neg (by omega)] at k
      refine (Ze rfl (Zf eF T.cl_Fund T.na_Fund_groups rfl ⟨_,_,rfl,.inl (SqL.of R.grps),(Zo rfl rfl (Ze rfl ?_))⟩))
      rw [List.length_map,R.glen]
      refine ite3 (fun h2=>?_) (fun h2=>?_)
      · have hz:z=((z.toNat:Nat):Int):=by omega
        have hi:z.toNat < S.groups.length:=by omega
        obtain ⟨x,hx⟩:∃ x,S.groups[z.toNat]? = some x:=⟨_,List.getElem?_eq_getElem hi⟩
        obtain ⟨a,dx,L,R',ha,er,e1,_⟩:=R.gat hx
        have ea:atI (g.gs.map V.ref) z=some (V.ref a):=at_of hz (by rw [List.getElem?_map,ha];rfl)
        rw [hx] at k
        dsimp only at k
        refine (Ze rfl (Zf eF T.cl_Fund T.na_Fund_groups rfl (Ze rfl ⟨_,_,_,_,rfl,rfl,SqL.of R.grps,ea,(Zf e1 T.cl_Group T.na_Group_holds rfl (Ze rfl ?_))⟩)))
        refine iteb (fun h3=>?_) (fun h3=>?_)
        · rw [if_pos h3] at k
          rw [← er] at ea
          exact (Ze rfl (Zf eF T.cl_Fund T.na_Fund_groups rfl (Ze rfl ⟨_,_,_,_,rfl,rfl,SqL.of R.grps,ea,k⟩)))
        · rw [if_neg (by rw [h3];decide)] at k
          exact k
      · rw [List.getElem?_eq_none (by omega)] at k
        exact iteF k
    · rw [if_pos (by omega)] at k
      exact (Ze rfl (iteF k))
def sp_Fund_has_room_for_entry (T:Txt K mg):Sp:=fun vs H Q _=>∃ (g:Gh) (s:State),vs=[.ref g.F]∧Rep T H g s∧Q (.bl (decide (s.entries.length < 200))) H
theorem ok_Fund_has_room_for_entry (T:Txt K mg):FnOk P w K mg base CX0 1 T.f_Fund_has_room_for_entry.f T.f_Fund_has_room_for_entry.fd ["self"] (sp_Fund_has_room_for_entry T):=by
  refine T.f_Fund_has_room_for_entry.F.ok sc_Fund_has_room_for_entry (fun vs H Q E h=>?_) (fun cdv A outer s H vs Q E hr h=>?_)
  · obtain ⟨_,_,rfl,_⟩:=h;rfl
  · obtain ⟨g,S,rfl,R,k⟩:=h
    refine ⟨_,(pss_one (ps_ret (pe_cmpR op_lt (pe_callB call_len_seq rfl T.n_len PySem.boot_len (pa_cons (pe_fld (pv 0) rfl) pa_nil)) (pe_gint rfl T.g_MOST_ENTRIES) (nomark _)))),?_⟩
    obtain ⟨dF,eF⟩:=R.fund
    refine (Ze rfl (Zf eF T.cl_Fund T.na_Fund_entries rfl ⟨_,_,rfl,.inl (SqL.of R.ents),(Zo rfl rfl ?_)⟩))
    rw [List.length_map,R.elen]
    have e:decide (((S.entries.length:Nat):Int) < 200)=decide (S.entries.length < 200):=by rw [decide_eq_decide];omega
    rw [← e] at k
    exact k
def sp_Fund_has_room_for_groups (T:Txt K mg):Sp:=fun vs H Q _=>∃ (g:Gh) (s:State) (n:Nat),vs=[.ref g.F,.int (n:Nat)]∧Rep T H g s∧Q (.bl (decide (s.groups.length + n≤300))) H
theorem ok_Fund_has_room_for_groups (T:Txt K mg):FnOk P w K mg base CX0 1 T.f_Fund_has_room_for_groups.f T.f_Fund_has_room_for_groups.fd ["self", "more"] (sp_Fund_has_room_for_groups T):=by
  refine T.f_Fund_has_room_for_groups.F.ok sc_Fund_has_room_for_groups (fun vs H Q E h=>?_) (fun cdv A outer s H vs Q E hr h=>?_)
  · obtain ⟨_,_,_,rfl,_⟩:=h;rfl
  · obtain ⟨g,S,n,rfl,R,k⟩:=h
    refine ⟨_,(pss_one (ps_ret (pe_cmpR op_le (pe_op op_add (pe_callB call_len_seq rfl T.n_len PySem.boot_len (pa_cons (pe_fld (pv 0) rfl) pa_nil)) (pv 1)) (pe_gint rfl T.g_MOST_GROUPS) (nomark _)))),?_⟩
    obtain ⟨dF,eF⟩:=R.fund
    refine (Ze rfl (Zf eF T.cl_Fund T.na_Fund_groups rfl ⟨_,_,rfl,.inl (SqL.of R.grps),(Ze rfl (Zo rfl rfl (Zo rfl rfl ?_)))⟩))
    rw [List.length_map,R.glen]
    have e:decide (((S.groups.length:Nat):Int) + ((n:Nat):Int)≤300)=decide (S.groups.length + n≤300):=by rw [decide_eq_decide];omega
    rw [← e] at k
    exact k
def sp_places_of (T:Txt K mg):Sp:=fun vs H Q _=>∃ (g:Gh) (s:State) (l:Addr) (ps:List Nat),vs=[.ref l]∧Rep T H g s∧LstAt H g s l ps∧∀ H' d,Sm H H'→H d=none→H' d=some (.lst ((Vbfuao.numbers ps).map V.int))→Q (.ref d) H'
theorem ok_places_of (T:Txt K mg):FnOk P w K mg base CX0 1 T.f_places_of.f T.f_places_of.fd ["entries"] (sp_places_of T):=by
  refine T.f_places_of.F.ok sc_places_of (fun vs H Q E h=>?_) (fun cdv A outer s H vs Q E hr h=>?_)
  · obtain ⟨_,_,_,_,rfl,_⟩:=h;rfl
  · obtain ⟨g,S,l,ps,rfl,R,hl,k⟩:=h
    refine ⟨_,(pss_one (ps_ret (pe_lc rfl sc_places_of.nd (pi_list (pv 0)) (blkOk_by (own:=[("entry",1)]) (by kernel_rfl)) (fun _ _ _ _ _=>pg_name (i:=1) sc_places_of.nd rfl (Or.inl rfl)) (fun _ _ _ _ _=>pts_nil) (fun _ _ _ _ _=>(pe_fldK (K:=K) rfl (pv 1) rfl))))),?_⟩
    refine (Ze rfl ⟨l,rfl,⟨_,SqL.of hl.at_⟩,fun D hD=>lc_fn (ys:=ps) (p:=fun _=>true) (f:=fun i=>V.int (i:Nat)) hD (SqL.of hl.at_) (Nat.le_trans hl.len (by decide)) (fun i hi H1 Q1 Q0 m1 h1 h0=>?_) fun H1 m1 e1=>?_⟩)
    · obtain ⟨dx,ig,e,_⟩:=(R.keep m1).at (hl.ok i hi)
      exact ⟨rfl,yesT (Ze rfl (Zf e T.cl_Entry T.na_Entry_place rfl (h1 rfl _ (Sx.refl _))))⟩
    · refine k H1 D m1 hD ?_
      rw [e1,List.filter_eq_self.mpr (fun _ _=>rfl)]
      unfold Vbfuao.numbers
      rw [List.map_map]
      rfl
end
end TB
namespace TB
open PySem PySem.Spec PyProof.Rows L2
open PySem.W (Codec)
section
variable {P:Program} {w:World} {K:PySem.W.Frag} {mg:Str→Option Value} {base:Heap}
theorem es_range {T:Txt K mg} {H:Hp} {g:Gh} {s:State} (R:Rep T H g s):g.es.map V.ref=(List.range s.entries.length).map g.rf:=by
  refine List.ext_getElem? fun i=>?_
  by_cases h:i < s.entries.length
  · rw [es_at R h,List.getElem?_map,List.getElem?_range h];rfl
  · rw [List.getElem?_eq_none (by rw [List.length_map,R.elen];omega),List.getElem?_eq_none (by rw [List.length_map,List.length_range];omega)]
theorem ra_inj {T:Txt K mg} {H:Hp} {g:Gh} {s:State} (R:Rep T H g s) {i j:Nat} (hi:i < s.entries.length) (hj:j < s.entries.length) (e:g.ra i=g.ra j):i=j:=by
  obtain ⟨_,_,_,_,_,h1⟩:=R.at hi
  obtain ⟨_,_,_,_,_,h2⟩:=R.at hj
  exact nd_ix R.esnd h1 (by rw [e];exact h2)
theorem idx_ra {T:Txt K mg} {H:Hp} {g:Gh} {s:State} (R:Rep T H g s) {i:Nat} (hi:i < s.entries.length):g.es.idxOf (g.ra i)=i:=by
  obtain ⟨_,_,_,_,_,h1⟩:=R.at hi
  obtain ⟨hl,h2⟩:=List.getElem?_eq_some_iff.mp h1
  have:=R.esnd.idxOf_getElem i hl
  rw [h2] at this
  exact this
def sp_Fund_open_in_book (T:Txt K mg):Sp:=fun vs H Q _=>∃ (g:Gh) (s:State) (p a b:Nat),vs=[.ref g.F,.int (p:Nat),.int (a:Nat),.int (b:Nat)]∧Rep T H g s∧p≤2 ∧
  ∀ H' d,Sm H H'→H d=none→H' d=some (.lst (g.rfs (Vbfuao.breaksOf s p b a)))→Q (.ref d) H'
theorem breaks_sort {T : Txt K mg} {H : Hp} {g : Gh} {s : State} (R : Rep T H g s) {p a b : Nat} {qs : List (Int × Addr)} {ps : List Nat} (hps : ps = (List.range s.entries.length).filter (isOpenB s p b a))
    (hp:qs.Perm ((ps.map fun i=>((Vbfuao.entryAt s i).day:Int)).zip (ps.map g.ra))) (h1:qs.Pairwise fun p q=>p.1≤q.1) (h2:∀ c,qs.filter (fun p=>p.1 == c)=((ps.map fun i=>((Vbfuao.entryAt s i).day:Int)).zip (ps.map g.ra)).filter (fun p=>p.1 == c)) :
    (qs.map fun q=>V.ref q.2)=g.rfs (Vbfuao.breaksOf s p b a):=by
  have hv:∀ i ∈ ps,i < s.entries.length:=fun i hi=>by rw [hps] at hi;exact List.mem_range.mp (List.mem_filter.mp hi).1
  have ez:(ps.map fun i=>((Vbfuao.entryAt s i).day:Int)).zip (ps.map g.ra)=(ps.map fun i=>(((Vbfuao.entryAt s i).day:Int),i)).map fun z=>(z.1,g.ra z.2):=by
    rw [List.zip_map',List.map_map];rfl
  rw [ez] at hp h2
  have inv:∀ l:List (Int × Nat),(∀ z ∈ l,z.2 < s.entries.length)→(l.map fun z=>(z.1,g.ra z.2)).map (fun q=>(q.1,g.es.idxOf q.2))=l:=fun l hl=>by
    rw [List.map_map]
    conv=>rhs;rw [← List.map_id l]
    refine List.map_congr_left fun z hz=>?_
    show (z.1,g.es.idxOf (g.ra z.2))=z
    rw [idx_ra R (hl z hz)]
  have hsrc:∀ z ∈ (ps.map fun i=>(((Vbfuao.entryAt s i).day:Int),i)),z.2 < s.entries.length:=fun z hz=>by
    obtain ⟨i,hi,rfl⟩:=List.mem_map.mp hz
    exact hv i hi
  have hq:qs=(qs.map fun q=>(q.1,g.es.idxOf q.2)).map fun z=>(z.1,g.ra z.2):=by
    rw [List.map_map]
    conv=>lhs;rw [← List.map_id qs]
    refine List.map_congr_left fun q hq=>?_
    obtain ⟨z,hz,rfl⟩:=List.mem_map.mp (hp.mem_iff.mp hq)
    show (z.1,g.ra z.2)=(z.1,g.ra (g.es.idxOf (g.ra z.2)))
    rw [idx_ra R (hsrc z hz)]
  generalize hzs:(qs.map fun q=>(q.1,g.es.idxOf q.2))=zs at hq
  have zp:zs.Perm (ps.map fun i=>(((Vbfuao.entryAt s i).day:Int),i)):=by
    have:=hp.map fun q=>(q.1,g.es.idxOf q.2)
    rw [hzs,inv _ hsrc] at this
    exact this
  have zv:∀ z ∈ zs,z.2 < s.entries.length:=fun z hz=>hsrc z (zp.mem_iff.mp hz)
  have z1:zs.Pairwise fun p q=>p.1≤q.1:=by rw [hq,List.pairwise_map] at h1;exact h1
  have z2:∀ c,zs.filter (fun p=>p.1 == c)=(ps.map fun i=>(((Vbfuao.entryAt s i).day:Int),i)).filter (fun p=>p.1 == c):=fun c=>by
    have e:=h2 c
    rw [hq,List.filter_map,List.filter_map] at e
    have e2:=congrArg (List.map fun q:Int × Addr=>(q.1,g.es.idxOf q.2)) e
    rw [inv _ (fun z hz=>zv z (List.mem_filter.mp hz).1),inv _ (fun z hz=>hsrc z (List.mem_filter.mp hz).1)] at e2
    exact e2
  have ear:=stable_ear (s:=s) (fun q hq=>by obtain ⟨i,_,rfl⟩:=List.mem_map.mp hq;rfl) zp z1 z2 (by
    rw [List.map_map]
    show (ps.map id).Pairwise (· < ·)
    rw [List.map_id,hps]
    exact List.pairwise_lt_range.sublist List.filter_sublist)
  have pm:(zs.map (·.2)).Perm ps:=by
    have:=zp.map (·.2)
    rw [List.map_map] at this
    have e:ps.map ((fun x:Int × Nat=>x.2) ∘ fun i=>(((Vbfuao.entryAt s i).day:Int),i))=ps:=by
      conv=>rhs;rw [← List.map_id ps]
      rfl
    rw [e] at this
    exact this
  have fin:zs.map (·.2)=Vbfuao.breaksOf s p b a:=ear_unique (by rw [hps] at pm;exact pm.trans (breaks_spec s p b a).2.symm) ear (breaks_spec s p b a).1
  rw [hq,← fin]
  unfold Gh.rfs
  rw [List.map_map,List.map_map]
  rfl
theorem decI (a b:Nat):decide (V.int (a:Nat)=V.int (b:Nat))=(a == b):=by
  rw [Bool.eq_iff_iff];simp;omega
theorem ok_Fund_open_in_book (T:Txt K mg):FnOk P w K mg base CX0 8 T.f_Fund_open_in_book.f T.f_Fund_open_in_book.fd ["self", "pair", "account", "book"] (sp_Fund_open_in_book T):=by
  have G_Entry_is_open:=ok_Entry_is_open (P:=P) (w:=w) (base:=base) T
  refine Fun.okc T.f_Fund_open_in_book.F sc_Fund_open_in_book (fun vs H Q E h=>?_) (fun cdv A outer s H vs Q E hcd hr h=>?_)
  · obtain ⟨_,_,_,_,_,rfl,_⟩:=h;rfl
  · obtain ⟨g,S,p,a,b,rfl,R,hp,k⟩:=h
    have hcode:cdv = .ref 167:=hcd.symm.trans T.tab.2
    refine ⟨_,(pss_cons (ps_setLc (i:=4) rfl sc_Fund_open_in_book.nd rfl rfl (sw_true rfl rfl rfl rfl) (pi_list (pe_fld (pv 0) rfl)) (blkOk_by (own:=[("entry",5)]) (by kernel_rfl)) (fun _ _ _ _ _=>pg_name (i:=5) sc_Fund_open_in_book.nd rfl (Or.inl rfl)) (fun _ _ _ _ _=>(pts_one (PW.pt (pw_and (pt_cmpR op_eq (pe_fldK (K:=K) rfl (pv 5) rfl) (pv 3) (nomark _)) (pw_and (pt_cmpR op_eq (pe_fldK (K:=K) rfl (pv 5) rfl) (pv 2) (nomark _)) (pw_and1 (pt_val (pe_meth (pv 5) T.cl_Entry T.me_Entry_is_open G_Entry_is_open (hr.mono (by decide)) T.f_Entry_is_open.b .nil pass0 (pa_cons (pv 1) pa_nil))))))))) (fun _ _ _ _ _=>(pv 5)))
      (pss_one (ps_ret (pe_sortDay T.tab.1 hcode T.bm rfl T.n_sorted (hr.mono (by decide)) (pv 4))))),?_⟩
    obtain ⟨dF,eF⟩:=R.fund
    have hE:SqL K H g.E ((List.range S.entries.length).map g.rf):=SqL.of (by rw [← es_range R];exact R.ents)
    refine (Ze rfl (Zf eF T.cl_Fund T.na_Fund_entries rfl ⟨g.E,rfl,⟨_,hE⟩,fun D hD=>lc_fn (ys:=List.range S.entries.length) (p:=isOpenB S p b a) (f:=g.rf) hD hE (by rw [List.length_range];exact Nat.le_trans R.wf.emax (by decide)) (fun i hi H1 Q1 Q0 m1 h1 h0=>?_) fun H1 m1 e1=>?_⟩))
    · have hi':=List.mem_range.mp hi
      obtain ⟨dx,ig,e,_⟩:=(R.keep m1).at hi'
      refine ⟨rfl,?_⟩
      unfold isOpenB inBook at h1 h0
      refine (Ze rfl (Zf e T.cl_Entry T.na_Entry_book rfl (Ze rfl ⟨rfl,Ze rfl ?_⟩)))
      rw [decI]
      refine iteb (fun c1=>?_) (fun c1=>?_)
      · refine (Ze rfl (Zf e T.cl_Entry T.na_Entry_account rfl (Ze rfl ⟨rfl,Ze rfl ?_⟩)))
        rw [decI]
        refine iteb (fun c2=>?_) (fun c2=>?_)
        · refine (Ze rfl (Zm e rfl (Ze rfl ⟨g,S,i,p,rfl,R.keep m1,hi',hp,Ze rfl ?_⟩)))
          rw [c1,c2] at h1 h0
          unfold opB
          refine iteb (fun c3=>(Ze rfl (h1 (by simpa using c3) _ (Sx.refl _)))) (fun c3=>h0 ?_ _ (Sx.refl _))
          rw [Bool.and_self,Bool.and_true];exact c3
        · rw [c2] at h0
          exact iteF (h0 (by simp) _ (Sx.refl _))
      · rw [c1] at h0
        exact iteF (h0 (by simp) _ (Sx.refl _))
    · generalize hps:(List.range S.entries.length).filter (isOpenB S p b a)=ps at e1
      have hv:∀ i ∈ ps,i < S.entries.length:=fun i hi=>by rw [← hps] at hi;exact List.mem_range.mp (List.mem_filter.mp hi).1
      have R1:=R.keep m1
      refine (Ze rfl ⟨D,ps.map g.ra,ps.map fun i=>((Vbfuao.entryAt S i).day:Int),rfl,SqL.of (by rw [e1,List.map_map];rfl),by rw [List.length_map,List.length_map],R1.tab,fun i a k ha hk=>?_,fun D2 H2 qs hD2 m2 e2 q1 q2 q3=>?_⟩)
      · rw [List.getElem?_map] at ha hk
        cases ei:ps[i]? with
        | none=>rw [ei] at ha;cases ha
        | some y =>
          rw [ei] at ha hk
          obtain rfl:g.ra y=a:=Option.some.inj ha
          obtain rfl:((Vbfuao.entryAt S y).day:Int)=k:=Option.some.inj hk
          obtain ⟨dx,ig,e,_⟩:=R1.at (hv y (List.mem_of_getElem? ei))
          exact ⟨_,_,_,e,T.cl_Entry,T.na_Entry_day,rfl⟩
      · refine k H2 D2 (m1.trans m2) (m1.free _ hD2) ?_
        rw [e2,breaks_sort R hps.symm q1 q2 q3]
theorem pb_at (T:Txt K mg) (H:Hp) {p:Nat} (hp:p≤2):∃ a,atI ([.ref T.a_pb0,.ref T.a_pb1,.ref T.a_pb2]:List V) (p:Int)=some (.ref a)∧SqT K H a [.int (Vbfuao.leftBook p:Nat),.int (Vbfuao.rightBook p:Nat)]:=by
  match p,hp with
  | 0,_=>exact ⟨_,rfl,T.pb0 H⟩
  | 1,_=>exact ⟨_,rfl,T.pb1 H⟩
  | 2,_=>exact ⟨_,rfl,T.pb2 H⟩
def sp_open (side:Nat→Nat) (T:Txt K mg):Sp:=fun vs H Q _=>∃ (g:Gh) (s:State) (p a:Nat),vs=[.ref g.F,.int (p:Nat),.int (a:Nat)]∧Rep T H g s∧p≤2 ∧
  ∀ H' d,Sm H H'→H d=none→H' d=some (.lst (g.rfs (Vbfuao.breaksOf s p (side p) a)))→Q (.ref d) H'
def sp_Fund_open_left (T:Txt K mg):Sp:=sp_open Vbfuao.leftBook T
def sp_Fund_open_right (T:Txt K mg):Sp:=sp_open Vbfuao.rightBook T
theorem ok_Fund_open_left (T:Txt K mg):FnOk P w K mg base CX0 9 T.f_Fund_open_left.f T.f_Fund_open_left.fd ["self", "pair", "account"] (sp_Fund_open_left T):=by
  have G_Fund_open_in_book:=ok_Fund_open_in_book (P:=P) (w:=w) (base:=base) T
  refine T.f_Fund_open_left.F.ok sc_Fund_open_left (fun vs H Q E h=>?_) (fun cdv A outer s H vs Q E hr h=>?_)
  · obtain ⟨_,_,_,_,rfl,_⟩:=h;rfl
  · obtain ⟨g,S,p,a,rfl,R,hp,k⟩:=h
    refine ⟨_,(pss_one (ps_ret (pe_meth (pv 0) T.cl_Fund T.me_Fund_open_in_book G_Fund_open_in_book (hr.mono (by decide)) T.f_Fund_open_in_book.b .nil pass0 (pa_cons (pv 1) (pa_cons (pv 2) (pa_cons (pe_ix ix_tup (pe_ix ix_tup (pe_gref rfl T.g_PAIR_BOOKS) (pv 1) (fun _ _=>rfl)) pe_int (fun _ _=>rfl)) pa_nil)))))),?_⟩
    obtain ⟨dF,eF⟩:=R.fund
    obtain ⟨pa,h1,h2⟩:=pb_at T H hp
    exact (Ze rfl (Zm eF rfl (Ze rfl (Ze rfl (Ze rfl ⟨_,_,_,_,rfl,rfl,T.pb H,h1,⟨_,_,_,_,rfl,rfl,h2,rfl,g,S,p,a,(Ze rfl ⟨R,hp,k⟩)⟩⟩)))))
theorem ok_Fund_open_right (T:Txt K mg):FnOk P w K mg base CX0 9 T.f_Fund_open_right.f T.f_Fund_open_right.fd ["self", "pair", "account"] (sp_Fund_open_right T):=by
  have G_Fund_open_in_book:=ok_Fund_open_in_book (P:=P) (w:=w) (base:=base) T
  refine T.f_Fund_open_right.F.ok sc_Fund_open_right (fun vs H Q E h=>?_) (fun cdv A outer s H vs Q E hr h=>?_)
  · obtain ⟨_,_,_,_,rfl,_⟩:=h;rfl
  · obtain ⟨g,S,p,a,rfl,R,hp,k⟩:=h
    refine ⟨_,(pss_one (ps_ret (pe_meth (pv 0) T.cl_Fund T.me_Fund_open_in_book G_Fund_open_in_book (hr.mono (by decide)) T.f_Fund_open_in_book.b .nil pass0 (pa_cons (pv 1) (pa_cons (pv 2) (pa_cons (pe_ix ix_tup (pe_ix ix_tup (pe_gref rfl T.g_PAIR_BOOKS) (pv 1) (fun _ _=>rfl)) pe_int (fun _ _=>rfl)) pa_nil)))))),?_⟩
    obtain ⟨dF,eF⟩:=R.fund
    obtain ⟨pa,h1,h2⟩:=pb_at T H hp
    exact (Ze rfl (Zm eF rfl (Ze rfl (Ze rfl (Ze rfl ⟨_,_,_,_,rfl,rfl,T.pb H,h1,⟨_,_,_,_,rfl,rfl,h2,rfl,g,S,p,a,(Ze rfl ⟨R,hp,k⟩)⟩⟩)))))
def lefts (s:State) (p a:Nat):List Nat:=Vbfuao.breaksOf s p (Vbfuao.leftBook p) a
def rights (s:State) (p a:Nat):List Nat:=Vbfuao.breaksOf s p (Vbfuao.rightBook p) a
def sp_Fund_how_many_open (T:Txt K mg):Sp:=fun vs H Q _=>∃ (g:Gh) (s:State) (p a:Nat),vs=[.ref g.F,.int (p:Nat),.int (a:Nat)]∧Rep T H g s∧p≤2 ∧
  ∀ H',Sm H H'→Q (.int (((lefts s p a).length + (rights s p a).length:Nat):Int)) H'
theorem ok_Fund_how_many_open (T:Txt K mg):FnOk P w K mg base CX0 10 T.f_Fund_how_many_open.f T.f_Fund_how_many_open.fd ["self", "pair", "account"] (sp_Fund_how_many_open T):=by
  have G_Fund_open_left:=ok_Fund_open_left (P:=P) (w:=w) (base:=base) T
  have G_Fund_open_right:=ok_Fund_open_right (P:=P) (w:=w) (base:=base) T
  refine T.f_Fund_how_many_open.F.ok sc_Fund_how_many_open (fun vs H Q E h=>?_) (fun cdv A outer s H vs Q E hr h=>?_)
  · obtain ⟨_,_,_,_,rfl,_⟩:=h;rfl
  · obtain ⟨g,S,p,a,rfl,R,hp,k⟩:=h
    refine ⟨_,(pss_one (ps_ret (pe_op op_add (pe_callB call_len_seq rfl T.n_len PySem.boot_len (pa_cons (pe_meth (pv 0) T.cl_Fund T.me_Fund_open_left G_Fund_open_left (hr.mono (by decide)) T.f_Fund_open_left.b .nil pass0 (pa_cons (pv 1) (pa_cons (pv 2) pa_nil))) pa_nil)) (pe_callB call_len_seq rfl T.n_len PySem.boot_len (pa_cons (pe_meth (pv 0) T.cl_Fund T.me_Fund_open_right G_Fund_open_right (hr.mono (by decide)) T.f_Fund_open_right.b .nil pass0 (pa_cons (pv 1) (pa_cons (pv 2) pa_nil))) pa_nil))))),?_⟩
    obtain ⟨dF,eF⟩:=R.fund
    refine (Ze rfl (Zm eF rfl (Ze rfl (Ze rfl ⟨g,S,p,a,rfl,R,hp,fun H1 d1 m1 n1 e1=>⟨_,_,rfl,.inl (SqL.of e1),?_⟩⟩))))
    refine (Ze rfl (Zm (m1.get eF) rfl (Ze rfl (Ze rfl ⟨g,S,p,a,rfl,R.keep m1,hp,fun H2 d2 m2 n2 e2=>⟨_,_,rfl,.inl (SqL.of e2),(Zo rfl rfl ?_)⟩⟩))))
    have z:=k H2 (m1.trans m2)
    have e:∀ l:List Nat,(g.rfs l).length=l.length:=fun l=>by unfold Gh.rfs;rw [List.length_map]
    show Q (.int (((g.rfs _).length:Nat) + ((g.rfs _).length:Nat):Int)) H2
    rw [e,e]
    exact z
def pr (s:State) (b z:Int):Int:=if rr s b z=0 then (if 5 < (lefts s b.toNat z.toNat).length∨5 < (rights s b.toNat z.toNat).length then -8 else 0) else rr s b z
theorem rr_zero {s:State} {b z:Int} (h:rr s b z=0):(∃ x,Vbfuao.accountAt s z.toNat=some x)∧0≤z∧0≤b∧b≤2∧b.toNat≤2∧b=(b.toNat:Int)∧z=(z.toNat:Int):=by
  unfold rr at h
  split at h
  · rename_i h1
    split at h
    · rename_i h2
      unfold Vbfuao.within at h2
      rw [Bool.and_eq_true,decide_eq_true_eq,decide_eq_true_eq] at h2
      unfold accAt at h1
      split at h1
      · cases h1
      · exact ⟨Option.isSome_iff_exists.mp h1,by omega,h2.1,h2.2,by omega,by omega,by omega⟩
    · cases h
  · cases h
theorem len_rfs (g:Gh) (l:List Nat):(g.rfs l).length=l.length:=by unfold Gh.rfs;rw [List.length_map]
def sp_plan_refusal (T:Txt K mg):Sp:=fun vs H Q _=>∃ (g:Gh) (s:State) (b z:Int),vs=[.ref g.F,.int b,.int z]∧Rep T H g s∧∀ H',Sm H H'→Q (.int (pr s b z)) H'
theorem ok_plan_refusal (T:Txt K mg):FnOk P w K mg base CX0 10 T.f_plan_refusal.f T.f_plan_refusal.fd ["fund", "pair", "account"] (sp_plan_refusal T):=by
  have G_Fund_open_right:=ok_Fund_open_right (P:=P) (w:=w) (base:=base) T
  have G_Fund_open_left:=ok_Fund_open_left (P:=P) (w:=w) (base:=base) T
  have G_range_refusal:=ok_range_refusal (P:=P) (w:=w) (base:=base) T
  refine T.f_plan_refusal.F.ok sc_plan_refusal (fun vs H Q E h=>?_) (fun cdv A outer s H vs Q E hr h=>?_)
  · obtain ⟨_,_,_,_,rfl,_⟩:=h;rfl
  · obtain ⟨g,S,b,z,rfl,R,k⟩:=h
    refine ⟨_,(pss_cons (ps_set (i:=3) sc_plan_refusal.nd rfl (Or.inl rfl) (pe_call G_range_refusal (hr.mono (by decide)) rfl T.m_range_refusal T.f_range_refusal.kp T.f_range_refusal.b .nil pass0 (pa_cons (pv 0) (pa_cons (pv 1) (pa_cons (pv 2) pa_nil)))))
      (pss_cons (ps_if (pt_cmpR op_ne (pv 3) pe_int (nomark _)) (pss_one (ps_ret (pv 3))) pss_nil)
      (pss_cons (ps_if (PW.pt (pw_or (pt_cmpR op_gt (pe_callB call_len_seq rfl T.n_len PySem.boot_len (pa_cons (pe_meth (pv 0) T.cl_Fund T.me_Fund_open_left G_Fund_open_left (hr.mono (by decide)) T.f_Fund_open_left.b .nil pass0 (pa_cons (pv 1) (pa_cons (pv 2) pa_nil))) pa_nil)) (pe_gint rfl T.g_MOST_OPEN) (nomark _)) (pw_or1 (pt_cmpR op_gt (pe_callB call_len_seq rfl T.n_len PySem.boot_len (pa_cons (pe_meth (pv 0) T.cl_Fund T.me_Fund_open_right G_Fund_open_right (hr.mono (by decide)) T.f_Fund_open_right.b .nil pass0 (pa_cons (pv 1) (pa_cons (pv 2) pa_nil))) pa_nil)) (pe_gint rfl T.g_MOST_OPEN) (nomark _))))) (pss_one (ps_ret (pe_gint rfl T.g_TOO_MANY_OPEN))) pss_nil)
      (pss_one (ps_ret pe_int))))),?_⟩
    obtain ⟨dF,eF⟩:=R.fund
    unfold pr at k
    refine (Ze rfl (Ze rfl (Ze rfl ⟨g,S,b,z,rfl,R,?_⟩)))
    refine (Ze rfl ⟨rfl,Ze rfl ?_⟩)
    by_cases h0:rr S b z=0
    · rw [if_pos h0] at k
      rw [h0]
      refine iteF ?_
      obtain ⟨_,hz0,hb0,hb2,hp,eb,ez⟩:=rr_zero h0
      rw [eb,ez]
      generalize hbn:b.toNat=p at *
      generalize hzn:z.toNat=a at *
      refine (Ze rfl (Zm eF rfl (Ze rfl (Ze rfl ⟨g,S,p,a,rfl,R,hp,fun H1 d1 m1 n1 e1=>⟨_,_,rfl,.inl (SqL.of e1),(Zo rfl rfl (Ze rfl ?_))⟩⟩))))
      rw [len_rfs]
      refine ite3 (fun c1=>?_) (fun c1=>?_)
      · have q:=k H1 m1
        rw [if_pos (.inl (by show 5 < (Vbfuao.breaksOf S p (Vbfuao.leftBook p) a).length;omega))] at q
        exact iteT q
      · refine (Ze rfl (Zm (m1.get eF) rfl (Ze rfl (Ze rfl ⟨g,S,p,a,rfl,R.keep m1,hp,fun H2 d2 m2 n2 e2=>⟨_,_,rfl,.inl (SqL.of e2),(Zo rfl rfl (Ze rfl ?_))⟩⟩))))
        rw [len_rfs]
        have q:=k H2 (m1.trans m2)
        refine ite3 (fun c2=>?_) (fun c2=>?_)
        · rw [if_pos (.inr (by show 5 < (Vbfuao.breaksOf S p (Vbfuao.rightBook p) a).length;omega))] at q
          exact q
        · rw [if_neg (by
            show ¬ (5 < (Vbfuao.breaksOf S p (Vbfuao.leftBook p) a).length∨5 < (Vbfuao.breaksOf S p (Vbfuao.rightBook p) a).length)
            omega)] at q
          exact q
    · have e:(!decide (V.int (rr S b z)=V.int 0))=true:=by simpa using h0
      rw [e]
      refine iteT (Ze rfl ?_)
      rw [if_neg h0] at k
      exact k H (Sx.refl _)
end
end TB
set_option maxHeartbeats 1000000
namespace TB
open Vbfuao (groupOf members entryAt accountAt)
def InG (s:State) (p i k:Nat):Prop:=∃ x,s.groups[k]? = some x∧x.holds=true∧x.pair=p∧i ∈ x.left++x.right
theorem inG_iff (s:State) (p i k:Nat):(match s.groups[k]? with
  | none=>false
  | some g=>g.holds&&(g.pair == p&&(members g).contains i))=true↔InG s p i k:=by
  unfold InG
  cases h:s.groups[k]? with
  | none=>simp
  | some g =>
    simp only [Bool.and_eq_true,beq_iff_eq,Option.some.injEq,exists_eq_left',List.contains_iff_mem]
    unfold members
    rfl
theorem grp_none {s:State} {p i:Nat}:groupOf s p i=none↔∀ k,¬ InG s p i k:=by
  unfold groupOf
  rw [List.find?_eq_none]
  constructor
  · intro h k hk
    obtain ⟨x,hx,_⟩:=id hk
    have hl:k < s.groups.length:=(List.getElem?_eq_some_iff.mp hx).1
    exact h k (List.mem_range.mpr hl) ((inG_iff s p i k).mpr hk)
  · intro h k _ q
    exact h k ((inG_iff s p i k).mp q)
theorem grp_in {s:State} {p i k:Nat} (h:groupOf s p i=some k):InG s p i k:=by
  unfold groupOf at h
  exact (inG_iff s p i k).mp (List.find?_some (p:=fun k=>match s.groups[k]? with
    | none=>false
    | some g=>g.holds&&(g.pair == p&&(members g).contains i)) h)
theorem grp_some {s:State} (W:Wf s) {p i k:Nat}:groupOf s p i=some k↔InG s p i k:=by
  constructor
  · exact grp_in
  · intro h
    cases e:groupOf s p i with
    | none=>exact absurd h (grp_none.mp e k)
    | some j =>
      obtain ⟨x,x1,x2,x3,x4⟩:=grp_in e
      obtain ⟨y,y1,y2,y3,y4⟩:=h
      rw [W.apart j k x y x1 y1 x2 y2 (x3.trans y3.symm) ⟨i,x4,y4⟩]
theorem grI_in {s:State} (W:Wf s) {p i k:Nat} (h:InG s p i k):grI s p i=(k:Int):=by
  unfold grI;rw [(grp_some W).mpr h]
theorem grI_no {s:State} {p i:Nat} (h:∀ k,¬ InG s p i k):grI s p i = -1:=by
  unfold grI;rw [grp_none.mpr h]
theorem grI_eq {s s':State} (W:Wf s) (W':Wf s') {p q i j:Nat} (h:∀ k,InG s p i k↔InG s' q j k):grI s p i=grI s' q j:=by
  cases e:groupOf s p i with
  | none=>rw [grI_no (grp_none.mp e),grI_no (fun k z=>grp_none.mp e k ((h k).mpr z))]
  | some k=>rw [grI_in W (grp_in e),grI_in W' ((h k).mp (grp_in e))]
theorem inG_lt {s:State} (W:Wf s) {p i k:Nat} (h:InG s p i k):i < s.entries.length:=by
  obtain ⟨x,x1,_,_,x4⟩:=h
  exact (W.pair k x x1).2.2.2.2.2 i x4
theorem grp_out {s:State} (W:Wf s) {p i:Nat} (h:s.entries.length≤i):groupOf s p i=none:=grp_none.mpr fun k z=>by have:=inG_lt W z;omega
def addE (s:State) (e:Vbfuao.Entry):State:={ s with entries:=s.entries++[e] }
theorem grI_addE (s:State) (e:Vbfuao.Entry) (p i:Nat):grI (addE s e) p i=grI s p i:=rfl
theorem entryAt_addE {s:State} {e:Vbfuao.Entry} {i:Nat} (h:i < s.entries.length):entryAt (addE s e) i=entryAt s i:=by
  unfold entryAt addE
  rw [List.getD_eq_getElem?_getD,List.getD_eq_getElem?_getD,List.getElem?_append_left h]
theorem entryAt_new {s:State} {e:Vbfuao.Entry}:entryAt (addE s e) s.entries.length=e:=by
  unfold entryAt addE
  rw [List.getD_eq_getElem?_getD,List.getElem?_append_right (Nat.le_refl _),Nat.sub_self];rfl
theorem Wf.addE {s:State} (W:Wf s) {e:Vbfuao.Entry} (hb:e.book≤2) (ha:∃ x,accountAt s e.account=some x) (hl:s.entries.length < 200):Wf (TB.addE s e) where
  acc4:=W.acc4
  size:=W.size
  book:=fun i e' h=>by
    by_cases hi:i < s.entries.length
    · exact W.book i e' (by rw [← h];exact (List.getElem?_append_left hi).symm)
    · have h2:(s.entries++[e])[i]? = some e':=h
      rw [List.getElem?_append_right (by omega)] at h2
      have:i - s.entries.length=0:=by
        have:=(List.getElem?_eq_some_iff.mp h2).1
        simp at this;omega
      rw [this] at h2
      cases h2
      exact ⟨hb,ha⟩
  pair:=fun j x h=>by
    obtain ⟨a,b,c,d,f,g⟩:=W.pair j x h
    exact ⟨a,b,c,d,f,fun i hi=>by show i < (s.entries++[e]).length;rw [List.length_append];have:=g i hi;omega⟩
  there:=fun j x h hh i hi=>by
    rw [entryAt_addE ((W.pair j x h).2.2.2.2.2 i hi)]
    exact W.there j x h hh i hi
  apart:=W.apart
  emax:=by show (s.entries++[e]).length≤200;rw [List.length_append,List.length_singleton];omega
  gmax:=W.gmax
def addG (s:State) (y:Vbfuao.Group):State:={ s with groups:=s.groups++[y] }
theorem inG_addG {s:State} {y:Vbfuao.Group} {p i k:Nat}:InG (addG s y) p i k↔InG s p i k∨(k=s.groups.length∧y.holds=true∧y.pair=p∧i ∈ y.left++y.right):=by
  unfold InG addG
  by_cases hk:k < s.groups.length
  · rw [List.getElem?_append_left hk]
    constructor
    · exact .inl
    · rintro (h | ⟨h,_⟩)
      · exact h
      · omega
  · rw [List.getElem?_append_right (by omega),List.getElem?_eq_none (by omega:s.groups.length≤k)]
    by_cases e:k=s.groups.length
    · subst e
      rw [Nat.sub_self]
      constructor
      · rintro ⟨x,h,r⟩
        cases h
        exact .inr ⟨rfl,r⟩
      · rintro (⟨x,h,_⟩ | ⟨_,r⟩)
        · cases h
        · exact ⟨y,rfl,r⟩
    · have:([y]:List Vbfuao.Group)[k - s.groups.length]? = none:=List.getElem?_eq_none (by simp;omega)
      rw [this]
      constructor
      · rintro ⟨x,h,_⟩;cases h
      · rintro (⟨x,h,_⟩ | ⟨h,_⟩)
        · cases h
        · exact absurd h e
structure GOk (s:State) (y:Vbfuao.Group):Prop where
  pair:y.pair≤2
  ne:y.left≠[]
  nl:y.left.Nodup
  nr:y.right.Nodup
  dj:∀ i ∈ y.left,i ∉ y.right
  lt:∀ i ∈ y.left++y.right,i < s.entries.length
  there:∀ i ∈ y.left++y.right,(entryAt s i).there=true
  free:∀ i ∈ y.left++y.right,groupOf s y.pair i=none
  room:s.groups.length < 300
theorem Wf.addG {s:State} (W:Wf s) {y:Vbfuao.Group} (G:GOk s y):Wf (TB.addG s y) where
  acc4:=W.acc4
  size:=W.size
  book:=W.book
  pair:=fun j x h=>by
    have h2:(s.groups++[y])[j]? = some x:=h
    by_cases hj:j < s.groups.length
    · rw [List.getElem?_append_left hj] at h2;exact W.pair j x h2
    · rw [List.getElem?_append_right (by omega)] at h2
      have:j - s.groups.length=0:=by
        have:=(List.getElem?_eq_some_iff.mp h2).1
        simp at this;omega
      rw [this] at h2
      cases h2
      exact ⟨G.pair,G.ne,G.nl,G.nr,G.dj,G.lt⟩
  there:=fun j x h hh=>by
    have h2:(s.groups++[y])[j]? = some x:=h
    by_cases hj:j < s.groups.length
    · rw [List.getElem?_append_left hj] at h2;exact W.there j x h2 hh
    · rw [List.getElem?_append_right (by omega)] at h2
      have:j - s.groups.length=0:=by
        have:=(List.getElem?_eq_some_iff.mp h2).1
        simp at this;omega
      rw [this] at h2
      cases h2
      exact G.there
  apart:=fun j k x z h1 h2 hx hz hp ⟨i,hi1,hi2⟩=>by
    have a1:InG (TB.addG s y) x.pair i j:=⟨x,h1,hx,rfl,hi1⟩
    have a2:InG (TB.addG s y) x.pair i k:=⟨z,h2,hz,hp.symm,hi2⟩
    rcases inG_addG.mp a1 with b1 | ⟨e1,_,p1,m1⟩
    · rcases inG_addG.mp a2 with b2 | ⟨e2,_,p2,m2⟩
      · obtain ⟨x',x1,x2,x3,x4⟩:=b1
        obtain ⟨z',z1,z2,z3,z4⟩:=b2
        exact W.apart j k x' z' x1 z1 x2 z2 (x3.trans z3.symm) ⟨i,x4,z4⟩
      · have:=G.free i m2
        rw [p2] at this
        exact absurd b1 (grp_none.mp this j)
    · rcases inG_addG.mp a2 with b2 | ⟨e2,_,p2,m2⟩
      · have:=G.free i m1
        rw [p1] at this
        exact absurd b2 (grp_none.mp this k)
      · omega
  emax:=W.emax
  gmax:=by show (s.groups++[y]).length≤300;rw [List.length_append,List.length_singleton];have:=G.room;omega
theorem grI_addG {s:State} (W:Wf s) {y:Vbfuao.Group} (G:GOk s y) (hh:y.holds=true) (p i:Nat):grI (addG s y) p i=if p=y.pair∧i ∈ y.left++y.right then (s.groups.length:Int) else grI s p i:=by
  by_cases h:p=y.pair∧i ∈ y.left++y.right
  · rw [if_pos h]
    exact grI_in (W.addG G) (inG_addG.mpr (.inr ⟨rfl,hh,h.1.symm,h.2⟩))
  · rw [if_neg h]
    refine grI_eq (W.addG G) W fun k=>?_
    rw [inG_addG]
    constructor
    · rintro (z | ⟨_,_,a,b⟩)
      · exact z
      · exact absurd ⟨a.symm,b⟩ h
    · exact .inl
def undo (s:State) (j:Nat) (x:Vbfuao.Group):State:={ s with groups:=s.groups.set j { x with holds:=false } }
theorem undo_get {s:State} {j k:Nat} {x y:Vbfuao.Group} (hx:s.groups[j]? = some x) (h:(undo s j x).groups[k]? = some y):(k=j∧y={ x with holds:=false })∨(k≠j∧s.groups[k]? = some y):=by
  unfold undo at h
  by_cases e:k=j
  · subst e
    rw [List.getElem?_set_self (List.getElem?_eq_some_iff.mp hx).1] at h
    cases h
    exact .inl ⟨rfl,rfl⟩
  · rw [List.getElem?_set_ne (fun q=>e q.symm)] at h
    exact .inr ⟨e,h⟩
theorem inG_undo {s:State} {j:Nat} {x:Vbfuao.Group} (hx:s.groups[j]? = some x) {p i k:Nat}:InG (undo s j x) p i k↔k≠j∧InG s p i k:=by
  constructor
  · rintro ⟨y,h1,h2,h3⟩
    rcases undo_get hx h1 with ⟨_,rfl⟩ | ⟨e,h⟩
    · cases h2
    · exact ⟨e,y,h,h2,h3⟩
  · rintro ⟨e,y,h1,h2⟩
    refine ⟨y,?_,h2⟩
    show (s.groups.set j _)[k]? = some y
    rw [List.getElem?_set_ne (fun q=>e q.symm)];exact h1
theorem Wf.undo {s:State} (W:Wf s) {j:Nat} {x:Vbfuao.Group} (hx:s.groups[j]? = some x):Wf (TB.undo s j x) where
  acc4:=W.acc4
  size:=W.size
  book:=W.book
  pair:=fun k y h=>by
    rcases undo_get hx h with ⟨_,rfl⟩ | ⟨_,h⟩
    · exact W.pair j x hx
    · exact W.pair k y h
  there:=fun k y h hh=>by
    rcases undo_get hx h with ⟨_,rfl⟩ | ⟨_,h⟩
    · cases hh
    · exact W.there k y h hh
  apart:=fun k l y z h1 h2 hy hz hp hi=>by
    rcases undo_get hx h1 with ⟨_,rfl⟩ | ⟨_,h1⟩
    · cases hy
    · rcases undo_get hx h2 with ⟨_,rfl⟩ | ⟨_,h2⟩
      · cases hz
      · exact W.apart k l y z h1 h2 hy hz hp hi
  emax:=W.emax
  gmax:=by show (s.groups.set j _).length≤300;rw [List.length_set];exact W.gmax
theorem grI_undo {s:State} (W:Wf s) {j:Nat} {x:Vbfuao.Group} (hx:s.groups[j]? = some x) (hh:x.holds=true) (p i:Nat):grI (undo s j x) p i=if p=x.pair∧i ∈ x.left++x.right then -1 else grI s p i:=by
  by_cases h:p=x.pair∧i ∈ x.left++x.right
  · rw [if_pos h]
    refine grI_no fun k z=>?_
    obtain ⟨e,z⟩:=(inG_undo hx).mp z
    have a:InG s p i j:=⟨x,hx,hh,h.1.symm,h.2⟩
    have e1:=(grp_some W).mpr a
    have e2:=(grp_some W).mpr z
    rw [e1] at e2
    exact e (Option.some.inj e2).symm
  · rw [if_neg h]
    refine grI_eq (W.undo hx) W fun k=>?_
    rw [inG_undo hx]
    constructor
    · exact fun z=>z.2
    · intro z
      refine ⟨fun e=>?_,z⟩
      subst e
      obtain ⟨y,y1,_,y3,y4⟩:=z
      rw [hx] at y1;cases y1
      exact h ⟨y3.symm,y4⟩
def takeE (s:State) (k:Nat):State:={ s with entries:=s.entries.set k { entryAt s k with there:=false } }
theorem entryAt_take {s:State} {k i:Nat} (hk:k < s.entries.length):entryAt (takeE s k) i=if i=k then { entryAt s k with there:=false } else entryAt s i:=by
  unfold takeE entryAt
  rw [List.getD_eq_getElem?_getD,List.getD_eq_getElem?_getD]
  by_cases e:i=k
  · subst e
    rw [List.getElem?_set_self hk,if_pos rfl];rfl
  · rw [List.getElem?_set_ne (fun q=>e q.symm),if_neg e,List.getD_eq_getElem?_getD]
theorem take_get {s:State} {k i:Nat} {e:Vbfuao.Entry} (hk:k < s.entries.length) (h:(takeE s k).entries[i]? = some e):(i=k∧e={ entryAt s k with there:=false })∨(i≠k∧s.entries[i]? = some e):=by
  unfold takeE at h
  by_cases q:i=k
  · subst q
    rw [List.getElem?_set_self hk] at h
    cases h
    exact .inl ⟨rfl,rfl⟩
  · rw [List.getElem?_set_ne (fun z=>q z.symm)] at h
    exact .inr ⟨q,h⟩
theorem Wf.takeE {s:State} (W:Wf s) {k:Nat} (hk:k < s.entries.length) (hf:∀ p≤2,groupOf s p k=none):Wf (TB.takeE s k) where
  acc4:=W.acc4
  size:=W.size
  book:=fun i e h=>by
    rcases take_get hk h with ⟨_,rfl⟩ | ⟨_,h⟩
    · obtain ⟨e',he'⟩:∃ e',s.entries[k]? = some e':=⟨_,List.getElem?_eq_getElem hk⟩
      rw [show entryAt s k=e' from entryAt_of he']
      exact W.book k e' he'
    · exact W.book i e h
  pair:=fun j x h=>by
    obtain ⟨a,b,c,d,f,g⟩:=W.pair j x h
    exact ⟨a,b,c,d,f,fun i hi=>by show i < (s.entries.set k _).length;rw [List.length_set];exact g i hi⟩
  there:=fun j x h hh i hi=>by
    rw [entryAt_take hk,if_neg ?_]
    · exact W.there j x h hh i hi
    · intro e
      subst e
      exact grp_none.mp (hf x.pair (W.pair j x h).1) j ⟨x,h,hh,rfl,hi⟩
  apart:=W.apart
  emax:=by show (s.entries.set k _).length≤200;rw [List.length_set];exact W.emax
  gmax:=W.gmax
def setA (s:State) (a:Nat) (x:Vbfuao.Account):State:={ s with accounts:=s.accounts.set a (some x) }
theorem accountAt_setA {s:State} (W:Wf s) {a:Nat} (ha:a≤3) (x:Vbfuao.Account) (z:Nat):accountAt (setA s a x) z=if z=a then some x else accountAt s z:=by
  unfold accountAt setA
  have:=W.acc4
  by_cases e:z=a
  · subst e
    rw [if_pos rfl]
    show ((s.accounts.set z (some x))[z]?).join=some x
    rw [List.getElem?_set_self (by omega)];rfl
  · rw [if_neg e]
    show ((s.accounts.set a (some x))[z]?).join=_
    rw [List.getElem?_set_ne (fun q=>e q.symm)]
theorem Wf.setA {s:State} (W:Wf s) {a:Nat} (ha:a≤3) {x:Vbfuao.Account} (h1:1≤x.size) (h2:x.size≤3):Wf (TB.setA s a x) where
  acc4:=by show (s.accounts.set a _).length=4;rw [List.length_set];exact W.acc4
  size:=fun z y h=>by
    rw [accountAt_setA W ha] at h
    split at h
    · cases h;exact ⟨h1,h2⟩
    · exact W.size z y h
  book:=fun i e h=>by
    obtain ⟨a1,y,hy⟩:=W.book i e h
    refine ⟨a1,?_⟩
    rw [accountAt_setA W ha]
    split
    · exact ⟨x,rfl⟩
    · exact ⟨y,hy⟩
  pair:=W.pair
  there:=W.there
  apart:=W.apart
  emax:=W.emax
  gmax:=W.gmax
theorem Wf.tick {s:State} (W:Wf s) (t:Nat):Wf { s with today:=t }:=⟨W.acc4,W.size,W.book,W.pair,W.there,W.apart,W.emax,W.gmax⟩
theorem accountAt_start (a:Nat):accountAt Vbfuao.start a=none:=by
  unfold accountAt Vbfuao.start
  show ((List.replicate 4 none)[a]?).join=none
  rw [List.getElem?_replicate]
  split <;> rfl
theorem Wf.start:Wf Vbfuao.start where
  acc4:=by unfold Vbfuao.start;simp [Vbfuao.ACCOUNTS]
  size:=fun a x h=>by rw [accountAt_start] at h;cases h
  book:=fun i e h=>by unfold Vbfuao.start at h;simp at h
  pair:=fun i e h=>by unfold Vbfuao.start at h;simp at h
  there:=fun i e h=>by unfold Vbfuao.start at h;simp at h
  apart:=fun i _ e _ h=>by unfold Vbfuao.start at h;simp at h
  emax:=by unfold Vbfuao.start;simp
  gmax:=by unfold Vbfuao.start;simp
end TB
namespace TB
open PySem PySem.Spec PyProof.Rows L2
open PySem.W (Codec)
section
variable {P:Program} {w:World} {K:PySem.W.Frag} {mg:Str→Option Value} {base:Heap}
def own (g:Gh) (b:Addr):Prop:=b=g.F∨b=g.A∨b=g.E∨b=g.G∨b ∈ g.es∨b ∈ g.igs∨b ∈ g.gs
structure Mv (g g':Gh) (H H':Hp):Prop where
  sx:Sx (own g) H H'
  gr:∀ b,own g' b→own g b∨H b=none
theorem Mv.of {g:Gh} {H H':Hp} (m:Sm H H'):Mv g g H H':=⟨m.weak,fun _ h=>.inl h⟩
theorem Mv.trans {g g1 g2:Gh} {H H1 H2:Hp} (a:Mv g g1 H H1) (b:Mv g1 g2 H1 H2):Mv g g2 H H2 where
  sx:=⟨fun c o n p e=>b.sx.keep c o (fun z=>(a.gr c z).elim n fun q=>by rw [e] at q;cases q) p (a.sx.keep c o n p e),fun c e=>a.sx.free c (b.sx.free c e),fun t=>b.sx.tab (a.sx.tab t)⟩
  gr:=fun c h=>(b.gr c h).elim (a.gr c) fun q=>.inr (a.sx.free c q)
theorem Mv.get {g g':Gh} {H H':Hp} (m:Mv g g' H H') {b:Addr} {o:HO} (n : ¬ own g b) (h:H b=some o) (p:plain o=true:=by rfl):H' b=some o:=m.sx.keep b o n p h
theorem Mv.nown {g g':Gh} {H H':Hp} (m:Mv g g' H H') {b:Addr} {o:HO} (n : ¬ own g b) (h:H b=some o) : ¬ own g' b:=fun z=>(m.gr b z).elim n fun q=>by rw [h] at q;cases q
def gh0 (F A E G:Addr):Gh:=⟨F,A,E,G,[],[],[]⟩
def sp_Fund_begin (T:Txt K mg):Sp:=fun vs H Q _=>∃ (F dx:Addr) (fs:List (Str × V)),vs=[.ref F]∧TabOk H∧H F=some (.ins T.c_Fund dx fs)∧(fs=[]∨∃ t A E G,fs=fundF t A E G) ∧
  ∀ H' g',Rep T H' g' Vbfuao.start→g'.F=F→Sx (fun b=>b=F) H H'→(∀ b,own g' b→b=F∨H b=none)→Q .non H'
theorem ok_Fund_begin (T:Txt K mg):FnOk P w K mg base CX0 1 T.f_Fund_begin.f T.f_Fund_begin.fd ["self"] (sp_Fund_begin T):=by
  refine T.f_Fund_begin.F.ok sc_Fund_begin (fun vs H Q E h=>?_) (fun cdv A outer s H vs Q E hr h=>?_)
  · obtain ⟨_,_,_,rfl,_⟩:=h;rfl
  · obtain ⟨F,dx,fs,rfl,ht,hF,hfs,k⟩:=h
    refine ⟨_,(pss_cons (ps_fld (pv 0) pe_int rfl)
      (pss_cons (ps_fld (pv 0) pe_dnewK rfl)
      (pss_cons (ps_fld (pv 0) (pe_lst pa_nil) rfl)
      (pss_one (ps_fld (pv 0) (pe_lst pa_nil) rfl))))),?_⟩
    have hl:fs.length < 900:=by
      rcases hfs with rfl | ⟨t,A,E,G,rfl⟩
      · show 0 < 900;decide
      · show 4 < 900;decide
    have lp:∀ (f:Str) (v:V) (l:List (Str × V)),(putF f v l).length≤l.length + 1:=length_putF
    refine (Ze rfl ⟨F,_,dx,(Ze rfl ⟨hF,T.cl_Fund,T.na_Fund_today,by omega,?_⟩)⟩)
    intro A0 hA
    have nFA:F≠A0:=ne_of_none upd_same hA
    have l1:=lp "today" (V.int 0) fs
    refine (Ze rfl ⟨F,_,dx,(Ze rfl ⟨by rw [upd_ne nFA,upd_same],T.cl_Fund,T.na_Fund_accounts,by omega,?_⟩)⟩)
    refine ⟨Nat.zero_le _,fun E0 hE=>?_⟩
    have nFE:F≠E0:=ne_of_none upd_same hE
    rw [upd_ne (Ne.symm nFE)] at hE
    have nAE:A0≠E0:=ne_of_none upd_same hE
    have l2:=lp "accounts" (V.ref A0) (putF "today" (V.int 0) fs)
    refine (Ze rfl ⟨F,_,dx,(Ze rfl ⟨by rw [upd_ne nFE,upd_same],T.cl_Fund,T.na_Fund_entries,by omega,?_⟩)⟩)
    refine ⟨Nat.zero_le _,fun G0 hG=>?_⟩
    have nFG:F≠G0:=ne_of_none upd_same hG
    rw [upd_ne (Ne.symm nFG)] at hG
    have nEG:E0≠G0:=ne_of_none upd_same hG
    rw [upd_ne (Ne.symm nEG),upd_ne (Ne.symm nFG)] at hG
    have nAG:A0≠G0:=ne_of_none upd_same hG
    have l3:=lp "entries" (V.ref E0) (putF "accounts" (V.ref A0) (putF "today" (V.int 0) fs))
    refine (Ze rfl ⟨F,_,dx,(Ze rfl ⟨by rw [upd_ne nFG,upd_same],T.cl_Fund,T.na_Fund_groups,by omega,?_⟩)⟩)
    have ef:putF "groups" (V.ref G0) (putF "entries" (V.ref E0) (putF "accounts" (V.ref A0) (putF "today" (V.int 0) fs)))=fundF 0 A0 E0 G0:=by
      rcases hfs with rfl | ⟨t,A,E,G,rfl⟩
      · rfl
      · rfl
    rw [ef]
    rw [upd_ne (Ne.symm nAE),upd_ne (Ne.symm nFE)] at hE
    rw [upd_ne (Ne.symm nAG),upd_ne (Ne.symm nFG)] at hG
    rw [upd_ne (Ne.symm nFA)] at hA
    refine k _ (gh0 F A0 E0 G0) ?_ rfl ?_ ?_
    rotate_left
    · have m1:Sx (fun b=>b=F) H (upd H F (.ins T.c_Fund dx (putF "today" (V.int 0) fs))):=Sx.put rfl hF
      have m2:=m1.trans (Sx.new (a:=A0) (o:=.dK []) (by rw [upd_ne (Ne.symm nFA)];exact hA))
      have m3:=m2.trans (Sx.put (u:=.ins T.c_Fund dx (putF "accounts" (V.ref A0) (putF "today" (V.int 0) fs))) rfl (by rw [upd_ne nFA,upd_same]))
      have m4:=m3.trans (Sx.new (a:=E0) (o:=.lst []) (by rw [upd_ne (Ne.symm nFE),upd_ne (Ne.symm nAE),upd_ne (Ne.symm nFE)];exact hE))
      have m5:=m4.trans (Sx.put (u:=.ins T.c_Fund dx (putF "entries" (V.ref E0) (putF "accounts" (V.ref A0) (putF "today" (V.int 0) fs)))) rfl (by rw [upd_ne nFE,upd_same]))
      have m6:=m5.trans (Sx.new (a:=G0) (o:=.lst []) (by rw [upd_ne (Ne.symm nFG),upd_ne (Ne.symm nEG),upd_ne (Ne.symm nFG),upd_ne (Ne.symm nAG),upd_ne (Ne.symm nFG)];exact hG))
      exact m6.trans (Sx.put rfl (by rw [upd_ne nFG,upd_same]))
    · intro b hb
      rcases hb with z | z | z | z | z | z | z
      · exact .inl z
      · exact .inr (by rw [z];exact hA)
      · exact .inr (by rw [z];exact hE)
      · exact .inr (by rw [z];exact hG)
      · cases z
      · cases z
      · cases z
    · refine ⟨Wf.start,?_,⟨dx,upd_same⟩,⟨[],?_,⟨List.nodup_nil,fun _ z=>nomatch z⟩,fun z=>?_⟩,?_,?_,rfl,rfl,rfl,fun i e a ig h=>?_,fun j x a h=>?_,.nil,.nil,.nil,(fun z=>nomatch z),(fun z=>nomatch z),nEG⟩
      · have m1:Sx (fun b=>b=F) H (upd H F (.ins T.c_Fund dx (putF "today" (V.int 0) fs))):=Sx.put rfl hF
        have m2:=m1.trans (Sx.new (a:=A0) (o:=.dK []) (by rw [upd_ne (Ne.symm nFA)];exact hA))
        have m3:=m2.trans (Sx.put (u:=.ins T.c_Fund dx (putF "accounts" (V.ref A0) (putF "today" (V.int 0) fs))) rfl (by rw [upd_ne nFA,upd_same]))
        have m4:=m3.trans (Sx.new (a:=E0) (o:=.lst []) (by rw [upd_ne (Ne.symm nFE),upd_ne (Ne.symm nAE),upd_ne (Ne.symm nFE)];exact hE))
        have m5:=m4.trans (Sx.put (u:=.ins T.c_Fund dx (putF "entries" (V.ref E0) (putF "accounts" (V.ref A0) (putF "today" (V.int 0) fs)))) rfl (by rw [upd_ne nFE,upd_same]))
        have m6:=m5.trans (Sx.new (a:=G0) (o:=.lst []) (by rw [upd_ne (Ne.symm nFG),upd_ne (Ne.symm nEG),upd_ne (Ne.symm nFG),upd_ne (Ne.symm nAG),upd_ne (Ne.symm nFG)];exact hG))
        exact (m6.trans (Sx.put rfl (by rw [upd_ne nFG,upd_same]))).tab ht
      · show (upd _ F _) A0=_
        rw [upd_ne (Ne.symm nFA),upd_ne nAG,upd_ne (Ne.symm nFA),upd_ne nAE,upd_ne (Ne.symm nFA),upd_same]
      · have:accAt Vbfuao.start z=none:=by
          unfold accAt
          split
          · rfl
          · exact accountAt_start _
        rw [this]
        exact trivial
      · show (upd _ F _) E0=_
        rw [upd_ne (Ne.symm nFE),upd_ne nEG,upd_ne (Ne.symm nFE),upd_same];rfl
      · show (upd _ F _) G0=_
        rw [upd_ne (Ne.symm nFG),upd_same];rfl
      · unfold Vbfuao.start at h;simp at h
      · unfold Vbfuao.start at h;simp at h
def sp_Fund_init (T:Txt K mg):Sp:=fun vs H Q _=>∃ (F dx:Addr),vs=[.ref F]∧TabOk H∧H F=some (.ins T.c_Fund dx []) ∧
  ∀ H' g',Rep T H' g' Vbfuao.start→g'.F=F→Sx (fun b=>b=F) H H'→(∀ b,own g' b→b=F∨H b=none)→Q .non H'
theorem ok_Fund_init (T:Txt K mg):FnOk P w K mg base CX0 2 T.f_Fund_init.f T.f_Fund_init.fd ["self"] (sp_Fund_init T):=by
  have G_Fund_begin:=ok_Fund_begin (P:=P) (w:=w) (base:=base) T
  refine T.f_Fund_init.F.ok sc_Fund_init (fun vs H Q E h=>?_) (fun cdv A outer s H vs Q E hr h=>?_)
  · obtain ⟨_,_,rfl,_⟩:=h;rfl
  · obtain ⟨F,dx,rfl,ht,hF,k⟩:=h
    refine ⟨_,(pss_one (ps_expr (pe_meth0 (pv 0) T.cl_Fund T.me_Fund_begin G_Fund_begin (hr.mono (by decide)) T.f_Fund_begin.b .nil pass0))),?_⟩
    exact (Ze rfl ⟨F,dx,Ze rfl ⟨hF,rfl,F,dx,[],rfl,ht,hF,.inl rfl,fun H' g' R e m o=>k H' g' R e m o⟩⟩)
def Gh.addE (g:Gh) (x ig:Addr):Gh:={ g with es:=g.es++[x],igs:=g.igs++[ig] }
theorem ra_addE {g:Gh} {x ig:Addr} {i:Nat} (h:i < g.es.length):(g.addE x ig).ra i=g.ra i:=by
  unfold Gh.ra Gh.addE
  rw [List.getD_eq_getElem?_getD,List.getD_eq_getElem?_getD,List.getElem?_append_left h]
theorem rfs_addE {g:Gh} {x ig:Addr} {ps:List Nat} (h:∀ i ∈ ps,i < g.es.length):(g.addE x ig).rfs ps=g.rfs ps:=by
  unfold Gh.rfs
  refine List.map_congr_left fun i hi=>?_
  unfold Gh.rf
  rw [ra_addE (h i hi)]
def sp_Fund_add_entry (T:Txt K mg):Sp:=fun vs H Q _=>∃ (g:Gh) (s:State) (e:Vbfuao.Entry),vs=[.ref g.F,.int (e.book:Nat),.int (e.account:Nat),.int (e.day:Nat),.int e.amount,.int (e.ref:Nat)]∧Rep T H g s∧e.there=true∧e.book≤2∧(∃ x,Vbfuao.accountAt s e.account=some x)∧s.entries.length < 200 ∧
  ∀ H' g',Rep T H' g' (addE s e)→Mv g g' H H'→g'.F=g.F→(∀ i,i < s.entries.length→g'.ra i=g.ra i)→Q (g'.rf s.entries.length) H'
theorem ok_Fund_add_entry (T:Txt K mg):FnOk P w K mg base CX0 3 T.f_Fund_add_entry.f T.f_Fund_add_entry.fd ["self", "book", "account", "day", "amount", "reference"] (sp_Fund_add_entry T):=by
  have G_Entry_init:=ok_Entry_init (P:=P) (w:=w) (base:=base) T
  refine T.f_Fund_add_entry.F.ok sc_Fund_add_entry (fun vs H Q E h=>?_) (fun cdv A outer s H vs Q E hr h=>?_)
  · obtain ⟨_,_,_,rfl,_⟩:=h;rfl
  · obtain ⟨g,S,e,rfl,R,hth,hb,ha,hl,k⟩:=h
    refine ⟨_,(pss_cons (ps_set (i:=6) sc_Fund_add_entry.nd rfl (Or.inl rfl) (pe_make T.mk_Entry G_Entry_init (hr.mono (by decide)) rfl T.mg_Entry T.f_Entry_init.b .nil pass0 (pa_cons (pe_callB call_len_seq rfl T.n_len PySem.boot_len (pa_cons (pe_fld (pv 0) rfl) pa_nil)) (pa_cons (pv 1) (pa_cons (pv 2) (pa_cons (pv 3) (pa_cons (pv 4) (pa_cons (pv 5) pa_nil))))))))
      (pss_cons (ps_expr (pe_bm PySem.F.plainAttrs_list PySem.F.slot_list_append PySem.F.type_list_append mt_append (pe_fld (pv 0) rfl) (pa_cons (pv 6) pa_nil)))
      (pss_one (ps_ret (pv 6))))),?_⟩
    obtain ⟨dF,eF⟩:=R.fund
    refine (Ze rfl (Zf eF T.cl_Fund T.na_Fund_entries rfl ⟨_,_,rfl,.inl (SqL.of R.ents),(Ze rfl (Ze rfl (Ze rfl (Ze rfl (Ze rfl ?_)))))⟩))
    rw [List.length_map,R.elen]
    intro x dx nx ndx nxd
    refine ⟨x,dx,_,_,_,_,_,_,rfl,upd_same,fun ig hig=>⟨rfl,?_⟩⟩
    have nix:ig≠x:=fun q=>by rw [q,upd_same] at hig;cases hig
    rw [upd_ne nix] at hig
    have nid:ig≠dx:=fun q=>by rw [q,upd_same] at hig;cases hig
    rw [upd_ne nid] at hig
    generalize hH2:upd (upd (upd (upd H dx (.own x)) x (.ins T.c_Entry dx [])) ig (.lst [.int (-1),.int (-1),.int (-1)])) x (.ins T.c_Entry dx (entV (.int (S.entries.length:Nat)) (.int (e.book:Nat)) (.int (e.account:Nat)) (.int (e.day:Nat)) (.int e.amount) (.int (e.ref:Nat)) ig))=H2
    have m2:Sm H H2:=by
      rw [← hH2]
      have a1:Sm H (upd H dx (.own x)):=Sx.new ndx
      have a2:=a1.trans (Sx.new (a:=x) (o:=.ins T.c_Entry dx []) (by rw [upd_ne (Ne.symm nxd)];exact nx))
      have a3:=a2.trans (Sx.new (a:=ig) (o:=.lst [.int (-1),.int (-1),.int (-1)]) (by rw [upd_ne nix,upd_ne nid];exact hig))
      exact a3.put_new nx (by rw [upd_ne (Ne.symm nix),upd_same])
    have eX:H2 x=some (.ins T.c_Entry dx (entF S.entries.length e ig)):=by
      rw [← hH2,upd_same]
      unfold entV entF
      rw [hth]
    have eI:H2 ig=some (.lst [.int (-1),.int (-1),.int (-1)]):=by rw [← hH2,upd_ne nix,upd_same]
    have eE:=m2.get R.ents
    have nEx:x≠g.E:=fun q=>by rw [q,R.ents] at nx;cases nx
    have nEi:ig≠g.E:=fun q=>by rw [q,R.ents] at hig;cases hig
    refine (Ze rfl (Zf (m2.get eF) T.cl_Fund T.na_Fund_entries rfl ⟨.inl ⟨rfl,_,SqL.of eE⟩,Ze rfl ⟨g.E,Zo rfl rfl ⟨eE,by rw [List.length_map,R.elen];exact sz (by omega),?_⟩⟩⟩))
    have kp:∀ {b:Addr} {o:HO},b≠g.E→plain o=true→H b=some o→upd H2 g.E (.lst (g.es.map V.ref++[.ref x])) b=some o:=fun {b o} n p h=>by rw [upd_ne n];exact m2.keep b o (fun z=>z) p h
    have fresh:∀ {b:Addr} {o:HO},H b=some o→b≠x∧b≠ig:=fun {b o} h=>⟨ne_of_none h nx,ne_of_none h hig⟩
    have mS:Sx (own g) H (upd H2 g.E (.lst (g.es.map V.ref++[.ref x]))):=(Sx.weak m2).trans (Sx.put (.inr (.inr (.inl rfl))) eE)
    have esx:x ∉ g.es:=fun q=>by
      obtain ⟨i,hi⟩:=List.getElem?_of_mem q
      have hi':i < S.entries.length:=by rw [← R.elen];exact (List.getElem?_eq_some_iff.mp hi).1
      obtain ⟨_,_,e1,_,_,e2⟩:=R.at hi'
      rw [e2] at hi;cases hi
      rw [nx] at e1;cases e1
    have igx:ig ∉ g.igs:=fun q=>by
      obtain ⟨i,hi⟩:=List.getElem?_of_mem q
      have hi':i < S.entries.length:=by rw [← R.ilen];exact (List.getElem?_eq_some_iff.mp hi).1
      obtain ⟨_,_,_,e1,e2,_⟩:=R.at hi'
      rw [e2] at hi;cases hi
      rw [hig] at e1;cases e1
    have nd1:∀ {l:List Addr} {y:Addr},l.Nodup→y ∉ l→(l++[y]).Nodup:=fun {l y} h1 h2=>nd_snoc h1 h2
    have Rn:Rep T (upd H2 g.E (.lst (g.es.map V.ref++[.ref x]))) (g.addE x ig) (addE S e):=by
      refine ⟨R.wf.addE hb ha hl,mS.tab R.tab,⟨dF,kp (ne_of eF R.ents (by intro z;cases z)) rfl eF⟩,?_,?_,kp R.EG.symm rfl R.grps,?_,?_,R.glen,fun i e' a ig' h1 h2 h3=>?_,fun j y a h1 h2=>?_,nd1 R.esnd esx,nd1 R.igsnd igx,R.gsnd,?_,?_,R.EG⟩
      · obtain ⟨kvs,h1,h2,h3⟩:=R.acc
        refine ⟨kvs,kp (ne_of h1 R.ents (by intro z;cases z)) rfl h1,h2,fun z=>?_⟩
        have q:=h3 z
        show AccIs T _ _ (accAt S z)
        unfold AccIs at q ⊢
        split at q
        · exact trivial
        · obtain ⟨d',e'⟩:=q;exact ⟨d',kp (ne_of e' R.ents (by intro z;cases z)) rfl e'⟩
        · exact q
      · show upd _ g.E _ g.E=_
        rw [upd_same]
        show some (HO.lst _)=some (HO.lst ((g.es++[x]).map V.ref))
        rw [List.map_append];rfl
      · show (g.es++[x]).length=(S.entries++[e]).length
        rw [List.length_append,List.length_append,R.elen];rfl
      · show (g.igs++[ig]).length=(S.entries++[e]).length
        rw [List.length_append,List.length_append,R.ilen];rfl
      · have h1':(S.entries++[e])[i]? = some e':=h1
        have h2':(g.es++[x])[i]? = some a:=h2
        have h3':(g.igs++[ig])[i]? = some ig':=h3
        by_cases hi:i < S.entries.length
        · rw [List.getElem?_append_left hi] at h1'
          rw [List.getElem?_append_left (by rw [R.elen];exact hi)] at h2'
          rw [List.getElem?_append_left (by rw [R.ilen];exact hi)] at h3'
          obtain ⟨⟨d',e1⟩,e2⟩:=R.ent i e' a ig' h1' h2' h3'
          refine ⟨⟨d',kp (ne_of e1 R.ents (by intro z;cases z)) rfl e1⟩,kp (fun q=>R.EI (by rw [← q];exact List.mem_of_getElem? h3')) rfl e2⟩
        · have hlt:i < (S.entries++[e]).length:=(List.getElem?_eq_some_iff.mp h1').1
          rw [List.length_append,List.length_singleton] at hlt
          obtain rfl:i=S.entries.length:=by omega
          rw [List.getElem?_append_right (Nat.le_refl _),Nat.sub_self] at h1'
          rw [List.getElem?_append_right (Nat.le_of_eq R.elen),R.elen,Nat.sub_self] at h2'
          rw [List.getElem?_append_right (Nat.le_of_eq R.ilen),R.ilen,Nat.sub_self] at h3'
          cases h1';cases h2';cases h3'
          refine ⟨⟨dx,by rw [upd_ne nEx];exact eX⟩,?_⟩
          rw [upd_ne nEi,eI]
          have z:∀ p,grI (addE S e) p S.entries.length = -1:=fun p=>by
            rw [grI_addE]
            unfold grI
            rw [grp_out R.wf (Nat.le_refl _)]
          rw [z,z,z]
      · obtain ⟨d',L,Rr,e1,e2,e3⟩:=R.grp j y a h1 h2
        have hv:=(R.wf.pair j y h1).2.2.2.2.2
        refine ⟨d',L,Rr,kp (ne_of e1 R.ents (by intro z;cases z)) rfl e1,⟨?_,e2.nE,e2.nG,?_⟩,⟨?_,e3.nE,e3.nG,?_⟩⟩
        · rw [rfs_addE (fun i hi=>by rw [R.elen];exact hv i (List.mem_append_left _ hi))]
          exact kp e2.nE rfl e2.at_
        · intro z
          rcases List.mem_append.mp z with z | z
          · exact e2.nI z
          · exact (fresh e2.at_).2 (List.mem_singleton.mp z)
        · rw [rfs_addE (fun i hi=>by rw [R.elen];exact hv i (List.mem_append_right _ hi))]
          exact kp e3.nE rfl e3.at_
        · intro z
          rcases List.mem_append.mp z with z | z
          · exact e3.nI z
          · exact (fresh e3.at_).2 (List.mem_singleton.mp z)
      · intro z
        rcases List.mem_append.mp z with z | z
        · exact R.EI z
        · exact (fresh R.ents).2 (List.mem_singleton.mp z)
      · intro z
        rcases List.mem_append.mp z with z | z
        · exact R.GI z
        · exact (fresh R.grps).2 (List.mem_singleton.mp z)
    have fin:=k _ (g.addE x ig) Rn ⟨mS,fun b hbo=>?_⟩ rfl (fun i hi=>ra_addE (by rw [R.elen];exact hi))
    · have er:(g.addE x ig).rf S.entries.length = .ref x:=by
        unfold Gh.rf Gh.ra Gh.addE
        rw [List.getD_eq_getElem?_getD,List.getElem?_append_right (Nat.le_of_eq R.elen),R.elen,Nat.sub_self];rfl
      rw [er] at fin
      exact (Ze rfl fin)
    · rcases hbo with z | z | z | z | z | z | z
      · exact .inl (.inl z)
      · exact .inl (.inr (.inl z))
      · exact .inl (.inr (.inr (.inl z)))
      · exact .inl (.inr (.inr (.inr (.inl z))))
      · rcases List.mem_append.mp z with z | z
        · exact .inl (.inr (.inr (.inr (.inr (.inl z)))))
        · exact .inr (by rw [List.mem_singleton.mp z];exact nx)
      · rcases List.mem_append.mp z with z | z
        · exact .inl (.inr (.inr (.inr (.inr (.inr (.inl z))))))
        · exact .inr (by rw [List.mem_singleton.mp z];exact hig)
      · exact .inl (.inr (.inr (.inr (.inr (.inr (.inr z))))))
end
end TB
namespace TB
open PySem PySem.Spec PyProof.Rows L2
open PySem.W (Codec)
section
variable {P:Program} {w:World} {K:PySem.W.Frag} {mg:Str→Option Value} {base:Heap}
def gv (s:State) (p:Nat) (z:Int) (ms:List Nat) (q i:Nat):Int:=if q=p∧i ∈ ms then z else grI s q i
def Marks (H:Hp) (g:Gh) (s:State) (p:Nat) (z:Int) (ms:List Nat):Prop:=∀ (i:Nat) ig,g.igs[i]? = some ig→H ig=some (.lst [.int (gv s p z ms 0 i),.int (gv s p z ms 1 i),.int (gv s p z ms 2 i)])
theorem ix3 {p:Nat} (hp:p≤2) (a b c:V):ixN ([a,b,c]:List V).length (p:Int)=some p:=by
  match p,hp with
  | 0,_=>rfl
  | 1,_=>rfl
  | 2,_=>rfl
theorem marks_step {H : Hp} {g : Gh} {s : State} {p : Nat} {z : Int} {ms : List Nat} {i : Nat} {ig : Addr} (hp : p ≤ 2) (M : Marks H g s p z ms) (hn : g.igs.Nodup) (hi : g.igs[i]? = some ig) :
    Marks (upd H ig (.lst (([.int (gv s p z ms 0 i),.int (gv s p z ms 1 i),.int (gv s p z ms 2 i)]:List V).set p (.int z)))) g s p z (ms++[i]):=fun j jg hj=>by
  by_cases e:j=i
  · subst e
    rw [hi] at hj;cases hj
    rw [upd_same]
    have same:∀ q,gv s p z (ms++[j]) q j=if q=p then z else gv s p z ms q j:=fun q=>by
      unfold gv
      by_cases hq:q=p
      · rw [if_pos ⟨hq,List.mem_append_right _ (List.mem_singleton.mpr rfl)⟩,if_pos hq]
      · rw [if_neg (fun h=>hq h.1),if_neg hq,if_neg (fun h=>hq h.1)]
    rw [same,same,same]
    match p,hp with
    | 0,_=>rfl
    | 1,_=>rfl
    | 2,_=>rfl
  · have ne:jg≠ig:=fun q=>e (nd_ix hn (by rw [← q];exact hj) hi)
    rw [upd_ne ne,M j jg hj]
    have same:∀ q,gv s p z (ms++[i]) q j=gv s p z ms q j:=fun q=>by
      unfold gv
      have:j ∈ ms++[i]↔j ∈ ms:=by
        rw [List.mem_append,List.mem_singleton]
        exact ⟨fun h=>h.resolve_right e,.inl⟩
      simp only [this]
    rw [same,same,same]
theorem marks_start {T:Txt K mg} {H:Hp} {g:Gh} {s:State} (R:Rep T H g s) (p:Nat) (z:Int):Marks H g s p z []:=fun i ig hi=>by
  have hl:i < s.entries.length:=by rw [← R.ilen];exact (List.getElem?_eq_some_iff.mp hi).1
  obtain ⟨_,ig',_,h,hi',_⟩:=R.at hl
  rw [hi] at hi';cases hi'
  rw [h]
  have same:∀ q,gv s p z [] q i=grI s q i:=fun q=>by unfold gv;rw [if_neg (fun h=>nomatch h.2)]
  rw [same,same,same]
theorem igs_of {T:Txt K mg} {H:Hp} {g:Gh} {s:State} (R:Rep T H g s) {b:Addr} (h:b ∈ g.igs):∃ xs,H b=some (.lst xs):=by
  obtain ⟨i,hi⟩:=List.getElem?_of_mem h
  have hl:i < s.entries.length:=by rw [← R.ilen];exact (List.getElem?_eq_some_iff.mp hi).1
  obtain ⟨_,ig',_,h,hi',_⟩:=R.at hl
  rw [hi] at hi';cases hi'
  exact ⟨_,h⟩
theorem es_of {T:Txt K mg} {H:Hp} {g:Gh} {s:State} (R:Rep T H g s) {b:Addr} (h:b ∈ g.es):∃ C dx fs,H b=some (.ins C dx fs):=by
  obtain ⟨i,hi⟩:=List.getElem?_of_mem h
  have hl:i < s.entries.length:=by rw [← R.elen];exact (List.getElem?_eq_some_iff.mp hi).1
  obtain ⟨_,_,h',_,_,hi'⟩:=R.at hl
  rw [hi] at hi';cases hi'
  exact ⟨_,_,_,h'⟩
theorem gs_of {T:Txt K mg} {H:Hp} {g:Gh} {s:State} (R:Rep T H g s) {b:Addr} (h:b ∈ g.gs):∃ dx fs,H b=some (.ins T.c_Group dx fs):=by
  obtain ⟨i,hi⟩:=List.getElem?_of_mem h
  have hl:i < s.groups.length:=by rw [← R.glen];exact (List.getElem?_eq_some_iff.mp hi).1
  obtain ⟨a,dx,L,R',ha,_,h,_⟩:=R.gat (List.getElem?_eq_getElem hl)
  rw [hi] at ha;cases ha
  exact ⟨_,_,h⟩
theorem ne_first {H:Hp} {a b C C' d d':Addr} {k k':Str} {v v':V} {r r':List (Str × V)} (h:H a=some (.ins C d ((k,v) :: r))) (h':H b=some (.ins C' d' ((k',v') :: r'))) (hk:k≠k':=by decide):a≠b:=fun q=>by
  rw [q,h'] at h
  have:=(HO.ins.inj (Option.some.inj h)).2.2
  have:=(List.cons.inj this).1
  exact hk (congrArg Prod.fst this).symm
def Gh.addG (g:Gh) (x:Addr):Gh:={ g with gs:=g.gs++[x] }
theorem side_new {T:Txt K mg} {H:Hp} {g:Gh} {s:State} (R:Rep T H g s) {L:Addr} {ps:List Nat} (h:H L=some (.lst (g.rfs ps))) (n : ¬ own g L):SideAt H g L ps :=
  ⟨h,fun z=>n (.inr (.inr (.inl z))),fun z=>n (.inr (.inr (.inr (.inl z)))),fun z=>n (.inr (.inr (.inr (.inr (.inr (.inl z))))))⟩
theorem own_some {T:Txt K mg} {H:Hp} {g:Gh} {s:State} (R:Rep T H g s) {b:Addr} (h:own g b):∃ o,H b=some o:=by
  rcases h with z | z | z | z | z | z | z
  · obtain ⟨d,e⟩:=R.fund;exact ⟨_,by rw [z];exact e⟩
  · obtain ⟨kvs,e,_⟩:=R.acc;exact ⟨_,by rw [z];exact e⟩
  · exact ⟨_,by rw [z];exact R.ents⟩
  · exact ⟨_,by rw [z];exact R.grps⟩
  · obtain ⟨_,_,_,e⟩:=es_of R z;exact ⟨_,e⟩
  · obtain ⟨_,e⟩:=igs_of R z;exact ⟨_,e⟩
  · obtain ⟨_,_,e⟩:=gs_of R z;exact ⟨_,e⟩
theorem fresh_nown {T:Txt K mg} {H:Hp} {g:Gh} {s:State} (R:Rep T H g s) {b:Addr} (h:H b=none) : ¬ own g b:=fun z=>by
  obtain ⟨o,e⟩:=own_some R z;rw [h] at e;cases e
def sp_Fund_add_group (T:Txt K mg):Sp:=fun vs H Q _=>∃ (g:Gh) (s:State) (y:Vbfuao.Group) (L R':Addr),vs=[.ref g.F,.int (y.pair:Nat),.ref L,.ref R']∧Rep T H g s∧GOk s y∧y.holds=true∧(∀ i ∈ y.left,(Vbfuao.entryAt s i).account=y.account)∧SideAt H g L y.left∧SideAt H g R' y.right ∧
  ∀ H' g',Rep T H' g' (addG s y)→Mv g g' H H'→g'.F=g.F→g'.es=g.es→Q (.int (s.groups.length:Nat)) H'
theorem ok_Fund_add_group (T:Txt K mg):FnOk P w K mg base CX0 3 T.f_Fund_add_group.f T.f_Fund_add_group.fd ["self", "pair", "left", "right"] (sp_Fund_add_group T):=by
  have G_Group_init:=ok_Group_init (P:=P) (w:=w) (base:=base) T
  refine T.f_Fund_add_group.F.ok sc_Fund_add_group (fun vs H Q E h=>?_) (fun cdv A outer s H vs Q E hr h=>?_)
  · obtain ⟨_,_,_,_,_,rfl,_⟩:=h;rfl
  · obtain ⟨g,S,y,L,R',rfl,R,G,hh,hacc,hL,hR,k⟩:=h
    refine ⟨_,(pss_cons (ps_set (i:=4) sc_Fund_add_group.nd rfl (Or.inl rfl) (pe_callB call_len_seq rfl T.n_len PySem.boot_len (pa_cons (pe_fld (pv 0) rfl) pa_nil)))
      (pss_cons (ps_expr (pe_bm PySem.F.plainAttrs_list PySem.F.slot_list_append PySem.F.type_list_append mt_append (pe_fld (pv 0) rfl) (pa_cons (pe_make T.mk_Group G_Group_init (hr.mono (by decide)) rfl T.mg_Group T.f_Group_init.b .nil pass0 (pa_cons (pv 1) (pa_cons (pe_fld (pe_ix ix_list (pv 2) pe_int (fun _ _=>rfl)) rfl) (pa_cons (pv 2) (pa_cons (pv 3) pa_nil))))) pa_nil)))
      (pss_cons (ps_for PassesOwn.never rfl (pi_list (pe_op op_cat (pv 2) (pv 3))) (pg_name (i:=5) sc_Fund_add_group.nd rfl (Or.inl rfl))
        (pss_one (ps_asg (pv 4) (pg_sub (pe_fld (pv 5) rfl) (pv 1) set_list))))
      (pss_one (ps_ret (pv 4)))))),?_⟩
    obtain ⟨dF,eF⟩:=R.fund
    obtain ⟨i0,l0,el⟩:∃ i l,y.left=i :: l:=by
      cases e:y.left with
      | nil=>exact absurd e G.ne
      | cons i l=>exact ⟨i,l,rfl⟩
    have hi0:i0 < S.entries.length:=G.lt i0 (by rw [el];exact List.mem_append_left _ (List.mem_cons_self ..))
    obtain ⟨dx0,ig0,e0,_⟩:=R.at hi0
    have acc0:(Vbfuao.entryAt S i0).account=y.account:=hacc i0 (by rw [el];exact List.mem_cons_self ..)
    refine (Ze rfl (Zf eF T.cl_Fund T.na_Fund_groups rfl ⟨_,_,rfl,.inl (SqL.of R.grps),?_⟩))
    rw [List.length_map,R.glen]
    refine (Ze rfl (Zf eF T.cl_Fund T.na_Fund_groups rfl ⟨.inl ⟨rfl,_,SqL.of R.grps⟩,?_⟩))
    refine (Ze rfl (Ze rfl ⟨_,_,_,_,rfl,rfl,SqL.of hL.at_,(by rw [el];exact atI_nat (j:=0) rfl),(Zf e0 T.cl_Entry T.na_Entry_account rfl (Ze rfl (Ze rfl ?_)))⟩))
    intro x dx nx ndx nxd
    refine ⟨x,dx,_,_,_,_,rfl,upd_same,rfl,?_⟩
    rw [upd_upd]
    generalize hH2:upd (upd H dx (.own x)) x (.ins T.c_Group dx [(("pair" : Str),V.int (y.pair:Nat)),("account",V.int ((Vbfuao.entryAt S i0).account:Nat)),("left",.ref L),("right",.ref R'),("holds",.bl true)])=H2
    have m2:Sm H H2:=by
      rw [← hH2]
      have a1:Sm H (upd H dx (.own x)):=Sx.new ndx
      exact a1.trans (Sx.new (by rw [upd_ne (Ne.symm nxd)];exact nx))
    have eX:H2 x=some (.ins T.c_Group dx (grpF y L R')):=by
      rw [← hH2,upd_same,acc0]
      unfold grpF
      rw [hh]
    have eG:=m2.get R.grps
    have nGx:x≠g.G:=fun q=>by rw [q,R.grps] at nx;cases nx
    refine ⟨g.G,Zo rfl rfl ⟨eG,by rw [List.length_map,R.glen];have:=G.room;exact sz (by omega),?_⟩⟩
    generalize hH3:upd H2 g.G (.lst (g.gs.map V.ref++[.ref x]))=H3
    have kp3:∀ {b:Addr} {o:HO},b≠g.G→plain o=true→H b=some o→H3 b=some o:=fun {b o} n p h=>by rw [← hH3,upd_ne n];exact m2.keep b o (fun z=>z) p h
    have mS:Sx (fun b=>b=g.G) H H3:=by rw [← hH3];exact (Sx.weak m2).trans (Sx.put rfl eG)
    have nLG:=hL.nG
    have nRG:=hR.nG
    have hsz:y.left.length + y.right.length≤400:=by
      have z1:y.left.length≤S.entries.length:=by
        have:=(G.nl.sublist (List.Sublist.refl _)).length_le_of_subset (l₂:=List.range S.entries.length) (fun i hi=>List.mem_range.mpr (G.lt i (List.mem_append_left _ hi)))
        rwa [List.length_range] at this
      have z2:y.right.length≤S.entries.length:=by
        have:=(G.nr.sublist (List.Sublist.refl _)).length_le_of_subset (l₂:=List.range S.entries.length) (fun i hi=>List.mem_range.mpr (G.lt i (List.mem_append_right _ hi)))
        rwa [List.length_range] at this
      have:=R.wf.emax
      omega
    refine (Ze rfl (Ze rfl ⟨L,R',Zo rfl rfl ⟨kp3 nLG rfl hL.at_,kp3 nRG rfl hR.at_,by rw [len_rfs,len_rfs];exact sz' (by omega),fun D hD=>?_⟩⟩))
    have ecat:g.rfs y.left++g.rfs y.right=g.rfs (y.left++y.right):=by unfold Gh.rfs;rw [List.map_append]
    rw [ecat]
    have m4:Sm H3 (upd H3 D (.lst (g.rfs (y.left++y.right)))):=Sx.new hD
    generalize hH4:upd H3 D (.lst (g.rfs (y.left++y.right)))=H4 at m4
    have eD:H4 D=some (.lst (g.rfs (y.left++y.right))):=by rw [← hH4,upd_same]
    have kp4:∀ {b:Addr} {o:HO},b≠g.G→plain o=true→H b=some o→H4 b=some o:=fun {b o} n p h=>m4.get (kp3 n p h) p
    have nDI:D ∉ g.igs:=fun q=>by
      obtain ⟨xs,e⟩:=igs_of R q
      have:H3 D=some _:=kp3 (fun z=>R.GI (by rw [← z];exact q)) rfl e
      rw [hD] at this;cases this
    have M0:Marks H4 g S y.pair (S.groups.length:Nat) []:=fun i ig hi=>by
      have:=marks_start R y.pair (S.groups.length:Nat) i ig hi
      exact kp4 (fun z=>R.GI (by rw [← z];exact List.mem_of_getElem? hi)) rfl this
    refine ⟨D,rfl,⟨_,SqL.of eD⟩,for_list (K:=K) (a:=D) (xs:=g.rfs (y.left++y.right)) (fun j σ H'=>∃ v,σ = [some (.ref g.F),some (.int (y.pair:Nat)),some (.ref L),some (.ref R'),some (.int (S.groups.length:Nat)),v]∧Sx (fun b=>b ∈ g.igs) H4 H'∧Marks H' g S y.pair (S.groups.length:Nat) ((y.left++y.right).take j))
      ⟨_,rfl,Sx.refl _,M0⟩ (fun j σ H' _ ⟨_,_,m,_⟩=>SqL.of (m.keep D _ nDI rfl eD)) ?_ ?_⟩
    · rintro j v σ H' hj ⟨v0,rfl,m,M⟩
      unfold Gh.rfs at hj
      rw [List.getElem?_map] at hj
      cases ej:(y.left++y.right)[j]? with
      | none=>rw [ej] at hj;cases hj
      | some i =>
        rw [ej] at hj
        obtain rfl:g.rf i=v:=Option.some.inj hj
        have hi:i < S.entries.length:=G.lt i (List.mem_of_getElem? ej)
        obtain ⟨di,ig,e1,e2,e3,_⟩:=R.at hi
        have n1:g.ra i ∉ g.igs:=fun q=>by obtain ⟨xs,z⟩:=igs_of R q;rw [e1] at z;cases z
        have e1':H' (g.ra i)=some _:=m.keep _ _ n1 rfl (kp4 (ne_of e1 R.grps (by intro z;cases z)) rfl e1)
        have eI:=M i ig e3
        refine (Ze rfl (Ze rfl (Zf e1' T.cl_Entry T.na_Entry_in_groups rfl (Ze rfl ⟨ig,_,_,y.pair,rfl,rfl,eI,ix3 G.pair _ _ _,?_⟩))))
        refine (Ze rfl ⟨m.trans (Sx.put (List.mem_of_getElem? e3) eI),?_⟩)
        have et:(y.left++y.right).take (j + 1)=(y.left++y.right).take j++[i]:=by rw [List.take_add_one,ej];rfl
        rw [et]
        exact marks_step G.pair M R.igsnd e3
    · rintro σ H' ⟨v0,rfl,m,M⟩
      rw [len_rfs,List.take_length] at M
      refine (Ze rfl ?_)
      have kpF:∀ {b:Addr} {o:HO},b≠g.G→b ∉ g.igs→plain o=true→H b=some o→H' b=some o:=fun {b o} n ni p h=>m.keep b o ni p (kp4 n p h)
      have mO:Sx (own g) H H':=(mS.mono fun b z=>.inr (.inr (.inr (.inl z)))).trans ((Sx.weak m4).trans (m.mono fun b z=>.inr (.inr (.inr (.inr (.inr (.inl z)))))))
      have nins:∀ {b C d:Addr} {fs:List (Str × V)},H b=some (.ins C d fs)→b≠g.G∧b ∉ g.igs:=fun {b C d fs} h=>⟨ne_of h R.grps (by intro z;cases z),fun q=>by obtain ⟨xs,z⟩:=igs_of R q;rw [h] at z;cases z⟩
      have eXX:H' x=some (.ins T.c_Group dx (grpF y L R')):=by
        refine m.keep x _ (fun q=>?_) rfl (m4.get (by rw [← hH3,upd_ne nGx];exact eX))
        obtain ⟨xs,z⟩:=igs_of R q;rw [nx] at z;cases z
      have eGG:H' g.G=some (.lst ((g.gs++[x]).map V.ref)):=by
        refine m.keep _ _ R.GI rfl (m4.get ?_)
        rw [← hH3,upd_same,List.map_append];rfl
      have side:∀ {b:Addr} {ps:List Nat},SideAt H g b ps→SideAt H' (g.addG x) b ps:=fun {b ps} h=>⟨kpF h.nG h.nI rfl h.at_,h.nE,h.nG,h.nI⟩
      refine k H' (g.addG x) ⟨R.wf.addG G,mO.tab R.tab,⟨dF,kpF (nins eF).1 (nins eF).2 rfl eF⟩,?_,kpF R.EG R.EI rfl R.ents,eGG,R.elen,R.ilen,?_,fun i e a ig h1 h2 h3=>?_,fun j z a h1 h2=>?_,R.esnd,R.igsnd,?_,R.EI,R.GI,R.EG⟩ ⟨mO,fun b hbo=>?_⟩ rfl rfl
      · obtain ⟨kvs,h1,h2,h3⟩:=R.acc
        have nA:g.A ∉ g.igs:=fun q=>by obtain ⟨xs,z⟩:=igs_of R q;rw [h1] at z;cases z
        refine ⟨kvs,kpF (ne_of h1 R.grps (by intro z;cases z)) nA rfl h1,h2,fun z=>?_⟩
        have q:=h3 z
        show AccIs T _ _ (accAt S z)
        unfold AccIs at q ⊢
        split at q
        · exact trivial
        · obtain ⟨d',e'⟩:=q;exact ⟨d',kpF (nins e').1 (nins e').2 rfl e'⟩
        · exact q
      · show (g.gs++[x]).length=(S.groups++[y]).length
        rw [List.length_append,List.length_append,R.glen];rfl
      · obtain ⟨⟨d',e1⟩,_⟩:=R.ent i e a ig h1 h2 h3
        refine ⟨⟨d',kpF (nins e1).1 (nins e1).2 rfl e1⟩,?_⟩
        rw [M i ig h3]
        have same:∀ q,gv S y.pair (S.groups.length:Nat) (y.left++y.right) q i=grI (addG S y) q i:=fun q=>by rw [grI_addG R.wf G hh];rfl
        rw [same,same,same]
      · have h1':(S.groups++[y])[j]? = some z:=h1
        have h2':(g.gs++[x])[j]? = some a:=h2
        by_cases hj:j < S.groups.length
        · rw [List.getElem?_append_left hj] at h1'
          rw [List.getElem?_append_left (by rw [R.glen];exact hj)] at h2'
          obtain ⟨d',L1,R1,e1,e2,e3⟩:=R.grp j z a h1' h2'
          exact ⟨d',L1,R1,kpF (nins e1).1 (nins e1).2 rfl e1,side e2,side e3⟩
        · have hlt:j < (S.groups++[y]).length:=(List.getElem?_eq_some_iff.mp h1').1
          rw [List.length_append,List.length_singleton] at hlt
          obtain rfl:j=S.groups.length:=by omega
          rw [List.getElem?_append_right (Nat.le_refl _),Nat.sub_self] at h1'
          rw [List.getElem?_append_right (Nat.le_of_eq R.glen),R.glen,Nat.sub_self] at h2'
          cases h1';cases h2'
          exact ⟨dx,L,R',eXX,side hL,side hR⟩
      · refine nd_snoc R.gsnd fun q=>?_
        obtain ⟨_,_,z⟩:=gs_of R q;rw [nx] at z;cases z
      · rcases hbo with z | z | z | z | z | z | z
        · exact .inl (.inl z)
        · exact .inl (.inr (.inl z))
        · exact .inl (.inr (.inr (.inl z)))
        · exact .inl (.inr (.inr (.inr (.inl z))))
        · exact .inl (.inr (.inr (.inr (.inr (.inl z)))))
        · exact .inl (.inr (.inr (.inr (.inr (.inr (.inl z))))))
        · rcases List.mem_append.mp z with z | z
          · exact .inl (.inr (.inr (.inr (.inr (.inr (.inr z))))))
          · exact .inr (by rw [List.mem_singleton.mp z];exact nx)
def sp_Fund_undo_group (T:Txt K mg):Sp:=fun vs H Q _=>∃ (g:Gh) (s:State) (j:Nat) (x:Vbfuao.Group),vs=[.ref g.F,g.rg j]∧Rep T H g s∧s.groups[j]? = some x∧x.holds=true ∧
  ∀ H',Rep T H' g (undo s j x)→Mv g g H H'→Q .non H'
theorem ok_Fund_undo_group (T:Txt K mg):FnOk P w K mg base CX0 1 T.f_Fund_undo_group.f T.f_Fund_undo_group.fd ["self", "group"] (sp_Fund_undo_group T):=by
  refine T.f_Fund_undo_group.F.ok sc_Fund_undo_group (fun vs H Q E h=>?_) (fun cdv A outer s H vs Q E hr h=>?_)
  · obtain ⟨_,_,_,_,rfl,_⟩:=h;rfl
  · obtain ⟨g,S,j0,y,rfl,R,hy,hh,k⟩:=h
    obtain ⟨x,dx,L,R',hx,erg,eX,hL,hR⟩:=R.gat hy
    rw [erg]
    refine ⟨_,(pss_cons (ps_fld (pv 1) pe_bl rfl)
      (pss_one (ps_for PassesOwn.never rfl (pi_list (pe_op op_cat (pe_fld (pv 1) rfl) (pe_fld (pv 1) rfl))) (pg_name (i:=2) sc_Fund_undo_group.nd rfl (Or.inl rfl))
        (pss_one (ps_asg (pe_gint rfl T.g_NO_GROUP) (pg_sub (pe_fld (pv 2) rfl) (pe_fld (pv 1) rfl) set_list)))))),?_⟩
    obtain ⟨dF,eF⟩:=R.fund
    obtain ⟨wp,wne,wl,wr,wd,wv⟩:=R.wf.pair j0 y hy
    refine (Ze rfl ⟨x,_,dx,(Ze rfl ⟨eX,T.cl_Group,T.na_Group_holds,by show 5 < 1000;decide,?_⟩)⟩)
    have ef:putF "holds" (V.bl false) (grpF y L R')=grpF { y with holds:=false } L R':=rfl
    rw [ef]
    generalize hH3:upd H x (.ins T.c_Group dx (grpF { y with holds:=false } L R'))=H3
    have eX3:H3 x=some (.ins T.c_Group dx (grpF { y with holds:=false } L R')):=by rw [← hH3,upd_same]
    have kp3:∀ {b:Addr} {o:HO},b≠x→H b=some o→H3 b=some o:=fun {b o} n h=>by rw [← hH3,upd_ne n];exact h
    have hsz:y.left.length + y.right.length≤400:=by
      have z1:y.left.length≤S.entries.length:=by
        have:=wl.length_le_of_subset (l₂:=List.range S.entries.length) (fun i hi=>List.mem_range.mpr (wv i (List.mem_append_left _ hi)))
        rwa [List.length_range] at this
      have z2:y.right.length≤S.entries.length:=by
        have:=wr.length_le_of_subset (l₂:=List.range S.entries.length) (fun i hi=>List.mem_range.mpr (wv i (List.mem_append_right _ hi)))
        rwa [List.length_range] at this
      have:=R.wf.emax
      omega
    have nl:∀ {b:Addr} {xs:List V},H b=some (.lst xs)→b≠x:=fun {b xs} h=>ne_of h eX (by intro z;cases z)
    have mS:Sx (fun b=>b=x) H H3:=by rw [← hH3];exact Sx.put rfl eX
    refine (Ze rfl (Zf eX3 T.cl_Group T.na_Group_left rfl (Ze rfl (Zf eX3 T.cl_Group T.na_Group_right rfl ⟨L,R',Zo rfl rfl ⟨kp3 (nl hL.at_) hL.at_,kp3 (nl hR.at_) hR.at_,by rw [len_rfs,len_rfs];exact sz' (by omega),fun D hD=>?_⟩⟩))))
    have ecat:g.rfs y.left++g.rfs y.right=g.rfs (y.left++y.right):=by unfold Gh.rfs;rw [List.map_append]
    rw [ecat]
    have m4:Sm H3 (upd H3 D (.lst (g.rfs (y.left++y.right)))):=Sx.new hD
    generalize hH4:upd H3 D (.lst (g.rfs (y.left++y.right)))=H4 at m4
    have eD:H4 D=some (.lst (g.rfs (y.left++y.right))):=by rw [← hH4,upd_same]
    have kp4:∀ {b:Addr} {o:HO},b≠x→plain o=true→H b=some o→H4 b=some o:=fun {b o} n p h=>m4.get (kp3 n h) p
    have nDI:D ∉ g.igs:=fun q=>by
      obtain ⟨xs,e⟩:=igs_of R q
      have:H3 D=some _:=kp3 (nl e) e
      rw [hD] at this;cases this
    have nxI:x ∉ g.igs:=fun q=>by obtain ⟨xs,z⟩:=igs_of R q;rw [eX] at z;cases z
    have M0:Marks H4 g S y.pair (-1) []:=fun i ig hi=>by
      have:=marks_start R y.pair (-1) i ig hi
      exact kp4 (nl this) rfl this
    refine ⟨D,rfl,⟨_,SqL.of eD⟩,for_list (K:=K) (a:=D) (xs:=g.rfs (y.left++y.right)) (fun j σ H'=>∃ v,σ = [some (.ref g.F),some (.ref x),v]∧Sx (fun b=>b ∈ g.igs) H4 H'∧Marks H' g S y.pair (-1) ((y.left++y.right).take j))
      ⟨_,rfl,Sx.refl _,M0⟩ (fun j σ H' _ ⟨_,_,m,_⟩=>SqL.of (m.keep D _ nDI rfl eD)) ?_ ?_⟩
    · rintro j v σ H' hj ⟨v0,rfl,m,M⟩
      unfold Gh.rfs at hj
      rw [List.getElem?_map] at hj
      cases ej:(y.left++y.right)[j]? with
      | none=>rw [ej] at hj;cases hj
      | some i =>
        rw [ej] at hj
        obtain rfl:g.rf i=v:=Option.some.inj hj
        have hi:i < S.entries.length:=wv i (List.mem_of_getElem? ej)
        obtain ⟨di,ig,e1,e2,e3,e4⟩:=R.at hi
        have n1:g.ra i ∉ g.igs:=fun q=>by obtain ⟨xs,z⟩:=igs_of R q;rw [e1] at z;cases z
        have nix:g.ra i≠x:=ne_first e1 eX
        have e1':H' (g.ra i)=some _:=m.keep _ _ n1 rfl (kp4 nix rfl e1)
        have eX':H' x=some _:=m.keep _ _ nxI rfl (m4.get eX3)
        have eI:=M i ig e3
        refine (Ze rfl (Zf e1' T.cl_Entry T.na_Entry_in_groups rfl (Ze rfl (Zf eX' T.cl_Group T.na_Group_pair rfl ⟨ig,_,_,y.pair,rfl,rfl,eI,ix3 wp _ _ _,?_⟩))))
        refine (Ze rfl ⟨m.trans (Sx.put (List.mem_of_getElem? e3) eI),?_⟩)
        have et:(y.left++y.right).take (j + 1)=(y.left++y.right).take j++[i]:=by rw [List.take_add_one,ej];rfl
        rw [et]
        exact marks_step wp M R.igsnd e3
    · rintro σ H' ⟨v0,rfl,m,M⟩
      rw [len_rfs,List.take_length] at M
      have kpF:∀ {b:Addr} {o:HO},b≠x→b ∉ g.igs→plain o=true→H b=some o→H' b=some o:=fun {b o} n ni p h=>m.keep b o ni p (kp4 n p h)
      have hxg:x ∈ g.gs:=List.mem_of_getElem? hx
      have mO:Sx (own g) H H':=(mS.mono fun b z=>.inr (.inr (.inr (.inr (.inr (.inr (by rw [z];exact hxg))))))).trans ((Sx.weak m4).trans (m.mono fun b z=>.inr (.inr (.inr (.inr (.inr (.inl z)))))))
      have nins:∀ {b C d:Addr} {fs:List (Str × V)},H b=some (.ins C d fs)→b ∉ g.igs:=fun {b C d fs} h q=>by obtain ⟨xs,z⟩:=igs_of R q;rw [h] at z;cases z
      have eXX:H' x=some (.ins T.c_Group dx (grpF { y with holds:=false } L R')):=m.keep x _ nxI rfl (m4.get eX3)
      have side:∀ {b:Addr} {ps:List Nat},SideAt H g b ps→SideAt H' g b ps:=fun {b ps} h=>⟨kpF (nl h.at_) h.nI rfl h.at_,h.nE,h.nG,h.nI⟩
      have nFx:g.F≠x:=ne_first eF eX
      refine k H' ⟨R.wf.undo hy,mO.tab R.tab,⟨dF,kpF nFx (nins eF) rfl eF⟩,?_,kpF (nl R.ents) R.EI rfl R.ents,kpF (nl R.grps) R.GI rfl R.grps,R.elen,R.ilen,?_,fun i e a ig h1 h2 h3=>?_,fun j z a h1 h2=>?_,R.esnd,R.igsnd,R.gsnd,R.EI,R.GI,R.EG⟩ ⟨mO,fun b hbo=>.inl hbo⟩
      · obtain ⟨kvs,h1,h2,h3⟩:=R.acc
        have nA:g.A ∉ g.igs:=fun q=>by obtain ⟨xs,z⟩:=igs_of R q;rw [h1] at z;cases z
        refine ⟨kvs,kpF (ne_of h1 eX (by intro z;cases z)) nA rfl h1,h2,fun z=>?_⟩
        have q:=h3 z
        show AccIs T _ _ (accAt S z)
        unfold AccIs at q ⊢
        split at q
        · exact trivial
        · obtain ⟨d',e'⟩:=q;exact ⟨d',kpF (ne_first e' eX) (nins e') rfl e'⟩
        · exact q
      · show g.gs.length=(S.groups.set j0 _).length
        rw [List.length_set,R.glen]
      · obtain ⟨⟨d',e1⟩,_⟩:=R.ent i e a ig h1 h2 h3
        refine ⟨⟨d',kpF (ne_first e1 eX) (nins e1) rfl e1⟩,?_⟩
        rw [M i ig h3]
        have same:∀ q,gv S y.pair (-1) (y.left++y.right) q i=grI (undo S j0 y) q i:=fun q=>by rw [grI_undo R.wf hy hh];rfl
        rw [same,same,same]
      · rcases undo_get hy h1 with ⟨rfl,rfl⟩ | ⟨ne,h1'⟩
        · rw [hx] at h2;cases h2
          exact ⟨dx,L,R',eXX,side hL,side hR⟩
        · obtain ⟨d',L1,R1,e1,e2,e3⟩:=R.grp j z a h1' h2
          have nax:a≠x:=fun q=>ne (nd_ix R.gsnd (by rw [← q];exact h2) hx)
          exact ⟨d',L1,R1,kpF nax (nins e1) rfl e1,side e2,side e3⟩
end
end TB
namespace TB
open PySem PySem.Spec PyProof.Rows L2
open PySem.W (Codec)
section
variable {P:Program} {w:World} {K:PySem.W.Frag} {mg:Str→Option Value} {base:Heap}
def Ans (T:Txt K mg) (H:Hp) (g:Gh) (s:State) (c:Vbfuao.Call) (Q:VK):Prop:=∀ H' g' d,Rep T H' g' (Vbfuao.step s c).1→Mv g g' H H'→g'.F=g.F→H d=none→H' d=some (.lst ((Vbfuao.step s c).2.map V.int))→¬ own g' d→Q (.ref d) H'
theorem Ans.ret {T : Txt K mg} {H H1 : Hp} {g g1 : Gh} {s s1 : State} {c : Vbfuao.Call} {Q : VK} {ns : List Int} {p : Addr} (h : Ans T H g s c Q) (e : Vbfuao.step s c = (s1, ns)) (R1 : Rep T H1 g1 s1) (m : Mv g g1 H H1) (eF : g1.F = g.F) (hp : H1 p = none) :
    Q (.ref p) (upd H1 p (.lst (ns.map V.int))) :=
  h _ g1 p (by rw [e];exact R1.keep (Sx.new hp)) (m.trans (Mv.of (Sx.new hp))) eF (m.sx.free p hp) (by rw [upd_same,e]) (fresh_nown R1 hp)
theorem Ans.at {T:Txt K mg} {H H1:Hp} {g:Gh} {s:State} {c:Vbfuao.Call} {Q:VK} {ns:List Int} {p:Addr} (h:Ans T H g s c Q) (e:Vbfuao.step s c=(s,ns)) (R:Rep T H g s) (m:Sm H H1) (hp:H p=none) (hl:H1 p=some (.lst (ns.map V.int))):Q (.ref p) H1 :=
  h H1 g p (by rw [e];exact R.keep m) (Mv.of m) rfl hp (by rw [e];exact hl) (fresh_nown R hp)
theorem wa_none {s:State} {a:Int} (h:accAt s a=none) (f:Vbfuao.Account→Nat→State × List Int):Vbfuao.withAccount s a f=(s,[-2]):=by
  unfold Vbfuao.withAccount Vbfuao.no
  unfold accAt at h
  split
  · rfl
  · rename_i hn
    rw [if_neg hn] at h
    rw [h]
theorem wa_some {s:State} {a:Int} {x:Vbfuao.Account} (h:accAt s a=some x) (f:Vbfuao.Account→Nat→State × List Int):Vbfuao.withAccount s a f=f x a.toNat∧0≤a∧a=(a.toNat:Int)∧Vbfuao.accountAt s a.toNat=some x:=by
  unfold accAt at h
  split at h
  · cases h
  · rename_i hn
    unfold Vbfuao.withAccount
    rw [if_neg hn,h]
    exact ⟨rfl,by omega,by omega,rfl⟩
theorem rr_cases (s:State) (b z:Int):(accAt s z=none∧rr s b z = -2)∨(∃ x,accAt s z=some x∧((Vbfuao.within b 0 2=false∧rr s b z = -1)∨(Vbfuao.within b 0 2=true∧rr s b z=0))):=by
  unfold rr
  cases h:accAt s z with
  | none=>exact .inl ⟨rfl,rfl⟩
  | some x =>
    refine .inr ⟨x,rfl,?_⟩
    cases h2:Vbfuao.within b 0 2 with
    | false=>exact .inl ⟨rfl,rfl⟩
    | true=>exact .inr ⟨rfl,rfl⟩
theorem within_nat {b:Int} (h:Vbfuao.within b 0 2=true):b.toNat≤2∧b=(b.toNat:Int):=by
  unfold Vbfuao.within at h
  rw [Bool.and_eq_true,decide_eq_true_eq,decide_eq_true_eq] at h
  omega
theorem perm_sum:∀ {l m:List Int},l.Perm m→l.sum=m.sum:=fun {l m} h=>by
  induction h with
  | nil=>rfl
  | cons x _ ih=>rw [List.sum_cons,List.sum_cons,ih]
  | swap x y l=>rw [List.sum_cons,List.sum_cons,List.sum_cons,List.sum_cons];omega
  | trans _ _ h1 h2=>exact h1.trans h2
def sp_Fund_balance (T:Txt K mg):Sp:=fun vs H Q _=>∃ (g:Gh) (s:State) (b a:Nat),vs=[.ref g.F,.int (b:Nat),.int (a:Nat)]∧Rep T H g s∧∀ H',Sm H H'→Q (.int (Vbfuao.balance s b a)) H'
theorem ok_Fund_balance (T:Txt K mg):FnOk P w K mg base CX0 1 T.f_Fund_balance.f T.f_Fund_balance.fd ["self", "book", "account"] (sp_Fund_balance T):=by
  refine T.f_Fund_balance.F.ok sc_Fund_balance (fun vs H Q E h=>?_) (fun cdv A outer s H vs Q E hr h=>?_)
  · obtain ⟨_,_,_,_,rfl,_⟩:=h;rfl
  · obtain ⟨g,S,b,a,rfl,R,k⟩:=h
    refine ⟨_,(pss_one (ps_ret (pe_callB (cr_sum rfl) rfl T.n_sum boot_sum (pa_cons (pe_lc rfl sc_Fund_balance.nd (pi_list (pe_fld (pv 0) rfl)) (blkOk_by (own:=[("entry",3)]) (by kernel_rfl)) (fun _ _ _ _ _=>pg_name (i:=3) sc_Fund_balance.nd rfl (Or.inl rfl)) (fun _ _ _ _ _=>(pts_one (PW.pt (pw_and (pt_cmpR op_eq (pe_fldK (K:=K) rfl (pv 3) rfl) (pv 1) (nomark _)) (pw_and (pt_cmpR op_eq (pe_fldK (K:=K) rfl (pv 3) rfl) (pv 2) (nomark _)) (pw_and1 (pt_val (pe_fldK (K:=K) rfl (pv 3) rfl)))))))) (fun _ _ _ _ _=>(pe_fldK (K:=K) rfl (pv 3) rfl))) pa_nil)))),?_⟩
    obtain ⟨dF,eF⟩:=R.fund
    have hE:SqL K H g.E ((List.range S.entries.length).map g.rf):=SqL.of (by rw [← es_range R];exact R.ents)
    refine (Ze rfl (Zf eF T.cl_Fund T.na_Fund_entries rfl ⟨g.E,rfl,⟨_,hE⟩,fun D hD=>lc_fn (ys:=List.range S.entries.length) (p:=inBook S b a) (f:=fun i=>V.int (Vbfuao.entryAt S i).amount) hD hE (by rw [List.length_range];exact Nat.le_trans R.wf.emax (by decide)) (fun i hi H1 Q1 Q0 m1 h1 h0=>?_) fun H1 m1 e1=>?_⟩))
    · have hi':=List.mem_range.mp hi
      obtain ⟨dx,ig,e,_⟩:=(R.keep m1).at hi'
      refine ⟨rfl,?_⟩
      unfold inBook at h1 h0
      refine (Ze rfl (Zf e T.cl_Entry T.na_Entry_book rfl (Ze rfl ⟨rfl,Ze rfl ?_⟩)))
      rw [decI]
      refine iteb (fun c1=>?_) (fun c1=>?_)
      · refine (Ze rfl (Zf e T.cl_Entry T.na_Entry_account rfl (Ze rfl ⟨rfl,Ze rfl ?_⟩)))
        rw [decI]
        refine iteb (fun c2=>?_) (fun c2=>?_)
        · rw [c1,c2] at h1 h0
          refine (Ze rfl (Zf e T.cl_Entry T.na_Entry_there rfl (Ze rfl ?_)))
          refine iteb (fun c3=>(Ze rfl (Zf e T.cl_Entry T.na_Entry_amount rfl (h1 (by rw [c3];rfl) _ (Sx.refl _))))) (fun c3=>h0 (by rw [c3];rfl) _ (Sx.refl _))
        · rw [c2] at h0
          exact iteF (h0 (by simp) _ (Sx.refl _))
      · rw [c1] at h0
        exact iteF (h0 (by simp) _ (Sx.refl _))
    · refine ⟨D,((List.range S.entries.length).filter (inBook S b a)).map fun i=>(Vbfuao.entryAt S i).amount,rfl,SqL.of (by rw [e1,List.map_map];rfl),?_⟩
      have z:=k H1 m1
      unfold Vbfuao.balance Vbfuao.sumOf at z
      rw [sumInt_eq,perm_sum ((places_spec S b a).2.map _)] at z
      exact z
def heldB (s:State) (p a j:Nat):Bool:=match s.groups[j]? with
  | none=>false
  | some x=>x.holds&&(x.pair == p&&x.account == a)
theorem gs_range {T:Txt K mg} {H:Hp} {g:Gh} {s:State} (R:Rep T H g s):g.gs.map V.ref=(List.range s.groups.length).map g.rg:=by
  refine List.ext_getElem? fun i=>?_
  by_cases h:i < s.groups.length
  · obtain ⟨a,dx,L,R',ha,er,_⟩:=R.gat (List.getElem?_eq_getElem h)
    rw [List.getElem?_map,ha,List.getElem?_map,List.getElem?_range h]
    show some (V.ref a)=some (g.rg i)
    rw [er]
  · rw [List.getElem?_eq_none (by rw [List.length_map,R.glen];omega),List.getElem?_eq_none (by rw [List.length_map,List.length_range];omega)]
def sp_Fund_groups_that_hold (T:Txt K mg):Sp:=fun vs H Q _=>∃ (g:Gh) (s:State) (p a:Nat),vs=[.ref g.F,.int (p:Nat),.int (a:Nat)]∧Rep T H g s∧∀ H' d,Sm H H'→H d=none→H' d=some (.lst (((List.range s.groups.length).filter (heldB s p a)).map g.rg))→Q (.ref d) H'
theorem ok_Fund_groups_that_hold (T:Txt K mg):FnOk P w K mg base CX0 1 T.f_Fund_groups_that_hold.f T.f_Fund_groups_that_hold.fd ["self", "pair", "account"] (sp_Fund_groups_that_hold T):=by
  refine T.f_Fund_groups_that_hold.F.ok sc_Fund_groups_that_hold (fun vs H Q E h=>?_) (fun cdv A outer s H vs Q E hr h=>?_)
  · obtain ⟨_,_,_,_,rfl,_⟩:=h;rfl
  · obtain ⟨g,S,p,a,rfl,R,k⟩:=h
    refine ⟨_,(pss_one (ps_ret (pe_lc rfl sc_Fund_groups_that_hold.nd (pi_list (pe_fld (pv 0) rfl)) (blkOk_by (own:=[("group",3)]) (by kernel_rfl)) (fun _ _ _ _ _=>pg_name (i:=3) sc_Fund_groups_that_hold.nd rfl (Or.inl rfl)) (fun _ _ _ _ _=>(pts_one (PW.pt (pw_and (pt_cmpR op_eq (pe_fldK (K:=K) rfl (pv 3) rfl) (pv 1) (nomark _)) (pw_and (pt_cmpR op_eq (pe_fldK (K:=K) rfl (pv 3) rfl) (pv 2) (nomark _)) (pw_and1 (pt_val (pe_fldK (K:=K) rfl (pv 3) rfl)))))))) (fun _ _ _ _ _=>(pv 3))))),?_⟩
    obtain ⟨dF,eF⟩:=R.fund
    have hE:SqL K H g.G ((List.range S.groups.length).map g.rg):=SqL.of (by rw [← gs_range R];exact R.grps)
    refine (Ze rfl (Zf eF T.cl_Fund T.na_Fund_groups rfl ⟨g.G,rfl,⟨_,hE⟩,fun D hD=>lc_fn (ys:=List.range S.groups.length) (p:=heldB S p a) (f:=g.rg) hD hE (by rw [List.length_range];exact Nat.le_trans R.wf.gmax (by decide)) (fun i hi H1 Q1 Q0 m1 h1 h0=>?_) fun H1 m1 e1=>k H1 D m1 hD e1⟩))
    have hi':=List.mem_range.mp hi
    obtain ⟨x,hx⟩:∃ x,S.groups[i]? = some x:=⟨_,List.getElem?_eq_getElem hi'⟩
    obtain ⟨ga,dx,L,R',ha,er,e,_⟩:=(R.keep m1).gat hx
    refine ⟨rfl,?_⟩
    unfold heldB at h1 h0
    rw [hx] at h1 h0
    dsimp only at h1 h0
    refine (Ze rfl ⟨_,_,_,_,_,er,e,T.cl_Group,T.na_Group_pair,rfl,(Ze rfl ⟨rfl,Ze rfl ?_⟩)⟩)
    rw [decI]
    refine iteb (fun c1=>?_) (fun c1=>?_)
    · refine (Ze rfl ⟨_,_,_,_,_,er,e,T.cl_Group,T.na_Group_account,rfl,(Ze rfl ⟨rfl,Ze rfl ?_⟩)⟩)
      rw [decI]
      refine iteb (fun c2=>?_) (fun c2=>?_)
      · rw [c1,c2] at h1 h0
        refine (Ze rfl ⟨_,_,_,_,_,er,e,T.cl_Group,T.na_Group_holds,rfl,(Ze rfl ?_)⟩)
        refine iteb (fun c3=>(Ze rfl (h1 (by rw [c3];rfl) _ (Sx.refl _)))) (fun c3=>h0 (by rw [c3];rfl) _ (Sx.refl _))
      · rw [c2] at h0
        exact iteF (h0 (by simp) _ (Sx.refl _))
    · rw [c1] at h0
      exact iteF (h0 (by simp) _ (Sx.refl _))
def sp_ask1 (c:Int→Vbfuao.Call) (T:Txt K mg):Sp:=fun vs H Q _=>∃ (g:Gh) (s:State) (z:Int),vs=[.ref g.F,.int z]∧Rep T H g s∧Ans T H g s (c z) Q
def sp_ask2 (c:Int→Int→Vbfuao.Call) (T:Txt K mg):Sp:=fun vs H Q _=>∃ (g:Gh) (s:State) (b z:Int),vs=[.ref g.F,.int b,.int z]∧Rep T H g s∧Ans T H g s (c b z) Q
def sp_ask_entry (T:Txt K mg):Sp:=sp_ask1 .entryAt T
theorem small_list {n:Nat} (h:n≤1000:=by first | decide | simp):n≤sizeLine:=sz' (Nat.le_trans h (by decide))
theorem ok_ask_entry (T:Txt K mg):FnOk P w K mg base CX0 2 T.f_ask_entry.f T.f_ask_entry.fd ["fund", "place"] (sp_ask_entry T):=by
  have G_Fund_entry_at:=ok_Fund_entry_at (P:=P) (w:=w) (base:=base) T
  refine T.f_ask_entry.F.ok sc_ask_entry (fun vs H Q E h=>?_) (fun cdv A outer s H vs Q E hr h=>?_)
  · obtain ⟨_,_,_,rfl,_⟩:=h;rfl
  · obtain ⟨g,S,z,rfl,R,k⟩:=h
    refine ⟨_,(pss_cons (ps_set (i:=2) sc_ask_entry.nd rfl (Or.inl rfl) (pe_meth (pv 0) T.cl_Fund T.me_Fund_entry_at G_Fund_entry_at (hr.mono (by decide)) T.f_Fund_entry_at.b .nil pass0 (pa_cons (pv 1) pa_nil)))
      (pss_cons (ps_if (pt_cmp (pc_isN (pv 2))) (pss_one (ps_ret (pe_lst (pa_cons (pe_gint rfl T.g_NOT_THERE) pa_nil)))) pss_nil)
      (pss_one (ps_ret (pe_op op_cat (pe_lst (pa_cons (pe_fld (pv 2) rfl) (pa_cons (pe_fld (pv 2) rfl) (pa_cons (pe_fld (pv 2) rfl) (pa_cons (pe_fld (pv 2) rfl) (pa_cons (pe_fld (pv 2) rfl) pa_nil)))))) (pe_fld (pv 2) rfl)))))),?_⟩
    obtain ⟨dF,eF⟩:=R.fund
    refine (Ze rfl (Zm eF rfl (Ze rfl ⟨g,S,z,rfl,R,?_⟩)))
    cases e:Vbfuao.thereAt S z with
    | none =>
      refine (Ze rfl (Ze rfl (iteT ⟨small_list,fun p hp=>?_⟩)))
      exact k.ret (ns:=[-4]) (by unfold Vbfuao.step;dsimp only;rw [e];rfl) R (Mv.of (Sx.refl _)) rfl hp
    | some i =>
      obtain ⟨hz,hi,hth⟩:=thereAt_of e
      obtain ⟨dx,ig,e1,e2,_⟩:=R.at hi
      refine (Ze rfl (Ze rfl (iteF ?_)))
      refine (Ze rfl (Zf e1 T.cl_Entry T.na_Entry_book rfl (Ze rfl (Zf e1 T.cl_Entry T.na_Entry_account rfl (Ze rfl (Zf e1 T.cl_Entry T.na_Entry_day rfl (Ze rfl (Zf e1 T.cl_Entry T.na_Entry_amount rfl (Ze rfl (Zf e1 T.cl_Entry T.na_Entry_reference rfl ⟨small_list,fun d hd=>?_⟩))))))))))
      have m1:Sm H (upd H d (.lst [.int ((Vbfuao.entryAt S i).book:Nat),.int ((Vbfuao.entryAt S i).account:Nat),.int ((Vbfuao.entryAt S i).day:Nat),.int (Vbfuao.entryAt S i).amount,.int ((Vbfuao.entryAt S i).ref:Nat)])):=Sx.new hd
      refine (Ze rfl (Zf (m1.get e1) T.cl_Entry T.na_Entry_in_groups rfl ⟨d,ig,Zo rfl rfl ⟨upd_same,m1.get e2,small_list,fun p hp=>?_⟩⟩))
      refine k.ret (ns:=[((Vbfuao.entryAt S i).book:Int),((Vbfuao.entryAt S i).account:Int),((Vbfuao.entryAt S i).day:Int),(Vbfuao.entryAt S i).amount,((Vbfuao.entryAt S i).ref:Int),grI S 0 i,grI S 1 i,grI S 2 i]) ?_ (R.keep m1) (Mv.of m1) rfl hp
      unfold Vbfuao.step
      dsimp only
      rw [e]
      rfl
def sp_ask_group (T:Txt K mg):Sp:=sp_ask1 .group T
theorem side_lst {T:Txt K mg} {H:Hp} {g:Gh} {s:State} (R:Rep T H g s) {j:Nat} {x:Vbfuao.Group} (hx:s.groups[j]? = some x) {L:Addr} (h:SideAt H g L x.left):LstAt H g s L x.left:=by
  obtain ⟨wp,wne,wl,wr,wd,wv⟩:=R.wf.pair j x hx
  refine ⟨h.at_,fun i hi=>wv i (List.mem_append_left _ hi),?_⟩
  have:=wl.length_le_of_subset (l₂:=List.range s.entries.length) (fun i hi=>List.mem_range.mpr (wv i (List.mem_append_left _ hi)))
  rw [List.length_range] at this
  have:=R.wf.emax
  omega
theorem side_lstR {T:Txt K mg} {H:Hp} {g:Gh} {s:State} (R:Rep T H g s) {j:Nat} {x:Vbfuao.Group} (hx:s.groups[j]? = some x) {L:Addr} (h:SideAt H g L x.right):LstAt H g s L x.right:=by
  obtain ⟨wp,wne,wl,wr,wd,wv⟩:=R.wf.pair j x hx
  refine ⟨h.at_,fun i hi=>wv i (List.mem_append_right _ hi),?_⟩
  have:=wr.length_le_of_subset (l₂:=List.range s.entries.length) (fun i hi=>List.mem_range.mpr (wv i (List.mem_append_right _ hi)))
  rw [List.length_range] at this
  have:=R.wf.emax
  omega
theorem mem_len {s:State} (W:Wf s) {j:Nat} {x:Vbfuao.Group} (hx:s.groups[j]? = some x):x.left.length + x.right.length≤400:=by
  obtain ⟨wp,wne,wl,wr,wd,wv⟩:=W.pair j x hx
  have z1:=wl.length_le_of_subset (l₂:=List.range s.entries.length) (fun i hi=>List.mem_range.mpr (wv i (List.mem_append_left _ hi)))
  have z2:=wr.length_le_of_subset (l₂:=List.range s.entries.length) (fun i hi=>List.mem_range.mpr (wv i (List.mem_append_right _ hi)))
  rw [List.length_range] at z1 z2
  have:=W.emax
  omega
theorem rfs_app (g:Gh) (a b:List Nat):g.rfs a++g.rfs b=g.rfs (a++b):=by unfold Gh.rfs;rw [List.map_append]
theorem step_group_none {s:State} {z:Int} (h:holdAt s z=none):Vbfuao.step s (.group z)=(s,[-4]):=by
  unfold Vbfuao.step
  unfold holdAt at h
  by_cases hz:z < 0
  · simp only [hz,if_true];rfl
  · simp only [hz,if_false] at h ⊢
    cases e:s.groups[z.toNat]? with
    | none=>rfl
    | some x =>
      rw [e] at h
      dsimp only at h ⊢
      cases hh:x.holds with
      | true=>rw [hh] at h;cases h
      | false=>rfl
theorem step_group_some {s:State} {z:Int} {j:Nat} {x:Vbfuao.Group} (h:holdAt s z=some j) (hx:s.groups[j]? = some x):Vbfuao.step s (.group z)=(s,[(x.pair:Int),(x.account:Int),Vbfuao.gapOf s x,(x.left.length:Int)]++Vbfuao.numbers (x.left++x.right)):=by
  obtain ⟨hz,y,hy,hh⟩:=holdAt_of h
  rw [hx] at hy;cases hy
  unfold Vbfuao.step
  have : ¬ z < 0:=by omega
  have e:z.toNat=j:=by omega
  simp only [this,if_false,e,hx,hh]
  rfl
theorem len_numbers (l:List Nat):((Vbfuao.numbers l).map V.int).length=l.length:=by unfold Vbfuao.numbers;rw [List.length_map,List.length_map]
theorem ok_ask_group (T:Txt K mg):FnOk P w K mg base CX0 2 T.f_ask_group.f T.f_ask_group.fd ["fund", "place"] (sp_ask_group T):=by
  have G_places_of:=ok_places_of (P:=P) (w:=w) (base:=base) T
  have G_gap_of:=ok_gap_of (P:=P) (w:=w) (base:=base) T
  have G_Fund_group_at:=ok_Fund_group_at (P:=P) (w:=w) (base:=base) T
  refine T.f_ask_group.F.ok sc_ask_group (fun vs H Q E h=>?_) (fun cdv A outer s H vs Q E hr h=>?_)
  · obtain ⟨_,_,_,rfl,_⟩:=h;rfl
  · obtain ⟨g,S,z,rfl,R,k⟩:=h
    refine ⟨_,(pss_cons (ps_set (i:=2) sc_ask_group.nd rfl (Or.inl rfl) (pe_meth (pv 0) T.cl_Fund T.me_Fund_group_at G_Fund_group_at (hr.mono (by decide)) T.f_Fund_group_at.b .nil pass0 (pa_cons (pv 1) pa_nil)))
      (pss_cons (ps_if (pt_cmp (pc_isN (pv 2))) (pss_one (ps_ret (pe_lst (pa_cons (pe_gint rfl T.g_NOT_THERE) pa_nil)))) pss_nil)
      (pss_cons (ps_set (i:=3) sc_ask_group.nd rfl (Or.inl rfl) (pe_lst (pa_cons (pe_fld (pv 2) rfl) (pa_cons (pe_fld (pv 2) rfl) (pa_cons (pe_call G_gap_of (hr.mono (by decide)) rfl T.m_gap_of T.f_gap_of.kp T.f_gap_of.b .nil pass0 (pa_cons (pe_fld (pv 2) rfl) (pa_cons (pe_fld (pv 2) rfl) pa_nil))) (pa_cons (pe_callB call_len_seq rfl T.n_len PySem.boot_len (pa_cons (pe_fld (pv 2) rfl) pa_nil)) pa_nil))))))
      (pss_one (ps_ret (pe_op op_cat (pv 3) (pe_call G_places_of (hr.mono (by decide)) rfl T.m_places_of T.f_places_of.kp T.f_places_of.b .nil pass0 (pa_cons (pe_op op_cat (pe_fld (pv 2) rfl) (pe_fld (pv 2) rfl)) pa_nil)))))))),?_⟩
    obtain ⟨dF,eF⟩:=R.fund
    refine (Ze rfl (Zm eF rfl (Ze rfl ⟨g,S,z,rfl,R,?_⟩)))
    cases e:holdAt S z with
    | none =>
      refine (Ze rfl (Ze rfl (iteT ⟨small_list,fun p hp=>?_⟩)))
      exact k.ret (ns:=[-4]) (step_group_none e) R (Mv.of (Sx.refl _)) rfl hp
    | some j =>
      obtain ⟨hz,x,hx,hh⟩:=holdAt_of e
      obtain ⟨a,dx,L,R',ha,er,e1,hL,hR⟩:=R.gat hx
      have lL:=side_lst R hx hL
      have lR:=side_lstR R hx hR
      have hml:=mem_len R.wf hx
      refine (Ze rfl (Ze rfl (iteF ?_)))
      refine (Ze rfl ⟨_,_,_,_,_,er,e1,T.cl_Group,T.na_Group_pair,rfl,(Ze rfl ⟨_,_,_,_,_,er,e1,T.cl_Group,T.na_Group_account,rfl,(Ze rfl ⟨_,_,_,_,_,er,e1,T.cl_Group,T.na_Group_left,rfl,(Ze rfl ⟨_,_,_,_,_,er,e1,T.cl_Group,T.na_Group_right,rfl,g,S,L,R',x.left,x.right,rfl,R,lL,lR,fun H1 m1=>?_⟩)⟩)⟩)⟩)
      refine (Ze rfl ⟨_,_,_,_,_,er,m1.get e1,T.cl_Group,T.na_Group_left,rfl,_,_,rfl,.inl (SqL.of (m1.get hL.at_)),small_list,fun d hd=>?_⟩)
      rw [len_rfs]
      have m2:=m1.trans (Sx.new (o:=.lst [.int (x.pair:Nat),.int (x.account:Nat),.int (Vbfuao.sumOf S x.left - Vbfuao.sumOf S x.right),.int (x.left.length:Nat)]) hd)
      refine (Ze rfl (Ze rfl ⟨_,_,_,_,_,er,m2.get e1,T.cl_Group,T.na_Group_left,rfl,(Ze rfl ⟨_,_,_,_,_,er,m2.get e1,T.cl_Group,T.na_Group_right,rfl,L,R',(Zo rfl rfl ⟨m2.get hL.at_,m2.get hR.at_,by rw [len_rfs,len_rfs];exact sz' (by omega),fun d2 hd2=>?_⟩)⟩)⟩))
      rw [rfs_app]
      have m3:=m2.trans (Sx.new (o:=.lst (g.rfs (x.left++x.right))) hd2)
      refine ⟨g,S,d2,x.left++x.right,rfl,R.keep m3,⟨upd_same,(R.wf.pair j x hx).2.2.2.2.2,by rw [List.length_append];omega⟩,fun H4 d3 m4 n3 e3=>?_⟩
      have nd:d≠d2:=ne_of_none upd_same hd2
      have eA:H4 d=some (.lst [.int (x.pair:Nat),.int (x.account:Nat),.int (Vbfuao.sumOf S x.left - Vbfuao.sumOf S x.right),.int (x.left.length:Nat)]):=m4.get (by rw [upd_ne nd,upd_same])
      refine ⟨d,d3,Zo rfl rfl ⟨eA,e3,by rw [len_numbers,List.length_append];exact sz' (by show 4 + _≤_;omega),fun p hp=>?_⟩⟩
      have q:=k.ret (step_group_some e hx) (R.keep (m3.trans m4)) (Mv.of (m3.trans m4)) rfl hp
      rw [List.map_append] at q
      exact q
end
end TB
namespace TB
open PySem PySem.Spec PyProof.Rows L2
open PySem.W (Codec)
section
variable {P:Program} {w:World} {K:PySem.W.Frag} {mg:Str→Option Value} {base:Heap}
theorem wr {s:State} {b z:Int} {f:Vbfuao.Account→Nat→State × List Int} (h:rr s b z≠0):Vbfuao.withAccount s z (fun x a=>if Vbfuao.within b 0 2=false then Vbfuao.no s (-1) else f x a)=(s,[rr s b z]):=by
  rcases rr_cases s b z with ⟨h1,h2⟩ | ⟨x,h1,⟨h2,h3⟩ | ⟨h2,h3⟩⟩
  · rw [wa_none h1,h2]
  · rw [(wa_some h1 _).1,h3,if_pos h2];rfl
  · exact absurd h3 h
theorem wr0 {s:State} {b z:Int} {f:Vbfuao.Account→Nat→State × List Int} (h:rr s b z=0):∃ x,Vbfuao.withAccount s z (fun x a=>if Vbfuao.within b 0 2=false then Vbfuao.no s (-1) else f x a)=f x z.toNat∧Vbfuao.accountAt s z.toNat=some x∧accAt s z=some x:=by
  rcases rr_cases s b z with ⟨h1,h2⟩ | ⟨x,h1,⟨h2,h3⟩ | ⟨h2,h3⟩⟩
  · rw [h2] at h;cases h
  · rw [h3] at h;cases h
  · obtain ⟨e,_,_,ea⟩:=wa_some h1 (fun x a=>if Vbfuao.within b 0 2=false then Vbfuao.no s (-1) else f x a)
    exact ⟨x,by rw [e,if_neg (by rw [h2];decide)],ea,h1⟩
theorem dec0 (z:Int):(!decide (V.int z=V.int 0)) = !decide (z=0):=by simp
theorem brk_lst {T:Txt K mg} {H:Hp} {g:Gh} {s:State} (R:Rep T H g s) {p b a:Nat} {d:Addr} (h:H d=some (.lst (g.rfs (Vbfuao.breaksOf s p b a)))):LstAt H g s d (Vbfuao.breaksOf s p b a):=by
  refine ⟨h,fun i hi=>(mem_breaks.mp hi).1,?_⟩
  have:=(breaks_nodup s p b a).length_le_of_subset (l₂:=List.range s.entries.length) (fun i hi=>List.mem_range.mpr (mem_breaks.mp hi).1)
  rw [List.length_range] at this
  have:=R.wf.emax
  omega
theorem brk_len {s:State} (W:Wf s) (p b a:Nat):(Vbfuao.breaksOf s p b a).length≤200:=by
  have:=(breaks_nodup s p b a).length_le_of_subset (l₂:=List.range s.entries.length) (fun i hi=>List.mem_range.mpr (mem_breaks.mp hi).1)
  rw [List.length_range] at this
  have:=W.emax
  omega
def sp_ask_breaks (T:Txt K mg):Sp:=sp_ask2 .breaks T
theorem ok_ask_breaks (T:Txt K mg):FnOk P w K mg base CX0 10 T.f_ask_breaks.f T.f_ask_breaks.fd ["fund", "p", "a"] (sp_ask_breaks T):=by
  have G_places_of:=ok_places_of (P:=P) (w:=w) (base:=base) T
  have G_Fund_open_right:=ok_Fund_open_right (P:=P) (w:=w) (base:=base) T
  have G_Fund_open_left:=ok_Fund_open_left (P:=P) (w:=w) (base:=base) T
  have G_range_refusal:=ok_range_refusal (P:=P) (w:=w) (base:=base) T
  refine T.f_ask_breaks.F.ok sc_ask_breaks (fun vs H Q E h=>?_) (fun cdv A outer s H vs Q E hr h=>?_)
  · obtain ⟨_,_,_,_,rfl,_⟩:=h;rfl
  · obtain ⟨g,S,b,z,rfl,R,k⟩:=h
    refine ⟨_,(pss_cons (ps_set (i:=3) sc_ask_breaks.nd rfl (Or.inl rfl) (pe_call G_range_refusal (hr.mono (by decide)) rfl T.m_range_refusal T.f_range_refusal.kp T.f_range_refusal.b .nil pass0 (pa_cons (pv 0) (pa_cons (pv 1) (pa_cons (pv 2) pa_nil)))))
      (pss_cons (ps_if (pt_cmpR op_ne (pv 3) pe_int (nomark _)) (pss_one (ps_ret (pe_lst (pa_cons (pv 3) pa_nil)))) pss_nil)
      (pss_cons (ps_set (i:=4) sc_ask_breaks.nd rfl (Or.inl rfl) (pe_meth (pv 0) T.cl_Fund T.me_Fund_open_left G_Fund_open_left (hr.mono (by decide)) T.f_Fund_open_left.b .nil pass0 (pa_cons (pv 1) (pa_cons (pv 2) pa_nil))))
      (pss_cons (ps_set (i:=5) sc_ask_breaks.nd rfl (Or.inl rfl) (pe_meth (pv 0) T.cl_Fund T.me_Fund_open_right G_Fund_open_right (hr.mono (by decide)) T.f_Fund_open_right.b .nil pass0 (pa_cons (pv 1) (pa_cons (pv 2) pa_nil))))
      (pss_one (ps_ret (pe_op op_cat (pe_lst (pa_cons (pe_callB call_len_seq rfl T.n_len PySem.boot_len (pa_cons (pv 4) pa_nil)) (pa_cons (pe_callB call_len_seq rfl T.n_len PySem.boot_len (pa_cons (pv 5) pa_nil)) pa_nil))) (pe_call G_places_of (hr.mono (by decide)) rfl T.m_places_of T.f_places_of.kp T.f_places_of.b .nil pass0 (pa_cons (pe_op op_cat (pv 4) (pv 5)) pa_nil))))))))),?_⟩
    obtain ⟨dF,eF⟩:=R.fund
    refine (Ze rfl (Ze rfl (Ze rfl ⟨g,S,b,z,rfl,R,Ze rfl ⟨rfl,Ze rfl ?_⟩⟩)))
    rw [dec0]
    refine ite3n (fun h0=>?_) (fun h0=>?_)
    · exact (Ze rfl ⟨small_list,fun p hp=>k.ret (ns:=[rr S b z]) (by unfold Vbfuao.step;dsimp only;exact wr h0) R (Mv.of (Sx.refl _)) rfl hp⟩)
    · obtain ⟨_,hz0,hb0,hb2,hp,eb,ez⟩:=rr_zero h0
      obtain ⟨x,es,_⟩:=wr0 (f:=fun _ a=>(let o:=Vbfuao.openBoth S b.toNat a;(S,(o.1.length:Int) :: (o.2.length:Int) :: Vbfuao.numbers (o.1++o.2)))) h0
      have es':Vbfuao.step S (.breaks b z)=_:=es
      generalize hbn:b.toNat=p at *
      generalize hzn:z.toNat=a at *
      rw [eb,ez]
      refine (Ze rfl (Zm eF rfl (Ze rfl (Ze rfl ⟨g,S,p,a,rfl,R,hp,fun H1 d1 m1 n1 e1=>?_⟩))))
      refine (Ze rfl (Zm (m1.get eF) rfl (Ze rfl (Ze rfl ⟨g,S,p,a,rfl,R.keep m1,hp,fun H2 d2 m2 n2 e2=>?_⟩))))
      have e1':=m2.get e1
      refine (Ze rfl ⟨_,_,rfl,.inl (SqL.of e1'),(Ze rfl ⟨_,_,rfl,.inl (SqL.of e2),small_list,fun d3 n3=>?_⟩)⟩)
      rw [len_rfs,len_rfs]
      have m3:=(m1.trans m2).trans (Sx.new (o:=.lst [.int ((Vbfuao.breaksOf S p (Vbfuao.leftBook p) a).length:Nat),.int ((Vbfuao.breaksOf S p (Vbfuao.rightBook p) a).length:Nat)]) n3)
      have mm:Sm H2 (upd H2 d3 (.lst [.int ((Vbfuao.breaksOf S p (Vbfuao.leftBook p) a).length:Nat),.int ((Vbfuao.breaksOf S p (Vbfuao.rightBook p) a).length:Nat)])):=Sx.new n3
      have l1:=brk_len R.wf p (Vbfuao.leftBook p) a
      have l2:=brk_len R.wf p (Vbfuao.rightBook p) a
      refine (Ze rfl (Ze rfl ⟨d1,d2,Zo rfl rfl ⟨mm.get e1',mm.get e2,by rw [len_rfs,len_rfs];exact sz' (by omega),fun d4 n4=>?_⟩⟩))
      rw [rfs_app]
      have m4:=m3.trans (Sx.new (o:=.lst (g.rfs (Vbfuao.breaksOf S p (Vbfuao.leftBook p) a++Vbfuao.breaksOf S p (Vbfuao.rightBook p) a))) n4)
      refine ⟨g,S,d4,Ze rfl ⟨R.keep m4,⟨upd_same,fun i hi=>?_,by rw [List.length_append];omega⟩,fun H5 d5 m5 n5 e5=>?_⟩⟩
      · rcases List.mem_append.mp hi with z | z
        · exact (mem_breaks.mp z).1
        · exact (mem_breaks.mp z).1
      · have nd:d3≠d4:=ne_of_none upd_same n4
        refine ⟨d3,d5,Zo rfl rfl ⟨m5.get (by rw [upd_ne nd,upd_same]),e5,by rw [len_numbers,List.length_append];exact sz' (by show 2 + _≤_;omega),fun q hq=>?_⟩⟩
        have fin:=k.ret es' (R.keep (m4.trans m5)) (Mv.of (m4.trans m5)) rfl hq
        exact fin
def sp_ask_balance (T:Txt K mg):Sp:=sp_ask2 .balance T
theorem ok_ask_balance (T:Txt K mg):FnOk P w K mg base CX0 3 T.f_ask_balance.f T.f_ask_balance.fd ["fund", "book", "a"] (sp_ask_balance T):=by
  have G_Fund_balance:=ok_Fund_balance (P:=P) (w:=w) (base:=base) T
  have G_range_refusal:=ok_range_refusal (P:=P) (w:=w) (base:=base) T
  refine T.f_ask_balance.F.ok sc_ask_balance (fun vs H Q E h=>?_) (fun cdv A outer s H vs Q E hr h=>?_)
  · obtain ⟨_,_,_,_,rfl,_⟩:=h;rfl
  · obtain ⟨g,S,b,z,rfl,R,k⟩:=h
    refine ⟨_,(pss_cons (ps_set (i:=3) sc_ask_balance.nd rfl (Or.inl rfl) (pe_call G_range_refusal (hr.mono (by decide)) rfl T.m_range_refusal T.f_range_refusal.kp T.f_range_refusal.b .nil pass0 (pa_cons (pv 0) (pa_cons (pv 1) (pa_cons (pv 2) pa_nil)))))
      (pss_cons (ps_if (pt_cmpR op_ne (pv 3) pe_int (nomark _)) (pss_one (ps_ret (pe_lst (pa_cons (pv 3) pa_nil)))) pss_nil)
      (pss_one (ps_ret (pe_lst (pa_cons pe_int (pa_cons (pe_meth (pv 0) T.cl_Fund T.me_Fund_balance G_Fund_balance (hr.mono (by decide)) T.f_Fund_balance.b .nil pass0 (pa_cons (pv 1) (pa_cons (pv 2) pa_nil))) pa_nil))))))),?_⟩
    obtain ⟨dF,eF⟩:=R.fund
    refine (Ze rfl (Ze rfl (Ze rfl ⟨g,S,b,z,rfl,R,Ze rfl ⟨rfl,Ze rfl ?_⟩⟩)))
    rw [dec0]
    refine ite3n (fun h0=>?_) (fun h0=>?_)
    · exact (Ze rfl ⟨small_list,fun p hp=>k.ret (ns:=[rr S b z]) (by unfold Vbfuao.step;dsimp only;exact wr h0) R (Mv.of (Sx.refl _)) rfl hp⟩)
    · obtain ⟨_,hz0,hb0,hb2,hp,eb,ez⟩:=rr_zero h0
      obtain ⟨x,es,_⟩:=wr0 (f:=fun _ a=>(S,[0,Vbfuao.balance S b.toNat a])) h0
      have es':Vbfuao.step S (.balance b z)=_:=es
      generalize hbn:b.toNat=p at *
      generalize hzn:z.toNat=a at *
      rw [eb,ez]
      refine (Ze rfl (Zm eF rfl (Ze rfl (Ze rfl ⟨g,S,p,a,rfl,R,fun H1 m1=>⟨small_list,fun q hq=>?_⟩⟩))))
      exact k.ret es' (R.keep m1) (Mv.of m1) rfl hq
theorem range_filter {α β : Type} (Pr : α→Bool) (f : α→β) (d : β):∀ l:List α,((List.range l.length).filter (fun j=>(l[j]?).elim false Pr)).map (fun j=>(l[j]?).elim d f)=(l.filter Pr).map f
  | []=>rfl
  | a :: l=>by
    have ih:=range_filter Pr f d l
    rw [List.length_cons,List.range_succ_eq_map,List.filter_cons]
    have e1:(List.map Nat.succ (List.range l.length)).filter (fun j=>((a :: l)[j]?).elim false Pr)=((List.range l.length).filter (fun j=>(l[j]?).elim false Pr)).map Nat.succ:=by
      rw [List.filter_map];rfl
    have e2:(((List.range l.length).filter (fun j=>(l[j]?).elim false Pr)).map Nat.succ).map (fun j=>((a :: l)[j]?).elim d f)=(l.filter Pr).map f:=by
      rw [List.map_map];exact ih
    rw [e1]
    have e0:((a :: l)[0]?).elim false Pr=Pr a:=rfl
    rw [e0,List.filter_cons]
    cases h:Pr a with
    | true=>rw [if_pos rfl,if_pos rfl,List.map_cons,e2];rfl
    | false=>rw [if_neg (by decide),if_neg (by decide),e2]
def sp_ask_gap (T:Txt K mg):Sp:=sp_ask2 .gap T
def gapAt (s:State) (j:Nat):Int:=match s.groups[j]? with
  | none=>0
  | some x=>Vbfuao.gapOf s x
theorem written_eq (s:State) (p a:Nat):Vbfuao.written s p a=(((List.range s.groups.length).filter (heldB s p a)).map (gapAt s)).sum:=by
  unfold Vbfuao.written
  rw [sumInt_eq]
  have h:=range_filter (fun g:Vbfuao.Group=>g.holds&&(g.pair == p&&g.account == a)) (Vbfuao.gapOf s) 0 s.groups
  have e1:heldB s p a=fun j=>(s.groups[j]?).elim false fun g:Vbfuao.Group=>g.holds&&(g.pair == p&&g.account == a):=by
    funext j;unfold heldB;cases s.groups[j]? <;> rfl
  have e2:gapAt s=fun j=>(s.groups[j]?).elim 0 (Vbfuao.gapOf s):=by
    funext j;unfold gapAt;cases s.groups[j]? <;> rfl
  rw [e1,e2,h]
theorem ok_ask_gap (T:Txt K mg):FnOk P w K mg base CX0 10 T.f_ask_gap.f T.f_ask_gap.fd ["fund", "p", "a"] (sp_ask_gap T):=by
  have G_Fund_groups_that_hold:=ok_Fund_groups_that_hold (P:=P) (w:=w) (base:=base) T
  have G_gap_of:=ok_gap_of (P:=P) (w:=w) (base:=base) T
  have G_Fund_open_right:=ok_Fund_open_right (P:=P) (w:=w) (base:=base) T
  have G_Fund_open_left:=ok_Fund_open_left (P:=P) (w:=w) (base:=base) T
  have G_Fund_balance:=ok_Fund_balance (P:=P) (w:=w) (base:=base) T
  have G_range_refusal:=ok_range_refusal (P:=P) (w:=w) (base:=base) T
  refine T.f_ask_gap.F.ok sc_ask_gap (fun vs H Q E h=>?_) (fun cdv A outer s H vs Q E hr h=>?_)
  · obtain ⟨_,_,_,_,rfl,_⟩:=h;rfl
  · obtain ⟨g,S,b,z,rfl,R,k⟩:=h
    refine ⟨_,(pss_cons (ps_set (i:=3) sc_ask_gap.nd rfl (Or.inl rfl) (pe_call G_range_refusal (hr.mono (by decide)) rfl T.m_range_refusal T.f_range_refusal.kp T.f_range_refusal.b .nil pass0 (pa_cons (pv 0) (pa_cons (pv 1) (pa_cons (pv 2) pa_nil)))))
      (pss_cons (ps_if (pt_cmpR op_ne (pv 3) pe_int (nomark _)) (pss_one (ps_ret (pe_lst (pa_cons (pv 3) pa_nil)))) pss_nil)
      (pss_cons (ps_set (i:=4) sc_ask_gap.nd rfl (Or.inl rfl) (pe_op op_sub (pe_meth (pv 0) T.cl_Fund T.me_Fund_balance G_Fund_balance (hr.mono (by decide)) T.f_Fund_balance.b .nil pass0 (pa_cons (pe_ix ix_tup (pe_ix ix_tup (pe_gref rfl T.g_PAIR_BOOKS) (pv 1) (fun _ _=>rfl)) pe_int (fun _ _=>rfl)) (pa_cons (pv 2) pa_nil))) (pe_meth (pv 0) T.cl_Fund T.me_Fund_balance G_Fund_balance (hr.mono (by decide)) T.f_Fund_balance.b .nil pass0 (pa_cons (pe_ix ix_tup (pe_ix ix_tup (pe_gref rfl T.g_PAIR_BOOKS) (pv 1) (fun _ _=>rfl)) pe_int (fun _ _=>rfl)) (pa_cons (pv 2) pa_nil)))))
      (pss_cons (ps_set (i:=5) sc_ask_gap.nd rfl (Or.inl rfl) (pe_call G_gap_of (hr.mono (by decide)) rfl T.m_gap_of T.f_gap_of.kp T.f_gap_of.b .nil pass0 (pa_cons (pe_meth (pv 0) T.cl_Fund T.me_Fund_open_left G_Fund_open_left (hr.mono (by decide)) T.f_Fund_open_left.b .nil pass0 (pa_cons (pv 1) (pa_cons (pv 2) pa_nil))) (pa_cons (pe_meth (pv 0) T.cl_Fund T.me_Fund_open_right G_Fund_open_right (hr.mono (by decide)) T.f_Fund_open_right.b .nil pass0 (pa_cons (pv 1) (pa_cons (pv 2) pa_nil))) pa_nil))))
      (pss_cons (ps_set (i:=6) sc_ask_gap.nd rfl (Or.inl rfl) (pe_callB (cr_sum rfl) rfl T.n_sum boot_sum (pa_cons (pe_lc rfl sc_ask_gap.nd (pi_list (pe_meth (pv 0) T.cl_Fund T.me_Fund_groups_that_hold G_Fund_groups_that_hold (hr.mono (by decide)) T.f_Fund_groups_that_hold.b .nil pass0 (pa_cons (pv 1) (pa_cons (pv 2) pa_nil)))) (blkOk_by (own:=[("group",7)]) (by kernel_rfl)) (fun _ _ _ _ _=>pg_name (i:=7) sc_ask_gap.nd rfl (Or.inl rfl)) (fun _ _ _ _ _=>pts_nil) (fun _ _ _ _ _=>(pe_call G_gap_of (hr.mono (by decide)) rfl T.m_gap_of T.f_gap_of.kp T.f_gap_of.b .nil pass0 (pa_cons (pe_fldK (K:=K) rfl (pv 7) rfl) (pa_cons (pe_fldK (K:=K) rfl (pv 7) rfl) pa_nil))))) pa_nil)))
      (pss_one (ps_ret (pe_lst (pa_cons pe_int (pa_cons (pv 4) (pa_cons (pv 5) (pa_cons (pv 6) pa_nil)))))))))))),?_⟩
    obtain ⟨dF,eF⟩:=R.fund
    refine (Ze rfl (Ze rfl (Ze rfl ⟨g,S,b,z,rfl,R,Ze rfl ⟨rfl,Ze rfl ?_⟩⟩)))
    rw [dec0]
    refine ite3n (fun h0=>?_) (fun h0=>?_)
    · exact (Ze rfl ⟨small_list,fun p hp=>k.ret (ns:=[rr S b z]) (by unfold Vbfuao.step;dsimp only;exact wr h0) R (Mv.of (Sx.refl _)) rfl hp⟩)
    · obtain ⟨_,hz0,hb0,hb2,hp,eb,ez⟩:=rr_zero h0
      obtain ⟨x,es,_⟩:=wr0 (f:=fun _ a=>(let o:=Vbfuao.openBoth S b.toNat a;(S,[0,Vbfuao.balance S (Vbfuao.leftBook b.toNat) a - Vbfuao.balance S (Vbfuao.rightBook b.toNat) a,Vbfuao.sumOf S o.1 - Vbfuao.sumOf S o.2,Vbfuao.written S b.toNat a]))) h0
      have es':Vbfuao.step S (.gap b z)=_:=es
      generalize hbn:b.toNat=p at *
      generalize hzn:z.toNat=a at *
      rw [eb,ez]
      obtain ⟨pa,q1,q2⟩:=pb_at T H hp
      refine (Ze rfl (Zm eF rfl (Ze rfl ⟨_,_,_,_,rfl,rfl,T.pb H,q1,⟨_,_,_,_,rfl,rfl,q2,rfl,(Ze rfl ⟨g,S,_,a,rfl,R,fun H1 m1=>?_⟩)⟩⟩)))
      obtain ⟨pa1,q3,q4⟩:=pb_at T H1 hp
      refine (Ze rfl (Zm (m1.get eF) rfl (Ze rfl ⟨_,_,_,_,rfl,rfl,T.pb H1,q3,⟨_,_,_,_,rfl,rfl,q4,rfl,(Ze rfl ⟨g,S,_,a,rfl,R.keep m1,fun H2 m2=>?_⟩)⟩⟩)))
      have m12:=m1.trans m2
      refine (Zo rfl rfl ?_)
      refine (Ze rfl (Zm (m12.get eF) rfl (Ze rfl (Ze rfl ⟨g,S,p,a,rfl,R.keep m12,hp,fun H3 d3 m3 n3 e3=>?_⟩))))
      have m13:=m12.trans m3
      refine (Ze rfl (Zm (m13.get eF) rfl (Ze rfl (Ze rfl ⟨g,S,p,a,rfl,R.keep m13,hp,fun H4 d4 m4 n4 e4=>?_⟩))))
      have m14:=m13.trans m4
      have R4:=R.keep m14
      refine ⟨g,S,d3,d4,_,_,rfl,R4,brk_lst R4 (m4.get e3),brk_lst R4 e4,fun H5 m5=>?_⟩
      have m15:=m14.trans m5
      refine (Ze rfl (Zm (m15.get eF) rfl (Ze rfl (Ze rfl ⟨g,S,p,a,rfl,R.keep m15,fun H6 d6 m6 n6 e6=>?_⟩))))
      have m16:=m15.trans m6
      have hlen:((List.range S.groups.length).filter (heldB S p a)).length≤300:=Nat.le_trans (List.length_filter_le _ _) (by rw [List.length_range];exact R.wf.gmax)
      refine ⟨d6,rfl,⟨_,SqL.of e6⟩,fun D hD=>lc_fn (ys:=(List.range S.groups.length).filter (heldB S p a)) (p:=fun _=>true) (f:=fun j=>V.int (gapAt S j)) hD (SqL.of e6) (by omega) (fun j hj H7 Q1 Q0 m7 h1 h0=>?_) fun H7 m7 e7=>?_⟩
      · have hj':=List.mem_range.mp (List.mem_filter.mp hj).1
        obtain ⟨y,hy⟩:∃ y,S.groups[j]? = some y:=⟨_,List.getElem?_eq_getElem hj'⟩
        have R7:=R.keep (m16.trans m7)
        obtain ⟨ga,dx,L,R',ha,er,e,hL,hR⟩:=R7.gat hy
        refine ⟨rfl,yesT (Ze rfl ⟨_,_,_,_,_,er,e,T.cl_Group,T.na_Group_left,rfl,(Ze rfl ⟨_,_,_,_,_,er,e,T.cl_Group,T.na_Group_right,rfl,g,S,L,R',y.left,y.right,rfl,R7,side_lst R7 hy hL,side_lstR R7 hy hR,fun H8 m8=>?_⟩)⟩)⟩
        have q:=h1 rfl H8 m8
        unfold gapAt at q
        rw [hy] at q
        exact q
      · have m17:=m16.trans m7
        refine ⟨D,((List.range S.groups.length).filter (heldB S p a)).map (gapAt S),rfl,SqL.of (by rw [e7,List.filter_eq_self.mpr (fun _ _=>rfl),List.map_map];rfl),?_⟩
        rw [← written_eq]
        refine (Ze rfl (Ze rfl (Ze rfl ⟨small_list,fun q hq=>?_⟩)))
        exact k.ret es' (R.keep m17) (Mv.of m17) rfl hq
def sp_ask_aged (T:Txt K mg):Sp:=fun vs H Q _=>∃ (g:Gh) (s:State) (b z n:Int),vs=[.ref g.F,.int b,.int z,.int n]∧Rep T H g s∧Ans T H g s (.aged b z n) Q
theorem step_aged1 {s:State} {b z n:Int} (h:rr s b z≠0):Vbfuao.step s (.aged b z n)=(s,[rr s b z]):=by
  rcases rr_cases s b z with ⟨h1,h2⟩ | ⟨x,h1,⟨h2,h3⟩ | ⟨h2,h3⟩⟩
  · unfold Vbfuao.step;dsimp only;rw [wa_none h1,h2]
  · unfold Vbfuao.step;dsimp only;rw [(wa_some h1 _).1,h3,if_pos (by rw [h2];rfl)];rfl
  · exact absurd h3 h
theorem step_aged2 {s:State} {b z n:Int} (h:rr s b z=0) (hn:Vbfuao.within n 0 100000=false):Vbfuao.step s (.aged b z n)=(s,[-1]):=by
  rcases rr_cases s b z with ⟨h1,h2⟩ | ⟨x,h1,⟨h2,h3⟩ | ⟨h2,h3⟩⟩
  · rw [h2] at h;cases h
  · rw [h3] at h;cases h
  · unfold Vbfuao.step;dsimp only
    rw [(wa_some h1 _).1,if_pos (by show (Vbfuao.within b 0 2&&Vbfuao.within n 0 100000)=false;rw [h2,hn];rfl)];rfl
def agedB (s:State) (n i:Nat):Bool:=decide ((Vbfuao.entryAt s i).day + n≤s.today)
theorem step_aged3 {s:State} {b z n:Int} (h:rr s b z=0) (hn:Vbfuao.within n 0 100000=true):Vbfuao.step s (.aged b z n)=(s,((((lefts s b.toNat z.toNat++rights s b.toNat z.toNat).filter (agedB s n.toNat)).length:Nat):Int) :: Vbfuao.numbers ((lefts s b.toNat z.toNat++rights s b.toNat z.toNat).filter (agedB s n.toNat))):=by
  rcases rr_cases s b z with ⟨h1,h2⟩ | ⟨x,h1,⟨h2,h3⟩ | ⟨h2,h3⟩⟩
  · rw [h2] at h;cases h
  · rw [h3] at h;cases h
  · unfold Vbfuao.step;dsimp only
    rw [(wa_some h1 _).1,if_neg (by show ¬ (Vbfuao.within b 0 2&&Vbfuao.within n 0 100000)=false;rw [h2,hn];decide)]
    rfl
theorem ok_ask_aged (T:Txt K mg):FnOk P w K mg base CX0 10 T.f_ask_aged.f T.f_ask_aged.fd ["fund", "p", "a", "n"] (sp_ask_aged T):=by
  have G_places_of:=ok_places_of (P:=P) (w:=w) (base:=base) T
  have G_Fund_open_left:=ok_Fund_open_left (P:=P) (w:=w) (base:=base) T
  have G_Fund_open_right:=ok_Fund_open_right (P:=P) (w:=w) (base:=base) T
  have G_within:=ok_within (P:=P) (w:=w) (base:=base) T
  have G_range_refusal:=ok_range_refusal (P:=P) (w:=w) (base:=base) T
  refine T.f_ask_aged.F.ok sc_ask_aged (fun vs H Q E h=>?_) (fun cdv A outer s H vs Q E hr h=>?_)
  · obtain ⟨_,_,_,_,_,rfl,_⟩:=h;rfl
  · obtain ⟨g,S,b,z,n,rfl,R,k⟩:=h
    refine ⟨_,(pss_cons (ps_set (i:=4) sc_ask_aged.nd rfl (Or.inl rfl) (pe_call G_range_refusal (hr.mono (by decide)) rfl T.m_range_refusal T.f_range_refusal.kp T.f_range_refusal.b .nil pass0 (pa_cons (pv 0) (pa_cons (pv 1) (pa_cons (pv 2) pa_nil)))))
      (pss_cons (ps_if (pt_cmpR op_ne (pv 4) pe_int (nomark _)) (pss_one (ps_ret (pe_lst (pa_cons (pv 4) pa_nil)))) pss_nil)
      (pss_cons (ps_if (pt_not (pt_val (pe_call G_within (hr.mono (by decide)) rfl T.m_within T.f_within.kp T.f_within.b .nil pass0 (pa_cons (pv 3) (pa_cons pe_int (pa_cons (pe_gint rfl T.g_LAST_DAY) pa_nil)))))) (pss_one (ps_ret (pe_lst (pa_cons (pe_gint rfl T.g_OUT_OF_RANGE) pa_nil)))) pss_nil)
      (pss_cons (ps_set (i:=5) sc_ask_aged.nd rfl (by first | exact Or.inl rfl | exact Or.inr rfl) (pe_op op_cat (pe_meth (pv 0) T.cl_Fund T.me_Fund_open_left G_Fund_open_left (hr.mono (by decide)) T.f_Fund_open_left.b .nil pass0 (pa_cons (pv 1) (pa_cons (pv 2) pa_nil))) (pe_meth (pv 0) T.cl_Fund T.me_Fund_open_right G_Fund_open_right (hr.mono (by decide)) T.f_Fund_open_right.b .nil pass0 (pa_cons (pv 1) (pa_cons (pv 2) pa_nil)))))
      (pss_cons (ps_setLc (i:=6) rfl sc_ask_aged.nd rfl rfl (sw_true rfl rfl rfl rfl) (pi_list (pv 5)) (blkOk_by (own:=[("entry",7)]) (by kernel_rfl)) (fun _ _ _ _ _=>pg_name (i:=7) sc_ask_aged.nd rfl (Or.inl rfl)) (fun _ _ _ _ _=>(pts_one (pt_cmpR op_le (pe_op op_add (pe_fldK (K:=K) rfl (pv 7) rfl) (pv 3)) (pe_fldK (K:=K) rfl (pv 0) rfl) (nomark _)))) (fun _ _ _ _ _=>(pv 7)))
      (pss_one (ps_ret (pe_op op_cat (pe_lst (pa_cons (pe_callB call_len_seq rfl T.n_len PySem.boot_len (pa_cons (pv 6) pa_nil)) pa_nil)) (pe_call G_places_of (hr.mono (by decide)) rfl T.m_places_of T.f_places_of.kp T.f_places_of.b .nil pass0 (pa_cons (pv 6) pa_nil)))))))))),?_⟩
    obtain ⟨dF,eF⟩:=R.fund
    refine (Ze rfl (Ze rfl (Ze rfl ⟨g,S,b,z,rfl,R,Ze rfl ⟨rfl,Ze rfl ?_⟩⟩)))
    rw [dec0]
    refine ite3n (fun h0=>?_) (fun h0=>?_)
    · exact (Ze rfl ⟨small_list,fun p hp=>k.ret (ns:=[rr S b z]) (step_aged1 h0) R (Mv.of (Sx.refl _)) rfl hp⟩)
    · refine (Ze rfl ⟨n,0,100000,rfl,Ze rfl ?_⟩)
      refine iten (fun hn=>?_) (fun hn=>?_)
      · exact ⟨small_list,fun p hp=>k.ret (ns:=[-1]) (step_aged2 h0 hn) R (Mv.of (Sx.refl _)) rfl hp⟩
      · have es':=step_aged3 h0 hn
        obtain ⟨_,hz0,hb0,hb2,hp,eb,ez⟩:=rr_zero h0
        have hn2:n=(n.toNat:Int):=by
          unfold Vbfuao.within at hn
          rw [Bool.and_eq_true,decide_eq_true_eq] at hn
          omega
        generalize hbn:b.toNat=p at *
        generalize hzn:z.toNat=a at *
        generalize hnn:n.toNat=m at *
        rw [eb,ez,hn2]
        refine (Ze rfl (Zm eF rfl (Ze rfl (Ze rfl ⟨g,S,p,a,rfl,R,hp,fun H1 d1 m1 n1 e1=>?_⟩))))
        refine (Ze rfl (Zm (m1.get eF) rfl (Ze rfl (Ze rfl ⟨g,S,p,a,rfl,R.keep m1,hp,fun H2 d2 m2 n2 e2=>?_⟩))))
        have l1:=brk_len R.wf p (Vbfuao.leftBook p) a
        have l2:=brk_len R.wf p (Vbfuao.rightBook p) a
        refine ⟨d1,d2,Zo rfl rfl ⟨m2.get e1,e2,by rw [len_rfs,len_rfs];exact sz' (by omega),fun d3 n3=>?_⟩⟩
        rw [rfs_app]
        have m3:Sm H _:=(m1.trans m2).trans (Sx.new (o:=.lst (g.rfs (Vbfuao.breaksOf S p (Vbfuao.leftBook p) a++Vbfuao.breaksOf S p (Vbfuao.rightBook p) a))) n3)
        have hv:∀ i ∈ Vbfuao.breaksOf S p (Vbfuao.leftBook p) a++Vbfuao.breaksOf S p (Vbfuao.rightBook p) a,i < S.entries.length:=fun i hi=>by
          rcases List.mem_append.mp hi with z | z
          · exact (mem_breaks.mp z).1
          · exact (mem_breaks.mp z).1
        refine (Ze rfl ⟨d3,rfl,⟨_,SqL.of upd_same⟩,fun D hD=>lc_fn (ys:=Vbfuao.breaksOf S p (Vbfuao.leftBook p) a++Vbfuao.breaksOf S p (Vbfuao.rightBook p) a) (c:=g.rf) (p:=agedB S m) (f:=g.rf) hD (SqL.of upd_same) (by rw [List.length_append];omega) (fun i hi H4 Q1 Q0 m4 h1 h0=>?_) fun H4 m4 e4=>?_⟩)
        · have R4:=R.keep (m3.trans m4)
          obtain ⟨dx,ig,e,_⟩:=R4.at (hv i hi)
          obtain ⟨dF4,eF4⟩:=R4.fund
          unfold agedB at h1 h0
          refine ⟨rfl,(Ze rfl (Zf e T.cl_Entry T.na_Entry_day rfl (Ze rfl (Zo rfl rfl (Ze rfl (Zf eF4 T.cl_Fund T.na_Fund_today rfl (Zo rfl rfl (Ze rfl ?_))))))))⟩
          refine ite3 (fun c=>(Ze rfl (h1 (decide_eq_true (by omega)) _ (Sx.refl _)))) (fun c=>h0 (decide_eq_false (by omega)) _ (Sx.refl _))
        · have m5:=m3.trans m4
          have hl:((Vbfuao.breaksOf S p (Vbfuao.leftBook p) a++Vbfuao.breaksOf S p (Vbfuao.rightBook p) a).filter (agedB S m)).length≤400:=Nat.le_trans (List.length_filter_le _ _) (by rw [List.length_append];omega)
          refine (Ze rfl ⟨_,_,rfl,.inl (SqL.of e4),small_list,fun d5 n5=>?_⟩)
          rw [List.length_map]
          have m6:Sm H4 _:=Sx.new (o:=.lst [.int (((Vbfuao.breaksOf S p (Vbfuao.leftBook p) a++Vbfuao.breaksOf S p (Vbfuao.rightBook p) a).filter (agedB S m)).length:Nat)]) n5
          refine (Ze rfl ⟨g,S,D,Ze rfl ⟨R.keep (m5.trans m6),⟨m6.get e4,fun i hi=>hv i (List.mem_filter.mp hi).1,by omega⟩,fun H7 d7 m7 n7 e7=>?_⟩⟩)
          refine ⟨d5,d7,Zo rfl rfl ⟨m7.get upd_same,e7,by rw [len_numbers];exact sz' (by show 1 + _≤_;omega),fun q hq=>?_⟩⟩
          exact k.ret es' (R.keep ((m5.trans m6).trans m7)) (Mv.of ((m5.trans m6).trans m7)) rfl hq
def sp_ask_counts (T:Txt K mg):Sp:=fun vs H Q _=>∃ (g:Gh) (s:State),vs=[.ref g.F]∧Rep T H g s∧Ans T H g s .counts Q
theorem thereB_len (s:State):((List.range s.entries.length).filter (fun i=>(Vbfuao.entryAt s i).there)).length=(s.entries.filter fun e=>e.there).length:=by
  have h:=congrArg List.length (range_filter (fun e:Vbfuao.Entry=>e.there) id Vbfuao.noEntry s.entries)
  rw [List.length_map,List.length_map] at h
  rw [← h]
  refine congrArg List.length (List.filter_congr fun i hi=>?_)
  have hi':=List.mem_range.mp hi
  unfold Vbfuao.entryAt
  rw [List.getD_eq_getElem?_getD,List.getElem?_eq_getElem hi'];rfl
def holdB (s:State) (j:Nat):Bool:=match s.groups[j]? with
  | none=>false
  | some x=>x.holds
theorem holdB_len (s:State):((List.range s.groups.length).filter (holdB s)).length=(s.groups.filter fun e=>e.holds).length:=by
  have h:=congrArg List.length (range_filter (fun e:Vbfuao.Group=>e.holds) (fun _=>0) 0 s.groups)
  rw [List.length_map,List.length_map] at h
  have e1:holdB s=fun j=>(s.groups[j]?).elim false fun g:Vbfuao.Group=>g.holds:=by
    funext j;unfold holdB;cases s.groups[j]? <;> rfl
  rw [e1]
  exact h
theorem ok_ask_counts (T:Txt K mg):FnOk P w K mg base CX0 1 T.f_ask_counts.f T.f_ask_counts.fd ["fund"] (sp_ask_counts T):=by
  refine T.f_ask_counts.F.ok sc_ask_counts (fun vs H Q E h=>?_) (fun cdv A outer s H vs Q E hr h=>?_)
  · obtain ⟨_,_,rfl,_⟩:=h;rfl
  · obtain ⟨g,S,rfl,R,k⟩:=h
    refine ⟨_,(pss_cons (ps_setLc (i:=1) rfl sc_ask_counts.nd rfl rfl (sw_true rfl rfl rfl rfl) (pi_list (pe_fld (pv 0) rfl)) (blkOk_by (own:=[("entry",2)]) (by kernel_rfl)) (fun _ _ _ _ _=>pg_name (i:=2) sc_ask_counts.nd rfl (Or.inl rfl)) (fun _ _ _ _ _=>(pts_one (pt_val (pe_fldK (K:=K) rfl (pv 2) rfl)))) (fun _ _ _ _ _=>(pv 2)))
      (pss_cons (ps_setLc (i:=3) rfl sc_ask_counts.nd rfl rfl (sw_true rfl rfl rfl rfl) (pi_list (pe_fld (pv 0) rfl)) (blkOk_by (own:=[("group",4)]) (by kernel_rfl)) (fun _ _ _ _ _=>pg_name (i:=4) sc_ask_counts.nd rfl (Or.inl rfl)) (fun _ _ _ _ _=>(pts_one (pt_val (pe_fldK (K:=K) rfl (pv 4) rfl)))) (fun _ _ _ _ _=>(pv 4)))
      (pss_one (ps_ret (pe_lst (pa_cons (pe_fld (pv 0) rfl) (pa_cons (pe_callB call_len_seq rfl T.n_len PySem.boot_len (pa_cons (pe_fld (pv 0) rfl) pa_nil)) (pa_cons (pe_callB call_len_seq rfl T.n_len PySem.boot_len (pa_cons (pv 1) pa_nil)) (pa_cons (pe_callB call_len_seq rfl T.n_len PySem.boot_len (pa_cons (pe_fld (pv 0) rfl) pa_nil)) (pa_cons (pe_callB call_len_seq rfl T.n_len PySem.boot_len (pa_cons (pv 3) pa_nil)) pa_nil)))))))))),?_⟩
    obtain ⟨dF,eF⟩:=R.fund
    have hE:SqL K H g.E ((List.range S.entries.length).map g.rf):=SqL.of (by rw [← es_range R];exact R.ents)
    refine (Ze rfl (Zf eF T.cl_Fund T.na_Fund_entries rfl ⟨g.E,rfl,⟨_,hE⟩,fun D hD=>lc_fn (ys:=List.range S.entries.length) (p:=fun i=>(Vbfuao.entryAt S i).there) (f:=g.rf) hD hE (by rw [List.length_range];exact Nat.le_trans R.wf.emax (by decide)) (fun i hi H1 Q1 Q0 m1 h1 h0=>?_) fun H1 m1 e1=>?_⟩))
    · obtain ⟨dx,ig,e,_⟩:=(R.keep m1).at (List.mem_range.mp hi)
      refine ⟨rfl,(Ze rfl (Zf e T.cl_Entry T.na_Entry_there rfl (Ze rfl ?_)))⟩
      exact iteb (fun c=>(Ze rfl (h1 c _ (Sx.refl _)))) (fun c=>h0 c _ (Sx.refl _))
    · have R1:=R.keep m1
      have hG:SqL K H1 g.G ((List.range S.groups.length).map g.rg):=SqL.of (by rw [← gs_range R];exact R1.grps)
      refine (Ze rfl (Zf (m1.get eF) T.cl_Fund T.na_Fund_groups rfl ⟨g.G,rfl,⟨_,hG⟩,fun D2 hD2=>lc_fn (ys:=List.range S.groups.length) (p:=holdB S) (f:=g.rg) hD2 hG (by rw [List.length_range];exact Nat.le_trans R.wf.gmax (by decide)) (fun j hj H2 Q1 Q0 m2 h1 h0=>?_) fun H2 m2 e2=>?_⟩))
      · obtain ⟨y,hy⟩:∃ y,S.groups[j]? = some y:=⟨_,List.getElem?_eq_getElem (List.mem_range.mp hj)⟩
        obtain ⟨ga,dx,L,R',ha,er,e,_⟩:=(R1.keep m2).gat hy
        unfold holdB at h1 h0
        rw [hy] at h1 h0
        refine ⟨rfl,(Ze rfl ⟨_,_,_,_,_,er,e,T.cl_Group,T.na_Group_holds,rfl,(Ze rfl ?_)⟩)⟩
        exact iteb (fun c=>(Ze rfl (h1 c _ (Sx.refl _)))) (fun c=>h0 c _ (Sx.refl _))
      · have m12:=m1.trans m2
        have R2:=R.keep m12
        refine (Ze rfl (Zf (m12.get eF) T.cl_Fund T.na_Fund_today rfl (Ze rfl (Zf (m12.get eF) T.cl_Fund T.na_Fund_entries rfl ⟨_,_,rfl,.inl (SqL.of R2.ents),(Ze rfl ⟨_,_,rfl,.inl (SqL.of (m2.get e1)),(Ze rfl (Zf (m12.get eF) T.cl_Fund T.na_Fund_groups rfl ⟨_,_,rfl,.inl (SqL.of R2.grps),(Ze rfl ⟨_,_,rfl,.inl (SqL.of e2),small_list,fun q hq=>?_⟩)⟩))⟩)⟩))))
        rw [List.length_map,List.length_map,List.length_map,List.length_map,R.elen,R.glen,thereB_len,holdB_len]
        exact k.ret (ns:=Vbfuao.numbers [S.today,S.entries.length,(S.entries.filter fun e=>e.there).length,S.groups.length,(S.groups.filter fun g=>g.holds).length]) rfl R2 (Mv.of m12) rfl hq
end
end TB
namespace TB
open PySem PySem.Spec PyProof.Rows L2
open PySem.W (Codec)
section
variable {P:Program} {w:World} {K:PySem.W.Frag} {mg:Str→Option Value} {base:Heap}
def sp_clear_all (T:Txt K mg):Sp:=fun vs H Q _=>∃ (g:Gh) (s:State),vs=[.ref g.F]∧Rep T H g s∧Ans T H g s .clear Q
theorem ok_clear_all (T:Txt K mg):FnOk P w K mg base CX0 2 T.f_clear_all.f T.f_clear_all.fd ["fund"] (sp_clear_all T):=by
  have G_Fund_begin:=ok_Fund_begin (P:=P) (w:=w) (base:=base) T
  refine T.f_clear_all.F.ok sc_clear_all (fun vs H Q E h=>?_) (fun cdv A outer s H vs Q E hr h=>?_)
  · obtain ⟨_,_,rfl,_⟩:=h;rfl
  · obtain ⟨g,S,rfl,R,k⟩:=h
    refine ⟨_,(pss_cons (ps_expr (pe_meth0 (pv 0) T.cl_Fund T.me_Fund_begin G_Fund_begin (hr.mono (by decide)) T.f_Fund_begin.b .nil pass0))
      (pss_one (ps_ret (pe_lst (pa_cons pe_int pa_nil))))),?_⟩
    obtain ⟨dF,eF⟩:=R.fund
    refine (Ze rfl (Zm eF rfl ⟨g.F,dF,Ze rfl ⟨R.tab,eF,.inr ⟨_,_,_,_,rfl⟩,fun H' g' R' e' m o=>⟨small_list,fun p hp=>?_⟩⟩⟩))
    exact k.ret (ns:=[0]) rfl R' ⟨m.mono fun b z=>.inl z,fun b z=>(o b z).imp (fun q=>.inl q) id⟩ e' hp
def sp_tick_days (T:Txt K mg):Sp:=sp_ask1 .tick T
theorem Rep.today {T : Txt K mg} {H : Hp} {g : Gh} {s : State} (R : Rep T H g s) (t : Nat) {dF : Addr} (eF : H g.F = some (.ins T.c_Fund dF (fundF s.today g.A g.E g.G))) :
    Rep T (upd H g.F (.ins T.c_Fund dF (fundF t g.A g.E g.G))) g { s with today:=t }:=by
  have nl:∀ {b:Addr} {xs:List V},H b=some (.lst xs)→b≠g.F:=fun {b xs} h=>ne_of h eF (by intro z;cases z)
  have kp:∀ {b:Addr} {o:HO},b≠g.F→H b=some o→upd H g.F (.ins T.c_Fund dF (fundF t g.A g.E g.G)) b=some o:=fun {b o} n h=>by rw [upd_ne n];exact h
  have mS:Sx (fun b=>b=g.F) H (upd H g.F (.ins T.c_Fund dF (fundF t g.A g.E g.G))):=Sx.put rfl eF
  refine ⟨R.wf.tick t,mS.tab R.tab,⟨dF,upd_same⟩,?_,kp (nl R.ents) R.ents,kp (nl R.grps) R.grps,R.elen,R.ilen,R.glen,fun i e a ig h1 h2 h3=>?_,fun j x a h1 h2=>?_,R.esnd,R.igsnd,R.gsnd,R.EI,R.GI,R.EG⟩
  · obtain ⟨kvs,h1,h2,h3⟩:=R.acc
    refine ⟨kvs,kp (ne_of h1 eF (by intro z;cases z)) h1,h2,fun z=>?_⟩
    have q:=h3 z
    show AccIs T _ _ (accAt s z)
    unfold AccIs at q ⊢
    split at q
    · exact trivial
    · obtain ⟨d',e'⟩:=q;exact ⟨d',kp (ne_first e' eF) e'⟩
    · exact q
  · obtain ⟨⟨d',e1⟩,e2⟩:=R.ent i e a ig h1 h2 h3
    exact ⟨⟨d',kp (ne_first e1 eF) e1⟩,kp (nl e2) e2⟩
  · obtain ⟨d',L,Rr,e1,e2,e3⟩:=R.grp j x a h1 h2
    exact ⟨d',L,Rr,kp (ne_first e1 eF) e1,⟨kp (nl e2.at_) e2.at_,e2.nE,e2.nG,e2.nI⟩,⟨kp (nl e3.at_) e3.at_,e3.nE,e3.nG,e3.nI⟩⟩
theorem ok_tick_days (T:Txt K mg):FnOk P w K mg base CX0 2 T.f_tick_days.f T.f_tick_days.fd ["fund", "n"] (sp_tick_days T):=by
  have G_within:=ok_within (P:=P) (w:=w) (base:=base) T
  refine T.f_tick_days.F.ok sc_tick_days (fun vs H Q E h=>?_) (fun cdv A outer s H vs Q E hr h=>?_)
  · obtain ⟨_,_,_,rfl,_⟩:=h;rfl
  · obtain ⟨g,S,n,rfl,R,k⟩:=h
    refine ⟨_,(pss_cons (ps_if (pt_not (pt_val (pe_call G_within (hr.mono (by decide)) rfl T.m_within T.f_within.kp T.f_within.b .nil pass0 (pa_cons (pv 1) (pa_cons pe_int (pa_cons pe_int pa_nil)))))) (pss_one (ps_ret (pe_lst (pa_cons (pe_gint rfl T.g_OUT_OF_RANGE) pa_nil)))) pss_nil)
      (pss_cons (ps_if (pt_cmpR op_gt (pe_op op_add (pe_fld (pv 0) rfl) (pv 1)) (pe_gint rfl T.g_LAST_DAY) (nomark _)) (pss_one (ps_ret (pe_lst (pa_cons (pe_gint rfl T.g_FULL) pa_nil)))) pss_nil)
      (pss_cons (ps_fld (pv 0) (pe_op op_add (pe_fld (pv 0) rfl) (pv 1)) rfl)
      (pss_one (ps_ret (pe_lst (pa_cons (pe_fld (pv 0) rfl) pa_nil))))))),?_⟩
    obtain ⟨dF,eF⟩:=R.fund
    refine (Ze rfl ⟨n,1,1000,rfl,Ze rfl ?_⟩)
    refine iten (fun hn=>?_) (fun hn=>?_)
    · exact ⟨small_list,fun p hp=>k.ret (ns:=[-1]) (by unfold Vbfuao.step;dsimp only;rw [if_pos hn];rfl) R (Mv.of (Sx.refl _)) rfl hp⟩
    · have hn2:n=(n.toNat:Int):=by
        have hn':=hn
        unfold Vbfuao.within at hn'
        rw [Bool.and_eq_true,decide_eq_true_eq] at hn'
        omega
      refine (Ze rfl (Zf eF T.cl_Fund T.na_Fund_today rfl (Ze rfl (Zo rfl rfl (Zo rfl rfl (Ze rfl ?_))))))
      refine ite3 (fun c=>?_) (fun c=>?_)
      · refine ⟨small_list,fun p hp=>k.ret (ns:=[-3]) ?_ R (Mv.of (Sx.refl _)) rfl hp⟩
        unfold Vbfuao.step;dsimp only
        rw [if_neg (by rw [hn];decide),if_pos (by show 100000 < S.today + n.toNat;omega)];rfl
      · refine (Ze rfl (Zf eF T.cl_Fund T.na_Fund_today rfl (Ze rfl (Zo rfl rfl (Ze rfl ⟨g.F,_,dF,(Ze rfl ⟨eF,T.cl_Fund,T.na_Fund_today,by show 4 < 1000;decide,?_⟩)⟩)))))
        have et:putF "today" (V.int ((S.today:Nat) + n)) (fundF S.today g.A g.E g.G)=fundF (S.today + n.toNat) g.A g.E g.G:=by
          show ([("today",V.int ((S.today:Nat) + n)),_,_,_]:List (Str × V))=_
          rw [hn2];rfl
        rw [et]
        have R1:=R.today (S.today + n.toNat) eF
        have mv:Mv g g H (upd H g.F (.ins T.c_Fund dF (fundF (S.today + n.toNat) g.A g.E g.G))):=⟨Sx.put (.inl rfl) eF,fun b z=>.inl z⟩
        refine (Ze rfl (Zf upd_same T.cl_Fund T.na_Fund_today rfl ⟨small_list,fun p hp=>?_⟩))
        refine k.ret (ns:=[((S.today + n.toNat:Nat):Int)]) ?_ R1 mv rfl hp
        unfold Vbfuao.step;dsimp only
        rw [if_neg (by rw [hn];decide),if_neg (by show ¬ 100000 < S.today + n.toNat;omega)]
def sp_unpair_group (T:Txt K mg):Sp:=sp_ask1 .unpair T
theorem step_unpair_none {s:State} {z:Int} (h:holdAt s z=none):Vbfuao.step s (.unpair z)=(s,[-4]):=by
  unfold Vbfuao.step
  unfold holdAt at h
  by_cases hz:z < 0
  · simp only [hz,if_true];rfl
  · simp only [hz,if_false] at h ⊢
    cases e:s.groups[z.toNat]? with
    | none=>rfl
    | some x =>
      rw [e] at h
      dsimp only at h ⊢
      cases hh:x.holds with
      | true=>rw [hh] at h;cases h
      | false=>rfl
theorem step_unpair_some {s:State} {z:Int} {j:Nat} {x:Vbfuao.Group} (h:holdAt s z=some j) (hx:s.groups[j]? = some x):Vbfuao.step s (.unpair z)=(undo s j x,[((x.left.length + x.right.length:Nat):Int)]):=by
  obtain ⟨hz,y,hy,hh⟩:=holdAt_of h
  rw [hx] at hy;cases hy
  unfold Vbfuao.step
  have : ¬ z < 0:=by omega
  have e:z.toNat=j:=by omega
  simp only [this,if_false,e,hx,hh]
  unfold Vbfuao.members undo
  rw [List.length_append]
  rfl
theorem ok_unpair_group (T:Txt K mg):FnOk P w K mg base CX0 2 T.f_unpair_group.f T.f_unpair_group.fd ["fund", "place"] (sp_unpair_group T):=by
  have G_Fund_undo_group:=ok_Fund_undo_group (P:=P) (w:=w) (base:=base) T
  have G_Fund_group_at:=ok_Fund_group_at (P:=P) (w:=w) (base:=base) T
  refine T.f_unpair_group.F.ok sc_unpair_group (fun vs H Q E h=>?_) (fun cdv A outer s H vs Q E hr h=>?_)
  · obtain ⟨_,_,_,rfl,_⟩:=h;rfl
  · obtain ⟨g,S,z,rfl,R,k⟩:=h
    refine ⟨_,(pss_cons (ps_set (i:=2) sc_unpair_group.nd rfl (Or.inl rfl) (pe_meth (pv 0) T.cl_Fund T.me_Fund_group_at G_Fund_group_at (hr.mono (by decide)) T.f_Fund_group_at.b .nil pass0 (pa_cons (pv 1) pa_nil)))
      (pss_cons (ps_if (pt_cmp (pc_isN (pv 2))) (pss_one (ps_ret (pe_lst (pa_cons (pe_gint rfl T.g_NOT_THERE) pa_nil)))) pss_nil)
      (pss_cons (ps_expr (pe_meth (pv 0) T.cl_Fund T.me_Fund_undo_group G_Fund_undo_group (hr.mono (by decide)) T.f_Fund_undo_group.b .nil pass0 (pa_cons (pv 2) pa_nil)))
      (pss_one (ps_ret (pe_lst (pa_cons (pe_op op_add (pe_callB call_len_seq rfl T.n_len PySem.boot_len (pa_cons (pe_fld (pv 2) rfl) pa_nil)) (pe_callB call_len_seq rfl T.n_len PySem.boot_len (pa_cons (pe_fld (pv 2) rfl) pa_nil))) pa_nil))))))),?_⟩
    obtain ⟨dF,eF⟩:=R.fund
    refine (Ze rfl (Zm eF rfl (Ze rfl ⟨g,S,z,rfl,R,?_⟩)))
    cases e:holdAt S z with
    | none =>
      refine (Ze rfl (Ze rfl (iteT ⟨small_list,fun p hp=>?_⟩)))
      exact k.ret (ns:=[-4]) (step_unpair_none e) R (Mv.of (Sx.refl _)) rfl hp
    | some j =>
      obtain ⟨hz,x,hx,hh⟩:=holdAt_of e
      refine (Ze rfl (Ze rfl (iteF ?_)))
      refine (Ze rfl (Zm eF rfl (Ze rfl ⟨g,S,j,x,rfl,R,hx,hh,fun H1 R1 mv=>?_⟩)))
      have hx1:(undo S j x).groups[j]? = some { x with holds:=false }:=by
        show (S.groups.set j _)[j]? = _
        rw [List.getElem?_set_self (List.getElem?_eq_some_iff.mp hx).1]
      obtain ⟨a,dx,L,R',ha,er,e1,hL,hR⟩:=R1.gat hx1
      refine (Ze rfl ⟨_,_,_,_,_,er,e1,T.cl_Group,T.na_Group_left,rfl,⟨_,_,rfl,.inl (SqL.of hL.at_),(Ze rfl ⟨_,_,_,_,_,er,e1,T.cl_Group,T.na_Group_right,rfl,⟨_,_,rfl,.inl (SqL.of hR.at_),(Zo rfl rfl ⟨small_list,fun p hp=>?_⟩)⟩⟩)⟩⟩)
      rw [len_rfs,len_rfs]
      exact k.ret (step_unpair_some e hx) R1 mv rfl hp
def sp_tell_account (T:Txt K mg):Sp:=fun vs H Q _=>∃ (g:Gh) (s:State) (a b c d:Int),vs=[.ref g.F,.int a,.int b,.int c,.int d]∧Rep T H g s∧Ans T H g s (.account a b c d) Q
theorem within_of {z lo hi:Int} (h:Vbfuao.within z lo hi=true):lo≤z∧z≤hi:=by
  unfold Vbfuao.within at h
  rwa [Bool.and_eq_true,decide_eq_true_eq,decide_eq_true_eq] at h
theorem Rep.setA {T : Txt K mg} {H : Hp} {g : Gh} {s : State} (R : Rep T H g s) {a : Nat} (ha : a ≤ 3) {x : Vbfuao.Account} (h1 : 1 ≤ x.size) (h2 : x.size ≤ 3) {o dx : Addr} (eo : H o = some (.ins T.c_Account dx (accF x))) {kvs : List (Key × V)} (eA : H g.A = some (.dK kvs)) (hk : KeysOk kvs) (hv : ∀ z : Int, AccIs T H (valV kvs (.inl z)) (accAt s z)) :
    Rep T (upd H g.A (.dK (putK kvs (.inl (a:Int)) (.ref o)))) g (TB.setA s a x):=by
  have nl:∀ {b:Addr} {xs:List V},H b=some (.lst xs)→b≠g.A:=fun {b xs} h=>ne_of h eA (by intro z;cases z)
  have ni:∀ {b C d:Addr} {fs:List (Str × V)},H b=some (.ins C d fs)→b≠g.A:=fun {b C d fs} h=>ne_of h eA (by intro z;cases z)
  have kp:∀ {b:Addr} {u:HO},b≠g.A→H b=some u→upd H g.A (.dK (putK kvs (.inl (a:Int)) (.ref o))) b=some u:=fun {b u} n h=>by rw [upd_ne n];exact h
  have mS:Sx (fun b=>b=g.A) H (upd H g.A (.dK (putK kvs (.inl (a:Int)) (.ref o)))):=Sx.put rfl eA
  obtain ⟨dF,eF⟩:=R.fund
  refine ⟨R.wf.setA ha h1 h2,mS.tab R.tab,⟨dF,kp (ni eF) eF⟩,⟨_,upd_same,hk.put _ ?_,fun z=>?_⟩,kp (nl R.ents) R.ents,kp (nl R.grps) R.grps,R.elen,R.ilen,R.glen,fun i e b ig h1 h2 h3=>?_,fun j x b h1 h2=>?_,R.esnd,R.igsnd,R.gsnd,R.EI,R.GI,R.EG⟩
  · match a,ha with
    | 0,_=>simp
    | 1,_=>simp
    | 2,_=>simp
    | 3,_=>simp
  · rw [valV_put]
    unfold accAt
    by_cases hz:z < 0
    · rw [if_pos hz,if_neg (by intro q;cases q;omega)]
      have q:=hv z
      unfold accAt at q
      rw [if_pos hz] at q
      unfold AccIs at q ⊢
      split at q
      · exact trivial
      · rename_i e;cases e
      · exact q
    · rw [if_neg hz,accountAt_setA R.wf ha]
      by_cases e:z.toNat=a
      · rw [if_pos e,if_pos (by rw [← e];congr 1;omega)]
        exact ⟨dx,kp (ni eo) eo⟩
      · rw [if_neg e,if_neg (by intro q;cases q;omega)]
        have q:=hv z
        unfold accAt at q
        rw [if_neg hz] at q
        unfold AccIs at q ⊢
        split at q
        · exact trivial
        · obtain ⟨d',e'⟩:=q;exact ⟨d',kp (ni e') e'⟩
        · exact q
  · obtain ⟨⟨d',e1⟩,e2⟩:=R.ent i e b ig h1 h2 h3
    exact ⟨⟨d',kp (ni e1) e1⟩,kp (nl e2) e2⟩
  · obtain ⟨d',L,Rr,e1,e2,e3⟩:=R.grp j x b h1 h2
    exact ⟨d',L,Rr,kp (ni e1) e1,⟨kp (nl e2.at_) e2.at_,e2.nE,e2.nG,e2.nI⟩,⟨kp (nl e3.at_) e3.at_,e3.nE,e3.nG,e3.nI⟩⟩
theorem step_acc_no {s:State} {a b c d:Int} (h:(Vbfuao.within a 0 3&&(Vbfuao.within b 0 100&&(Vbfuao.within c 0 1000000&&Vbfuao.within d 1 3)))=false):Vbfuao.step s (.account a b c d)=(s,[-1]):=by
  unfold Vbfuao.step;dsimp only;rw [if_pos h];rfl
theorem step_acc {s:State} {a b c d:Int} (h:(Vbfuao.within a 0 3&&(Vbfuao.within b 0 100&&(Vbfuao.within c 0 1000000&&Vbfuao.within d 1 3)))=true):Vbfuao.step s (.account a b c d)=(setA s a.toNat { window:=b.toNat,tol:=c.toNat,size:=d.toNat },[0]):=by
  unfold Vbfuao.step;dsimp only;rw [if_neg (by rw [h];decide)];rfl
theorem ok_tell_account (T:Txt K mg):FnOk P w K mg base CX0 3 T.f_tell_account.f T.f_tell_account.fd ["fund", "a", "window", "tolerance", "size"] (sp_tell_account T):=by
  have G_Account_init:=ok_Account_init (P:=P) (w:=w) (base:=base) T
  have G_within:=ok_within (P:=P) (w:=w) (base:=base) T
  refine T.f_tell_account.F.ok sc_tell_account (fun vs H Q E h=>?_) (fun cdv A outer s H vs Q E hr h=>?_)
  · obtain ⟨_,_,_,_,_,_,rfl,_⟩:=h;rfl
  · obtain ⟨g,S,a,b,c,d,rfl,R,k⟩:=h
    refine ⟨_,(pss_cons (ps_if (pt_not (PW.pt (pw_and (pt_val (pe_call G_within (hr.mono (by decide)) rfl T.m_within T.f_within.kp T.f_within.b .nil pass0 (pa_cons (pv 1) (pa_cons pe_int (pa_cons pe_int pa_nil))))) (pw_and1 (pt_val (pe_call G_within (hr.mono (by decide)) rfl T.m_within T.f_within.kp T.f_within.b .nil pass0 (pa_cons (pv 2) (pa_cons pe_int (pa_cons pe_int pa_nil))))))))) (pss_one (ps_ret (pe_lst (pa_cons (pe_gint rfl T.g_OUT_OF_RANGE) pa_nil)))) pss_nil)
      (pss_cons (ps_if (pt_not (PW.pt (pw_and (pt_val (pe_call G_within (hr.mono (by decide)) rfl T.m_within T.f_within.kp T.f_within.b .nil pass0 (pa_cons (pv 3) (pa_cons pe_int (pa_cons pe_int pa_nil))))) (pw_and1 (pt_val (pe_call G_within (hr.mono (by decide)) rfl T.m_within T.f_within.kp T.f_within.b .nil pass0 (pa_cons (pv 4) (pa_cons pe_int (pa_cons pe_int pa_nil))))))))) (pss_one (ps_ret (pe_lst (pa_cons (pe_gint rfl T.g_OUT_OF_RANGE) pa_nil)))) pss_nil)
      (pss_cons (ps_dput (hu_of hr) (pe_fld (pv 0) rfl) (pv 1) (pe_make T.mk_Account G_Account_init (hr.mono (by decide)) rfl T.mg_Account T.f_Account_init.b .nil pass0 (pa_cons (pv 2) (pa_cons (pv 3) (pa_cons (pv 4) pa_nil)))) rfl)
      (pss_one (ps_ret (pe_lst (pa_cons pe_int pa_nil))))))),?_⟩
    obtain ⟨dF,eF⟩:=R.fund
    have no:(Vbfuao.within a 0 3&&(Vbfuao.within b 0 100&&(Vbfuao.within c 0 1000000&&Vbfuao.within d 1 3)))=false→∀ p,H p=none→Q (.ref p) (upd H p (.lst [.int (-1)])):=fun h p hp=>k.ret (ns:=[-1]) (step_acc_no h) R (Mv.of (Sx.refl _)) rfl hp
    refine (Ze rfl ⟨a,0,3,rfl,Ze rfl ?_⟩)
    refine iteb (fun h1=>?_) (fun h1=>?_)
    rotate_left
    · exact iteT ⟨small_list,no (by rw [h1];rfl)⟩
    refine (Ze rfl ⟨b,0,100,rfl,Ze rfl ?_⟩)
    refine iten (fun h2=>⟨small_list,no (by rw [h1,h2];rfl)⟩) (fun h2=>?_)
    refine (Ze rfl ⟨c,0,1000000,rfl,Ze rfl ?_⟩)
    refine iteb (fun h3=>?_) (fun h3=>iteT ⟨small_list,no (by rw [h1,h2,h3];rfl)⟩)
    refine (Ze rfl ⟨d,1,3,rfl,Ze rfl ?_⟩)
    refine iten (fun h4=>⟨small_list,no (by rw [h1,h2,h3,h4];rfl)⟩) (fun h4=>?_)
    have es:=step_acc (s:=S) (a:=a) (b:=b) (c:=c) (d:=d) (by rw [h1,h2,h3,h4];rfl)
    have w1:=within_of h1
    have w2:=within_of h2
    have w3:=within_of h3
    have w4:=within_of h4
    refine ⟨_,rfl,_,rfl,_,rfl,fun x dx nx ndx nxd=>⟨x,dx,_,_,_,rfl,upd_same,rfl,?_⟩⟩
    rw [upd_upd]
    generalize hH2:upd (upd H dx (.own x)) x (.ins T.c_Account dx [(("window" : Str),V.int b),("tolerance",V.int c),("size",V.int d)])=H2
    have m2:Sm H H2:=by
      rw [← hH2]
      have a1:Sm H (upd H dx (.own x)):=Sx.new ndx
      exact a1.trans (Sx.new (by rw [upd_ne (Ne.symm nxd)];exact nx))
    have eX:H2 x=some (.ins T.c_Account dx (accF { window:=b.toNat,tol:=c.toNat,size:=d.toNat })):=by
      rw [← hH2,upd_same]
      unfold accF
      have e2:((b.toNat:Nat):Int)=b:=by omega
      have e3:((c.toNat:Nat):Int)=c:=by omega
      have e4:((d.toNat:Nat):Int)=d:=by omega
      show _=some (HO.ins T.c_Account dx [(("window" : Str),V.int ((b.toNat:Nat):Int)),("tolerance",V.int ((c.toNat:Nat):Int)),("size",V.int ((d.toNat:Nat):Int))])
      rw [e2,e3,e4]
    have R2:=R.keep m2
    obtain ⟨kvs,eA,hk,hv⟩:=R2.acc
    refine (Ze rfl (Zf (m2.get eF) T.cl_Fund T.na_Fund_accounts rfl (Ze rfl ⟨g.A,Ze rfl ⟨DPut.k (k:=Sum.inl a) eA (sz (Nat.le_trans hk.len (by decide))),?_⟩⟩)))
    have R3:=R2.setA (a:=a.toNat) (by omega) (x:={ window:=b.toNat,tol:=c.toNat,size:=d.toNat }) (by show 1≤d.toNat;omega) (by show d.toNat≤3;omega) eX eA hk hv
    have ea:((a.toNat:Nat):Int)=a:=by omega
    rw [ea] at R3
    refine ⟨small_list,fun p hp=>?_⟩
    exact k.ret (ns:=[0]) es R3 ⟨(Sx.weak m2).trans (Sx.put (.inr (.inl rfl)) eA),fun b z=>.inl z⟩ rfl hp
end
end TB
namespace TB
open PySem PySem.Spec PyProof.Rows L2
open PySem.W (Codec)
section
variable {P:Program} {w:World} {K:PySem.W.Frag} {mg:Str→Option Value} {base:Heap}
def sp_write_entry (T:Txt K mg):Sp:=fun vs H Q _=>∃ (g:Gh) (s:State) (b a d m r:Int),vs=[.ref g.F,.int b,.int a,.int d,.int m,.int r]∧Rep T H g s∧Ans T H g s (.entry b a d m r) Q
def entOk (b d m r:Int):Bool:=Vbfuao.within b 0 2&&(Vbfuao.within d 0 (Vbfuao.LASTDAY:Int)&&(Vbfuao.within m (-(Vbfuao.BIG:Int)) (Vbfuao.BIG:Int)&&(m != 0&&Vbfuao.within r 0 1000000)))
theorem step_ent0 {s:State} {b a d m r:Int} (h:accAt s a=none):Vbfuao.step s (.entry b a d m r)=(s,[-2]):=by
  unfold Vbfuao.step;dsimp only;rw [wa_none h]
theorem step_ent1 {s:State} {b a d m r:Int} {x:Vbfuao.Account} (h:accAt s a=some x) (ho:entOk b d m r=false):Vbfuao.step s (.entry b a d m r)=(s,[-1]):=by
  unfold Vbfuao.step;dsimp only;rw [(wa_some h _).1]
  unfold entOk at ho
  rw [if_pos ho];rfl
theorem step_ent2 {s:State} {b a d m r:Int} {x:Vbfuao.Account} (h:accAt s a=some x) (ho:entOk b d m r=true) (hl:200≤s.entries.length):Vbfuao.step s (.entry b a d m r)=(s,[-3]):=by
  unfold Vbfuao.step;dsimp only;rw [(wa_some h _).1]
  unfold entOk at ho
  rw [if_neg (by rw [ho];decide),if_pos (by show 200≤_;exact hl)];rfl
theorem step_ent3 {s:State} {b a d m r:Int} {x:Vbfuao.Account} (h:accAt s a=some x) (ho:entOk b d m r=true) (hl:s.entries.length < 200):Vbfuao.step s (.entry b a d m r)=(addE s { book:=b.toNat,account:=a.toNat,day:=d.toNat,amount:=m,ref:=r.toNat,there:=true },[(s.entries.length:Int)]):=by
  unfold Vbfuao.step;dsimp only;rw [(wa_some h _).1]
  unfold entOk at ho
  rw [if_neg (by rw [ho];decide),if_neg (by show ¬ 200≤s.entries.length;omega)];rfl
theorem ok_write_entry (T:Txt K mg):FnOk P w K mg base CX0 4 T.f_write_entry.f T.f_write_entry.fd ["fund", "book", "a", "day", "amount", "reference"] (sp_write_entry T):=by
  have G_Fund_add_entry:=ok_Fund_add_entry (P:=P) (w:=w) (base:=base) T
  have G_Fund_has_room_for_entry:=ok_Fund_has_room_for_entry (P:=P) (w:=w) (base:=base) T
  have G_within:=ok_within (P:=P) (w:=w) (base:=base) T
  refine T.f_write_entry.F.ok sc_write_entry (fun vs H Q E h=>?_) (fun cdv A outer s H vs Q E hr h=>?_)
  · obtain ⟨_,_,_,_,_,_,_,rfl,_⟩:=h;rfl
  · obtain ⟨g,S,b,a,d,m,r,rfl,R,k⟩:=h
    refine ⟨_,(pss_cons (ps_if (pt_cmp (pc_dnotin (hu_of hr) (pv 2) (pe_fld (pv 0) rfl))) (pss_one (ps_ret (pe_lst (pa_cons (pe_gint rfl T.g_NO_ACCOUNT) pa_nil)))) pss_nil)
      (pss_cons (ps_if (pt_not (PW.pt (pw_and (pt_val (pe_call G_within (hr.mono (by decide)) rfl T.m_within T.f_within.kp T.f_within.b .nil pass0 (pa_cons (pv 1) (pa_cons pe_int (pa_cons pe_int pa_nil))))) (pw_and (pt_val (pe_call G_within (hr.mono (by decide)) rfl T.m_within T.f_within.kp T.f_within.b .nil pass0 (pa_cons (pv 3) (pa_cons pe_int (pa_cons (pe_gint rfl T.g_LAST_DAY) pa_nil))))) (pw_and1 (pt_val (pe_call G_within (hr.mono (by decide)) rfl T.m_within T.f_within.kp T.f_within.b .nil pass0 (pa_cons (pv 5) (pa_cons pe_int (pa_cons pe_int pa_nil)))))))))) (pss_one (ps_ret (pe_lst (pa_cons (pe_gint rfl T.g_OUT_OF_RANGE) pa_nil)))) pss_nil)
      (pss_cons (ps_if (PW.pt (pw_or (pt_cmpR op_eq (pv 4) pe_int (nomark _)) (pw_or1 (pt_not (pt_val (pe_call G_within (hr.mono (by decide)) rfl T.m_within T.f_within.kp T.f_within.b .nil pass0 (pa_cons (pv 4) (pa_cons (pe_un un_neg (pe_gint rfl T.g_MOST_AMOUNT)) (pa_cons (pe_gint rfl T.g_MOST_AMOUNT) pa_nil))))))))) (pss_one (ps_ret (pe_lst (pa_cons (pe_gint rfl T.g_OUT_OF_RANGE) pa_nil)))) pss_nil)
      (pss_cons (ps_if (pt_not (pt_val (pe_meth0 (pv 0) T.cl_Fund T.me_Fund_has_room_for_entry G_Fund_has_room_for_entry (hr.mono (by decide)) T.f_Fund_has_room_for_entry.b .nil pass0))) (pss_one (ps_ret (pe_lst (pa_cons (pe_gint rfl T.g_FULL) pa_nil)))) pss_nil)
      (pss_one (ps_ret (pe_lst (pa_cons (pe_fld (pe_meth (pv 0) T.cl_Fund T.me_Fund_add_entry G_Fund_add_entry (hr.mono (by decide)) T.f_Fund_add_entry.b .nil pass0 (pa_cons (pv 1) (pa_cons (pv 2) (pa_cons (pv 3) (pa_cons (pv 4) (pa_cons (pv 5) pa_nil)))))) rfl) pa_nil)))))))),?_⟩
    obtain ⟨dF,eF⟩:=R.fund
    obtain ⟨kvs,eA,_,hv⟩:=R.acc
    have hs:=acc_some (hv a)
    refine (Ze rfl (Ze rfl (Zf eF T.cl_Fund T.na_Fund_accounts rfl ⟨g.A,Ze rfl ⟨DGet.k (k:=Sum.inl a) eA,Ze rfl ?_⟩⟩)))
    rw [hs]
    refine iten (fun h1=>?_) (fun h1=>?_)
    · exact ⟨small_list,fun p hp=>k.ret (ns:=[-2]) (step_ent0 (by cases e:accAt S a with | none=>rfl | some x=>rw [e] at h1;cases h1)) R (Mv.of (Sx.refl _)) rfl hp⟩
    obtain ⟨x,hx⟩:=Option.isSome_iff_exists.mp h1
    have no:entOk b d m r=false→∀ p,H p=none→Q (.ref p) (upd H p (.lst [.int (-1)])):=fun h p hp=>k.ret (ns:=[-1]) (step_ent1 hx h) R (Mv.of (Sx.refl _)) rfl hp
    unfold entOk at no
    refine (Ze rfl ⟨b,0,2,rfl,Ze rfl ?_⟩)
    refine iteb (fun c1=>?_) (fun c1=>iteT ⟨small_list,no (by rw [c1];rfl)⟩)
    refine (Ze rfl ⟨d,0,100000,rfl,Ze rfl ?_⟩)
    refine iteb (fun c2=>?_) (fun c2=>iteT ⟨small_list,no (by rw [c1,show Vbfuao.within d 0 (Vbfuao.LASTDAY:Int)=false from c2];rfl)⟩)
    refine (Ze rfl ⟨r,0,1000000,rfl,Ze rfl ?_⟩)
    refine iten (fun c3=>⟨small_list,no (by rw [c3,Bool.and_false,Bool.and_false,Bool.and_false,Bool.and_false])⟩) (fun c3=>?_)
    refine (Ze rfl ⟨rfl,Ze rfl ?_⟩)
    have dm:decide (V.int m=V.int 0)=decide (m=0):=by simp
    rw [dm]
    refine ite3 (fun c4=>iteT ⟨small_list,no (by rw [c4];simp)⟩) (fun c4=>?_)
    refine (Ze rfl (Ze rfl ⟨m,-1000000000000,1000000000000,rfl,Ze rfl ?_⟩))
    refine iten (fun c5=>⟨small_list,no (by rw [show Vbfuao.within m (-(Vbfuao.BIG:Int)) (Vbfuao.BIG:Int)=false from c5];simp)⟩) (fun c5=>?_)
    have ho:entOk b d m r=true:=by
      unfold entOk
      rw [c1,show Vbfuao.within d 0 (Vbfuao.LASTDAY:Int)=true from c2,show Vbfuao.within m (-(Vbfuao.BIG:Int)) (Vbfuao.BIG:Int)=true from c5,c3]
      simpa using c4
    refine (Ze rfl (Zm eF rfl ⟨g,S,rfl,R,Ze rfl ?_⟩))
    refine ite3n (fun c6=>?_) (fun c6=>?_)
    · exact ⟨small_list,fun p hp=>k.ret (ns:=[-3]) (step_ent2 hx ho (by omega)) R (Mv.of (Sx.refl _)) rfl hp⟩
    have es:=step_ent3 (b:=b) (d:=d) (m:=m) (r:=r) hx ho c6
    obtain ⟨_,ha0,ea,eacc⟩:=wa_some hx (fun _ _=>(S,[]))
    have w1:=within_of c1
    have w2:=within_of c2
    have w3:=within_of c3
    have eb:b=((b.toNat:Nat):Int):=by omega
    have ed:d=((d.toNat:Nat):Int):=by omega
    have er:r=((r.toNat:Nat):Int):=by omega
    have hb2:b.toNat≤2:=by omega
    generalize hbn:b.toNat=bn at *
    generalize hdn:d.toNat=dn at *
    generalize hrn:r.toNat=rn at *
    generalize han:a.toNat=an at *
    rw [eb,ed,er,ea]
    refine (Ze rfl (Zm eF rfl (Ze rfl (Ze rfl (Ze rfl (Ze rfl (Ze rfl ⟨g,S,{ book:=bn,account:=an,day:=dn,amount:=m,ref:=rn,there:=true },rfl,R,rfl,hb2,⟨x,eacc⟩,c6,fun H1 g1 R1 mv eF1 hra=>?_⟩)))))))
    have hn:S.entries.length < (addE S { book:=bn,account:=an,day:=dn,amount:=m,ref:=rn,there:=true }).entries.length:=by
      show _ < (S.entries++[_]).length
      rw [List.length_append,List.length_singleton];omega
    obtain ⟨dx,ig,e1,_⟩:=R1.at hn
    refine (Zf e1 T.cl_Entry T.na_Entry_place rfl ⟨small_list,fun p hp=>?_⟩)
    exact k.ret es R1 mv eF1 hp
def sp_take_entry (T:Txt K mg):Sp:=sp_ask1 .take T
theorem Rep.take {T : Txt K mg} {H : Hp} {g : Gh} {s : State} (R : Rep T H g s) {k : Nat} (hk : k < s.entries.length) (hf : ∀ p ≤ 2, Vbfuao.groupOf s p k = none) {dx ig : Addr} (e : H (g.ra k) = some (.ins T.c_Entry dx (entF k (Vbfuao.entryAt s k) ig))) (hi : g.igs[k]? = some ig) (hr : g.es[k]? = some (g.ra k)) :
    Rep T (upd H (g.ra k) (.ins T.c_Entry dx (entF k { Vbfuao.entryAt s k with there:=false } ig))) g (takeE s k):=by
  have nl:∀ {b:Addr} {xs:List V},H b=some (.lst xs)→b≠g.ra k:=fun {b xs} h=>ne_of h e (by intro z;cases z)
  have kp:∀ {b:Addr} {u:HO},b≠g.ra k→H b=some u→upd H (g.ra k) (.ins T.c_Entry dx (entF k { Vbfuao.entryAt s k with there:=false } ig)) b=some u:=fun {b u} n h=>by rw [upd_ne n];exact h
  have mS:Sx (fun b=>b=g.ra k) H (upd H (g.ra k) (.ins T.c_Entry dx (entF k { Vbfuao.entryAt s k with there:=false } ig))):=Sx.put rfl e
  obtain ⟨dF,eF⟩:=R.fund
  refine ⟨R.wf.takeE hk hf,mS.tab R.tab,⟨dF,kp (ne_first eF e) eF⟩,?_,kp (nl R.ents) R.ents,kp (nl R.grps) R.grps,?_,?_,R.glen,fun i e' a ig' h1 h2 h3=>?_,fun j x b h1 h2=>?_,R.esnd,R.igsnd,R.gsnd,R.EI,R.GI,R.EG⟩
  · obtain ⟨kvs,h1,h2,h3⟩:=R.acc
    refine ⟨kvs,kp (ne_of h1 e (by intro z;cases z)) h1,h2,fun z=>?_⟩
    have q:=h3 z
    show AccIs T _ _ (accAt s z)
    unfold AccIs at q ⊢
    split at q
    · exact trivial
    · obtain ⟨d',e'⟩:=q;exact ⟨d',kp (ne_first e' e) e'⟩
    · exact q
  · show g.es.length=(s.entries.set k _).length
    rw [List.length_set];exact R.elen
  · show g.igs.length=(s.entries.set k _).length
    rw [List.length_set];exact R.ilen
  · rcases take_get hk h1 with ⟨rfl,rfl⟩ | ⟨ne,h1'⟩
    · rw [hr] at h2;cases h2
      rw [hi] at h3;cases h3
      obtain ⟨_,ig2,_,e2,e3,_⟩:=R.at hk
      rw [hi] at e3;cases e3
      exact ⟨⟨dx,upd_same⟩,kp (nl e2) e2⟩
    · obtain ⟨⟨d',e1⟩,e2⟩:=R.ent i e' a ig' h1' h2 h3
      exact ⟨⟨d',kp (fun q=>ne (nd_ix R.esnd (by rw [← q];exact h2) hr)) e1⟩,kp (nl e2) e2⟩
  · obtain ⟨d',L,Rr,e1,e2,e3⟩:=R.grp j x b h1 h2
    exact ⟨d',L,Rr,kp (ne_first e1 e) e1,⟨kp (nl e2.at_) e2.at_,e2.nE,e2.nG,e2.nI⟩,⟨kp (nl e3.at_) e3.at_,e3.nE,e3.nG,e3.nI⟩⟩
theorem step_take0 {s:State} {z:Int} (h:Vbfuao.thereAt s z=none):Vbfuao.step s (.take z)=(s,[-4]):=by
  unfold Vbfuao.step;dsimp only;rw [h];rfl
theorem step_take1 {s:State} {z:Int} {k:Nat} (h:Vbfuao.thereAt s z=some k) (hg:((List.range 3).all fun p=>(Vbfuao.groupOf s p k).isNone)=false):Vbfuao.step s (.take z)=(s,[-5]):=by
  unfold Vbfuao.step;dsimp only;rw [h];dsimp only
  rw [if_pos];rfl
  rw [List.any_eq_not_all_not]
  simp only [Option.not_isSome]
  rw [hg];rfl
theorem step_take2 {s:State} {z:Int} {k:Nat} (h:Vbfuao.thereAt s z=some k) (hg:((List.range 3).all fun p=>(Vbfuao.groupOf s p k).isNone)=true):Vbfuao.step s (.take z)=(takeE s k,[0]):=by
  unfold Vbfuao.step;dsimp only;rw [h];dsimp only
  rw [if_neg];rfl
  rw [List.any_eq_not_all_not]
  simp only [Option.not_isSome]
  rw [hg];decide
theorem ok_take_entry (T:Txt K mg):FnOk P w K mg base CX0 2 T.f_take_entry.f T.f_take_entry.fd ["fund", "place"] (sp_take_entry T):=by
  have G_Entry_is_open:=ok_Entry_is_open (P:=P) (w:=w) (base:=base) T
  have G_Fund_entry_at:=ok_Fund_entry_at (P:=P) (w:=w) (base:=base) T
  refine T.f_take_entry.F.ok sc_take_entry (fun vs H Q E h=>?_) (fun cdv A outer s H vs Q E hr h=>?_)
  · obtain ⟨_,_,_,rfl,_⟩:=h;rfl
  · obtain ⟨g,S,z,rfl,R,k⟩:=h
    refine ⟨_,(pss_cons (ps_set (i:=2) sc_take_entry.nd rfl (by first | exact Or.inl rfl | exact Or.inr rfl) (pe_meth (pv 0) T.cl_Fund T.me_Fund_entry_at G_Fund_entry_at (hr.mono (by decide)) T.f_Fund_entry_at.b .nil pass0 (pa_cons (pv 1) pa_nil)))
      (pss_cons (ps_if (pt_cmp (pc_isN (pv 2))) (pss_one (ps_ret (pe_lst (pa_cons (pe_gint rfl T.g_NOT_THERE) pa_nil)))) pss_nil)
      (pss_cons (ps_if (pt_not (pt_val (pe_callB (cr_all rfl) rfl T.n_all boot_all (pa_cons (pe_lc rfl sc_take_entry.nd (pi_range1 rfl T.n_range (pa_cons (pe_callB call_len_seq rfl T.n_len PySem.boot_len (pa_cons (pe_gref rfl T.g_PAIR_BOOKS) pa_nil)) pa_nil)) (blkOk_by (own:=[("pair",3)]) (by kernel_rfl)) (fun _ _ _ _ _=>pg_name (i:=3) sc_take_entry.nd rfl (Or.inl rfl)) (fun _ _ _ _ _=>pts_nil) (fun _ _ _ _ _=>(pe_meth (pv 2) T.cl_Entry T.me_Entry_is_open G_Entry_is_open (hr.mono (by decide)) T.f_Entry_is_open.b .nil pass0 (pa_cons (pv 3) pa_nil)))) pa_nil)))) (pss_one (ps_ret (pe_lst (pa_cons (pe_gint rfl T.g_NOT_FREE) pa_nil)))) pss_nil)
      (pss_cons (ps_fld (pv 2) pe_bl rfl)
      (pss_one (ps_ret (pe_lst (pa_cons pe_int pa_nil)))))))),?_⟩
    obtain ⟨dF,eF⟩:=R.fund
    refine (Ze rfl (Zm eF rfl (Ze rfl ⟨g,S,z,rfl,R,?_⟩)))
    cases e:Vbfuao.thereAt S z with
    | none =>
      refine (Ze rfl (Ze rfl (iteT ⟨small_list,fun p hp=>?_⟩)))
      exact k.ret (ns:=[-4]) (step_take0 e) R (Mv.of (Sx.refl _)) rfl hp
    | some i =>
      obtain ⟨hz,hi,hth⟩:=thereAt_of e
      obtain ⟨dx,ig,e1,e2,e3,e4⟩:=R.at hi
      refine (Ze rfl (Ze rfl (iteF ?_)))
      refine ⟨_,_,rfl,.inr (T.pb H),3,rfl,by decide,by decide,fun D hD=>lc_range (n:=3) (Pv:=fun j H'=>Sm H H'∧H' D=some (.lst (((List.range j).map fun p=>opB S p i).map V.bl))) ⟨Sx.new hD,by rw [upd_same];rfl⟩ ?_ ?_⟩
      · rintro j H' hj ⟨m,eD⟩
        have e1':=m.get e1
        refine ⟨rfl,yesT (Ze rfl (Zm e1' rfl (Ze rfl ⟨g,S,i,j,?_,R.keep m,hi,by omega,?_⟩)))⟩
        · show [g.rf i,V.int (0 + (j:Int))]=[g.rf i,V.int (j:Int)]
          rw [Int.zero_add]
        · refine ⟨_,eD,sz (by rw [List.length_map,List.length_map,List.length_range];omega),m.put_new hD eD,?_⟩
          rw [upd_same,List.range_succ,List.map_append,List.map_append];rfl
      · rintro H' ⟨m,eD⟩
        refine ⟨D,Ze rfl ⟨SqL.of eD,Ze rfl ?_⟩⟩
        have eall:(((List.range 3).map fun p=>opB S p i).all id)=((List.range 3).all fun p=>(Vbfuao.groupOf S p i).isNone):=by
          rw [List.all_map]
          refine congrArg (fun f=>(List.range 3).all f) (funext fun p=>?_)
          show opB S p i=_
          unfold opB
          rw [hth,Bool.true_and]
        rw [eall]
        have R':=R.keep m
        refine iten (fun c=>?_) (fun c=>?_)
        · exact ⟨small_list,fun p hp=>k.ret (ns:=[-5]) (step_take1 e c) R' (Mv.of m) rfl hp⟩
        · have hf:∀ p≤2,Vbfuao.groupOf S p i=none:=fun p hp=>by
            have:=List.all_eq_true.mp c p (List.mem_range.mpr (by omega))
            exact Option.isNone_iff_eq_none.mp this
          refine (Ze rfl ⟨_,_,dx,(Ze rfl ⟨m.get e1,T.cl_Entry,T.na_Entry_there,by show 8 < 1000;decide,?_⟩)⟩)
          have et:putF "there" (V.bl false) (entF i (Vbfuao.entryAt S i) ig)=entF i { Vbfuao.entryAt S i with there:=false } ig:=rfl
          rw [et]
          have R2:=R'.take hi hf (m.get e1) e3 e4
          refine ⟨small_list,fun p hp=>?_⟩
          exact k.ret (ns:=[0]) (step_take2 e c) R2 ⟨(Sx.weak m).trans (Sx.put (.inr (.inr (.inr (.inr (.inl (List.mem_of_getElem? e4)))))) (m.get e1)),fun b z=>.inl z⟩ rfl hp
end
end TB
namespace TB
open PySem PySem.Spec PyProof.Rows L2
open PySem.W (Codec)
section
variable {P:Program} {w:World} {K:PySem.W.Frag} {mg:Str→Option Value} {base:Heap}
theorem in2 (b l r:Nat):inV (.int (b:Nat)) [.int (l:Nat),.int (r:Nat)]=(b == l || b == r):=by
  unfold inV
  rw [List.any_cons,List.any_cons,List.any_nil,Bool.or_false]
  have e:∀ x:Nat,eqV (.int (x:Nat)) (.int (b:Nat))=(b == x):=fun x=>by
    show (((x:Nat):Int) == ((b:Nat):Int))=_
    rw [Bool.eq_iff_iff];simp;omega
  rw [e,e]
def sp_mirror_entry (T:Txt K mg):Sp:=sp_ask2 .mirror T
theorem step_mir1 {s:State} {b z:Int} (h:Vbfuao.within b 0 2=false):Vbfuao.step s (.mirror b z)=(s,[-1]):=by
  unfold Vbfuao.step;dsimp only;rw [if_pos h];rfl
theorem step_mir2 {s:State} {b z:Int} (h:Vbfuao.within b 0 2=true) (ht:Vbfuao.thereAt s z=none):Vbfuao.step s (.mirror b z)=(s,[-4]):=by
  unfold Vbfuao.step;dsimp only;rw [if_neg (by rw [h];decide),ht];rfl
def mirNo (s:State) (p k:Nat):Prop:=((Vbfuao.entryAt s k).book != Vbfuao.leftBook p&&(Vbfuao.entryAt s k).book != Vbfuao.rightBook p)=true∨(Vbfuao.groupOf s p k).isSome=true
theorem step_mir3 {s:State} {b z:Int} {k:Nat} (h:Vbfuao.within b 0 2=true) (ht:Vbfuao.thereAt s z=some k) (hn:mirNo s b.toNat k):Vbfuao.step s (.mirror b z)=(s,[-5]):=by
  unfold Vbfuao.step;dsimp only;rw [if_neg (by rw [h];decide),ht];dsimp only
  unfold mirNo at hn
  rw [if_pos hn];rfl
theorem step_mir4 {s:State} {b z:Int} {k:Nat} (h:Vbfuao.within b 0 2=true) (ht:Vbfuao.thereAt s z=some k) (hn : ¬ mirNo s b.toNat k) (hl:200≤s.entries.length∨300≤s.groups.length):Vbfuao.step s (.mirror b z)=(s,[-3]):=by
  unfold Vbfuao.step;dsimp only;rw [if_neg (by rw [h];decide),ht];dsimp only
  unfold mirNo at hn
  rw [if_neg hn,if_pos (show Vbfuao.MOSTENTRIES≤s.entries.length∨Vbfuao.MOSTGROUPS≤s.groups.length from hl)];rfl
def imgE (s:State) (p k:Nat):Vbfuao.Entry:={ Vbfuao.entryAt s k with book:=if (Vbfuao.entryAt s k).book == Vbfuao.leftBook p then Vbfuao.rightBook p else Vbfuao.leftBook p }
def imgG (s:State) (p k:Nat):Vbfuao.Group:={ pair:=p,account:=(Vbfuao.entryAt s k).account,left:=[if (Vbfuao.entryAt s k).book == Vbfuao.leftBook p then k else s.entries.length],right:=[if (Vbfuao.entryAt s k).book == Vbfuao.leftBook p then s.entries.length else k],holds:=true }
theorem step_mir5 {s : State} {b z : Int} {k : Nat} (h : Vbfuao.within b 0 2 = true) (ht : Vbfuao.thereAt s z = some k) (hn : ¬ mirNo s b.toNat k) (hl : ¬ (200 ≤ s.entries.length ∨ 300 ≤ s.groups.length)) :
    Vbfuao.step s (.mirror b z)=(addG (addE s (imgE s b.toNat k)) (imgG s b.toNat k),[(s.entries.length:Int),(s.groups.length:Int)]):=by
  unfold Vbfuao.step;dsimp only;rw [if_neg (by rw [h];decide),ht];dsimp only
  unfold mirNo at hn
  rw [if_neg hn,if_neg (show ¬ (Vbfuao.MOSTENTRIES≤s.entries.length∨Vbfuao.MOSTGROUPS≤s.groups.length) from hl)]
  rfl
theorem rfs_one {g g1:Gh} {k:Nat} (h:g1.ra k=g.ra k):[g.rf k]=g1.rfs [k]:=by
  unfold Gh.rfs Gh.rf
  rw [List.map_singleton,h]
theorem ok_mirror_entry (T:Txt K mg):FnOk P w K mg base CX0 4 T.f_mirror_entry.f T.f_mirror_entry.fd ["fund", "p", "place"] (sp_mirror_entry T):=by
  have G_Fund_add_group:=ok_Fund_add_group (P:=P) (w:=w) (base:=base) T
  have G_Fund_add_entry:=ok_Fund_add_entry (P:=P) (w:=w) (base:=base) T
  have G_Fund_has_room_for_groups:=ok_Fund_has_room_for_groups (P:=P) (w:=w) (base:=base) T
  have G_Fund_has_room_for_entry:=ok_Fund_has_room_for_entry (P:=P) (w:=w) (base:=base) T
  have G_Entry_is_open:=ok_Entry_is_open (P:=P) (w:=w) (base:=base) T
  have G_Fund_entry_at:=ok_Fund_entry_at (P:=P) (w:=w) (base:=base) T
  have G_within:=ok_within (P:=P) (w:=w) (base:=base) T
  refine T.f_mirror_entry.F.ok sc_mirror_entry (fun vs H Q E h=>?_) (fun cdv A outer s H vs Q E hr h=>?_)
  · obtain ⟨_,_,_,_,rfl,_⟩:=h;rfl
  · obtain ⟨g,S,b,z,rfl,R,k⟩:=h
    refine ⟨_,(pss_cons (ps_if (pt_not (pt_val (pe_call G_within (hr.mono (by decide)) rfl T.m_within T.f_within.kp T.f_within.b .nil pass0 (pa_cons (pv 1) (pa_cons pe_int (pa_cons pe_int pa_nil)))))) (pss_one (ps_ret (pe_lst (pa_cons (pe_gint rfl T.g_OUT_OF_RANGE) pa_nil)))) pss_nil)
      (pss_cons (ps_set (i:=3) sc_mirror_entry.nd rfl (Or.inl rfl) (pe_meth (pv 0) T.cl_Fund T.me_Fund_entry_at G_Fund_entry_at (hr.mono (by decide)) T.f_Fund_entry_at.b .nil pass0 (pa_cons (pv 2) pa_nil)))
      (pss_cons (ps_if (pt_cmp (pc_isN (pv 3))) (pss_one (ps_ret (pe_lst (pa_cons (pe_gint rfl T.g_NOT_THERE) pa_nil)))) pss_nil)
      (pss_cons (ps_if (PW.pt (pw_or (pt_cmpR op_notIn_seq (pe_fld (pv 3) rfl) (pe_ix ix_tup (pe_gref rfl T.g_PAIR_BOOKS) (pv 1) (fun _ _=>rfl)) rfl) (pw_or1 (pt_not (pt_val (pe_meth (pv 3) T.cl_Entry T.me_Entry_is_open G_Entry_is_open (hr.mono (by decide)) T.f_Entry_is_open.b .nil pass0 (pa_cons (pv 1) pa_nil))))))) (pss_one (ps_ret (pe_lst (pa_cons (pe_gint rfl T.g_NOT_FREE) pa_nil)))) pss_nil)
      (pss_cons (ps_if (PW.pt (pw_or (pt_not (pt_val (pe_meth0 (pv 0) T.cl_Fund T.me_Fund_has_room_for_entry G_Fund_has_room_for_entry (hr.mono (by decide)) T.f_Fund_has_room_for_entry.b .nil pass0))) (pw_or1 (pt_not (pt_val (pe_meth (pv 0) T.cl_Fund T.me_Fund_has_room_for_groups G_Fund_has_room_for_groups (hr.mono (by decide)) T.f_Fund_has_room_for_groups.b .nil pass0 (pa_cons pe_int pa_nil))))))) (pss_one (ps_ret (pe_lst (pa_cons (pe_gint rfl T.g_FULL) pa_nil)))) pss_nil)
      (pss_cons (ps_set (i:=4) sc_mirror_entry.nd rfl (Or.inl rfl) (pe_cmpR op_eq (pe_fld (pv 3) rfl) (pe_ix ix_tup (pe_ix ix_tup (pe_gref rfl T.g_PAIR_BOOKS) (pv 1) (fun _ _=>rfl)) pe_int (fun _ _=>rfl)) (nomark _)))
      (pss_cons (ps_set (i:=5) sc_mirror_entry.nd rfl (Or.inl rfl) (pe_ifExp (pt_val (pv 4)) (pe_ix ix_tup (pe_ix ix_tup (pe_gref rfl T.g_PAIR_BOOKS) (pv 1) (fun _ _=>rfl)) pe_int (fun _ _=>rfl)) (pe_ix ix_tup (pe_ix ix_tup (pe_gref rfl T.g_PAIR_BOOKS) (pv 1) (fun _ _=>rfl)) pe_int (fun _ _=>rfl))))
      (pss_cons (ps_set (i:=6) sc_mirror_entry.nd rfl (Or.inl rfl) (pe_meth (pv 0) T.cl_Fund T.me_Fund_add_entry G_Fund_add_entry (hr.mono (by decide)) T.f_Fund_add_entry.b .nil pass0 (pa_cons (pv 5) (pa_cons (pe_fld (pv 3) rfl) (pa_cons (pe_fld (pv 3) rfl) (pa_cons (pe_fld (pv 3) rfl) (pa_cons (pe_fld (pv 3) rfl) pa_nil)))))))
      (pss_cons (ps_if (pt_val (pv 4)) (pss_one (ps_ret (pe_lst (pa_cons (pe_fld (pv 6) rfl) (pa_cons (pe_meth (pv 0) T.cl_Fund T.me_Fund_add_group G_Fund_add_group (hr.mono (by decide)) T.f_Fund_add_group.b .nil pass0 (pa_cons (pv 1) (pa_cons (pe_lst (pa_cons (pv 3) pa_nil)) (pa_cons (pe_lst (pa_cons (pv 6) pa_nil)) pa_nil)))) pa_nil))))) pss_nil)
      (pss_one (ps_ret (pe_lst (pa_cons (pe_fld (pv 6) rfl) (pa_cons (pe_meth (pv 0) T.cl_Fund T.me_Fund_add_group G_Fund_add_group (hr.mono (by decide)) T.f_Fund_add_group.b .nil pass0 (pa_cons (pv 1) (pa_cons (pe_lst (pa_cons (pv 6) pa_nil)) (pa_cons (pe_lst (pa_cons (pv 3) pa_nil)) pa_nil)))) pa_nil)))))))))))))),?_⟩
    obtain ⟨dF,eF⟩:=R.fund
    refine (Ze rfl ⟨b,0,2,rfl,Ze rfl ?_⟩)
    refine iten (fun c1=>⟨small_list,fun p hp=>k.ret (ns:=[-1]) (step_mir1 c1) R (Mv.of (Sx.refl _)) rfl hp⟩) (fun c1=>?_)
    refine (Ze rfl (Zm eF rfl (Ze rfl ⟨g,S,z,rfl,R,?_⟩)))
    cases e:Vbfuao.thereAt S z with
    | none =>
      refine (Ze rfl (Ze rfl (iteT ⟨small_list,fun p hp=>?_⟩)))
      exact k.ret (ns:=[-4]) (step_mir2 c1 e) R (Mv.of (Sx.refl _)) rfl hp
    | some i =>
      obtain ⟨hz,hi,hth⟩:=thereAt_of e
      obtain ⟨dx,ig,e1,e2,e3,e4⟩:=R.at hi
      obtain ⟨hp,eb⟩:=within_nat c1
      refine (Ze rfl (Ze rfl (iteF ?_)))
      have es3:=step_mir3 (b:=b) c1 e
      have es4:=step_mir4 (b:=b) c1 e
      have es5:=step_mir5 (b:=b) c1 e
      have k':Ans T H g S (.mirror b z) Q:=k
      generalize hbn:b.toNat=p at *
      obtain ⟨pa,q1,q2⟩:=pb_at T H hp
      have no5:mirNo S p i→∀ q,H q=none→Q (.ref q) (upd H q (.lst [.int (-5)])):=fun h q hq=>k'.ret (ns:=[-5]) (es3 h) R (Mv.of (Sx.refl _)) rfl hq
      have no3 : ¬ mirNo S p i→(200≤S.entries.length∨300≤S.groups.length)→∀ q,H q=none→Q (.ref q) (upd H q (.lst [.int (-3)])):=fun h1 h2 q hq=>k'.ret (ns:=[-3]) (es4 h1 h2) R (Mv.of (Sx.refl _)) rfl hq
      refine (Ze rfl (Zf e1 T.cl_Entry T.na_Entry_book rfl (Ze rfl ⟨_,_,_,_,rfl,(by rw [eb]),T.pb H,q1,⟨_,_,rfl,.inr q2,rfl,rfl,(Ze rfl ?_)⟩⟩)))
      show if (!inV _ _)=true then _ else _
      rw [in2]
      refine iten (fun c2=>?_) (fun c2=>?_)
      · refine iteT ⟨small_list,no5 (.inl ?_)⟩
        rw [Bool.or_eq_false_iff] at c2
        rw [Bool.and_eq_true,bne,bne,c2.1,c2.2]
        exact ⟨rfl,rfl⟩
      refine (Ze rfl (Zm e1 rfl (Ze rfl ⟨g,S,i,p,by rw [eb];rfl,R,hi,hp,Ze rfl ?_⟩)))
      have eop:opB S p i=(Vbfuao.groupOf S p i).isNone:=by unfold opB;rw [hth,Bool.true_and]
      rw [eop]
      refine iten (fun c3=>⟨small_list,no5 (.inr (by rw [← Option.not_isNone,c3];rfl))⟩) (fun c3=>?_)
      have hfree:=Option.isNone_iff_eq_none.mp c3
      have hno : ¬ mirNo S p i:=by
        rintro (h | h)
        · rw [Bool.and_eq_true,bne,bne] at h
          rw [Bool.or_eq_true] at c2
          rcases c2 with c2 | c2
          · rw [c2] at h;exact absurd h.1 (by decide)
          · rw [c2] at h;exact absurd h.2 (by decide)
        · rw [hfree] at h;cases h
      refine (Ze rfl (Zm eF rfl ⟨g,S,rfl,R,Ze rfl ?_⟩))
      refine ite3n (fun c4=>iteT ⟨small_list,no3 hno (.inl (by omega))⟩) (fun c4=>?_)
      refine (Ze rfl (Zm eF rfl ⟨g,S,1,rfl,R,Ze rfl ?_⟩))
      refine ite3n (fun c5=>⟨small_list,no3 hno (.inr (by omega))⟩) (fun c5=>?_)
      have es:=es5 hno (by omega)
      refine (Ze rfl (Zf e1 T.cl_Entry T.na_Entry_book rfl (Ze rfl ⟨_,_,_,_,rfl,(by rw [eb]),T.pb H,q1,_,_,_,_,rfl,rfl,q2,rfl,rfl,?_⟩)))
      rw [decI]
      generalize hil:((Vbfuao.entryAt S i).book == Vbfuao.leftBook p)=il
      refine (Ze rfl (Ze rfl ?_))
      have hob:∀ (Qb:VK),Qb (.int ((if il then Vbfuao.rightBook p else Vbfuao.leftBook p:Nat):Int)) H→(if il=true then tOp (rIxT K) (tOp (rIxT K) (tC (.ref T.a_pb)) (tVar 1)) (tC (.int 1)) (((L2.start ["fund", "p", "place", "entry", "is_left", "other_book", "image"] [.ref g.F,.int b,.int z]).set 3 (some (g.rf i))).set 4 (some (.bl il))) H Qb else tOp (rIxT K) (tOp (rIxT K) (tC (.ref T.a_pb)) (tVar 1)) (tC (.int 0)) (((L2.start ["fund", "p", "place", "entry", "is_left", "other_book", "image"] [.ref g.F,.int b,.int z]).set 3 (some (g.rf i))).set 4 (some (.bl il))) H Qb):=fun Qb hq=>by
        cases il with
        | true=>exact iteT ⟨_,rfl,_,_,_,_,rfl,(by rw [eb]),T.pb H,q1,_,_,_,_,rfl,rfl,q2,rfl,hq⟩
        | false=>exact iteF ⟨_,rfl,_,_,_,_,rfl,(by rw [eb]),T.pb H,q1,_,_,_,_,rfl,rfl,q2,rfl,hq⟩
      refine hob _ ?_
      have hbk:(imgE S p i).book≤2:=by
        show (if ((Vbfuao.entryAt S i).book == Vbfuao.leftBook p)=true then Vbfuao.rightBook p else Vbfuao.leftBook p)≤2
        unfold Vbfuao.leftBook Vbfuao.rightBook
        repeat' split
        all_goals omega
      obtain ⟨e0,he0⟩:∃ e0,S.entries[i]? = some e0:=⟨_,List.getElem?_eq_getElem hi⟩
      have hacc:=(R.wf.book i e0 he0).2
      rw [← entryAt_of he0] at hacc
      have c4':S.entries.length < 200:=by omega
      have ebk:(imgE S p i).book=if il then Vbfuao.rightBook p else Vbfuao.leftBook p:=by
        show (if ((Vbfuao.entryAt S i).book == Vbfuao.leftBook p)=true then Vbfuao.rightBook p else Vbfuao.leftBook p)=_
        rw [hil]
      rw [← ebk]
      refine (Ze rfl (Zm eF rfl (Ze rfl (Ze rfl (Zf e1 T.cl_Entry T.na_Entry_account rfl (Ze rfl (Zf e1 T.cl_Entry T.na_Entry_day rfl (Ze rfl (Zf e1 T.cl_Entry T.na_Entry_amount rfl (Ze rfl (Zf e1 T.cl_Entry T.na_Entry_reference rfl ⟨g,S,imgE S p i,rfl,R,hth,hbk,hacc,c4',fun H1 g1 R1 mv eF1 hra=>?_⟩)))))))))))
      have hn:S.entries.length < (addE S (imgE S p i)).entries.length:=by
        show _ < (S.entries++[_]).length
        rw [List.length_append,List.length_singleton];omega
      have hi1:i < (addE S (imgE S p i)).entries.length:=by omega
      obtain ⟨dn,ign,f1,_⟩:=R1.at hn
      obtain ⟨dF1,eFF⟩:=R1.fund
      rw [eF1] at eFF
      have free1:∀ j,j=i∨j=S.entries.length→Vbfuao.groupOf (addE S (imgE S p i)) p j=none:=by
        rintro j (rfl | rfl)
        · exact hfree
        · exact grp_out R.wf (Nat.le_refl _)
      have there1:∀ j,j=i∨j=S.entries.length→(Vbfuao.entryAt (addE S (imgE S p i)) j).there=true:=by
        rintro j (rfl | rfl)
        · rw [entryAt_addE hi];exact hth
        · rw [entryAt_new];exact hth
      have lt1:∀ j,j=i∨j=S.entries.length→j < (addE S (imgE S p i)).entries.length:=by
        rintro j (rfl | rfl)
        · exact hi1
        · exact hn
      have acc1:∀ j,j=i∨j=S.entries.length→(Vbfuao.entryAt (addE S (imgE S p i)) j).account=(Vbfuao.entryAt S i).account:=by
        rintro j (rfl | rfl)
        · rw [entryAt_addE hi]
        · rw [entryAt_new];rfl
      have gok:∀ x y:Nat,(x=i∨x=S.entries.length)→(y=i∨y=S.entries.length)→x≠y→GOk (addE S (imgE S p i)) { pair:=p,account:=(Vbfuao.entryAt S i).account,left:=[x],right:=[y],holds:=true }:=fun x y hx hy hxy=>by
        have both:∀ j ∈ ([x]++[y]:List Nat),j=i∨j=S.entries.length:=fun j hj=>by
          simp at hj
          rcases hj with rfl | rfl
          · exact hx
          · exact hy
        exact ⟨hp,by simp,by simp,by simp,by simpa using hxy,fun j hj=>lt1 j (both j hj),fun j hj=>there1 j (both j hj),fun j hj=>free1 j (both j hj),by show S.groups.length < 300;omega⟩
      have nin:i≠S.entries.length:=by omega
      cases il with
      | true =>
        have eG:imgG S p i={ pair:=p,account:=(Vbfuao.entryAt S i).account,left:=[i],right:=[S.entries.length],holds:=true }:=by unfold imgG;rw [hil];rfl
        refine (Ze rfl (Ze rfl (iteT ?_)))
        refine (Ze rfl (Zf f1 T.cl_Entry T.na_Entry_place rfl (Ze rfl (Zm eFF rfl (Ze rfl (Ze rfl ⟨small_list,fun L hL=>?_⟩))))))
        refine (Ze rfl ⟨small_list,fun L2 hL2=>?_⟩)
        have m1:Sm H1 (upd H1 L (.lst [g.rf i])):=Sx.new hL
        have m2:Sm (upd H1 L (.lst [g.rf i])) (upd (upd H1 L (.lst [g.rf i])) L2 (.lst [g1.rf S.entries.length])):=Sx.new hL2
        have R2:=R1.keep (m1.trans m2)
        refine ⟨g1,addE S (imgE S p i),imgG S p i,L,L2,?_,R2,?_,?_,?_,?_,?_,fun H3 g3 R3 mv3 eF3 _=>?_⟩
        · rw [eG,eb,eF1];rfl
        · rw [eG];exact gok i _ (.inl rfl) (.inr rfl) nin
        · rw [eG]
        · rw [eG];intro j hj;exact acc1 j (.inl (List.mem_singleton.mp hj))
        · rw [eG];exact side_new R2 (by rw [← rfs_one (hra i hi)];exact m2.get upd_same) (fresh_nown R1 hL)
        · rw [eG];exact side_new R2 upd_same (fresh_nown R1 ((m1.free _ hL2)))
        · refine ⟨small_list,fun q hq=>?_⟩
          exact k'.ret es R3 (mv.trans ((Mv.of (m1.trans m2)).trans mv3)) (eF3.trans eF1) hq
      | false =>
        have eG:imgG S p i={ pair:=p,account:=(Vbfuao.entryAt S i).account,left:=[S.entries.length],right:=[i],holds:=true }:=by unfold imgG;rw [hil];rfl
        refine (Ze rfl (Ze rfl (iteF ?_)))
        refine (Ze rfl (Zf f1 T.cl_Entry T.na_Entry_place rfl (Ze rfl (Zm eFF rfl (Ze rfl (Ze rfl ⟨small_list,fun L hL=>?_⟩))))))
        refine (Ze rfl ⟨small_list,fun L2 hL2=>?_⟩)
        have m1:Sm H1 (upd H1 L (.lst [g1.rf S.entries.length])):=Sx.new hL
        have m2:Sm (upd H1 L (.lst [g1.rf S.entries.length])) (upd (upd H1 L (.lst [g1.rf S.entries.length])) L2 (.lst [g.rf i])):=Sx.new hL2
        have R2:=R1.keep (m1.trans m2)
        refine ⟨g1,addE S (imgE S p i),imgG S p i,L,L2,?_,R2,?_,?_,?_,?_,?_,fun H3 g3 R3 mv3 eF3 _=>?_⟩
        · rw [eG,eb,eF1];rfl
        · rw [eG];exact gok _ i (.inr rfl) (.inl rfl) nin.symm
        · rw [eG]
        · rw [eG];intro j hj;exact acc1 j (.inr (List.mem_singleton.mp hj))
        · rw [eG];exact side_new R2 (m2.get upd_same) (fresh_nown R1 hL)
        · rw [eG];exact side_new R2 (by rw [← rfs_one (hra i hi)];exact upd_same) (fresh_nown R1 ((m1.free _ hL2)))
        · refine ⟨small_list,fun q hq=>?_⟩
          exact k'.ret es R3 (mv.trans ((Mv.of (m1.trans m2)).trans mv3)) (eF3.trans eF1) hq
end
end TB
namespace TB
open PySem PySem.Spec PyProof.Rows L2
open PySem.W (Codec)
section
variable {P:Program} {w:World} {K:PySem.W.Frag} {mg:Str→Option Value} {base:Heap}
theorem cnt1:∀ l:List Nat,(∀ j ∈ l,(l.filter fun k=>k == j).length=1)↔l.Nodup
  | []=>by simp
  | a :: r=>by
    have ih:=cnt1 r
    have key:∀ j,((a :: r).filter fun k=>k == j).length=(if a=j then 1 else 0) + (r.filter fun k=>k == j).length:=fun j=>by
      rw [List.filter_cons]
      by_cases e:a=j
      · rw [if_pos (by simpa using e),if_pos e,List.length_cons];omega
      · rw [if_neg (by simpa using e),if_neg e,Nat.zero_add]
    have mem0:∀ j,j ∉ r→(r.filter fun k=>k == j).length=0:=fun j hj=>by
      rw [List.length_eq_zero_iff,List.filter_eq_nil_iff]
      intro k hk e
      exact hj (by rw [← beq_iff_eq.mp e];exact hk)
    constructor
    · intro h
      have ha:a ∉ r:=fun hm=>by
        have:=h a (List.mem_cons_self ..)
        rw [key,if_pos rfl] at this
        have:0 < (r.filter fun k=>k == a).length:=List.length_pos_of_mem (List.mem_filter.mpr ⟨hm,by simp⟩)
        omega
      refine List.nodup_cons.mpr ⟨ha,ih.mp fun j hj=>?_⟩
      have:=h j (List.mem_cons_of_mem _ hj)
      rw [key,if_neg (fun q=>ha (by rw [q];exact hj)),Nat.zero_add] at this
      exact this
    · intro h j hj
      obtain ⟨ha,hr⟩:=List.nodup_cons.mp h
      rw [key]
      by_cases e:a=j
      · rw [if_pos e,mem0 j (by rw [← e];exact ha)]
      · rw [if_neg e,Nat.zero_add]
        exact ih.mpr hr j ((List.mem_cons.mp hj).resolve_left fun q=>e q.symm)
theorem dedup_len:∀ (l σ : List Int),σ.Nodup→((l.foldl step_dedup σ).length = σ.length + l.length↔(σ++l).Nodup)∧(l.foldl step_dedup σ).length ≤ σ.length + l.length
  | [],σ,h=>by simp [h]
  | k :: l,σ,h=>by
    rw [List.foldl_cons,List.length_cons]
    unfold step_dedup
    by_cases hk:(σ.any fun x=>x == k)=true
    · rw [if_pos hk]
      have ih:=(dedup_len l σ h).2
      have hm:k ∈ σ:=by
        obtain ⟨x,hx,e⟩:=List.any_eq_true.mp hk
        rw [← beq_iff_eq.mp e];exact hx
      unfold step_dedup at ih
      refine ⟨⟨fun e=>by omega,fun e=>?_⟩,by omega⟩
      have:=(List.nodup_append.mp e).2.2 k hm k (List.mem_cons_self ..)
      exact absurd rfl this
    · rw [if_neg hk]
      have hm:k ∉ σ:=fun q=>hk (List.any_eq_true.mpr ⟨k,q,by simp⟩)
      have hn:(σ++[k]).Nodup:=nd_snoc h hm
      have ih:=dedup_len l (σ++[k]) hn
      unfold step_dedup at ih
      rw [List.length_append,List.length_singleton,List.append_assoc] at ih
      refine ⟨?_,by omega⟩
      have e : σ.length + (l.length + 1) = σ.length + 1 + l.length:=by omega
      rw [e]
      exact ih.1
theorem dcnt_lt (zs:List Int):dcnt zs < zs.length↔¬ zs.Nodup:=by
  have h:=dedup_len zs [] List.nodup_nil
  simp only [List.length_nil,Nat.zero_add,List.nil_append] at h
  unfold dcnt
  rw [← h.1]
  omega
def okN (s:State) (p a k:Nat):Bool:=(Vbfuao.entryAt s k).there&&((Vbfuao.entryAt s k).account == a&&(((Vbfuao.entryAt s k).book == Vbfuao.leftBook p || (Vbfuao.entryAt s k).book == Vbfuao.rightBook p)&&(Vbfuao.groupOf s p k).isNone))
def acc0 (s:State) (ks:List Nat):Nat:=(Vbfuao.entryAt s (ks.headD 0)).account
def mbg (s:State) (p:Nat) (ks:List Nat):Bool:=!ks.isEmpty&&ks.all (okN s p (acc0 s ks))
def grpOf (s:State) (p:Nat) (ks:List Nat):Vbfuao.Group:={ pair:=p,account:=acc0 s ks,left:=ks.filter fun j=>(Vbfuao.entryAt s j).book == Vbfuao.leftBook p,right:=ks.filter fun j=>(Vbfuao.entryAt s j).book == Vbfuao.rightBook p,holds:=true }
theorem gf_eq (s:State) (p:Nat):∀ ks:List Nat,Vbfuao.groupFrom s p ks=if mbg s p ks=true∧ks.Nodup then some (grpOf s p ks) else none
  | []=>by
    rw [if_neg (by rintro ⟨h,_⟩;cases h)];rfl
  | i :: r=>by
    have e:((i :: r).all fun j=>(Vbfuao.entryAt s j).there&&((Vbfuao.entryAt s j).account == (Vbfuao.entryAt s i).account&&(((Vbfuao.entryAt s j).book == Vbfuao.leftBook p || (Vbfuao.entryAt s j).book == Vbfuao.rightBook p)&&((Vbfuao.groupOf s p j).isNone&&((i :: r).filter fun k=>k == j).length == 1))))=true↔mbg s p (i :: r)=true∧(i :: r).Nodup:=by
      rw [← cnt1]
      unfold mbg okN acc0
      simp only [List.all_eq_true,Bool.and_eq_true,beq_iff_eq,List.isEmpty_cons,Bool.not_false,List.headD_cons,true_and]
      constructor
      · intro h
        exact ⟨fun j hj=>let ⟨a,b,c,d,f⟩:=h j hj;⟨a,b,c,d⟩,fun j hj=>(h j hj).2.2.2.2⟩
      · rintro ⟨h1,h2⟩ j hj
        obtain ⟨a,b,c,d⟩:=h1 j hj
        exact ⟨a,b,c,d,h2 j hj⟩
    unfold Vbfuao.groupFrom
    dsimp only
    by_cases h:mbg s p (i :: r)=true∧(i :: r).Nodup
    · rw [if_pos h,if_neg (by rw [e.mpr h];decide)];rfl
    · rw [if_neg h,if_pos (Bool.eq_false_iff.mpr fun q=>h (e.mp q))]
def vOf (g:Gh) (s:State) (z:Int):V:=match Vbfuao.thereAt s z with
  | none=>.non
  | some k=>g.rf k
theorem vOf_there {g:Gh} {s:State} {k:Nat} (h:(Vbfuao.entryAt s k).there=true):vOf g s (k:Int)=g.rf k∧Vbfuao.thereAt s (k:Int)=some k:=by
  have e:Vbfuao.thereAt s (k:Int)=some k:=by
    unfold Vbfuao.thereAt
    rw [if_neg (by omega),Int.toNat_natCast,if_pos h]
  exact ⟨by unfold vOf;rw [e],e⟩
theorem vOf_no {g:Gh} {s:State} {k:Nat} (h:(Vbfuao.entryAt s k).there=false):vOf g s (k:Int) = .non∧Vbfuao.thereAt s (k:Int)=none:=by
  have e:Vbfuao.thereAt s (k:Int)=none:=by
    unfold Vbfuao.thereAt
    rw [if_neg (by omega),Int.toNat_natCast,if_neg (by rw [h];decide)]
  exact ⟨by unfold vOf;rw [e],e⟩
theorem vOf_non {g:Gh} {s:State} {k:Nat}:decide (vOf g s (k:Int) = .non) = !(Vbfuao.entryAt s k).there:=by
  cases h:(Vbfuao.entryAt s k).there with
  | true=>rw [(vOf_there h).1];simp [Gh.rf]
  | false=>rw [(vOf_no h).1];simp
theorem there_lt {s:State} {k:Nat} (h:(Vbfuao.entryAt s k).there=true):k < s.entries.length:=by
  by_cases q:k < s.entries.length
  · exact q
  · rw [entryAt_out (by omega)] at h;cases h
def sp_may_be_group (T:Txt K mg):Sp:=fun vs H Q _=>∃ (g:Gh) (s:State) (l:Addr) (p:Nat) (ks:List Nat),vs=[.ref l,.int (p:Nat)]∧Rep T H g s∧p≤2∧H l=some (.lst (ks.map fun k=>vOf g s (k:Nat)))∧ks.length≤100∧∀ H',Sm H H'→Q (.bl (mbg s p ks)) H'
theorem ok_may_be_group (T:Txt K mg):FnOk P w K mg base CX0 2 T.f_may_be_group.f T.f_may_be_group.fd ["entries", "pair"] (sp_may_be_group T):=by
  have G_Entry_is_open:=ok_Entry_is_open (P:=P) (w:=w) (base:=base) T
  refine T.f_may_be_group.F.ok sc_may_be_group (fun vs H Q E h=>?_) (fun cdv A outer s H vs Q E hr h=>?_)
  · obtain ⟨_,_,_,_,_,rfl,_⟩:=h;rfl
  · obtain ⟨g,S,l,p,ks,rfl,R,hp,el,hlen,k⟩:=h
    refine ⟨_,(pss_cons (ps_if (PW.pt (pw_or (pt_not (pt_truth (pv 0) (fun _=>rfl))) (pw_or1 (pt_val (pe_callB (cr_any rfl) rfl T.n_any boot_any (pa_cons (pe_lc rfl sc_may_be_group.nd (pi_list (pv 0)) (blkOk_by (own:=[("entry",2)]) (by kernel_rfl)) (fun _ _ _ _ _=>pg_name (i:=2) sc_may_be_group.nd rfl (Or.inl rfl)) (fun _ _ _ _ _=>pts_nil) (fun _ _ _ _ _=>(pe_cmp (pc_isN (pv 2))))) pa_nil)))))) (pss_one (ps_ret pe_bl)) pss_nil)
      (pss_cons (ps_for PassesOwn.never rfl (pi_list (pv 0)) (pg_name (i:=2) sc_may_be_group.nd rfl (by first | exact Or.inl rfl | exact Or.inr rfl))
        (pss_cons (ps_if (PW.pt (pw_or (pt_cmpR op_ne (pe_fld (pv 2) rfl) (pe_fld (pe_ix ix_list (pv 0) pe_int (fun _ _=>rfl)) rfl) (nomark _)) (pw_or1 (pt_cmpR op_notIn_seq (pe_fld (pv 2) rfl) (pe_ix ix_tup (pe_gref rfl T.g_PAIR_BOOKS) (pv 1) (fun _ _=>rfl)) rfl)))) (pss_one (ps_ret pe_bl)) pss_nil)
      (pss_one (ps_if (pt_not (pt_val (pe_meth (pv 2) T.cl_Entry T.me_Entry_is_open G_Entry_is_open (hr.mono (by decide)) T.f_Entry_is_open.b .nil pass0 (pa_cons (pv 1) pa_nil)))) (pss_one (ps_ret pe_bl)) pss_nil))))
      (pss_one (ps_ret pe_bl)))),?_⟩
    refine (Ze rfl ⟨_,.inl ⟨_,SqL.of el,rfl⟩,?_⟩)
    have eemp:(!(ks.map fun k=>vOf g S (k:Nat)).isEmpty) = !ks.isEmpty:=by cases ks <;> rfl
    rw [eemp]
    unfold mbg at k
    refine iten (fun c0=>?_) (fun c0=>?_)
    · have q:=k H (Sx.refl _)
      rw [c0] at q
      exact iteT q
    rw [c0,Bool.true_and] at k
    refine (Ze rfl ⟨l,rfl,⟨_,SqL.of el⟩,fun D hD=>lc_fn (ys:=ks) (c:=fun k=>vOf g S (k:Nat)) (p:=fun _=>true) (f:=fun k=>V.bl (!(Vbfuao.entryAt S k).there)) hD (SqL.of el) (by omega) (fun i hi H1 Q1 Q0 m1 h1 h0=>?_) fun H1 m1 e1=>?_⟩)
    · refine ⟨rfl,yesT (Ze rfl ?_)⟩
      have q:=h1 rfl _ (Sx.refl H1)
      rw [← vOf_non (g:=g)] at q
      exact q
    have R1:=R.keep m1
    refine ⟨D,ks.map fun k=>!(Vbfuao.entryAt S k).there,rfl,SqL.of (by rw [e1,List.filter_eq_self.mpr (fun _ _=>rfl),List.map_map];rfl),Ze rfl ?_⟩
    have k1:=k H1 m1
    refine iteb (fun c1=>?_) (fun c1=>?_)
    · have:(ks.all (okN S p (acc0 S ks)))=false:=by
        rw [List.any_map,List.any_eq_true] at c1
        obtain ⟨x,hx,e⟩:=c1
        rw [List.all_eq_false]
        refine ⟨x,hx,?_⟩
        have e':(Vbfuao.entryAt S x).there=false:=by simpa using e
        unfold okN
        rw [e',Bool.false_and];decide
      rw [this] at k1
      exact k1
    have hth:∀ x ∈ ks,(Vbfuao.entryAt S x).there=true:=fun x hx=>by
      rw [List.any_map] at c1
      have:=List.any_eq_false.mp c1 x hx
      simpa using this
    have el1:H1 l=some (.lst (g.rfs ks)):=by
      rw [m1.get el]
      refine congrArg (fun q=>some (HO.lst q)) (List.map_congr_left fun x hx=>?_)
      exact (vOf_there (hth x hx)).1
    obtain ⟨i0,r0,eks⟩:∃ i r,ks=i :: r:=by
      cases e:ks with
      | nil=>rw [e] at c0;cases c0
      | cons i r=>exact ⟨i,r,rfl⟩
    have h0t:=hth i0 (by rw [eks];exact List.mem_cons_self ..)
    obtain ⟨dx0,ig0,f0,_⟩:=R1.at (there_lt h0t)
    have ea0:acc0 S ks=(Vbfuao.entryAt S i0).account:=by rw [eks];rfl
    refine ⟨_,rfl,l,rfl,⟨_,SqL.of el1⟩,for_list (K:=K) (a:=l) (xs:=g.rfs ks) (fun j σ H'=>∃ v,σ = [some (.ref l),some (.int (p:Nat)),v]∧H'=H1∧((ks.take j).all (okN S p (acc0 S ks)))=true)
      ⟨_,rfl,rfl,rfl⟩ (fun j σ H' _ ⟨_,_,e,_⟩=>by rw [e];exact SqL.of el1) ?_ ?_⟩
    · rintro j v σ H' hj ⟨v0,rfl,rfl,hall⟩
      unfold Gh.rfs at hj
      rw [List.getElem?_map] at hj
      cases ej:ks[j]? with
      | none=>rw [ej] at hj;cases hj
      | some x =>
        rw [ej] at hj
        obtain rfl:g.rf x=v:=Option.some.inj hj
        have hx:=List.mem_of_getElem? ej
        have hxt:=hth x hx
        obtain ⟨dx,ig,f1,f2,_⟩:=R1.at (there_lt hxt)
        have bad:okN S p (acc0 S ks) x=false→Q (.bl false) H':=fun h=>by
          have:(ks.all (okN S p (acc0 S ks)))=false:=List.all_eq_false.mpr ⟨x,hx,by rw [h];decide⟩
          rw [this] at k1
          exact k1
        unfold okN at bad
        rw [hxt,Bool.true_and] at bad
        have eat:atI (g.rfs ks) 0=some (.ref (g.ra i0)):=by rw [eks];exact atI_nat (j:=0) rfl
        refine (Ze rfl (Zf f1 T.cl_Entry T.na_Entry_account rfl (Ze rfl ⟨_,_,_,_,rfl,rfl,SqL.of el1,eat,(Zf f0 T.cl_Entry T.na_Entry_account rfl ⟨rfl,Ze rfl ?_⟩)⟩)))
        rw [decI,← ea0]
        refine iten (fun c2=>iteT (bad (by rw [c2];rfl))) (fun c2=>?_)
        obtain ⟨pa,q1,q2⟩:=pb_at T H' hp
        refine (Ze rfl (Zf f1 T.cl_Entry T.na_Entry_book rfl (Ze rfl ⟨_,_,_,_,rfl,rfl,T.pb H',q1,⟨_,_,rfl,.inr q2,rfl,rfl,(Ze rfl ?_)⟩⟩)))
        show if (!inV _ _)=true then _ else _
        rw [in2]
        refine iten (fun c3=>bad (by rw [c3,Bool.false_and,Bool.and_false])) (fun c3=>?_)
        refine (Ze rfl (Zm f1 rfl (Ze rfl ⟨g,S,x,p,rfl,R1,there_lt hxt,hp,Ze rfl ?_⟩)))
        have eop:opB S p x=(Vbfuao.groupOf S p x).isNone:=by unfold opB;rw [hxt,Bool.true_and]
        rw [eop]
        refine iten (fun c4=>bad (by rw [c4,Bool.and_false,Bool.and_false])) (fun c4=>?_)
        refine (Ze rfl ⟨rfl,?_⟩)
        have et:ks.take (j + 1)=ks.take j++[x]:=by rw [List.take_add_one,ej];rfl
        rw [et,List.all_append,hall,Bool.true_and,List.all_cons,List.all_nil,Bool.and_true]
        unfold okN
        rw [hxt,c2,c3,c4];rfl
    · rintro σ H' ⟨v0,rfl,rfl,hall⟩
      rw [len_rfs,List.take_length] at hall
      rw [hall] at k1
      exact k1
end
end TB
namespace TB
open PySem PySem.Spec PyProof.Rows L2
open PySem.W (Codec)
section
variable {P:Program} {w:World} {K:PySem.W.Frag} {mg:Str→Option Value} {base:Heap}
def sp_pair_entries (T:Txt K mg):Sp:=fun vs H Q _=>∃ (g:Gh) (s:State) (b:Int) (r:Addr) (zs:List Int),vs=[.ref g.F,.int b,.ref r]∧Rep T H g s∧H r=some (.lst (zs.map V.int))∧zs.length≤100∧Ans T H g s (.pair b zs) Q
theorem step_pair1 {s:State} {b:Int} {zs:List Int} (h:(Vbfuao.within b 0 2&&zs.all fun z=>decide (0≤z))=false):Vbfuao.step s (.pair b zs)=(s,[-1]):=by
  unfold Vbfuao.step;dsimp only;rw [if_pos h];rfl
section
variable {s:State} {b:Int} {zs:List Int} {p:Nat} {ks:List Nat} (h:(Vbfuao.within b 0 2&&zs.all fun z=>decide (0≤z))=true) (hp:b.toNat=p) (hk:zs.map Int.toNat=ks)
include h hp hk
theorem step_pair2 (hm : ¬ (mbg s p ks=true∧ks.Nodup)):Vbfuao.step s (.pair b zs)=(s,[-5]):=by
  unfold Vbfuao.step;dsimp only
  rw [if_neg (by rw [h];decide),hp,hk,gf_eq,if_neg hm];rfl
theorem step_pair3 (hm:mbg s p ks=true∧ks.Nodup) (he:(grpOf s p ks).left=[]∨(grpOf s p ks).right=[]):Vbfuao.step s (.pair b zs)=(s,[-6]):=by
  unfold Vbfuao.step;dsimp only
  rw [if_neg (by rw [h];decide),hp,hk,gf_eq,if_pos hm];dsimp only
  rw [if_pos (he.imp (fun q=>by rw [q];rfl) (fun q=>by rw [q];rfl))];rfl
theorem step_pair4 (hm : mbg s p ks = true ∧ ks.Nodup) (he : ¬ ((grpOf s p ks).left = [] ∨ (grpOf s p ks).right = [])) {x : Vbfuao.Account} (hx : Vbfuao.accountAt s (acc0 s ks) = some x) :
    Vbfuao.step s (.pair b zs)=if x.tol < (Vbfuao.gapOf s (grpOf s p ks)).natAbs then (s,[-7]) else if 300≤s.groups.length then (s,[-3]) else (addG s (grpOf s p ks),[(s.groups.length:Int)]):=by
  unfold Vbfuao.step;dsimp only
  rw [if_neg (by rw [h];decide),hp,hk,gf_eq,if_pos hm];dsimp only
  rw [if_neg (fun q=>he (q.imp (fun q=>List.isEmpty_iff.mp q) (fun q=>List.isEmpty_iff.mp q)))]
  have hx':Vbfuao.accountAt s (grpOf s p ks).account=some x:=hx
  rw [hx'];rfl
end
theorem acc_get {T:Txt K mg} {H:Hp} {ov:Option V} {x:Vbfuao.Account} (h:AccIs T H ov (some x)):∃ a,ov=some (.ref a)∧∃ dx,H a=some (.ins T.c_Account dx (accF x)):=by
  match ov,h with
  | some (.ref a),h=>exact ⟨a,rfl,h⟩
theorem abs_nat (z:Int):(if z < 0 then -z else z)=((z.natAbs:Nat):Int):=by split <;> omega
theorem ok_pair_entries (T:Txt K mg):FnOk P w K mg base CX0 4 T.f_pair_entries.f T.f_pair_entries.fd ["fund", "p", "places"] (sp_pair_entries T):=by
  have G_Fund_add_group:=ok_Fund_add_group (P:=P) (w:=w) (base:=base) T
  have G_Fund_has_room_for_groups:=ok_Fund_has_room_for_groups (P:=P) (w:=w) (base:=base) T
  have G_gap_of:=ok_gap_of (P:=P) (w:=w) (base:=base) T
  have G_may_be_group:=ok_may_be_group (P:=P) (w:=w) (base:=base) T
  have G_Fund_entry_at:=ok_Fund_entry_at (P:=P) (w:=w) (base:=base) T
  have G_within:=ok_within (P:=P) (w:=w) (base:=base) T
  refine T.f_pair_entries.F.ok sc_pair_entries (fun vs H Q E h=>?_) (fun cdv A outer s H vs Q E hr h=>?_)
  · obtain ⟨_,_,_,_,_,rfl,_⟩:=h;rfl
  · obtain ⟨g,S,b,r,zs,rfl,R,er,hlen,k⟩:=h
    refine ⟨_,(pss_cons (ps_if (PW.pt (pw_or (pt_not (pt_val (pe_call G_within (hr.mono (by decide)) rfl T.m_within T.f_within.kp T.f_within.b .nil pass0 (pa_cons (pv 1) (pa_cons pe_int (pa_cons pe_int pa_nil)))))) (pw_or1 (pt_val (pe_callB (cr_any rfl) rfl T.n_any boot_any (pa_cons (pe_lc rfl sc_pair_entries.nd (pi_list (pv 2)) (blkOk_by (own:=[("place",3)]) (by kernel_rfl)) (fun _ _ _ _ _=>pg_name (i:=3) sc_pair_entries.nd rfl (Or.inl rfl)) (fun _ _ _ _ _=>pts_nil) (fun _ _ _ _ _=>(pe_cmpR op_lt (pv 3) pe_int (nomark _)))) pa_nil)))))) (pss_one (ps_ret (pe_lst (pa_cons (pe_gint rfl T.g_OUT_OF_RANGE) pa_nil)))) pss_nil)
      (pss_cons (ps_setLc (i:=4) rfl sc_pair_entries.nd rfl rfl (sw_true rfl rfl rfl rfl) (pi_list (pv 2)) (blkOk_by (own:=[("place",3)]) (by kernel_rfl)) (fun _ _ _ _ _=>pg_name (i:=3) sc_pair_entries.nd rfl (Or.inl rfl)) (fun _ _ _ _ _=>pts_nil) (fun _ _ _ _ _=>(pe_meth (pv 0) T.cl_Fund T.me_Fund_entry_at G_Fund_entry_at (hr.mono (by decide)) T.f_Fund_entry_at.b .nil pass0 (pa_cons (pv 3) pa_nil))))
      (pss_cons (ps_if (PW.pt (pw_or (pt_not (pt_val (pe_call G_may_be_group (hr.mono (by decide)) rfl T.m_may_be_group T.f_may_be_group.kp T.f_may_be_group.b .nil pass0 (pa_cons (pv 4) (pa_cons (pv 1) pa_nil))))) (pw_or1 (pt_cmpR op_lt (pe_callB call_lenSet rfl T.n_len PySem.boot_len (pa_cons (pe_callTy (call_setInts rfl) rfl T.n_set TB.boot_set (pa_cons (pv 2) pa_nil)) pa_nil)) (pe_callB call_len_seq rfl T.n_len PySem.boot_len (pa_cons (pv 2) pa_nil)) (nomark _))))) (pss_one (ps_ret (pe_lst (pa_cons (pe_gint rfl T.g_NOT_FREE) pa_nil)))) pss_nil)
      (pss_cons (ps_setLc (i:=5) rfl sc_pair_entries.nd rfl rfl (sw_true rfl rfl rfl rfl) (pi_list (pv 4)) (blkOk_by (own:=[("entry",6)]) (by kernel_rfl)) (fun _ _ _ _ _=>pg_name (i:=6) sc_pair_entries.nd rfl (Or.inl rfl)) (fun _ _ _ _ _=>(pts_one (pt_cmpR op_eq (pe_fldK (K:=K) rfl (pv 6) rfl) (pe_ix (ix_tupK (K:=K) rfl) (pe_ix (ix_tupK (K:=K) rfl) (pe_gref rfl T.g_PAIR_BOOKS) (pv 1) (fun _ _=>rfl)) pe_int (fun _ _=>rfl)) (nomark _)))) (fun _ _ _ _ _=>(pv 6)))
      (pss_cons (ps_setLc (i:=7) rfl sc_pair_entries.nd rfl rfl (sw_true rfl rfl rfl rfl) (pi_list (pv 4)) (blkOk_by (own:=[("entry",6)]) (by kernel_rfl)) (fun _ _ _ _ _=>pg_name (i:=6) sc_pair_entries.nd rfl (Or.inl rfl)) (fun _ _ _ _ _=>(pts_one (pt_cmpR op_eq (pe_fldK (K:=K) rfl (pv 6) rfl) (pe_ix (ix_tupK (K:=K) rfl) (pe_ix (ix_tupK (K:=K) rfl) (pe_gref rfl T.g_PAIR_BOOKS) (pv 1) (fun _ _=>rfl)) pe_int (fun _ _=>rfl)) (nomark _)))) (fun _ _ _ _ _=>(pv 6)))
      (pss_cons (ps_if (PW.pt (pw_or (pt_not (pt_truth (pv 5) (fun _=>rfl))) (pw_or1 (pt_not (pt_truth (pv 7) (fun _=>rfl)))))) (pss_one (ps_ret (pe_lst (pa_cons (pe_gint rfl T.g_ONE_BOOK) pa_nil)))) pss_nil)
      (pss_cons (ps_if (pt_cmpR op_gt (pe_callB call_abs rfl T.n_abs TB.boot_abs (pa_cons (pe_call G_gap_of (hr.mono (by decide)) rfl T.m_gap_of T.f_gap_of.kp T.f_gap_of.b .nil pass0 (pa_cons (pv 5) (pa_cons (pv 7) pa_nil))) pa_nil)) (pe_fld (pe_dget (hu_of hr) (pe_fld (pv 0) rfl) (pe_fld (pe_ix ix_list (pv 5) pe_int (fun _ _=>rfl)) rfl) (fun _ _=>rfl)) rfl) (nomark _)) (pss_one (ps_ret (pe_lst (pa_cons (pe_gint rfl T.g_GAP_TOO_WIDE) pa_nil)))) pss_nil)
      (pss_cons (ps_if (pt_not (pt_val (pe_meth (pv 0) T.cl_Fund T.me_Fund_has_room_for_groups G_Fund_has_room_for_groups (hr.mono (by decide)) T.f_Fund_has_room_for_groups.b .nil pass0 (pa_cons pe_int pa_nil)))) (pss_one (ps_ret (pe_lst (pa_cons (pe_gint rfl T.g_FULL) pa_nil)))) pss_nil)
      (pss_one (ps_ret (pe_lst (pa_cons (pe_meth (pv 0) T.cl_Fund T.me_Fund_add_group G_Fund_add_group (hr.mono (by decide)) T.f_Fund_add_group.b .nil pass0 (pa_cons (pv 1) (pa_cons (pv 5) (pa_cons (pv 7) pa_nil)))) pa_nil)))))))))))),?_⟩
    obtain ⟨dF,eF⟩:=R.fund
    refine (Ze rfl ⟨b,0,2,rfl,Ze rfl ?_⟩)
    refine iten (fun c1=>iteT ⟨small_list,fun p hp=>k.ret (ns:=[-1]) (step_pair1 (by rw [c1];rfl)) R (Mv.of (Sx.refl _)) rfl hp⟩) (fun c1=>?_)
    refine (Ze rfl ⟨r,rfl,⟨_,SqL.of er⟩,fun D hD=>lc_fn (ys:=zs) (c:=V.int) (p:=fun _=>true) (f:=fun z=>V.bl (decide (z < 0))) hD (SqL.of er) (by omega) (fun z hz H1 Q1 Q0 m1 h1 h0=>?_) fun H1 m1 e1=>?_⟩)
    · exact ⟨rfl,yesT (Ze rfl (Zo rfl rfl (h1 rfl _ (Sx.refl _))))⟩
    refine ⟨D,zs.map fun z=>decide (z < 0),rfl,SqL.of (by rw [e1,List.filter_eq_self.mpr (fun _ _=>rfl),List.map_map];rfl),Ze rfl ?_⟩
    have R1:=R.keep m1
    refine iteb (fun c2=>?_) (fun c2=>?_)
    · refine ⟨small_list,fun p hp=>k.ret (ns:=[-1]) (step_pair1 ?_) R1 (Mv.of m1) rfl hp⟩
      rw [List.any_map,List.any_eq_true] at c2
      obtain ⟨z,hz,e⟩:=c2
      have:(zs.all fun z=>decide (0≤z))=false:=List.all_eq_false.mpr ⟨z,hz,by have hz0:z < 0:=(by simpa using e);simpa using hz0⟩
      rw [this,Bool.and_false]
    have hpos:∀ z ∈ zs,0≤z:=fun z hz=>by
      rw [List.any_map] at c2
      have:=List.any_eq_false.mp c2 z hz
      simpa using this
    have hok:(Vbfuao.within b 0 2&&zs.all fun z=>decide (0≤z))=true:=by
      rw [c1,Bool.true_and,List.all_eq_true]
      intro z hz
      simpa using hpos z hz
    obtain ⟨hp,eb⟩:=within_nat c1
    obtain ⟨ks,hks⟩:∃ ks,zs.map Int.toNat=ks:=⟨_,rfl⟩
    have ezs:zs=ks.map fun k=>((k:Nat):Int):=by
      rw [← hks,List.map_map]
      conv=>lhs;rw [← List.map_id zs]
      refine List.map_congr_left fun z hz=>?_
      have:=hpos z hz
      show z=((z.toNat:Nat):Int)
      omega
    have klen:ks.length≤100:=by rw [← hks,List.length_map];exact hlen
    have es2:=step_pair2 (s:=S) hok rfl hks
    have es3:=step_pair3 (s:=S) hok rfl hks
    have es4:=fun h1 h2 (x:Vbfuao.Account) hx=>step_pair4 (s:=S) hok rfl hks h1 h2 (x:=x) hx
    have k':Ans T H g S (.pair b zs) Q:=k
    generalize hbn:b.toNat=p at *
    rw [ezs] at er
    have er1:=m1.get er
    rw [List.map_map] at er1
    refine (Ze rfl ⟨r,rfl,⟨_,SqL.of er1⟩,fun D2 hD2=>lc_fn (ys:=ks) (c:=V.int ∘ fun k=>((k:Nat):Int)) (p:=fun _=>true) (f:=fun k=>vOf g S (k:Nat)) hD2 (SqL.of er1) (by omega) (fun z hz H2 Q1 Q0 m2 h1 h0=>?_) fun H2 m2 e2=>?_⟩)
    · have R2:=R1.keep m2
      obtain ⟨dF2,eF2⟩:=R2.fund
      exact ⟨rfl,yesT (Ze rfl (Zm eF2 rfl (Ze rfl ⟨g,S,Ze rfl ⟨R2,h1 rfl _ (Sx.refl _)⟩⟩)))⟩
    rw [List.filter_eq_self.mpr (fun _ _=>rfl)] at e2
    have m12:=m1.trans m2
    have R2:=R.keep m12
    refine (Ze rfl (Ze rfl ⟨g,S,D2,p,ks,by rw [eb];rfl,R2,hp,e2,klen,fun H3 m3=>(Ze rfl ?_)⟩))
    have m13:=m12.trans m3
    have R3:=R.keep m13
    have no:∀ {n:Int} {H':Hp},Vbfuao.step S (.pair b zs)=(S,[n])→Sm H H'→∀ q,H' q=none→Q (.ref q) (upd H' q (.lst [.int n])):=fun {n H'} e m q hq=>k'.ret (ns:=[n]) e (R.keep m) (Mv.of m) rfl hq
    refine iten (fun c3=>iteT ⟨small_list,no (es2 (by rw [c3];rintro ⟨h,_⟩;cases h)) m13⟩) (fun c3=>?_)
    have er3:=m13.get er
    refine (Ze rfl ⟨r,Ze rfl ⟨SqL.of er3,by rw [List.length_map];omega,fun q Sq hq=>?_⟩⟩)
    have dl:dcnt (ks.map fun k=>((k:Nat):Int))≤100:=by
      have:=(dedup_len (ks.map fun k=>((k:Nat):Int)) [] List.nodup_nil).2
      simp only [List.length_nil,Nat.zero_add,List.length_map] at this
      unfold dcnt;omega
    have m4:Sm H3 (upd H3 q (.set Sq (dcnt (ks.map fun k=>((k:Nat):Int))))):=Sx.new hq
    have m14:=m13.trans m4
    refine ⟨q,Sq,Ze rfl ⟨upd_same,by omega,Ze rfl ⟨_,_,rfl,.inl (SqL.of (m14.get er)),(Zo rfl rfl (Ze rfl ?_))⟩⟩⟩
    rw [List.length_map]
    have ndk:ks.Nodup↔(ks.map fun k=>((k:Nat):Int)).Nodup:=by
      constructor
      · intro h
        exact List.Pairwise.map _ (fun a b hab q=>hab (by omega)) h
      · intro h
        exact List.Pairwise.of_map _ (fun a b hab q=>hab (by rw [q])) h
    have dlt:=dcnt_lt (ks.map fun k=>((k:Nat):Int))
    refine ite3 (fun c4=>⟨small_list,no (es2 fun h=>?_) m14⟩) (fun c4=>?_)
    · exact dlt.mp (by omega) (ndk.mp h.2)
    have hnd:ks.Nodup:=by
      rw [ndk]
      exact Classical.byContradiction fun h=>c4 (by have:=dlt.mpr h;omega)
    have hm:mbg S p ks=true∧ks.Nodup:=⟨c3,hnd⟩
    have hall:∀ x ∈ ks,okN S p (acc0 S ks) x=true:=fun x hx=>by
      unfold mbg at c3
      rw [Bool.and_eq_true] at c3
      exact List.all_eq_true.mp c3.2 x hx
    have hth:∀ x ∈ ks,(Vbfuao.entryAt S x).there=true:=fun x hx=>by
      have:=hall x hx
      unfold okN at this
      rw [Bool.and_eq_true] at this
      exact this.1
    have R4:=R.keep m14
    have el:∀ {H':Hp},Sm H3 H'→H' D2=some (.lst (g.rfs ks)):=fun {H'} m=>by
      rw [m.get (m3.get e2)]
      refine congrArg (fun q=>some (HO.lst q)) (List.map_congr_left fun x hx=>?_)
      exact (vOf_there (hth x hx)).1
    have el4:=el m4
    refine (Ze rfl ⟨D2,rfl,⟨_,SqL.of el4⟩,fun L hL=>lc_fn (ys:=ks) (c:=g.rf) (p:=fun j=>(Vbfuao.entryAt S j).book == Vbfuao.leftBook p) (f:=g.rf) hL (SqL.of el4) (by omega) (fun i hi H5 Q1 Q0 m5 h1 h0=>?_) fun H5 m5 e5=>?_⟩)
    · obtain ⟨dx,ig,f1,_⟩:=(R4.keep m5).at (there_lt (hth i hi))
      obtain ⟨pa,q1,q2⟩:=pb_at T H5 hp
      refine ⟨rfl,(Ze rfl (Zf f1 T.cl_Entry T.na_Entry_book rfl (Ze rfl ⟨_,_,_,_,rfl,(by rw [eb]),T.pb H5,q1,⟨_,_,_,_,rfl,rfl,q2,rfl,rfl,(Ze rfl ?_)⟩⟩)))⟩
      rw [decI]
      exact iteb (fun c=>(Ze rfl (h1 c _ (Sx.refl _)))) (fun c=>h0 c _ (Sx.refl _))
    have m15:=m14.trans m5
    have el5:=el (m4.trans m5)
    have R5:=R.keep m15
    refine (Ze rfl ⟨D2,rfl,⟨_,SqL.of el5⟩,fun L2 hL2=>lc_fn (ys:=ks) (c:=g.rf) (p:=fun j=>(Vbfuao.entryAt S j).book == Vbfuao.rightBook p) (f:=g.rf) hL2 (SqL.of el5) (by omega) (fun i hi H6 Q1 Q0 m6 h1 h0=>?_) fun H6 m6 e6=>?_⟩)
    · obtain ⟨dx,ig,f1,_⟩:=(R5.keep m6).at (there_lt (hth i hi))
      obtain ⟨pa,q1,q2⟩:=pb_at T H6 hp
      refine ⟨rfl,(Ze rfl (Zf f1 T.cl_Entry T.na_Entry_book rfl (Ze rfl ⟨_,_,_,_,rfl,(by rw [eb]),T.pb H6,q1,⟨_,_,_,_,rfl,rfl,q2,rfl,rfl,(Ze rfl ?_)⟩⟩)))⟩
      rw [decI]
      exact iteb (fun c=>(Ze rfl (h1 c _ (Sx.refl _)))) (fun c=>h0 c _ (Sx.refl _))
    have m16:=m15.trans m6
    have R6:=R.keep m16
    have eL:H6 L=some (.lst (g.rfs (grpOf S p ks).left)):=m6.get e5
    have eL2:H6 L2=some (.lst (g.rfs (grpOf S p ks).right)):=e6
    have memL:∀ i ∈ (grpOf S p ks).left,i ∈ ks:=fun i hi=>(List.mem_filter.mp hi).1
    have memR:∀ i ∈ (grpOf S p ks).right,i ∈ ks:=fun i hi=>(List.mem_filter.mp hi).1
    have memB:∀ i ∈ (grpOf S p ks).left++(grpOf S p ks).right,i ∈ ks:=fun i hi=>(List.mem_append.mp hi).elim (memL i) (memR i)
    have lenL:(grpOf S p ks).left.length≤100:=Nat.le_trans (List.length_filter_le _ _) klen
    have lenR:(grpOf S p ks).right.length≤100:=Nat.le_trans (List.length_filter_le _ _) klen
    have emp:∀ l:List Nat,(!(g.rfs l).isEmpty) = !l.isEmpty:=fun l=>by cases l <;> rfl
    refine (Ze rfl ⟨_,.inl ⟨_,SqL.of eL,rfl⟩,?_⟩)
    rw [emp]
    refine iten (fun c5=>iteT ⟨small_list,no (es3 hm (.inl (List.isEmpty_iff.mp (by simpa using c5)))) m16⟩) (fun c5=>?_)
    refine (Ze rfl ⟨_,.inl ⟨_,SqL.of eL2,rfl⟩,?_⟩)
    rw [emp]
    refine iten (fun c6=>⟨small_list,no (es3 hm (.inr (List.isEmpty_iff.mp (by simpa using c6)))) m16⟩) (fun c6=>?_)
    have hne : ¬ ((grpOf S p ks).left=[]∨(grpOf S p ks).right=[]):=by
      rintro (q | q)
      · rw [q] at c5;cases c5
      · rw [q] at c6;cases c6
    have hacc:∀ i ∈ (grpOf S p ks).left,(Vbfuao.entryAt S i).account=acc0 S ks:=fun i hi=>by
      have:=hall i (memL i hi)
      unfold okN at this
      simp only [Bool.and_eq_true,beq_iff_eq] at this
      exact this.2.1
    obtain ⟨i0,l0,e0⟩:∃ i l,(grpOf S p ks).left=i :: l:=by
      cases e:(grpOf S p ks).left with
      | nil=>exact absurd (.inl e) hne
      | cons i l=>exact ⟨i,l,rfl⟩
    have hi0:i0 ∈ (grpOf S p ks).left:=by rw [e0];exact List.mem_cons_self ..
    have lt0:=there_lt (hth i0 (memL i0 hi0))
    obtain ⟨en0,hen0⟩:∃ e0,S.entries[i0]? = some e0:=⟨_,List.getElem?_eq_getElem lt0⟩
    obtain ⟨x,hx⟩:=(R.wf.book i0 en0 hen0).2
    rw [← entryAt_of hen0,hacc i0 hi0] at hx
    have es:=es4 hm hne x hx
    refine (Ze rfl (Ze rfl ⟨g,S,L,L2,_,_,rfl,R6,⟨eL,fun i hi=>there_lt (hth i (memL i hi)),by omega⟩,⟨eL2,fun i hi=>there_lt (hth i (memR i hi)),by omega⟩,fun H7 m7=>?_⟩))
    have m17:=m16.trans m7
    have R7:=R.keep m17
    obtain ⟨dF7,eF7⟩:=R7.fund
    obtain ⟨kvs,eA,_,hv⟩:=R7.acc
    obtain ⟨dx0,ig0,f0,_⟩:=R7.at lt0
    have eat:atI (g.rfs (grpOf S p ks).left) 0=some (.ref (g.ra i0)):=by rw [e0];exact atI_nat (j:=0) rfl
    have hva:=hv ((acc0 S ks:Nat):Int)
    have eacc:accAt S ((acc0 S ks:Nat):Int)=some x:=by
      unfold accAt;rw [if_neg (by omega),Int.toNat_natCast];exact hx
    rw [eacc] at hva
    obtain ⟨ao,hvo,dxa,eao⟩:=acc_get hva
    have eai:(Vbfuao.entryAt S i0).account=acc0 S ks:=hacc i0 hi0
    refine (Ze rfl ?_)
    rw [abs_nat]
    refine (Ze rfl (Zf eF7 T.cl_Fund T.na_Fund_accounts rfl (Ze rfl ⟨_,_,_,_,rfl,rfl,SqL.of (m7.get eL),eat,(Zf f0 T.cl_Entry T.na_Entry_account rfl ⟨g.A,Ze rfl ⟨(by rw [eai];have z:=DGet.k (k:=Sum.inl ((acc0 S ks:Nat):Int)) eA;rw [hvo] at z;exact z),Zf eao T.cl_Account T.na_Account_tolerance rfl (Zo rfl rfl (Ze rfl ?_))⟩⟩)⟩)))
    have egap:Vbfuao.gapOf S (grpOf S p ks)=Vbfuao.sumOf S (grpOf S p ks).left - Vbfuao.sumOf S (grpOf S p ks).right:=rfl
    rw [egap] at es
    refine ite3 (fun c7=>?_) (fun c7=>?_)
    · rw [if_pos (by omega)] at es
      exact ⟨small_list,no es m17⟩
    rw [if_neg (by omega)] at es
    refine (Ze rfl (Zm eF7 rfl ⟨g,S,1,rfl,R7,Ze rfl ?_⟩))
    refine ite3n (fun c8=>?_) (fun c8=>?_)
    · rw [if_pos (by omega)] at es
      exact ⟨small_list,no es m17⟩
    rw [if_neg (by omega)] at es
    have gok:GOk S (grpOf S p ks):=by
      refine ⟨hp,fun q=>hne (.inl q),hnd.filter _,hnd.filter _,fun i h1 h2=>?_,fun i hi=>there_lt (hth i (memB i hi)),fun i hi=>hth i (memB i hi),fun i hi=>?_,by omega⟩
      · have a1:=(List.mem_filter.mp h1).2
        have a2:=(List.mem_filter.mp h2).2
        have e1:=beq_iff_eq.mp a1
        have e2:=beq_iff_eq.mp a2
        rw [e1] at e2
        unfold Vbfuao.leftBook Vbfuao.rightBook at e2
        split at e2 <;> split at e2 <;> omega
      · have:=hall i (memB i hi)
        unfold okN at this
        simp only [Bool.and_eq_true] at this
        exact Option.isNone_iff_eq_none.mp this.2.2.2
    have fL:H L=none:=m14.free L hL
    have fL2:H L2=none:=m15.free L2 hL2
    refine (Ze rfl (Zm eF7 rfl (Ze rfl (Ze rfl (Ze rfl ⟨g,S,grpOf S p ks,L,L2,by rw [eb];rfl,R7,gok,rfl,hacc,side_new R7 (m7.get eL) (fresh_nown R fL),side_new R7 (m7.get eL2) (fresh_nown R fL2),fun H8 g8 R8 mv8 eF8 _=>⟨small_list,fun q hq=>?_⟩⟩)))))
    exact k'.ret es R8 ((Mv.of m17).trans mv8) eF8 hq
end
end TB
set_option maxHeartbeats 1000000
namespace TB
open Vbfuao (groupOf members entryAt accountAt withGroups breaksOf leftBook rightBook)
def mkG (p a:Nat) (g:Grp):Vbfuao.Group:={ pair:=p,account:=a,left:=g.1,right:=g.2,holds:=true }
theorem wg_snoc (s:State) (p a:Nat) (l:List Grp) (x:Grp):withGroups s p a (l++[x])=addG (withGroups s p a l) (mkG p a x):=by
  unfold withGroups addG
  rw [List.map_append,← List.append_assoc]
  rfl
theorem wg_nil (s:State) (p a:Nat):withGroups s p a []=s:=by
  unfold withGroups
  rw [List.map_nil,List.append_nil]
theorem wg_entries (s:State) (p a:Nat) (l:List Grp):(withGroups s p a l).entries=s.entries:=rfl
theorem wg_len (s:State) (p a:Nat) (l:List Grp):(withGroups s p a l).groups.length=s.groups.length + l.length:=by
  unfold withGroups
  show (s.groups++_).length=_
  rw [List.length_append,List.length_map]
structure PlOk (s:State) (p a:Nat) (L R:List Nat) (l:List Grp):Prop where
  ne:∀ g ∈ l,g.1≠[]
  nl:∀ g ∈ l,g.1.Nodup
  nr:∀ g ∈ l,g.2.Nodup
  ml:∀ g ∈ l,∀ i ∈ g.1,i ∈ L
  mr:∀ g ∈ l,∀ i ∈ g.2,i ∈ R
  ap:l.Pairwise fun g h=>∀ i,i ∈ g.1++g.2→i ∉ h.1++h.2
theorem wg_cons (s:State) (p a:Nat) (x:Grp) (l:List Grp):withGroups s p a (x :: l)=withGroups (addG s (mkG p a x)) p a l:=by
  unfold withGroups addG
  show ({ s with groups:=s.groups++mkG p a x :: _ }:State)={ s with groups:=(s.groups++[mkG p a x])++_ }
  rw [List.append_assoc];rfl
theorem free_wg {p a:Nat}:∀ (l:List Grp) (s:State) (q i:Nat),(∀ k,¬ InG s q i k)→(∀ g ∈ l,i ∉ g.1++g.2)→∀ k,¬ InG (withGroups s p a l) q i k
  | [],s,q,i,h,_,k=>by rw [wg_nil];exact h k
  | x :: l,s,q,i,h,hl,k=>by
    rw [wg_cons]
    refine free_wg l (addG s (mkG p a x)) q i (fun k z=>?_) (fun g hg=>hl g (List.mem_cons_of_mem _ hg)) k
    rcases inG_addG.mp z with z | ⟨_,_,_,m⟩
    · exact h k z
    · exact hl x (List.mem_cons_self ..) m
theorem open_mem {s:State} {p b a i:Nat} (h:i ∈ breaksOf s p b a):i < s.entries.length∧(entryAt s i).there=true∧(entryAt s i).book=b∧(entryAt s i).account=a∧groupOf s p i=none:=by
  obtain ⟨h1,h2⟩:=mem_breaks.mp h
  unfold isOpenB inBook at h2
  simp only [Bool.and_eq_true,beq_iff_eq] at h2
  exact ⟨h1,h2.1.1,h2.1.2.1,h2.1.2.2,Option.isNone_iff_eq_none.mp h2.2⟩
theorem lr_ne {p:Nat}:leftBook p≠rightBook p:=by
  unfold leftBook rightBook
  split <;> split <;> omega
theorem lr_apart {s:State} {p a i:Nat} (h:i ∈ breaksOf s p (leftBook p) a):i ∉ breaksOf s p (rightBook p) a:=fun h2=>by
  have a1:=(open_mem h).2.2.1
  have a2:=(open_mem h2).2.2.1
  exact lr_ne (a1.symm.trans a2)
theorem PlOk.gok {s : State} {p a : Nat} {l : List Grp} (O : PlOk s p a (breaksOf s p (leftBook p) a) (breaksOf s p (rightBook p) a) l) (hp : p ≤ 2) {k : Nat} {x : Grp} (hx : l[k]? = some x) (room : s.groups.length + l.length ≤ 300) :
    GOk (withGroups s p a (l.take k)) (mkG p a x)∧∀ i ∈ x.1,(entryAt (withGroups s p a (l.take k)) i).account=a:=by
  have mx:=List.mem_of_getElem? hx
  have mem:∀ i ∈ x.1++x.2,i < s.entries.length∧(entryAt s i).there=true∧groupOf s p i=none:=fun i hi=>by
    rcases List.mem_append.mp hi with z | z
    · obtain ⟨h1,h2,_,_,h5⟩:=open_mem (O.ml x mx i z);exact ⟨h1,h2,h5⟩
    · obtain ⟨h1,h2,_,_,h5⟩:=open_mem (O.mr x mx i z);exact ⟨h1,h2,h5⟩
  have hlt:k < l.length:=(List.getElem?_eq_some_iff.mp hx).1
  refine ⟨⟨hp,O.ne x mx,O.nl x mx,O.nr x mx,fun i h1 h2=>lr_apart (O.ml x mx i h1) (O.mr x mx i h2),fun i hi=>(mem i hi).1,fun i hi=>(mem i hi).2.1,fun i hi=>?_,?_⟩,fun i hi=>(open_mem (O.ml x mx i hi)).2.2.2.1⟩
  · refine grp_none.mpr (free_wg (l.take k) s p i (grp_none.mp (mem i hi).2.2) fun g hg hig=>?_)
    obtain ⟨n,hn⟩:=List.getElem?_of_mem hg
    have hnk:n < k:=by
      have:=(List.getElem?_eq_some_iff.mp hn).1
      rw [List.length_take] at this;omega
    rw [List.getElem?_take_of_lt hnk] at hn
    obtain ⟨h1,h2⟩:=List.getElem?_eq_some_iff.mp hn
    obtain ⟨h3,h4⟩:=List.getElem?_eq_some_iff.mp hx
    have:=List.pairwise_iff_getElem.mp O.ap n k h1 h3 hnk
    rw [h2,h4] at this
    exact this i hig hi
  · rw [wg_len,List.length_take];omega
def alike (s:State) (i j:Nat):Bool:=(entryAt s j).ref == (entryAt s i).ref&&(entryAt s j).amount == (entryAt s i).amount
def mt (s:State):List Nat→List Nat→List (Nat × Nat)
  | [],_=>[]
  | i :: l,r=>if (entryAt s i).ref=0 then mt s l r else match r.find? (alike s i) with
    | none=>mt s l r
    | some j=>(i,j) :: mt s l (Vbfuao.minus r [j])
def sing (q:Nat × Nat):Grp:=([q.1],[q.2])
theorem byRef_mt (s:State):∀ l r:List Nat,Vbfuao.byRef s l r=(mt s l r).map sing
  | [],_=>rfl
  | i :: l,r=>by
    unfold Vbfuao.byRef mt
    by_cases h:(entryAt s i).ref=0
    · have e:(r.find? fun j=>(entryAt s i).ref != 0&&((entryAt s j).ref == (entryAt s i).ref&&(entryAt s j).amount == (entryAt s i).amount))=none:=by
        rw [List.find?_eq_none]
        intro j _
        rw [h];simp
      rw [e,if_pos h]
      exact byRef_mt s l r
    · have e:(fun j=>(entryAt s i).ref != 0&&((entryAt s j).ref == (entryAt s i).ref&&(entryAt s j).amount == (entryAt s i).amount))=alike s i:=by
        funext j
        have:((entryAt s i).ref != 0)=true:=by simpa using h
        rw [this,Bool.true_and];rfl
      rw [e,if_neg h]
      cases r.find? (alike s i) with
      | none=>exact byRef_mt s l r
      | some j =>
        show ([i],[j]) :: Vbfuao.byRef s l (Vbfuao.minus r [j])=sing (i,j) :: (mt s l (Vbfuao.minus r [j])).map sing
        rw [byRef_mt s l (Vbfuao.minus r [j])];rfl
theorem mt_mem (s:State):∀ (l r:List Nat),l.Nodup→r.Nodup→(∀ q ∈ mt s l r,q.1 ∈ l∧q.2 ∈ r)∧(mt s l r).Pairwise fun q q'=>q.1≠q'.1∧q.2≠q'.2
  | [],_,_,_=>by
    unfold mt
    exact ⟨fun q h=>(nomatch h),List.Pairwise.nil⟩
  | i :: l,r,hl,hr=>by
    obtain ⟨hi,hl'⟩:=List.nodup_cons.mp hl
    unfold mt
    split
    · obtain ⟨h1,h2⟩:=mt_mem s l r hl' hr
      exact ⟨fun q hq=>⟨List.mem_cons_of_mem _ (h1 q hq).1,(h1 q hq).2⟩,h2⟩
    · split
      · obtain ⟨h1,h2⟩:=mt_mem s l r hl' hr
        exact ⟨fun q hq=>⟨List.mem_cons_of_mem _ (h1 q hq).1,(h1 q hq).2⟩,h2⟩
      · rename_i j hj
        have hjr:=List.mem_of_find?_eq_some hj
        obtain ⟨h1,h2⟩:=mt_mem s l (Vbfuao.minus r [j]) hl' (hr.sublist (minus_sub _ _))
        refine ⟨fun q hq=>?_,List.pairwise_cons.mpr ⟨fun q hq=>?_,h2⟩⟩
        · rcases List.mem_cons.mp hq with rfl | hq
          · exact ⟨List.mem_cons_self ..,hjr⟩
          · exact ⟨List.mem_cons_of_mem _ (h1 q hq).1,(mem_minus.mp (h1 q hq).2).1⟩
        · refine ⟨fun e=>hi ?_,fun e=>(mem_minus.mp (h1 q hq).2).2 ?_⟩
          · have e':i=q.1:=e
            rw [e'];exact (h1 q hq).1
          · have e':j=q.2:=e
            rw [e'];exact List.mem_singleton.mpr rfl
theorem mt_ok {s:State} {p a:Nat}:PlOk s p a (breaksOf s p (leftBook p) a) (breaksOf s p (rightBook p) a) ((mt s (breaksOf s p (leftBook p) a) (breaksOf s p (rightBook p) a)).map sing):=by
  obtain ⟨h1,h2⟩:=mt_mem s _ _ (breaks_nodup s p (leftBook p) a) (breaks_nodup s p (rightBook p) a)
  have get:∀ g ∈ (mt s (breaksOf s p (leftBook p) a) (breaksOf s p (rightBook p) a)).map sing,∃ q ∈ mt s (breaksOf s p (leftBook p) a) (breaksOf s p (rightBook p) a),g=sing q:=fun g hg=>by
    obtain ⟨q,hq,rfl⟩:=List.mem_map.mp hg
    exact ⟨q,hq,rfl⟩
  refine ⟨fun g hg=>?_,fun g hg=>?_,fun g hg=>?_,fun g hg i hi=>?_,fun g hg i hi=>?_,?_⟩
  · obtain ⟨q,_,rfl⟩:=get g hg;simp [sing]
  · obtain ⟨q,_,rfl⟩:=get g hg;simp [sing]
  · obtain ⟨q,_,rfl⟩:=get g hg;simp [sing]
  · obtain ⟨q,hq,rfl⟩:=get g hg
    rw [List.mem_singleton.mp hi];exact (h1 q hq).1
  · obtain ⟨q,hq,rfl⟩:=get g hg
    rw [List.mem_singleton.mp hi];exact (h1 q hq).2
  · rw [List.pairwise_map]
    refine h2.imp_of_mem fun {q q'} hq hq' hne i hi hi'=>?_
    have b1:=h1 q hq
    have b2:=h1 q' hq'
    simp [sing] at hi hi'
    rcases hi with rfl | rfl
    · rcases hi' with e | e
      · exact hne.1 e
      · exact lr_apart b1.1 (by rw [e];exact b2.2)
    · rcases hi' with e | e
      · exact lr_apart b2.1 (by rw [← e];exact b1.2)
      · exact hne.2 e
theorem erase_minus:∀ {l:List Nat} {n j:Nat},l.Nodup→l[n]? = some j→l.eraseIdx n=Vbfuao.minus l [j]
  | [],n,j,_,h=>by simp at h
  | a :: l,0,j,hn,h=>by
    have e:a=j:=Option.some.inj h
    subst e
    obtain ⟨h1,_⟩:=List.nodup_cons.mp hn
    unfold Vbfuao.minus
    rw [List.eraseIdx_cons_zero,List.filter_cons,if_neg (by simp)]
    refine (List.filter_eq_self.mpr fun x hx=>?_).symm
    have:x≠a:=fun q=>h1 (by rw [← q];exact hx)
    simpa using this
  | a :: l,n + 1,j,hn,h=>by
    obtain ⟨h1,h2⟩:=List.nodup_cons.mp hn
    have ih:=erase_minus h2 h
    have hm:j ∈ l:=List.mem_of_getElem? h
    have:a≠j:=fun q=>h1 (by rw [q];exact hm)
    unfold Vbfuao.minus at ih ⊢
    rw [List.eraseIdx_cons_succ,List.filter_cons,if_pos (by simpa using this),ih]
end TB
namespace TB
open PySem PySem.Spec PyProof.Rows L2
open PySem.W (Codec)
section
variable {P:Program} {w:World} {K:PySem.W.Frag} {mg:Str→Option Value} {base:Heap}
theorem decZ (a b:Int):decide (V.int a=V.int b)=(a == b):=by rw [Bool.eq_iff_iff];simp
def optV (g:Gh) (o:Option Nat):V:=match o with
  | none=>.non
  | some j=>g.rf j
def sp_first_alike (T:Txt K mg):Sp:=fun vs H Q _=>∃ (g:Gh) (s:State) (i:Nat) (l:Addr) (js:List Nat),vs=[g.rf i,.ref l]∧Rep T H g s∧i < s.entries.length∧LstAt H g s l js∧Q (optV g (js.find? (alike s i))) H
theorem find_take {α : Type} (f : α→Bool):∀ {l:List α} {n:Nat} {x : α},l[n]? = some x→(l.take n).find? f=none→f x=true→l.find? f=some x
  | [],n,x,h,_,_=>by simp at h
  | a :: l,0,x,h,_,hf=>by
    have e:a=x:=Option.some.inj h
    subst e
    rw [List.find?_cons,hf]
  | a :: l,n + 1,x,h,hn,hf=>by
    rw [List.take_succ_cons,List.find?_cons] at hn
    cases ha:f a with
    | true=>rw [ha] at hn;cases hn
    | false =>
      rw [ha] at hn
      rw [List.find?_cons,ha]
      exact find_take f h hn hf
theorem ok_first_alike (T:Txt K mg):FnOk P w K mg base CX0 1 T.f_first_alike.f T.f_first_alike.fd ["entry", "others"] (sp_first_alike T):=by
  refine T.f_first_alike.F.ok sc_first_alike (fun vs H Q E h=>?_) (fun cdv A outer s H vs Q E hr h=>?_)
  · obtain ⟨_,_,_,_,_,rfl,_⟩:=h;rfl
  · obtain ⟨g,S,i,l,js,rfl,R,hi,hl,k⟩:=h
    refine ⟨_, (pss_cons (ps_for PassesOwn.never rfl (pi_list (pv 1)) (pg_name (i := 2) sc_first_alike.nd rfl (Or.inl rfl))
        (pss_one (ps_if (PW.pt (pw_and (pt_cmpR op_eq (pe_fld (pv 2) rfl) (pe_fld (pv 0) rfl) (nomark _)) (pw_and1 (pt_cmpR op_eq (pe_fld (pv 2) rfl) (pe_fld (pv 0) rfl) (nomark _))))) (pss_one (ps_ret (pv 2))) pss_nil)))
      (pss_one (ps_ret pe_non))),?_⟩
    obtain ⟨dx,ig,e1,_⟩:=R.at hi
    refine ⟨_,rfl,l,rfl,⟨_,SqL.of hl.at_⟩,for_list (K:=K) (a:=l) (xs:=g.rfs js) (fun j σ H'=>∃ v,σ = [some (g.rf i),some (.ref l),v]∧H'=H∧(js.take j).find? (alike S i)=none)
      ⟨_,rfl,rfl,rfl⟩ (fun j σ H' _ ⟨_,_,e,_⟩=>by rw [e];exact SqL.of hl.at_) ?_ ?_⟩
    · rintro j v σ H' hj ⟨v0,rfl,rfl,hno⟩
      unfold Gh.rfs at hj
      rw [List.getElem?_map] at hj
      cases ej:js[j]? with
      | none=>rw [ej] at hj;cases hj
      | some x =>
        rw [ej] at hj
        obtain rfl:g.rf x=v:=Option.some.inj hj
        obtain ⟨dx2,ig2,e2,_⟩:=R.at (hl.ok x (List.mem_of_getElem? ej))
        have next:alike S i x=false→((js.take (j + 1)).find? (alike S i))=none:=fun h=>by
          have et:js.take (j + 1)=js.take j++[x]:=by rw [List.take_add_one,ej];rfl
          rw [et,List.find?_append,hno,List.find?_cons,h];rfl
        have yes:alike S i x=true→js.find? (alike S i)=some x:=fun h=>find_take _ ej hno h
        unfold alike at next yes
        refine (Ze rfl (Zf e2 T.cl_Entry T.na_Entry_reference rfl (Ze rfl (Zf e1 T.cl_Entry T.na_Entry_reference rfl ⟨rfl,Ze rfl ?_⟩))))
        rw [decI]
        refine iteb (fun c1=>?_) (fun c1=>iteF (Ze rfl ⟨rfl,next (by rw [c1];rfl)⟩))
        refine (Ze rfl (Zf e2 T.cl_Entry T.na_Entry_amount rfl (Ze rfl (Zf e1 T.cl_Entry T.na_Entry_amount rfl ⟨rfl,Ze rfl ?_⟩))))
        rw [decZ]
        refine iteb (fun c2=>(Ze rfl ?_)) (fun c2=>(Ze rfl ⟨rfl,next (by rw [c1,c2];rfl)⟩))
        have:=yes (by rw [c1,c2];rfl)
        unfold alike at k
        rw [this] at k
        exact k
    · rintro σ H' ⟨v0,rfl,rfl,hno⟩
      rw [len_rfs,List.take_length] at hno
      rw [hno] at k
      exact k
def TupsAt (H:Hp) (g:Gh) (ts:List Addr) (qs:List (Nat × Nat)):Prop:=ts.length=qs.length∧∀ (n:Nat) t q,ts[n]? = some t→qs[n]? = some q→H t=some (.tup [g.rf q.1,g.rf q.2])
def sp_reference_matches (T:Txt K mg):Sp:=fun vs H Q _=>∃ (g:Gh) (s:State) (l r:Addr) (ls rs:List Nat),vs=[.ref l,.ref r]∧Rep T H g s∧LstAt H g s l ls∧LstAt H g s r rs∧rs.Nodup ∧
  ∀ H' d ts,Sm H H'→H d=none→H' d=some (.lst (ts.map V.ref))→TupsAt H' g ts (mt s ls rs)→(∀ t ∈ ts,H t=none)→Q (.ref d) H'
theorem mt_len (s:State):∀ l r:List Nat,(mt s l r).length≤l.length
  | [],_=>Nat.le_refl _
  | i :: l,r=>by
    unfold mt
    have h1:=mt_len s l r
    split
    · rw [List.length_cons];omega
    · split
      · rw [List.length_cons];omega
      · rename_i j _
        have:=mt_len s l (Vbfuao.minus r [j])
        rw [List.length_cons,List.length_cons];omega
theorem map_eraseN {α β : Type} (f : α→β):∀ (l:List α) (n:Nat),(l.map f).eraseIdx n=(l.eraseIdx n).map f
  | [],_=>rfl
  | _ :: _,0=>rfl
  | a :: l,n + 1=>by rw [List.map_cons,List.eraseIdx_cons_succ,List.eraseIdx_cons_succ,List.map_cons,map_eraseN f l n]
theorem ok_reference_matches (T:Txt K mg):FnOk P w K mg base CX0 2 T.f_reference_matches.f T.f_reference_matches.fd ["lefts", "rights"] (sp_reference_matches T):=by
  have G_first_alike:=ok_first_alike (P:=P) (w:=w) (base:=base) T
  refine T.f_reference_matches.F.ok sc_reference_matches (fun vs H Q E h=>?_) (fun cdv A outer s H vs Q E hr h=>?_)
  · obtain ⟨_,_,_,_,_,_,rfl,_⟩:=h;rfl
  · obtain ⟨g,S,l,r,ls,rs,rfl,R,hl,hr',hnd,k⟩:=h
    refine ⟨_,(pss_cons (ps_set (i:=2) sc_reference_matches.nd rfl (Or.inl rfl) (pe_lst pa_nil))
      (pss_cons (ps_set (i:=3) sc_reference_matches.nd rfl (Or.inl rfl) (pe_callTy call_list_of rfl T.n_list TB.boot_list (pa_cons (pv 1) pa_nil)))
      (pss_cons (ps_for PassesOwn.never rfl (pi_list (pv 0)) (pg_name (i:=4) sc_reference_matches.nd rfl (Or.inl rfl))
        (pss_cons (ps_set (i:=5) sc_reference_matches.nd rfl (Or.inl rfl) (pe_call G_first_alike (hr.mono (by decide)) rfl T.m_first_alike T.f_first_alike.kp T.f_first_alike.b .nil pass0 (pa_cons (pv 4) (pa_cons (pv 3) pa_nil))))
      (pss_one (ps_if (PW.pt (pw_and (pt_cmpR op_ne (pe_fld (pv 4) rfl) pe_int (nomark _)) (pw_and1 (pt_cmp (pc_notN (pv 5)))))) (pss_cons (ps_expr (pe_bm PySem.F.plainAttrs_list PySem.F.slot_list_append PySem.F.type_list_append mt_append (pv 2) (pa_cons (pe_tup (pa_cons (pv 4) (pa_cons (pv 5) pa_nil))) pa_nil)))
      (pss_one (ps_expr (pe_bm PySem.F.plainAttrs_list PySem.F.slot_list_remove PySem.F.type_list_remove (mt_remove T.cmp hr.units) (pv 3) (pa_cons (pv 5) pa_nil))))) pss_nil))))
      (pss_one (ps_ret (pv 2)))))),?_⟩
    refine ⟨small_list,fun M hM=>?_⟩
    have m1:Sm H (upd H M (.lst [])):=Sx.new hM
    refine (Ze rfl ⟨r,Ze rfl ⟨.inl (SqL.of (m1.get hr'.at_)),fun Fr hF=>?_⟩⟩)
    have m2:Sm (upd H M (.lst [])) (upd (upd H M (.lst [])) Fr (.lst (g.rfs rs))):=Sx.new hF
    have fF:=m1.free _ hF
    have nMF:M≠Fr:=ne_of_none upd_same hF
    generalize hH2:upd (upd H M (.lst [])) Fr (.lst (g.rfs rs))=H2 at m2
    have eM:H2 M=some (.lst []):=by rw [← hH2,upd_ne nMF,upd_same]
    have eF:H2 Fr=some (.lst (g.rfs rs)):=by rw [← hH2,upd_same]
    have m12:=m1.trans m2
    refine ⟨_,rfl,l,rfl,⟨_,SqL.of (m12.get hl.at_)⟩,for_list (K:=K) (a:=l) (xs:=g.rfs ls) (fun n σ H'=>∃ v5 v4,σ = [some (.ref l),some (.ref r),some (.ref M),some (.ref Fr),v4,v5]∧Sm H H'∧∃ ts qs fr,H' M=some (.lst (ts.map V.ref))∧H' Fr=some (.lst (g.rfs fr))∧TupsAt H' g ts qs∧mt S ls rs=qs++mt S (ls.drop n) fr∧fr.Sublist rs∧(∀ t ∈ ts,H t=none)∧(∀ t ∈ ts,t≠M∧t≠Fr)∧ts.length≤n)
      ⟨none,none,rfl,m12,[],[],rs,eM,eF,⟨rfl,fun n t q h=>by simp at h⟩,rfl,List.Sublist.refl _,fun t h=>(nomatch h),fun t h=>(nomatch h),Nat.zero_le _⟩ (fun j σ H' _ ⟨_,_,_,m,_⟩=>SqL.of (m.get hl.at_)) ?_ ?_⟩
    · rintro n v σ H' hn ⟨v5,v4,rfl,m,ts,qs,fr,cM,cF,ht,hmt,hsub,hfresh,hne,htl⟩
      unfold Gh.rfs at hn
      rw [List.getElem?_map] at hn
      cases en:ls[n]? with
      | none=>rw [en] at hn;cases hn
      | some i =>
        rw [en] at hn
        obtain rfl:g.rf i=v:=Option.some.inj hn
        have hnl:n < ls.length:=(List.getElem?_eq_some_iff.mp en).1
        have hi:=hl.ok i (List.mem_of_getElem? en)
        have R':=R.keep m
        obtain ⟨dx,ig,e1,_⟩:=R'.at hi
        have lfr:LstAt H' g S Fr fr:=⟨cF,fun x hx=>hr'.ok x (hsub.mem hx),Nat.le_trans hsub.length_le hr'.len⟩
        have edrop:ls.drop n=i :: ls.drop (n + 1):=by
          rw [List.drop_eq_getElem_cons hnl]
          congr 1
          exact (List.getElem?_eq_some_iff.mp en).2
        rw [edrop] at hmt
        refine (Ze rfl (Ze rfl ⟨g,S,i,Fr,fr,rfl,R',hi,lfr,?_⟩))
        refine (Ze rfl (Zf e1 T.cl_Entry T.na_Entry_reference rfl ⟨rfl,Ze rfl ?_⟩))
        have same:mt S (i :: ls.drop (n + 1)) fr=mt S (ls.drop (n + 1)) fr→∃ v5 v4,[some (V.ref l),some (.ref r),some (.ref M),some (.ref Fr),some (g.rf i),some (optV g (fr.find? (alike S i)))]=[some (.ref l),some (.ref r),some (.ref M),some (.ref Fr),v4,v5]∧Sm H H'∧∃ ts qs fr,H' M=some (.lst (ts.map V.ref))∧H' Fr=some (.lst (g.rfs fr))∧TupsAt H' g ts qs∧mt S ls rs=qs++mt S (ls.drop (n + 1)) fr∧fr.Sublist rs∧(∀ t ∈ ts,H t=none)∧(∀ t ∈ ts,t≠M∧t≠Fr)∧ts.length≤n + 1:=fun h =>
          ⟨_,_,rfl,m,ts,qs,fr,cM,cF,ht,by rw [hmt,h],hsub,hfresh,hne,by omega⟩
        have d0:(!decide (V.int ((Vbfuao.entryAt S i).ref:Nat)=V.int 0)) = !decide ((Vbfuao.entryAt S i).ref=0):=by
          congr 1;rw [decide_eq_decide];simp
        rw [d0]
        refine ite3n (fun c1=>?_) (fun c1=>iteF (same (by conv=>lhs;unfold mt;rw [if_pos c1])))
        refine (Ze rfl (Ze rfl ?_))
        cases ef:fr.find? (alike S i) with
        | none =>
          have h:=same (by conv=>lhs;unfold mt;rw [if_neg c1,ef])
          rw [ef] at h
          exact iteF h
        | some j =>
          refine iteT ?_
          have hj:=List.mem_of_find?_eq_some ef
          obtain ⟨n1,hn1⟩:=List.getElem?_of_mem hj
          have tl:=ht.1
          have htl2:ts.length < 2000:=by have:=hl.len;omega
          refine (Ze rfl ⟨.inl ⟨rfl,_,SqL.of cM⟩,Ze rfl (Ze rfl ⟨small_list,fun t htn=>?_⟩)⟩)
          have m3:Sm H' (upd H' t (.tup [g.rf i,optV g (some j)])):=Sx.new htn
          have ntM:M≠t:=ne_of_none cM htn
          have ntF:Fr≠t:=ne_of_none cF htn
          refine ⟨M,Zo rfl rfl ⟨m3.get cM,by rw [List.length_map];exact sz (by omega),?_⟩⟩
          generalize hH4:upd (upd H' t (.tup [g.rf i,optV g (some j)])) M (.lst (ts.map V.ref++[.ref t]))=H4
          have m4:Sm H H4:=by rw [← hH4];exact (m.trans m3).put_new hM (m3.get cM)
          have cF4:H4 Fr=some (.lst (g.rfs fr)):=by rw [← hH4,upd_ne (Ne.symm nMF)];exact m3.get cF
          have cM4:H4 M=some (.lst ((ts++[t]).map V.ref)):=by rw [← hH4,upd_same,List.map_append];rfl
          have ct4:H4 t=some (.tup [g.rf i,g.rf j]):=by rw [← hH4,upd_ne (Ne.symm ntM),upd_same];rfl
          have fnd:=hsub.nodup hnd
          have efr:g.rfs fr=(fr.map g.ra).map V.ref:=by unfold Gh.rfs;rw [List.map_map];rfl
          have R4:=R.keep m4
          refine (Ze rfl ⟨.inl ⟨rfl,_,SqL.of cF4⟩,Ze rfl ⟨Fr,fr.map g.ra,g.ra j,n1,rfl,rfl,by rw [← efr];exact cF4,by rw [List.getElem?_map,hn1];rfl,fun n2 b hlt hb=>?_,fun b hb=>?_,?_⟩⟩)
          · rw [List.getElem?_map] at hb
            cases e2:fr[n2]? with
            | none=>rw [e2] at hb;cases hb
            | some x =>
              rw [e2] at hb
              obtain rfl:g.ra x=b:=Option.some.inj hb
              intro q
              have:=ra_inj R (lfr.ok x (List.mem_of_getElem? e2)) (lfr.ok j hj) q
              subst this
              have:=nd_ix fnd e2 hn1
              omega
          · obtain ⟨x,hx,rfl⟩:=List.mem_map.mp hb
            obtain ⟨dx3,ig3,e3,_⟩:=R4.at (lfr.ok x hx)
            exact ⟨dx3,_,e3⟩
          · have eer:(fr.map g.ra).eraseIdx n1=(Vbfuao.minus fr [j]).map g.ra:=by
              rw [← erase_minus fnd hn1,map_eraseN]
            refine ⟨_,_,rfl,m4.put_new fF cF4,ts++[t],qs++[(i,j)],Vbfuao.minus fr [j],?_,?_,⟨by rw [List.length_append,List.length_append,tl];rfl,fun n2 t2 q2 h1 h2=>?_⟩,?_,(minus_sub _ _).trans hsub,fun t2 h2=>?_,fun t2 h2=>?_,?_⟩
            · rw [upd_ne nMF];exact cM4
            · rw [upd_same,eer];unfold Gh.rfs;rw [List.map_map];rfl
            · by_cases hlt:n2 < ts.length
              · rw [List.getElem?_append_left hlt] at h1
                rw [List.getElem?_append_left (by rw [← tl];exact hlt)] at h2
                have hm:=List.mem_of_getElem? h1
                have e5:=m3.get (ht.2 n2 t2 q2 h1 h2)
                rw [upd_ne (hne t2 hm).2,← hH4,upd_ne (hne t2 hm).1]
                exact e5
              · rw [List.getElem?_append_right (by omega)] at h1
                rw [List.getElem?_append_right (by omega)] at h2
                have:n2 - ts.length=0:=by
                  have:=(List.getElem?_eq_some_iff.mp h1).1
                  simp at this;omega
                rw [this] at h1
                rw [← tl,this] at h2
                cases h1;cases h2
                rw [upd_ne (Ne.symm ntF)];exact ct4
            · rw [hmt,List.append_assoc]
              congr 1
              conv=>lhs;unfold mt
              rw [if_neg c1,ef];rfl
            · rcases List.mem_append.mp h2 with z | z
              · exact hfresh t2 z
              · rw [List.mem_singleton.mp z];exact m.free _ htn
            · rcases List.mem_append.mp h2 with z | z
              · exact hne t2 z
              · rw [List.mem_singleton.mp z];exact ⟨Ne.symm ntM,Ne.symm ntF⟩
            · rw [List.length_append,List.length_singleton];omega
    · rintro σ H' ⟨v5,v4,rfl,m,ts,qs,fr,cM,cF,ht,hmt,hsub,hfresh,hne,htl⟩
      rw [len_rfs,List.drop_length] at hmt
      have e0:mt S [] fr=[]:=by unfold mt;rfl
      rw [e0,List.append_nil] at hmt
      refine (Ze rfl ?_)
      exact k H' M ts m hM cM (by rw [hmt];exact ht) hfresh
end
end TB
namespace TB
open PySem PySem.Spec PyProof.Rows L2
open PySem.W (Codec)
section
variable {P:Program} {w:World} {K:PySem.W.Frag} {mg:Str→Option Value} {base:Heap}
def sp_pair_by_reference (T:Txt K mg):Sp:=sp_ask2 .byref T
theorem rf_es {g g':Gh} (h:g'.es=g.es) (i:Nat):g'.rf i=g.rf i:=by unfold Gh.rf Gh.ra;rw [h]
theorem rfs_es {g g':Gh} (h:g'.es=g.es) (ps:List Nat):g'.rfs ps=g.rfs ps:=by unfold Gh.rfs;exact List.map_congr_left fun i _=>rf_es h i
theorem step_byref {s : State} {b z : Int} (h : rr s b z = 0) : Vbfuao.step s (.byref b z) = if 300 < s.groups.length + (mt s (lefts s b.toNat z.toNat) (rights s b.toNat z.toNat)).length then (s, [-3]) else
    (Vbfuao.withGroups s b.toNat z.toNat ((mt s (lefts s b.toNat z.toNat) (rights s b.toNat z.toNat)).map sing),[((mt s (lefts s b.toNat z.toNat) (rights s b.toNat z.toNat)).length:Int)]):=by
  obtain ⟨x,e,_⟩:=wr0 (f:=fun _ a=>(let o:=Vbfuao.openBoth s b.toNat a;let l:=Vbfuao.byRef s o.1 o.2;if Vbfuao.MOSTGROUPS < s.groups.length + l.length then Vbfuao.no s (-3) else (Vbfuao.withGroups s b.toNat a l,[(l.length:Int)]))) h
  have e':Vbfuao.step s (.byref b z)=_:=e
  rw [e']
  dsimp only [Vbfuao.openBoth]
  rw [byRef_mt,List.length_map]
  rfl
theorem ok_pair_by_reference (T:Txt K mg):FnOk P w K mg base CX0 10 T.f_pair_by_reference.f T.f_pair_by_reference.fd ["fund", "p", "a"] (sp_pair_by_reference T):=by
  have G_Fund_add_group:=ok_Fund_add_group (P:=P) (w:=w) (base:=base) T
  have G_Fund_has_room_for_groups:=ok_Fund_has_room_for_groups (P:=P) (w:=w) (base:=base) T
  have G_reference_matches:=ok_reference_matches (P:=P) (w:=w) (base:=base) T
  have G_Fund_open_right:=ok_Fund_open_right (P:=P) (w:=w) (base:=base) T
  have G_Fund_open_left:=ok_Fund_open_left (P:=P) (w:=w) (base:=base) T
  have G_range_refusal:=ok_range_refusal (P:=P) (w:=w) (base:=base) T
  refine T.f_pair_by_reference.F.ok sc_pair_by_reference (fun vs H Q E h=>?_) (fun cdv A outer s H vs Q E hr h=>?_)
  · obtain ⟨_,_,_,_,rfl,_⟩:=h;rfl
  · obtain ⟨g,S,b,z,rfl,R,k⟩:=h
    refine ⟨_,(pss_cons (ps_set (i:=3) sc_pair_by_reference.nd rfl (Or.inl rfl) (pe_call G_range_refusal (hr.mono (by decide)) rfl T.m_range_refusal T.f_range_refusal.kp T.f_range_refusal.b .nil pass0 (pa_cons (pv 0) (pa_cons (pv 1) (pa_cons (pv 2) pa_nil)))))
      (pss_cons (ps_if (pt_cmpR op_ne (pv 3) pe_int (nomark _)) (pss_one (ps_ret (pe_lst (pa_cons (pv 3) pa_nil)))) pss_nil)
      (pss_cons (ps_set (i:=4) sc_pair_by_reference.nd rfl (Or.inl rfl) (pe_call G_reference_matches (hr.mono (by decide)) rfl T.m_reference_matches T.f_reference_matches.kp T.f_reference_matches.b .nil pass0 (pa_cons (pe_meth (pv 0) T.cl_Fund T.me_Fund_open_left G_Fund_open_left (hr.mono (by decide)) T.f_Fund_open_left.b .nil pass0 (pa_cons (pv 1) (pa_cons (pv 2) pa_nil))) (pa_cons (pe_meth (pv 0) T.cl_Fund T.me_Fund_open_right G_Fund_open_right (hr.mono (by decide)) T.f_Fund_open_right.b .nil pass0 (pa_cons (pv 1) (pa_cons (pv 2) pa_nil))) pa_nil))))
      (pss_cons (ps_if (pt_not (pt_val (pe_meth (pv 0) T.cl_Fund T.me_Fund_has_room_for_groups G_Fund_has_room_for_groups (hr.mono (by decide)) T.f_Fund_has_room_for_groups.b .nil pass0 (pa_cons (pe_callB call_len_seq rfl T.n_len PySem.boot_len (pa_cons (pv 4) pa_nil)) pa_nil)))) (pss_one (ps_ret (pe_lst (pa_cons (pe_gint rfl T.g_FULL) pa_nil)))) pss_nil)
      (pss_cons (ps_for PassesOwn.never rfl (pi_list (pv 4)) (pg_tup rfl (pgs_cons (pg_name (i:=5) sc_pair_by_reference.nd rfl (Or.inl rfl)) (pgs_cons (pg_name (i:=6) sc_pair_by_reference.nd rfl (Or.inl rfl)) pgs_nil)))
        (pss_one (ps_expr (pe_meth (pv 0) T.cl_Fund T.me_Fund_add_group G_Fund_add_group (hr.mono (by decide)) T.f_Fund_add_group.b .nil pass0 (pa_cons (pv 1) (pa_cons (pe_lst (pa_cons (pv 5) pa_nil)) (pa_cons (pe_lst (pa_cons (pv 6) pa_nil)) pa_nil)))))))
      (pss_one (ps_ret (pe_lst (pa_cons (pe_callB call_len_seq rfl T.n_len PySem.boot_len (pa_cons (pv 4) pa_nil)) pa_nil))))))))),?_⟩
    obtain ⟨dF,eF⟩:=R.fund
    refine (Ze rfl (Ze rfl (Ze rfl ⟨g,S,b,z,rfl,R,Ze rfl ⟨rfl,Ze rfl ?_⟩⟩)))
    rw [dec0]
    refine ite3n (fun h0=>?_) (fun h0=>?_)
    · exact (Ze rfl ⟨small_list,fun p hp=>k.ret (ns:=[rr S b z]) (by unfold Vbfuao.step;dsimp only;exact wr h0) R (Mv.of (Sx.refl _)) rfl hp⟩)
    · obtain ⟨_,hz0,hb0,hb2,hp,eb,ez⟩:=rr_zero h0
      have es:=step_byref h0
      have k':Ans T H g S (.byref b z) Q:=k
      rw [h0]
      generalize hbn:b.toNat=p at *
      generalize hzn:z.toNat=a at *
      refine (Ze rfl (Zm eF rfl (Ze rfl (Ze rfl ⟨g,S,p,a,by rw [eb,ez];rfl,R,hp,fun H1 d1 m1 n1 e1=>?_⟩))))
      refine (Ze rfl (Zm (m1.get eF) rfl (Ze rfl (Ze rfl ⟨g,S,p,a,by rw [eb,ez];rfl,R.keep m1,hp,fun H2 d2 m2 n2 e2=>?_⟩))))
      have m12:=m1.trans m2
      have R2:=R.keep m12
      refine ⟨g,S,d1,d2,lefts S p a,rights S p a,rfl,R2,brk_lst R2 (m2.get e1),brk_lst R2 e2,breaks_nodup S p _ a,fun H3 M ts m3 nM cM ht hfresh=>?_⟩
      have m13:=m12.trans m3
      have R3:=R.keep m13
      have ql:(mt S (lefts S p a) (rights S p a)).length≤200:=Nat.le_trans (mt_len S _ _) (brk_len R.wf p _ a)
      generalize hqs:mt S (lefts S p a) (rights S p a)=qs at *
      have tl:=ht.1
      refine (Ze rfl (Zm (m13.get eF) rfl (Ze rfl ⟨_,_,rfl,.inl (SqL.of cM),g,S,qs.length,by rw [List.length_map,tl];rfl,R3,(Ze rfl ?_)⟩)))
      refine ite3n (fun c1=>?_) (fun c1=>?_)
      · rw [if_pos (by omega)] at es
        exact ⟨small_list,fun q hq=>k'.ret es R3 (Mv.of m13) rfl hq⟩
      rw [if_neg (by omega)] at es
      have O:PlOk S p a (Vbfuao.breaksOf S p (Vbfuao.leftBook p) a) (Vbfuao.breaksOf S p (Vbfuao.rightBook p) a) (qs.map sing):=by rw [← hqs];exact mt_ok
      have fM:H M=none:=m12.free _ nM
      have nown:∀ {x:Addr},H x=none→¬ own g x:=fun h=>fresh_nown R h
      refine ⟨_,rfl,M,rfl,⟨_,SqL.of cM⟩,for_list (K:=K) (a:=M) (xs:=ts.map V.ref) (fun n σ H'=>∃ v5 v6 g',σ = [some (.ref g.F),some (.int b),some (.int z),some (.int 0),some (.ref M),v5,v6]∧Rep T H' g' (Vbfuao.withGroups S p a ((qs.map sing).take n))∧Mv g g' H3 H'∧g'.F=g.F∧g'.es=g.es)
        ⟨none,none,g,rfl,by rw [List.take_zero,wg_nil];exact R3,Mv.of (Sx.refl _),rfl,rfl⟩ (fun j σ H' _ ⟨_,_,_,_,_,mv,_⟩=>SqL.of (mv.get (nown fM) cM)) ?_ ?_⟩
      · rintro n v σ H' hn ⟨v5,v6,g',rfl,R',mv,eF',ees⟩
        rw [List.getElem?_map] at hn
        cases en:ts[n]? with
        | none=>rw [en] at hn;cases hn
        | some t =>
          rw [en] at hn
          obtain rfl:V.ref t=v:=Option.some.inj hn
          have hnq:n < qs.length:=by rw [← tl];exact (List.getElem?_eq_some_iff.mp en).1
          obtain ⟨q,hq⟩:∃ q,qs[n]? = some q:=⟨_,List.getElem?_eq_getElem hnq⟩
          have ct:=ht.2 n t q en hq
          have ft:H t=none:=m12.free _ (hfresh t (List.mem_of_getElem? en))
          have ct':=mv.get (nown ft) ct
          have hx:(qs.map sing)[n]? = some (sing q):=by rw [List.getElem?_map,hq];rfl
          obtain ⟨gok,gac⟩:=O.gok hp hx (by rw [List.length_map];exact c1)
          obtain ⟨dF',eFF⟩:=R'.fund
          rw [eF'] at eFF
          refine ⟨t,Ze rfl ⟨SqT.of ct',rfl,_,_,rfl,(Zo rfl rfl ?_)⟩⟩
          refine (Ze rfl (Zm eFF rfl (Ze rfl (Ze rfl ⟨small_list,fun L hL=>(Ze rfl ⟨small_list,fun L2 hL2=>?_⟩)⟩))))
          have a1:Sm H' (upd H' L (.lst [g.rf q.1])):=Sx.new hL
          have a2:Sm (upd H' L (.lst [g.rf q.1])) (upd (upd H' L (.lst [g.rf q.1])) L2 (.lst [g.rf q.2])):=Sx.new hL2
          have Rn:=R'.keep (a1.trans a2)
          have one:∀ i,[g.rf i]=g'.rfs [i]:=fun i=>by unfold Gh.rfs;rw [List.map_singleton,rf_es ees]
          refine ⟨g',_,mkG p a (sing q),L,L2,by rw [eb,eF'];rfl,Rn,gok,rfl,gac,side_new Rn (by show _=some (HO.lst (g'.rfs [q.1]));rw [← one];exact a2.get upd_same) (fresh_nown R' hL),side_new Rn (by show _=some (HO.lst (g'.rfs [q.2]));rw [← one];exact upd_same) (fresh_nown R' (a1.free _ hL2)),fun H5 g5 R5 mv5 eF5 ees5=>?_⟩
          have et:(qs.map sing).take (n + 1)=(qs.map sing).take n++[sing q]:=by rw [List.take_add_one,hx];rfl
          rw [et]
          exact ⟨_,_,g5,rfl,by rw [wg_snoc];exact R5,mv.trans ((Mv.of (a1.trans a2)).trans mv5),eF5.trans eF',ees5.trans ees⟩
      · rintro σ H' ⟨v5,v6,g',rfl,R',mv,eF',ees⟩
        rw [List.length_map,tl,← List.length_map (f:=sing),List.take_length] at R'
        refine (Ze rfl ⟨_,_,rfl,.inl (SqL.of (mv.get (nown fM) cM)),small_list,fun q hq=>?_⟩)
        rw [List.length_map,tl]
        exact k'.ret es R' ((Mv.of m13).trans mv) eF' hq
end
end TB
set_option maxHeartbeats 1000000
namespace TB
open PySem L2
theorem lex_klt:∀ a b:List Int,HT.lexLt a b=klt a b
  | [],[]=>rfl
  | [],_ :: _=>rfl
  | _ :: _,[]=>rfl
  | a :: r,b :: t=>by
    show (if a=b then HT.lexLt r t else decide (a < b))=(if a=b then klt r t else decide (a < b))
    rw [lex_klt r t]
theorem bitAnd_nat (a b:Nat):Builtin.bitAnd (a:Int) (b:Int)=((a &&& b:Nat):Int):=by
  rfl
theorem sub_sub {L A B:List Nat} (hn:L.Nodup) (ha:A.Sublist L) (hb:B.Sublist L) (h:∀ j ∈ A,j ∈ B):A.Sublist B:=by
  have e1:=sub_filter ha hn
  have e2:=sub_filter hb hn
  have e3:A=B.filter fun j=>decide (j ∈ A):=by
    conv=>rhs;rw [e2]
    rw [List.filter_filter]
    conv=>lhs;rw [e1]
    refine List.filter_congr fun j _=>?_
    by_cases hj:j ∈ A
    · simp [hj,h j hj]
    · simp [hj]
  rw [e3]
  exact List.filter_sublist
def subs:List Nat→List (List Nat)
  | []=>[[]]
  | a :: l=>subs l++(subs l).map fun c=>a :: c
theorem mem_subs:∀ {l c:List Nat},c.Sublist l→c ∈ subs l
  | [],c,h=>by rw [List.sublist_nil.mp h];exact List.mem_singleton.mpr rfl
  | a :: l,c,h=>by
    unfold subs
    cases h with
    | cons _ h=>exact List.mem_append_left _ (mem_subs h)
    | cons_cons _ h=>exact List.mem_append_right _ (List.mem_map.mpr ⟨_,mem_subs h,rfl⟩)
theorem len_subs:∀ l:List Nat,(subs l).length=2 ^ l.length
  | []=>rfl
  | a :: l=>by
    unfold subs
    rw [List.length_append,List.length_map,len_subs l,List.length_cons,Nat.pow_succ];omega
theorem sub_snoc {c q:List Nat} {e:Nat}:c.Sublist (q++[e])↔c.Sublist q∨∃ c',c=c'++[e]∧c'.Sublist q:=by
  constructor
  · intro h
    obtain ⟨l1,l2,rfl,h1,h2⟩:=List.sublist_append_iff.mp h
    cases h2 with
    | cons _ h2 =>
      rw [List.sublist_nil.mp h2,List.append_nil];exact .inl h1
    | cons_cons _ h2 =>
      rw [List.sublist_nil.mp h2];exact .inr ⟨l1,rfl,h1⟩
  · rintro (h | ⟨c',rfl,h⟩)
    · exact h.trans (List.sublist_append_left _ _)
    · exact h.append (List.Sublist.refl _)
def grow (k:Nat) (f:List (List Nat)) (e:Nat):List (List Nat):=f++(f.filter fun c=>decide (c.length < k)).map fun c=>c++[e]
def found (k:Nat) (ps:List Nat):List (List Nat):=ps.foldl (grow k) [[]]
theorem found_snoc (k:Nat) (ps:List Nat) (e:Nat):found k (ps++[e])=grow k (found k ps) e:=by
  unfold found
  rw [List.foldl_append];rfl
theorem found_len (k:Nat):∀ (ps:List Nat) (f:List (List Nat)),(ps.foldl (grow k) f).length≤f.length * 2 ^ ps.length
  | [],f=>by simp
  | e :: ps,f=>by
    rw [List.foldl_cons]
    refine Nat.le_trans (found_len k ps _) ?_
    have h:(grow k f e).length≤f.length * 2:=by
      unfold grow
      rw [List.length_append,List.length_map]
      have:=List.length_filter_le (fun c:List Nat=>decide (c.length < k)) f
      omega
    rw [List.length_cons,Nat.pow_succ,Nat.mul_comm (2 ^ _) 2,← Nat.mul_assoc]
    exact Nat.mul_le_mul_right _ h
theorem snoc_ind {Pr:List Nat→Prop} (h0:Pr []) (h1:∀ l e,Pr l→Pr (l++[e])) (l:List Nat):Pr l:=by
  have:∀ m:List Nat,Pr m.reverse:=fun m=>by
    induction m with
    | nil=>exact h0
    | cons a m ih=>rw [List.reverse_cons];exact h1 _ _ ih
  have z:=this l.reverse
  rw [List.reverse_reverse] at z
  exact z
theorem mem_found (k:Nat) (ps:List Nat):∀ c,c ∈ found k ps↔c.Sublist ps∧c.length≤k:=by
  induction ps using snoc_ind with
  | h0 =>
    intro c
    show c ∈ [[]]↔_
    rw [List.mem_singleton]
    constructor
    · rintro rfl;exact ⟨List.Sublist.refl _,Nat.zero_le _⟩
    · rintro ⟨h,_⟩;exact List.sublist_nil.mp h
  | h1 ps e ih =>
    intro c
    rw [found_snoc,sub_snoc]
    unfold grow
    rw [List.mem_append,ih,List.mem_map]
    constructor
    · rintro (⟨h1,h2⟩ | ⟨c',hc,rfl⟩)
      · exact ⟨.inl h1,h2⟩
      · obtain ⟨h1,h2⟩:=List.mem_filter.mp hc
        have h3:=of_decide_eq_true h2
        rw [List.length_append,List.length_singleton]
        exact ⟨.inr ⟨c',rfl,((ih c').mp h1).1⟩,h3⟩
    · rintro ⟨h1 | ⟨c',rfl,h1⟩,h2⟩
      · exact .inl ⟨h1,h2⟩
      · rw [List.length_append,List.length_singleton] at h2
        exact .inr ⟨c',List.mem_filter.mpr ⟨(ih c').mpr ⟨h1,by omega⟩,decide_eq_true (by omega)⟩,rfl⟩
theorem found_head (k:Nat) (ps:List Nat):∃ tl,found k ps=[] :: tl∧∀ c ∈ tl,c≠[]:=by
  induction ps using snoc_ind with
  | h0=>exact ⟨[],rfl,fun c h=>nomatch h⟩
  | h1 ps e ih =>
    obtain ⟨tl,h1,h2⟩:=ih
    rw [found_snoc]
    unfold grow
    rw [h1]
    refine ⟨tl++(([] :: tl).filter fun c=>decide (c.length < k)).map fun c=>c++[e],rfl,fun c hc=>?_⟩
    rcases List.mem_append.mp hc with z | z
    · exact h2 c z
    · obtain ⟨c',_,rfl⟩:=List.mem_map.mp z
      simp
def pch (k:Nat) (ps:List Nat):List (List Nat):=(found k ps).drop 1
theorem mem_pch (k:Nat) (ps:List Nat) (c:List Nat):c ∈ pch k ps↔c.Sublist ps∧c.length≤k∧c≠[]:=by
  obtain ⟨tl,h1,h2⟩:=found_head k ps
  have hm:=mem_found k ps c
  unfold pch
  rw [h1] at hm ⊢
  show c ∈ tl↔_
  constructor
  · intro h
    obtain ⟨a,b⟩:=hm.mp (List.mem_cons_of_mem _ h)
    exact ⟨a,b,h2 c h⟩
  · rintro ⟨a,b,d⟩
    exact (List.mem_cons.mp (hm.mpr ⟨a,b⟩)).resolve_left d
theorem pch_len (k:Nat) (ps:List Nat):(pch k ps).length≤2 ^ ps.length:=by
  unfold pch
  rw [List.length_drop]
  have:=found_len k ps [[]]
  have:(found k ps).length≤1 * 2 ^ ps.length:=this
  omega
theorem cut1 (xs:List V):cutV xs (some 1) none=xs.drop 1:=by
  unfold cutV
  rw [show (some (1:Int))=some ((1:Nat):Int) from rfl,HT.sIx_nat,HT.sIx_none]
  cases xs with
  | nil=>rfl
  | cons a xs =>
    have:min 1 (a :: xs).length=1:=by rw [List.length_cons];omega
    rw [this,List.take_of_length_le (Nat.le_of_eq List.length_drop)]
end TB
namespace TB
open PySem PySem.Spec PyProof.Rows L2
open PySem.W (Codec)
section
variable {P:Program} {w:World} {K:PySem.W.Frag} {mg:Str→Option Value} {base:Heap}
def ChAt (H:Hp) (g:Gh) (cs:List Addr) (ls:List (List Nat)):Prop:=cs.length=ls.length∧∀ (n:Nat) a c,cs[n]? = some a→ls[n]? = some c→H a=some (.lst (g.rfs c))
theorem ChAt.keep {H H':Hp} {g:Gh} {cs:List Addr} {ls:List (List Nat)} (h:ChAt H g cs ls) (m:Sm H H'):ChAt H' g cs ls:=⟨h.1,fun n a c h1 h2=>m.get (h.2 n a c h1 h2)⟩
theorem ChAt.app {H:Hp} {g:Gh} {cs ds:List Addr} {ls ms:List (List Nat)} (h:ChAt H g cs ls) (h':ChAt H g ds ms):ChAt H g (cs++ds) (ls++ms):=by
  refine ⟨by rw [List.length_append,List.length_append,h.1,h'.1],fun n a c h1 h2=>?_⟩
  by_cases hn:n < cs.length
  · rw [List.getElem?_append_left hn] at h1
    rw [List.getElem?_append_left (by rw [← h.1];exact hn)] at h2
    exact h.2 n a c h1 h2
  · rw [List.getElem?_append_right (by omega)] at h1
    rw [List.getElem?_append_right (by rw [← h.1];omega),← h.1] at h2
    exact h'.2 _ a c h1 h2
theorem ChAt.one {H:Hp} {g:Gh} {a:Addr} {c:List Nat} (h:H a=some (.lst (g.rfs c))):ChAt H g [a] [c]:=by
  refine ⟨rfl,fun n b d h1 h2=>?_⟩
  cases n with
  | zero=>cases h1;cases h2;exact h
  | succ n=>simp at h1
def sp_choices (T:Txt K mg):Sp:=fun vs H Q _=>∃ (g:Gh) (l:Addr) (k:Nat) (ps:List Nat),vs=[.ref l,.int (k:Nat)]∧H l=some (.lst (g.rfs ps))∧ps.length≤5 ∧
  ∀ H' d cs,Sm H H'→H d=none→H' d=some (.lst (cs.map V.ref))→ChAt H' g cs (pch k ps)→(∀ c ∈ cs,H c=none)→Q (.ref d) H'
theorem found5 {k:Nat} {ps:List Nat} (h:ps.length≤5):(found k ps).length≤32:=by
  have h1:(found k ps).length≤1 * 2 ^ ps.length:=found_len k ps [[]]
  have h2:2 ^ ps.length≤2 ^ 5:=Nat.pow_le_pow_right (by decide) h
  omega
theorem take_len {α : Type} (l:List α) (n:Nat):(l.take n).length≤l.length:=by rw [List.length_take];omega
theorem ok_choices (T:Txt K mg):FnOk P w K mg base CX0 1 T.f_choices.f T.f_choices.fd ["entries", "size"] (sp_choices T):=by
  refine T.f_choices.F.ok sc_choices (fun vs H Q E h=>?_) (fun cdv A outer s H vs Q E hr h=>?_)
  · obtain ⟨_,_,_,_,rfl,_⟩:=h;rfl
  · obtain ⟨g,l,kk,ps,rfl,el,h5,k⟩:=h
    refine ⟨_,(pss_cons (ps_set (i:=2) sc_choices.nd rfl (by first | exact Or.inl rfl | exact Or.inr rfl) (pe_lst (pa_cons (pe_lst pa_nil) pa_nil)))
      (pss_cons (ps_for PassesOwn.never rfl (pi_list (pv 0)) (pg_name (i:=3) sc_choices.nd rfl (by first | exact Or.inl rfl | exact Or.inr rfl))
        (pss_one (ps_set (i:=2) sc_choices.nd rfl (by first | exact Or.inl rfl | exact Or.inr rfl) (pe_op op_cat (pv 2) (pe_lc rfl sc_choices.nd (pi_list (pv 2)) (blkOk_by (own:=[("chosen",4)]) (by kernel_rfl)) (fun _ _ _ _ _=>pg_name (i:=4) sc_choices.nd rfl (Or.inl rfl)) (fun _ _ _ _ _=>(pts_one (pt_cmpR op_lt (pe_callB (call_len_seqK (K:=K) rfl) rfl T.n_len PySem.boot_len (pa_cons (pv 4) pa_nil)) (pv 1) (nomark _)))) (fun _ _ _ _ _=>(pe_op op_cat (pv 4) (pe_lst (pa_cons (pv 3) pa_nil)))))))))
      (pss_one (ps_ret (pe_slice sl_list (pv 2) (po_some pe_int) po_none))))),?_⟩
    refine ⟨Nat.zero_le _,fun e0 he0=>⟨small_list,fun f0 hf0=>?_⟩⟩
    have m1:Sm H (upd H e0 (.lst [])):=Sx.new he0
    have m2:Sm (upd H e0 (.lst [])) (upd (upd H e0 (.lst [])) f0 (.lst [.ref e0])):=Sx.new hf0
    have m12:=m1.trans m2
    refine ⟨_,rfl,l,rfl,⟨_,SqL.of (m12.get el)⟩,for_list (K:=K) (a:=l) (xs:=g.rfs ps) (fun n σ H'=>∃ v3 v4 f cs,σ = [some (.ref l),some (.int (kk:Nat)),some (.ref f),v3,v4]∧Sm H H'∧H' f=some (.lst (cs.map V.ref))∧ChAt H' g cs (found kk (ps.take n))∧(∀ c ∈ cs,H c=none)∧H f=none)
      ⟨none,none,f0,[e0],rfl,m12,upd_same,ChAt.one (m2.get upd_same),fun c hc=>by rw [List.mem_singleton.mp hc];exact he0,m1.free _ hf0⟩ (fun j σ H' _ ⟨_,_,_,_,_,m,_⟩=>SqL.of (m.get el)) ?_ ?_⟩
    · rintro n v σ H' hn ⟨v3,v4,f,cs,rfl,m,ef,hch,hfr,hf⟩
      unfold Gh.rfs at hn
      rw [List.getElem?_map] at hn
      cases en:ps[n]? with
      | none=>rw [en] at hn;cases hn
      | some e =>
        rw [en] at hn
        obtain rfl:g.rf e=v:=Option.some.inj hn
        have et:ps.take (n + 1)=ps.take n++[e]:=by rw [List.take_add_one,en];rfl
        have fl:=found5 (k:=kk) (ps:=ps.take n) (Nat.le_trans (take_len _ _) h5)
        have cl:=hch.1
        generalize hfd:found kk (ps.take n)=fd at *
        refine (Ze rfl (Ze rfl ⟨f,rfl,⟨_,SqL.of ef⟩,fun D hD=>?_⟩))
        have nfD:f≠D:=ne_of_none ef hD
        refine lc_list (K:=K) (a:=f) (xs:=cs.map V.ref) (fun i H2=>Sm H' H2∧∃ es,H2 D=some (.lst (es.map V.ref))∧ChAt H2 g es (((fd.take i).filter fun c=>decide (c.length < kk)).map fun c=>c++[e])∧(∀ c ∈ es,H c=none)∧(∀ c ∈ es,c≠D)) ⟨Sx.new hD,[],by rw [upd_same];rfl,⟨rfl,fun n a c h=>by simp at h⟩,(fun c h=>nomatch h),(fun c h=>nomatch h)⟩ (fun i H2 _ ⟨m2,_⟩=>SqL.of (m2.get ef)) ?_ ?_
        · rintro i v H2 hi ⟨m2,es,eD,hes,hfs,hne⟩
          rw [List.getElem?_map] at hi
          cases ei:cs[i]? with
          | none=>rw [ei] at hi;cases hi
          | some a =>
            rw [ei] at hi
            obtain rfl:V.ref a=v:=Option.some.inj hi
            have hil:i < fd.length:=by rw [← cl];exact (List.getElem?_eq_some_iff.mp ei).1
            obtain ⟨c,hc⟩:∃ c,fd[i]? = some c:=⟨_,List.getElem?_eq_getElem hil⟩
            have ea:=m2.get (hch.2 i a c ei hc)
            have eti:fd.take (i + 1)=fd.take i++[c]:=by rw [List.take_add_one,hc];rfl
            have esl:es.length≤32:=by
              rw [hes.1,List.length_map]
              exact Nat.le_trans (List.length_filter_le _ _) (Nat.le_trans (take_len _ _) fl)
            refine ⟨rfl,(Ze rfl ⟨_,_,rfl,.inl (SqL.of ea),(Ze rfl (Zo rfl rfl (Ze rfl ?_)))⟩)⟩
            rw [len_rfs]
            have dl:decide (((c.length:Nat):Int) < ((kk:Nat):Int))=decide (c.length < kk):=by rw [decide_eq_decide];omega
            rw [dl]
            refine iteb (fun c1=>?_) (fun c1=>?_)
            · have hcl:c.length≤5:=by
                have:c ∈ found kk (ps.take n):=by rw [hfd];exact List.mem_of_getElem? hc
                have:=((mem_found kk (ps.take n) c).mp this).1.length_le
                have:=take_len ps n
                omega
              refine (Ze rfl (Ze rfl ⟨small_list,fun t ht=>?_⟩))
              have m3:Sm H2 (upd H2 t (.lst [g.rf e])):=Sx.new ht
              refine ⟨a,t,Zo rfl rfl ⟨m3.get ea,upd_same,by rw [len_rfs];exact sz' (by show _ + 1≤_;omega),fun q hq=>?_⟩⟩
              have m4:Sm (upd H2 t (.lst [g.rf e])) (upd (upd H2 t (.lst [g.rf e])) q (.lst (g.rfs c++[g.rf e]))):=Sx.new hq
              have m34:=m3.trans m4
              have eD4:=m34.get eD
              have hqH:H q=none:=m.free _ (m2.free _ (m3.free _ hq))
              have nqD:q≠D:=fun z=>by rw [z] at hq;rw [m3.get eD] at hq;cases hq
              refine ⟨_,eD4,by rw [List.length_map];exact sz (by omega),(m2.trans m34).put_new hD eD4,es++[q],by rw [upd_same,List.map_append];rfl,?_,fun x hx=>?_,fun x hx=>?_⟩
              · rw [eti,List.filter_append,List.map_append,List.filter_cons,if_pos c1,List.filter_nil]
                refine ChAt.app ⟨hes.1,fun n2 a2 c2 h1 h2=>?_⟩ (ChAt.one ?_)
                · rw [upd_ne (hne a2 (List.mem_of_getElem? h1))]
                  exact m34.get (hes.2 n2 a2 c2 h1 h2)
                · rw [upd_ne nqD,upd_same]
                  unfold Gh.rfs
                  rw [List.map_append];rfl
              · rcases List.mem_append.mp hx with z | z
                · exact hfs x z
                · rw [List.mem_singleton.mp z];exact hqH
              · rcases List.mem_append.mp hx with z | z
                · exact hne x z
                · rw [List.mem_singleton.mp z];exact nqD
            · refine ⟨m2,es,eD,?_,hfs,hne⟩
              rw [eti,List.filter_append,List.filter_cons,if_neg (by rw [c1];decide),List.filter_nil,List.append_nil]
              exact hes
        · rintro H2 ⟨m2,es,eD,hes,hfs,hne⟩
          rw [List.length_map,cl,List.take_length] at hes
          have esl:es.length≤32:=by
            rw [hes.1,List.length_map]
            exact Nat.le_trans (List.length_filter_le _ _) fl
          refine ⟨f,D,Zo rfl rfl ⟨m2.get ef,eD,by rw [List.length_map,List.length_map];exact sz' (by omega),fun q hq=>?_⟩⟩
          have m5:Sm H2 (upd H2 q (.lst (cs.map V.ref++es.map V.ref))):=Sx.new hq
          refine ⟨_,_,q,cs++es,rfl,m.trans (m2.trans m5),by rw [upd_same,List.map_append],?_,fun x hx=>?_,m.free _ (m2.free _ hq)⟩
          · rw [et,found_snoc,hfd]
            exact (hch.keep (m2.trans m5)).app (hes.keep m5)
          · rcases List.mem_append.mp hx with z | z
            · exact hfr x z
            · exact hfs x z
    · rintro σ H' ⟨v3,v4,f,cs,rfl,m,ef,hch,hfr,hf⟩
      rw [len_rfs,List.take_length] at hch
      refine (Ze rfl (Ze rfl ⟨f,Ze rfl ⟨SqL.of ef,fun p hp=>?_⟩⟩))
      rw [cut1,← List.map_drop]
      have m3:Sm H' (upd H' p (.lst ((cs.drop 1).map V.ref))):=Sx.new hp
      refine k _ p (cs.drop 1) (m.trans m3) (m.free _ hp) upd_same ⟨?_,fun n a c h1 h2=>?_⟩ fun c hc=>hfr c (List.mem_of_mem_drop hc)
      · unfold pch
        rw [List.length_drop,List.length_drop,hch.1]
      · unfold pch at h2
        rw [List.getElem?_drop] at h1 h2
        exact m3.get (hch.2 _ a c h1 h2)
def AcAt (T:Txt K mg) (H:Hp) (a:Addr) (x:Vbfuao.Account):Prop:=∃ dx,H a=some (.ins T.c_Account dx (accF x))
def sp_do_fit (T:Txt K mg):Sp:=fun vs H Q _=>∃ (g:Gh) (s:State) (x:Vbfuao.Account) (l r ac:Addr) (ps qs:List Nat),vs=[.ref l,.ref r,.ref ac]∧Rep T H g s∧LstAt H g s l ps∧LstAt H g s r qs∧AcAt T H ac x∧ps≠[]∧qs≠[]∧ps.length≤x.size∧qs.length≤x.size∧∀ H',Sm H H'→Q (.bl (Vbfuao.fits s x ps qs)) H'
theorem foldl_max:∀ (l:List Nat) (d:Nat),(∀ y ∈ d :: l,y≤l.foldl max d)∧l.foldl max d ∈ d :: l
  | [],d=>by simp
  | a :: l,d=>by
    obtain ⟨h1,h2⟩:=foldl_max l (max d a)
    rw [List.foldl_cons]
    refine ⟨fun y hy=>?_,?_⟩
    · have hm:=h1 (max d a) (List.mem_cons_self ..)
      rcases List.mem_cons.mp hy with rfl | hy
      · exact Nat.le_trans (Nat.le_max_left _ _) hm
      · rcases List.mem_cons.mp hy with rfl | hy
        · exact Nat.le_trans (Nat.le_max_right _ _) hm
        · exact h1 y (List.mem_cons_of_mem _ hy)
    · rcases List.mem_cons.mp h2 with e | h2
      · rw [e]
        rcases Nat.le_total d a with z | z
        · rw [Nat.max_eq_right z];exact List.mem_cons_of_mem _ (List.mem_cons_self ..)
        · rw [Nat.max_eq_left z];exact List.mem_cons_self ..
      · exact List.mem_cons_of_mem _ (List.mem_cons_of_mem _ h2)
theorem foldl_min:∀ (l:List Nat) (d:Nat),(∀ y ∈ d :: l,l.foldl min d≤y)∧l.foldl min d ∈ d :: l
  | [],d=>by simp
  | a :: l,d=>by
    obtain ⟨h1,h2⟩:=foldl_min l (min d a)
    rw [List.foldl_cons]
    refine ⟨fun y hy=>?_,?_⟩
    · have hm:=h1 (min d a) (List.mem_cons_self ..)
      rcases List.mem_cons.mp hy with rfl | hy
      · exact Nat.le_trans hm (Nat.min_le_left _ _)
      · rcases List.mem_cons.mp hy with rfl | hy
        · exact Nat.le_trans hm (Nat.min_le_right _ _)
        · exact h1 y (List.mem_cons_of_mem _ hy)
    · rcases List.mem_cons.mp h2 with e | h2
      · rw [e]
        rcases Nat.le_total d a with z | z
        · rw [Nat.min_eq_left z];exact List.mem_cons_self ..
        · rw [Nat.min_eq_right z];exact List.mem_cons_of_mem _ (List.mem_cons_self ..)
      · exact List.mem_cons_of_mem _ (List.mem_cons_of_mem _ h2)
theorem spread_eq {s : State} {l : List Nat} {M m : Int} (hM : M ∈ l.map fun i => ((Vbfuao.entryAt s i).day : Int)) (hM2 : ∀ y ∈ l.map fun i => ((Vbfuao.entryAt s i).day : Int), y ≤ M) (hm : m ∈ l.map fun i => ((Vbfuao.entryAt s i).day : Int)) (hm2 : ∀ y ∈ l.map fun i => ((Vbfuao.entryAt s i).day : Int), m ≤ y) :
    M - m=((Vbfuao.spread s l:Nat):Int):=by
  obtain ⟨i,hi,rfl⟩:=List.mem_map.mp hM
  obtain ⟨j,hj,rfl⟩:=List.mem_map.mp hm
  unfold Vbfuao.spread
  have toN:∀ y ∈ l,((Vbfuao.entryAt s y).day:Int) ∈ l.map fun i=>((Vbfuao.entryAt s i).day:Int):=fun y hy=>List.mem_map.mpr ⟨y,hy,rfl⟩
  cases e:l.map fun i=>(Vbfuao.entryAt s i).day with
  | nil =>
    have:l=[]:=List.map_eq_nil_iff.mp e
    rw [this] at hi;cases hi
  | cons d r =>
    dsimp only
    obtain ⟨a1,a2⟩:=foldl_max r d
    obtain ⟨b1,b2⟩:=foldl_min r d
    rw [← e] at a1 a2 b1 b2
    obtain ⟨u,hu,eu⟩:=List.mem_map.mp a2
    obtain ⟨v,hv,ev⟩:=List.mem_map.mp b2
    have c1:=hM2 _ (toN u hu)
    have c2:=hm2 _ (toN v hv)
    have c3:=a1 _ (List.mem_map.mpr ⟨i,hi,rfl⟩)
    have c4:=b1 _ (List.mem_map.mpr ⟨j,hj,rfl⟩)
    have c5:=b1 _ (List.mem_map.mpr ⟨i,hi,rfl⟩)
    omega
theorem ok_do_fit (T:Txt K mg):FnOk P w K mg base CX0 2 T.f_do_fit.f T.f_do_fit.fd ["left", "right", "account"] (sp_do_fit T):=by
  have G_gap_of:=ok_gap_of (P:=P) (w:=w) (base:=base) T
  refine T.f_do_fit.F.ok sc_do_fit (fun vs H Q E h=>?_) (fun cdv A outer s H vs Q E hr h=>?_)
  · obtain ⟨_,_,_,_,_,_,_,_,rfl,_⟩:=h;rfl
  · obtain ⟨g,S,x,l,r,ac,ps,qs,rfl,R,hl,hr',⟨dxa,eac⟩,hps,hqs,l1,l2,k⟩:=h
    refine ⟨_,(pss_cons (ps_setLc (i:=3) rfl sc_do_fit.nd rfl rfl (sw_true rfl rfl rfl rfl) (pi_list (pe_op op_cat (pv 0) (pv 1))) (blkOk_by (own:=[("entry",4)]) (by kernel_rfl)) (fun _ _ _ _ _=>pg_name (i:=4) sc_do_fit.nd rfl (Or.inl rfl)) (fun _ _ _ _ _=>pts_nil) (fun _ _ _ _ _=>(pe_fldK (K:=K) rfl (pv 4) rfl)))
      (pss_cons (ps_if (pt_cmpR op_gt (pe_op op_sub (pe_callB (cr_max rfl) rfl T.n_max boot_max (pa_cons (pv 3) pa_nil)) (pe_callB (cr_min rfl) rfl T.n_min boot_min (pa_cons (pv 3) pa_nil))) (pe_fld (pv 2) rfl) (nomark _)) (pss_one (ps_ret pe_bl)) pss_nil)
      (pss_one (ps_ret (pe_cmpR op_le (pe_callB call_abs rfl T.n_abs TB.boot_abs (pa_cons (pe_call G_gap_of (hr.mono (by decide)) rfl T.m_gap_of T.f_gap_of.kp T.f_gap_of.b .nil pass0 (pa_cons (pv 0) (pa_cons (pv 1) pa_nil))) pa_nil)) (pe_fld (pv 2) rfl) (nomark _)))))),?_⟩
    have ll:=hl.len
    have lr:=hr'.len
    refine (Ze rfl (Ze rfl ⟨l,r,Zo rfl rfl ⟨hl.at_,hr'.at_,by rw [len_rfs,len_rfs];exact sz' (by omega),fun D hD=>?_⟩⟩))
    rw [rfs_app]
    have m1:Sm H (upd H D (.lst (g.rfs (ps++qs)))):=Sx.new hD
    refine ⟨D,rfl,⟨_,SqL.of upd_same⟩,fun D2 hD2=>lc_fn (ys:=ps++qs) (c:=g.rf) (p:=fun _=>true) (f:=fun i=>V.int ((Vbfuao.entryAt S i).day:Nat)) hD2 (SqL.of upd_same) (by rw [List.length_append];omega) (fun i hi H2 Q1 Q0 m2 h1 h0=>?_) fun H2 m2 e2=>?_⟩
    · have hi':i < S.entries.length:=(List.mem_append.mp hi).elim (hl.ok i) (hr'.ok i)
      obtain ⟨dx,ig,e,_⟩:=(R.keep (m1.trans m2)).at hi'
      exact ⟨rfl,yesT (Ze rfl (Zf e T.cl_Entry T.na_Entry_day rfl (h1 rfl _ (Sx.refl _))))⟩
    rw [List.filter_eq_self.mpr (fun _ _=>rfl)] at e2
    have e2':H2 D2=some (.lst (((ps++qs).map fun i=>((Vbfuao.entryAt S i).day:Int)).map V.int)):=by rw [e2,List.map_map];rfl
    have hpos:0 < ((ps++qs).map fun i=>((Vbfuao.entryAt S i).day:Int)).length:=by
      rw [List.length_map,List.length_append]
      have:=List.length_pos_iff.mpr hps
      omega
    have m12:=m1.trans m2
    refine (Ze rfl ⟨D2,Ze rfl ⟨SqL.of e2',hpos,fun M hM hM2=>?_⟩⟩)
    refine (Ze rfl ⟨D2,Ze rfl ⟨SqL.of e2',hpos,fun mm hm hm2=>?_⟩⟩)
    refine (Zo rfl rfl (Ze rfl (Zf (m12.get eac) T.cl_Account T.na_Account_window rfl (Zo rfl rfl (Ze rfl ?_)))))
    have esp:=spread_eq hM hM2 hm hm2
    have ef:Vbfuao.fits S x ps qs=(decide (Vbfuao.spread S (ps++qs)≤x.window)&&decide ((Vbfuao.sumOf S ps - Vbfuao.sumOf S qs).natAbs≤x.tol)):=by
      unfold Vbfuao.fits
      have n1:ps.isEmpty=false:=by cases ps with | nil=>exact absurd rfl hps | cons _ _=>rfl
      have n2:qs.isEmpty=false:=by cases qs with | nil=>exact absurd rfl hqs | cons _ _=>rfl
      rw [n1,n2,decide_eq_true ⟨l1,l2⟩];rfl
    refine ite3 (fun c1=>?_) (fun c1=>?_)
    · have q:=k H2 m12
      rw [ef,decide_eq_false (by omega),Bool.false_and] at q
      exact q
    refine (Ze rfl (Ze rfl ⟨g,S,l,r,ps,qs,rfl,R.keep m12,hl.keep m12,hr'.keep m12,fun H3 m3=>?_⟩))
    have m13:=m12.trans m3
    refine (Ze rfl ?_)
    rw [abs_nat]
    refine (Ze rfl (Zf (m13.get eac) T.cl_Account T.na_Account_tolerance rfl (Zo rfl rfl ?_)))
    have q:=k H3 m13
    rw [ef,decide_eq_true (by omega),Bool.true_and] at q
    have dq:decide ((Vbfuao.sumOf S ps - Vbfuao.sumOf S qs).natAbs≤x.tol)=decide ((((Vbfuao.sumOf S ps - Vbfuao.sumOf S qs).natAbs:Nat):Int)≤((x.tol:Nat):Int)):=by rw [decide_eq_decide];omega
    rw [dq] at q
    exact q
end
end TB
namespace TB
open PySem PySem.Spec PyProof.Rows L2
open PySem.W (Codec)
section
variable {P:Program} {w:World} {K:PySem.W.Frag} {mg:Str→Option Value} {base:Heap}
theorem for_enumRev {K : PySem.W.Frag} {a : Addr} {xs : List V} {g : TG} {tb : TS} {D : Ends} {σ : L2.St} {H : Hp} (Pv : Nat → L2.St → Hp → Prop) (h0 : Pv 0 σ H) (hl : ∀ i σ H, i ≤ xs.length → Pv i σ H → SqL K H a xs)
    (hs:∀ i x σ H t,i < xs.length→xs[xs.length - 1 - i]? = some x→Pv i σ H→H t=none→g (.ref t) σ (upd H t (.tup [.int (i:Nat),x])) fun σ2 H2=>tb { D with nx:=Pv (i + 1),ct:=Pv (i + 1),bk:=D.nx } σ2 H2) (hd:∀ σ H,Pv xs.length σ H→D.nx σ H) :
    ∃ W:Nat→Nat→L2.St→Hp→Prop,(∃ m,W 0 m σ H)∧∀ i m σ H,W i m σ H →
      ((Ier K a xs.length).stop i H∧D.nx σ H)∨((Ier K a xs.length).go i H∧∃ N:L2.St→Hp→Prop,(∀ σ' H',N σ' H'→∃ m',m' < m∧W (i + 1) m' σ' H')∧∀ x H',(Ier K a xs.length).yld i H x H'→g x σ H' fun σ2 H2=>tb { D with nx:=N,ct:=N,bk:=D.nx } σ2 H2):=by
  refine ⟨fun i m σ H=>m=xs.length - i∧i≤xs.length∧Pv i σ H,⟨xs.length,by simp,Nat.zero_le _,h0⟩,?_⟩
  rintro i m σ H ⟨rfl,hi,p⟩
  have q:=hl i σ H hi p
  by_cases hlt:i < xs.length
  · refine .inr ⟨⟨hlt,xs,xs[xs.length - 1 - i]'(by omega),q,rfl,List.getElem?_eq_getElem (by omega)⟩,Pv (i + 1),fun σ' H' p'=>⟨xs.length - (i + 1),by omega,rfl,hlt,p'⟩,fun x H' y=>?_⟩
    obtain ⟨t,z,rfl,ht,rfl,hz⟩:=y
    exact hs i z σ H t hlt (hz xs q) p ht
  · have e:i=xs.length:=by omega
    subst e
    exact .inl ⟨⟨rfl,xs,q,rfl⟩,hd σ H p⟩
def OwnAt (H:Hp) (g:Gh):Prop:=∀ b,H b=none→¬ own g b
theorem OwnAt.keep {S:Addr→Prop} {H H':Hp} {g:Gh} (h:OwnAt H g) (m:Sx S H H'):OwnAt H' g:=fun b e=>h b (m.free b e)
def EntsAt (T:Txt K mg) (H:Hp) (g:Gh) (s:State) (R:List Nat):Prop:=∀ i ∈ R,∃ dx ig,H (g.ra i)=some (.ins T.c_Entry dx (entF i (Vbfuao.entryAt s i) ig))
theorem EntsAt.keep {T:Txt K mg} {H H':Hp} {g:Gh} {s:State} {R:List Nat} (h:EntsAt T H g s R) (m:Sm H H'):EntsAt T H' g s R:=fun i hi=>let ⟨dx,ig,e⟩:=h i hi;⟨dx,ig,m.get e⟩
theorem Rep.entsAt {T:Txt K mg} {H:Hp} {g:Gh} {s:State} (R:Rep T H g s) {l:List Nat} (h:∀ i ∈ l,i < s.entries.length):EntsAt T H g s l:=fun i hi=>by
  obtain ⟨dx,ig,e,_⟩:=R.at (h i hi)
  exact ⟨dx,ig,e⟩
theorem Rep.ownAt {T:Txt K mg} {H:Hp} {g:Gh} {s:State} (R:Rep T H g s):OwnAt H g:=fun b e=>fresh_nown R e
def fitF (s:State) (R:List Nat) (q:Grp) (l r:Addr):List (Str × V):=[("left",.ref l),("right",.ref r),("gap",.int (gap1 s q:Nat)),("many",.int (q.1.length + q.2.length:Nat)),("marks",.int (mark R (mem1 q):Nat))]
def FitAt (T:Txt K mg) (H:Hp) (g:Gh) (s:State) (R:List Nat) (f:Addr) (q:Grp):Prop :=
  ∃ dx l r,H f=some (.ins T.c_Fit dx (fitF s R q l r))∧H l=some (.lst (g.rfs q.1))∧H r=some (.lst (g.rfs q.2))∧¬ own g f∧¬ own g l∧¬ own g r
theorem FitAt.keep {T:Txt K mg} {H H':Hp} {g:Gh} {s:State} {R:List Nat} {f:Addr} {q:Grp} (h:FitAt T H g s R f q) (m:Sm H H'):FitAt T H' g s R f q :=
  let ⟨dx,l,r,e1,e2,e3,n⟩:=h;⟨dx,l,r,m.get e1,m.get e2,m.get e3,n⟩
def FitsAt (T:Txt K mg) (H:Hp) (g:Gh) (s:State) (R:List Nat) (fs:List Addr) (qs:List Grp):Prop:=fs.length=qs.length∧∀ (n:Nat) f q,fs[n]? = some f→qs[n]? = some q→FitAt T H g s R f q
theorem FitsAt.keep {T:Txt K mg} {H H':Hp} {g:Gh} {s:State} {R:List Nat} {fs:List Addr} {qs:List Grp} (h:FitsAt T H g s R fs qs) (m:Sm H H'):FitsAt T H' g s R fs qs:=⟨h.1,fun n f q h1 h2=>(h.2 n f q h1 h2).keep m⟩
theorem FitsAt.cons {T:Txt K mg} {H:Hp} {g:Gh} {s:State} {R:List Nat} {f:Addr} {q:Grp} {fs:List Addr} {qs:List Grp} (h0:FitAt T H g s R f q) (h:FitsAt T H g s R fs qs):FitsAt T H g s R (f :: fs) (q :: qs):=by
  refine ⟨by rw [List.length_cons,List.length_cons,h.1],fun n f' q' h1 h2=>?_⟩
  cases n with
  | zero=>cases h1;cases h2;exact h0
  | succ n=>exact h.2 n f' q' h1 h2
theorem FitsAt.snoc {T:Txt K mg} {H:Hp} {g:Gh} {s:State} {R:List Nat} {f:Addr} {q:Grp} {fs:List Addr} {qs:List Grp} (h:FitsAt T H g s R fs qs) (h0:FitAt T H g s R f q):FitsAt T H g s R (fs++[f]) (qs++[q]):=by
  refine ⟨by rw [List.length_append,List.length_append,h.1];rfl,fun n f' q' h1 h2=>?_⟩
  by_cases hn:n < fs.length
  · rw [List.getElem?_append_left hn] at h1
    rw [List.getElem?_append_left (by rw [← h.1];exact hn)] at h2
    exact h.2 n f' q' h1 h2
  · rw [List.getElem?_append_right (by omega)] at h1
    rw [List.getElem?_append_right (by rw [← h.1];omega),← h.1] at h2
    cases hk:n - fs.length with
    | zero=>rw [hk] at h1 h2;cases h1;cases h2;exact h0
    | succ k=>rw [hk] at h1;simp at h1
def PlanAt (T:Txt K mg) (H:Hp) (g:Gh) (s:State) (R:List Nat) (p:Addr) (gs:List Grp):Prop :=
  ∃ dx F t fs,H p=some (.ins T.c_Plan dx [("fits",.ref F),("rank",.ref t),("marks",.int (mark R (allm gs):Nat))])∧H F=some (.lst (fs.map V.ref))∧H t=some (.tup ((rank s R gs).map V.int))∧FitsAt T H g s R fs gs∧¬ own g p∧¬ own g F
theorem PlanAt.keep {T:Txt K mg} {H H':Hp} {g:Gh} {s:State} {R:List Nat} {p:Addr} {gs:List Grp} (h:PlanAt T H g s R p gs) (m:Sm H H'):PlanAt T H' g s R p gs :=
  let ⟨dx,F,t,fs,e1,e2,e3,e4,n⟩:=h;⟨dx,F,t,fs,m.get e1,m.get e2,m.get e3,e4.keep m,n⟩
def MksAt (H:Hp) (Mk:Addr) (R:List Nat):Prop:=∃ kvs,H Mk=some (.dK kvs)∧∀ i ∈ R,valV kvs (.inl (i:Nat))=some (.int (mark R [i]:Nat))
theorem MksAt.keep {H H':Hp} {Mk:Addr} {R:List Nat} (h:MksAt H Mk R) (m:Sm H H'):MksAt H' Mk R:=let ⟨kvs,e,q⟩:=h;⟨kvs,m.get e,q⟩
def searchF (Mk Ll Kn Ff:Addr):List (Str × V):=[("marks",.ref Mk),("lefts",.ref Ll),("known",.ref Kn),("fits_from",.ref Ff)]
def sp_Fit_init (T:Txt K mg):Sp:=fun vs H Q _=>∃ (H0:Hp) (g:Gh) (s:State) (p dx l r:Addr) (ps qs:List Nat) (m:V),vs=[.ref p,.ref l,.ref r,m]∧Sm H0 H∧H0 p=none∧H p=some (.ins T.c_Fit dx [])∧Rep T H0 g s∧LstAt H0 g s l ps∧LstAt H0 g s r qs ∧
  ∀ H',Sm H0 H'→H' p=some (.ins T.c_Fit dx [("left",.ref l),("right",.ref r),("gap",.int (gap1 s (ps,qs):Nat)),("many",.int (ps.length + qs.length:Nat)),("marks",m)])→Q .non H'
theorem ok_Fit_init (T:Txt K mg):FnOk P w K mg base CX0 2 T.f_Fit_init.f T.f_Fit_init.fd ["self", "left", "right", "marks"] (sp_Fit_init T):=by
  have G_gap_of:=ok_gap_of (P:=P) (w:=w) (base:=base) T
  refine T.f_Fit_init.F.ok sc_Fit_init (fun vs H Q E h=>?_) (fun cdv A outer s H vs Q E hr h=>?_)
  · obtain ⟨_,_,_,_,_,_,_,_,_,_,rfl,_⟩:=h;rfl
  · obtain ⟨H0,g,S,p,dx,l,r,ps,qs,m,rfl,m0,np,ep,R,hl,hr',k⟩:=h
    refine ⟨_,(pss_cons (ps_fld (pv 0) (pv 1) rfl)
      (pss_cons (ps_fld (pv 0) (pv 2) rfl)
      (pss_cons (ps_fld (pv 0) (pe_callB call_abs rfl T.n_abs TB.boot_abs (pa_cons (pe_call G_gap_of (hr.mono (by decide)) rfl T.m_gap_of T.f_gap_of.kp T.f_gap_of.b .nil pass0 (pa_cons (pv 1) (pa_cons (pv 2) pa_nil))) pa_nil)) rfl)
      (pss_cons (ps_fld (pv 0) (pe_op op_add (pe_callB call_len_seq rfl T.n_len PySem.boot_len (pa_cons (pv 1) pa_nil)) (pe_callB call_len_seq rfl T.n_len PySem.boot_len (pa_cons (pv 2) pa_nil))) rfl)
      (pss_one (ps_fld (pv 0) (pv 3) rfl)))))),?_⟩
    refine (Ze rfl (Ze rfl ⟨p,_,dx,(Ze rfl ⟨ep,T.cl_Fit,T.na_Fit_left,by show 0 < 1000;decide,?_⟩)⟩))
    refine (Ze rfl (Ze rfl ⟨p,_,dx,(Ze rfl ⟨upd_same,T.cl_Fit,T.na_Fit_right,by show 1 < 1000;decide,?_⟩)⟩))
    rw [upd_upd]
    have m1:=m0.put_new (u:=.ins T.c_Fit dx (putF "right" (.ref r) (putF "left" (.ref l) []))) np ep
    refine (Ze rfl (Ze rfl ⟨g,S,l,r,ps,qs,rfl,R.keep m1,hl.keep m1,hr'.keep m1,fun H1 m2=>(Ze rfl ?_)⟩))
    rw [abs_nat]
    have ep1:=m2.get (upd_same (H:=H) (a:=p) (o:=.ins T.c_Fit dx (putF "right" (.ref r) (putF "left" (.ref l) []))))
    have m12:=m1.trans m2
    refine (Ze rfl ⟨p,_,dx,(Ze rfl ⟨ep1,T.cl_Fit,T.na_Fit_gap,by show 2 < 1000;decide,?_⟩)⟩)
    have a1:=m12.put_new (u:=.ins T.c_Fit dx (putF "gap" (.int (((Vbfuao.sumOf S ps - Vbfuao.sumOf S qs).natAbs:Nat):Int)) (putF "right" (.ref r) (putF "left" (.ref l) [])))) np ep1
    refine (Ze rfl ⟨_,_,rfl,.inl (SqL.of (a1.get hl.at_)),(Ze rfl ⟨_,_,rfl,.inl (SqL.of (a1.get hr'.at_)),(Zo rfl rfl ?_)⟩)⟩)
    refine (Ze rfl ⟨p,_,dx,(Ze rfl ⟨upd_same,T.cl_Fit,T.na_Fit_many,by show 3 < 1000;decide,?_⟩)⟩)
    refine (Ze rfl (Ze rfl ⟨p,_,dx,(Ze rfl ⟨upd_same,T.cl_Fit,T.na_Fit_marks,by show 4 < 1000;decide,?_⟩)⟩))
    rw [upd_upd,upd_upd]
    refine k _ (m12.put_new np ep1) ?_
    rw [upd_same,len_rfs,len_rfs]
    rfl
def sp_Plan_grouped (T:Txt K mg):Sp:=fun vs H Q _=>∃ (g:Gh) (s:State) (R:List Nat) (p:Addr) (gs:List Grp),vs=[.ref p]∧PlanAt T H g s R p gs∧Q (.int ((allm gs).length:Nat)) H
theorem ok_Plan_grouped (T:Txt K mg):FnOk P w K mg base CX0 1 T.f_Plan_grouped.f T.f_Plan_grouped.fd ["self"] (sp_Plan_grouped T):=by
  refine T.f_Plan_grouped.F.ok sc_Plan_grouped (fun vs H Q E h=>?_) (fun cdv A outer s H vs Q E hr h=>?_)
  · obtain ⟨_,_,_,_,_,rfl,_⟩:=h;rfl
  · obtain ⟨g,S,R,p,gs,rfl,⟨dx,F,t,fs,e1,e2,e3,_⟩,k⟩:=h
    refine ⟨_,(pss_one (ps_ret (pe_un un_neg (pe_ix ix_tup (pe_fld (pv 0) rfl) pe_int (fun _ _=>rfl))))),?_⟩
    refine (Ze rfl (Zf e1 T.cl_Plan T.na_Plan_rank rfl ⟨_,_,_,_,rfl,rfl,SqT.of e3,rfl,(Ze rfl ?_)⟩))
    show Q (.int (- -((allm gs).length:Int))) H
    rw [Int.neg_neg]
    exact k
def sp_Plan_gaps (T:Txt K mg):Sp:=fun vs H Q _=>∃ (g:Gh) (s:State) (R:List Nat) (p:Addr) (gs:List Grp),vs=[.ref p]∧PlanAt T H g s R p gs∧Q (.int (gapAll s gs:Nat)) H
theorem ok_Plan_gaps (T:Txt K mg):FnOk P w K mg base CX0 1 T.f_Plan_gaps.f T.f_Plan_gaps.fd ["self"] (sp_Plan_gaps T):=by
  refine T.f_Plan_gaps.F.ok sc_Plan_gaps (fun vs H Q E h=>?_) (fun cdv A outer s H vs Q E hr h=>?_)
  · obtain ⟨_,_,_,_,_,rfl,_⟩:=h;rfl
  · obtain ⟨g,S,R,p,gs,rfl,⟨dx,F,t,fs,e1,e2,e3,_⟩,k⟩:=h
    refine ⟨_,(pss_one (ps_ret (pe_ix ix_tup (pe_fld (pv 0) rfl) pe_int (fun _ _=>rfl)))),?_⟩
    refine (Ze rfl (Zf e1 T.cl_Plan T.na_Plan_rank rfl ⟨_,_,_,_,rfl,rfl,SqT.of e3,rfl,?_⟩))
    exact k
def sp_rank_behind (T:Txt K mg):Sp:=fun vs H Q _=>∃ (g:Gh) (s:State) (R:List Nat) (f p:Addr) (q:Grp) (gs:List Grp),vs=[.ref f,.ref p]∧FitAt T H g s R f q∧PlanAt T H g s R p gs∧(∀ j ∈ allm gs,j ∉ mem1 q) ∧
  ∀ t,H t=none→Q (.ref t) (upd H t (.tup ((rank s R (q :: gs)).map V.int)))
theorem ok_rank_behind (T:Txt K mg):FnOk P w K mg base CX0 1 T.f_rank_behind.f T.f_rank_behind.fd ["fit", "rest"] (sp_rank_behind T):=by
  refine T.f_rank_behind.F.ok sc_rank_behind (fun vs H Q E h=>?_) (fun cdv A outer s H vs Q E hr h=>?_)
  · obtain ⟨_,_,_,_,_,_,_,rfl,_⟩:=h;rfl
  · obtain ⟨g,S,R,f,p,q,gs,rfl,⟨dxf,l,r,f1,_⟩,⟨dx,F,t,fs,e1,e2,e3,_⟩,ap,k⟩:=h
    refine ⟨_,(pss_cons (ps_set (i:=2) sc_rank_behind.nd rfl (Or.inl rfl) (pe_fld (pv 1) rfl))
      (pss_cons (ps_set (i:=3) sc_rank_behind.nd rfl (Or.inl rfl) (pe_op op_add (pe_op op_add (pe_fld (pv 0) rfl) (pe_ix ix_tup (pv 2) pe_int (fun _ _=>rfl))) (pe_fld (pv 1) rfl)))
      (pss_one (ps_ret (pe_tup (pa_cons (pe_op op_sub (pe_ix ix_tup (pv 2) pe_int (fun _ _=>rfl)) (pe_fld (pv 0) rfl)) (pa_cons (pe_op op_sub (pe_ix ix_tup (pv 2) pe_int (fun _ _=>rfl)) pe_int) (pa_cons (pe_op op_add (pe_ix ix_tup (pv 2) pe_int (fun _ _=>rfl)) (pe_fld (pv 0) rfl)) (pa_cons (pv 3) pa_nil))))))))),?_⟩
    refine (Ze rfl (Zf e1 T.cl_Plan T.na_Plan_rank rfl ?_))
    refine (Ze rfl (Zf f1 T.cl_Fit T.na_Fit_marks rfl ?_))
    refine (Ze rfl ⟨_,_,_,_,rfl,rfl,SqT.of e3,rfl,(Zo rfl rfl ?_)⟩)
    refine (Ze rfl (Zf e1 T.cl_Plan T.na_Plan_marks rfl (Zo rfl rfl ?_)))
    refine (Ze rfl ⟨_,_,_,_,rfl,rfl,SqT.of e3,rfl,?_⟩)
    refine (Ze rfl (Zf f1 T.cl_Fit T.na_Fit_many rfl (Zo rfl rfl ?_)))
    refine (Ze rfl ⟨_,_,_,_,rfl,rfl,SqT.of e3,rfl,(Zo rfl rfl ?_)⟩)
    refine (Ze rfl ⟨_,_,_,_,rfl,rfl,SqT.of e3,rfl,?_⟩)
    refine (Ze rfl (Zf f1 T.cl_Fit T.na_Fit_gap rfl (Zo rfl rfl ?_)))
    refine (Ze rfl ⟨small_list,fun t' ht=>?_⟩)
    have z:=k t' ht
    rw [rank_cons ap] at z
    exact z
end
end TB
namespace TB
open PySem PySem.Spec PyProof.Rows L2
open PySem.W (Codec)
section
variable {P:Program} {w:World} {K:PySem.W.Frag} {mg:Str→Option Value} {base:Heap}
theorem weight_at {R:List Nat} (hn:R.Nodup) {n i:Nat} (h:n < R.length) (hi:R[R.length - 1 - n]? = some i):mark R [i]=2 ^ (3 * n):=by
  have hlt:R.length - 1 - n < R.length:=by omega
  have e:R=R.take (R.length - 1 - n)++i :: R.drop (R.length - n):=by
    have e1:=List.take_append_drop (R.length - 1 - n) R
    rw [List.drop_eq_getElem_cons hlt] at e1
    have e2:R[R.length - 1 - n]=i:=by
      rw [List.getElem?_eq_getElem hlt] at hi
      exact Option.some.inj hi
    rw [e2,show R.length - 1 - n + 1=R.length - n by omega] at e1
    exact e1.symm
  have hl:(R.drop (R.length - n)).length=n:=by rw [List.length_drop];omega
  have z:=mark_weight (R.take (R.length - 1 - n)) (R.drop (R.length - n)) i (by rw [← e];exact hn)
  rw [← e,hl] at z
  exact z
theorem mem_at_rev {R:List Nat} {i:Nat} (h:i ∈ R):∃ n,n < R.length∧R[R.length - 1 - n]? = some i:=by
  obtain ⟨n,hn,e⟩:=List.getElem_of_mem h
  refine ⟨R.length - 1 - n,by omega,?_⟩
  rw [show R.length - 1 - (R.length - 1 - n)=n by omega,List.getElem?_eq_getElem hn,e]
theorem len_putK (kvs:List (Key × V)) (k:Key) (v:V):(putK kvs k v).length≤kvs.length + 1:=by
  unfold putK
  split
  · rw [List.length_map];omega
  · rw [List.length_append];simp
def sp_marks_for (T:Txt K mg):Sp:=fun vs H Q _=>∃ (g:Gh) (s:State) (R:List Nat) (l:Addr),vs=[.ref l]∧H l=some (.lst (g.rfs R))∧EntsAt T H g s R∧R.Nodup∧R.length≤10 ∧
  ∀ H' d,Sm H H'→H d=none→MksAt H' d R→Q (.ref d) H'
theorem ok_marks_for (T:Txt K mg):FnOk P w K mg base CX0 1 T.f_marks_for.f T.f_marks_for.fd ["entries"] (sp_marks_for T):=by
  refine T.f_marks_for.F.ok sc_marks_for (fun vs H Q E h=>?_) (fun cdv A outer s H vs Q E hr h=>?_)
  · obtain ⟨_,_,_,_,rfl,_⟩:=h;rfl
  · obtain ⟨g,S,R,l,rfl,el,hE,hn,h10,k⟩:=h
    refine ⟨_,(pss_cons (ps_set (i:=1) sc_marks_for.nd rfl (Or.inl rfl) pe_dnewK)
      (pss_cons (ps_for PassesOwn.never rfl (pi_enumRev rfl rfl T.n_enumerate T.n_reversed (pa_cons (pv 0) pa_nil)) (pg_tup rfl (pgs_cons (pg_name (i:=2) sc_marks_for.nd rfl (Or.inl rfl)) (pgs_cons (pg_name (i:=3) sc_marks_for.nd rfl (Or.inl rfl)) pgs_nil)))
        (pss_one (ps_dput (hu_of hr) (pv 1) (pe_fld (pv 3) rfl) (pe_op op_shl pe_int (pe_op op_mul (pe_gint rfl T.g_LABEL_BITS) (pv 2))) rfl)))
      (pss_one (ps_ret (pv 1))))),?_⟩
    intro d hd
    have m1:Sm H (upd H d (.dK [])):=Sx.new hd
    refine ⟨_,rfl,l,g.rfs R,rfl,SqL.of (m1.get el),for_enumRev (K:=K) (a:=l) (xs:=g.rfs R) (fun n σ H'=>∃ v2 v3 kvs,σ = [some (.ref l),some (.ref d),v2,v3]∧Sm H H'∧H' d=some (.dK kvs)∧kvs.length≤n∧∀ m i,m < n→R[R.length - 1 - m]? = some i→valV kvs (.inl (i:Nat))=some (.int (mark R [i]:Nat)))
      ⟨none,none,[],rfl,m1,upd_same,Nat.le_refl _,fun m i h=>absurd h (Nat.not_lt_zero _)⟩ (fun j σ H' _ ⟨_,_,_,_,m,_⟩=>SqL.of (m.get el)) ?_ ?_⟩
    · rintro n v σ H' t hn' hx ⟨v2,v3,kvs,rfl,m,ed,hlen,hv⟩ ht
      rw [len_rfs] at hx hn'
      unfold Gh.rfs at hx
      rw [List.getElem?_map] at hx
      cases en:R[R.length - 1 - n]? with
      | none=>rw [en] at hx;cases hx
      | some i =>
        rw [en] at hx
        obtain rfl:g.rf i=v:=Option.some.inj hx
        have m2:Sm H' (upd H' t (.tup [.int (n:Nat),g.rf i])):=Sx.new ht
        obtain ⟨dx,ig,ei⟩:=hE i (List.mem_of_getElem? en)
        have ei':=(m.trans m2).get ei
        have ed':=m2.get ed
        refine ⟨t,Ze rfl ⟨SqT.of upd_same,rfl,_,_,rfl,(Zo rfl rfl ?_)⟩⟩
        refine (Ze rfl (Zo rfl rfl ⟨?mulc,Zo rfl rfl ⟨⟨by omega,by omega,by decide⟩,?_⟩⟩))
        case mulc=>exact Or.inl ⟨by decide,by decide⟩
        refine (Ze rfl (Ze rfl (Zf ei' T.cl_Entry T.na_Entry_place rfl ⟨d,Ze rfl ⟨DPut.k (k:=Sum.inl ((i:Nat):Int)) ed' (sz (by omega)),?_⟩⟩)))
        refine ⟨_,_,_,rfl,(m.trans m2).put_new hd ed',upd_same,Nat.le_trans (len_putK _ _ _) (Nat.succ_le_succ hlen),fun j i' hj hi'=>?_⟩
        rw [valV_put]
        by_cases hii:i'=i
        · rw [hii,if_pos rfl]
          rw [weight_at hn hn' en]
          have et:((3:Int) * ((n:Nat):Int)).toNat=3 * n:=by omega
          show some (V.int (1 * 2 ^ ((3:Int) * ((n:Nat):Int)).toNat))=_
          rw [et,Int.one_mul]
          congr 2
        · have hne:(Sum.inl ((i':Nat):Int):Key)≠Sum.inl ((i:Nat):Int):=fun q=>hii (by injection q with q;omega)
          rw [if_neg hne]
          refine hv j i' ?_ hi'
          rcases Nat.lt_or_ge j n with z | z
          · exact z
          · have:j=n:=by omega
            rw [this,en] at hi'
            exact absurd (Option.some.inj hi').symm hii
    · rintro σ H' ⟨v2,v3,kvs,rfl,m,ed,hlen,hv⟩
      rw [len_rfs] at hv
      refine (Ze rfl (k H' d m hd ⟨kvs,ed,fun i hi=>?_⟩))
      obtain ⟨n,h1,h2⟩:=mem_at_rev hi
      exact hv n i h1 h2
def sp_Search_sum_of_marks (T:Txt K mg):Sp:=fun vs H Q _=>∃ (g:Gh) (s:State) (R ps:List Nat) (sf dx Mk Ll Kn Ff l:Addr),vs=[.ref sf,.ref l]∧H sf=some (.ins T.c_Search dx (searchF Mk Ll Kn Ff))∧MksAt H Mk R∧EntsAt T H g s R∧(∀ i ∈ ps,i ∈ R)∧ps.Nodup∧ps.length≤1000∧H l=some (.lst (g.rfs ps)) ∧
  ∀ H',Sm H H'→Q (.int (mark R ps:Nat)) H'
theorem sum_cast (l:List Nat):(l.map fun i=>((i:Nat):Int)).sum=((l.sum:Nat):Int):=by
  induction l with
  | nil=>rfl
  | cons a l ih=>rw [List.map_cons,List.sum_cons,List.sum_cons,ih];omega
theorem ok_Search_sum_of_marks (T:Txt K mg):FnOk P w K mg base CX0 1 T.f_Search_sum_of_marks.f T.f_Search_sum_of_marks.fd ["self", "entries"] (sp_Search_sum_of_marks T):=by
  refine T.f_Search_sum_of_marks.F.ok sc_Search_sum_of_marks (fun vs H Q E h=>?_) (fun cdv A outer s H vs Q E hr h=>?_)
  · obtain ⟨_,_,_,_,_,_,_,_,_,_,_,rfl,_⟩:=h;rfl
  · obtain ⟨g,S,R,ps,sf,dx,Mk,Ll,Kn,Ff,l,rfl,es,⟨kvs,eM,hv⟩,hE,hin,hn,hz,el,k⟩:=h
    refine ⟨_,(pss_one (ps_ret (pe_callB (cr_sum rfl) rfl T.n_sum boot_sum (pa_cons (pe_lc rfl sc_Search_sum_of_marks.nd (pi_list (pv 1)) (blkOk_by (own:=[("entry",2)]) (by kernel_rfl)) (fun _ _ _ _ _=>pg_name (i:=2) sc_Search_sum_of_marks.nd rfl (Or.inl rfl)) (fun _ _ _ _ _=>pts_nil) (fun _ _ _ _ _=>(pe_dget (hu_of hr) (pe_fldK (K:=K) rfl (pv 0) rfl) (pe_fldK (K:=K) rfl (pv 2) rfl) (fun _ _=>rfl)))) pa_nil)))),?_⟩
    refine (Ze rfl ⟨l,rfl,⟨_,SqL.of el⟩,fun D hD=>lc_fn (ys:=ps) (c:=g.rf) (p:=fun _=>true) (f:=fun i=>V.int (mark R [i]:Nat)) hD (SqL.of el) (by omega) (fun i hi H1 Q1 Q0 m1 h1 h0=>?_) fun H1 m1 e1=>?_⟩)
    · obtain ⟨dxe,ig,ei⟩:=hE i (hin i hi)
      have hvi:=hv i (hin i hi)
      refine ⟨rfl,yesT (Ze rfl (Zf (m1.get es) T.cl_Search T.na_Search_marks rfl (Ze rfl (Zf (m1.get ei) T.cl_Entry T.na_Entry_place rfl ⟨Mk,Ze rfl ⟨(by have z:=DGet.k (k:=Sum.inl ((i:Nat):Int)) (m1.get eM);rw [hvi] at z;exact z),h1 rfl _ (Sx.refl _)⟩⟩))))⟩
    · rw [List.filter_eq_self.mpr (fun _ _=>rfl)] at e1
      have e2:H1 D=some (.lst ((ps.map fun i=>((mark R [i]:Nat):Int)).map V.int)):=by rw [e1,List.map_map];rfl
      refine ⟨D,Ze rfl ⟨SqL.of e2,?_⟩⟩
      have z:=k H1 m1
      have hs:=mark_sum (R:=R) hn
      have e3:(ps.map fun i=>((mark R [i]:Nat):Int)).sum=((mark R ps:Nat):Int):=by
        rw [← hs,← sum_cast,List.map_map];rfl
      rw [← e3] at z
      exact z
def sp_Search_first_free (T:Txt K mg):Sp:=fun vs H Q _=>∃ (g:Gh) (s:State) (R LL B:List Nat) (sf dx Mk Ll Kn Ff:Addr),vs=[.ref sf,.int (mark R B:Nat)]∧H sf=some (.ins T.c_Search dx (searchF Mk Ll Kn Ff))∧MksAt H Mk R∧EntsAt T H g s R∧(∀ i ∈ LL,i ∈ R)∧H Ll=some (.lst (g.rfs LL)) ∧
  Q (optV g (LL.find? fun j=>decide (j ∈ B))) H
theorem ok_Search_first_free (T:Txt K mg):FnOk P w K mg base CX0 1 T.f_Search_first_free.f T.f_Search_first_free.fd ["self", "free"] (sp_Search_first_free T):=by
  refine T.f_Search_first_free.F.ok sc_Search_first_free (fun vs H Q E h=>?_) (fun cdv A outer s H vs Q E hr h=>?_)
  · obtain ⟨_,_,_,_,_,_,_,_,_,_,_,rfl,_⟩:=h;rfl
  · obtain ⟨g,S,R,LL,B,sf,dx,Mk,Ll,Kn,Ff,rfl,es,⟨kvs,eM,hv⟩,hE,hin,el,k⟩:=h
    refine ⟨_, (pss_cons (ps_for PassesOwn.never rfl (pi_list (pe_fld (pv 0) rfl)) (pg_name (i := 2) sc_Search_first_free.nd rfl (Or.inl rfl))
        (pss_one (ps_if (pt_truth (pe_op op_and (pe_dget (hu_of hr) (pe_fld (pv 0) rfl) (pe_fld (pv 2) rfl) (fun _ _=>rfl)) (pv 1)) (fun _=>rfl)) (pss_one (ps_ret (pv 2))) pss_nil)))
      (pss_one (ps_ret pe_non))),?_⟩
    refine ⟨_,rfl,_,_,_,_,_,rfl,es,T.cl_Search,T.na_Search_lefts,rfl,Ll,rfl,⟨_,SqL.of el⟩,for_list (K:=K) (a:=Ll) (xs:=g.rfs LL) (fun j σ H'=>∃ v,σ = [some (.ref sf),some (.int (mark R B:Nat)),v]∧H'=H∧(LL.take j).find? (fun j=>decide (j ∈ B))=none)
      ⟨_,rfl,rfl,rfl⟩ (fun j σ H' _ ⟨_,_,e,_⟩=>by rw [e];exact SqL.of el) ?_ ?_⟩
    · rintro j v σ H' hj ⟨v0,rfl,rfl,hno⟩
      unfold Gh.rfs at hj
      rw [List.getElem?_map] at hj
      cases ej:LL[j]? with
      | none=>rw [ej] at hj;cases hj
      | some i =>
        rw [ej] at hj
        obtain rfl:g.rf i=v:=Option.some.inj hj
        have hi:=hin i (List.mem_of_getElem? ej)
        obtain ⟨dxe,ig,ei⟩:=hE i hi
        have hvi:=hv i hi
        refine (Ze rfl (Zf es T.cl_Search T.na_Search_marks rfl (Ze rfl (Zf ei T.cl_Entry T.na_Entry_place rfl ⟨Mk,Ze rfl ⟨(by have z:=DGet.k (k:=Sum.inl ((i:Nat):Int)) eM;rw [hvi] at z;exact z),?_⟩⟩))))
        refine (Ze rfl (Zo rfl rfl (Ze rfl ?_)))
        rw [bitAnd_nat]
        have hone:=mark_one (B:=B) hi
        by_cases hb:i ∈ B
        · have hne:((((mark R [i] &&& mark R B:Nat):Nat):Int) != 0)=true:=by
            rw [bne_iff_ne]
            intro q
            exact (hone.mp (by omega)) hb
          rw [hne]
          refine iteT (Ze rfl ?_)
          rw [find_take _ ej hno (by simpa using hb)] at k
          exact k
        · have he:((((mark R [i] &&& mark R B:Nat):Nat):Int) != 0)=false:=by
            rw [hone.mpr hb];rfl
          rw [he]
          refine iteF (Ze rfl ⟨rfl,?_⟩)
          have et:LL.take (j + 1)=LL.take j++[i]:=by rw [List.take_add_one,ej];rfl
          rw [et,List.find?_append,hno,List.find?_cons,decide_eq_false hb];rfl
    · rintro σ H' ⟨v0,rfl,rfl,hno⟩
      rw [len_rfs,List.take_length] at hno
      rw [hno] at k
      exact k
end
end TB
namespace TB
open PySem PySem.Spec PyProof.Rows L2
open PySem.W (Codec)
section
variable {P:Program} {w:World} {K:PySem.W.Frag} {mg:Str→Option Value} {base:Heap}
def kin:HO→Bool
  | .lst _=>true
  | .tup _=>true
  | .ins _ _ _=>true
  | _=>false
def Kp (H H':Hp):Prop:=∀ b o,kin o=true→H b=some o→H' b=some o
theorem Kp.get {H H':Hp} (k:Kp H H') {b:Addr} {o:HO} (h:H b=some o) (p:kin o=true:=by rfl):H' b=some o:=k b o p h
theorem Sx.kp {Kn:Addr} {H H':Hp} (m:Sx (fun b=>b=Kn) H H') {kv:List (Key × V)} (e:H Kn=some (.dK kv)):Kp H H':=fun b o p h=>by
  refine m.keep b o (fun q=>?_) ?_ h
  · rw [q,e] at h;cases h;cases p
  · cases o <;> first | rfl | cases p
theorem EntsAt.kp {T:Txt K mg} {H H':Hp} {g:Gh} {s:State} {R:List Nat} (h:EntsAt T H g s R) (m:Kp H H'):EntsAt T H' g s R:=fun i hi=>let ⟨dx,ig,e⟩:=h i hi;⟨dx,ig,m.get e⟩
theorem FitAt.kp {T:Txt K mg} {H H':Hp} {g:Gh} {s:State} {R:List Nat} {f:Addr} {q:Grp} (h:FitAt T H g s R f q) (m:Kp H H'):FitAt T H' g s R f q :=
  let ⟨dx,l,r,e1,e2,e3,n⟩:=h;⟨dx,l,r,m.get e1,m.get e2,m.get e3,n⟩
theorem FitsAt.kp {T:Txt K mg} {H H':Hp} {g:Gh} {s:State} {R:List Nat} {fs:List Addr} {qs:List Grp} (h:FitsAt T H g s R fs qs) (m:Kp H H'):FitsAt T H' g s R fs qs:=⟨h.1,fun n f q h1 h2=>(h.2 n f q h1 h2).kp m⟩
theorem PlanAt.kp {T:Txt K mg} {H H':Hp} {g:Gh} {s:State} {R:List Nat} {p:Addr} {gs:List Grp} (h:PlanAt T H g s R p gs) (m:Kp H H'):PlanAt T H' g s R p gs :=
  let ⟨dx,F,t,fs,e1,e2,e3,e4,n⟩:=h;⟨dx,F,t,fs,m.get e1,m.get e2,m.get e3,e4.kp m,n⟩
def IsFit (s:State) (x:Vbfuao.Account) (LL RR:List Nat) (i:Nat) (q:Grp):Prop:=∃ a b,q=(i :: a,b)∧(i :: a).Sublist LL∧(i :: a).length≤x.size∧b.Sublist RR∧b.length≤x.size∧Vbfuao.fits s x (i :: a) b=true
structure SAt (T:Txt K mg) (H:Hp) (g:Gh) (s:State) (x:Vbfuao.Account) (LL RR:List Nat) (sf Mk Ll Kn Ff:Addr):Prop where
  obj:∃ dx,H sf=some (.ins T.c_Search dx (searchF Mk Ll Kn Ff))
  ents:EntsAt T H g s (LL++RR)
  ll:H Ll=some (.lst (g.rfs LL))
  mks:MksAt H Mk (LL++RR)
  ff:∃ kvs,H Ff=some (.dK kvs)∧∀ i ∈ LL,∃ L fs qs,valV kvs (.inl (i:Nat))=some (.ref L)∧H L=some (.lst (fs.map V.ref))∧FitsAt T H g s (LL++RR) fs qs∧∀ q,q ∈ qs↔IsFit s x LL RR i q
  ow:OwnAt H g
  kM:Mk≠Kn
  kF:Ff≠Kn
theorem SAt.kp {T:Txt K mg} {H H':Hp} {g:Gh} {s:State} {x:Vbfuao.Account} {LL RR:List Nat} {sf Mk Ll Kn Ff:Addr} (h:SAt T H g s x LL RR sf Mk Ll Kn Ff) (m:Sx (fun b=>b=Kn) H H') {kv:List (Key × V)} (e:H Kn=some (.dK kv)):SAt T H' g s x LL RR sf Mk Ll Kn Ff where
  obj:=let ⟨dx,e1⟩:=h.obj;⟨dx,(m.kp e).get e1⟩
  ents:=h.ents.kp (m.kp e)
  ll:=(m.kp e).get h.ll
  mks:=let ⟨kvs,e1,q⟩:=h.mks;⟨kvs,m.keep _ _ h.kM rfl e1,q⟩
  ff:=let ⟨kvs,e1,q⟩:=h.ff;⟨kvs,m.keep _ _ h.kF rfl e1,fun i hi=>let ⟨L,fs,qs,a1,a2,a3,a4⟩:=q i hi;⟨L,fs,qs,a1,(m.kp e).get a2,a3.kp (m.kp e),a4⟩⟩
  ow:=h.ow.keep m
  kM:=h.kM
  kF:=h.kF
def KAt (T:Txt K mg) (H:Hp) (g:Gh) (s:State) (x:Vbfuao.Account) (LL RR:List Nat) (Kn:Addr):Prop:=∃ kvs:List (Key × V),H Kn=some (.dK kvs)∧(kvs.map (·.1)).Nodup∧(∀ k ∈ kvs.map (·.1),∃ l r,l.Sublist LL∧r.Sublist RR∧k = .inl ((mark (LL++RR) (l++r):Nat):Int)) ∧
  ∀ l r v,l.Sublist LL→r.Sublist RR→valV kvs (.inl ((mark (LL++RR) (l++r):Nat):Int))=some v→∃ pl gs,v = .ref pl∧PlanAt T H g s (LL++RR) pl gs∧Best s x (LL++RR) l r gs
theorem KAt.keep {T:Txt K mg} {H H':Hp} {g:Gh} {s:State} {x:Vbfuao.Account} {LL RR:List Nat} {Kn:Addr} (h:KAt T H g s x LL RR Kn) (m:Sm H H'):KAt T H' g s x LL RR Kn :=
  let ⟨kvs,e,h1,h2,h3⟩:=h;⟨kvs,m.get e,h1,h2,fun l r v a b c=>let ⟨pl,gs,z1,z2,z3⟩:=h3 l r v a b c;⟨pl,gs,z1,z2.keep m,z3⟩⟩
theorem KAt.len {kvs:List (Key × V)} {LL RR:List Nat} (h1:(kvs.map (·.1)).Nodup) (h2:∀ k ∈ kvs.map (·.1),∃ l r,l.Sublist LL∧r.Sublist RR∧k = .inl ((mark (LL++RR) (l++r):Nat):Int)) (l5:LL.length≤5) (r5:RR.length≤5):kvs.length≤1024:=by
  have hs:∀ k ∈ kvs.map (·.1),k ∈ (subs LL).flatMap fun l=>(subs RR).map fun r=>(Sum.inl ((mark (LL++RR) (l++r):Nat):Int):Key):=fun k hk=>by
    obtain ⟨l,r,hl,hr,rfl⟩:=h2 k hk
    exact List.mem_flatMap.mpr ⟨l,mem_subs hl,List.mem_map.mpr ⟨r,mem_subs hr,rfl⟩⟩
  have z:=h1.length_le_of_subset hs
  rw [List.length_map] at z
  have e:((subs LL).flatMap fun l=>(subs RR).map fun r=>(Sum.inl ((mark (LL++RR) (l++r):Nat):Int):Key)).length=2 ^ LL.length * 2 ^ RR.length:=by
    rw [List.length_flatMap]
    have:((subs LL).map fun l=>((subs RR).map fun r=>(Sum.inl ((mark (LL++RR) (l++r):Nat):Int):Key)).length)=(subs LL).map fun _=>2 ^ RR.length:=List.map_congr_left fun l _=>by rw [List.length_map,len_subs]
    rw [this,List.map_const',List.sum_replicate_nat,len_subs]
  rw [e,← Nat.pow_add] at z
  have:2 ^ (LL.length + RR.length)≤2 ^ 10:=Nat.pow_le_pow_right (by decide) (by omega)
  omega
theorem mark_lr {LL RR l r l' r':List Nat} (hn:(LL++RR).Nodup) (hl:l.Sublist LL) (hr:r.Sublist RR) (hl':l'.Sublist LL) (hr':r'.Sublist RR) (e:mark (LL++RR) (l++r)=mark (LL++RR) (l'++r')):l=l'∧r=r':=by
  have h:=mark_inj e
  obtain ⟨n1,n2,n3⟩:=List.nodup_append.mp hn
  refine ⟨sub_eq n1 hl hl' fun j hj=>?_,sub_eq n2 hr hr' fun j hj=>?_⟩
  · have q:=h j (List.mem_append_left _ hj)
    have a1:j ∉ r:=fun z=>n3 j hj j (hr.subset z) rfl
    have a2:j ∉ r':=fun z=>n3 j hj j (hr'.subset z) rfl
    rw [List.mem_append,List.mem_append] at q
    simpa [a1,a2] using q
  · have q:=h j (List.mem_append_right _ hj)
    have a1:j ∉ l:=fun z=>n3 j (hl.subset z) j hj rfl
    have a2:j ∉ l':=fun z=>n3 j (hl'.subset z) j hj rfl
    rw [List.mem_append,List.mem_append] at q
    simpa [a1,a2] using q
theorem keys_put {kvs:List (Key × V)} (h:(kvs.map (·.1)).Nodup) (k:Key) (v:V):((putK kvs k v).map (·.1)).Nodup∧∀ j ∈ (putK kvs k v).map (·.1),j=k∨j ∈ kvs.map (·.1):=by
  cases e:valV kvs k with
  | none =>
    refine ⟨nd_putK v h e,fun j hj=>?_⟩
    rw [putK_new v e,List.map_append] at hj
    rcases List.mem_append.mp hj with z | z
    · exact .inr z
    · exact .inl (List.mem_singleton.mp z)
  | some u =>
    have ek:(putK kvs k v).map (·.1)=kvs.map (·.1):=by
      unfold putK
      rw [if_pos (by rw [valV_any,e];rfl),List.map_map]
      refine List.map_congr_left fun x _=>?_
      show (if x.1=k then (x.1,v) else x).1=x.1
      split <;> rfl
    rw [ek]
    exact ⟨h,fun j hj=>.inr hj⟩
theorem KAt.put {T : Txt K mg} {H : Hp} {g : Gh} {s : State} {x : Vbfuao.Account} {LL RR : List Nat} {Kn : Addr} (hn : (LL ++ RR).Nodup) {kvs : List (Key × V)} (e : H Kn = some (.dK kvs)) (h1 : (kvs.map (·.1)).Nodup) (h2 : ∀ k ∈ kvs.map (·.1), ∃ l r, l.Sublist LL ∧ r.Sublist RR ∧ k = .inl ((mark (LL ++ RR) (l ++ r) : Nat) : Int))
    (h3:∀ l r v,l.Sublist LL→r.Sublist RR→valV kvs (.inl ((mark (LL++RR) (l++r):Nat):Int))=some v→∃ pl gs,v = .ref pl∧PlanAt T H g s (LL++RR) pl gs∧Best s x (LL++RR) l r gs) {l r:List Nat} (hl:l.Sublist LL) (hr:r.Sublist RR) {pl:Addr} {gs:List Grp} (hp:PlanAt T H g s (LL++RR) pl gs) (hb:Best s x (LL++RR) l r gs) :
    KAt T (upd H Kn (.dK (putK kvs (.inl ((mark (LL++RR) (l++r):Nat):Int)) (.ref pl)))) g s x LL RR Kn:=by
  have m:Sx (fun b=>b=Kn) H (upd H Kn (.dK (putK kvs (.inl ((mark (LL++RR) (l++r):Nat):Int)) (.ref pl)))):=Sx.put rfl e
  obtain ⟨k1,k2⟩:=keys_put h1 (.inl ((mark (LL++RR) (l++r):Nat):Int)) (.ref pl)
  refine ⟨_,upd_same,k1,fun k hk=>?_,fun l' r' v hl' hr' hv=>?_⟩
  · rcases k2 k hk with z | z
    · exact ⟨l,r,hl,hr,z⟩
    · exact h2 k z
  · rw [valV_put] at hv
    by_cases q:(Sum.inl ((mark (LL++RR) (l'++r'):Nat):Int):Key)=Sum.inl ((mark (LL++RR) (l++r):Nat):Int)
    · rw [if_pos q] at hv
      have e2:mark (LL++RR) (l'++r')=mark (LL++RR) (l++r):=by injection q with q;omega
      obtain ⟨rfl,rfl⟩:=mark_lr hn hl' hr' hl hr e2
      exact ⟨pl,gs,(Option.some.inj hv).symm,hp.kp (m.kp e),hb⟩
    · rw [if_neg q] at hv
      obtain ⟨pl',gs',z1,z2,z3⟩:=h3 l' r' v hl' hr' hv
      exact ⟨pl',gs',z1,z2.kp (m.kp e),z3⟩
def spBo (n:Nat) (T:Txt K mg):Sp:=fun vs H Q _=>∃ (g:Gh) (s:State) (x:Vbfuao.Account) (LL RR l r:List Nat) (sf Mk Ll Kn Ff:Addr),vs=[.ref sf,.int (mark (LL++RR) (l++r):Nat)]∧SAt T H g s x LL RR sf Mk Ll Kn Ff∧KAt T H g s x LL RR Kn∧l.Sublist LL∧r.Sublist RR∧l.length < n∧LL.length≤5∧RR.length≤5∧(LL++RR).Nodup ∧
  ∀ H' pl gs,Sx (fun b=>b=Kn) H H'→KAt T H' g s x LL RR Kn→PlanAt T H' g s (LL++RR) pl gs→Best s x (LL++RR) l r gs→Q (.ref pl) H'
theorem bo_of (T : Txt K mg) (n : Nat) (G_Search_best_by_first : FnOk P w K mg base CX0 (2 * n + 5) T.f_Search_best_by_first.f T.f_Search_best_by_first.fd ["self", "free"] (spBo (n + 1) T)) :
    FnOk P w K mg base CX0 (2 * (n + 1) + 4) T.f_Search_best_of.f T.f_Search_best_of.fd ["self", "free"] (spBo (n + 1) T):=by
  refine T.f_Search_best_of.F.ok sc_Search_best_of (fun vs H Q E h=>?_) (fun cdv A outer s H vs Q E hr h=>?_)
  · obtain ⟨_,_,_,_,_,_,_,_,_,_,_,_,rfl,_⟩:=h;rfl
  · obtain ⟨g,S,x,LL,RR,l,r,sf,Mk,Ll,Kn,Ff,rfl,hS,hK,hl,hr',hln,l5,r5,hnd,k⟩:=h
    refine ⟨_,(pss_cons (ps_if (pt_cmp (pc_dnotin (hu_of hr) (pv 1) (pe_fld (pv 0) rfl))) (pss_one (ps_dput (hu_of hr) (pe_fld (pv 0) rfl) (pv 1) (pe_meth (pv 0) T.cl_Search T.me_Search_best_by_first G_Search_best_by_first (hr.mono (by omega)) T.f_Search_best_by_first.b .nil pass0 (pa_cons (pv 1) pa_nil)) rfl)) pss_nil)
      (pss_one (ps_ret (pe_dget (hu_of hr) (pe_fld (pv 0) rfl) (pv 1) (fun _ _=>rfl))))),?_⟩
    have hK0:=hK
    obtain ⟨kvs,eK,h1,h2,h3⟩:=hK
    obtain ⟨dx,eo⟩:=hS.obj
    refine (Ze rfl (Ze rfl (Zf eo T.cl_Search T.na_Search_known rfl ⟨Kn,Ze rfl ⟨DGet.k (k:=Sum.inl ((mark (LL++RR) (l++r):Nat):Int)) eK,Ze rfl ?_⟩⟩)))
    cases ev:valV kvs (Sum.inl ((mark (LL++RR) (l++r):Nat):Int)) with
    | some v =>
      refine iteF ?_
      obtain ⟨pl,gs,rfl,z2,z3⟩:=h3 l r v hl hr' ev
      refine (Ze rfl (Zf eo T.cl_Search T.na_Search_known rfl (Ze rfl ⟨Kn,Ze rfl ⟨(by have z:=DGet.k (k:=Sum.inl ((mark (LL++RR) (l++r):Nat):Int)) eK;rw [ev] at z;exact z),?_⟩⟩)))
      exact k H pl gs (Sx.refl _) hK0 z2 z3
    | none =>
      refine iteT ?_
      refine (Ze rfl (Zm eo rfl (Ze rfl ⟨g,S,x,LL,RR,l,r,sf,Mk,Ll,Kn,Ff,rfl,hS,hK0,hl,hr',hln,l5,r5,hnd,fun H1 pl gs m1 hK1 hp hb=>?_⟩)))
      obtain ⟨kvs1,eK1,a1,a2,a3⟩:=hK1
      have eo1:=(m1.kp eK).get eo
      refine (Ze rfl (Zf eo1 T.cl_Search T.na_Search_known rfl (Ze rfl ⟨Kn,Ze rfl ⟨DPut.k (k:=Sum.inl ((mark (LL++RR) (l++r):Nat):Int)) eK1 (sz (Nat.le_trans (KAt.len a1 a2 l5 r5) (by decide))),?_⟩⟩)))
      have m2:Sx (fun b=>b=Kn) H1 (upd H1 Kn (.dK (putK kvs1 (.inl ((mark (LL++RR) (l++r):Nat):Int)) (.ref pl)))):=Sx.put rfl eK1
      refine (Ze rfl (Zf ((m2.kp eK1).get eo1) T.cl_Search T.na_Search_known rfl (Ze rfl ⟨Kn,Ze rfl ⟨(by have z:=DGet.k (k:=Sum.inl ((mark (LL++RR) (l++r):Nat):Int)) (upd_same (H:=H1) (a:=Kn) (o:=.dK (putK kvs1 (.inl ((mark (LL++RR) (l++r):Nat):Int)) (.ref pl))));rw [valV_put,if_pos rfl] at z;exact z),?_⟩⟩)))
      exact k _ pl gs (m1.trans m2) (KAt.put hnd eK1 a1 a2 a3 hl hr' hp hb) (hp.kp (m2.kp eK1)) hb
end
end TB
namespace TB
open PySem PySem.Spec PyProof.Rows L2
open PySem.W (Codec)
section
variable {P:Program} {w:World} {K:PySem.W.Frag} {mg:Str→Option Value} {base:Heap}
theorem iteE {b c:Bool} {A B:Prop} (e:b=c) (h1:c=true→A) (h2:c=false→B):if b=true then A else B:=by subst e;exact iteb h1 h2
theorem klt_asymm {a b:List Int} (h:klt a b=true):klt b a=false:=by
  cases q:klt b a with
  | false=>rfl
  | true =>
    have:=klt_trans h q
    rw [klt_irrefl] at this;cases this
theorem fits_size {s:State} {x:Vbfuao.Account} {a b:List Nat} (h:Vbfuao.fits s x a b=true):a.length≤x.size∧b.length≤x.size∧a≠[]∧b≠[]:=by
  unfold Vbfuao.fits at h
  rw [Bool.and_eq_true,Bool.and_eq_true,Bool.and_eq_true,decide_eq_true_eq] at h
  refine ⟨h.2.1.1,h.2.1.2,fun q=>?_,fun q=>?_⟩
  · rw [q] at h;exact absurd h.1.1 (by decide)
  · rw [q] at h;exact absurd h.1.2 (by decide)
theorem find_head {LL l r B:List Nat} (hn:LL.Nodup) (hl:l.Sublist LL) (hB:∀ j ∈ LL,(j ∈ B↔j ∈ l)):LL.find? (fun j=>decide (j ∈ B))=l.head?:=by
  have e:=sub_filter hl hn
  have e2:LL.filter (fun j=>decide (j ∈ B))=LL.filter (fun j=>decide (j ∈ l)):=List.filter_congr fun j hj=>by rw [decide_eq_decide];exact hB j hj
  rw [← List.head?_filter,e2,← e]
theorem mark_split {R A B C:List Nat} (hd:∀ j ∈ R,¬ (j ∈ A∧j ∈ B)) (h:∀ j ∈ R,(j ∈ C↔j ∈ A∨j ∈ B)):((mark R C:Nat):Int) - ((mark R A:Nat):Int)=((mark R B:Nat):Int):=by
  have e:=mark_add hd
  have e2:mark R C=mark R (A++B):=mark_congr fun j hj=>by rw [h j hj,List.mem_append]
  omega
theorem best_nil (s:State) (x:Vbfuao.Account) (R r:List Nat):Best s x R [] r []:=⟨.nil r,fun gs' h=>by cases h;exact klt_irrefl _⟩
theorem bb_of (T : Txt K mg) (n : Nat) (G_Search_best_of : FnOk P w K mg base CX0 (2 * n + 4) T.f_Search_best_of.f T.f_Search_best_of.fd ["self", "free"] (spBo n T)) :
    FnOk P w K mg base CX0 (2 * n + 5) T.f_Search_best_by_first.f T.f_Search_best_by_first.fd ["self", "free"] (spBo (n + 1) T):=by
  have G_Plan_init:=ok_Plan_init (P:=P) (w:=w) (base:=base) T
  have G_rank_behind:=ok_rank_behind (P:=P) (w:=w) (base:=base) T
  have G_Search_first_free:=ok_Search_first_free (P:=P) (w:=w) (base:=base) T
  refine T.f_Search_best_by_first.F.ok sc_Search_best_by_first (fun vs H Q E h=>?_) (fun cdv A outer s H vs Q E hr h=>?_)
  · obtain ⟨_,_,_,_,_,_,_,_,_,_,_,_,rfl,_⟩:=h;rfl
  · obtain ⟨g,S,x,LL,RR,l,r,sf,Mk,Ll,Kn,Ff,rfl,hS,hK,hl,hr',hln,l5,r5,hnd,k⟩:=h
    refine ⟨_,(pss_cons (ps_set (i:=2) sc_Search_best_by_first.nd rfl (Or.inl rfl) (pe_meth (pv 0) T.cl_Search T.me_Search_first_free G_Search_first_free (hr.mono (by omega)) T.f_Search_first_free.b .nil pass0 (pa_cons (pv 1) pa_nil)))
      (pss_cons (ps_if (pt_cmp (pc_isN (pv 2))) (pss_one (ps_ret (pe_make T.mk_Plan G_Plan_init (hr.mono (by omega)) rfl T.mg_Plan T.f_Plan_init.b .nil pass0 (pa_cons (pe_lst pa_nil) (pa_cons (pe_tup (pa_cons pe_int (pa_cons pe_int (pa_cons pe_int (pa_cons pe_int pa_nil))))) (pa_cons pe_int pa_nil)))))) pss_nil)
      (pss_cons (ps_set (i:=3) sc_Search_best_by_first.nd rfl (Or.inl rfl) (pe_meth (pv 0) T.cl_Search T.me_Search_best_of G_Search_best_of (hr.mono (by omega)) T.f_Search_best_of.b .nil pass0 (pa_cons (pe_op op_sub (pv 1) (pe_dget (hu_of hr) (pe_fld (pv 0) rfl) (pe_fld (pv 2) rfl) (fun _ _=>rfl))) pa_nil)))
      (pss_cons (ps_for PassesOwn.never rfl (pi_list (pe_dget (hu_of hr) (pe_fld (pv 0) rfl) (pe_fld (pv 2) rfl) (fun _ _=>rfl))) (pg_name (i:=4) sc_Search_best_by_first.nd rfl (Or.inl rfl))
        (pss_one (ps_if (pt_cmpR op_eq (pe_op op_and (pe_fld (pv 4) rfl) (pv 1)) (pe_fld (pv 4) rfl) (nomark _)) (pss_cons (ps_set (i:=5) sc_Search_best_by_first.nd rfl (Or.inl rfl) (pe_meth (pv 0) T.cl_Search T.me_Search_best_of G_Search_best_of (hr.mono (by omega)) T.f_Search_best_of.b .nil pass0 (pa_cons (pe_op op_sub (pv 1) (pe_fld (pv 4) rfl)) pa_nil)))
      (pss_cons (ps_set (i:=6) sc_Search_best_by_first.nd rfl (Or.inl rfl) (pe_call G_rank_behind (hr.mono (by omega)) rfl T.m_rank_behind T.f_rank_behind.kp T.f_rank_behind.b .nil pass0 (pa_cons (pv 4) (pa_cons (pv 5) pa_nil))))
      (pss_one (ps_if (pt_cmpR (op_ltT hr.units0) (pv 6) (pe_fld (pv 3) rfl) (nomark _)) (pss_one (ps_set (i:=3) sc_Search_best_by_first.nd rfl (Or.inl rfl) (pe_make T.mk_Plan G_Plan_init (hr.mono (by omega)) rfl T.mg_Plan T.f_Plan_init.b .nil pass0 (pa_cons (pe_op op_cat (pe_lst (pa_cons (pv 4) pa_nil)) (pe_fld (pv 5) rfl)) (pa_cons (pv 6) (pa_cons (pe_op op_add (pe_fld (pv 4) rfl) (pe_fld (pv 5) rfl)) pa_nil)))))) pss_nil)))) pss_nil)))
      (pss_one (ps_ret (pv 3))))))),?_⟩
    obtain ⟨nL,nR,nLR⟩:=List.nodup_append.mp hnd
    obtain ⟨dx,eo⟩:=hS.obj
    have hB:∀ j ∈ LL,(j ∈ l++r↔j ∈ l):=fun j hj=>by
      rw [List.mem_append]
      exact ⟨fun q=>q.elim id fun z=>absurd rfl (nLR j hj j (hr'.subset z)),.inl⟩
    refine (Ze rfl (Zm eo rfl (Ze rfl ⟨g,S,LL++RR,LL,l++r,sf,dx,Mk,Ll,Kn,Ff,rfl,eo,hS.mks,hS.ents,fun i hi=>List.mem_append_left _ hi,hS.ll,?_⟩)))
    rw [find_head (r:=r) nL hl hB]
    cases l with
    | nil =>
      refine (Ze rfl (Ze rfl ?_))
      refine iteT ⟨small_list,fun F hF=>⟨small_list,fun t ht=>?_⟩⟩
      intro p dp np ndp nne
      refine ⟨p,dp,_,_,_,rfl,upd_same,rfl,?_⟩
      rw [upd_upd]
      have m1:Sm H (upd H F (.lst [])):=Sx.new hF
      have m2:=m1.trans (Sx.new (o:=.tup [.int 0,.int 0,.int 0,.int 0]) ht)
      have m3:=m2.trans (Sx.new (o:=.own p) ndp)
      have m4:=m3.trans (Sx.new (a:=p) (o:=.ins T.c_Plan dp [(("fits" : Str),V.ref F),("rank",V.ref t),("marks",V.int 0)]) (by rw [upd_ne (Ne.symm nne)];exact np))
      have eF:∀ {o:HO},upd H F (.lst []) F=some o→o = .lst []:=fun e=>by rw [upd_same] at e;exact (Option.some.inj e).symm
      have c1:Sm (upd H F (.lst [])) (upd (upd H F (.lst [])) t (.tup [.int 0,.int 0,.int 0,.int 0])):=Sx.new ht
      have c2:=c1.trans (Sx.new (o:=.own p) ndp)
      have c3:=c2.trans (Sx.new (a:=p) (o:=.ins T.c_Plan dp [(("fits" : Str),V.ref F),("rank",V.ref t),("marks",V.int 0)]) (by rw [upd_ne (Ne.symm nne)];exact np))
      have d1:Sm (upd (upd H F (.lst [])) t (.tup [.int 0,.int 0,.int 0,.int 0])) _:=Sx.new (o:=.own p) ndp
      have d2:=d1.trans (Sx.new (a:=p) (o:=.ins T.c_Plan dp [(("fits" : Str),V.ref F),("rank",V.ref t),("marks",V.int 0)]) (by rw [upd_ne (Ne.symm nne)];exact np))
      refine k _ p [] m4.weak (hK.keep m4) ⟨dp,F,t,[],?_,c3.get upd_same,?_,⟨rfl,fun n f q h=>by simp at h⟩,hS.ow p (m2.free p np),hS.ow F hF⟩ (best_nil _ _ _ _)
      · rw [upd_same]
        show _=some (HO.ins T.c_Plan dp [(("fits" : Str),V.ref F),("rank",V.ref t),("marks",V.int ((mark (LL++RR) []:Nat):Int))])
        rw [mark_nil];rfl
      · rw [rank_nil]
        exact d2.get upd_same
    | cons i l =>
      have hi:i ∈ LL:=hl.subset List.mem_cons_self
      have hnl:(i :: l).Nodup:=nL.sublist hl
      have hl2:l.Sublist LL:=(List.sublist_cons_self i l).trans hl
      have hnr:r.Nodup:=nR.sublist hr'
      have hdis:∀ j ∈ i :: l,j ∉ r:=fun j hj z=>nLR j (hl.subset hj) j (hr'.subset z) rfl
      obtain ⟨hil,hnl2⟩:=List.nodup_cons.mp hnl
      refine (Ze rfl (Ze rfl (iteF ?_)))
      obtain ⟨kM,eM,hM⟩:=hS.mks
      obtain ⟨dxe,ig,ei⟩:=hS.ents i (List.mem_append_left _ hi)
      have hMi:=hM i (List.mem_append_left _ hi)
      have es1:((mark (LL++RR) (i :: l++r):Nat):Int) - ((mark (LL++RR) [i]:Nat):Int)=((mark (LL++RR) (l++r):Nat):Int):=by
        refine mark_split (fun j _=>?_) fun j _=>?_
        · rintro ⟨z1,z2⟩
          rw [List.mem_singleton.mp z1] at z2
          exact (List.mem_append.mp z2).elim hil (hdis i List.mem_cons_self)
        · rw [List.cons_append,List.mem_cons,List.mem_singleton]
      refine (Ze rfl (Zm eo rfl (Ze rfl (Ze rfl (Zf eo T.cl_Search T.na_Search_marks rfl (Ze rfl (Zf ei T.cl_Entry T.na_Entry_place rfl ⟨Mk,Ze rfl ⟨(by have z:=DGet.k (k:=Sum.inl ((i:Nat):Int)) eM;rw [hMi] at z;exact z),Zo rfl rfl ?_⟩⟩)))))))
      refine ⟨g,S,x,LL,RR,l,r,sf,Mk,Ll,Kn,Ff,by rw [← es1];rfl,hS,hK,hl2,hr',Nat.lt_of_succ_lt_succ hln,l5,r5,hnd,fun H1 p0 g0 m1 hK1 hp0 hb0=>?_⟩
      obtain ⟨kv0,eK0,_⟩:=hK
      have hS1:=hS.kp m1 eK0
      obtain ⟨dx1,eo1⟩:=hS1.obj
      obtain ⟨kf,eF,hF⟩:=hS1.ff
      obtain ⟨L,fs,qs,hLv,eL,hfits,hqs⟩:=hF i hi
      obtain ⟨dxe1,ig1,ei1⟩:=hS1.ents i (List.mem_append_left _ hi)
      refine (Ze rfl (Zf eo1 T.cl_Search T.na_Search_fits_from rfl (Ze rfl (Zf ei1 T.cl_Entry T.na_Entry_place rfl ⟨Ff,Ze rfl ⟨(by have z:=DGet.k (k:=Sum.inl ((i:Nat):Int)) eF;rw [hLv] at z;exact z),?_⟩⟩))))
      obtain ⟨kv1,eK1,hK1r⟩:=hK1
      have hK1:KAt T H1 g S x LL RR Kn:=⟨kv1,eK1,hK1r⟩
      refine ⟨L, rfl, ⟨_, SqL.of eL⟩, for_list (K := K) (a := L) (xs := fs.map V.ref) (fun m σ H' => ∃ v4 v5 v6 bp gs, σ = [some (.ref sf), some (.int (mark (LL ++ RR) (i :: l ++ r) : Nat)), some (g.rf i), some (.ref bp), v4, v5, v6] ∧ Sx (fun b => b = Kn) H1 H' ∧ KAt T H' g S x LL RR Kn ∧ PlanAt T H' g S (LL ++ RR) bp gs ∧ Pl S x (i :: l) r gs ∧ klt (rank S (LL ++ RR) g0) (rank S (LL ++ RR) gs) = false ∧
          ∀ q ∈ qs.take m,∀ a b,q=(i :: a,b)→a.Sublist l→b.Sublist r→∃ gab,Best S x (LL++RR) (Vbfuao.minus l a) (Vbfuao.minus r b) gab∧klt (rank S (LL++RR) (q :: gab)) (rank S (LL++RR) gs)=false)
        ⟨none,none,none,p0,g0,rfl,Sx.refl _,hK1,hp0,.skip hb0.1,klt_irrefl _,fun q hq=>by rw [List.take_zero] at hq;cases hq⟩ (fun j σ H' _ ⟨_,_,_,_,_,_,m,_⟩=>SqL.of ((m.kp eK1).get eL)) ?_ ?_⟩
      · rintro m v σ H' hm ⟨v4,v5,v6,bp,gs,rfl,m2,hK2,hbp,hpl,hk0,hdone⟩
        rw [List.getElem?_map] at hm
        cases em:fs[m]? with
        | none=>rw [em] at hm;cases hm
        | some f =>
          rw [em] at hm
          obtain rfl:V.ref f=v:=Option.some.inj hm
          have hml:m < qs.length:=by rw [← hfits.1];exact (List.getElem?_eq_some_iff.mp em).1
          obtain ⟨q,hq⟩:∃ q,qs[m]? = some q:=⟨_,List.getElem?_eq_getElem hml⟩
          have et:qs.take (m + 1)=qs.take m++[q]:=by rw [List.take_add_one,hq];rfl
          have hfit:=(hfits.2 m f q em hq).kp (m2.kp eK1)
          have hS2:=hS1.kp m2 eK1
          obtain ⟨a,b,rfl,ha1,ha2,hb1,hb2,hfit2⟩:=(hqs q).mp (List.mem_of_getElem? hq)
          obtain ⟨df,fl,fr,ef,_⟩:=hfit
          have hfit:=(hfits.2 m f _ em hq).kp (m2.kp eK1)
          refine (Ze rfl (Zf ef T.cl_Fit T.na_Fit_marks rfl (Ze rfl (Zo rfl rfl (Ze rfl (Zf ef T.cl_Fit T.na_Fit_marks rfl ⟨rfl,Ze rfl ?_⟩))))))
          have hmR:∀ j ∈ mem1 (i :: a,b),j ∈ LL++RR:=fun j hj=>(List.mem_append.mp hj).elim (fun z=>List.mem_append_left _ (ha1.subset z)) fun z=>List.mem_append_right _ (hb1.subset z)
          have hsub:=mark_sub (B:=i :: l++r) hmR
          obtain ⟨hia,hna⟩:=List.nodup_cons.mp (nL.sublist ha1)
          refine iteE (c:=(mark (LL++RR) (mem1 (i :: a,b)) &&& mark (LL++RR) (i :: l++r)) == mark (LL++RR) (mem1 (i :: a,b))) (by show decide (V.int (Builtin.bitAnd _ _)=V.int _)=_;rw [bitAnd_nat,decI]) (fun c1=>?_) (fun c1=>?_)
          · have c1:=hsub.mp (eq_of_beq c1)
            have hal:a.Sublist l:=by
              refine sub_sub nL ((List.sublist_cons_self i a).trans ha1) hl2 fun j hj=>?_
              have z:=c1 j (List.mem_append_left _ (List.mem_cons_of_mem _ hj))
              rw [List.cons_append,List.mem_cons,List.mem_append] at z
              rcases z with z | z | z
              · exact absurd (z ▸ hj) hia
              · exact z
              · exact absurd rfl (nLR j (ha1.subset (List.mem_cons_of_mem _ hj)) j (hr'.subset z))
            have hbr:b.Sublist r:=by
              refine sub_sub nR hb1 hr' fun j hj=>?_
              have z:=c1 j (List.mem_append_right _ hj)
              rcases List.mem_append.mp z with z | z
              · exact absurd rfl (nLR j (hl.subset z) j (hb1.subset hj))
              · exact z
            have es2:((mark (LL++RR) (i :: l++r):Nat):Int) - ((mark (LL++RR) (mem1 (i :: a,b)):Nat):Int)=((mark (LL++RR) (Vbfuao.minus l a++Vbfuao.minus r b):Nat):Int):=by
              refine mark_split (fun j _=>?_) fun j _=>?_
              · rintro ⟨z1,z2⟩
                have z1':j ∈ i :: a∨j ∈ b:=List.mem_append.mp z1
                rw [List.mem_append,mem_minus,mem_minus] at z2
                rw [List.mem_cons] at z1'
                rcases z2 with z2 | z2
                · rcases z1' with (z1' | z1') | z1'
                  · exact hil (z1' ▸ z2.1)
                  · exact z2.2 z1'
                  · exact hdis j (List.mem_cons_of_mem _ z2.1) (hbr.subset z1')
                · rcases z1' with (z1' | z1') | z1'
                  · exact hdis i List.mem_cons_self (z1' ▸ z2.1)
                  · exact hdis j (List.mem_cons_of_mem _ (hal.subset z1')) z2.1
                  · exact z2.2 z1'
              · show j ∈ i :: l++r↔j ∈ (i :: a)++b∨_
                rw [List.cons_append,List.cons_append,List.mem_cons,List.mem_cons,List.mem_append,List.mem_append,List.mem_append,mem_minus,mem_minus]
                constructor
                · rintro (z | z | z)
                  · exact .inl (.inl z)
                  · by_cases q:j ∈ a
                    · exact .inl (.inr (.inl q))
                    · exact .inr (.inl ⟨z,q⟩)
                  · by_cases q:j ∈ b
                    · exact .inl (.inr (.inr q))
                    · exact .inr (.inr ⟨z,q⟩)
                · rintro ((z | z | z) | (z | z))
                  · exact .inl z
                  · exact .inr (.inl (hal.subset z))
                  · exact .inr (.inr (hbr.subset z))
                  · exact .inr (.inl z.1)
                  · exact .inr (.inr z.1)
            obtain ⟨dx2,eo2⟩:=hS2.obj
            refine (Ze rfl (Zm eo2 rfl (Ze rfl (Ze rfl (Zf ef T.cl_Fit T.na_Fit_marks rfl (Zo rfl rfl ?_))))))
            refine ⟨g,S,x,LL,RR,Vbfuao.minus l a,Vbfuao.minus r b,sf,Mk,Ll,Kn,Ff,?_,hS2,hK2,(minus_sub _ _).trans hl2,(minus_sub _ _).trans hr',Nat.lt_of_le_of_lt (minus_sub _ _).length_le (Nat.lt_of_succ_lt_succ hln),l5,r5,hnd,fun H3 pr gab m3 hK3 hpr hbr2=>?_⟩
            · rw [← es2];rfl
            obtain ⟨kv2,eK2,hK2r⟩:=hK2
            have hplq:Pl S x (i :: l) r ((i :: a,b) :: gab):=.grp hal (by rw [List.length_cons] at ha2;omega) hbr hb2 hfit2 hbr2.1
            have ap:∀ j ∈ allm gab,j ∉ mem1 (i :: a,b):=(hplq.apart hnl hdis).1
            have hfit3:=hfit.kp (m3.kp eK2)
            have ef3:=(m3.kp eK2).get ef
            have hbp3:=hbp.kp (m3.kp eK2)
            refine (Ze rfl (Ze rfl ⟨g,S,LL++RR,f,pr,(i :: a,b),gab,rfl,hfit3,hpr,ap,fun t ht=>?_⟩))
            have m4:Sm H3 (upd H3 t (.tup ((rank S (LL++RR) ((i :: a,b) :: gab)).map V.int))):=Sx.new ht
            obtain ⟨dbp,bF,bt,bfs,e1,e2,e3,e4,n1,n2⟩:=hbp3.keep m4
            refine (Ze rfl (Ze rfl (Zf e1 T.cl_Plan T.na_Plan_rank rfl ⟨t,bt,rank S (LL++RR) ((i :: a,b) :: gab),rank S (LL++RR) gs,rfl,rfl,SqT.of upd_same,SqT.of e3,Ze rfl ?_⟩)))
            rw [lex_klt]
            have m24:=(m2.trans m3).trans m4.weak
            refine iteb (fun c2=>?_) (fun c2=>?_)
            · obtain ⟨dpr,rF,rt,rfs',r1,r2,r3,r4,rn1,rn2⟩:=hpr.keep m4
              have ef4:=m4.get ef3
              have hlen5:rfs'.length≤5:=by
                rw [r4.1]
                have:=hbr2.1.len
                have:=(minus_sub l a).length_le
                have:=hl2.length_le
                omega
              refine (Ze rfl ⟨small_list,fun d hd=>?_⟩)
              have m5:Sm (upd H3 t (.tup ((rank S (LL++RR) ((i :: a,b) :: gab)).map V.int))) (upd (upd H3 t (.tup ((rank S (LL++RR) ((i :: a,b) :: gab)).map V.int))) d (.lst [.ref f])):=Sx.new hd
              refine (Ze rfl (Zf (m5.get r1) T.cl_Plan T.na_Plan_fits rfl ⟨d,rF,Zo rfl rfl ⟨upd_same,m5.get r2,by rw [List.length_map];exact sz' (by show 1 + _≤_;omega),fun D hD=>?_⟩⟩))
              have m6:=m5.trans (Sx.new (o:=.lst ([.ref f]++rfs'.map V.ref)) hD)
              refine (Ze rfl (Ze rfl (Zf (m6.get ef4) T.cl_Fit T.na_Fit_marks rfl (Ze rfl (Zf (m6.get r1) T.cl_Plan T.na_Plan_marks rfl (Zo rfl rfl ?_))))))
              intro p dp np ndp nne
              refine ⟨p,dp,_,_,_,rfl,upd_same,rfl,?_⟩
              rw [upd_upd]
              have emk:((mark (LL++RR) (mem1 (i :: a,b)):Nat):Int) + ((mark (LL++RR) (allm gab):Nat):Int)=((mark (LL++RR) (allm ((i :: a,b) :: gab)):Nat):Int):=by
                have:=mark_add (R:=LL++RR) (A:=mem1 (i :: a,b)) (B:=allm gab) fun j _ z=>ap j z.2 z.1
                show _=((mark (LL++RR) (mem1 (i :: a,b)++allm gab):Nat):Int)
                omega
              have m7:=m6.trans (Sx.new (o:=.own p) ndp)
              have m8:=m7.trans (Sx.new (a:=p) (o:=.ins T.c_Plan dp [(("fits" : Str),V.ref D),("rank",V.ref t),("marks",V.int (((mark (LL++RR) (mem1 (i :: a,b)):Nat):Int) + ((mark (LL++RR) (allm gab):Nat):Int)))]) (by rw [upd_ne (Ne.symm nne)];exact np))
              have d7:Sm (upd (upd (upd H3 t (.tup ((rank S (LL++RR) ((i :: a,b) :: gab)).map V.int))) d (.lst [.ref f])) D (.lst ([.ref f]++rfs'.map V.ref))) _:=Sx.new (o:=.own p) ndp
              have d8:=d7.trans (Sx.new (a:=p) (o:=.ins T.c_Plan dp [(("fits" : Str),V.ref D),("rank",V.ref t),("marks",V.int (((mark (LL++RR) (mem1 (i :: a,b)):Nat):Int) + ((mark (LL++RR) (allm gab):Nat):Int)))]) (by rw [upd_ne (Ne.symm nne)];exact np))
              have ow4:=hS2.ow.keep (m3.trans m4.weak)
              refine ⟨_,_,_,p,(i :: a,b) :: gab,rfl,m24.trans m8.weak,(hK3.keep m4).keep m8,⟨dp,D,t,f :: rfs',?_,d8.get upd_same,m8.get upd_same,(FitsAt.cons (hfit3.keep m4) r4).keep m8,ow4 p (m6.free p np),ow4 D (m5.free D hD)⟩,hplq,?_,fun q hq' a' b' hq2 ha' hb'=>?_⟩
              · rw [upd_same,← emk]
              · exact kle_trans (klt_asymm c2) hk0
              · rw [et] at hq'
                rcases List.mem_append.mp hq' with z | z
                · obtain ⟨gab',z1,z2⟩:=hdone q z a' b' hq2 ha' hb'
                  exact ⟨gab',z1,kle_trans (klt_asymm c2) z2⟩
                · have z:=List.mem_singleton.mp z
                  subst z
                  obtain ⟨rfl,rfl⟩:a=a'∧b=b':=by injection hq2 with z1 z2;injection z1 with _ z1;exact ⟨z1,z2⟩
                  exact ⟨gab,hbr2,klt_irrefl _⟩
            · refine ⟨_,_,_,bp,gs,rfl,m24,hK3.keep m4,⟨dbp,bF,bt,bfs,e1,e2,e3,e4,n1,n2⟩,hpl,hk0,fun q hq' a' b' hq2 ha' hb'=>?_⟩
              rw [et] at hq'
              rcases List.mem_append.mp hq' with z | z
              · exact hdone q z a' b' hq2 ha' hb'
              · have z:=List.mem_singleton.mp z
                subst z
                obtain ⟨rfl,rfl⟩:a=a'∧b=b':=by injection hq2 with z1 z2;injection z1 with _ z1;exact ⟨z1,z2⟩
                exact ⟨gab,hbr2,c2⟩
          · refine ⟨_,_,_,bp,gs,rfl,m2,hK2,hbp,hpl,hk0,fun q hq' a' b' hq2 ha' hb'=>?_⟩
            rw [et] at hq'
            rcases List.mem_append.mp hq' with z | z
            · exact hdone q z a' b' hq2 ha' hb'
            · have z:=List.mem_singleton.mp z
              subst z
              obtain ⟨rfl,rfl⟩:a=a'∧b=b':=by injection hq2 with z1 z2;injection z1 with _ z1;exact ⟨z1,z2⟩
              exfalso
              have:(mark (LL++RR) (mem1 (i :: a,b)) &&& mark (LL++RR) (i :: l++r))=mark (LL++RR) (mem1 (i :: a,b)):=hsub.mpr fun j hj=>by
                have hj':j ∈ i :: a∨j ∈ b:=List.mem_append.mp hj
                rcases hj' with z | z
                · exact List.mem_append_left _ ((ha'.cons_cons i).subset z)
                · exact List.mem_append_right _ (hb'.subset z)
              rw [this,beq_self_eq_true] at c1
              cases c1
      · rintro σ H' ⟨v4,v5,v6,bp,gs,rfl,m2,hK2,hbp,hpl,hk0,hdone⟩
        refine (Ze rfl (k H' bp gs (m1.trans m2) hK2 hbp ?_))
        refine Best.step hnl hdis (by have:=hl.length_le;rw [List.length_cons] at this;omega) hpl ⟨g0,hb0,hk0⟩ fun a b ha ha2 hb hb2 hf=>?_
        rw [List.length_map,hfits.1,List.take_length] at hdone
        obtain ⟨z1,z2,_,_⟩:=fits_size hf
        exact hdone (i :: a,b) ((hqs _).mpr ⟨a,b,rfl,(ha.cons_cons i).trans hl,z1,hb.trans hr',z2,hf⟩) a b rfl ha hb
theorem bo_zero (T:Txt K mg):FnOk P w K mg base CX0 4 T.f_Search_best_of.f T.f_Search_best_of.fd ["self", "free"] (spBo 0 T):=by
  refine T.f_Search_best_of.F.ok sc_Search_best_of (fun vs H Q E h=>?_) (fun cdv A outer s H vs Q E hr h=>?_)
  · obtain ⟨_,_,_,_,_,_,_,_,_,_,_,_,rfl,_⟩:=h;rfl
  · obtain ⟨_,_,_,_,_,_,_,_,_,_,_,_,_,_,_,_,_,h,_⟩:=h
    exact absurd h (Nat.not_lt_zero _)
theorem bo_all (T:Txt K mg):∀ n,FnOk P w K mg base CX0 (2 * n + 4) T.f_Search_best_of.f T.f_Search_best_of.fd ["self", "free"] (spBo n T)
  | 0=>bo_zero T
  | n + 1=>bo_of T n (bb_of T n (bo_all T n))
def sp_Search_best_of (T:Txt K mg):Sp:=spBo 6 T
theorem ok_Search_best_of (T:Txt K mg):FnOk P w K mg base CX0 60 T.f_Search_best_of.f T.f_Search_best_of.fd ["self", "free"] (sp_Search_best_of T):=(bo_all T 6).mono (by decide)
end
end TB
namespace TB
open PySem PySem.Spec PyProof.Rows L2
open PySem.W (Codec)
section
variable {P:Program} {w:World} {K:PySem.W.Frag} {mg:Str→Option Value} {base:Heap}
structure SI (T:Txt K mg) (H0 H:Hp) (R:List Nat) (sf dx Mk l Kn Ff:Addr):Prop where
  sm:Sm H0 H
  obj:H sf=some (.ins T.c_Search dx (searchF Mk l Kn Ff))
  mks:MksAt H Mk R
  kn:H Kn=some (.dK [])
theorem SI.keep {T:Txt K mg} {H0 H H':Hp} {R:List Nat} {sf dx Mk l Kn Ff:Addr} (h:SI T H0 H R sf dx Mk l Kn Ff) (m:Sm H H'):SI T H0 H' R sf dx Mk l Kn Ff:=⟨h.sm.trans m,m.get h.obj,h.mks.keep m,m.get h.kn⟩
theorem SI.put {T:Txt K mg} {H0 H:Hp} {R:List Nat} {sf dx Mk l Kn Ff b:Addr} {o u:HO} (h:SI T H0 H R sf dx Mk l Kn Ff) (hb:H0 b=none) (e:H b=some o) (hp:plain o=true) (n1:sf≠b) (n2:Mk≠b) (n3:Kn≠b):SI T H0 (upd H b u) R sf dx Mk l Kn Ff:=by
  obtain ⟨kvs,e1,q⟩:=h.mks
  exact ⟨h.sm.put_new hb e hp,by rw [upd_ne n1];exact h.obj,⟨kvs,by rw [upd_ne n2];exact e1,q⟩,by rw [upd_ne n3];exact h.kn⟩
def FfI (T:Txt K mg) (Z:Addr→Prop) (H:Hp) (g:Gh) (s:State) (x:Vbfuao.Account) (R:List Nat) (Ff:Addr) (D:List Nat) (c:Nat) (Dn:Grp→Prop):Prop :=
  ∃ (kvs:List (Key × V)) (Lf:Nat→Addr) (fsf:Nat→List Addr) (qsf:Nat→List Grp),H Ff=some (.dK kvs)∧kvs.length≤D.length∧(∀ i ∈ D,valV kvs (.inl ((i:Nat):Int))=some (.ref (Lf i))∧H (Lf i)=some (.lst ((fsf i).map V.ref))∧Z (Lf i)∧(fsf i).length≤c∧FitsAt T H g s R (fsf i) (qsf i) ∧
    ∀ q,q ∈ qsf i↔q.1.head? = some i∧Vbfuao.fits s x q.1 q.2=true∧Dn q)∧∀ i ∈ D,∀ j ∈ D,Lf i=Lf j→i=j
theorem FfI.keep {T:Txt K mg} {Z:Addr→Prop} {H H':Hp} {g:Gh} {s:State} {x:Vbfuao.Account} {R:List Nat} {Ff:Addr} {D:List Nat} {c:Nat} {Dn:Grp→Prop} (h:FfI T Z H g s x R Ff D c Dn) (m:Sm H H'):FfI T Z H' g s x R Ff D c Dn :=
  let ⟨kvs,Lf,fsf,qsf,e,hl,h1,h2⟩:=h;⟨kvs,Lf,fsf,qsf,m.get e,hl,fun i hi=>let ⟨a1,a2,a3,a4,a5,a6⟩:=h1 i hi;⟨a1,m.get a2,a3,a4,a5.keep m,a6⟩,h2⟩
theorem FfI.mono {T:Txt K mg} {Z:Addr→Prop} {H:Hp} {g:Gh} {s:State} {x:Vbfuao.Account} {R:List Nat} {Ff:Addr} {D:List Nat} {c c':Nat} {Dn Dn':Grp→Prop} (h:FfI T Z H g s x R Ff D c Dn) (hc:c≤c') (hd:∀ q,Vbfuao.fits s x q.1 q.2=true→(Dn q↔Dn' q)):FfI T Z H g s x R Ff D c' Dn' :=
  let ⟨kvs,Lf,fsf,qsf,e,hl,h1,h2⟩:=h;⟨kvs,Lf,fsf,qsf,e,hl,fun i hi=>let ⟨a1,a2,a3,a4,a5,a6⟩:=h1 i hi;⟨a1,a2,a3,Nat.le_trans a4 hc,a5,fun q=>by
    rw [a6 q]
    exact ⟨fun ⟨z1,z2,z3⟩=>⟨z1,z2,(hd q z2).mp z3⟩,fun ⟨z1,z2,z3⟩=>⟨z1,z2,(hd q z2).mpr z3⟩⟩⟩,h2⟩
theorem FfI.at5 {T:Txt K mg} {Z:Addr→Prop} {H:Hp} {g:Gh} {s:State} {x:Vbfuao.Account} {R:List Nat} {Ff:Addr} {D:List Nat} {c:Nat} {Dn:Grp→Prop} (h:FfI T Z H g s x R Ff D c Dn):FfI T (fun b=>Z b∧H b≠none) H g s x R Ff D c Dn :=
  let ⟨kvs,Lf,fsf,qsf,e,hl,h1,h2⟩:=h;⟨kvs,Lf,fsf,qsf,e,hl,fun i hi=>let ⟨a1,a2,a3,a4,a5,a6⟩:=h1 i hi;⟨a1,a2,⟨a3,fun z=>by rw [a2] at z;cases z⟩,a4,a5,a6⟩,h2⟩
theorem FfI.nil {T:Txt K mg} {Z:Addr→Prop} {H:Hp} {g:Gh} {s:State} {x:Vbfuao.Account} {R:List Nat} {Ff:Addr} (e:H Ff=some (.dK [])):FfI T Z H g s x R Ff [] 0 (fun _=>False):=⟨[],fun _=>0,fun _=>[],fun _=>[],e,Nat.le_refl _,fun i hi=>(nomatch hi),fun i hi=>(nomatch hi)⟩
theorem fit_ne {T:Txt K mg} {H:Hp} {g:Gh} {s:State} {R:List Nat} {L l:Addr} {fs:List Addr} {qs:List Grp} {a:List Nat} (hE:EntsAt T H g s R) (hL:H L=some (.lst (fs.map V.ref))) (hfs:FitsAt T H g s R fs qs) (hl:H l=some (.lst (g.rfs a))) (hne:a≠[]) (hin:∀ j ∈ a,j ∈ R):l≠L:=fun q=>by
  rw [q,hL] at hl
  have e:fs.map V.ref=g.rfs a:=by injection (Option.some.inj hl)
  cases a with
  | nil=>exact hne rfl
  | cons j a =>
    cases fs with
    | nil=>simp [Gh.rfs] at e
    | cons f fs =>
      have e0:V.ref f=V.ref (g.ra j):=by
        have:=congrArg List.head? e
        simpa [Gh.rfs,Gh.rf] using this
      have e1:f=g.ra j:=by injection e0
      cases qs with
      | nil=>have:=hfs.1;simp at this
      | cons q qs =>
        obtain ⟨dx,fl,fr,ef,_⟩:=hfs.2 0 f q rfl rfl
        obtain ⟨dx2,ig,ee⟩:=hE j (hin j List.mem_cons_self)
        exact (ne_first ef ee:f≠g.ra j) e1
theorem FitAt.upd {T:Txt K mg} {H:Hp} {g:Gh} {s:State} {R:List Nat} {f:Addr} {q:Grp} (h:FitAt T H g s R f q) {L:Addr} {fs:List Addr} {qs:List Grp} {o:HO} (hE:EntsAt T H g s R) (hL:H L=some (.lst (fs.map V.ref))) (hfs:FitsAt T H g s R fs qs) (n1:q.1≠[]) (n2:q.2≠[]) (hin:∀ j ∈ mem1 q,j ∈ R):FitAt T (upd H L o) g s R f q:=by
  obtain ⟨dx,l,r,e1,e2,e3,n⟩:=h
  refine ⟨dx,l,r,?_,?_,?_,n⟩
  · rw [upd_ne (fun z=>by rw [z,hL] at e1;cases e1)];exact e1
  · rw [upd_ne (fit_ne hE hL hfs e2 n1 fun j hj=>hin j (List.mem_append_left _ hj))];exact e2
  · rw [upd_ne (fit_ne hE hL hfs e3 n2 fun j hj=>hin j (List.mem_append_right _ hj))];exact e3
theorem FfI.at {T : Txt K mg} {Z : Addr → Prop} {H : Hp} {g : Gh} {s : State} {x : Vbfuao.Account} {R : List Nat} {Ff : Addr} {D : List Nat} {c : Nat} {Dn : Grp → Prop} (h : FfI T Z H g s x R Ff D c Dn) (hE : EntsAt T H g s R) (hDn : ∀ q, Dn q → ∀ j ∈ mem1 q, j ∈ R) {q0 : Grp} {i : Nat} (hi : i ∈ D) (h0 : q0.1.head? = some i) (hf : Vbfuao.fits s x q0.1 q0.2 = true) (hq : ∀ j ∈ mem1 q0, j ∈ R) :
    ∃ (kvs:List (Key × V)) (L:Addr) (fs:List Addr),H Ff=some (.dK kvs)∧valV kvs (.inl ((i:Nat):Int))=some (.ref L)∧H L=some (.lst (fs.map V.ref))∧fs.length≤c∧Z L ∧
      ∀ H2 f,Sm H H2→FitAt T H2 g s R f q0→FfI T Z (upd H2 L (.lst (fs.map V.ref++[.ref f]))) g s x R Ff D (c + 1) (fun q=>Dn q∨q=q0):=by
  obtain ⟨kvs,Lf,fsf,qsf,e,hl,h1,h2⟩:=h
  obtain ⟨a1,a2,a3,a4,a5,a6⟩:=h1 i hi
  refine ⟨kvs,Lf i,fsf i,e,a1,a2,a4,a3,fun H2 f m hF=>?_⟩
  have hE2:=hE.keep m
  have b2:=m.get a2
  have b5:=a5.keep m
  have up:∀ {q:Grp} {f':Addr},FitAt T H2 g s R f' q→Vbfuao.fits s x q.1 q.2=true→(∀ j ∈ mem1 q,j ∈ R)→FitAt T (L2.upd H2 (Lf i) (.lst ((fsf i).map V.ref++[.ref f]))) g s R f' q:=fun z z1 z2=>by
    obtain ⟨_,_,n1,n2⟩:=fits_size z1
    exact z.upd hE2 b2 b5 n1 n2 z2
  refine ⟨kvs,Lf,fun j=>if j=i then fsf i++[f] else fsf j,fun j=>if j=i then qsf i++[q0] else qsf j,?_,hl,fun j hj=>?_,h2⟩
  · rw [upd_ne (fun z=>by rw [← z,e] at a2;cases a2)];exact m.get e
  · obtain ⟨c1,c2,c3,c4,c5,c6⟩:=h1 j hj
    have c5':=c5.keep m
    have fitOf:∀ q ∈ qsf j,Vbfuao.fits s x q.1 q.2=true∧∀ k ∈ mem1 q,k ∈ R:=fun q hq=>by
      obtain ⟨_,z1,z2⟩:=(c6 q).mp hq
      exact ⟨z1,hDn q z2⟩
    by_cases hji:j=i
    · subst hji
      dsimp only
      rw [if_pos rfl,if_pos rfl]
      refine ⟨c1,by rw [upd_same,List.map_append];rfl,c3,by rw [List.length_append];exact Nat.succ_le_succ c4,FitsAt.snoc ⟨c5'.1,fun n f' q z1 z2=>?_⟩ (up hF hf hq),fun q=>?_⟩
      · obtain ⟨w1,w2⟩:=fitOf q (List.mem_of_getElem? z2)
        exact up (c5'.2 n f' q z1 z2) w1 w2
      · rw [List.mem_append,c6 q,List.mem_singleton]
        constructor
        · rintro (⟨z1,z2,z3⟩ | rfl)
          · exact ⟨z1,z2,.inl z3⟩
          · exact ⟨h0,hf,.inr rfl⟩
        · rintro ⟨z1,z2,z3 | z3⟩
          · exact .inl ⟨z1,z2,z3⟩
          · exact .inr z3
    · dsimp only
      rw [if_neg hji,if_neg hji]
      refine ⟨c1,by rw [upd_ne (fun z=>hji (h2 j hj i hi z))];exact m.get c2,c3,Nat.le_succ_of_le c4,⟨c5'.1,fun n f' q z1 z2=>?_⟩,fun q=>?_⟩
      · obtain ⟨w1,w2⟩:=fitOf q (List.mem_of_getElem? z2)
        exact up (c5'.2 n f' q z1 z2) w1 w2
      · rw [c6 q]
        constructor
        · rintro ⟨z1,z2,z3⟩
          exact ⟨z1,z2,.inl z3⟩
        · rintro ⟨z1,z2,z3 | z3⟩
          · exact ⟨z1,z2,z3⟩
          · rw [z3,h0] at z1
            exact absurd (Option.some.inj z1).symm hji
theorem FfI.put {T : Txt K mg} {Z : Addr → Prop} {H : Hp} {g : Gh} {s : State} {x : Vbfuao.Account} {R : List Nat} {Ff : Addr} {D : List Nat} (h : FfI T Z H g s x R Ff D 0 (fun _ => False)) {i : Nat} (hi : i ∉ D) {L : Addr} {kvs : List (Key × V)} (e : H Ff = some (.dK kvs)) (hL : H L = none) (hL0 : Z L) :
    FfI T Z (L2.upd (L2.upd H L (.lst [])) Ff (.dK (putK kvs (.inl ((i:Nat):Int)) (.ref L)))) g s x R Ff (D++[i]) 0 (fun _=>False):=by
  obtain ⟨kvs',Lf,fsf,qsf,e',hl,h1,h2⟩:=h
  obtain rfl:kvs=kvs':=by rw [e] at e';injection (Option.some.inj e')
  have nLF:L≠Ff:=fun z=>by rw [z,e] at hL;cases hL
  have neL:∀ j ∈ D,Lf j≠L:=fun j hj z=>by
    have:=(h1 j hj).2.1
    rw [z,hL] at this;cases this
  refine ⟨_,fun j=>if j=i then L else Lf j,fun _=>[],fun _=>[],upd_same,?_,fun j hj=>?_,fun j hj k hk z=>?_⟩
  · rw [List.length_append]
    exact Nat.le_trans (len_putK _ _ _) (Nat.succ_le_succ hl)
  · by_cases hji:j=i
    · subst hji
      dsimp only
      rw [if_pos rfl]
      refine ⟨by rw [valV_put,if_pos rfl],by rw [upd_ne nLF,upd_same];rfl,hL0,Nat.le_refl _,⟨rfl,fun n f q z=>by simp at z⟩,fun q=>⟨fun z=>(nomatch z),fun z=>z.2.2.elim⟩⟩
    · have hjD:j ∈ D:=(List.mem_append.mp hj).resolve_right fun z=>hji (List.mem_singleton.mp z)
      obtain ⟨c1,c2,c3,c4,c5,c6⟩:=h1 j hjD
      dsimp only
      rw [if_neg hji]
      have en:fsf j=[]:=List.length_eq_zero_iff.mp (Nat.le_zero.mp c4)
      refine ⟨by rw [valV_put,if_neg (fun z=>hji (by injection z with z;omega))];exact c1,?_,c3,Nat.le_refl _,⟨rfl,fun n f q z=>by simp at z⟩,fun q=>⟨fun z=>(nomatch z),fun z=>z.2.2.elim⟩⟩
      rw [en] at c2
      rw [upd_ne (fun z=>by rw [z,e] at c2;cases c2),upd_ne (neL j hjD)]
      exact c2
  · have inD:∀ {j:Nat},j ∈ D++[i]→j≠i→j ∈ D:=fun hj hn=>(List.mem_append.mp hj).resolve_right fun z=>hn (List.mem_singleton.mp z)
    dsimp only at z
    by_cases hji:j=i
    · by_cases hki:k=i
      · rw [hji,hki]
      · rw [if_pos hji,if_neg hki] at z
        exact absurd z.symm (neL k (inD hk hki))
    · by_cases hki:k=i
      · rw [if_neg hji,if_pos hki] at z
        exact absurd z (neL j (inD hj hji))
      · rw [if_neg hji,if_neg hki] at z
        exact h2 j (inD hj hji) k (inD hk hki) z
end
end TB
namespace TB
open PySem PySem.Spec PyProof.Rows L2
open PySem.W (Codec)
section
variable {P:Program} {w:World} {K:PySem.W.Frag} {mg:Str→Option Value} {base:Heap}
def sp_Search_init (T:Txt K mg):Sp:=fun vs H Q _=>∃ (H0:Hp) (g:Gh) (s:State) (x:Vbfuao.Account) (sf dx l r ac:Addr) (LL RR:List Nat),vs=[.ref sf,.ref l,.ref r,.ref ac]∧Sm H0 H∧H0 sf=none∧H sf=some (.ins T.c_Search dx [])∧Rep T H0 g s∧LstAt H0 g s l LL∧LstAt H0 g s r RR∧AcAt T H0 ac x∧LL.length≤5∧RR.length≤5∧(LL++RR).Nodup ∧
  ∀ H' Mk Kn Ff,Sm H0 H'→SAt T H' g s x LL RR sf Mk l Kn Ff→H' Kn=some (.dK [])→H0 Kn=none→Q .non H'
theorem at0 (g:Gh) (i:Nat) (a:List Nat):atI (g.rfs (i :: a)) 0=some (g.rf i):=atI_nat (j:=0) rfl
theorem ChAt.upd {H:Hp} {g:Gh} {cs:List Addr} {ls:List (List Nat)} (h:ChAt H g cs ls) {L:Addr} {o:HO} (hn:∀ c ∈ cs,c≠L):ChAt (L2.upd H L o) g cs ls:=⟨h.1,fun n a c h1 h2=>by rw [upd_ne (hn a (List.mem_of_getElem? h1))];exact h.2 n a c h1 h2⟩
theorem pch5 {k:Nat} {ps:List Nat} (h:ps.length≤5):(pch k ps).length≤32:=by
  have h1:=pch_len k ps
  have h2:2 ^ ps.length≤2 ^ 5:=Nat.pow_le_pow_right (by decide) h
  omega
theorem ok_Search_init (T:Txt K mg):FnOk P w K mg base CX0 4 T.f_Search_init.f T.f_Search_init.fd ["self", "lefts", "rights", "account"] (sp_Search_init T):=by
  have G_choices:=ok_choices (P:=P) (w:=w) (base:=base) T
  have G_do_fit:=ok_do_fit (P:=P) (w:=w) (base:=base) T
  have G_Fit_init:=ok_Fit_init (P:=P) (w:=w) (base:=base) T
  have G_Search_sum_of_marks:=ok_Search_sum_of_marks (P:=P) (w:=w) (base:=base) T
  have G_marks_for:=ok_marks_for (P:=P) (w:=w) (base:=base) T
  refine T.f_Search_init.F.ok sc_Search_init (fun vs H Q E h=>?_) (fun cdv A outer s H vs Q E hr h=>?_)
  · obtain ⟨_,_,_,_,_,_,_,_,_,_,_,rfl,_⟩:=h;rfl
  · obtain ⟨H0,g,S,x,sf,dx,l,r,ac,LL,RR,rfl,m0,n0,e0,R0,hl,hr',⟨dac,eac⟩,l5,r5,hnd,k⟩:=h
    refine ⟨_,(pss_cons (ps_fld (pv 0) (pe_call G_marks_for (hr.mono (by decide)) rfl T.m_marks_for T.f_marks_for.kp T.f_marks_for.b .nil pass0 (pa_cons (pe_op op_cat (pv 1) (pv 2)) pa_nil)) rfl)
      (pss_cons (ps_fld (pv 0) (pv 1) rfl)
      (pss_cons (ps_fld (pv 0) pe_dnewK rfl)
      (pss_cons (ps_fld (pv 0) pe_dnewK rfl)
      (pss_cons (ps_for PassesOwn.never rfl (pi_list (pv 1)) (pg_name (i:=4) sc_Search_init.nd rfl (Or.inl rfl))
        (pss_one (ps_dput (hu_of hr) (pe_fld (pv 0) rfl) (pe_fld (pv 4) rfl) (pe_lst pa_nil) rfl)))
      (pss_cons (ps_set (i:=5) sc_Search_init.nd rfl (Or.inl rfl) (pe_call G_choices (hr.mono (by decide)) rfl T.m_choices T.f_choices.kp T.f_choices.b .nil pass0 (pa_cons (pv 2) (pa_cons (pe_fld (pv 3) rfl) pa_nil))))
      (pss_one (ps_for PassesOwn.never rfl (pi_list (pe_call G_choices (hr.mono (by decide)) rfl T.m_choices T.f_choices.kp T.f_choices.b .nil pass0 (pa_cons (pv 1) (pa_cons (pe_fld (pv 3) rfl) pa_nil)))) (pg_name (i:=6) sc_Search_init.nd rfl (Or.inl rfl))
        (pss_one (ps_for PassesOwn.never rfl (pi_list (pv 5)) (pg_name (i:=7) sc_Search_init.nd rfl (Or.inl rfl))
        (pss_one (ps_if (pt_val (pe_call G_do_fit (hr.mono (by decide)) rfl T.m_do_fit T.f_do_fit.kp T.f_do_fit.b .nil pass0 (pa_cons (pv 6) (pa_cons (pv 7) (pa_cons (pv 3) pa_nil))))) (pss_one (ps_expr (pe_bm PySem.F.plainAttrs_list PySem.F.slot_list_append PySem.F.type_list_append mt_append (pe_dget (hu_of hr) (pe_fld (pv 0) rfl) (pe_fld (pe_ix ix_list (pv 6) pe_int (fun _ _=>rfl)) rfl) (fun _ _=>rfl)) (pa_cons (pe_make T.mk_Fit G_Fit_init (hr.mono (by decide)) rfl T.mg_Fit T.f_Fit_init.b .nil pass0 (pa_cons (pv 6) (pa_cons (pv 7) (pa_cons (pe_meth (pv 0) T.cl_Search T.me_Search_sum_of_marks G_Search_sum_of_marks (hr.mono (by decide)) T.f_Search_sum_of_marks.b .nil pass0 (pa_cons (pe_op op_cat (pv 6) (pv 7)) pa_nil)) pa_nil)))) pa_nil)))) pss_nil)))))))))))),?_⟩
    have hok:∀ i ∈ LL++RR,i < S.entries.length:=fun i hi=>(List.mem_append.mp hi).elim (hl.ok i) (hr'.ok i)
    have hE0:=R0.entsAt hok
    have ow0:=R0.ownAt
    refine (Ze rfl (Ze rfl ⟨l,r,Zo rfl rfl ⟨m0.get hl.at_,m0.get hr'.at_,by rw [len_rfs,len_rfs];exact sz' (by omega),fun D hD=>?_⟩⟩))
    rw [rfs_app]
    have m1:Sm H (upd H D (.lst (g.rfs (LL++RR)))):=Sx.new hD
    have m01:=m0.trans m1
    refine ⟨g,S,LL++RR,D,rfl,upd_same,hE0.keep m01,hnd,by rw [List.length_append];omega,fun H1 Mk m2 nMk hMk=>?_⟩
    have m02:=m01.trans m2
    have e1:=(m1.trans m2).get e0
    have fMk:H0 Mk=none:=m01.free _ nMk
    refine (Ze rfl ⟨sf,_,dx,(Ze rfl ⟨e1,T.cl_Search,T.na_Search_marks,by show 0 < 1000;decide,?_⟩)⟩)
    refine (Ze rfl (Ze rfl ⟨sf,_,dx,(Ze rfl ⟨upd_same,T.cl_Search,T.na_Search_lefts,by show 1 < 1000;decide,?_⟩)⟩))
    rw [upd_upd]
    generalize hH2:upd H1 sf (.ins T.c_Search dx (putF "lefts" (.ref l) (putF "marks" (.ref Mk) [])))=H2
    have m03:Sm H0 H2:=by rw [← hH2];exact m02.put_new n0 e1
    have e2:H2 sf=some (.ins T.c_Search dx (putF "lefts" (.ref l) (putF "marks" (.ref Mk) []))):=by rw [← hH2,upd_same]
    obtain ⟨kM,eM,hM⟩:=hMk
    have eM2:H2 Mk=some (.dK kM):=by rw [← hH2,upd_ne (fun z=>by rw [z,e1] at eM;cases eM)];exact eM
    intro Kn nKn
    have a1:Sm H2 (upd H2 Kn (.dK [])):=Sx.new nKn
    refine (Ze rfl ⟨sf,_,dx,(Ze rfl ⟨a1.get e2,T.cl_Search,T.na_Search_known,by show 2 < 1000;decide,?_⟩)⟩)
    generalize hH3:upd (upd H2 Kn (.dK [])) sf (.ins T.c_Search dx (putF "known" (.ref Kn) (putF "lefts" (.ref l) (putF "marks" (.ref Mk) []))))=H3
    have m04:Sm H0 H3:=by rw [← hH3];exact (m03.trans a1).put_new n0 (a1.get e2)
    have e3:H3 sf=some (.ins T.c_Search dx (putF "known" (.ref Kn) (putF "lefts" (.ref l) (putF "marks" (.ref Mk) [])))):=by rw [← hH3,upd_same]
    have nKs:Kn≠sf:=fun z=>by rw [z,e2] at nKn;cases nKn
    have eK3:H3 Kn=some (.dK []):=by rw [← hH3,upd_ne nKs,upd_same]
    have eM3:H3 Mk=some (.dK kM):=by rw [← hH3,upd_ne (fun z=>by rw [z,e2] at eM2;cases eM2)];exact a1.get eM2
    have nKM:Mk≠Kn:=fun z=>by rw [← z,eM2] at nKn;cases nKn
    intro Ff nFf
    have a2:Sm H3 (upd H3 Ff (.dK [])):=Sx.new nFf
    refine (Ze rfl ⟨sf,_,dx,(Ze rfl ⟨a2.get e3,T.cl_Search,T.na_Search_fits_from,by show 3 < 1000;decide,?_⟩)⟩)
    generalize hH4:upd (upd H3 Ff (.dK [])) sf (.ins T.c_Search dx (putF "fits_from" (.ref Ff) (putF "known" (.ref Kn) (putF "lefts" (.ref l) (putF "marks" (.ref Mk) [])))))=H4
    have m05:Sm H0 H4:=by rw [← hH4];exact (m04.trans a2).put_new n0 (a2.get e3)
    have e4:H4 sf=some (.ins T.c_Search dx (searchF Mk l Kn Ff)):=by rw [← hH4,upd_same];rfl
    have nFs:Ff≠sf:=fun z=>by rw [z,e3] at nFf;cases nFf
    have nFM:Mk≠Ff:=fun z=>by rw [← z,eM3] at nFf;cases nFf
    have nFK:Kn≠Ff:=fun z=>by rw [← z,eK3] at nFf;cases nFf
    have eF4:H4 Ff=some (.dK []):=by rw [← hH4,upd_ne nFs,upd_same]
    have eK4:H4 Kn=some (.dK []):=by rw [← hH4,upd_ne nKs];exact a2.get eK3
    have eM4:H4 Mk=some (.dK kM):=by rw [← hH4,upd_ne (fun z=>by rw [z,e3] at eM3;cases eM3)];exact a2.get eM3
    have fKn:H0 Kn=none:=m03.free _ nKn
    have fFf:H0 Ff=none:=m04.free _ nFf
    have si4:SI T H0 H4 (LL++RR) sf dx Mk l Kn Ff:=⟨m05,e4,⟨kM,eM4,hM⟩,eK4⟩
    clear hH4 hH3 hH2
    refine ⟨_,rfl,l,rfl,⟨_,SqL.of (m05.get hl.at_)⟩,for_list (K:=K) (a:=l) (xs:=g.rfs LL) (fun n σ H'=>∃ v4,σ = [some (.ref sf),some (.ref l),some (.ref r),some (.ref ac),v4,none,none,none]∧SI T H0 H' (LL++RR) sf dx Mk l Kn Ff∧FfI T (fun b=>H0 b=none) H' g S x (LL++RR) Ff (LL.take n) 0 (fun _=>False))
      ⟨none,rfl,si4,FfI.nil eF4⟩ (fun j σ H' _ ⟨_,_,si,_⟩=>SqL.of (si.sm.get hl.at_)) ?_ ?_⟩
    · rintro n v σ H' hn ⟨v4,rfl,si,ff⟩
      unfold Gh.rfs at hn
      rw [List.getElem?_map] at hn
      cases en:LL[n]? with
      | none=>rw [en] at hn;cases hn
      | some i =>
        rw [en] at hn
        obtain rfl:g.rf i=v:=Option.some.inj hn
        have et:LL.take (n + 1)=LL.take n++[i]:=by rw [List.take_add_one,en];rfl
        obtain ⟨dxe,ig,ei⟩:=(hE0.keep si.sm) i (List.mem_append_left _ (List.mem_of_getElem? en))
        have ff0:=ff
        obtain ⟨kvs,Lf,fsf,qsf,eF,hlen,_⟩:=ff
        refine ⟨Nat.zero_le _,fun L hL=>?_⟩
        have b1:Sm H' (upd H' L (.lst [])):=Sx.new hL
        have lt5:=take_len LL n
        refine (Ze rfl (Zf (b1.get si.obj) T.cl_Search T.na_Search_fits_from rfl (Ze rfl (Zf (b1.get ei) T.cl_Entry T.na_Entry_place rfl ⟨Ff,Ze rfl ⟨DPut.k (k:=Sum.inl ((i:Nat):Int)) (b1.get eF) (sz (by omega)),?_⟩⟩))))
        have hit:i ∉ LL.take n:=fun z=>by
          have hnL:=(List.nodup_append.mp hnd).1
          rw [← List.take_append_drop (n + 1) LL,et,List.append_assoc] at hnL
          exact (List.nodup_append.mp hnL).2.2 i z i (List.mem_append_left _ (List.mem_singleton.mpr rfl)) rfl
        refine (Ze rfl ⟨(si.keep b1).put fFf (b1.get eF) rfl (fun z=>?_) nFM nFK,?_⟩)
        · have:=si.obj;rw [z,eF] at this;cases this
        · rw [et]
          exact ff0.put hit eF hL (si.sm.free _ hL)
    · rintro σ H5 ⟨v4,rfl,si,ff⟩
      rw [len_rfs,List.take_length] at ff
      refine (Ze rfl (Ze rfl (Zf (si.sm.get eac) T.cl_Account T.na_Account_size rfl ?_)))
      refine ⟨g,r,x.size,RR,rfl,si.sm.get hr'.at_,r5,fun H6 dR cR b1 ndR edR hcR fcR=>?_⟩
      have si6:=si.keep b1
      refine (Ze rfl (Ze rfl (Zf (si6.sm.get eac) T.cl_Account T.na_Account_size rfl ?_)))
      refine ⟨g,l,x.size,LL,rfl,si6.sm.get hl.at_,l5,fun H7 dL cL b2 ndL edL hcL fcL=>?_⟩
      have si7:=si6.keep b2
      have ff7:=(ff.at5.keep b1).keep b2
      have edR7:=b2.get edR
      have hcR7:=hcR.keep b2
      have fdR:H0 dR=none:=si.sm.free _ ndR
      have fdL:H0 dL=none:=si6.sm.free _ ndL
      have lenL:cL.length≤32:=by rw [hcL.1];exact pch5 l5
      have lenR:cR.length≤32:=by rw [hcR.1];exact pch5 r5
      have fcR7:∀ c ∈ cR,H0 c=none:=fun c hc=>si.sm.free _ (fcR c hc)
      have fcL7:∀ c ∈ cL,H0 c=none:=fun c hc=>si6.sm.free _ (fcL c hc)
      generalize hCL:pch x.size LL=CL at *
      generalize hCR:pch x.size RR=CR at *
      have mCL:∀ c ∈ CL,c.Sublist LL∧c.length≤x.size∧c≠[]:=fun c hc=>(mem_pch x.size LL c).mp (by rw [hCL];exact hc)
      have mCR:∀ c ∈ CR,c.Sublist RR∧c.length≤x.size∧c≠[]:=fun c hc=>(mem_pch x.size RR c).mp (by rw [hCR];exact hc)
      have inR:∀ a b:List Nat,a ∈ CL→b ∈ CR→∀ j ∈ mem1 (a,b),j ∈ LL++RR:=fun a b ha hb j hj=>(List.mem_append.mp hj).elim (fun z=>List.mem_append_left _ ((mCL a ha).1.subset z)) fun z=>List.mem_append_right _ ((mCR b hb).1.subset z)
      refine ⟨dL,rfl,⟨_,SqL.of edL⟩,for_list (K:=K) (a:=dL) (xs:=cL.map V.ref) (fun n σ H'=>∃ v4 v6 v7,σ = [some (.ref sf),some (.ref l),some (.ref r),some (.ref ac),v4,some (.ref dR),v6,v7]∧SI T H0 H' (LL++RR) sf dx Mk l Kn Ff∧FfI T (fun b=>H0 b=none∧H5 b≠none) H' g S x (LL++RR) Ff LL (n * 32) (fun q=>q.1 ∈ CL.take n∧q.2 ∈ CR)∧H' dL=some (.lst (cL.map V.ref))∧H' dR=some (.lst (cR.map V.ref))∧ChAt H' g cL CL∧ChAt H' g cR CR)
        ⟨v4,none,none,rfl,si7,ff7.mono (Nat.zero_le _) (fun q _=>⟨fun z=>z.elim,fun z=>by rw [List.take_zero] at z;exact (nomatch z.1)⟩),edL,edR7,hcL,hcR7⟩ (fun j σ H' _ ⟨_,_,_,_,_,_,e,_⟩=>SqL.of e) ?_ ?_⟩
      · rintro n v σ H' hn ⟨v4',v6,v7,rfl,si',ff',edL',edR',hcL',hcR'⟩
        rw [List.getElem?_map] at hn
        cases en:cL[n]? with
        | none=>rw [en] at hn;cases hn
        | some la =>
          rw [en] at hn
          obtain rfl:V.ref la=v:=Option.some.inj hn
          have hnC:n < CL.length:=by rw [← hcL.1];exact (List.getElem?_eq_some_iff.mp en).1
          obtain ⟨a,ha⟩:∃ a,CL[n]? = some a:=⟨_,List.getElem?_eq_getElem hnC⟩
          have haC:=List.mem_of_getElem? ha
          obtain ⟨sa,la2,na⟩:=mCL a haC
          have eta:CL.take (n + 1)=CL.take n++[a]:=by rw [List.take_add_one,ha];rfl
          have fla:H0 la=none:=fcL7 la (List.mem_of_getElem? en)
          refine ⟨_,rfl,dR,rfl,⟨_,SqL.of edR'⟩,for_list (K:=K) (a:=dR) (xs:=cR.map V.ref) (fun m σ H'=>∃ v7,σ = [some (.ref sf),some (.ref l),some (.ref r),some (.ref ac),v4',some (.ref dR),some (.ref la),v7]∧SI T H0 H' (LL++RR) sf dx Mk l Kn Ff∧FfI T (fun b=>H0 b=none∧H5 b≠none) H' g S x (LL++RR) Ff LL (n * 32 + m) (fun q=>(q.1 ∈ CL.take n∧q.2 ∈ CR)∨(q.1=a∧q.2 ∈ CR.take m))∧H' dL=some (.lst (cL.map V.ref))∧H' dR=some (.lst (cR.map V.ref))∧ChAt H' g cL CL∧ChAt H' g cR CR)
            ⟨v7,rfl,si',ff'.mono (Nat.le_refl _) (fun q _=>⟨.inl,fun z=>z.elim id fun z=>by rw [List.take_zero] at z;exact (nomatch z.2)⟩),edL',edR',hcL',hcR'⟩ (fun j σ H' _ ⟨_,_,_,_,_,e,_⟩=>SqL.of e) ?_ ?_⟩
          · rintro m v σ H8 hm ⟨v7,rfl,si8,ff8,edL8,edR8,hcL8,hcR8⟩
            rw [List.getElem?_map] at hm
            cases em:cR[m]? with
            | none=>rw [em] at hm;cases hm
            | some lb =>
              rw [em] at hm
              obtain rfl:V.ref lb=v:=Option.some.inj hm
              have hmC:m < CR.length:=by rw [← hcR.1];exact (List.getElem?_eq_some_iff.mp em).1
              obtain ⟨b,hb⟩:∃ b,CR[m]? = some b:=⟨_,List.getElem?_eq_getElem hmC⟩
              have hbC:=List.mem_of_getElem? hb
              obtain ⟨sb,lb2,nb⟩:=mCR b hbC
              have etb:CR.take (m + 1)=CR.take m++[b]:=by rw [List.take_add_one,hb];rfl
              have flb:H0 lb=none:=fcR7 lb (List.mem_of_getElem? em)
              have R8:=R0.keep si8.sm
              have ela:=hcL8.2 n la a en ha
              have elb:=hcR8.2 m lb b em hb
              have LA:LstAt H8 g S la a:=⟨ela,fun i hi=>hl.ok i (sa.subset hi),by have:=sa.length_le;omega⟩
              have LB:LstAt H8 g S lb b:=⟨elb,fun i hi=>hr'.ok i (sb.subset hi),by have:=sb.length_le;omega⟩
              refine (Ze rfl (Ze rfl (Ze rfl ⟨g,S,x,la,lb,ac,a,b,rfl,R8,LA,LB,⟨dac,si8.sm.get eac⟩,na,nb,la2,lb2,fun H9 b3=>(Ze rfl ?_)⟩)))
              have si9:=si8.keep b3
              have ff9:=ff8.keep b3
              have R9:=R0.keep si9.sm
              refine iteb (fun c1=>?_) (fun c1=>?_)
              · cases a with
                | nil=>exact absurd rfl na
                | cons i a' =>
                  have hi:i ∈ LL:=sa.subset List.mem_cons_self
                  obtain ⟨kvs,L,fs,eF,hv,eL,fl,fL,hadd⟩:=ff9.at (hE0.keep si9.sm) (q0:=(i :: a',b)) (fun q hq=>by
                    rcases hq with hq | hq
                    · exact inR q.1 q.2 (List.mem_of_mem_take hq.1) hq.2
                    · exact inR q.1 q.2 (by rw [hq.1];exact haC) (List.mem_of_mem_take hq.2)) hi rfl c1 (inR _ b haC hbC)
                  obtain ⟨dxe,ig,ei⟩:=(hE0.keep si9.sm) i (List.mem_append_left _ hi)
                  refine (Ze rfl (Zf si9.obj T.cl_Search T.na_Search_fits_from rfl (Ze rfl ⟨_,_,_,_,rfl,rfl,SqL.of (b3.get ela),at0 g i a',(Zf ei T.cl_Entry T.na_Entry_place rfl ⟨Ff,.ref L,rfl,(by have z:=DGet.k (k:=Sum.inl ((i:Nat):Int)) eF;rw [hv] at z;exact z),Or.inl ⟨rfl,_,SqL.of eL⟩,?_⟩)⟩)))
                  refine (Ze rfl (Ze rfl (Ze rfl (Zm si9.obj rfl (Ze rfl (Ze rfl ⟨la,lb,Zo rfl rfl ⟨b3.get ela,b3.get elb,by rw [len_rfs,len_rfs];exact sz' (by have:=sa.length_le;have:=sb.length_le;omega),fun D2 hD2=>?_⟩⟩))))))
                  rw [rfs_app]
                  have b4:Sm H9 (upd H9 D2 (.lst (g.rfs (i :: a'++b)))):=Sx.new hD2
                  have si10:=si9.keep b4
                  have hnab:(i :: a'++b).Nodup:=hnd.sublist (sa.append sb)
                  refine ⟨g,S,LL++RR,i :: a'++b,sf,dx,Mk,l,Kn,Ff,D2,rfl,si10.obj,si10.mks,hE0.keep si10.sm,inR _ b haC hbC,hnab,by rw [List.length_append];have:=sa.length_le;have:=sb.length_le;omega,upd_same,fun H11 b5=>?_⟩
                  have si11:=si10.keep b5
                  have b35:=(b3.trans b4).trans b5
                  intro p dp np ndp nne
                  have c2:Sm H11 (upd H11 dp (.own p)):=Sx.new ndp
                  have c3:=c2.trans (Sx.new (a:=p) (o:=.ins T.c_Fit dp []) (by rw [upd_ne (Ne.symm nne)];exact np))
                  refine ⟨H11,g,S,p,dp,la,lb,i :: a',b,Ze rfl ⟨c3,np,upd_same,R0.keep si11.sm,LA.keep b35,LB.keep b35,fun H12 b6 e12=>⟨rfl,?_⟩⟩⟩
                  have b46:=(b4.trans b5).trans b6
                  have b36:=b35.trans b6
                  have si12:=si11.keep b6
                  have eL12:=b46.get eL
                  refine ⟨L,Zo rfl rfl ⟨eL12,by rw [List.length_map];have:n≤32:=(by rw [← hcL.1] at hnC;omega);have:m≤32:=(by rw [← hcR.1] at hmC;omega);exact sz (by omega),?_⟩⟩
                  have hfit:FitAt T H12 g S (LL++RR) p (i :: a',b):=⟨dp,la,lb,e12,b36.get ela,b36.get elb,ow0 p (si11.sm.free _ np),ow0 la fla,ow0 lb flb⟩
                  have ff12:=hadd H12 p b46 hfit
                  have nL:∀ {c:Addr},H5 c=none→c≠L:=fun z1 z=>fL.2 (by rw [← z];exact z1)
                  have nl1:sf≠L:=fun z=>by have:=si12.obj;rw [z,eL12] at this;cases this
                  have nl2:Mk≠L:=fun z=>by obtain ⟨_,w,_⟩:=si12.mks;rw [z,eL12] at w;cases w
                  have nl3:Kn≠L:=fun z=>by have:=si12.kn;rw [z,eL12] at this;cases this
                  refine (Ze rfl ⟨si12.put fL.1 eL12 rfl nl1 nl2 nl3,ff12.mono (by omega) (fun q hq=>?_),by rw [upd_ne (nL (b1.free _ ndL))];exact b36.get edL8,by rw [upd_ne (nL ndR)];exact b36.get edR8,(hcL8.keep b36).upd fun c hc=>nL (b1.free _ (fcL c hc)),(hcR8.keep b36).upd fun c hc=>nL (fcR c hc)⟩)
                  rw [etb,List.mem_append,List.mem_singleton]
                  constructor
                  · rintro ((z | z) | z)
                    · exact .inl z
                    · exact .inr ⟨z.1,.inl z.2⟩
                    · rw [z];exact .inr ⟨rfl,.inr rfl⟩
                  · rintro (z | ⟨z1,z2 | z2⟩)
                    · exact .inl (.inl z)
                    · exact .inl (.inr ⟨z1,z2⟩)
                    · exact .inr (Prod.ext z1 z2)
              · refine (Ze rfl ⟨si9,ff9.mono (by omega) (fun q hq=>?_),b3.get edL8,b3.get edR8,hcL8.keep b3,hcR8.keep b3⟩)
                rw [etb,List.mem_append,List.mem_singleton]
                constructor
                · rintro (z | z)
                  · exact .inl z
                  · exact .inr ⟨z.1,.inl z.2⟩
                · rintro (z | ⟨z1,z2 | z2⟩)
                  · exact .inl z
                  · exact .inr ⟨z1,z2⟩
                  · rw [z1,z2,c1] at hq;cases hq
          · rintro σ H8 ⟨v7,rfl,si8,ff8,edL8,edR8,hcL8,hcR8⟩
            rw [List.length_map,hcR.1,List.take_length] at ff8
            refine ⟨_,_,_,rfl,si8,ff8.mono (by have:=lenR;rw [hcR.1] at this;omega) (fun q hq=>?_),edL8,edR8,hcL8,hcR8⟩
            rw [eta,List.mem_append,List.mem_singleton]
            constructor
            · rintro (z | z)
              · exact ⟨.inl z.1,z.2⟩
              · exact ⟨.inr z.1,z.2⟩
            · rintro ⟨z | z,z2⟩
              · exact .inl ⟨z,z2⟩
              · exact .inr ⟨z,z2⟩
      · rintro σ H8 ⟨v4',v6,v7,rfl,si8,ff8,_⟩
        rw [List.length_map,hcL.1,List.take_length] at ff8
        refine k H8 Mk Kn Ff si8.sm ⟨⟨dx,si8.obj⟩,hE0.keep si8.sm,si8.sm.get hl.at_,si8.mks,?_,ow0.keep si8.sm,nKM,Ne.symm nFK⟩ si8.kn fKn
        obtain ⟨kvs,Lf,fsf,qsf,eF,_,h1,_⟩:=ff8
        refine ⟨kvs,eF,fun i hi=>?_⟩
        obtain ⟨c1,c2,c3,c4,c5,c6⟩:=h1 i hi
        refine ⟨Lf i,fsf i,qsf i,c1,c2,c5,fun q=>?_⟩
        rw [c6 q]
        constructor
        · rintro ⟨z1,z2,z3,z4⟩
          obtain ⟨q1,q2⟩:=q
          cases q1 with
          | nil=>cases z1
          | cons j a =>
            cases z1
            exact ⟨a,q2,rfl,(mCL _ z3).1,(mCL _ z3).2.1,(mCR _ z4).1,(mCR _ z4).2.1,z2⟩
        · rintro ⟨a,b,rfl,z1,z2,z3,z4,z5⟩
          obtain ⟨_,_,w1,w2⟩:=fits_size z5
          exact ⟨rfl,z5,by rw [← hCL];exact (mem_pch _ _ _).mpr ⟨z1,z2,w1⟩,by rw [← hCR];exact (mem_pch _ _ _).mpr ⟨z3,z4,w2⟩⟩
end
end TB
namespace TB
open PySem PySem.Spec PyProof.Rows L2
open PySem.W (Codec)
section
variable {s:State} {x:Vbfuao.Account}
theorem Pl.side {l r:List Nat} {gs:List Grp} (h:Pl s x l r gs) (hl:l.Nodup) (hr:r.Nodup):∀ g ∈ gs,g.1≠[]∧g.1.Nodup∧g.2.Nodup:=by
  induction h with
  | nil r=>intro g hg;cases hg
  | skip _ ih=>exact ih (List.nodup_cons.mp hl).2 hr
  | grp ha _ hb _ _ _ ih =>
    intro g hg
    rcases List.mem_cons.mp hg with rfl | hg
    · exact ⟨by simp,hl.sublist (ha.cons_cons _),hr.sublist hb⟩
    · exact ih ((List.nodup_cons.mp hl).2.sublist (minus_sub _ _)) (hr.sublist (minus_sub _ _)) g hg
theorem apart_pw:∀ {gs:List Grp},Apart gs→gs.Pairwise fun g h=>∀ i,i ∈ g.1++g.2→i ∉ h.1++h.2
  | [],_=>.nil
  | g :: gs,⟨h1,h2⟩=>.cons (fun h hh i hi hi2=>h1 i (mem_allm.mpr ⟨h,hh,List.mem_append.mp hi2⟩) hi) (apart_pw h2)
theorem Pl.allNodup {l r:List Nat} {gs:List Grp} (h:Pl s x l r gs) (hl:l.Nodup) (hr:r.Nodup) (hd:∀ j ∈ l,j ∉ r):(allm gs).Nodup:=by
  have hs:=h.side hl hr
  have hm:=h.mem
  have ha:=h.apart hl hd
  clear h
  induction gs with
  | nil=>exact .nil
  | cons g gs ih =>
    obtain ⟨h1,h2⟩:=ha
    refine List.nodup_append.mpr ⟨List.nodup_append.mpr ⟨(hs g List.mem_cons_self).2.1,(hs g List.mem_cons_self).2.2,fun i hi j hj e=>?_⟩,ih (fun z hz=>hs z (List.mem_cons_of_mem _ hz)) (fun z hz=>hm z (List.mem_cons_of_mem _ hz)) h2,fun i hi j hj e=>h1 j hj (by rw [← e];exact hi)⟩
    have q:=hm g List.mem_cons_self
    exact hd i (q.1 i hi) (by rw [e];exact q.2 j hj)
theorem Pl.ok {p a:Nat} {gs:List Grp} (h:Pl s x (lefts s p a) (rights s p a) gs):PlOk s p a (Vbfuao.breaksOf s p (Vbfuao.leftBook p) a) (Vbfuao.breaksOf s p (Vbfuao.rightBook p) a) gs:=by
  have hl:=breaks_nodup s p (Vbfuao.leftBook p) a
  have hr:=breaks_nodup s p (Vbfuao.rightBook p) a
  have hs:=Pl.side h hl hr
  have hm:=Pl.mem h
  exact ⟨fun g hg=>(hs g hg).1,fun g hg=>(hs g hg).2.1,fun g hg=>(hs g hg).2.2,fun g hg=>(hm g hg).1,fun g hg=>(hm g hg).2,apart_pw (Pl.apart h hl fun j hj=>lr_apart hj)⟩
theorem grp_wg {p a i:Nat} {gs:List Grp}:Vbfuao.groupOf (Vbfuao.withGroups s p a gs) p i=none↔Vbfuao.groupOf s p i=none∧i ∉ allm gs:=by
  have eg:(Vbfuao.withGroups s p a gs).groups=s.groups++gs.map (mkG p a):=rfl
  constructor
  · intro h
    have h:=grp_none.mp h
    refine ⟨grp_none.mpr fun k ⟨y,hy,q⟩=>h k ⟨y,?_,q⟩,fun hi=>?_⟩
    · rw [eg,List.getElem?_append_left (List.getElem?_eq_some_iff.mp hy).1];exact hy
    · obtain ⟨g,hg,hj⟩:=mem_allm.mp hi
      obtain ⟨n,hn⟩:=List.getElem?_of_mem hg
      refine h (s.groups.length + n) ⟨mkG p a g,?_,rfl,rfl,List.mem_append.mpr hj⟩
      rw [eg,List.getElem?_append_right (Nat.le_add_right _ _),Nat.add_sub_cancel_left,List.getElem?_map,hn];rfl
  · rintro ⟨h1,h2⟩
    exact grp_none.mpr (free_wg gs s p i (grp_none.mp h1) fun g hg hi=>h2 (mem_allm.mpr ⟨g,hg,List.mem_append.mp hi⟩))
theorem open_wg {p a b i:Nat} {gs:List Grp}:i ∈ Vbfuao.breaksOf (Vbfuao.withGroups s p a gs) p b a↔i ∈ Vbfuao.breaksOf s p b a∧i ∉ allm gs:=by
  rw [mem_breaks,mem_breaks]
  unfold isOpenB
  have e:inBook (Vbfuao.withGroups s p a gs) b a i=inBook s b a i:=rfl
  rw [e,Bool.and_eq_true,Bool.and_eq_true,Option.isNone_iff_eq_none,Option.isNone_iff_eq_none,grp_wg,wg_entries]
  constructor
  · rintro ⟨h1,h2,h3,h4⟩;exact ⟨⟨h1,h2,h3⟩,h4⟩
  · rintro ⟨⟨h1,h2,h3⟩,h4⟩;exact ⟨h1,h2,h3,h4⟩
theorem filter_two (q:Nat→Bool):∀ l:List Nat,(l.filter q).length + (l.filter fun i=>!q i).length=l.length
  | []=>rfl
  | i :: l=>by
    have ih:=filter_two q l
    rw [List.filter_cons,List.filter_cons]
    cases q i
    · rw [if_neg (by decide),if_pos (by decide),List.length_cons,List.length_cons];omega
    · rw [if_pos rfl,if_neg (by decide),List.length_cons,List.length_cons];omega
theorem same_len {l m:List Nat} (hl:l.Nodup) (hm:m.Nodup) (h:∀ i,i ∈ l↔i ∈ m):l.length=m.length:=((List.perm_ext_iff_of_nodup hl hm).mpr h).length_eq
theorem open_count {p a:Nat} {gs:List Grp} (h:Pl s x (lefts s p a) (rights s p a) gs):(lefts (Vbfuao.withGroups s p a gs) p a).length + (rights (Vbfuao.withGroups s p a gs) p a).length + (allm gs).length=(lefts s p a).length + (rights s p a).length:=by
  have nl:=breaks_nodup s p (Vbfuao.leftBook p) a
  have nr:=breaks_nodup s p (Vbfuao.rightBook p) a
  have na:=Pl.allNodup h nl nr fun j hj=>lr_apart hj
  have one:∀ b,(Vbfuao.breaksOf (Vbfuao.withGroups s p a gs) p b a).length + ((Vbfuao.breaksOf s p b a).filter fun i=>decide (i ∈ allm gs)).length=(Vbfuao.breaksOf s p b a).length:=fun b=>by
    have e:=filter_two (fun i=>decide (i ∈ allm gs)) (Vbfuao.breaksOf s p b a)
    have e2:(Vbfuao.breaksOf (Vbfuao.withGroups s p a gs) p b a).length=((Vbfuao.breaksOf s p b a).filter fun i=>!decide (i ∈ allm gs)).length:=by
      refine same_len (breaks_nodup _ p b a) ((breaks_nodup s p b a).sublist List.filter_sublist) fun i=>?_
      rw [open_wg,List.mem_filter]
      simp
    omega
  have two:((lefts s p a++rights s p a).filter fun i=>decide (i ∈ allm gs)).length=(allm gs).length:=by
    refine same_len ((List.nodup_append.mpr ⟨nl,nr,fun i hi j hj e=>lr_apart hi (by rw [e];exact hj)⟩).sublist List.filter_sublist) na fun i=>?_
    rw [List.mem_filter,decide_eq_true_eq]
    constructor
    · exact fun z=>z.2
    · exact fun z=>⟨List.mem_append.mpr (Pl.memAll h z),z⟩
  rw [List.filter_append,List.length_append] at two
  have o1:=one (Vbfuao.leftBook p)
  have o2:=one (Vbfuao.rightBook p)
  unfold lefts rights at *
  omega
end
section
variable {P:Program} {w:World} {K:PySem.W.Frag} {mg:Str→Option Value} {base:Heap}
theorem Sx.fresh {S:Addr→Prop} {H H1 H2:Hp} (a:Sm H H1) (b:Sx S H1 H2) (h:∀ c,S c→H c=none):Sm H H2 :=
  ⟨fun c o _ p e=>b.keep c o (fun z=>by rw [h c z] at e;cases e) p (a.get e p),fun c e=>a.free c (b.free c e),fun t=>b.tab (a.tab t)⟩
def sp_least_explanation (T:Txt K mg):Sp:=fun vs H Q _=>∃ (g:Gh) (s:State) (x:Vbfuao.Account) (l r ac:Addr) (LL RR:List Nat),vs=[.ref l,.ref r,.ref ac]∧Rep T H g s∧LstAt H g s l LL∧LstAt H g s r RR∧AcAt T H ac x∧LL.length≤5∧RR.length≤5∧(LL++RR).Nodup ∧
  ∀ H' pl gs,Sm H H'→PlanAt T H' g s (LL++RR) pl gs→Best s x (LL++RR) LL RR gs→Q (.ref pl) H'
theorem ok_least_explanation (T:Txt K mg):FnOk P w K mg base CX0 61 T.f_least_explanation.f T.f_least_explanation.fd ["lefts", "rights", "account"] (sp_least_explanation T):=by
  have G_Search_best_of:=ok_Search_best_of (P:=P) (w:=w) (base:=base) T
  have G_Search_sum_of_marks:=ok_Search_sum_of_marks (P:=P) (w:=w) (base:=base) T
  have G_Search_init:=ok_Search_init (P:=P) (w:=w) (base:=base) T
  refine T.f_least_explanation.F.ok sc_least_explanation (fun vs H Q E h=>?_) (fun cdv A outer s H vs Q E hr h=>?_)
  · obtain ⟨_,_,_,_,_,_,_,_,rfl,_⟩:=h;rfl
  · obtain ⟨g,S,x,l,r,ac,LL,RR,rfl,R,hl,hr',hac,l5,r5,hnd,k⟩:=h
    refine ⟨_,(pss_cons (ps_set (i:=3) sc_least_explanation.nd rfl (Or.inl rfl) (pe_make T.mk_Search G_Search_init (hr.mono (by decide)) rfl T.mg_Search T.f_Search_init.b .nil pass0 (pa_cons (pv 0) (pa_cons (pv 1) (pa_cons (pv 2) pa_nil)))))
      (pss_one (ps_ret (pe_meth (pv 3) T.cl_Search T.me_Search_best_of G_Search_best_of (hr.mono (by decide)) T.f_Search_best_of.b .nil pass0 (pa_cons (pe_meth (pv 3) T.cl_Search T.me_Search_sum_of_marks G_Search_sum_of_marks (hr.mono (by decide)) T.f_Search_sum_of_marks.b .nil pass0 (pa_cons (pe_op op_cat (pv 0) (pv 1)) pa_nil)) pa_nil))))),?_⟩
    refine (Ze rfl (Ze rfl (Ze rfl (fun sf dx nsf ndx nne=>?_))))
    have c1:Sm H (upd H dx (.own sf)):=Sx.new ndx
    have c2:=c1.trans (Sx.new (a:=sf) (o:=.ins T.c_Search dx []) (by rw [upd_ne (Ne.symm nne)];exact nsf))
    refine ⟨H,g,S,x,sf,dx,l,r,ac,LL,RR,rfl,c2,nsf,upd_same,R,hl,hr',hac,l5,r5,hnd,fun H1 Mk Kn Ff m1 hS eK nK=>⟨rfl,?_⟩⟩
    obtain ⟨dx1,eo⟩:=hS.obj
    refine (Ze rfl (Zm eo rfl (Ze rfl (Zm eo rfl (Ze rfl (Ze rfl ⟨l,r,Zo rfl rfl ⟨m1.get hl.at_,m1.get hr'.at_,by rw [len_rfs,len_rfs];exact sz' (by omega),fun D hD=>?_⟩⟩))))))
    rw [rfs_app]
    have m2:Sm H1 (upd H1 D (.lst (g.rfs (LL++RR)))):=Sx.new hD
    refine ⟨g,S,LL++RR,LL++RR,sf,dx1,Mk,l,Kn,Ff,D,rfl,m2.get eo,hS.mks.keep m2,hS.ents.keep m2,fun i hi=>hi,hnd,by rw [List.length_append];omega,upd_same,fun H2 m3=>?_⟩
    have m23:=m2.trans m3
    have eK2:=m23.get eK
    refine ⟨g,S,x,LL,RR,LL,RR,sf,Mk,l,Kn,Ff,rfl,hS.kp m23.weak eK,⟨[],eK2,.nil,fun k hk=>(nomatch hk),fun l r v _ _ h=>(nomatch h)⟩,List.Sublist.refl _,List.Sublist.refl _,Nat.lt_succ_of_le l5,l5,r5,hnd,fun H3 pl gs m4 hK3 hp hb=>?_⟩
    exact k H3 pl gs (Sx.fresh (m1.trans m23) m4 fun c z=>by rw [z];exact nK) hp hb
def sp_plan_for (T:Txt K mg):Sp:=fun vs H Q _=>∃ (g:Gh) (s:State) (p a:Nat) (x:Vbfuao.Account),vs=[.ref g.F,.int (p:Nat),.int (a:Nat)]∧Rep T H g s∧p≤2∧Vbfuao.accountAt s a=some x∧(lefts s p a).length≤5∧(rights s p a).length≤5 ∧
  ∀ H' pl gs,Sm H H'→PlanAt T H' g s (lefts s p a++rights s p a) pl gs→Best s x (lefts s p a++rights s p a) (lefts s p a) (rights s p a) gs→Q (.ref pl) H'
theorem ok_plan_for (T:Txt K mg):FnOk P w K mg base CX0 62 T.f_plan_for.f T.f_plan_for.fd ["fund", "pair", "account"] (sp_plan_for T):=by
  have G_least_explanation:=ok_least_explanation (P:=P) (w:=w) (base:=base) T
  have G_Fund_open_right:=ok_Fund_open_right (P:=P) (w:=w) (base:=base) T
  have G_Fund_open_left:=ok_Fund_open_left (P:=P) (w:=w) (base:=base) T
  refine T.f_plan_for.F.ok sc_plan_for (fun vs H Q E h=>?_) (fun cdv A outer s H vs Q E hr h=>?_)
  · obtain ⟨_,_,_,_,_,rfl,_⟩:=h;rfl
  · obtain ⟨g,S,p,a,x,rfl,R,hp,hx,l5,r5,k⟩:=h
    refine ⟨_,(pss_cons (ps_set (i:=3) sc_plan_for.nd rfl (Or.inl rfl) (pe_meth (pv 0) T.cl_Fund T.me_Fund_open_left G_Fund_open_left (hr.mono (by decide)) T.f_Fund_open_left.b .nil pass0 (pa_cons (pv 1) (pa_cons (pv 2) pa_nil))))
      (pss_cons (ps_set (i:=4) sc_plan_for.nd rfl (Or.inl rfl) (pe_meth (pv 0) T.cl_Fund T.me_Fund_open_right G_Fund_open_right (hr.mono (by decide)) T.f_Fund_open_right.b .nil pass0 (pa_cons (pv 1) (pa_cons (pv 2) pa_nil))))
      (pss_one (ps_ret (pe_call G_least_explanation (hr.mono (by decide)) rfl T.m_least_explanation T.f_least_explanation.kp T.f_least_explanation.b .nil pass0 (pa_cons (pv 3) (pa_cons (pv 4) (pa_cons (pe_dget (hu_of hr) (pe_fld (pv 0) rfl) (pv 2) (fun _ _=>rfl)) pa_nil)))))))),?_⟩
    obtain ⟨dF,eF⟩:=R.fund
    refine (Ze rfl (Zm eF rfl (Ze rfl (Ze rfl ⟨g,S,p,a,rfl,R,hp,fun H1 d1 m1 n1 e1=>?_⟩))))
    refine (Ze rfl (Zm (m1.get eF) rfl (Ze rfl (Ze rfl ⟨g,S,p,a,rfl,R.keep m1,hp,fun H2 d2 m2 n2 e2=>?_⟩))))
    have m12:=m1.trans m2
    have R2:=R.keep m12
    obtain ⟨kvs,eA,hk,hv⟩:=R2.acc
    have ha:AccIs T H2 (valV kvs (.inl ((a:Nat):Int))) (some x):=by
      have:=hv ((a:Nat):Int)
      have e:accAt S ((a:Nat):Int)=some x:=by
        unfold accAt
        rw [if_neg (by omega)]
        exact hx
      rw [e] at this
      exact this
    obtain ⟨ac,hvo,hac⟩:=acc_get ha
    refine (Ze rfl (Ze rfl (Ze rfl (Zf (m12.get eF) T.cl_Fund T.na_Fund_accounts rfl (Ze rfl ⟨g.A,Ze rfl ⟨(by have z:=DGet.k (k:=Sum.inl ((a:Nat):Int)) eA;rw [hvo] at z;exact z),?_⟩⟩)))))
    exact ⟨g,S,x,d1,d2,ac,lefts S p a,rights S p a,rfl,R2,brk_lst R2 (m2.get e1),brk_lst R2 e2,hac,l5,r5,List.nodup_append.mpr ⟨breaks_nodup S p _ a,breaks_nodup S p _ a,fun i hi j hj e=>lr_apart hi (by rw [e];exact hj)⟩,fun H3 pl gs m3 hpl hb=>k H3 pl gs (m12.trans m3) hpl hb⟩
theorem pr0 {s:State} {b z:Int} (h:pr s b z=0):rr s b z=0∧(lefts s b.toNat z.toNat).length≤5∧(rights s b.toNat z.toNat).length≤5:=by
  unfold pr at h
  by_cases h0:rr s b z=0
  · rw [if_pos h0] at h
    by_cases h1:5 < (lefts s b.toNat z.toNat).length∨5 < (rights s b.toNat z.toNat).length
    · rw [if_pos h1] at h;cases h
    · exact ⟨h0,by omega,by omega⟩
  · rw [if_neg h0] at h;exact absurd h h0
def planF (s:State) (b:Int) (f:Vbfuao.Account→Nat→State × List Int):Vbfuao.Account→Nat→State × List Int:=fun x a =>
  if Vbfuao.within b 0 2=false then Vbfuao.no s (-1)
  else if 5 < (lefts s b.toNat a).length∨5 < (rights s b.toNat a).length then Vbfuao.no s (-8) else f x a
theorem wpl {s:State} {b z:Int} {f:Vbfuao.Account→Nat→State × List Int} (h:pr s b z≠0):Vbfuao.withAccount s z (planF s b f)=(s,[pr s b z]):=by
  by_cases h0:rr s b z=0
  · obtain ⟨x,e,_⟩:=wr0 (f:=fun x a=>if 5 < (lefts s b.toNat a).length∨5 < (rights s b.toNat a).length then Vbfuao.no s (-8) else f x a) h0
    have e':Vbfuao.withAccount s z (planF s b f)=_:=e
    rw [e']
    unfold pr at h ⊢
    rw [if_pos h0] at h ⊢
    by_cases h1:5 < (lefts s b.toNat z.toNat).length∨5 < (rights s b.toNat z.toNat).length
    · rw [if_pos h1,if_pos h1];rfl
    · rw [if_neg h1] at h;exact absurd rfl h
  · have e:=wr (f:=fun x a=>if 5 < (lefts s b.toNat a).length∨5 < (rights s b.toNat a).length then Vbfuao.no s (-8) else f x a) h0
    have e':Vbfuao.withAccount s z (planF s b f)=_:=e
    rw [e']
    unfold pr
    rw [if_neg h0]
theorem wpl0 {s:State} {b z:Int} {f:Vbfuao.Account→Nat→State × List Int} (h:pr s b z=0):∃ x,Vbfuao.withAccount s z (planF s b f)=f x z.toNat∧Vbfuao.accountAt s z.toNat=some x:=by
  obtain ⟨h0,h1,h2⟩:=pr0 h
  obtain ⟨x,e,hx,_⟩:=wr0 (f:=fun x a=>if 5 < (lefts s b.toNat a).length∨5 < (rights s b.toNat a).length then Vbfuao.no s (-8) else f x a) h0
  have e':Vbfuao.withAccount s z (planF s b f)=_:=e
  refine ⟨x,?_,hx⟩
  rw [e',if_neg (by omega)]
theorem step_best (s:State) (b z:Int):Vbfuao.step s (.best b z)=Vbfuao.withAccount s z (planF s b fun x a=>(s,[((Vbfuao.least s x (lefts s b.toNat a) (rights s b.toNat a)).left:Int),((Vbfuao.least s x (lefts s b.toNat a) (rights s b.toNat a)).groups.length:Int),((Vbfuao.least s x (lefts s b.toNat a) (rights s b.toNat a)).gap:Int)])):=rfl
theorem step_run (s:State) (b z:Int):Vbfuao.step s (.run b z)=Vbfuao.withAccount s z (planF s b fun x a=>if 300 < s.groups.length + (Vbfuao.least s x (lefts s b.toNat a) (rights s b.toNat a)).groups.length then (s,[-3]) else (Vbfuao.withGroups s b.toNat a (Vbfuao.least s x (lefts s b.toNat a) (rights s b.toNat a)).groups,[((Vbfuao.least s x (lefts s b.toNat a) (rights s b.toNat a)).groups.length:Int),((Vbfuao.least s x (lefts s b.toNat a) (rights s b.toNat a)).left:Int)])):=rfl
def tellG (g:Grp):List Int:=(g.1.length:Int) :: (g.2.length:Int) :: Vbfuao.numbers (g.1++g.2)
theorem step_explain (s:State) (b z:Int):Vbfuao.step s (.explain b z)=Vbfuao.withAccount s z (planF s b fun x a=>(s,((Vbfuao.least s x (lefts s b.toNat a) (rights s b.toNat a)).groups.length:Int) :: (Vbfuao.least s x (lefts s b.toNat a) (rights s b.toNat a)).groups.flatMap tellG)):=rfl
theorem least_of {s : State} {x : Vbfuao.Account} {p a : Nat} {gs : List Grp} (l5 : (lefts s p a).length ≤ 5) (hb : Best s x (lefts s p a ++ rights s p a) (lefts s p a) (rights s p a) gs) :
    (Vbfuao.least s x (lefts s p a) (rights s p a)).groups=gs∧(Vbfuao.least s x (lefts s p a) (rights s p a)).left + (allm gs).length=(lefts s p a).length + (rights s p a).length∧(Vbfuao.least s x (lefts s p a) (rights s p a)).gap=gapAll s gs :=
  least_eq (breaks_nodup s p _ a) (breaks_nodup s p _ a) (fun j hj=>lr_apart hj) l5 hb
def sp_ask_best (T:Txt K mg):Sp:=sp_ask2 .best T
theorem ok_ask_best (T:Txt K mg):FnOk P w K mg base CX0 63 T.f_ask_best.f T.f_ask_best.fd ["fund", "p", "a"] (sp_ask_best T):=by
  have G_Plan_gaps:=ok_Plan_gaps (P:=P) (w:=w) (base:=base) T
  have G_Fund_how_many_open:=ok_Fund_how_many_open (P:=P) (w:=w) (base:=base) T
  have G_Plan_grouped:=ok_Plan_grouped (P:=P) (w:=w) (base:=base) T
  have G_plan_for:=ok_plan_for (P:=P) (w:=w) (base:=base) T
  have G_plan_refusal:=ok_plan_refusal (P:=P) (w:=w) (base:=base) T
  refine T.f_ask_best.F.ok sc_ask_best (fun vs H Q E h=>?_) (fun cdv A outer s H vs Q E hr h=>?_)
  · obtain ⟨_,_,_,_,rfl,_⟩:=h;rfl
  · obtain ⟨g,S,b,z,rfl,R,k⟩:=h
    refine ⟨_,(pss_cons (ps_set (i:=3) sc_ask_best.nd rfl (Or.inl rfl) (pe_call G_plan_refusal (hr.mono (by decide)) rfl T.m_plan_refusal T.f_plan_refusal.kp T.f_plan_refusal.b .nil pass0 (pa_cons (pv 0) (pa_cons (pv 1) (pa_cons (pv 2) pa_nil)))))
      (pss_cons (ps_if (pt_cmpR op_ne (pv 3) pe_int (nomark _)) (pss_one (ps_ret (pe_lst (pa_cons (pv 3) pa_nil)))) pss_nil)
      (pss_cons (ps_set (i:=4) sc_ask_best.nd rfl (Or.inl rfl) (pe_call G_plan_for (hr.mono (by decide)) rfl T.m_plan_for T.f_plan_for.kp T.f_plan_for.b .nil pass0 (pa_cons (pv 0) (pa_cons (pv 1) (pa_cons (pv 2) pa_nil)))))
      (pss_one (ps_ret (pe_lst (pa_cons (pe_op op_sub (pe_meth (pv 0) T.cl_Fund T.me_Fund_how_many_open G_Fund_how_many_open (hr.mono (by decide)) T.f_Fund_how_many_open.b .nil pass0 (pa_cons (pv 1) (pa_cons (pv 2) pa_nil))) (pe_meth0 (pv 4) T.cl_Plan T.me_Plan_grouped G_Plan_grouped (hr.mono (by decide)) T.f_Plan_grouped.b .nil pass0)) (pa_cons (pe_callB call_len_seq rfl T.n_len PySem.boot_len (pa_cons (pe_fld (pv 4) rfl) pa_nil)) (pa_cons (pe_meth0 (pv 4) T.cl_Plan T.me_Plan_gaps G_Plan_gaps (hr.mono (by decide)) T.f_Plan_gaps.b .nil pass0) pa_nil))))))))),?_⟩
    obtain ⟨dF,eF⟩:=R.fund
    refine (Ze rfl (Ze rfl (Ze rfl ⟨g,S,b,z,rfl,R,fun H1 m1=>(Ze rfl ⟨rfl,Ze rfl ?_⟩)⟩)))
    rw [dec0]
    have R1:=R.keep m1
    refine ite3n (fun h0=>?_) (fun h0=>?_)
    · exact (Ze rfl ⟨small_list,fun p hp=>k.ret (ns:=[pr S b z]) (by rw [step_best];exact wpl h0) R1 (Mv.of m1) rfl hp⟩)
    · obtain ⟨x,es,hx⟩:=wpl0 (f:=fun x a=>(S,[((Vbfuao.least S x (lefts S b.toNat a) (rights S b.toNat a)).left:Int),((Vbfuao.least S x (lefts S b.toNat a) (rights S b.toNat a)).groups.length:Int),((Vbfuao.least S x (lefts S b.toNat a) (rights S b.toNat a)).gap:Int)])) h0
      rw [← step_best] at es
      obtain ⟨h0',l5,r5⟩:=pr0 h0
      obtain ⟨_,hz0,hb0,hb2,hp,eb,ez⟩:=rr_zero h0'
      have k':Ans T H g S (.best b z) Q:=k
      rw [h0]
      generalize hbn:b.toNat=p at *
      generalize hzn:z.toNat=a at *
      refine (Ze rfl (Ze rfl (Ze rfl ⟨g,S,p,a,x,by rw [eb,ez];rfl,R1,hp,hx,l5,r5,fun H2 pl gs m2 hpl hb=>?_⟩)))
      have m12:=m1.trans m2
      obtain ⟨e1,e2,e3⟩:=least_of l5 hb
      refine (Ze rfl (Zm (m12.get eF) rfl (Ze rfl (Ze rfl ⟨g,S,p,a,by rw [eb,ez];rfl,R.keep m12,hp,fun H3 m3=>?_⟩))))
      have hpl3:=hpl.keep m3
      obtain ⟨dpl,F,t,fs,p1,p2,p3,p4,p5,p6⟩:=hpl3
      have hpl3:=hpl.keep m3
      refine (Ze rfl (Zm p1 rfl ⟨g,S,_,pl,gs,rfl,hpl3,(Zo rfl rfl ?_)⟩))
      refine (Ze rfl (Zf p1 T.cl_Plan T.na_Plan_fits rfl ⟨_,_,rfl,.inl (SqL.of p2),?_⟩))
      refine (Ze rfl (Zm p1 rfl ⟨g,S,_,pl,gs,rfl,hpl3,?_⟩))
      refine ⟨small_list,fun q hq=>?_⟩
      have m13:=m12.trans m3
      have en:[((Vbfuao.least S x (lefts S p a) (rights S p a)).left:Int),((Vbfuao.least S x (lefts S p a) (rights S p a)).groups.length:Int),((Vbfuao.least S x (lefts S p a) (rights S p a)).gap:Int)]=[(((lefts S p a).length + (rights S p a).length:Nat):Int) - ((allm gs).length:Nat),((fs.map V.ref).length:Int),(gapAll S gs:Int)]:=by
        rw [e1,e3,List.length_map,p4.1]
        congr 1
        omega
      rw [en] at es
      exact k'.ret es (R.keep m13) (Mv.of m13) rfl hq
end
end TB
namespace TB
open PySem PySem.Spec PyProof.Rows L2
open PySem.W (Codec)
section
variable {P:Program} {w:World} {K:PySem.W.Frag} {mg:Str→Option Value} {base:Heap}
theorem tellG_len (gs:List Grp) (h:∀ g ∈ gs,g.1.length≤5∧g.2.length≤5):(gs.flatMap tellG).length≤12 * gs.length:=by
  induction gs with
  | nil=>exact Nat.le_refl _
  | cons g gs ih =>
    have h1:=ih fun z hz=>h z (List.mem_cons_of_mem _ hz)
    obtain ⟨h2,h3⟩:=h g List.mem_cons_self
    rw [List.flatMap_cons,List.length_append,List.length_cons]
    have:(tellG g).length=2 + (g.1.length + g.2.length):=by
      unfold tellG Vbfuao.numbers
      rw [List.length_cons,List.length_cons,List.length_map,List.length_append];omega
    omega
theorem Pl.small {s:State} {x:Vbfuao.Account} {l r:List Nat} {gs:List Grp} (h:Pl s x l r gs) (hl:l.Nodup) (hr:r.Nodup) (l5:l.length≤5) (r5:r.length≤5):∀ g ∈ gs,g.1.length≤5∧g.2.length≤5:=fun g hg=>by
  obtain ⟨_,n1,n2⟩:=h.side hl hr g hg
  obtain ⟨m1,m2⟩:=h.mem g hg
  exact ⟨Nat.le_trans (n1.length_le_of_subset m1) l5,Nat.le_trans (n2.length_le_of_subset m2) r5⟩
def sp_ask_explain (T:Txt K mg):Sp:=sp_ask2 .explain T
theorem ok_ask_explain (T:Txt K mg):FnOk P w K mg base CX0 63 T.f_ask_explain.f T.f_ask_explain.fd ["fund", "p", "a"] (sp_ask_explain T):=by
  have G_places_of:=ok_places_of (P:=P) (w:=w) (base:=base) T
  have G_plan_for:=ok_plan_for (P:=P) (w:=w) (base:=base) T
  have G_plan_refusal:=ok_plan_refusal (P:=P) (w:=w) (base:=base) T
  refine T.f_ask_explain.F.ok sc_ask_explain (fun vs H Q E h=>?_) (fun cdv A outer s H vs Q E hr h=>?_)
  · obtain ⟨_,_,_,_,rfl,_⟩:=h;rfl
  · obtain ⟨g,S,b,z,rfl,R,k⟩:=h
    refine ⟨_,(pss_cons (ps_set (i:=3) sc_ask_explain.nd rfl (Or.inl rfl) (pe_call G_plan_refusal (hr.mono (by decide)) rfl T.m_plan_refusal T.f_plan_refusal.kp T.f_plan_refusal.b .nil pass0 (pa_cons (pv 0) (pa_cons (pv 1) (pa_cons (pv 2) pa_nil)))))
      (pss_cons (ps_if (pt_cmpR op_ne (pv 3) pe_int (nomark _)) (pss_one (ps_ret (pe_lst (pa_cons (pv 3) pa_nil)))) pss_nil)
      (pss_cons (ps_set (i:=4) sc_ask_explain.nd rfl (Or.inl rfl) (pe_call G_plan_for (hr.mono (by decide)) rfl T.m_plan_for T.f_plan_for.kp T.f_plan_for.b .nil pass0 (pa_cons (pv 0) (pa_cons (pv 1) (pa_cons (pv 2) pa_nil)))))
      (pss_cons (ps_set (i:=5) sc_ask_explain.nd rfl (Or.inl rfl) (pe_lst (pa_cons (pe_callB call_len_seq rfl T.n_len PySem.boot_len (pa_cons (pe_fld (pv 4) rfl) pa_nil)) pa_nil)))
      (pss_cons (ps_for PassesOwn.never rfl (pi_list (pe_fld (pv 4) rfl)) (pg_name (i:=6) sc_ask_explain.nd rfl (Or.inl rfl))
        (pss_cons (ps_expr (pe_bm PySem.F.plainAttrs_list PySem.F.slot_list_extend PySem.F.type_list_extend mt_extend (pv 5) (pa_cons (pe_lst (pa_cons (pe_callB call_len_seq rfl T.n_len PySem.boot_len (pa_cons (pe_fld (pv 6) rfl) pa_nil)) (pa_cons (pe_callB call_len_seq rfl T.n_len PySem.boot_len (pa_cons (pe_fld (pv 6) rfl) pa_nil)) pa_nil))) pa_nil)))
      (pss_one (ps_expr (pe_bm PySem.F.plainAttrs_list PySem.F.slot_list_extend PySem.F.type_list_extend mt_extend (pv 5) (pa_cons (pe_call G_places_of (hr.mono (by decide)) rfl T.m_places_of T.f_places_of.kp T.f_places_of.b .nil pass0 (pa_cons (pe_op op_cat (pe_fld (pv 6) rfl) (pe_fld (pv 6) rfl)) pa_nil)) pa_nil))))))
      (pss_one (ps_ret (pv 5)))))))),?_⟩
    obtain ⟨dF,eF⟩:=R.fund
    refine (Ze rfl (Ze rfl (Ze rfl ⟨g,S,b,z,rfl,R,fun H1 m1=>(Ze rfl ⟨rfl,Ze rfl ?_⟩)⟩)))
    rw [dec0]
    have R1:=R.keep m1
    refine ite3n (fun h0=>?_) (fun h0=>?_)
    · exact (Ze rfl ⟨small_list,fun p hp=>k.ret (ns:=[pr S b z]) (by rw [step_explain];exact wpl h0) R1 (Mv.of m1) rfl hp⟩)
    · obtain ⟨x,es,hx⟩:=wpl0 (f:=fun x a=>(S,((Vbfuao.least S x (lefts S b.toNat a) (rights S b.toNat a)).groups.length:Int) :: (Vbfuao.least S x (lefts S b.toNat a) (rights S b.toNat a)).groups.flatMap tellG)) h0
      rw [← step_explain] at es
      obtain ⟨h0',l5,r5⟩:=pr0 h0
      obtain ⟨_,hz0,hb0,hb2,hp,eb,ez⟩:=rr_zero h0'
      have k':Ans T H g S (.explain b z) Q:=k
      rw [h0]
      generalize hbn:b.toNat=p at *
      generalize hzn:z.toNat=a at *
      refine (Ze rfl (Ze rfl (Ze rfl ⟨g,S,p,a,x,by rw [eb,ez];rfl,R1,hp,hx,l5,r5,fun H2 pl gs m2 hpl hb=>?_⟩)))
      have m12:=m1.trans m2
      obtain ⟨e1,e2,e3⟩:=least_of l5 hb
      rw [e1] at es
      have nl:=breaks_nodup S p (Vbfuao.leftBook p) a
      have nr:=breaks_nodup S p (Vbfuao.rightBook p) a
      have sm5:=hb.1.small nl nr l5 r5
      have g5:=hb.1.len
      obtain ⟨dpl,F,t,fs,p1,p2,p3,p4,p5,p6⟩:=hpl
      refine (Ze rfl (Zf p1 T.cl_Plan T.na_Plan_fits rfl ⟨_,_,rfl,.inl (SqL.of p2),small_list,fun Tl hTl=>?_⟩))
      rw [List.length_map,p4.1]
      have m3:Sm H2 (upd H2 Tl (.lst [.int (gs.length:Nat)])):=Sx.new hTl
      have fTl:H Tl=none:=m12.free _ hTl
      refine ⟨_,rfl,_,_,_,_,_,rfl,m3.get p1,T.cl_Plan,T.na_Plan_fits,rfl,F,rfl,⟨_,SqL.of (m3.get p2)⟩,for_list (K:=K) (a:=F) (xs:=fs.map V.ref) (fun n σ H'=>∃ v6,σ = [some (.ref g.F),some (.int b),some (.int z),some (.int 0),some (.ref pl),some (.ref Tl),v6]∧Sm H2 H'∧H' Tl=some (.lst ((((gs.length:Nat):Int) :: (gs.take n).flatMap tellG).map V.int)))
        ⟨none,rfl,m3,by rw [upd_same];rfl⟩ (fun j σ H' _ ⟨_,_,m,_⟩=>SqL.of (m.get p2)) ?_ ?_⟩
      · rintro n v σ H' hn ⟨v6,rfl,m,eT⟩
        rw [List.getElem?_map] at hn
        cases en:fs[n]? with
        | none=>rw [en] at hn;cases hn
        | some f =>
          rw [en] at hn
          obtain rfl:V.ref f=v:=Option.some.inj hn
          have hnl:n < gs.length:=by rw [← p4.1];exact (List.getElem?_eq_some_iff.mp en).1
          obtain ⟨q,hq⟩:∃ q,gs[n]? = some q:=⟨_,List.getElem?_eq_getElem hnl⟩
          have et:gs.take (n + 1)=gs.take n++[q]:=by rw [List.take_add_one,hq];rfl
          obtain ⟨df,l,r,f1,f2,f3,_⟩:=p4.2 n f q en hq
          have hqm:=List.mem_of_getElem? hq
          obtain ⟨q5,q5'⟩:=sm5 q hqm
          have hlen:((((gs.length:Nat):Int) :: (gs.take n).flatMap tellG).map V.int).length≤61:=by
            rw [List.length_map,List.length_cons]
            have:=tellG_len (gs.take n) fun z hz=>sm5 z (List.mem_of_mem_take hz)
            have:(gs.take n).length≤gs.length:=take_len gs n
            omega
          refine (Ze rfl ⟨Or.inl ⟨rfl,_,SqL.of eT⟩,?_⟩)
          refine (Ze rfl (Zf (m.get f1) T.cl_Fit T.na_Fit_left rfl ⟨_,_,rfl,.inl (SqL.of (m.get f2)),?_⟩))
          refine (Ze rfl (Zf (m.get f1) T.cl_Fit T.na_Fit_right rfl ⟨_,_,rfl,.inl (SqL.of (m.get f3)),small_list,fun d hd=>?_⟩))
          rw [len_rfs,len_rfs]
          have c1:Sm H' (upd H' d (.lst [.int (q.1.length:Nat),.int (q.2.length:Nat)])):=Sx.new hd
          refine ⟨Tl,d,Zo rfl rfl ⟨c1.get eT,upd_same,sz' (by show _ + 2≤_;omega),?_⟩⟩
          have mA:=(m.trans c1).put_new (u:=.lst ((((gs.length:Nat):Int) :: (gs.take n).flatMap tellG).map V.int++[.int (q.1.length:Nat),.int (q.2.length:Nat)])) hTl (c1.get eT)
          refine (Ze rfl ⟨Or.inl ⟨rfl,_,SqL.of upd_same⟩,?_⟩)
          refine (Ze rfl (Zf (mA.get f1) T.cl_Fit T.na_Fit_left rfl (Ze rfl (Zf (mA.get f1) T.cl_Fit T.na_Fit_right rfl ⟨l,r,Zo rfl rfl ⟨mA.get f2,mA.get f3,by rw [len_rfs,len_rfs];exact sz' (by omega),fun D hD=>?_⟩⟩))))
          rw [rfs_app]
          have mB:=mA.trans (Sx.new (o:=.lst (g.rfs (q.1++q.2))) hD)
          have c2:Sm (upd (upd H' d (.lst [.int (q.1.length:Nat),.int (q.2.length:Nat)])) Tl (.lst ((((gs.length:Nat):Int) :: (gs.take n).flatMap tellG).map V.int++[.int (q.1.length:Nat),.int (q.2.length:Nat)]))) _:=Sx.new (o:=.lst (g.rfs (q.1++q.2))) hD
          have RB:=R.keep (m12.trans mB)
          have hmem:=hb.1.mem q hqm
          refine ⟨g,S,D,q.1++q.2,rfl,RB,⟨upd_same,fun i hi=>?_,by rw [List.length_append];omega⟩,fun H5 d5 m5 n5 e5=>?_⟩
          · rcases List.mem_append.mp hi with z | z
            · exact (open_mem (hmem.1 i z)).1
            · exact (open_mem (hmem.2 i z)).1
          have eT5:=(c2.trans m5).get upd_same
          refine ⟨Tl,d5,Zo rfl rfl ⟨eT5,e5,?_,?_⟩⟩
          · rw [List.length_append,len_numbers,List.length_append]
            exact sz' (by show _ + 2 + _≤_;omega)
          · refine (Ze rfl ⟨(mB.trans m5).put_new hTl eT5,?_⟩)
            rw [upd_same,et,List.flatMap_append]
            congr 2
            rw [← List.cons_append,List.map_append,List.append_assoc]
            congr 1
            rw [List.flatMap_cons,List.flatMap_nil,List.append_nil]
            rfl
      · rintro σ H' ⟨v6,rfl,m,eT⟩
        rw [List.length_map,p4.1,List.take_length] at eT
        exact (Ze rfl (Ans.at k' es R (m12.trans m) fTl eT))
def sp_run_plan (T:Txt K mg):Sp:=sp_ask2 .run T
theorem ok_run_plan (T:Txt K mg):FnOk P w K mg base CX0 63 T.f_run_plan.f T.f_run_plan.fd ["fund", "p", "a"] (sp_run_plan T):=by
  have G_Fund_how_many_open:=ok_Fund_how_many_open (P:=P) (w:=w) (base:=base) T
  have G_Fund_add_group:=ok_Fund_add_group (P:=P) (w:=w) (base:=base) T
  have G_Fund_has_room_for_groups:=ok_Fund_has_room_for_groups (P:=P) (w:=w) (base:=base) T
  have G_plan_for:=ok_plan_for (P:=P) (w:=w) (base:=base) T
  have G_plan_refusal:=ok_plan_refusal (P:=P) (w:=w) (base:=base) T
  refine T.f_run_plan.F.ok sc_run_plan (fun vs H Q E h=>?_) (fun cdv A outer s H vs Q E hr h=>?_)
  · obtain ⟨_,_,_,_,rfl,_⟩:=h;rfl
  · obtain ⟨g,S,b,z,rfl,R,k⟩:=h
    refine ⟨_,(pss_cons (ps_set (i:=3) sc_run_plan.nd rfl (Or.inl rfl) (pe_call G_plan_refusal (hr.mono (by decide)) rfl T.m_plan_refusal T.f_plan_refusal.kp T.f_plan_refusal.b .nil pass0 (pa_cons (pv 0) (pa_cons (pv 1) (pa_cons (pv 2) pa_nil)))))
      (pss_cons (ps_if (pt_cmpR op_ne (pv 3) pe_int (nomark _)) (pss_one (ps_ret (pe_lst (pa_cons (pv 3) pa_nil)))) pss_nil)
      (pss_cons (ps_set (i:=4) sc_run_plan.nd rfl (Or.inl rfl) (pe_call G_plan_for (hr.mono (by decide)) rfl T.m_plan_for T.f_plan_for.kp T.f_plan_for.b .nil pass0 (pa_cons (pv 0) (pa_cons (pv 1) (pa_cons (pv 2) pa_nil)))))
      (pss_cons (ps_if (pt_not (pt_val (pe_meth (pv 0) T.cl_Fund T.me_Fund_has_room_for_groups G_Fund_has_room_for_groups (hr.mono (by decide)) T.f_Fund_has_room_for_groups.b .nil pass0 (pa_cons (pe_callB call_len_seq rfl T.n_len PySem.boot_len (pa_cons (pe_fld (pv 4) rfl) pa_nil)) pa_nil)))) (pss_one (ps_ret (pe_lst (pa_cons (pe_gint rfl T.g_FULL) pa_nil)))) pss_nil)
      (pss_cons (ps_for PassesOwn.never rfl (pi_list (pe_fld (pv 4) rfl)) (pg_name (i:=5) sc_run_plan.nd rfl (Or.inl rfl))
        (pss_one (ps_expr (pe_meth (pv 0) T.cl_Fund T.me_Fund_add_group G_Fund_add_group (hr.mono (by decide)) T.f_Fund_add_group.b .nil pass0 (pa_cons (pv 1) (pa_cons (pe_fld (pv 5) rfl) (pa_cons (pe_fld (pv 5) rfl) pa_nil)))))))
      (pss_one (ps_ret (pe_lst (pa_cons (pe_callB call_len_seq rfl T.n_len PySem.boot_len (pa_cons (pe_fld (pv 4) rfl) pa_nil)) (pa_cons (pe_meth (pv 0) T.cl_Fund T.me_Fund_how_many_open G_Fund_how_many_open (hr.mono (by decide)) T.f_Fund_how_many_open.b .nil pass0 (pa_cons (pv 1) (pa_cons (pv 2) pa_nil))) pa_nil)))))))))),?_⟩
    obtain ⟨dF,eF⟩:=R.fund
    refine (Ze rfl (Ze rfl (Ze rfl ⟨g,S,b,z,rfl,R,fun H1 m1=>(Ze rfl ⟨rfl,Ze rfl ?_⟩)⟩)))
    rw [dec0]
    have R1:=R.keep m1
    refine ite3n (fun h0=>?_) (fun h0=>?_)
    · exact (Ze rfl ⟨small_list,fun p hp=>k.ret (ns:=[pr S b z]) (by rw [step_run];exact wpl h0) R1 (Mv.of m1) rfl hp⟩)
    · obtain ⟨x,es,hx⟩:=wpl0 (f:=fun x a=>if 300 < S.groups.length + (Vbfuao.least S x (lefts S b.toNat a) (rights S b.toNat a)).groups.length then (S,[-3]) else (Vbfuao.withGroups S b.toNat a (Vbfuao.least S x (lefts S b.toNat a) (rights S b.toNat a)).groups,[((Vbfuao.least S x (lefts S b.toNat a) (rights S b.toNat a)).groups.length:Int),((Vbfuao.least S x (lefts S b.toNat a) (rights S b.toNat a)).left:Int)])) h0
      rw [← step_run] at es
      obtain ⟨h0',l5,r5⟩:=pr0 h0
      obtain ⟨_,hz0,hb0,hb2,hp,eb,ez⟩:=rr_zero h0'
      have k':Ans T H g S (.run b z) Q:=k
      rw [h0]
      generalize hbn:b.toNat=p at *
      generalize hzn:z.toNat=a at *
      refine (Ze rfl (Ze rfl (Ze rfl ⟨g,S,p,a,x,by rw [eb,ez];rfl,R1,hp,hx,l5,r5,fun H2 pl gs m2 hpl hb=>?_⟩)))
      have m12:=m1.trans m2
      obtain ⟨e1,e2,e3⟩:=least_of l5 hb
      rw [e1] at es
      have R2:=R.keep m12
      obtain ⟨dpl,F,t,fs,p1,p2,p3,p4,p5,p6⟩:=hpl
      refine (Ze rfl (Zm (m12.get eF) rfl (Ze rfl (Zf p1 T.cl_Plan T.na_Plan_fits rfl ⟨_,_,rfl,.inl (SqL.of p2),g,S,gs.length,by rw [List.length_map,p4.1];rfl,R2,(Ze rfl ?_)⟩))))
      refine ite3n (fun c1=>?_) (fun c1=>?_)
      · rw [if_pos (by omega)] at es
        exact ⟨small_list,fun q hq=>k'.ret es R2 (Mv.of m12) rfl hq⟩
      rw [if_neg (by omega)] at es
      have O:=Pl.ok hb.1
      refine ⟨_,rfl,_,_,_,_,_,rfl,p1,T.cl_Plan,T.na_Plan_fits,rfl,F,rfl,⟨_,SqL.of p2⟩,for_list (K:=K) (a:=F) (xs:=fs.map V.ref) (fun n σ H'=>∃ v5 g',σ = [some (.ref g.F),some (.int b),some (.int z),some (.int 0),some (.ref pl),v5]∧Rep T H' g' (Vbfuao.withGroups S p a (gs.take n))∧Mv g g' H2 H'∧g'.F=g.F∧g'.es=g.es)
        ⟨none,g,rfl,by rw [List.take_zero,wg_nil];exact R2,Mv.of (Sx.refl _),rfl,rfl⟩ (fun j σ H' _ ⟨_,_,_,_,mv,_⟩=>SqL.of (mv.get p6 p2)) ?_ ?_⟩
      · rintro n v σ H' hn ⟨v5,g',rfl,R',mv,eF',ees⟩
        rw [List.getElem?_map] at hn
        cases en:fs[n]? with
        | none=>rw [en] at hn;cases hn
        | some f =>
          rw [en] at hn
          obtain rfl:V.ref f=v:=Option.some.inj hn
          have hnq:n < gs.length:=by rw [← p4.1];exact (List.getElem?_eq_some_iff.mp en).1
          obtain ⟨q,hq⟩:∃ q,gs[n]? = some q:=⟨_,List.getElem?_eq_getElem hnq⟩
          obtain ⟨df,l,r,f1,f2,f3,n1,n2,n3⟩:=p4.2 n f q en hq
          obtain ⟨gok,gac⟩:=O.gok hp hq c1
          obtain ⟨dF',eFF⟩:=R'.fund
          rw [eF'] at eFF
          have f1':=mv.get n1 f1
          have f2':=mv.get n2 f2
          have f3':=mv.get n3 f3
          refine (Ze rfl (Zm eFF rfl (Ze rfl (Ze rfl (Zf f1' T.cl_Fit T.na_Fit_left rfl (Ze rfl (Zf f1' T.cl_Fit T.na_Fit_right rfl ?_)))))))
          refine ⟨g',_,mkG p a q,l,r,by rw [eb,eF'];rfl,R',gok,rfl,gac,side_new R' (by show _=some (HO.lst (g'.rfs q.1));rw [rfs_es ees];exact f2') (mv.nown n2 f2),side_new R' (by show _=some (HO.lst (g'.rfs q.2));rw [rfs_es ees];exact f3') (mv.nown n3 f3),fun H5 g5 R5 mv5 eF5 ees5=>?_⟩
          have et:gs.take (n + 1)=gs.take n++[q]:=by rw [List.take_add_one,hq];rfl
          rw [et]
          exact ⟨_,g5,rfl,by rw [wg_snoc];exact R5,mv.trans mv5,eF5.trans eF',ees5.trans ees⟩
      · rintro σ H' ⟨v5,g',rfl,R',mv,eF',ees⟩
        rw [List.length_map,p4.1,List.take_length] at R'
        obtain ⟨dF',eFF⟩:=R'.fund
        rw [eF'] at eFF
        refine (Ze rfl (Zf (mv.get p5 p1) T.cl_Plan T.na_Plan_fits rfl ⟨_,_,rfl,.inl (SqL.of (mv.get p6 p2)),?_⟩))
        refine (Ze rfl (Zm eFF rfl (Ze rfl (Ze rfl ⟨g',_,p,a,by rw [eb,ez,eF'];rfl,R',hp,fun H6 m6=>⟨small_list,fun d hd=>?_⟩⟩))))
        have oc:=open_count hb.1
        have el:(Vbfuao.least S x (lefts S p a) (rights S p a)).left=(lefts (Vbfuao.withGroups S p a gs) p a).length + (rights (Vbfuao.withGroups S p a gs) p a).length:=by omega
        rw [el] at es
        rw [List.length_map,p4.1]
        exact k'.ret es (R'.keep m6) ((Mv.of m12).trans (mv.trans (Mv.of m6))) eF' hd
end
end TB
namespace TB
open PySem PySem.Spec PyProof.Rows L2
open PySem.W (Codec)
def cnum:Vbfuao.Call→Int
  | .clear=>0
  | .account _ _ _ _=>1
  | .entry _ _ _ _ _=>2
  | .take _=>3
  | .pair _ _=>4
  | .unpair _=>5
  | .byref _ _=>6
  | .run _ _=>7
  | .best _ _=>8
  | .mirror _ _=>9
  | .tick _=>10
  | .entryAt _=>11
  | .group _=>12
  | .breaks _ _=>13
  | .balance _ _=>14
  | .gap _ _=>15
  | .aged _ _ _=>16
  | .explain _ _=>17
  | .counts=>18
def cargs:Vbfuao.Call→List Int
  | .clear=>[]
  | .account a w t k=>[a,w,t,k]
  | .entry b a d m r=>[b,a,d,m,r]
  | .take i=>[i]
  | .pair p _=>[p]
  | .unpair i=>[i]
  | .byref p a=>[p,a]
  | .run p a=>[p,a]
  | .best p a=>[p,a]
  | .mirror p i=>[p,i]
  | .tick i=>[i]
  | .entryAt i=>[i]
  | .group i=>[i]
  | .breaks p a=>[p,a]
  | .balance p a=>[p,a]
  | .gap p a=>[p,a]
  | .aged p a n0=>[p,a,n0]
  | .explain p a=>[p,a]
  | .counts=>[]
def crow:Vbfuao.Call→List Int
  | .pair _ l=>l
  | _=>[]
def isCh:Vbfuao.Call→Bool
  | .clear=>true
  | .account _ _ _ _=>true
  | .entry _ _ _ _ _=>true
  | .take _=>true
  | .pair _ _=>true
  | .unpair _=>true
  | .byref _ _=>true
  | .run _ _=>true
  | .best _ _=>false
  | .mirror _ _=>true
  | .tick _=>true
  | .entryAt _=>false
  | .group _=>false
  | .breaks _ _=>false
  | .balance _ _=>false
  | .gap _ _=>false
  | .aged _ _ _=>false
  | .explain _ _=>false
  | .counts=>false
theorem neI {m k:Int} {A B:Prop} (h:m≠k) (b:B):if decide (V.int m=V.int k)=true then A else B:=by
  rw [decide_eq_false (fun q=>h (by injection q))];exact iteF b
theorem eqI {m:Int} {A B:Prop} (a:A):if decide (V.int m=V.int m)=true then A else B:=by
  rw [decide_eq_true rfl];exact iteT a
section
variable {P:Program} {w:World} {K:PySem.W.Frag} {mg:Str→Option Value} {base:Heap}
def sp_answer_change (T:Txt K mg):Sp:=fun vs H Q _=>∃ (g:Gh) (s:State) (c:Vbfuao.Call) (n:Int) (gv rw:Addr),vs=[.ref g.F,.int n,.ref gv,.ref rw]∧n=cnum c∧Rep T H g s∧H gv=some (.lst ((cargs c).map V.int))∧H rw=some (.lst ((crow c).map V.int))∧(crow c).length≤100∧(isCh c=true→Ans T H g s c Q)∧(isCh c=false→Q .non H)
theorem ok_answer_change (T:Txt K mg):FnOk P w K mg base CX0 64 T.f_answer_change.f T.f_answer_change.fd ["fund", "number", "given", "row"] (sp_answer_change T):=by
  have G_tick_days:=ok_tick_days (P:=P) (w:=w) (base:=base) T
  have G_mirror_entry:=ok_mirror_entry (P:=P) (w:=w) (base:=base) T
  have G_run_plan:=ok_run_plan (P:=P) (w:=w) (base:=base) T
  have G_pair_by_reference:=ok_pair_by_reference (P:=P) (w:=w) (base:=base) T
  have G_unpair_group:=ok_unpair_group (P:=P) (w:=w) (base:=base) T
  have G_pair_entries:=ok_pair_entries (P:=P) (w:=w) (base:=base) T
  have G_take_entry:=ok_take_entry (P:=P) (w:=w) (base:=base) T
  have G_write_entry:=ok_write_entry (P:=P) (w:=w) (base:=base) T
  have G_tell_account:=ok_tell_account (P:=P) (w:=w) (base:=base) T
  have G_clear_all:=ok_clear_all (P:=P) (w:=w) (base:=base) T
  refine T.f_answer_change.F.ok sc_answer_change (fun vs H Q E h=>?_) (fun cdv A outer s H vs Q E hr h=>?_)
  · obtain ⟨_,_,_,_,_,_,rfl,_⟩:=h;rfl
  · obtain ⟨g,S,c,n,gv,rw,rfl,hn,R,eg,er,hlen,k1,k0⟩:=h
    refine ⟨_,(pss_cons (ps_if (pt_cmpR op_eq (pv 1) (pe_gint rfl T.g_CLEAR) (nomark _)) (pss_one (ps_ret (pe_call G_clear_all (hr.mono (by decide)) rfl T.m_clear_all T.f_clear_all.kp T.f_clear_all.b .nil pass0 (pa_cons (pv 0) pa_nil)))) pss_nil)
      (pss_cons (ps_if (pt_cmpR op_eq (pv 1) (pe_gint rfl T.g_ACCOUNT) (nomark _)) (pss_one (ps_ret (pe_call G_tell_account (hr.mono (by decide)) rfl T.m_tell_account T.f_tell_account.kp T.f_tell_account.b .nil pass0 (pa_cons (pv 0) (pa_cons (pe_ix ix_list (pv 2) pe_int (fun _ _=>rfl)) (pa_cons (pe_ix ix_list (pv 2) pe_int (fun _ _=>rfl)) (pa_cons (pe_ix ix_list (pv 2) pe_int (fun _ _=>rfl)) (pa_cons (pe_ix ix_list (pv 2) pe_int (fun _ _=>rfl)) pa_nil)))))))) pss_nil)
      (pss_cons (ps_if (pt_cmpR op_eq (pv 1) (pe_gint rfl T.g_ENTRY) (nomark _)) (pss_one (ps_ret (pe_call G_write_entry (hr.mono (by decide)) rfl T.m_write_entry T.f_write_entry.kp T.f_write_entry.b .nil pass0 (pa_cons (pv 0) (pa_cons (pe_ix ix_list (pv 2) pe_int (fun _ _=>rfl)) (pa_cons (pe_ix ix_list (pv 2) pe_int (fun _ _=>rfl)) (pa_cons (pe_ix ix_list (pv 2) pe_int (fun _ _=>rfl)) (pa_cons (pe_ix ix_list (pv 2) pe_int (fun _ _=>rfl)) (pa_cons (pe_ix ix_list (pv 2) pe_int (fun _ _=>rfl)) pa_nil))))))))) pss_nil)
      (pss_cons (ps_if (pt_cmpR op_eq (pv 1) (pe_gint rfl T.g_TAKE) (nomark _)) (pss_one (ps_ret (pe_call G_take_entry (hr.mono (by decide)) rfl T.m_take_entry T.f_take_entry.kp T.f_take_entry.b .nil pass0 (pa_cons (pv 0) (pa_cons (pe_ix ix_list (pv 2) pe_int (fun _ _=>rfl)) pa_nil))))) pss_nil)
      (pss_cons (ps_if (pt_cmpR op_eq (pv 1) (pe_gint rfl T.g_PAIR) (nomark _)) (pss_one (ps_ret (pe_call G_pair_entries (hr.mono (by decide)) rfl T.m_pair_entries T.f_pair_entries.kp T.f_pair_entries.b .nil pass0 (pa_cons (pv 0) (pa_cons (pe_ix ix_list (pv 2) pe_int (fun _ _=>rfl)) (pa_cons (pv 3) pa_nil)))))) pss_nil)
      (pss_cons (ps_if (pt_cmpR op_eq (pv 1) (pe_gint rfl T.g_UNPAIR) (nomark _)) (pss_one (ps_ret (pe_call G_unpair_group (hr.mono (by decide)) rfl T.m_unpair_group T.f_unpair_group.kp T.f_unpair_group.b .nil pass0 (pa_cons (pv 0) (pa_cons (pe_ix ix_list (pv 2) pe_int (fun _ _=>rfl)) pa_nil))))) pss_nil)
      (pss_cons (ps_if (pt_cmpR op_eq (pv 1) (pe_gint rfl T.g_BYREF) (nomark _)) (pss_one (ps_ret (pe_call G_pair_by_reference (hr.mono (by decide)) rfl T.m_pair_by_reference T.f_pair_by_reference.kp T.f_pair_by_reference.b .nil pass0 (pa_cons (pv 0) (pa_cons (pe_ix ix_list (pv 2) pe_int (fun _ _=>rfl)) (pa_cons (pe_ix ix_list (pv 2) pe_int (fun _ _=>rfl)) pa_nil)))))) pss_nil)
      (pss_cons (ps_if (pt_cmpR op_eq (pv 1) (pe_gint rfl T.g_RUN) (nomark _)) (pss_one (ps_ret (pe_call G_run_plan (hr.mono (by decide)) rfl T.m_run_plan T.f_run_plan.kp T.f_run_plan.b .nil pass0 (pa_cons (pv 0) (pa_cons (pe_ix ix_list (pv 2) pe_int (fun _ _=>rfl)) (pa_cons (pe_ix ix_list (pv 2) pe_int (fun _ _=>rfl)) pa_nil)))))) pss_nil)
      (pss_cons (ps_if (pt_cmpR op_eq (pv 1) (pe_gint rfl T.g_MIRROR) (nomark _)) (pss_one (ps_ret (pe_call G_mirror_entry (hr.mono (by decide)) rfl T.m_mirror_entry T.f_mirror_entry.kp T.f_mirror_entry.b .nil pass0 (pa_cons (pv 0) (pa_cons (pe_ix ix_list (pv 2) pe_int (fun _ _=>rfl)) (pa_cons (pe_ix ix_list (pv 2) pe_int (fun _ _=>rfl)) pa_nil)))))) pss_nil)
      (pss_cons (ps_if (pt_cmpR op_eq (pv 1) (pe_gint rfl T.g_TICK) (nomark _)) (pss_one (ps_ret (pe_call G_tick_days (hr.mono (by decide)) rfl T.m_tick_days T.f_tick_days.kp T.f_tick_days.b .nil pass0 (pa_cons (pv 0) (pa_cons (pe_ix ix_list (pv 2) pe_int (fun _ _=>rfl)) pa_nil))))) pss_nil)
      (pss_one (ps_ret pe_non)))))))))))),?_⟩
    cases c with
    | clear =>
      have hn:n=0:=hn
      subst hn
      refine (Ze rfl ⟨rfl,Ze rfl (eqI ?_)⟩)
      exact (Ze rfl ⟨g,S,rfl,R,k1 rfl⟩)
    | account a w t k =>
      have hn:n=1:=hn
      subst hn
      repeat refine ⟨_,rfl,rfl,_,rfl,neI (by decide) ?_⟩
      refine (Ze rfl ⟨rfl,Ze rfl (eqI ?_)⟩)
      exact (Ze rfl (Ze rfl ⟨_,_,_,_,rfl,rfl,SqL.of eg,rfl,(Ze rfl ⟨_,_,_,_,rfl,rfl,SqL.of eg,rfl,(Ze rfl ⟨_,_,_,_,rfl,rfl,SqL.of eg,rfl,(Ze rfl ⟨_,_,_,_,rfl,rfl,SqL.of eg,rfl,g,S,a,w,t,k,rfl,R,k1 rfl⟩)⟩)⟩)⟩))
    | entry b a d m r =>
      have hn:n=2:=hn
      subst hn
      repeat refine ⟨_,rfl,rfl,_,rfl,neI (by decide) ?_⟩
      refine (Ze rfl ⟨rfl,Ze rfl (eqI ?_)⟩)
      exact (Ze rfl (Ze rfl ⟨_,_,_,_,rfl,rfl,SqL.of eg,rfl,(Ze rfl ⟨_,_,_,_,rfl,rfl,SqL.of eg,rfl,(Ze rfl ⟨_,_,_,_,rfl,rfl,SqL.of eg,rfl,(Ze rfl ⟨_,_,_,_,rfl,rfl,SqL.of eg,rfl,(Ze rfl ⟨_,_,_,_,rfl,rfl,SqL.of eg,rfl,g,S,b,a,d,m,r,rfl,R,k1 rfl⟩)⟩)⟩)⟩)⟩))
    | take i =>
      have hn:n=3:=hn
      subst hn
      repeat refine ⟨_,rfl,rfl,_,rfl,neI (by decide) ?_⟩
      refine (Ze rfl ⟨rfl,Ze rfl (eqI ?_)⟩)
      exact (Ze rfl (Ze rfl ⟨_,_,_,_,rfl,rfl,SqL.of eg,rfl,g,S,i,rfl,R,k1 rfl⟩))
    | pair p l =>
      have hn:n=4:=hn
      subst hn
      repeat refine ⟨_,rfl,rfl,_,rfl,neI (by decide) ?_⟩
      refine (Ze rfl ⟨rfl,Ze rfl (eqI ?_)⟩)
      exact (Ze rfl (Ze rfl ⟨_,_,_,_,rfl,rfl,SqL.of eg,rfl,(Ze rfl ⟨g,S,p,rw,l,rfl,R,er,hlen,k1 rfl⟩)⟩))
    | unpair i =>
      have hn:n=5:=hn
      subst hn
      repeat refine ⟨_,rfl,rfl,_,rfl,neI (by decide) ?_⟩
      refine (Ze rfl ⟨rfl,Ze rfl (eqI ?_)⟩)
      exact (Ze rfl (Ze rfl ⟨_,_,_,_,rfl,rfl,SqL.of eg,rfl,g,S,i,rfl,R,k1 rfl⟩))
    | byref p a =>
      have hn:n=6:=hn
      subst hn
      repeat refine ⟨_,rfl,rfl,_,rfl,neI (by decide) ?_⟩
      refine (Ze rfl ⟨rfl,Ze rfl (eqI ?_)⟩)
      exact (Ze rfl (Ze rfl ⟨_,_,_,_,rfl,rfl,SqL.of eg,rfl,(Ze rfl ⟨_,_,_,_,rfl,rfl,SqL.of eg,rfl,g,S,p,a,rfl,R,k1 rfl⟩)⟩))
    | run p a =>
      have hn:n=7:=hn
      subst hn
      repeat refine ⟨_,rfl,rfl,_,rfl,neI (by decide) ?_⟩
      refine (Ze rfl ⟨rfl,Ze rfl (eqI ?_)⟩)
      exact (Ze rfl (Ze rfl ⟨_,_,_,_,rfl,rfl,SqL.of eg,rfl,(Ze rfl ⟨_,_,_,_,rfl,rfl,SqL.of eg,rfl,g,S,p,a,rfl,R,k1 rfl⟩)⟩))
    | best p a =>
      have hn:n=8:=hn
      subst hn
      repeat refine ⟨_,rfl,rfl,_,rfl,neI (by decide) ?_⟩
      exact k0 rfl
    | mirror p i =>
      have hn:n=9:=hn
      subst hn
      repeat refine ⟨_,rfl,rfl,_,rfl,neI (by decide) ?_⟩
      refine (Ze rfl ⟨rfl,Ze rfl (eqI ?_)⟩)
      exact (Ze rfl (Ze rfl ⟨_,_,_,_,rfl,rfl,SqL.of eg,rfl,(Ze rfl ⟨_,_,_,_,rfl,rfl,SqL.of eg,rfl,g,S,p,i,rfl,R,k1 rfl⟩)⟩))
    | tick i =>
      have hn:n=10:=hn
      subst hn
      repeat refine ⟨_,rfl,rfl,_,rfl,neI (by decide) ?_⟩
      refine (Ze rfl ⟨rfl,Ze rfl (eqI ?_)⟩)
      exact (Ze rfl (Ze rfl ⟨_,_,_,_,rfl,rfl,SqL.of eg,rfl,g,S,i,rfl,R,k1 rfl⟩))
    | entryAt i =>
      have hn:n=11:=hn
      subst hn
      repeat refine ⟨_,rfl,rfl,_,rfl,neI (by decide) ?_⟩
      exact k0 rfl
    | group i =>
      have hn:n=12:=hn
      subst hn
      repeat refine ⟨_,rfl,rfl,_,rfl,neI (by decide) ?_⟩
      exact k0 rfl
    | breaks p a =>
      have hn:n=13:=hn
      subst hn
      repeat refine ⟨_,rfl,rfl,_,rfl,neI (by decide) ?_⟩
      exact k0 rfl
    | balance p a =>
      have hn:n=14:=hn
      subst hn
      repeat refine ⟨_,rfl,rfl,_,rfl,neI (by decide) ?_⟩
      exact k0 rfl
    | gap p a =>
      have hn:n=15:=hn
      subst hn
      repeat refine ⟨_,rfl,rfl,_,rfl,neI (by decide) ?_⟩
      exact k0 rfl
    | aged p a n0 =>
      have hn:n=16:=hn
      subst hn
      repeat refine ⟨_,rfl,rfl,_,rfl,neI (by decide) ?_⟩
      exact k0 rfl
    | explain p a =>
      have hn:n=17:=hn
      subst hn
      repeat refine ⟨_,rfl,rfl,_,rfl,neI (by decide) ?_⟩
      exact k0 rfl
    | counts =>
      have hn:n=18:=hn
      subst hn
      repeat refine ⟨_,rfl,rfl,_,rfl,neI (by decide) ?_⟩
      exact k0 rfl
def sp_answer_ask (T:Txt K mg):Sp:=fun vs H Q _=>∃ (g:Gh) (s:State) (c:Vbfuao.Call) (n:Int) (gv:Addr),vs=[.ref g.F,.int n,.ref gv]∧n=cnum c∧Rep T H g s∧H gv=some (.lst ((cargs c).map V.int))∧isCh c=false∧Ans T H g s c Q
theorem ok_answer_ask (T:Txt K mg):FnOk P w K mg base CX0 64 T.f_answer_ask.f T.f_answer_ask.fd ["fund", "number", "given"] (sp_answer_ask T):=by
  have G_ask_counts:=ok_ask_counts (P:=P) (w:=w) (base:=base) T
  have G_ask_explain:=ok_ask_explain (P:=P) (w:=w) (base:=base) T
  have G_ask_aged:=ok_ask_aged (P:=P) (w:=w) (base:=base) T
  have G_ask_gap:=ok_ask_gap (P:=P) (w:=w) (base:=base) T
  have G_ask_balance:=ok_ask_balance (P:=P) (w:=w) (base:=base) T
  have G_ask_breaks:=ok_ask_breaks (P:=P) (w:=w) (base:=base) T
  have G_ask_group:=ok_ask_group (P:=P) (w:=w) (base:=base) T
  have G_ask_entry:=ok_ask_entry (P:=P) (w:=w) (base:=base) T
  have G_ask_best:=ok_ask_best (P:=P) (w:=w) (base:=base) T
  refine T.f_answer_ask.F.ok sc_answer_ask (fun vs H Q E h=>?_) (fun cdv A outer s H vs Q E hr h=>?_)
  · obtain ⟨_,_,_,_,_,rfl,_⟩:=h;rfl
  · obtain ⟨g,S,c,n,gv,rfl,hn,R,eg,hc,k1⟩:=h
    refine ⟨_,(pss_cons (ps_if (pt_cmpR op_eq (pv 1) (pe_gint rfl T.g_BEST) (nomark _)) (pss_one (ps_ret (pe_call G_ask_best (hr.mono (by decide)) rfl T.m_ask_best T.f_ask_best.kp T.f_ask_best.b .nil pass0 (pa_cons (pv 0) (pa_cons (pe_ix ix_list (pv 2) pe_int (fun _ _=>rfl)) (pa_cons (pe_ix ix_list (pv 2) pe_int (fun _ _=>rfl)) pa_nil)))))) pss_nil)
      (pss_cons (ps_if (pt_cmpR op_eq (pv 1) (pe_gint rfl T.g_ENTRYAT) (nomark _)) (pss_one (ps_ret (pe_call G_ask_entry (hr.mono (by decide)) rfl T.m_ask_entry T.f_ask_entry.kp T.f_ask_entry.b .nil pass0 (pa_cons (pv 0) (pa_cons (pe_ix ix_list (pv 2) pe_int (fun _ _=>rfl)) pa_nil))))) pss_nil)
      (pss_cons (ps_if (pt_cmpR op_eq (pv 1) (pe_gint rfl T.g_GROUP) (nomark _)) (pss_one (ps_ret (pe_call G_ask_group (hr.mono (by decide)) rfl T.m_ask_group T.f_ask_group.kp T.f_ask_group.b .nil pass0 (pa_cons (pv 0) (pa_cons (pe_ix ix_list (pv 2) pe_int (fun _ _=>rfl)) pa_nil))))) pss_nil)
      (pss_cons (ps_if (pt_cmpR op_eq (pv 1) (pe_gint rfl T.g_BREAKS) (nomark _)) (pss_one (ps_ret (pe_call G_ask_breaks (hr.mono (by decide)) rfl T.m_ask_breaks T.f_ask_breaks.kp T.f_ask_breaks.b .nil pass0 (pa_cons (pv 0) (pa_cons (pe_ix ix_list (pv 2) pe_int (fun _ _=>rfl)) (pa_cons (pe_ix ix_list (pv 2) pe_int (fun _ _=>rfl)) pa_nil)))))) pss_nil)
      (pss_cons (ps_if (pt_cmpR op_eq (pv 1) (pe_gint rfl T.g_BALANCE) (nomark _)) (pss_one (ps_ret (pe_call G_ask_balance (hr.mono (by decide)) rfl T.m_ask_balance T.f_ask_balance.kp T.f_ask_balance.b .nil pass0 (pa_cons (pv 0) (pa_cons (pe_ix ix_list (pv 2) pe_int (fun _ _=>rfl)) (pa_cons (pe_ix ix_list (pv 2) pe_int (fun _ _=>rfl)) pa_nil)))))) pss_nil)
      (pss_cons (ps_if (pt_cmpR op_eq (pv 1) (pe_gint rfl T.g_GAP) (nomark _)) (pss_one (ps_ret (pe_call G_ask_gap (hr.mono (by decide)) rfl T.m_ask_gap T.f_ask_gap.kp T.f_ask_gap.b .nil pass0 (pa_cons (pv 0) (pa_cons (pe_ix ix_list (pv 2) pe_int (fun _ _=>rfl)) (pa_cons (pe_ix ix_list (pv 2) pe_int (fun _ _=>rfl)) pa_nil)))))) pss_nil)
      (pss_cons (ps_if (pt_cmpR op_eq (pv 1) (pe_gint rfl T.g_AGED) (nomark _)) (pss_one (ps_ret (pe_call G_ask_aged (hr.mono (by decide)) rfl T.m_ask_aged T.f_ask_aged.kp T.f_ask_aged.b .nil pass0 (pa_cons (pv 0) (pa_cons (pe_ix ix_list (pv 2) pe_int (fun _ _=>rfl)) (pa_cons (pe_ix ix_list (pv 2) pe_int (fun _ _=>rfl)) (pa_cons (pe_ix ix_list (pv 2) pe_int (fun _ _=>rfl)) pa_nil))))))) pss_nil)
      (pss_cons (ps_if (pt_cmpR op_eq (pv 1) (pe_gint rfl T.g_EXPLAIN) (nomark _)) (pss_one (ps_ret (pe_call G_ask_explain (hr.mono (by decide)) rfl T.m_ask_explain T.f_ask_explain.kp T.f_ask_explain.b .nil pass0 (pa_cons (pv 0) (pa_cons (pe_ix ix_list (pv 2) pe_int (fun _ _=>rfl)) (pa_cons (pe_ix ix_list (pv 2) pe_int (fun _ _=>rfl)) pa_nil)))))) pss_nil)
      (pss_cons (ps_if (pt_cmpR op_eq (pv 1) (pe_gint rfl T.g_COUNTS) (nomark _)) (pss_one (ps_ret (pe_call G_ask_counts (hr.mono (by decide)) rfl T.m_ask_counts T.f_ask_counts.kp T.f_ask_counts.b .nil pass0 (pa_cons (pv 0) pa_nil)))) pss_nil)
      (pss_one (ps_ret pe_non))))))))))),?_⟩
    cases c with
    | clear =>
      cases hc
    | account a w t k =>
      cases hc
    | entry b a d m r =>
      cases hc
    | take i =>
      cases hc
    | pair p l =>
      cases hc
    | unpair i =>
      cases hc
    | byref p a =>
      cases hc
    | run p a =>
      cases hc
    | best p a =>
      have hn:n=8:=hn
      subst hn
      refine (Ze rfl ⟨rfl,Ze rfl (eqI ?_)⟩)
      exact (Ze rfl (Ze rfl ⟨_,_,_,_,rfl,rfl,SqL.of eg,rfl,(Ze rfl ⟨_,_,_,_,rfl,rfl,SqL.of eg,rfl,g,S,p,a,rfl,R,k1⟩)⟩))
    | mirror p i =>
      cases hc
    | tick i =>
      cases hc
    | entryAt i =>
      have hn:n=11:=hn
      subst hn
      repeat refine ⟨_,rfl,rfl,_,rfl,neI (by decide) ?_⟩
      refine (Ze rfl ⟨rfl,Ze rfl (eqI ?_)⟩)
      exact (Ze rfl (Ze rfl ⟨_,_,_,_,rfl,rfl,SqL.of eg,rfl,g,S,i,rfl,R,k1⟩))
    | group i =>
      have hn:n=12:=hn
      subst hn
      repeat refine ⟨_,rfl,rfl,_,rfl,neI (by decide) ?_⟩
      refine (Ze rfl ⟨rfl,Ze rfl (eqI ?_)⟩)
      exact (Ze rfl (Ze rfl ⟨_,_,_,_,rfl,rfl,SqL.of eg,rfl,g,S,i,rfl,R,k1⟩))
    | breaks p a =>
      have hn:n=13:=hn
      subst hn
      repeat refine ⟨_,rfl,rfl,_,rfl,neI (by decide) ?_⟩
      refine (Ze rfl ⟨rfl,Ze rfl (eqI ?_)⟩)
      exact (Ze rfl (Ze rfl ⟨_,_,_,_,rfl,rfl,SqL.of eg,rfl,(Ze rfl ⟨_,_,_,_,rfl,rfl,SqL.of eg,rfl,g,S,p,a,rfl,R,k1⟩)⟩))
    | balance p a =>
      have hn:n=14:=hn
      subst hn
      repeat refine ⟨_,rfl,rfl,_,rfl,neI (by decide) ?_⟩
      refine (Ze rfl ⟨rfl,Ze rfl (eqI ?_)⟩)
      exact (Ze rfl (Ze rfl ⟨_,_,_,_,rfl,rfl,SqL.of eg,rfl,(Ze rfl ⟨_,_,_,_,rfl,rfl,SqL.of eg,rfl,g,S,p,a,rfl,R,k1⟩)⟩))
    | gap p a =>
      have hn:n=15:=hn
      subst hn
      repeat refine ⟨_,rfl,rfl,_,rfl,neI (by decide) ?_⟩
      refine (Ze rfl ⟨rfl,Ze rfl (eqI ?_)⟩)
      exact (Ze rfl (Ze rfl ⟨_,_,_,_,rfl,rfl,SqL.of eg,rfl,(Ze rfl ⟨_,_,_,_,rfl,rfl,SqL.of eg,rfl,g,S,p,a,rfl,R,k1⟩)⟩))
    | aged p a n0 =>
      have hn:n=16:=hn
      subst hn
      repeat refine ⟨_,rfl,rfl,_,rfl,neI (by decide) ?_⟩
      refine (Ze rfl ⟨rfl,Ze rfl (eqI ?_)⟩)
      exact (Ze rfl (Ze rfl ⟨_,_,_,_,rfl,rfl,SqL.of eg,rfl,(Ze rfl ⟨_,_,_,_,rfl,rfl,SqL.of eg,rfl,(Ze rfl ⟨_,_,_,_,rfl,rfl,SqL.of eg,rfl,g,S,p,a,n0,rfl,R,k1⟩)⟩)⟩))
    | explain p a =>
      have hn:n=17:=hn
      subst hn
      repeat refine ⟨_,rfl,rfl,_,rfl,neI (by decide) ?_⟩
      refine (Ze rfl ⟨rfl,Ze rfl (eqI ?_)⟩)
      exact (Ze rfl (Ze rfl ⟨_,_,_,_,rfl,rfl,SqL.of eg,rfl,(Ze rfl ⟨_,_,_,_,rfl,rfl,SqL.of eg,rfl,g,S,p,a,rfl,R,k1⟩)⟩))
    | counts =>
      have hn:n=18:=hn
      subst hn
      repeat refine ⟨_,rfl,rfl,_,rfl,neI (by decide) ?_⟩
      refine (Ze rfl ⟨rfl,Ze rfl (eqI ?_)⟩)
      exact (Ze rfl ⟨g,S,rfl,R,k1⟩)
def sp_answer (T:Txt K mg):Sp:=fun vs H Q _=>∃ (g:Gh) (s:State) (c:Vbfuao.Call) (gv rw:Addr),vs=[.ref g.F,.int (cnum c),.ref gv,.ref rw]∧Rep T H g s∧H gv=some (.lst ((cargs c).map V.int))∧H rw=some (.lst ((crow c).map V.int))∧(crow c).length≤100∧Ans T H g s c Q
theorem ok_answer (T:Txt K mg):FnOk P w K mg base CX0 65 T.f_answer.f T.f_answer.fd ["fund", "number", "given", "row"] (sp_answer T):=by
  have G_answer_ask:=ok_answer_ask (P:=P) (w:=w) (base:=base) T
  have G_answer_change:=ok_answer_change (P:=P) (w:=w) (base:=base) T
  refine T.f_answer.F.ok sc_answer (fun vs H Q E h=>?_) (fun cdv A outer s H vs Q E hr h=>?_)
  · obtain ⟨_,_,_,_,_,rfl,_⟩:=h;rfl
  · obtain ⟨g,S,c,gv,rw,rfl,R,eg,er,hlen,k⟩:=h
    refine ⟨_,(pss_cons (ps_set (i:=4) sc_answer.nd rfl (Or.inl rfl) (pe_call G_answer_change (hr.mono (by decide)) rfl T.m_answer_change T.f_answer_change.kp T.f_answer_change.b .nil pass0 (pa_cons (pv 0) (pa_cons (pv 1) (pa_cons (pv 2) (pa_cons (pv 3) pa_nil))))))
      (pss_cons (ps_if (pt_cmp (pc_isN (pv 4))) (pss_one (ps_ret (pe_call G_answer_ask (hr.mono (by decide)) rfl T.m_answer_ask T.f_answer_ask.kp T.f_answer_ask.b .nil pass0 (pa_cons (pv 0) (pa_cons (pv 1) (pa_cons (pv 2) pa_nil)))))) pss_nil)
      (pss_one (ps_ret (pv 4))))),?_⟩
    refine (Ze rfl (Ze rfl (Ze rfl (Ze rfl ⟨g,S,c,_,gv,rw,rfl,rfl,R,eg,er,hlen,fun hc H1 g1 d R1 mv eF nd ed nown=>?_,fun hc=>?_⟩))))
    · exact (Ze rfl (Ze rfl (iteF (Ze rfl (k H1 g1 d R1 mv eF nd ed nown)))))
    · exact (Ze rfl (Ze rfl (iteT (Ze rfl (Ze rfl (Ze rfl ⟨g,S,c,_,gv,rfl,rfl,R,eg,hc,k⟩))))))
end
end TB
namespace TB
open PySem PySem.Spec PyProof.Rows L2
structure OneCall (p:Int) (r:List Int) (c:List (List Int)) (t:List Int) (c0:Vbfuao.Call):Prop where
  of:VbfuaoNeutral.callOf (PyVbfuao.whole c)=some c0
  pn:p=cnum c0
  args:∃ r1,r=cargs c0++r1∧((p≠4∧crow c0=[]∧t=r1)∨(p=4∧r1=((crow c0).length:Int) :: (crow c0++t)))
  len:(crow c0).length≤100
theorem call_inv {shape:Int→Option (Nat × Nat)} {p:Int} {r:List Int} {c:List (List Int)} {t:List Int} (h:PyFlat.call shape (p :: r)=some (c,t)):∃ n k xs,shape p=some (n,k)∧n≤r.length∧PyFlat.rows k (r.drop n)=some (xs,t)∧c=(p :: r.take n) :: xs:=by
  unfold PyFlat.call at h
  dsimp only at h
  cases hs:shape p with
  | none=>rw [hs] at h;cases h
  | some nk =>
    obtain ⟨n,k⟩:=nk
    rw [hs] at h
    dsimp only at h
    by_cases hl:r.length < n
    · rw [if_pos hl] at h;cases h
    · rw [if_neg hl] at h
      cases hr:PyFlat.rows k (r.drop n) with
      | none=>rw [hr] at h;cases h
      | some xt =>
        obtain ⟨xs,t'⟩:=xt
        rw [hr] at h
        dsimp only at h
        have h:=Option.some.inj h
        injection h with h1 h2
        subst h2
        exact ⟨n,k,xs,rfl,by omega,hr,h1.symm⟩
theorem row1_inv {r:List Int} {xs:List (List Int)} {t:List Int} (h:PyFlat.rows 1 r=some (xs,t)):∃ x:List Int,xs=[x]∧r=((x.length:Nat):Int) :: (x++t):=by
  unfold PyFlat.rows at h
  dsimp only at h
  cases r with
  | nil=>unfold PyFlat.row at h;cases h
  | cons n r =>
    unfold PyFlat.row at h
    dsimp only at h
    by_cases hn:0≤n∧n.toNat≤r.length
    · rw [if_pos hn] at h
      unfold PyFlat.rows at h
      dsimp only at h
      have h:=Option.some.inj h
      injection h with h1 h2
      subst h2
      refine ⟨r.take n.toNat,h1.symm,?_⟩
      rw [List.take_append_drop,List.length_take]
      congr 1
      omega
    · rw [if_neg hn] at h;cases h
theorem len_cons {n:Nat} {r:List Int} (h:n + 1≤r.length):∃ x r',r=x :: r'∧n≤r'.length:=by
  cases r with
  | nil=>simp at h
  | cons x r'=>exact ⟨x,r',rfl,by simpa using h⟩
theorem one_call {p:Int} {r:List Int} {c:List (List Int)} {t:List Int} (h:PyFlat.call PyVbfuao.shape (p :: r)=some (c,t)) (ha:VbfuaoNeutral.asked1 (PyVbfuao.whole c)=true):∃ c0,OneCall p r c t c0:=by
  obtain ⟨n,k,xs,hs,hn,hr,rfl⟩:=call_inv h
  unfold PyVbfuao.shape at hs
  by_cases q0:p=0
  · rw [if_pos q0] at hs
    have hs:=Option.some.inj hs
    injection hs with hs1 hs2
    subst hs1 hs2 q0
    have hr:=Option.some.inj hr
    injection hr with h1 h2
    subst h1 h2
    exact ⟨.clear,rfl,rfl,⟨r,rfl,.inl ⟨by decide,rfl,rfl⟩⟩,Nat.zero_le _⟩
  rw [if_neg q0] at hs
  by_cases q1:p=1
  · rw [if_pos q1] at hs
    have hs:=Option.some.inj hs
    injection hs with hs1 hs2
    subst hs1 hs2 q1
    obtain ⟨a,r1,e1,hn1⟩:=len_cons hn
    subst e1
    obtain ⟨w,r2,e2,hn2⟩:=len_cons hn1
    subst e2
    obtain ⟨t,r3,e3,hn3⟩:=len_cons hn2
    subst e3
    obtain ⟨k,r4,e4,hn4⟩:=len_cons hn3
    subst e4
    have hr:=Option.some.inj hr
    injection hr with h1 h2
    subst h1 h2
    exact ⟨.account a w t k,rfl,rfl,⟨r4,rfl,.inl ⟨by decide,rfl,rfl⟩⟩,Nat.zero_le _⟩
  rw [if_neg q1] at hs
  by_cases q2:p=2
  · rw [if_pos q2] at hs
    have hs:=Option.some.inj hs
    injection hs with hs1 hs2
    subst hs1 hs2 q2
    obtain ⟨b,r1,e1,hn1⟩:=len_cons hn
    subst e1
    obtain ⟨a,r2,e2,hn2⟩:=len_cons hn1
    subst e2
    obtain ⟨d,r3,e3,hn3⟩:=len_cons hn2
    subst e3
    obtain ⟨m,r4,e4,hn4⟩:=len_cons hn3
    subst e4
    obtain ⟨r0,r5,e5,hn5⟩:=len_cons hn4
    subst e5
    have hr:=Option.some.inj hr
    injection hr with h1 h2
    subst h1 h2
    exact ⟨.entry b a d m r0,rfl,rfl,⟨r5,rfl,.inl ⟨by decide,rfl,rfl⟩⟩,Nat.zero_le _⟩
  rw [if_neg q2] at hs
  by_cases q3:p=3
  · rw [if_pos q3] at hs
    have hs:=Option.some.inj hs
    injection hs with hs1 hs2
    subst hs1 hs2 q3
    obtain ⟨i,r1,e1,hn1⟩:=len_cons hn
    subst e1
    have hr:=Option.some.inj hr
    injection hr with h1 h2
    subst h1 h2
    exact ⟨.take i,rfl,rfl,⟨r1,rfl,.inl ⟨by decide,rfl,rfl⟩⟩,Nat.zero_le _⟩
  rw [if_neg q3] at hs
  by_cases q4:p=4
  · rw [if_pos q4] at hs
    have hs:=Option.some.inj hs
    injection hs with hs1 hs2
    subst hs1 hs2 q4
    obtain ⟨p0,r1,e1,hn1⟩:=len_cons hn
    subst e1
    obtain ⟨l,rfl,hrr⟩:=row1_inv hr
    have hrr:r1=((l.length:Nat):Int) :: (l++t):=hrr
    have ha:(VbfuaoNeutral.whole60 p0&&(decide (l.length≤100)&&l.all fun (z:Int)=>VbfuaoNeutral.whole60 z))=true:=ha
    rw [Bool.and_eq_true,Bool.and_eq_true,decide_eq_true_eq] at ha
    exact ⟨.pair p0 l,rfl,rfl,⟨r1,rfl,.inr ⟨rfl,hrr⟩⟩,ha.2.1⟩
  rw [if_neg q4] at hs
  by_cases q5:p=5
  · rw [if_pos q5] at hs
    have hs:=Option.some.inj hs
    injection hs with hs1 hs2
    subst hs1 hs2 q5
    obtain ⟨i,r1,e1,hn1⟩:=len_cons hn
    subst e1
    have hr:=Option.some.inj hr
    injection hr with h1 h2
    subst h1 h2
    exact ⟨.unpair i,rfl,rfl,⟨r1,rfl,.inl ⟨by decide,rfl,rfl⟩⟩,Nat.zero_le _⟩
  rw [if_neg q5] at hs
  by_cases q6:p=6
  · rw [if_pos q6] at hs
    have hs:=Option.some.inj hs
    injection hs with hs1 hs2
    subst hs1 hs2 q6
    obtain ⟨p0,r1,e1,hn1⟩:=len_cons hn
    subst e1
    obtain ⟨a,r2,e2,hn2⟩:=len_cons hn1
    subst e2
    have hr:=Option.some.inj hr
    injection hr with h1 h2
    subst h1 h2
    exact ⟨.byref p0 a,rfl,rfl,⟨r2,rfl,.inl ⟨by decide,rfl,rfl⟩⟩,Nat.zero_le _⟩
  rw [if_neg q6] at hs
  by_cases q7:p=7
  · rw [if_pos q7] at hs
    have hs:=Option.some.inj hs
    injection hs with hs1 hs2
    subst hs1 hs2 q7
    obtain ⟨p0,r1,e1,hn1⟩:=len_cons hn
    subst e1
    obtain ⟨a,r2,e2,hn2⟩:=len_cons hn1
    subst e2
    have hr:=Option.some.inj hr
    injection hr with h1 h2
    subst h1 h2
    exact ⟨.run p0 a,rfl,rfl,⟨r2,rfl,.inl ⟨by decide,rfl,rfl⟩⟩,Nat.zero_le _⟩
  rw [if_neg q7] at hs
  by_cases q8:p=8
  · rw [if_pos q8] at hs
    have hs:=Option.some.inj hs
    injection hs with hs1 hs2
    subst hs1 hs2 q8
    obtain ⟨p0,r1,e1,hn1⟩:=len_cons hn
    subst e1
    obtain ⟨a,r2,e2,hn2⟩:=len_cons hn1
    subst e2
    have hr:=Option.some.inj hr
    injection hr with h1 h2
    subst h1 h2
    exact ⟨.best p0 a,rfl,rfl,⟨r2,rfl,.inl ⟨by decide,rfl,rfl⟩⟩,Nat.zero_le _⟩
  rw [if_neg q8] at hs
  by_cases q9:p=9
  · rw [if_pos q9] at hs
    have hs:=Option.some.inj hs
    injection hs with hs1 hs2
    subst hs1 hs2 q9
    obtain ⟨p0,r1,e1,hn1⟩:=len_cons hn
    subst e1
    obtain ⟨i,r2,e2,hn2⟩:=len_cons hn1
    subst e2
    have hr:=Option.some.inj hr
    injection hr with h1 h2
    subst h1 h2
    exact ⟨.mirror p0 i,rfl,rfl,⟨r2,rfl,.inl ⟨by decide,rfl,rfl⟩⟩,Nat.zero_le _⟩
  rw [if_neg q9] at hs
  by_cases q10:p=10
  · rw [if_pos q10] at hs
    have hs:=Option.some.inj hs
    injection hs with hs1 hs2
    subst hs1 hs2 q10
    obtain ⟨i,r1,e1,hn1⟩:=len_cons hn
    subst e1
    have hr:=Option.some.inj hr
    injection hr with h1 h2
    subst h1 h2
    exact ⟨.tick i,rfl,rfl,⟨r1,rfl,.inl ⟨by decide,rfl,rfl⟩⟩,Nat.zero_le _⟩
  rw [if_neg q10] at hs
  by_cases q11:p=11
  · rw [if_pos q11] at hs
    have hs:=Option.some.inj hs
    injection hs with hs1 hs2
    subst hs1 hs2 q11
    obtain ⟨i,r1,e1,hn1⟩:=len_cons hn
    subst e1
    have hr:=Option.some.inj hr
    injection hr with h1 h2
    subst h1 h2
    exact ⟨.entryAt i,rfl,rfl,⟨r1,rfl,.inl ⟨by decide,rfl,rfl⟩⟩,Nat.zero_le _⟩
  rw [if_neg q11] at hs
  by_cases q12:p=12
  · rw [if_pos q12] at hs
    have hs:=Option.some.inj hs
    injection hs with hs1 hs2
    subst hs1 hs2 q12
    obtain ⟨i,r1,e1,hn1⟩:=len_cons hn
    subst e1
    have hr:=Option.some.inj hr
    injection hr with h1 h2
    subst h1 h2
    exact ⟨.group i,rfl,rfl,⟨r1,rfl,.inl ⟨by decide,rfl,rfl⟩⟩,Nat.zero_le _⟩
  rw [if_neg q12] at hs
  by_cases q13:p=13
  · rw [if_pos q13] at hs
    have hs:=Option.some.inj hs
    injection hs with hs1 hs2
    subst hs1 hs2 q13
    obtain ⟨p0,r1,e1,hn1⟩:=len_cons hn
    subst e1
    obtain ⟨a,r2,e2,hn2⟩:=len_cons hn1
    subst e2
    have hr:=Option.some.inj hr
    injection hr with h1 h2
    subst h1 h2
    exact ⟨.breaks p0 a,rfl,rfl,⟨r2,rfl,.inl ⟨by decide,rfl,rfl⟩⟩,Nat.zero_le _⟩
  rw [if_neg q13] at hs
  by_cases q14:p=14
  · rw [if_pos q14] at hs
    have hs:=Option.some.inj hs
    injection hs with hs1 hs2
    subst hs1 hs2 q14
    obtain ⟨p0,r1,e1,hn1⟩:=len_cons hn
    subst e1
    obtain ⟨a,r2,e2,hn2⟩:=len_cons hn1
    subst e2
    have hr:=Option.some.inj hr
    injection hr with h1 h2
    subst h1 h2
    exact ⟨.balance p0 a,rfl,rfl,⟨r2,rfl,.inl ⟨by decide,rfl,rfl⟩⟩,Nat.zero_le _⟩
  rw [if_neg q14] at hs
  by_cases q15:p=15
  · rw [if_pos q15] at hs
    have hs:=Option.some.inj hs
    injection hs with hs1 hs2
    subst hs1 hs2 q15
    obtain ⟨p0,r1,e1,hn1⟩:=len_cons hn
    subst e1
    obtain ⟨a,r2,e2,hn2⟩:=len_cons hn1
    subst e2
    have hr:=Option.some.inj hr
    injection hr with h1 h2
    subst h1 h2
    exact ⟨.gap p0 a,rfl,rfl,⟨r2,rfl,.inl ⟨by decide,rfl,rfl⟩⟩,Nat.zero_le _⟩
  rw [if_neg q15] at hs
  by_cases q16:p=16
  · rw [if_pos q16] at hs
    have hs:=Option.some.inj hs
    injection hs with hs1 hs2
    subst hs1 hs2 q16
    obtain ⟨p0,r1,e1,hn1⟩:=len_cons hn
    subst e1
    obtain ⟨a,r2,e2,hn2⟩:=len_cons hn1
    subst e2
    obtain ⟨n0,r3,e3,hn3⟩:=len_cons hn2
    subst e3
    have hr:=Option.some.inj hr
    injection hr with h1 h2
    subst h1 h2
    exact ⟨.aged p0 a n0,rfl,rfl,⟨r3,rfl,.inl ⟨by decide,rfl,rfl⟩⟩,Nat.zero_le _⟩
  rw [if_neg q16] at hs
  by_cases q17:p=17
  · rw [if_pos q17] at hs
    have hs:=Option.some.inj hs
    injection hs with hs1 hs2
    subst hs1 hs2 q17
    obtain ⟨p0,r1,e1,hn1⟩:=len_cons hn
    subst e1
    obtain ⟨a,r2,e2,hn2⟩:=len_cons hn1
    subst e2
    have hr:=Option.some.inj hr
    injection hr with h1 h2
    subst h1 h2
    exact ⟨.explain p0 a,rfl,rfl,⟨r2,rfl,.inl ⟨by decide,rfl,rfl⟩⟩,Nat.zero_le _⟩
  rw [if_neg q17] at hs
  by_cases q18:p=18
  · rw [if_pos q18] at hs
    have hs:=Option.some.inj hs
    injection hs with hs1 hs2
    subst hs1 hs2 q18
    have hr:=Option.some.inj hr
    injection hr with h1 h2
    subst h1 h2
    exact ⟨.counts,rfl,rfl,⟨r,rfl,.inl ⟨by decide,rfl,rfl⟩⟩,Nat.zero_le _⟩
  rw [if_neg q18] at hs
  cases hs
theorem hm_at (c0:Vbfuao.Call):atI ([.int 0,.int 4,.int 5,.int 1,.int 1,.int 1,.int 2,.int 2,.int 2,.int 2,.int 1,.int 1,.int 1,.int 2,.int 2,.int 2,.int 3,.int 2,.int 0]:List V) (cnum c0)=some (.int ((cargs c0).length:Nat)):=by
  cases c0 <;> rfl
theorem least_in (R:List Nat):∀ (ps:List Vbfuao.Plan) (p:Vbfuao.Plan),Vbfuao.bestOf R ps p ∈ p :: ps
  | [],p=>List.mem_cons_self
  | q :: ps,p=>by
    show Vbfuao.bestOf R ps (if Vbfuao.better R q p=true then q else p) ∈ _
    have h:=least_in R ps (if Vbfuao.better R q p=true then q else p)
    rcases List.mem_cons.mp h with h | h
    · rw [h]
      split
      · exact List.mem_cons_of_mem _ List.mem_cons_self
      · exact List.mem_cons_self
    · exact List.mem_cons_of_mem _ (List.mem_cons_of_mem _ h)
theorem least_pl {s:State} {x:Vbfuao.Account} {l r:List Nat} (hl:l.Nodup) (hr:r.Nodup):Pl s x l r (Vbfuao.least s x l r).groups:=by
  rcases List.mem_cons.mp (least_in (l++r) (Vbfuao.plans s x l.length l r) (Vbfuao.none_ l r)) with h | h
  · unfold Vbfuao.least
    rw [h]
    exact Pl.none l r
  · exact ((mem_plans l.length l r (Nat.le_refl _) hl hr _).mp h).1
theorem wa_len {s:State} {z:Int} {f:Vbfuao.Account→Nat→State × List Int} (h:∀ x a,(f x a).2.length≤500):(Vbfuao.withAccount s z f).2.length≤500:=by
  unfold Vbfuao.withAccount
  split
  · exact (by decide:(1:Nat)≤500)
  · split
    · exact (by decide:(1:Nat)≤500)
    · exact h _ _
theorem num_len (l:List Nat):(Vbfuao.numbers l).length=l.length:=by unfold Vbfuao.numbers;rw [List.length_map]
theorem step_len {s:State} (W:Wf s) (c:Vbfuao.Call):(Vbfuao.step s c).2.length≤500:=by
  have one:(1:Nat)≤500:=by decide
  have two:(2:Nat)≤500:=by decide
  have b2:=fun p b a=>brk_len W p b a
  cases c with
  | clear=>exact one
  | account a w t k=>unfold Vbfuao.step;dsimp only;split <;> exact one
  | entry b a d m r =>
    unfold Vbfuao.step;dsimp only
    refine wa_len fun x a=>?_
    split
    · exact one
    · split <;> exact one
  | take i =>
    unfold Vbfuao.step;dsimp only
    split
    · exact one
    · split <;> exact one
  | pair p l =>
    unfold Vbfuao.step;dsimp only
    split
    · exact one
    · split
      · exact one
      · split
        · exact one
        · split
          · exact one
          · split
            · exact one
            · split <;> exact one
  | unpair i =>
    unfold Vbfuao.step;dsimp only
    split
    · exact one
    · split <;> exact one
  | byref p a =>
    unfold Vbfuao.step;dsimp only
    refine wa_len fun x a=>?_
    split
    · exact one
    · split <;> exact one
  | run p a =>
    rw [step_run]
    refine wa_len fun x a=>?_
    unfold planF
    split
    · exact one
    · split
      · exact one
      · dsimp only
        split
        · exact one
        · exact two
  | best p a =>
    rw [step_best]
    refine wa_len fun x a=>?_
    unfold planF
    split
    · exact one
    · split
      · exact one
      · exact (by decide:(3:Nat)≤500)
  | mirror p i =>
    unfold Vbfuao.step;dsimp only
    split
    · exact one
    · split
      · exact one
      · split
        · exact one
        · split
          · exact one
          · exact two
  | tick i =>
    unfold Vbfuao.step;dsimp only
    split
    · exact one
    · split <;> exact one
  | entryAt i =>
    unfold Vbfuao.step;dsimp only
    split
    · exact one
    · exact (by decide:(8:Nat)≤500)
  | group z =>
    by_cases h:holdAt s z=none
    · rw [step_group_none h];exact one
    · obtain ⟨j,hj⟩:=Option.ne_none_iff_exists'.mp h
      obtain ⟨_,x,hx,_⟩:=holdAt_of hj
      rw [step_group_some hj hx]
      have:=mem_len W hx
      show (_++_:List Int).length≤500
      rw [List.length_append,num_len,List.length_append]
      show 4 + _≤500
      omega
  | breaks p a =>
    unfold Vbfuao.step;dsimp only
    refine wa_len fun x a=>?_
    split
    · exact one
    · have h1:=b2 p.toNat (Vbfuao.leftBook p.toNat) a
      have h2:=b2 p.toNat (Vbfuao.rightBook p.toNat) a
      show (Vbfuao.numbers _).length + 1 + 1≤500
      rw [num_len,List.length_append]
      dsimp only [Vbfuao.openBoth]
      omega
  | balance p a =>
    unfold Vbfuao.step;dsimp only
    refine wa_len fun x a=>?_
    split
    · exact one
    · exact two
  | gap p a =>
    unfold Vbfuao.step;dsimp only
    refine wa_len fun x a=>?_
    split
    · exact one
    · exact (by decide:(4:Nat)≤500)
  | aged p a n =>
    unfold Vbfuao.step;dsimp only
    refine wa_len fun x a=>?_
    split
    · exact one
    · have h1:=b2 p.toNat (Vbfuao.leftBook p.toNat) a
      have h2:=b2 p.toNat (Vbfuao.rightBook p.toNat) a
      show (Vbfuao.numbers _).length + 1≤500
      rw [num_len]
      refine Nat.succ_le_of_lt (Nat.lt_of_le_of_lt (List.length_filter_le _ _) ?_)
      rw [List.length_append]
      dsimp only [Vbfuao.openBoth]
      omega
  | explain p a =>
    rw [step_explain]
    refine wa_len fun x a=>?_
    unfold planF
    split
    · exact one
    · split
      · exact one
      · rename_i h5
        have nl:=breaks_nodup s p.toNat (Vbfuao.leftBook p.toNat) a
        have nr:=breaks_nodup s p.toNat (Vbfuao.rightBook p.toNat) a
        have hp:=least_pl (s:=s) (x:=x) nl nr
        have l5:(lefts s p.toNat a).length≤5:=by omega
        have r5:(rights s p.toNat a).length≤5:=by omega
        have t:=tellG_len _ (hp.small nl nr l5 r5)
        have g5:=hp.len
        unfold lefts rights at *
        show (List.flatMap _ _).length + 1≤500
        omega
  | counts=>exact (by decide:(5:Nat)≤500)
end TB
namespace TB
open PySem PySem.Spec PyProof.Rows L2
def Wr (s:State):Prop:=∀ x ∈ s.groups,x.right≠[]
theorem Wr.start:Wr Vbfuao.start:=fun x hx=>(nomatch hx)
theorem Wr.wg {s:State} (h:Wr s) {p a:Nat} {gs:List Grp} (hg:∀ g ∈ gs,g.2≠[]):Wr (Vbfuao.withGroups s p a gs):=fun x hx=>by
  have hx:x ∈ s.groups++gs.map (mkG p a):=hx
  rcases List.mem_append.mp hx with z | z
  · exact h x z
  · obtain ⟨g,hg',rfl⟩:=List.mem_map.mp z
    exact hg g hg'
theorem Wr.wa {s:State} (h:Wr s) {z:Int} {f:Vbfuao.Account→Nat→State × List Int} (hf:∀ x a,Wr (f x a).1):Wr (Vbfuao.withAccount s z f).1:=by
  unfold Vbfuao.withAccount
  split
  · exact h
  · split
    · exact h
    · exact hf _ _
theorem Pl.rights {s:State} {x:Vbfuao.Account} {l r:List Nat} {gs:List Grp} (h:Pl s x l r gs):∀ g ∈ gs,g.2≠[]:=by
  induction h with
  | nil r=>intro g hg;cases hg
  | skip _ ih=>exact ih
  | grp _ _ _ _ hf _ ih =>
    intro g hg
    rcases List.mem_cons.mp hg with rfl | hg
    · exact (fits_size hf).2.2.2
    · exact ih g hg
theorem Wr.step {s:State} (h:Wr s) (c:Vbfuao.Call):Wr (Vbfuao.step s c).1:=by
  cases c with
  | clear=>exact Wr.start
  | account a w t k=>unfold Vbfuao.step;dsimp only;split <;> exact h
  | entry b a d m r =>
    unfold Vbfuao.step;dsimp only
    refine h.wa fun x a=>?_
    split
    · exact h
    · split <;> exact h
  | take i =>
    unfold Vbfuao.step;dsimp only
    split
    · exact h
    · split <;> exact h
  | pair p l =>
    unfold Vbfuao.step;dsimp only
    split
    · exact h
    · split
      · exact h
      · split
        · exact h
        · rename_i hne
          split
          · exact h
          · split
            · exact h
            · split
              · exact h
              · intro y hy
                have hy:=List.mem_append.mp hy
                rcases hy with z | z
                · exact h y z
                · rw [List.mem_singleton.mp z]
                  exact fun q=>hne (.inr (by rw [q];rfl))
  | unpair i =>
    unfold Vbfuao.step;dsimp only
    split
    · exact h
    · rename_i x hx
      split
      · exact h
      · intro y hy
        rcases List.mem_or_eq_of_mem_set hy with z | z
        · exact h y z
        · rw [z]
          have:x ∈ s.groups:=by
            split at hx
            · cases hx
            · exact List.mem_of_getElem? hx
          exact h x this
  | byref p a =>
    unfold Vbfuao.step;dsimp only
    refine h.wa fun x a=>?_
    split
    · exact h
    · split
      · exact h
      · refine h.wg fun g hg=>?_
        rw [byRef_mt] at hg
        obtain ⟨q,_,rfl⟩:=List.mem_map.mp hg
        simp [sing]
  | run p a =>
    rw [step_run]
    refine h.wa fun x a=>?_
    unfold planF
    split
    · exact h
    · split
      · exact h
      · dsimp only
        split
        · exact h
        · exact h.wg (least_pl (breaks_nodup s p.toNat _ a) (breaks_nodup s p.toNat _ a)).rights
  | best p a =>
    rw [step_best]
    refine h.wa fun x a=>?_
    unfold planF
    split
    · exact h
    · split <;> exact h
  | mirror p i =>
    unfold Vbfuao.step;dsimp only
    split
    · exact h
    · split
      · exact h
      · split
        · exact h
        · split
          · exact h
          · intro y hy
            have hy:=List.mem_append.mp hy
            rcases hy with z | z
            · exact h y z
            · rw [List.mem_singleton.mp z];simp
  | tick i =>
    unfold Vbfuao.step;dsimp only
    split
    · exact h
    · split <;> exact h
  | entryAt i =>
    unfold Vbfuao.step;dsimp only
    split <;> exact h
  | group z =>
    unfold Vbfuao.step;dsimp only
    split
    · exact h
    · split <;> exact h
  | breaks p a =>
    unfold Vbfuao.step;dsimp only
    refine h.wa fun x a=>?_
    split <;> exact h
  | balance p a =>
    unfold Vbfuao.step;dsimp only
    refine h.wa fun x a=>?_
    split <;> exact h
  | gap p a =>
    unfold Vbfuao.step;dsimp only
    refine h.wa fun x a=>?_
    split <;> exact h
  | aged p a n =>
    unfold Vbfuao.step;dsimp only
    refine h.wa fun x a=>?_
    split <;> exact h
  | explain p a =>
    rw [step_explain]
    refine h.wa fun x a=>?_
    unfold planF
    split
    · exact h
    · split <;> exact h
  | counts=>exact h
section
variable {K:PySem.W.Frag} {mg:Str→Option Value}
theorem Rep.putI {T:Txt K mg} {H:Hp} {g:Gh} {s:State} (r:Rep T H g s) (hw:Wr s) {tl:Addr} {ns:List Int} {u:HO} (e:H tl=some (.lst (ns.map V.int))) (n : ¬ own g tl):Rep T (upd H tl u) g s:=by
  have m:Sx (fun b=>b=tl) H (upd H tl u):=Sx.put rfl e
  have k:∀ {b:Addr} {o:HO},own g b→H b=some o→upd H tl u b=some o:=fun {b o} hb h=>by rw [upd_ne (fun z=>n (by rw [← z];exact hb))];exact h
  have ki:∀ {b C dx:Addr} {fs:List (Str × V)},H b=some (.ins C dx fs)→upd H tl u b=some (.ins C dx fs):=fun {b C dx fs} h=>by rw [upd_ne (fun z=>by rw [z,e] at h;cases h)];exact h
  have oe:∀ {i:Nat} {a:Addr},g.es[i]? = some a→own g a:=fun h=>.inr (.inr (.inr (.inr (.inl (List.mem_of_getElem? h)))))
  have oi:∀ {i:Nat} {a:Addr},g.igs[i]? = some a→own g a:=fun h=>.inr (.inr (.inr (.inr (.inr (.inl (List.mem_of_getElem? h))))))
  have sd:∀ {L:Addr} {ps:List Nat},SideAt H g L ps→ps≠[]→SideAt (upd H tl u) g L ps:=fun {L ps} h hne=>by
    refine ⟨?_,h.nE,h.nG,h.nI⟩
    rw [upd_ne (fun z=>?_)]
    · exact h.at_
    · have h2:=h.at_
      rw [z,e] at h2
      have h3:ns.map V.int=g.rfs ps:=by injection (Option.some.inj h2)
      cases ps with
      | nil=>exact hne rfl
      | cons j ps =>
        cases ns with
        | nil=>cases h3
        | cons a ns=>injection h3 with h4 _;cases h4
  refine { r with tab:=m.tab r.tab,fund:=?_,acc:=?_,ents:=k (.inr (.inr (.inl rfl))) r.ents,grps:=k (.inr (.inr (.inr (.inl rfl)))) r.grps,ent:=?_,grp:=?_ }
  · obtain ⟨dx,h⟩:=r.fund;exact ⟨dx,ki h⟩
  · obtain ⟨kvs,h,hl,hv⟩:=r.acc
    refine ⟨kvs,k (.inr (.inl rfl)) h,hl,fun z=>?_⟩
    have q:=hv z
    unfold AccIs at q ⊢
    split at q
    · exact trivial
    · obtain ⟨dx,e⟩:=q;exact ⟨dx,ki e⟩
    · exact q
  · intro i x a ig h1 h2 h3
    obtain ⟨⟨dx,e1⟩,e2⟩:=r.ent i x a ig h1 h2 h3
    exact ⟨⟨dx,ki e1⟩,k (oi h3) e2⟩
  · intro j x a h1 h2
    obtain ⟨dx,L,R,e1,e2,e3⟩:=r.grp j x a h1 h2
    exact ⟨dx,L,R,ki e1,sd e2 (r.wf.pair j x h1).2.1,sd e3 (hw x (List.mem_of_getElem? h1))⟩
end
end TB
namespace TB
open PySem PySem.Spec PyProof.Rows L2
open PySem.W (Codec)
section
variable {P:Program} {w:World} {K:PySem.W.Frag} {mg:Str→Option Value} {base:Heap}
theorem cut2 (xs:List V) {a b:Nat} (ha:a≤xs.length) (hb:b≤xs.length):cutV xs (some (a:Int)) (some (b:Int))=(xs.drop a).take (b - a):=by
  unfold cutV
  rw [HT.sIx_nat,HT.sIx_nat,Nat.min_eq_left ha,Nat.min_eq_left hb]
theorem cutI {zs pre mid post:List Int} {lo hi:Int} (hz:zs=pre++(mid++post)) (hlo:lo=((pre.length:Nat):Int)) (hhi:hi=((pre.length + mid.length:Nat):Int)):cutV (zs.map V.int) (some lo) (some hi)=mid.map V.int:=by
  subst hz hlo hhi
  rw [cut2 _ (by rw [List.length_map,List.length_append];omega) (by rw [List.length_map,List.length_append,List.length_append];omega),Nat.add_sub_cancel_left,List.map_append,List.drop_append_of_le_length (by rw [List.length_map];exact Nat.le_refl _),List.drop_of_length_le (by rw [List.length_map];exact Nat.le_refl _),List.nil_append,List.map_append,List.take_append_of_le_length (by rw [List.length_map];exact Nat.le_refl _),List.take_of_length_le (by rw [List.length_map];exact Nat.le_refl _)]
theorem atZ {zs pre post:List Int} {x i:Int} (hz:zs=pre++x :: post) (hi:i=((pre.length:Nat):Int)):atI (zs.map V.int) i=some (.int x):=by
  subst hz hi
  refine atI_nat ?_
  rw [List.getElem?_map,List.getElem?_append_right (Nat.le_refl _),Nat.sub_self];rfl
theorem played_cons {s:State} {c:List (List Int)} {cs:List (List (List Int))} {c0:Vbfuao.Call} (h:VbfuaoNeutral.callOf c=some c0):PyFlat.told (PyFlat.played VbfuaoNeutral.step s (c :: cs))=(((Vbfuao.step s c0).2.length:Nat):Int) :: ((Vbfuao.step s c0).2++PyFlat.told (PyFlat.played VbfuaoNeutral.step (Vbfuao.step s c0).1 cs)):=by
  have e:VbfuaoNeutral.step s c=Vbfuao.step s c0:=by unfold VbfuaoNeutral.step;rw [h]
  show PyFlat.told ((VbfuaoNeutral.step s c).2 :: PyFlat.played VbfuaoNeutral.step (VbfuaoNeutral.step s c).1 cs)=_
  rw [e]
  unfold PyFlat.told
  rw [List.flatMap_cons];rfl
theorem calls_cons {f:Nat} {p:Int} {r:List Int} {cs:List (List (List Int))} (h:PyFlat.calls PyVbfuao.shape f (p :: r)=some cs):∃ c t f' cs',cs=c :: cs'∧PyFlat.call PyVbfuao.shape (p :: r)=some (c,t)∧PyFlat.calls PyVbfuao.shape f' t=some cs':=by
  cases f with
  | zero=>unfold PyFlat.calls at h;cases h
  | succ f =>
    unfold PyFlat.calls at h
    cases hc:PyFlat.call PyVbfuao.shape (p :: r) with
    | none=>rw [hc] at h;cases h
    | some ct =>
      obtain ⟨c,t⟩:=ct
      rw [hc] at h
      dsimp only at h
      cases hs:PyFlat.calls PyVbfuao.shape f t with
      | none=>rw [hs] at h;cases h
      | some cs' =>
        rw [hs] at h
        exact ⟨c,t,f,cs',(Option.some.inj h).symm,rfl,hs⟩
theorem calls_nil {f:Nat} {cs:List (List (List Int))} (h:PyFlat.calls PyVbfuao.shape f []=some cs):cs=[]:=by
  cases f <;> (unfold PyFlat.calls at h;exact (Option.some.inj h).symm)
theorem sz7 {n:Nat} (h:n≤1000000):n < sizeLine:=Nat.lt_of_le_of_lt h (by decide)
def sp_answers (T:Txt K mg):Sp:=fun vs H Q _=>∃ (l:Addr) (zs:List Int),vs=[.ref l]∧SqL K H l (zs.map V.int)∧TabOk H∧PyVbfuao.answers_asked zs=true ∧
  ∀ H' d,Sm H H'→H' d=some (.lst ((PyVbfuao.answers zs).map V.int))→Q (.ref d) H'
structure LoopAt (T:Txt K mg) (H H':Hp) (zs:List Int) (goal:List Int) (m:Nat) (z:Int) (g:Gh) (tl:Addr):Prop where
  ex:∃ (pre t:List Int) (S:State) (cs:List (List (List Int))) (f:Nat) (ns:List Int),zs=pre++t∧z=((pre.length:Nat):Int)∧m=cs.length∧PyFlat.calls PyVbfuao.shape f t=some cs∧(cs.map PyVbfuao.whole).all VbfuaoNeutral.asked1=true∧ns.length + 501 * cs.length≤501 * 400∧Rep T H' g S∧Wr S∧H' tl=some (.lst (ns.map V.int))∧goal=ns++PyFlat.told (PyFlat.played VbfuaoNeutral.step S (cs.map PyVbfuao.whole))
  sm:Sm H H'
  ow:∀ b,own g b→H b=none
  nt : ¬ own g tl
  ft:H tl=none
theorem loop_next {T : Txt K mg} {H H3 H5 : Hp} {zs goal ns pre t : List Int} {cs : List (List (List Int))} {f : Nat} {S : State} {c0 : Vbfuao.Call} {g g5 : Gh} {tl : Addr} {z : Int} (sm3 : Sm H H3) (ow : ∀ b, own g b → H b = none) (nt : ¬ own g tl) (ft : H tl = none) (etl : H3 tl = some (.lst (ns.map V.int)))
    (R5:Rep T H5 g5 (Vbfuao.step S c0).1) (hwr:Wr S) (mv:Mv g g5 H3 H5) (hz:zs=pre++t) (hzz:z=((pre.length:Nat):Int)) (hcs:PyFlat.calls PyVbfuao.shape f t=some cs) (hall:(cs.map PyVbfuao.whole).all VbfuaoNeutral.asked1=true) (hln:ns.length + 501 * (cs.length + 1)≤501 * 400) (slen:(Vbfuao.step S c0).2.length≤500)
    (hgoal:goal=ns++((((Vbfuao.step S c0).2.length:Nat):Int) :: ((Vbfuao.step S c0).2++PyFlat.told (PyFlat.played VbfuaoNeutral.step (Vbfuao.step S c0).1 (cs.map PyVbfuao.whole))))) :
    LoopAt T H (upd (upd H5 tl (.lst (ns.map V.int++[.int ((Vbfuao.step S c0).2.length:Nat)]))) tl (.lst ((ns.map V.int++[.int ((Vbfuao.step S c0).2.length:Nat)])++(Vbfuao.step S c0).2.map V.int))) zs goal cs.length z g5 tl:=by
  have e5:=mv.get nt etl
  have nt5:=mv.nown nt etl
  have sm5:Sm H H5:=Sx.fresh sm3 mv.sx ow
  rw [upd_upd]
  have el:(ns.map V.int++[.int ((Vbfuao.step S c0).2.length:Nat)])++(Vbfuao.step S c0).2.map V.int=(ns++[(((Vbfuao.step S c0).2.length:Nat):Int)]++(Vbfuao.step S c0).2).map V.int:=by
    rw [List.map_append,List.map_append];rfl
  rw [el]
  refine ⟨⟨pre,t,_,cs,f,ns++[(((Vbfuao.step S c0).2.length:Nat):Int)]++(Vbfuao.step S c0).2,hz,hzz,rfl,hcs,hall,?_,R5.putI (hwr.step c0) e5 nt5,hwr.step c0,upd_same,?_⟩,sm5.put_new ft e5,fun b hb=>(mv.gr b hb).elim (ow b) fun z=>sm3.free _ z,nt5,ft⟩
  · rw [List.length_append,List.length_append,List.length_singleton];omega
  · rw [hgoal];simp
theorem ok_answers (T:Txt K mg):FnOk P w K mg base CX0 66 T.f_answers.f T.f_answers.fd ["calls"] (sp_answers T):=by
  have G_answer:=ok_answer (P:=P) (w:=w) (base:=base) T
  have G_Fund_init:=ok_Fund_init (P:=P) (w:=w) (base:=base) T
  refine T.f_answers.F.ok sc_answers (fun vs H Q E h=>?_) (fun cdv A outer s H vs Q E hr h=>?_)
  · obtain ⟨_,_,rfl,_⟩:=h;rfl
  · obtain ⟨l,zs,rfl,hq,ht,hask,k⟩:=h
    refine ⟨_,(pss_cons (ps_set (i:=1) sc_answers.nd rfl (Or.inl rfl) (pe_make0 T.mk_Fund G_Fund_init (hr.mono (by decide)) rfl T.mg_Fund T.f_Fund_init.b .nil pass0))
      (pss_cons (ps_set (i:=2) sc_answers.nd rfl (Or.inl rfl) (pe_lst pa_nil))
      (pss_cons (ps_set (i:=3) sc_answers.nd rfl (Or.inl rfl) pe_int)
      (pss_cons (ps_while PassesOwn.never (pt_cmpR op_lt (pv 3) (pe_callB call_len_seq rfl T.n_len PySem.boot_len (pa_cons (pv 0) pa_nil)) (nomark _)) (pss_cons (ps_set (i:=4) sc_answers.nd rfl (Or.inl rfl) (pe_ix ix_list (pv 0) (pv 3) (fun _ _=>rfl)))
      (pss_cons (ps_set (i:=5) sc_answers.nd rfl (Or.inl rfl) (pe_op op_add (pe_op op_add (pv 3) pe_int) (pe_ix ix_tup (pe_gref rfl T.g_HOW_MANY) (pv 4) (fun _ _=>rfl))))
      (pss_cons (ps_set (i:=6) sc_answers.nd rfl (Or.inl rfl) (pe_slice sl_list (pv 0) (po_some (pe_op op_add (pv 3) pe_int)) (po_some (pv 5))))
      (pss_cons (ps_set (i:=7) sc_answers.nd rfl (Or.inl rfl) (pe_lst pa_nil))
      (pss_cons (ps_if (pt_cmpR op_eq (pv 4) (pe_gint rfl T.g_PAIR) (nomark _)) (pss_cons (ps_set (i:=8) sc_answers.nd rfl (Or.inl rfl) (pe_op op_add (pv 5) pe_int))
      (pss_cons (ps_set (i:=5) sc_answers.nd rfl (Or.inl rfl) (pe_op op_add (pv 8) (pe_ix ix_list (pv 0) (pv 5) (fun _ _=>rfl))))
      (pss_one (ps_set (i:=7) sc_answers.nd rfl (Or.inl rfl) (pe_slice sl_list (pv 0) (po_some (pv 8)) (po_some (pv 5))))))) pss_nil)
      (pss_cons (ps_set (i:=9) sc_answers.nd rfl (Or.inl rfl) (pe_call G_answer (hr.mono (by decide)) rfl T.m_answer T.f_answer.kp T.f_answer.b .nil pass0 (pa_cons (pv 1) (pa_cons (pv 4) (pa_cons (pv 6) (pa_cons (pv 7) pa_nil))))))
      (pss_cons (ps_expr (pe_bm PySem.F.plainAttrs_list PySem.F.slot_list_append PySem.F.type_list_append mt_append (pv 2) (pa_cons (pe_callB call_len_seq rfl T.n_len PySem.boot_len (pa_cons (pv 9) pa_nil)) pa_nil)))
      (pss_cons (ps_expr (pe_bm PySem.F.plainAttrs_list PySem.F.slot_list_extend PySem.F.type_list_extend mt_extend (pv 2) (pa_cons (pv 9) pa_nil)))
      (pss_one (ps_set (i:=3) sc_answers.nd rfl (Or.inl rfl) (pv 5))))))))))))
      (pss_one (ps_ret (pv 2))))))),?_⟩
    unfold PyVbfuao.answers_asked at hask
    unfold PyVbfuao.answers at k
    cases hc:PyVbfuao.calls zs with
    | none=>rw [hc] at hask;cases hask
    | some cs0 =>
      rw [hc] at hask k
      dsimp only at hask k
      unfold PyVbfuao.calls at hc
      cases hcs:PyFlat.calls PyVbfuao.shape zs.length zs with
      | none=>rw [hcs] at hc;cases hc
      | some cs =>
        rw [hcs] at hc
        obtain rfl:cs.map PyVbfuao.whole=cs0:=Option.some.inj hc
        rw [Bool.and_eq_true] at hask
        obtain ⟨hask0,hask⟩:=hask
        have l400:cs.length≤400:=by
          have:=of_decide_eq_true hask0
          rwa [List.length_map] at this
        unfold VbfuaoNeutral.asked at hask
        rw [Bool.and_eq_true] at hask
        have hall:=hask.1
        generalize hgoal:PyFlat.told (PyFlat.played VbfuaoNeutral.step VbfuaoNeutral.start (cs.map PyVbfuao.whole))=goal at k
        intro F dx nF ndx nne
        have c1:Sm H (upd H dx (.own F)):=Sx.new ndx
        have c2:=c1.trans (Sx.new (a:=F) (o:=.ins T.c_Fund dx []) (by rw [upd_ne (Ne.symm nne)];exact nF))
        refine ⟨F,dx,rfl,c2.tab ht,upd_same,fun H1 g R1 eF m1 ow1=>⟨rfl,?_⟩⟩
        have m01:Sm H H1:=Sx.fresh c2 m1 fun c z=>by rw [z];exact nF
        have ow:∀ b,own g b→H b=none:=fun b hb=>(ow1 b hb).elim (fun z=>by rw [z];exact nF) fun z=>c2.free _ z
        refine ⟨small_list,fun tl htl=>?_⟩
        have m2:Sm H1 (upd H1 tl (.lst [])):=Sx.new htl
        refine ⟨fun m σ H'=>∃ z g tl v4 v5 v6 v7 v8 v9,σ = [some (.ref l),some (.ref g.F),some (.ref tl),some (.int z),v4,v5,v6,v7,v8,v9]∧LoopAt T H H' zs goal m z g tl,
          ⟨cs.length,0,g,tl,none,none,none,none,none,none,by rw [eF];rfl,⟨⟨[],zs,Vbfuao.start,cs,zs.length,[],rfl,rfl,rfl,hcs,hall,by show 0 + _≤_;omega,R1.keep m2,Wr.start,by rw [upd_same];rfl,hgoal.symm⟩,m01.trans m2,ow,fun z=>by have:=ow tl z;exact fresh_nown R1 htl z,m01.free _ htl⟩⟩,?_⟩
        clear hcs hall hgoal R1 ow1 m1 eF
        rintro m σ H' ⟨z,g,tl,v4,v5,v6,v7,v8,v9,rfl,⟨pre,t,S,cs',f,ns,hz,hzz,hm,hcs,hall,hln,R,hwr,etl,hgoal⟩,sm,ow',nt,ft⟩
        have hqH:=sm.sq hq
        refine (Ze rfl (Ze rfl ⟨_,_,rfl,.inl hqH,(Zo rfl rfl (Ze rfl ?_))⟩))
        rw [List.length_map]
        cases t with
        | nil =>
          have hlz:zs.length=pre.length:=by rw [hz,List.append_nil]
          rw [decide_eq_false (by omega)]
          refine iteF (Ze rfl ?_)
          have hc0:=calls_nil hcs
          rw [hc0] at hgoal
          have eg:goal=ns:=by rw [hgoal];exact List.append_nil _
          rw [← eg] at etl
          exact k H' tl sm etl
        | cons p r =>
          have hlz:zs.length=pre.length + (r.length + 1):=by rw [hz,List.length_append,List.length_cons]
          rw [decide_eq_true (by omega)]
          refine iteT ?_
          obtain ⟨c,t',f',cs2,rfl,hcall,hcs2⟩:=calls_cons hcs
          rw [List.map_cons,List.all_cons,Bool.and_eq_true] at hall
          obtain ⟨c0,O⟩:=one_call hcall hall.1
          obtain ⟨r1,hr1,hrow⟩:=O.args
          have hpn:=O.pn
          rw [List.map_cons,played_cons O.of] at hgoal
          have slen:=step_len R.wf c0
          refine ⟨fun σ' H''=>∃ m',m' < m∧∃ z g tl v4 v5 v6 v7 v8 v9,σ'=[some (.ref l),some (.ref g.F),some (.ref tl),some (.int z),v4,v5,v6,v7,v8,v9]∧LoopAt T H H'' zs goal m' z g tl,fun σ' H'' h=>h,?_⟩
          refine (Ze rfl (Ze rfl ⟨_,_,_,_,rfl,rfl,hqH,atZ hz hzz,?_⟩))
          refine (Ze rfl (Zo rfl rfl (Ze rfl ⟨_,_,_,_,rfl,rfl,T.hm _,by rw [hpn];exact hm_at c0,(Zo rfl rfl ?_)⟩)))
          refine (Ze rfl (Ze rfl (Zo rfl rfl (Ze rfl (Ze rfl (Ze rfl ⟨l,Ze rfl ⟨hqH,fun gv hgv=>?_⟩⟩))))))
          have hz1:zs=(pre++[p])++(cargs c0++r1):=by rw [hz,hr1,List.append_assoc];rfl
          rw [cutI (pre:=pre++[p]) (mid:=cargs c0) (post:=r1) hz1 (by rw [List.length_append,List.length_singleton];omega) (by rw [List.length_append,List.length_singleton];omega)]
          have a1:Sm H' (upd H' gv (.lst ((cargs c0).map V.int))):=Sx.new hgv
          refine ⟨small_list,fun rw0 hrw0=>?_⟩
          have a2:Sm (upd H' gv (.lst ((cargs c0).map V.int))) (upd (upd H' gv (.lst ((cargs c0).map V.int))) rw0 (.lst [])):=Sx.new hrw0
          have a12:=a1.trans a2
          have eg2:=a2.get upd_same
          refine (Ze rfl ⟨rfl,Ze rfl ?_⟩)
          have hm':cs2.length < m:=by rw [hm,List.length_cons];omega
          have hln':ns.length + 501 * (cs2.length + 1)≤501 * 400:=by rw [List.length_cons] at hln;exact hln
          rcases hrow with ⟨p4,hcr,rfl⟩ | ⟨p4,hr1'⟩
          · refine neI p4 ?_
            have R3:=R.keep a12
            refine (Ze rfl (Ze rfl (Ze rfl (Ze rfl ⟨g,S,c0,gv,rw0,by rw [hpn];rfl,R3,eg2,by rw [hcr];exact upd_same,O.len,fun H5 g5 d R5 mv eF5 nd ed nown=>?_⟩))))
            have etl3:=a12.get etl
            have e5:=mv.get nt etl3
            have ndtl:d≠tl:=fun q=>by rw [q,etl3] at nd;cases nd
            refine (Ze rfl ⟨Or.inl ⟨rfl,_,SqL.of e5⟩,Ze rfl ⟨_,_,rfl,.inl (SqL.of ed),tl,(Zo rfl rfl ⟨e5,by rw [List.length_map];exact sz7 (by omega),?_⟩)⟩⟩)
            rw [List.length_map]
            refine (Ze rfl ⟨Or.inl ⟨rfl,_,SqL.of upd_same⟩,Ze rfl ⟨tl,d,Zo rfl rfl ⟨upd_same,by rw [upd_ne ndtl];exact ed,by rw [List.length_append,List.length_map,List.length_map,List.length_singleton];exact Nat.le_of_lt (sz7 (by omega)),?_⟩⟩⟩)
            refine (Ze rfl ⟨cs2.length,hm',_,g5,tl,_,_,_,_,_,_,by rw [eF5];rfl,loop_next (sm.trans a12) ow' nt ft etl3 R5 hwr mv (pre:=pre++[p]++cargs c0) (t:=t') (by rw [hz1];simp only [List.append_assoc]) ?_ hcs2 hall.2 hln' slen hgoal⟩)
            rw [List.length_append,List.length_append,List.length_singleton];omega
          · subst p4
            refine eqI ?_
            refine (Ze rfl (Zo rfl rfl ?_))
            have hz2:zs=(pre++[4]++cargs c0)++(((crow c0).length:Nat):Int) :: (crow c0++t'):=by rw [hz1,hr1'];simp only [List.append_assoc]
            have hz3:zs=(pre++[4]++cargs c0++[(((crow c0).length:Nat):Int)])++(crow c0++t'):=by rw [hz2];simp
            refine (Ze rfl (Ze rfl (Ze rfl ⟨_,_,_,_,rfl,rfl,a12.sq hqH,atZ hz2 (by rw [List.length_append,List.length_append,List.length_singleton];omega),(Zo rfl rfl ?_)⟩)))
            refine (Ze rfl (Ze rfl (Ze rfl (Ze rfl (Ze rfl ⟨l,Ze rfl ⟨a12.sq hqH,fun rw1 hrw1=>?_⟩⟩)))))
            rw [cutI (mid:=crow c0) (post:=t') hz3 (by rw [List.length_append,List.length_append,List.length_append,List.length_singleton,List.length_singleton];omega) (by rw [List.length_append,List.length_append,List.length_append,List.length_singleton,List.length_singleton];omega)]
            have a3:Sm (upd (upd H' gv (.lst ((cargs c0).map V.int))) rw0 (.lst [])) (upd (upd (upd H' gv (.lst ((cargs c0).map V.int))) rw0 (.lst [])) rw1 (.lst ((crow c0).map V.int))):=Sx.new hrw1
            have a13:=a12.trans a3
            have R3:=R.keep a13
            refine (Ze rfl (Ze rfl (Ze rfl (Ze rfl ⟨g,S,c0,gv,rw1,by rw [← hpn];rfl,R3,a3.get eg2,upd_same,O.len,fun H5 g5 d R5 mv eF5 nd ed nown=>?_⟩))))
            have etl3:=a13.get etl
            have e5:=mv.get nt etl3
            have ndtl:d≠tl:=fun q=>by rw [q,etl3] at nd;cases nd
            refine (Ze rfl ⟨Or.inl ⟨rfl,_,SqL.of e5⟩,Ze rfl ⟨_,_,rfl,.inl (SqL.of ed),tl,(Zo rfl rfl ⟨e5,by rw [List.length_map];exact sz7 (by omega),?_⟩)⟩⟩)
            rw [List.length_map]
            refine (Ze rfl ⟨Or.inl ⟨rfl,_,SqL.of upd_same⟩,Ze rfl ⟨tl,d,Zo rfl rfl ⟨upd_same,by rw [upd_ne ndtl];exact ed,by rw [List.length_append,List.length_map,List.length_map,List.length_singleton];exact Nat.le_of_lt (sz7 (by omega)),?_⟩⟩⟩)
            refine (Ze rfl ⟨cs2.length,hm',_,g5,tl,_,_,_,_,_,_,by rw [eF5];rfl,loop_next (sm.trans a13) ow' nt ft etl3 R5 hwr mv (pre:=pre++[4]++cargs c0++[(((crow c0).length:Nat):Int)]++crow c0) (t:=t') (by rw [hz3,List.append_assoc _ (crow c0)]) ?_ hcs2 hall.2 hln' slen hgoal⟩)
            rw [List.length_append,List.length_append,List.length_append,List.length_append,List.length_singleton,List.length_singleton];omega
end
end TB
namespace TB
open PySem PySem.Spec PyProof.Rows L2
open PySem.W (Codec)
section
variable {K:PySem.W.Frag} {h:Heap} {mg:Str→Option Value} {x qual:Str} {st:Stmt} {ps:List Str} {f C:Addr} {oc kV doc pm cd ct:Value} {od an:Option Addr} {sl:Array (Option Value)}
def BindsPs (x qual:Str) (st:Stmt) (ps:List Str):Prop:=∀ (kV doc pm:Value) (an:Option Addr) (cd ct:Value) (us:List Value),us.length=ps.length→bindArgs (PySem.W.fnOf x qual (defArgs st) (defBody st) (defScope st) .none kV doc pm an cd ct) ⟨us,[]⟩=pure (ps.zip us)
theorem ex_top (KX:K.In h) (G:h.Ns mainGlobals mg) (x:Str) (st:Stmt) (ps:List Str) (hb:BindsPs x x st ps) (a:PySem.W.nsIn K mainGlobals x=some (some (.ref f))) (l:K.lookup f=some ⟨oc,od,.func (PySem.W.fnOf x x (defArgs st) (defBody st) (defScope st) .none kV doc pm an cd ct),sl⟩) (c:PySem.W.codeIn K cd x=true) (k:PySem.W.keepIn K (.ref f)=true):∃ F:FnT K x x st ps,mg x=some (.ref F.f) :=
  ⟨⟨f,_,fun_mk l c k,(fun_mk l c k).binds hb,k⟩,PySem.W.mg_of KX G a⟩
theorem ex_meth (C:Addr) (x qual:Str) (st:Stmt) (ps:List Str) (hb:BindsPs x qual st ps) (a:PySem.W.findIn K (.ref C) x=some (some (.ref f))) (i:PySem.W.isFn K (.ref f)=true) (l:K.lookup f=some ⟨oc,od,.func (PySem.W.fnOf x qual (defArgs st) (defBody st) (defScope st) .none kV doc pm an cd ct),sl⟩) (c:PySem.W.codeIn K cd qual=true) (k:PySem.W.keepIn K (.ref f)=true):∃ F:FnT K x qual st ps,Meth K C x F.f∧F.fd.code=cd :=
  ⟨⟨f,_,fun_mk l c k,(fun_mk l c k).binds hb,k⟩,⟨a,i,k⟩,rfl⟩
theorem na_of (a:PySem.W.findIn K (.ref C) x=some none):NoAttr K C x:=a
theorem cmp_of {nm qn:Str} {N:Addr} {bs:List Value} {hdct:Bool} {sn:List Str} {sub:List Value} {ab:Bool} {col:Option Bool} {dd:Option Addr} {u0 u1 u2 u3 u5:Option Value} {newId:String} {cc:Value} {cd:Option Addr} {es:Array DictEntry} {ep:Nat} {sl:Array (Option Value)} (x1:K.lookup C=some (excClassObj nm qn C N bs [.type "object"] hdct sn sub ab col dd u0 u1 u2 u3 u5 newId)) (x2:K.lookup N=some ⟨cc,cd,.dict es ep,sl⟩) (x3:es.all (fun e=>match e.key with | .str _ _=>true | _=>false)=true) (x4:nsFind es "__eq__" = none) (x5:nsFind es "__ne__" = none):CmpK K C :=
  ⟨nm,qn,N,bs,hdct,sn,sub,ab,col,dd,u0,u1,u2,u3,u5,newId,cc,cd,es,ep,sl,x1,x2,x3,x4,x5⟩
theorem ex_int (KX:K.In h) (G:h.Ns mainGlobals mg) {i:Int} {t:Tok} (a:PySem.W.nsIn K mainGlobals x=some (some (.int i t))):∃ t,mg x=some (.int i t):=⟨t,PySem.W.mg_of KX G a⟩
theorem ktup {a:Addr} {o:Obj} {its:Array Value} {n:Nat} {xs:List V} (l:K.lookup a=some o) (hc:o.cls = .type "tuple") (hd:o.data = .seq its n) (hz:its.size≤sizeLine) (hv:Vals xs its.toList):KTup K a xs:=fun H=>.inr ⟨o,its,n,l,hc,hd,hz,hv⟩
end
end TB
namespace TB
open PySem PySem.W PyProof.Rows
set_option maxRecDepth 100000
set_option maxHeartbeats 0
theorem ex_hm {K:Frag} {h:Heap} {mg:Str→Option Value} (KX:K.In h) (G:h.Ns mainGlobals mg) {a:Addr} {d:Option Addr} {n:Nat} {sl:Array (Option Value)} {t0 t1 t2 t3 t4 t5 t6 t7 t8 t9 t10 t11 t12 t13 t14 t15 t16 t17 t18:Tok} (e:nsIn K mainGlobals "HOW_MANY" = some (some (.ref a))) (l:K.lookup a=some ⟨.type "tuple",d,.seq #[.int 0 t0,.int 4 t1,.int 5 t2,.int 1 t3,.int 1 t4,.int 1 t5,.int 2 t6,.int 2 t7,.int 2 t8,.int 2 t9,.int 1 t10,.int 1 t11,.int 1 t12,.int 2 t13,.int 2 t14,.int 2 t15,.int 3 t16,.int 2 t17,.int 0 t18] n,sl⟩):∃ a,mg "HOW_MANY" = some (.ref a)∧KTup K a [.int 0,.int 4,.int 5,.int 1,.int 1,.int 1,.int 2,.int 2,.int 2,.int 2,.int 1,.int 1,.int 1,.int 2,.int 2,.int 2,.int 3,.int 2,.int 0] :=
  ⟨a,mg_of KX G e,ktup l rfl rfl (by show 19≤sizeLine;decide) (.cons ⟨_,rfl⟩ (.cons ⟨_,rfl⟩ (.cons ⟨_,rfl⟩ (.cons ⟨_,rfl⟩ (.cons ⟨_,rfl⟩ (.cons ⟨_,rfl⟩ (.cons ⟨_,rfl⟩ (.cons ⟨_,rfl⟩ (.cons ⟨_,rfl⟩ (.cons ⟨_,rfl⟩ (.cons ⟨_,rfl⟩ (.cons ⟨_,rfl⟩ (.cons ⟨_,rfl⟩ (.cons ⟨_,rfl⟩ (.cons ⟨_,rfl⟩ (.cons ⟨_,rfl⟩ (.cons ⟨_,rfl⟩ (.cons ⟨_,rfl⟩ (.cons ⟨_,rfl⟩ (.nil))))))))))))))))))))⟩
theorem ex_pb {K:Frag} {h:Heap} {mg:Str→Option Value} (KX:K.In h) (G:h.Ns mainGlobals mg) {a b0 b1 b2:Addr} {d d0 d1 d2:Option Addr} {n n0 n1 n2:Nat} {sl sl0 sl1 sl2:Array (Option Value)} {t0 u0 t1 u1 t2 u2:Tok} (e:nsIn K mainGlobals "PAIR_BOOKS" = some (some (.ref a))) (l:K.lookup a=some ⟨.type "tuple",d,.seq #[.ref b0,.ref b1,.ref b2] n,sl⟩) (l0:K.lookup b0=some ⟨.type "tuple",d0,.seq #[.int 0 t0,.int 1 u0] n0,sl0⟩) (l1:K.lookup b1=some ⟨.type "tuple",d1,.seq #[.int 0 t1,.int 2 u1] n1,sl1⟩) (l2:K.lookup b2=some ⟨.type "tuple",d2,.seq #[.int 1 t2,.int 2 u2] n2,sl2⟩):∃ a b0 b1 b2,mg "PAIR_BOOKS" = some (.ref a)∧KTup K a [.ref b0,.ref b1,.ref b2]∧KTup K b0 [.int 0,.int 1]∧KTup K b1 [.int 0,.int 2]∧KTup K b2 [.int 1,.int 2] :=
  ⟨a,b0,b1,b2,mg_of KX G e,ktup l rfl rfl (by show 3≤sizeLine;decide) (.cons rfl (.cons rfl (.cons rfl .nil))),ktup l0 rfl rfl (by show 2≤sizeLine;decide) (.cons ⟨_,rfl⟩ (.cons ⟨_,rfl⟩ .nil)),ktup l1 rfl rfl (by show 2≤sizeLine;decide) (.cons ⟨_,rfl⟩ (.cons ⟨_,rfl⟩ .nil)),ktup l2 rfl rfl (by show 2≤sizeLine;decide) (.cons ⟨_,rfl⟩ (.cons ⟨_,rfl⟩ .nil))⟩
theorem at_bm (P:Params):nsIn (TB.headT.heap_1 P) mainGlobals "__builtins__" = some (some (.ref 4)):=by k_is
theorem at_k4 (P:Params):(TB.headT.heap_1 P).lookup 4=none:=by kernel_rfl
theorem at_k165 (P:Params):(TB.headT.heap_1 P).lookup 165=none:=by kernel_rfl
theorem at_cd (P:Params):codeHdIn (TB.headT.heap_1 P) 167 165=true:=by kernel_rfl
theorem at_cmp (P:Params):CmpK (TB.headT.heap_1 P) 89:=by
  refine' cmp_of ?x1 ?x2 ?x3 ?x4 ?x5
  (case x1=>k_is)
  (case x2=>k_is)
  (case x3=>kernel_rfl)
  (case x4=>kernel_rfl)
  (case x5=>kernel_rfl)
theorem txt_ex (P:Params) {h:Heap} {mg:Str→Option Value} (KX:(headT.heap_1 P).In h) (G:h.Ns mainGlobals mg):Nonempty (Txt (headT.heap_1 P) mg):=by
  obtain ⟨f_Account_init,me_Account_init,_⟩:=ex_meth (K:=headT.heap_1 P) 61 "__init__" "Account.__init__" s_Account_init ["self", "window", "tolerance", "size"] (fun _ _ _ _ _ _ us hl=>match us,hl with | [_,_,_,_],_=>rfl) (by k_is) (by k_is) (by k_is) (by k_is) (by k_is)
  obtain ⟨f_Entry_init,me_Entry_init,_⟩:=ex_meth (K:=headT.heap_1 P) 89 "__init__" "Entry.__init__" s_Entry_init ["self", "place", "book", "account", "day", "amount", "reference"] (fun _ _ _ _ _ _ us hl=>match us,hl with | [_,_,_,_,_,_,_],_=>rfl) (by k_is) (by k_is) (by k_is) (by k_is) (by k_is)
  obtain ⟨f_Entry_is_open,me_Entry_is_open,_⟩:=ex_meth (K:=headT.heap_1 P) 89 "is_open" "Entry.is_open" s_Entry_is_open ["self", "pair"] (fun _ _ _ _ _ _ us hl=>match us,hl with | [_,_],_=>rfl) (by k_is) (by k_is) (by k_is) (by k_is) (by k_is)
  obtain ⟨f_Group_init,me_Group_init,_⟩:=ex_meth (K:=headT.heap_1 P) 110 "__init__" "Group.__init__" s_Group_init ["self", "pair", "account", "left", "right"] (fun _ _ _ _ _ _ us hl=>match us,hl with | [_,_,_,_,_],_=>rfl) (by k_is) (by k_is) (by k_is) (by k_is) (by k_is)
  obtain ⟨f_Fund_init,me_Fund_init,_⟩:=ex_meth (K:=headT.heap_1 P) 223 "__init__" "Fund.__init__" s_Fund_init ["self"] (fun _ _ _ _ _ _ us hl=>match us,hl with | [_],_=>rfl) (by k_is) (by k_is) (by k_is) (by k_is) (by k_is)
  obtain ⟨f_Fund_begin,me_Fund_begin,_⟩:=ex_meth (K:=headT.heap_1 P) 223 "begin" "Fund.begin" s_Fund_begin ["self"] (fun _ _ _ _ _ _ us hl=>match us,hl with | [_],_=>rfl) (by k_is) (by k_is) (by k_is) (by k_is) (by k_is)
  obtain ⟨f_Fund_entry_at,me_Fund_entry_at,_⟩:=ex_meth (K:=headT.heap_1 P) 223 "entry_at" "Fund.entry_at" s_Fund_entry_at ["self", "place"] (fun _ _ _ _ _ _ us hl=>match us,hl with | [_,_],_=>rfl) (by k_is) (by k_is) (by k_is) (by k_is) (by k_is)
  obtain ⟨f_Fund_group_at,me_Fund_group_at,_⟩:=ex_meth (K:=headT.heap_1 P) 223 "group_at" "Fund.group_at" s_Fund_group_at ["self", "place"] (fun _ _ _ _ _ _ us hl=>match us,hl with | [_,_],_=>rfl) (by k_is) (by k_is) (by k_is) (by k_is) (by k_is)
  obtain ⟨f_Fund_open_left,me_Fund_open_left,_⟩:=ex_meth (K:=headT.heap_1 P) 223 "open_left" "Fund.open_left" s_Fund_open_left ["self", "pair", "account"] (fun _ _ _ _ _ _ us hl=>match us,hl with | [_,_,_],_=>rfl) (by k_is) (by k_is) (by k_is) (by k_is) (by k_is)
  obtain ⟨f_Fund_open_right,me_Fund_open_right,_⟩:=ex_meth (K:=headT.heap_1 P) 223 "open_right" "Fund.open_right" s_Fund_open_right ["self", "pair", "account"] (fun _ _ _ _ _ _ us hl=>match us,hl with | [_,_,_],_=>rfl) (by k_is) (by k_is) (by k_is) (by k_is) (by k_is)
  obtain ⟨f_Fund_open_in_book,me_Fund_open_in_book,hcd⟩:=ex_meth (K:=headT.heap_1 P) 223 "open_in_book" "Fund.open_in_book" s_Fund_open_in_book ["self", "pair", "account", "book"] (fun _ _ _ _ _ _ us hl=>match us,hl with | [_,_,_,_],_=>rfl) (by k_is) (by k_is) (by k_is) (by k_is) (by k_is)
  obtain ⟨f_Fund_how_many_open,me_Fund_how_many_open,_⟩:=ex_meth (K:=headT.heap_1 P) 223 "how_many_open" "Fund.how_many_open" s_Fund_how_many_open ["self", "pair", "account"] (fun _ _ _ _ _ _ us hl=>match us,hl with | [_,_,_],_=>rfl) (by k_is) (by k_is) (by k_is) (by k_is) (by k_is)
  obtain ⟨f_Fund_balance,me_Fund_balance,_⟩:=ex_meth (K:=headT.heap_1 P) 223 "balance" "Fund.balance" s_Fund_balance ["self", "book", "account"] (fun _ _ _ _ _ _ us hl=>match us,hl with | [_,_,_],_=>rfl) (by k_is) (by k_is) (by k_is) (by k_is) (by k_is)
  obtain ⟨f_Fund_groups_that_hold,me_Fund_groups_that_hold,_⟩:=ex_meth (K:=headT.heap_1 P) 223 "groups_that_hold" "Fund.groups_that_hold" s_Fund_groups_that_hold ["self", "pair", "account"] (fun _ _ _ _ _ _ us hl=>match us,hl with | [_,_,_],_=>rfl) (by k_is) (by k_is) (by k_is) (by k_is) (by k_is)
  obtain ⟨f_Fund_has_room_for_entry,me_Fund_has_room_for_entry,_⟩:=ex_meth (K:=headT.heap_1 P) 223 "has_room_for_entry" "Fund.has_room_for_entry" s_Fund_has_room_for_entry ["self"] (fun _ _ _ _ _ _ us hl=>match us,hl with | [_],_=>rfl) (by k_is) (by k_is) (by k_is) (by k_is) (by k_is)
  obtain ⟨f_Fund_has_room_for_groups,me_Fund_has_room_for_groups,_⟩:=ex_meth (K:=headT.heap_1 P) 223 "has_room_for_groups" "Fund.has_room_for_groups" s_Fund_has_room_for_groups ["self", "more"] (fun _ _ _ _ _ _ us hl=>match us,hl with | [_,_],_=>rfl) (by k_is) (by k_is) (by k_is) (by k_is) (by k_is)
  obtain ⟨f_Fund_add_entry,me_Fund_add_entry,_⟩:=ex_meth (K:=headT.heap_1 P) 223 "add_entry" "Fund.add_entry" s_Fund_add_entry ["self", "book", "account", "day", "amount", "reference"] (fun _ _ _ _ _ _ us hl=>match us,hl with | [_,_,_,_,_,_],_=>rfl) (by k_is) (by k_is) (by k_is) (by k_is) (by k_is)
  obtain ⟨f_Fund_add_group,me_Fund_add_group,_⟩:=ex_meth (K:=headT.heap_1 P) 223 "add_group" "Fund.add_group" s_Fund_add_group ["self", "pair", "left", "right"] (fun _ _ _ _ _ _ us hl=>match us,hl with | [_,_,_,_],_=>rfl) (by k_is) (by k_is) (by k_is) (by k_is) (by k_is)
  obtain ⟨f_Fund_undo_group,me_Fund_undo_group,_⟩:=ex_meth (K:=headT.heap_1 P) 223 "undo_group" "Fund.undo_group" s_Fund_undo_group ["self", "group"] (fun _ _ _ _ _ _ us hl=>match us,hl with | [_,_],_=>rfl) (by k_is) (by k_is) (by k_is) (by k_is) (by k_is)
  obtain ⟨f_Fit_init,me_Fit_init,_⟩:=ex_meth (K:=headT.heap_1 P) 244 "__init__" "Fit.__init__" s_Fit_init ["self", "left", "right", "marks"] (fun _ _ _ _ _ _ us hl=>match us,hl with | [_,_,_,_],_=>rfl) (by k_is) (by k_is) (by k_is) (by k_is) (by k_is)
  obtain ⟨f_Plan_init,me_Plan_init,_⟩:=ex_meth (K:=headT.heap_1 P) 279 "__init__" "Plan.__init__" s_Plan_init ["self", "fits", "rank", "marks"] (fun _ _ _ _ _ _ us hl=>match us,hl with | [_,_,_,_],_=>rfl) (by k_is) (by k_is) (by k_is) (by k_is) (by k_is)
  obtain ⟨f_Plan_grouped,me_Plan_grouped,_⟩:=ex_meth (K:=headT.heap_1 P) 279 "grouped" "Plan.grouped" s_Plan_grouped ["self"] (fun _ _ _ _ _ _ us hl=>match us,hl with | [_],_=>rfl) (by k_is) (by k_is) (by k_is) (by k_is) (by k_is)
  obtain ⟨f_Plan_gaps,me_Plan_gaps,_⟩:=ex_meth (K:=headT.heap_1 P) 279 "gaps" "Plan.gaps" s_Plan_gaps ["self"] (fun _ _ _ _ _ _ us hl=>match us,hl with | [_],_=>rfl) (by k_is) (by k_is) (by k_is) (by k_is) (by k_is)
  obtain ⟨f_Search_init,me_Search_init,_⟩:=ex_meth (K:=headT.heap_1 P) 350 "__init__" "Search.__init__" s_Search_init ["self", "lefts", "rights", "account"] (fun _ _ _ _ _ _ us hl=>match us,hl with | [_,_,_,_],_=>rfl) (by k_is) (by k_is) (by k_is) (by k_is) (by k_is)
  obtain ⟨f_Search_sum_of_marks,me_Search_sum_of_marks,_⟩:=ex_meth (K:=headT.heap_1 P) 350 "sum_of_marks" "Search.sum_of_marks" s_Search_sum_of_marks ["self", "entries"] (fun _ _ _ _ _ _ us hl=>match us,hl with | [_,_],_=>rfl) (by k_is) (by k_is) (by k_is) (by k_is) (by k_is)
  obtain ⟨f_Search_best_of,me_Search_best_of,_⟩:=ex_meth (K:=headT.heap_1 P) 350 "best_of" "Search.best_of" s_Search_best_of ["self", "free"] (fun _ _ _ _ _ _ us hl=>match us,hl with | [_,_],_=>rfl) (by k_is) (by k_is) (by k_is) (by k_is) (by k_is)
  obtain ⟨f_Search_best_by_first,me_Search_best_by_first,_⟩:=ex_meth (K:=headT.heap_1 P) 350 "best_by_first" "Search.best_by_first" s_Search_best_by_first ["self", "free"] (fun _ _ _ _ _ _ us hl=>match us,hl with | [_,_],_=>rfl) (by k_is) (by k_is) (by k_is) (by k_is) (by k_is)
  obtain ⟨f_Search_first_free,me_Search_first_free,_⟩:=ex_meth (K:=headT.heap_1 P) 350 "first_free" "Search.first_free" s_Search_first_free ["self", "free"] (fun _ _ _ _ _ _ us hl=>match us,hl with | [_,_],_=>rfl) (by k_is) (by k_is) (by k_is) (by k_is) (by k_is)
  obtain ⟨f_within,m_within⟩:=ex_top KX G "within" s_within ["number", "least", "most"] (fun _ _ _ _ _ _ us hl=>match us,hl with | [_,_,_],_=>rfl) (by k_is) (by k_is) (by k_is) (by k_is)
  obtain ⟨f_range_refusal,m_range_refusal⟩:=ex_top KX G "range_refusal" s_range_refusal ["fund", "book_or_pair", "account"] (fun _ _ _ _ _ _ us hl=>match us,hl with | [_,_,_],_=>rfl) (by k_is) (by k_is) (by k_is) (by k_is)
  obtain ⟨f_plan_refusal,m_plan_refusal⟩:=ex_top KX G "plan_refusal" s_plan_refusal ["fund", "pair", "account"] (fun _ _ _ _ _ _ us hl=>match us,hl with | [_,_,_],_=>rfl) (by k_is) (by k_is) (by k_is) (by k_is)
  obtain ⟨f_gap_of,m_gap_of⟩:=ex_top KX G "gap_of" s_gap_of ["left", "right"] (fun _ _ _ _ _ _ us hl=>match us,hl with | [_,_],_=>rfl) (by k_is) (by k_is) (by k_is) (by k_is)
  obtain ⟨f_choices,m_choices⟩:=ex_top KX G "choices" s_choices ["entries", "size"] (fun _ _ _ _ _ _ us hl=>match us,hl with | [_,_],_=>rfl) (by k_is) (by k_is) (by k_is) (by k_is)
  obtain ⟨f_do_fit,m_do_fit⟩:=ex_top KX G "do_fit" s_do_fit ["left", "right", "account"] (fun _ _ _ _ _ _ us hl=>match us,hl with | [_,_,_],_=>rfl) (by k_is) (by k_is) (by k_is) (by k_is)
  obtain ⟨f_marks_for,m_marks_for⟩:=ex_top KX G "marks_for" s_marks_for ["entries"] (fun _ _ _ _ _ _ us hl=>match us,hl with | [_],_=>rfl) (by k_is) (by k_is) (by k_is) (by k_is)
  obtain ⟨f_rank_behind,m_rank_behind⟩:=ex_top KX G "rank_behind" s_rank_behind ["fit", "rest"] (fun _ _ _ _ _ _ us hl=>match us,hl with | [_,_],_=>rfl) (by k_is) (by k_is) (by k_is) (by k_is)
  obtain ⟨f_least_explanation,m_least_explanation⟩:=ex_top KX G "least_explanation" s_least_explanation ["lefts", "rights", "account"] (fun _ _ _ _ _ _ us hl=>match us,hl with | [_,_,_],_=>rfl) (by k_is) (by k_is) (by k_is) (by k_is)
  obtain ⟨f_plan_for,m_plan_for⟩:=ex_top KX G "plan_for" s_plan_for ["fund", "pair", "account"] (fun _ _ _ _ _ _ us hl=>match us,hl with | [_,_,_],_=>rfl) (by k_is) (by k_is) (by k_is) (by k_is)
  obtain ⟨f_places_of,m_places_of⟩:=ex_top KX G "places_of" s_places_of ["entries"] (fun _ _ _ _ _ _ us hl=>match us,hl with | [_],_=>rfl) (by k_is) (by k_is) (by k_is) (by k_is)
  obtain ⟨f_ask_best,m_ask_best⟩:=ex_top KX G "ask_best" s_ask_best ["fund", "p", "a"] (fun _ _ _ _ _ _ us hl=>match us,hl with | [_,_,_],_=>rfl) (by k_is) (by k_is) (by k_is) (by k_is)
  obtain ⟨f_ask_entry,m_ask_entry⟩:=ex_top KX G "ask_entry" s_ask_entry ["fund", "place"] (fun _ _ _ _ _ _ us hl=>match us,hl with | [_,_],_=>rfl) (by k_is) (by k_is) (by k_is) (by k_is)
  obtain ⟨f_ask_group,m_ask_group⟩:=ex_top KX G "ask_group" s_ask_group ["fund", "place"] (fun _ _ _ _ _ _ us hl=>match us,hl with | [_,_],_=>rfl) (by k_is) (by k_is) (by k_is) (by k_is)
  obtain ⟨f_ask_breaks,m_ask_breaks⟩:=ex_top KX G "ask_breaks" s_ask_breaks ["fund", "p", "a"] (fun _ _ _ _ _ _ us hl=>match us,hl with | [_,_,_],_=>rfl) (by k_is) (by k_is) (by k_is) (by k_is)
  obtain ⟨f_ask_balance,m_ask_balance⟩:=ex_top KX G "ask_balance" s_ask_balance ["fund", "book", "a"] (fun _ _ _ _ _ _ us hl=>match us,hl with | [_,_,_],_=>rfl) (by k_is) (by k_is) (by k_is) (by k_is)
  obtain ⟨f_ask_gap,m_ask_gap⟩:=ex_top KX G "ask_gap" s_ask_gap ["fund", "p", "a"] (fun _ _ _ _ _ _ us hl=>match us,hl with | [_,_,_],_=>rfl) (by k_is) (by k_is) (by k_is) (by k_is)
  obtain ⟨f_ask_aged,m_ask_aged⟩:=ex_top KX G "ask_aged" s_ask_aged ["fund", "p", "a", "n"] (fun _ _ _ _ _ _ us hl=>match us,hl with | [_,_,_,_],_=>rfl) (by k_is) (by k_is) (by k_is) (by k_is)
  obtain ⟨f_ask_explain,m_ask_explain⟩:=ex_top KX G "ask_explain" s_ask_explain ["fund", "p", "a"] (fun _ _ _ _ _ _ us hl=>match us,hl with | [_,_,_],_=>rfl) (by k_is) (by k_is) (by k_is) (by k_is)
  obtain ⟨f_ask_counts,m_ask_counts⟩:=ex_top KX G "ask_counts" s_ask_counts ["fund"] (fun _ _ _ _ _ _ us hl=>match us,hl with | [_],_=>rfl) (by k_is) (by k_is) (by k_is) (by k_is)
  obtain ⟨f_clear_all,m_clear_all⟩:=ex_top KX G "clear_all" s_clear_all ["fund"] (fun _ _ _ _ _ _ us hl=>match us,hl with | [_],_=>rfl) (by k_is) (by k_is) (by k_is) (by k_is)
  obtain ⟨f_tell_account,m_tell_account⟩:=ex_top KX G "tell_account" s_tell_account ["fund", "a", "window", "tolerance", "size"] (fun _ _ _ _ _ _ us hl=>match us,hl with | [_,_,_,_,_],_=>rfl) (by k_is) (by k_is) (by k_is) (by k_is)
  obtain ⟨f_write_entry,m_write_entry⟩:=ex_top KX G "write_entry" s_write_entry ["fund", "book", "a", "day", "amount", "reference"] (fun _ _ _ _ _ _ us hl=>match us,hl with | [_,_,_,_,_,_],_=>rfl) (by k_is) (by k_is) (by k_is) (by k_is)
  obtain ⟨f_take_entry,m_take_entry⟩:=ex_top KX G "take_entry" s_take_entry ["fund", "place"] (fun _ _ _ _ _ _ us hl=>match us,hl with | [_,_],_=>rfl) (by k_is) (by k_is) (by k_is) (by k_is)
  obtain ⟨f_may_be_group,m_may_be_group⟩:=ex_top KX G "may_be_group" s_may_be_group ["entries", "pair"] (fun _ _ _ _ _ _ us hl=>match us,hl with | [_,_],_=>rfl) (by k_is) (by k_is) (by k_is) (by k_is)
  obtain ⟨f_pair_entries,m_pair_entries⟩:=ex_top KX G "pair_entries" s_pair_entries ["fund", "p", "places"] (fun _ _ _ _ _ _ us hl=>match us,hl with | [_,_,_],_=>rfl) (by k_is) (by k_is) (by k_is) (by k_is)
  obtain ⟨f_unpair_group,m_unpair_group⟩:=ex_top KX G "unpair_group" s_unpair_group ["fund", "place"] (fun _ _ _ _ _ _ us hl=>match us,hl with | [_,_],_=>rfl) (by k_is) (by k_is) (by k_is) (by k_is)
  obtain ⟨f_first_alike,m_first_alike⟩:=ex_top KX G "first_alike" s_first_alike ["entry", "others"] (fun _ _ _ _ _ _ us hl=>match us,hl with | [_,_],_=>rfl) (by k_is) (by k_is) (by k_is) (by k_is)
  obtain ⟨f_reference_matches,m_reference_matches⟩:=ex_top KX G "reference_matches" s_reference_matches ["lefts", "rights"] (fun _ _ _ _ _ _ us hl=>match us,hl with | [_,_],_=>rfl) (by k_is) (by k_is) (by k_is) (by k_is)
  obtain ⟨f_pair_by_reference,m_pair_by_reference⟩:=ex_top KX G "pair_by_reference" s_pair_by_reference ["fund", "p", "a"] (fun _ _ _ _ _ _ us hl=>match us,hl with | [_,_,_],_=>rfl) (by k_is) (by k_is) (by k_is) (by k_is)
  obtain ⟨f_run_plan,m_run_plan⟩:=ex_top KX G "run_plan" s_run_plan ["fund", "p", "a"] (fun _ _ _ _ _ _ us hl=>match us,hl with | [_,_,_],_=>rfl) (by k_is) (by k_is) (by k_is) (by k_is)
  obtain ⟨f_mirror_entry,m_mirror_entry⟩:=ex_top KX G "mirror_entry" s_mirror_entry ["fund", "p", "place"] (fun _ _ _ _ _ _ us hl=>match us,hl with | [_,_,_],_=>rfl) (by k_is) (by k_is) (by k_is) (by k_is)
  obtain ⟨f_tick_days,m_tick_days⟩:=ex_top KX G "tick_days" s_tick_days ["fund", "n"] (fun _ _ _ _ _ _ us hl=>match us,hl with | [_,_],_=>rfl) (by k_is) (by k_is) (by k_is) (by k_is)
  obtain ⟨f_answer_change,m_answer_change⟩:=ex_top KX G "answer_change" s_answer_change ["fund", "number", "given", "row"] (fun _ _ _ _ _ _ us hl=>match us,hl with | [_,_,_,_],_=>rfl) (by k_is) (by k_is) (by k_is) (by k_is)
  obtain ⟨f_answer_ask,m_answer_ask⟩:=ex_top KX G "answer_ask" s_answer_ask ["fund", "number", "given"] (fun _ _ _ _ _ _ us hl=>match us,hl with | [_,_,_],_=>rfl) (by k_is) (by k_is) (by k_is) (by k_is)
  obtain ⟨f_answer,m_answer⟩:=ex_top KX G "answer" s_answer ["fund", "number", "given", "row"] (fun _ _ _ _ _ _ us hl=>match us,hl with | [_,_,_,_],_=>rfl) (by k_is) (by k_is) (by k_is) (by k_is)
  obtain ⟨f_answers,m_answers⟩:=ex_top KX G "answers" s_answers ["calls"] (fun _ _ _ _ _ _ us hl=>match us,hl with | [_],_=>rfl) (by k_is) (by k_is) (by k_is) (by k_is)
  obtain ⟨a_hm,g_HOW_MANY,hm⟩:=ex_hm KX G (by k_is) (by k_is)
  obtain ⟨a_pb,a_pb0,a_pb1,a_pb2,g_PAIR_BOOKS,pb,pb0,pb1,pb2⟩:=ex_pb KX G (by k_is) (by k_is) (by k_is) (by k_is) (by k_is)
  exact ⟨{ c_Account:=61,cl_Account:=⟨by k_is,by k_is,by k_is,by k_is⟩,mg_Account:=mg_of KX G (by k_is),na_Account_window:=na_of (by k_is),na_Account_tolerance:=na_of (by k_is),na_Account_size:=na_of (by k_is),f_Account_init:=f_Account_init,mk_Account:=⟨by k_is,me_Account_init.at_,me_Account_init.fn,by k_is⟩,c_Entry:=89,cl_Entry:=⟨by k_is,by k_is,by k_is,by k_is⟩,mg_Entry:=mg_of KX G (by k_is),na_Entry_place:=na_of (by k_is),na_Entry_book:=na_of (by k_is),na_Entry_account:=na_of (by k_is),na_Entry_day:=na_of (by k_is),na_Entry_amount:=na_of (by k_is),na_Entry_reference:=na_of (by k_is),na_Entry_there:=na_of (by k_is),na_Entry_in_groups:=na_of (by k_is),f_Entry_init:=f_Entry_init,mk_Entry:=⟨by k_is,me_Entry_init.at_,me_Entry_init.fn,by k_is⟩,f_Entry_is_open:=f_Entry_is_open,me_Entry_is_open:=me_Entry_is_open,c_Group:=110,cl_Group:=⟨by k_is,by k_is,by k_is,by k_is⟩,mg_Group:=mg_of KX G (by k_is),na_Group_pair:=na_of (by k_is),na_Group_account:=na_of (by k_is),na_Group_left:=na_of (by k_is),na_Group_right:=na_of (by k_is),na_Group_holds:=na_of (by k_is),f_Group_init:=f_Group_init,mk_Group:=⟨by k_is,me_Group_init.at_,me_Group_init.fn,by k_is⟩,c_Fund:=223,cl_Fund:=⟨by k_is,by k_is,by k_is,by k_is⟩,mg_Fund:=mg_of KX G (by k_is),na_Fund_today:=na_of (by k_is),na_Fund_accounts:=na_of (by k_is),na_Fund_entries:=na_of (by k_is),na_Fund_groups:=na_of (by k_is),f_Fund_init:=f_Fund_init,mk_Fund:=⟨by k_is,me_Fund_init.at_,me_Fund_init.fn,by k_is⟩,f_Fund_begin:=f_Fund_begin,me_Fund_begin:=me_Fund_begin,f_Fund_entry_at:=f_Fund_entry_at,me_Fund_entry_at:=me_Fund_entry_at,f_Fund_group_at:=f_Fund_group_at,me_Fund_group_at:=me_Fund_group_at,f_Fund_open_left:=f_Fund_open_left,me_Fund_open_left:=me_Fund_open_left,f_Fund_open_right:=f_Fund_open_right,me_Fund_open_right:=me_Fund_open_right,f_Fund_open_in_book:=f_Fund_open_in_book,me_Fund_open_in_book:=me_Fund_open_in_book,f_Fund_how_many_open:=f_Fund_how_many_open,me_Fund_how_many_open:=me_Fund_how_many_open,f_Fund_balance:=f_Fund_balance,me_Fund_balance:=me_Fund_balance,f_Fund_groups_that_hold:=f_Fund_groups_that_hold,me_Fund_groups_that_hold:=me_Fund_groups_that_hold,f_Fund_has_room_for_entry:=f_Fund_has_room_for_entry,me_Fund_has_room_for_entry:=me_Fund_has_room_for_entry,f_Fund_has_room_for_groups:=f_Fund_has_room_for_groups,me_Fund_has_room_for_groups:=me_Fund_has_room_for_groups,f_Fund_add_entry:=f_Fund_add_entry,me_Fund_add_entry:=me_Fund_add_entry,f_Fund_add_group:=f_Fund_add_group,me_Fund_add_group:=me_Fund_add_group,f_Fund_undo_group:=f_Fund_undo_group,me_Fund_undo_group:=me_Fund_undo_group,c_Fit:=244,cl_Fit:=⟨by k_is,by k_is,by k_is,by k_is⟩,mg_Fit:=mg_of KX G (by k_is),na_Fit_left:=na_of (by k_is),na_Fit_right:=na_of (by k_is),na_Fit_gap:=na_of (by k_is),na_Fit_many:=na_of (by k_is),na_Fit_marks:=na_of (by k_is),f_Fit_init:=f_Fit_init,mk_Fit:=⟨by k_is,me_Fit_init.at_,me_Fit_init.fn,by k_is⟩,c_Plan:=279,cl_Plan:=⟨by k_is,by k_is,by k_is,by k_is⟩,mg_Plan:=mg_of KX G (by k_is),na_Plan_fits:=na_of (by k_is),na_Plan_rank:=na_of (by k_is),na_Plan_marks:=na_of (by k_is),f_Plan_init:=f_Plan_init,mk_Plan:=⟨by k_is,me_Plan_init.at_,me_Plan_init.fn,by k_is⟩,f_Plan_grouped:=f_Plan_grouped,me_Plan_grouped:=me_Plan_grouped,f_Plan_gaps:=f_Plan_gaps,me_Plan_gaps:=me_Plan_gaps,c_Search:=350,cl_Search:=⟨by k_is,by k_is,by k_is,by k_is⟩,mg_Search:=mg_of KX G (by k_is),na_Search_marks:=na_of (by k_is),na_Search_lefts:=na_of (by k_is),na_Search_known:=na_of (by k_is),na_Search_fits_from:=na_of (by k_is),f_Search_init:=f_Search_init,mk_Search:=⟨by k_is,me_Search_init.at_,me_Search_init.fn,by k_is⟩,f_Search_sum_of_marks:=f_Search_sum_of_marks,me_Search_sum_of_marks:=me_Search_sum_of_marks,f_Search_best_of:=f_Search_best_of,me_Search_best_of:=me_Search_best_of,f_Search_best_by_first:=f_Search_best_by_first,me_Search_best_by_first:=me_Search_best_by_first,f_Search_first_free:=f_Search_first_free,me_Search_first_free:=me_Search_first_free,f_within:=f_within,m_within:=m_within,f_range_refusal:=f_range_refusal,m_range_refusal:=m_range_refusal,f_plan_refusal:=f_plan_refusal,m_plan_refusal:=m_plan_refusal,f_gap_of:=f_gap_of,m_gap_of:=m_gap_of,f_choices:=f_choices,m_choices:=m_choices,f_do_fit:=f_do_fit,m_do_fit:=m_do_fit,f_marks_for:=f_marks_for,m_marks_for:=m_marks_for,f_rank_behind:=f_rank_behind,m_rank_behind:=m_rank_behind,f_least_explanation:=f_least_explanation,m_least_explanation:=m_least_explanation,f_plan_for:=f_plan_for,m_plan_for:=m_plan_for,f_places_of:=f_places_of,m_places_of:=m_places_of,f_ask_best:=f_ask_best,m_ask_best:=m_ask_best,f_ask_entry:=f_ask_entry,m_ask_entry:=m_ask_entry,f_ask_group:=f_ask_group,m_ask_group:=m_ask_group,f_ask_breaks:=f_ask_breaks,m_ask_breaks:=m_ask_breaks,f_ask_balance:=f_ask_balance,m_ask_balance:=m_ask_balance,f_ask_gap:=f_ask_gap,m_ask_gap:=m_ask_gap,f_ask_aged:=f_ask_aged,m_ask_aged:=m_ask_aged,f_ask_explain:=f_ask_explain,m_ask_explain:=m_ask_explain,f_ask_counts:=f_ask_counts,m_ask_counts:=m_ask_counts,f_clear_all:=f_clear_all,m_clear_all:=m_clear_all,f_tell_account:=f_tell_account,m_tell_account:=m_tell_account,f_write_entry:=f_write_entry,m_write_entry:=m_write_entry,f_take_entry:=f_take_entry,m_take_entry:=m_take_entry,f_may_be_group:=f_may_be_group,m_may_be_group:=m_may_be_group,f_pair_entries:=f_pair_entries,m_pair_entries:=m_pair_entries,f_unpair_group:=f_unpair_group,m_unpair_group:=m_unpair_group,f_first_alike:=f_first_alike,m_first_alike:=m_first_alike,f_reference_matches:=f_reference_matches,m_reference_matches:=m_reference_matches,f_pair_by_reference:=f_pair_by_reference,m_pair_by_reference:=m_pair_by_reference,f_run_plan:=f_run_plan,m_run_plan:=m_run_plan,f_mirror_entry:=f_mirror_entry,m_mirror_entry:=m_mirror_entry,f_tick_days:=f_tick_days,m_tick_days:=m_tick_days,f_answer_change:=f_answer_change,m_answer_change:=m_answer_change,f_answer_ask:=f_answer_ask,m_answer_ask:=m_answer_ask,f_answer:=f_answer,m_answer:=m_answer,f_answers:=f_answers,m_answers:=m_answers,a_hm:=a_hm,g_HOW_MANY:=g_HOW_MANY,hm:=hm,a_pb:=a_pb,a_pb0:=a_pb0,a_pb1:=a_pb1,a_pb2:=a_pb2,g_PAIR_BOOKS:=g_PAIR_BOOKS,pb:=pb,pb0:=pb0,pb1:=pb1,pb2:=pb2,g_OUT_OF_RANGE:=ex_int KX G (by k_is),g_NO_ACCOUNT:=ex_int KX G (by k_is),g_FULL:=ex_int KX G (by k_is),g_NOT_THERE:=ex_int KX G (by k_is),g_NOT_FREE:=ex_int KX G (by k_is),g_ONE_BOOK:=ex_int KX G (by k_is),g_GAP_TOO_WIDE:=ex_int KX G (by k_is),g_TOO_MANY_OPEN:=ex_int KX G (by k_is),g_MOST_OPEN:=ex_int KX G (by k_is),g_MOST_ENTRIES:=ex_int KX G (by k_is),g_MOST_GROUPS:=ex_int KX G (by k_is),g_LAST_DAY:=ex_int KX G (by k_is),g_NO_GROUP:=ex_int KX G (by k_is),g_LABEL_BITS:=ex_int KX G (by k_is),g_MOST_AMOUNT:=ex_int KX G (by k_is),g_CLEAR:=ex_int KX G (by k_is),g_ACCOUNT:=ex_int KX G (by k_is),g_ENTRY:=ex_int KX G (by k_is),g_TAKE:=ex_int KX G (by k_is),g_PAIR:=ex_int KX G (by k_is),g_UNPAIR:=ex_int KX G (by k_is),g_BYREF:=ex_int KX G (by k_is),g_RUN:=ex_int KX G (by k_is),g_BEST:=ex_int KX G (by k_is),g_MIRROR:=ex_int KX G (by k_is),g_TICK:=ex_int KX G (by k_is),g_ENTRYAT:=ex_int KX G (by k_is),g_GROUP:=ex_int KX G (by k_is),g_BREAKS:=ex_int KX G (by k_is),g_BALANCE:=ex_int KX G (by k_is),g_GAP:=ex_int KX G (by k_is),g_AGED:=ex_int KX G (by k_is),g_EXPLAIN:=ex_int KX G (by k_is),g_COUNTS:=ex_int KX G (by k_is),n_sum:=mg_none_of KX G (by k_is),n_max:=mg_none_of KX G (by k_is),n_min:=mg_none_of KX G (by k_is),n_any:=mg_none_of KX G (by k_is),n_all:=mg_none_of KX G (by k_is),n_abs:=mg_none_of KX G (by k_is),n_len:=mg_none_of KX G (by k_is),n_list:=mg_none_of KX G (by k_is),n_set:=mg_none_of KX G (by k_is),n_sorted:=mg_none_of KX G (by k_is),n_range:=mg_none_of KX G (by k_is),n_enumerate:=mg_none_of KX G (by k_is),n_reversed:=mg_none_of KX G (by k_is),tab:=⟨at_cd P,hcd⟩,bm:=mg_of KX G (at_bm P),cmp:=at_cmp P }⟩
def spA (K:Frag):L2.Sp:=fun vs H Q _=>∃ (l:Addr) (zs:List Int),vs=[.ref l]∧L2.SqL K H l (zs.map L2.V.int)∧TabOk H∧PyVbfuao.answers_asked zs=true ∧
  ∀ H' d,Sm H H'→H' d=some (.lst ((PyVbfuao.answers zs).map L2.V.int))→Q (.ref d) H'
theorem all_ex {Pr : Program} {w : World} {h : Heap} {mg : Str → Option Value} {fa : Addr} (KX : (TB.headT.heap_1 w.params).In h) (G : h.Ns mainGlobals mg) (hfa : mg "answers" = some (.ref fa)) :
    ∃ fd:FuncData,(∀ (s:Shared) (us:List Value),us.length=(["calls"]:List Str).length→BindsTo s fd ⟨us,[]⟩ ((["calls"]:List Str).zip us))∧∀ base:Heap,(TB.headT.heap_1 w.params).In base→base.Ns mainGlobals mg→L2.FnOk Pr w (TB.headT.heap_1 w.params) mg base L2.CX0 66 fa fd ["calls"] (spA (TB.headT.heap_1 w.params)):=by
  obtain ⟨T⟩:=txt_ex w.params KX G
  have e:=hfa.symm.trans T.m_answers
  cases e
  refine ⟨T.f_answers.fd,fun s us hu=>?_,fun base _ _=>ok_answers T⟩
  obtain ⟨oc,od,kV,doc,pm,an,cdv,ct,osl,hfd,lk,hcd⟩:=T.f_answers.F.ex
  rw [hfd]
  exact match us,hu with | [_],_=>.of_eq rfl
end TB
open PySem PySem.W PyProof.Rows
set_option maxRecDepth 100000
set_option maxHeartbeats 0
theorem PySem.Challenge.cw_threebooks_s01_answers_holds : PySem.Challenge.rw_threebooks_s01_answers.Holds := by
  w_on
  refine holds_os (q:=TB.vw) (loose:=[]) (Xt:=fun s=>xlAt TB.vw [] s&&recOk [] s) (XP:=XL TB.vw []) (Yf:=TB.hk.obs) (Ya:=TB.hk.val) (YP:=TB.hk.says) (N:=7856) TB.left TB.hk.of TB.hk.keeps (fun s e=>xl_of s (Bool.and_eq_true_iff.mp e).1) XL.keeps (by rfl) (by rfl) (by rfl) (fun s e=>recFacts_of (Bool.and_eq_true_iff.mp e).2) os_shapes (by decide +kernel) (by decide +kernel) ⟨rfl,rfl,rfl,rfl,rfl,by decide +kernel⟩ ?hw ?hc
  (case hw=>exact ⟨[.list [.int 0]],by decide +kernel,by decide +kernel⟩)
  refine TB.walk_specT (r:=PySem.Challenge.rw_threebooks_s01_answers) (k:=66) (K:=TB.headT.heap_1) (CX:=L2.CX0) (ps:=["calls"]) (sp:=TB.spA) (by decide +kernel) rfl rfl ⟨rfl,by decide,by decide⟩ (fun w h Y=>⟨km_in_of Y,km_tabs_of Y 165 (List.mem_singleton.mpr rfl)⟩) (fun w=>TB.at_bm _) (fun w=>TB.at_k4 _) (fun w=>TB.at_k165 _) (fun w=>TB.at_cd _) (fun w mg fa h KX G hmg=>TB.all_ex KX G hmg) ?S (fun _ _ _ _ z=>z)
  case S =>
    intro K H xs a ht hwi hask hx
    cases hx with
    | cons h1 h2 =>
      cases h2
      cases h1 with
      | lst hs ha =>
        have e:=L2.ints_dw a.1 _ ha
        subst e
        exact ⟨_,a.1,rfl,hs,ht,hask,fun H' p _ hp=>.lst (L2.SqL.of hp) (L2.dw_ints _)⟩
