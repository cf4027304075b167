import PyProof.Rows.All
import Wide.All
import OpenK.AllK
import Wide.FinOn
import Lean
import PyProof.EqAt
import PyProof.EqKinds
import PyProof.TupleCall
import PyProof.NeKinds
import PyProof.Draws
import PyProof.ZipIter
import KE.KSortTup
import PyProof.DictWalks
import KE.KDictList
import KE.KDictSum
import PyProof.AttrMissSeq
import PyProof.MinMaxWalk
import PyProof.AttrMissHeap
import PyProof.FactsAll.zip
import PyProof.Rows.SortRuns
import PyProof.Rows.SortKey
import PyProof.ExcBaseAll.ValueError
import OpenK.KOwn
import PyProof.InstStoreFacts
import PyProof.ExcInit
import PyProof.RulesDel
import PyProof.RulesAs
import KE.KItemsList
import PyProof.SetRoads
import PyProof.WalksMore
import PyProof.Rows.SetFrom
import PyProof.IsRules
import PyProof.Cells
import PyProof.ListRange
import PyProof.ListTruth
import KE.KEqDict
import KE.KRevIter
import PyProof.StrLawsIn
import KE.KTupSum
import PyProof.MeetsStr3
import PyProof.StrCalls6
import OpenK.KTop
import PyProof.DictCompW
import PyProof.DictValues
import PySem.Challenge.RW_roomtally_k30_whole_papers_change_no_bar
set_option Elab.async false
set_option linter.all false
set_option tactic.hygienic false
set_option bootstrap.genMatcherCode false
set_option compiler.extract_closed false
set_option maxRecDepth 100000
set_option maxHeartbeats 4000000
noncomputable section
open PySem List PySem.Spec PyProof.Rows
abbrev No(x:PySem.Str):Prop:=(x==("__debug__":PySem.Str))=false
abbrev N_(x:PySem.Str):Prop:=(x==("__classdict__":PySem.Str))=false
abbrev At:=List PySem.Str
abbrev By:=List Int
abbrev B6:=List PySem.Value
abbrev C2:=Option PySem.Value
abbrev Do:=Array PySem.Value
abbrev Ex:=List Nat
abbrev FG:=Option PySem.Addr
abbrev Ge:=List PySem.Addr
abbrev Go:=List PySem.Expr
abbrev Ha:=List PySem.Stmt
abbrev dF{α:Sort u}{β:Sort v}{a:α->β}(i:α):a i=a i:=rfl
abbrev dG{α:Sort u}{γ:α->Sort w}{β:Sort v}{a:∀i,γ i->β}(i:α)(j:γ i):a i j=a i j:=rfl
abbrev aA:=@length_map
abbrev aB:=@if_neg
abbrev aC:=@if_pos
abbrev aD:=@PyProof.Rows.wpS_bind
abbrev aE:=@PyProof.Rows.wpS_pure
abbrev aF:=@mem_cons
abbrev aG:=@length_append
abbrev aH:=@getElem?_eq_getElem
abbrev aI:=@List.getElem?_eq_some_iff
abbrev aJ:=@Option.map_eq_some_iff
abbrev aK:=@decide_eq_true
abbrev aL:=@of_decide_eq_true
abbrev aM:=@mem_of_getElem?
abbrev aO:=@length_take
abbrev aP:=@mem_map_of_mem
abbrev aQ:=@Nat.le_refl
abbrev aR:=@Nat.le_trans
abbrev aS:=@Heap.get?_push_of_some
abbrev aT:=@congrArg
abbrev aU:=@Nat.lt_of_lt_of_le
abbrev aV:=@eq_of_beq
abbrev aW:=@decide_eq_true_iff
abbrev aX:=@Nat.lt_irrefl
abbrev aY:=@Nat.le_of_lt
abbrev aZ:=@take_of_length_le
abbrev bA:=@mem_append
abbrev bB:=@not_mem_nil
abbrev bC:=@nodup_cons
abbrev bI:=@mem_singleton
abbrev bK:=@append_assoc
abbrev bL:=@wpAny_mono
abbrev bM:=@wpAny_holding
abbrev bN:=@Heap.lt_size
abbrev bO:=@getElem?_map
abbrev bP:=@Heap.get?_push_size
abbrev bQ:=@getElem?_eq_none
abbrev bR:=@Array.length_toList
abbrev bS:=@absurd
abbrev bT:=@mem_cons_of_mem
abbrev bU:=@mem_map
abbrev bV:=@getElem?_set_ne
abbrev bW:=@getD_eq_getElem?_getD
abbrev bX:=@Nat.ne_of_lt
abbrev bY:=@getElem?_set_self
abbrev bZ:=@map_map
abbrev cA:=@mem_cons_self
abbrev cB:=@Bool.and_eq_true
abbrev cC:=@mem_append_right
abbrev cD:=@Nat.zero_le
abbrev cE:=@Nat.lt_or_ge
abbrev cF:=@map_congr_left
abbrev cG:=@wpAny_newObj_type
abbrev cH:=@Bool.false_ne_true
abbrev cJ:=@Array.toList_append
abbrev cK:=@decide_eq_false
abbrev cL:=@Array.getElem?_eq_getElem
abbrev cM:=@Heap.get?_update_other
abbrev cN:=@eq_nil_of_length_eq_zero
abbrev cO:=@map_append
abbrev cP:=@append_nil
abbrev cQ:=@wpAny_call_entry
abbrev cR:=@pairwise_append
abbrev cS:=@Nat.le_succ
abbrev cT:=@pairwise_cons
abbrev cU:=@sizeLine_eq
abbrev cV:=@PySem.W.mg_none_of
abbrev cX:=@mem_filter
abbrev dD:=@if_true
abbrev dE:=@PySem.W.mg_of
abbrev VS:=Value->Shared->Prop
abbrev oI:=@Option.some.inj
abbrev Fg:=PySem.W.Frag
local macro_rules|`(nofun)=>`(by decide+kernel)
theorem sl0{p:Prop}(h:∀q:Prop,q=p->q):p:=h p rfl
local macro_rules|`(tactic|done<;>$t)=>`(tactic|(refine sl0 fun G e=>?_;($t<;>subst e)))
variable{fd:FuncData}{ps N ns ks q qI:At}{us:B6}{x qual:Str}{u cd pm ct oc v' u':Value}{a L p it dx d l1 l2 D fI pp:Addr}{h h' h1 base:Heap}{w:World}{qA:List (Addr×Obj)}{s s':Shared}{t' i j n lo m ep:Nat}{A:Around}{E Q:VS}{pos pos' tpos qK qJ np:Pos}{c:Int}{es elts:Go}{tg iter:Expr}{body:Ha}{r:By}{prog P':Program}{env:Env}{mg:Str->C2}{outer:List Env}{sc scope:Scope}{an od:FG}{qG:Do}{qC:List (Option Nat)}{Z:Addr->Prop}{Kf:Fg}{rs:List At}{O:KeyOrd}{qF:Array Keyed}
abbrev wB:=@PySem.wpAny_bind
abbrev wP:=@PySem.wpAny_pure
local macro_rules|`(tactic|trivial)=>`(tactic|first|exact .inl rfl|exact .inr rfl|exact .inr (.inl rfl)|exact .inr (.inr rfl)|assumption)
local macro_rules|`('0')=>`(⟨rfl,rfl,rfl,by decide+kernel,rfl,by decide+kernel,by decide+kernel⟩)
local macro_rules|`('1')=>`(⟨rfl,by decide+kernel,by decide+kernel,by decide+kernel,by decide+kernel,rfl,by decide+kernel⟩)
local macro_rules|`('2')=>`(by simp)
local macro_rules|`('3')=>`(by decide)
local macro_rules|`('4')=>`(by simp;lia)
local macro_rules|`('5')=>`(λz=>nomatch z)
local macro_rules|`('6')=>`(λ_ z=>nomatch z)
local macro_rules|`('7')=>`(λ_=>PassesOwn.never)
local macro_rules|`('8')=>`(λ_ _ _=>rfl)
local macro_rules|`('9')=>`(λ_ _=>False)
local macro_rules|`('A')=>`(wpAny _ _)
local macro_rules|`(~~~$a)=>`(by simpa using$a)
local macro_rules|`(tactic|rfl)=>`(tactic|(intro _;eq_refl))
local macro_rules|`($a\$b)=>`($a=some $b)
local macro_rules|`('B')=>return Lean.Syntax.mkApp (Lean.mkIdent `wpAny) #[Lean.Syntax.mkApp (Lean.mkIdent `model) #[(Lean.mkIdent `X.prog),(Lean.mkIdent `X.w)],(Lean.mkIdent `X.A)]
local macro_rules|`('C')=>return Lean.Syntax.mkApp (Lean.mkIdent `wpAny) #[Lean.Syntax.mkApp (Lean.mkIdent `model) #[(Lean.mkIdent `prog),(Lean.mkIdent `w)],(Lean.mkIdent `A)]
local macro_rules|`('D')=>return Lean.Syntax.mkApp (Lean.mkIdent `Inv) #[(Lean.mkIdent `X),(Lean.mkIdent `qA),(Lean.mkIdent `U),(Lean.mkIdent `H),(Lean.mkIdent `s)]
local macro_rules|`('E')=>return Lean.Syntax.mkApp (Lean.mkIdent `Fn) #[(Lean.mkIdent `P'),(Lean.mkIdent `w),(Lean.mkIdent `K),(Lean.mkIdent `mg),(Lean.mkIdent `base)]
local macro_rules|`('F')=>return(Lean.mkIdent `s.heap.get?)
local macro_rules|`('G')=>return Lean.Syntax.mkApp (Lean.mkIdent `arrOf) #[(Lean.mkIdent `st)]
local macro_rules|`('H')=>return(Lean.mkIdent `s.heap.objs.size)
local macro_rules|`('I')=>`(λ_=>$(Lean.mkIdent `T.b_len))
local macro_rules|`('J')=>`(λ_=>$(Lean.mkIdent `Ax))
local macro_rules|`(tactic|lia)=>`(tactic|first|with_reducible(first|assumption|exact Nat.le_of_lt ‹_›|exact Int.le_of_lt ‹_›|exact Nat.le_of_not_lt ‹_›|exact Int.natCast_nonneg _|exact Nat.le_add_right _ _|exact Nat.lt_succ_of_le ‹_›|exact Nat.le_of_eq ‹_›|exact Nat.sub_succ_lt_self _ _ ‹_›|exact Nat.le_antisymm ‹_› (Nat.le_of_not_lt ‹_›)|exact Nat.le_trans ‹_› ‹_›|exact Nat.lt_of_le_of_lt ‹_› ‹_›|exact Nat.lt_trans ‹_› ‹_›|exact Nat.le_trans ‹_› (by decide))|cutsat)
local macro_rules|`(⋯)=>`(by lia)
abbrev ϊ:List Str:=["_law_bag_here","_law_many_here"]
abbrev ϋ:List Str:=["_law_script","_law_bag_here","_law_names_here","_law_house","_law_book","_law_bad","_law_due_here","_law_k","_law_found","_law_one","_law_row"]
abbrev ό:List Str:=["_law_names_here","_law_book","_law_deed"]
abbrev ύ:List Str:=["_law_bag_here","_law_names_here","_law_house","_law_book","_law_rooms_here","_law_rows","_law_alike","_law_at","_law_some","_law_deed"]
abbrev ώ:List Str:=["_law_bag_here","_law_names_here","_law_many_here"]
abbrev Ϗ:List Str:=["_law_bag_here","_law_names_here"]
abbrev ϐ:List Str:=["_law_bag_here","_law_size","_law_base"]
abbrev ϒ:List Str:=["_law_room","_law_row","_law_part_here"]
abbrev ϓ:List Str:=["one","other"]
abbrev ϔ:List Str:=["questions","opened","deed"]
abbrev ϖ:List Str:=["room","rows"]
abbrev ϗ:List Str:=["_law_room","_law_rows","_law_part_here"]
abbrev Ϙ:List Str:=["_law_k","_law_i","_law_row","_law_book"]
abbrev ϙ:List Str:=["_law_bag_here"]
abbrev Ϛ:List Str:=["_law_bag_here","_law_names_here","_law_many_here","_law_row","_law_spare","_law_k","_law_found","_law_at","_law_name"]
abbrev ϛ:List Str:=["_law_bag_here","_law_names_here","_law_house","_law_book"]
abbrev Ϝ:List Str:=["_law_row","_law_count"]
abbrev ϝ:List Str:=["_law_part_here","_law_room"]
abbrev Ϟ:List Str:=["_law_room","_law_rows","_law_other","_law_late","_law_part_here","_law_one","_law_two","_law_bad"]
abbrev ϟ:List Str:=["opened"]
abbrev Ϡ:List Str:=["_law_room","_law_rows","_law_other","_law_late"]
abbrev ϡ:List Str:=["_law_found"]
abbrev Ϣ:List Str:=["_law_one","_law_other"]
abbrev ϣ:List Str:=["place","other","row","names"]
abbrev Ϥ:List Str:=["_law_bag_here","_law_names_here","_law_way","_law_many_here","_law_found","_law_turn"]
abbrev ϥ:List Str:=["room","row","count"]
abbrev Ϧ:List Str:=["room","rows","other_room","other_rows"]
abbrev ϧ:List Str:=["_law_script"]
abbrev Ϩ:List Str:=["room","row","part"]
abbrev ϩ:List Str:=["_law_bag_here","_law_names_here","_law_many_here","_law_name","_law_mask"]
abbrev Ϫ:List Str:=["questions","opened","deed","row","count","changed","name","room","rows"]
abbrev ϫ:List Str:=["_law_house","_law_deed"]
abbrev Ϭ:List Str:=["room","rows","other_room","other_rows","part","one","other","apart"]
abbrev ϭ:List Str:=["row","spots"]
abbrev Ϯ:List Str:=["row","count"]
abbrev ϯ:List Str:=["room","part"]
abbrev ϰ:List Str:=["part","room"]
abbrev ϱ:List Str:=["_law_counts"]
abbrev ϲ:List Str:=["_law_rooms_here","_law_tallies"]
abbrev ϳ:List Str:=["room","row"]
abbrev ϴ:List Str:=["low","high"]
abbrev Ϸ:List Str:=["_law_entry"]
abbrev ϸ:List Str:=["opened","name","room","rows"]
abbrev Ϲ:List Str:=["things"]
abbrev Ϻ:List Str:=["self","questions"]
def rcp:Nat->Lean.Syntax->Lean.MacroM (Lean.TSyntax `rcasesPat)
|0,_=>Lean.Macro.throwUnsupported
|n+1,s=>match s with
 |`([$x,*])=>do `(rcasesPat|⟨$[$(<-x.getElems.mapM λy=>do `(Lean.Parser.Tactic.rcasesPatLo|$(<-rcp n y):rcasesPat))],*⟩)
 |`($a||$b||$c)=>do `(rcasesPat|($(<-rcp n a):rcasesPat|$(<-rcp n b):rcasesPat|$(<-rcp n c):rcasesPat))
 |`($a||$b)=>do `(rcasesPat|($(<-rcp n a):rcasesPat|$(<-rcp n b):rcasesPat))
 |`(_)=>`(rcasesPat|_)
 |`($i:ident)=>`(rcasesPat|$i:ident)
 |`(0)=>`(rcasesPat|$(Lean.mkIdent `rfl):ident)
 |_=>Lean.Macro.throwUnsupported
local macro_rules(kind:=Lean.Parser.Tactic.tacticLet__)|s=>do let d:=s[2];if d[0].isOfKind ``Lean.Parser.Term.letPatDecl then `(tactic|obtain $(<-rcp 99 d[0][0]):rcasesPat:=$(⟨d[0][4]⟩)) else return .node .none ``Lean.Parser.Tactic.tacticHave__ #[Lean.mkAtom "have",s[1],d]
local macro_rules|`(tactic|show $t)=>`(tactic|refine $t)
def ccp(s:Lean.Syntax):Lean.MacroM Lean.Syntax:=let a:=(s[1].getSepArgs.map λx=>⟨if x.isNatLit?==some 0 then Lean.mkIdent `rfl else x⟩:Array Lean.Term);`(⟨$a,*⟩)
local macro_rules(kind:=«term{_}»)|s=>ccp s
local macro_rules(kind:=Lean.Parser.Command.declaration)|s=>do let d:=s[1];let v:=d[3];let p:=d.isOfKind ``Lean.Parser.Command.definition;if s.getPos?.isSome&&(d[1][0].getId.toString.splitOn "cw_").length<2 then return s.rewriteBottomUp (·.setInfo .none)else if s[0].getArgs.any (!·.isNone)||!p||d[2][1].isNone||!v.isOfKind ``Lean.Parser.Command.declValSimple then Lean.Macro.throwUnsupported else if v[1].isOfKind ``Lean.Parser.Term.paren then return s.setArg 0 (<-`(noncomputable def x:=0)).raw[0] else return s.setArg 1 (.node .none ``Lean.Parser.Command.theorem #[Lean.mkAtom "theorem",d[1],.node .none ``Lean.Parser.Command.declSig #[d[2][0],d[2][1][0]],v])
local macro_rules(kind:=«term#[_,]»)|s=>if s[1].getNumArgs==0 then Lean.Macro.throwUnsupported else ccp s
namespace L2
def Cd(h:us.length=1)(k:∀a,bindArgs fd {[a],[]}=pure (ps.zip [a])):bindArgs fd {us,[]}=pure (ps.zip us):=by cases us with|nil=>cases h|cons a l=>simp_all
def B0(h:us.length=2)(k:∀a b,bindArgs fd {[a,b],[]}=pure (ps.zip [a,b])):bindArgs fd {us,[]}=pure (ps.zip us):=by let _||[a,_||[b,_||[_,_]]]:=us<;>first|show k _ _|cases h
def DH(h:us.length=3)(k:∀a b c,bindArgs fd {[a,b,c],[]}=pure (ps.zip [a,b,c])):bindArgs fd {us,[]}=pure (ps.zip us):=by let _||[a,_||[b,_||[c,_||[_,_]]]]:=us<;>first|simp_all|cases h
def JM(h:us.length=4)(k:∀a b c d,bindArgs fd {[a,b,c,d],[]}=pure (ps.zip [a,b,c,d])):bindArgs fd {us,[]}=pure (ps.zip us):=by let _||[a,_||[b,_||[c,_||[d,_||[_,_]]]]]:=us<;>first|simp_all|cases h
noncomputable abbrev AT:=Sum Int Str
noncomputable def F9:AT->Value->Bool|.inl k,v=>Value.isInt k v|.inr x,v=>Value.isStrOf x v
noncomputable def Vm(w:World):AT->Int|.inl k=>hashInt k|.inr x=>hashStr w x
theorem D4:∀{k}{v},F9 k v=true->(∃i t,k=Sum.inl i/\v=Value.int i t)\/(∃x t,k=Sum.inr x/\v=Value.str x t)
 |.inl i,v,h=>by let[t,e]:=Value.isInt_shape h;show .inl #[i,t,0,e]|.inr x,v,h=>by let[t,e]:=Value.isStrOf_shape h;show .inr #[x,t,0,e]
def Vn(i)(t):F9 (.inl i) (.int i t)=true:=by simp[F9,Value.isInt]
def Vo(x)(t):F9 (.inr x) (.str x t)=true:=by simp[F9,Value.isStrOf]
def Vp(a b):decide ((Sum.inl a:AT)=Sum.inl b)=(a==b):=by lia
def Vq(a b):decide ((Sum.inr a:AT)=Sum.inr b)=decide (a=b):=by simp
def Vr(a)(b):decide ((Sum.inl a:AT)=Sum.inr b)=false:=cK (λq=>nomatch q)
def Vs(a)(b):decide ((Sum.inr a:AT)=Sum.inl b)=false:=cK (λq=>nomatch q)
noncomputable def Bp(prog)(w):PySem.KeyKind prog w AT where
 is:=F9
 hash:=Vm w
 inj:=λv a b ha hb=>by
  let[i,t,0,0]||[x,t,0,0]:=D4 ha
  .let[j,u,0,e]||[y,u,0,e]:=D4 hb
   .injection e with e1 _;rw[e1]
   .show nomatch e
  .let[j,u,0,e]||[y,u,0,e]:=D4 hb
   .show nomatch e
   .injection e with e1 _;rw[e1]
 byValue:=λk v h=>by let[i,t,0,0]||[x,t,0,0]:=D4 h<;>rfl
 pyHash:=λhv h=>by
  let[i,t,0,0]||[x,t,0,0]:=D4 hv
  .show wpAny_pyHash_int h
  .show wpAny_pyHash_str h
 eqBool:=λhu hv h=>by
  let[i,t,0,0]||[x,t,0,0]:=D4 hu
  .let[j,u,0,0]||[y,u,0,0]:=D4 hv
   .rw[Vp]at h;show wpAny_eqBool_int h
   .rw[Vr]at h;show SeqAt.EqAt.int_str i t y u _ _ _ _ h
  .let[j,u,0,0]||[y,u,0,0]:=D4 hv
   .rw[Vs]at h;show SeqAt.EqAt.str_int x t j u _ _ _ _ h
   .rw[Vq]at h;show wpAny_eqBool_str h
 «strs»:=λk x t v h=>by
  let[i,u,0,e]||[y,u,0,e]:=D4 h
  .show nomatch e
  .injection e with e1 _
   subst e1;cases v<;>rfl
def Vt(prog)(w)(i)(t):(Bp prog w).is (.inl i) (.int i t)=true:=Vn i t
def Vu(prog)(w)(x)(t):(Bp prog w).is (.inr x) (.str x t)=true:=Vo x t
inductive V where|non|bl(b:Bool)|int(i:Int)|str(x:Str)|byt(b:Array UInt8)|flt(b:UInt64)|ref(a:Addr)|ty(n:String)deriving DecidableEq
noncomputable abbrev dH:=List V
noncomputable def AR:V->Value->Prop|.non,u=>u=Value.none|.bl b,u=>u=Value.bool b|.int i,u=>∃t,u=Value.int i t|.str x,u=>∃t,u=Value.str x t|.byt b,u=>∃t,u=Value.bytes b t|.flt b,u=>∃t,u=Value.float b t|.ref a,u=>u=Value.ref a|.ty n,u=>u=Value.type n
noncomputable abbrev AW:dH->B6->Prop:=Paired AR
def AW.length(r:AW xs us):xs.length=us.length:=Paired.length r
theorem AW.get:∀{xs}{us}{i:Nat}{x},AW xs us->xs[i]?\x->∃u,us[i]?\u/\AR x u
 |_,_,_,_,.nil,e=>by simp at e|_,_,0,_,.cons r _,e=>by simp_all|_,_,i+1,x,.cons _ t,e=>by let[u,h1,h2]:=AW.get t (~~~e);simp_all
theorem AW.set{x}(r:AR x u):∀{xs}{us}(i),AW xs us->AW (xs.set i x) (us.set i u)
 |_,_,_,.nil=>.nil|_,_,0,.cons _ t=>.cons r t|_,_,i+1,.cons q t=>.cons q (AW.set r i t)
noncomputable def AW.append{a}(h:AW xs us)(s:AW ys a):AW (xs++ys) (us++a):=by induction h with
 |nil=>show s|cons r t c=>show .cons r c
theorem AW.take:∀{xs}{us}(n),AW xs us->AW (xs.take n) (us.take n)
 |_,_,0,_=>.nil|_,_,_+1,.nil=>.nil|_,_,n+1,.cons r t=>.cons r (AW.take n t)
theorem AW.drop:∀{xs}{us}(n),AW xs us->AW (xs.drop n) (us.drop n)
 |_,_,0,r=>r|_,_,_+1,.nil=>.nil|_,_,n+1,.cons _ t=>AW.drop n t
noncomputable def CK:Option V->C2->Prop|some v,some u=>AR v u|none,none=>True|_,_=>False
def KV:List (κ×V)->List (κ×Value)->Prop:=(Paired λ(p:κ×V)(q:κ×Value)=>p.1=q.1/\AR p.2 q.2)
noncomputable def kV:AT->V|.inl i=>.int i|.inr x=>.str x
inductive HO where|lst(xs:dH)|tup(xs:dH)|dK(qH:List (AT×V))|dT(qH:List (List AT×V))|set(S:Int->Bool)(n:Nat)|ins(C dx:Addr)(fs:List (Str×V))|own(x:Addr)|xd(fs:List (Str×V))|met(f x:Addr)|rng(lo hi:Int)|frz(o:Obj)(u:HO)|tbl(ps:Do)|ext(φ:Heap->Prop)
noncomputable abbrev Hp:=Addr->Option HO
def AB(H:Hp)(a:Addr)(o:HO):Hp:=(λb=>if b=a then some o else H b)
def AN:AB H a o a\o:=by unfold AB;rw[aC rfl]
def AE(h:b≠a):AB H a o b=H b:=by unfold AB;rw[aB h]
def HM{o u}:AB (AB H a o) a u=AB H a u:=by funext b;unfold AB;split<;>rfl
def CC{H:Hp}{o u}(h:H a\o)(h':H b\u)(d:o≠u):a≠b:=by lia
def Af{H:Hp}(h:H a\o)(h':H b=none):a≠b:=by lia
def DT(h:Heap)(a:Addr)(items:Do):Prop:=(∃o,h.get? a\o/\o.cls=.type "tuple"/\(∃n,o.data=.seq items n)/\o.dict=none)
def DT.tup{items}(x:DT h a items):IsTup h a items:=by let[o,e,c,d,_]:=x;show#[o,e,c,d]
def DT.new(h:Heap)(items:Do):DT (h.push {cls:=.type "tuple",data:=.seq items}) h.objs.size items:={_,bP _ rfl,0,#[_,0],0}
section
variable(P:Program)(w:World)
noncomputable def BB(H:Hp)(h:Heap)(a:Addr):HO->Prop
 |.lst xs=>xs.length<=sizeLine/\∃(qG:B6)(n:Nat),AW xs qG/\h.get? a\{cls:=.type "list",data:=.seq qG.toArray n}|.tup xs=>xs.length<=sizeLine/\∃qG:B6,AW xs qG/\DT h a qG.toArray|.dK qH=>qH.length<=sizeLine/\(a==sysModules)=false/\∃vs,KV qH vs/\h.DictOf (Bp P w) a vs|.dT qH=>qH.length<=sizeLine/\(a==sysModules)=false/\∃xs:List (List AT×Addr×Value),Paired (λ(p:List AT×V)(q:List AT×Addr×Value)=>p.1=q.1/\H q.2.1\(.tup (p.1.map kV))/\AR p.2 q.2.2) qH xs/\∃o es ep,h.get? a\o/\o.ExactDict/\o.data=.dict es ep/\es.toList=xs.map (entryOfKey (tupleKind (Bp P w)))/\(xs.map (·.1)).Nodup|.set S n=>h.SetOf (intKind P w) a S n|.ins C dx fs=>H dx\(.own a)/\fs.length<=1000/\dx≠a/\h.get? a\(PySem.W.instObj C dx)/\∃mA,h.Ns1 dx mA/\(∀f,CK (fs.lookup f) (mA f))/\PySem.Within mA (fs.map (·.1))|.own _=>∃o,h.get? a\o|.xd fs=>∃mA,h.Ns1 a mA/\∀f,CK (fs.lookup f) (mA f)|.rng lo hi=>∃t u v,h.get? a\{cls:=.type "range",data:=.fields [.int lo t,.int hi u,.int 1 v].toArray}|.frz o u=>h.get? a\o/\BB H h a u|.tbl ps=>h.get? a\{cls:=.none,data:=.fields ps}|.met f x=>h.get? a\(PySem.W.methodObj (.ref f) (.ref x))|.ext φ=>φ h/\(∃o,h.get? a\o)/\∀h1 h2:Heap,φ h1->(∀o,h1.get? a\o->h2.get? a\o)->φ h2
def A3(H:Hp)(h:Heap):Prop:=(∀a o,H a\o->BB P w H h a o)
end
section
variable{P:Program}{H H':Hp}{o:HO}
noncomputable def BB.lt(x:BB P w H h a o):a<h.objs.size:=by cases o with
 |lst xs=>let[_,_,_,_,e]:=x;show bN e|tup xs=>let[_,_,_,p]:=x;show p.tup.lt|dK qH=>let[_,_,_,_,o,_,_,e,_]:=x;show bN e|dT qH=>let[_,_,_,_,o,_,_,e,_]:=x;show bN e|set S n=>let[o,_,_,_,e,_]:=x;show bN e|ins C dx fs=>let[_,_,_,e,_]:=x;show bN e|own y=>let[_,e]:=x;show bN e|xd fs=>let[_,[_,_,_,e,_],_]:=x;show bN e|rng lo hi=>let[_,_,_,e]:=x;show bN e|frz ob u=>let[e,_]:=x;show bN e|tbl ps=>show bN (x)|met f y=>show bN (x)|ext φ=>let[_,[_,e],_]:=x;show bN e
noncomputable def Paired.mapP{l₂:List β}(h:Paired F l₁ l₂)(f:∀a b,F a b->G a b):Paired G l₁ l₂:=by induction h with
 |nil=>show .nil|cons r t c=>show .cons (f _ _ r) c
noncomputable def BB.stay(x:BB P w H h a o)(k:∀b u,(b=a\/H b\(.own a))->h.get? b\u->h'.get? b\u)(j:∀b,H b\(.own a)->H' b\(.own a))(i:∀b xs,H b\(.tup xs)->H' b\(.tup xs)):BB P w H' h' a o:=by induction o with
 |lst xs=>let[z,qG,n,r,e]:=x;show{z,qG,n,r,k _ _ (.inl rfl) e}|tup xs=>let[z,qG,r,ob,e,c]:=x;show{z,qG,r,ob,k _ _ (.inl rfl) e,c}|dK qH=>let[z,y,vs,r,ob,es,ep,e,c]:=x;show{z,y,vs,r,ob,es,ep,k _ _ (.inl rfl) e,c}|dT qH=>let[z,y,xs,r,ob,es,ep,e,c]:=x;show{z,y,xs,Paired.mapP r λp q z=>{z.1,i _ _ z.2.1,z.2.2},ob,es,ep,k _ _ (.inl rfl) e,c}|set S n=>let[ob,es,ep,t,e,c]:=x;show{ob,es,ep,t,k _ _ (.inl rfl) e,c}|ins C dx fs=>let[d,z,ne,e,mA,[od,es,ep,l,c],r]:=x;show{j _ d,z,ne,k _ _ (.inl rfl) e,mA,{od,es,ep,k _ _ (.inr d) l,c},r}|own y=>let[ob,e]:=x;show{ob,k _ _ (.inl rfl) e}|xd fs=>let[mA,[od,es,ep,e,c],r]:=x;show{mA,{od,es,ep,k _ _ (.inl rfl) e,c},r}|rng lo hi=>let[t,u,v,e]:=x;show{t,u,v,k _ _ (.inl rfl) e}|frz ob u g=>let[e,q]:=x;show{k _ _ (.inl rfl) e,g q}|tbl ps=>let e:=x;show k a _ (.inl rfl) e|met f y=>let e:=x;show k a _ (.inl rfl) e|ext φ=>let[p,[o,e],st]:=x;show{st _ _ p λo q=>k _ _ (.inl rfl) q,{o,k _ _ (.inl rfl) e},st}
def A3.lt(x:A3 P w H h)(e:H a\o):a<h.objs.size:=(x a o e).lt
def A3.fresh(x:A3 P w H h)(e:h.objs.size<=a):H a=none:=by cases q:H a with|none=>rfl|some u=>show bS (aU (x.lt q) e) (aX _)
def A3.kept(x:A3 P w H h)(k:∀b u,h.get? b\u->h'.get? b\u):A3 P w H h':=λa o e=>(x a o e).stay (λb u _ q=>k b u q) (λ_ q=>q) λ_ _ q=>q
def A3.laid(x:A3 P w H h)(k:∀b u,h.get? b\u->h'.get? b\u)(hp:h.objs.size<=a)(new:BB P w (AB H a o) h' a o):A3 P w (AB H a o) h':=λb u e=>by
 let hn:=x.fresh hp;by_cases hb:b=a
 .subst hb;rw[AN]at e;simp_all
 .rw[AE hb]at e;show(x b u e).stay (λc v _ q=>k c v q) (λc q=>by rw[AE (Af q hn)];show q) λc xs q=>by rw[AE (Af q hn)];show q
end
def Rd(H:Hp)(a:Addr)(u:HO):Prop:=(H a\u\/∃o,H a\(.frz o u))
def Rd.of{u}(h:H a\u):Rd H a u:=.inl h
def Rd.ok{u}(r:Rd H a u)(x:A3 P w H h):BB P w H h a u:=by
 let r||[o,r]:=r
 .show x a u r
 .let[_,q]:=x a _ r;show q
noncomputable def HN:Option HO->Prop
 |some (.lst _)=>True|some (.dK _)=>True|some (.dT _)=>True|some (.set _ _)=>True|some (.ins _ _ _)=>True|some (.ext _)=>True|_=>False
section
variable{P:Program}{H:Hp}{x e:Addr}{o':HO}
def A3.write(ok:A3 P w H h)(g:HN (H x))(j:e=x\/H e\(.own x))(k:∀b u,b≠e->h.get? b\u->h'.get? b\u)(i:∃u,h'.get? e\u)(new:BB P w (AB H x o') h' x o'):A3 P w (AB H x o') h':=λb u q=>by
 let d:∀c y,H c\(.own y)->c≠x:=λc y r z=>by subst z;rw[r]at g;show g
 let f:∀c xs,H c\(.tup xs)->c≠x:=λc xs r z=>by subst z;rw[r]at g;show g
 by_cases hb:b=x
 .subst hb;rw[AN]at q;cases q;show new
 .rw[AE hb]at q;by_cases a:b=e
  .let q':H b\(.own x):=by lia
   rw[q]at q';cases q';let[v,hv]:=i;show{v,by rw[a];show hv}
  .show(ok b u q).stay (λc v hc r=>k c v ?_ r) (λc r=>by rw[AE (d c b r)];show r) λc xs r=>by rw[AE (f c xs r)];show r
   grind
end
structure Un(fs ex:Ge)(H H':Hp)(h h':Heap):Prop where
 keep:∀b o,h.get? b\o->H b=none->b∉fs->b∉ex->h'.get? b\o
 slot:∀b o,h.get? b\o->H b=none->b∈fs->b∉ex->∃sl,h'.get? b\{o with slots:=sl}free:∀b o,h.get? b\o->H b=none->b∉ex->H' b=none
 there:∀b o,h.get? b\o->b∉ex->∃o',h'.get? b\o'
 tups:∀b xs,H b\(.tup xs)->H' b\(.tup xs)frzs:∀b o u,H b\(.frz o u)->H' b\(.frz o u)tbls:∀b ps,H b\(.tbl ps)->∃more,H' b\(.tbl (ps++more))
section
variable{fs fs' ex ex':Ge}{H H1 H2:Hp}{h2:Heap}{x e:Addr}{o:HO}
def Un.any(u:Un fs ex H H1 h h1)(q:h.get? b\ob)(n:H b=none)(a:b∉ex):∃sl,h1.get? b\{ob with slots:=sl}:=by
 by_cases hb:b∈fs
 .show u.slot b ob q n hb a
 .show{ob.slots,u.keep b ob q n hb a}
theorem Un.trans(a:Un fs ex H H1 h h1)(b:Un fs ex H1 H2 h1 h2):Un fs ex H H2 h h2 where
 keep:=λc ob q n f d=>b.keep c ob (a.keep c ob q n f d) (a.free c ob q n d) f d
 slot:=λc ob q n f d=>by let[sl,e]:=a.slot c ob q n f d;let[g,i]:=b.slot c _ e (a.free c ob q n d) f d;show#[g,i]
 free:=λc ob q n d=>by let[o',e]:=a.there c ob q d;show b.free c o' e (a.free c ob q n d) d
 there:=λc ob q d=>by let[o',e]:=a.there c ob q d;show b.there c o' e d
 tups:=λc xs q=>b.tups c xs (a.tups c xs q)
 frzs:=λc ob xs q=>b.frzs c ob xs (a.frzs c ob xs q)
 tbls:=λc ps q=>by let[l,e]:=a.tbls c ps q;let[j,i]:=b.tbls c _ e;show{l++j,by simp_all}
def Un.kept(k:∀b u,h.get? b\u->h'.get? b\u):Un fs ex H H h h':=#[λb ob q _ _ _=>k b ob q,λb ob q _ _ _=>{ob.slots,k b ob q},λ_ _ _ n _=>n,λb ob q _=>{ob,k b ob q},λ_ _ q=>q,λ_ _ _ q=>q,λ_ ps q=>{#[],by rw[q];simp}]
def Un.refl:Un fs ex H H h h:=Un.kept λ_ _ q=>q
theorem Un.laid(k:∀b u,h.get? b\u->h'.get? b\u)(hp:h.objs.size<=a)(hn:H a=none):Un fs ex H (AB H a o) h h' where
 keep:=λb u q _ _ _=>k b u q
 slot:=λb u q _ _ _=>{u.slots,k b u q}
 free:=λb u q n _=>by rw[AE (bX (aU (bN q) hp))];show n
 there:=λb u q _=>{u,k b u q}
 tups:=λb xs q=>by rw[AE (Af q hn)];show q
 frzs:=λb u xs q=>by rw[AE (Af q hn)];show q
 tbls:=λb ps q=>{#[],by rw[AE (Af q hn),q];simp}
def Un.write(c:HN (H x))(g:e=x\/H e\(.own x))(k:∀b u,b≠e->h.get? b\u->h'.get? b\u)(d:∃u,h'.get? e\u):Un fs ex H (AB H x o) h h':=by
 let f:∀b,H b=none->b≠x:=λb n z=>by subst z;rw[n]at c;show c
 let hb:∀b,H b=none->b≠e:=λb n z=>by
  subst z;let r||r:=g
  .show f b n r
  .rw[n]at r;cases r
 let hm:∀b u,H b\u->¬HN (some u)->b≠x:=λb u q nm z=>by subst z;rw[q]at c;show nm c
 show#[λb u q n _ _=>k b u (hb b n) q,λb u q n _ _=>{u.slots,k b u (hb b n) q},λb u q n _=>by rw[AE (f b n)];show n,λb u q _=>?_,λb xs q=>by rw[AE (hm b _ q λz=>z)];show q,λb u xs q=>by rw[AE (hm b _ q λz=>z)];show q,λb ps q=>{#[],by rw[AE (hm b _ q λz=>z),q];simp}]
 by_cases a:b=e
 .simp_all
 .show{u,k b u a q}
end
def JN(h:Heap)(H:Hp):Ge:=((List.range h.objs.size).filter λa=>(H a).isSome)
def EQ(h:Heap)(H:Hp):Heap:=(PySem.W.hideAll h (JN h H))
def Vv(h)(H):(EQ h H).objs.size=h.objs.size:=PySem.W.hideAll_size _ _
def Vw(e:h.get? b\o)(n:H b=none):(EQ h H).get? b\o:=PySem.W.hideAll_get _ e λa=>by let q:(H b).isSome=true:=(cX.mp a).2;rw[n]at q;simp at q
def Vx(e:(EQ h H).get? b\o):h.get? b\o/\H b=none:=by let a:=PySem.W.of_hideAll _ e;show#[a,?_];cases q:H b with|none=>rfl|some x=>let c:b∈JN h H:=cX.mpr {mem_range.mpr (bN a),by simp[q]};let z:(EQ h H).get? b=none:=PySem.W.hideAll_none _ c;simp_all
def JO(g h:Heap)(L:Addr):List (Addr×Obj):=((List.range h.objs.size).filterMap λa=>if a=L\/(g.get? a).isSome=true then none else(h.get? a).map λo=>(a,o))
def Lx(h1:a≠L)(h2:g.get? a=none)(c:h.get? a\o):(a,o)∈JO g h L:=mem_filterMap.mpr {a,mem_range.mpr (bN c),by simp_all}
set_option tactic.hygienic true in
def Vy{p}(c:p∈JO g h L):p.1≠L/\g.get? p.1=none/\h.get? p.1\p.2:=by
 let[b,_,e]:=mem_filterMap.mp c;split at e
 .cases e
 .rename_i a;cases q:h.get? b with|none=>simp_all|some u=>rw[q]at e;simp only[Option.map_some,Option.some.injEq]at e;subst e;simp_all
def qE(g h:Heap)(L d:Addr):List (Addr×Obj):=((JO g h L).filter λp=>decide (p.1≠d))
def Vz:News g L h (JO g h L):=λp d=>by let[a,b,c]:=Vy d;show#[c,a,b]
structure Mod(K:Fg)(mg:Str->C2)(base:Heap):Prop where
 kin:K.In base
 glob:base.Ns mainGlobals mg
 blt:∃mb,base.Ns builtinsNs mb/\∀x:Str,x≠"__name__"->mb x=bootBuiltins x
 nolimit:base.NoLimit
structure Cx where
 prog:Program
 w:World
 K:Fg
 mg:Str->C2
 base:Heap
 A:Around
 N:At
 s₀:Shared
 H₀:Hp
 env:Env
 outer:List Env
 stack:List Env
 ex:Ge
 fn:Str->Bool
 calm:Bool
 pn:List (Addr×Obj)xe:VS
end L2
variable{ys vs:List L2.V}{H H' H1 H2:L2.Hp}{o:L2.HO}{X:L2.Cx}{v:L2.V}
namespace L2
def frs(l:List Env):Ge:=(l.filterMap (·.frame))
noncomputable abbrev Cx.fs(X:Cx):Ge:=frs X.outer
def Dj(sc:Scope)(x:Str):Prop:=(sc.names.lookup x\.local\/sc.names.lookup x\.cell\/sc.names.lookup x\.free)
def D5(sc:Scope)(x:Str):Prop:=(sc.names.lookup x\.local\/sc.names.lookup x\.cell)
def PX(env:Env)(h:Heap)(m:Str->C2)(x:Str)(u:Value):Prop:=((env.kindOf x\.local/\m x\u)\/((env.kindOf x\.cell\/env.kindOf x\.free)/\∃c,env.cells.lookup x\c/\h.IsCell c (some u)))
structure Cx.Ok(X:Cx):Prop where
 mod:Mod X.K X.mg X.base
 kind:X.env.scope.kind=.function
 glob:X.env.globals=mainGlobals
 blt:X.env.builtins=builtinsNs
 above:X.s₀.heap.objs.size<=X.env.locals
 inj:∀x y c,X.env.cells.lookup x\c->X.env.cells.lookup y\c->x=y
 has:∀x,(X.env.kindOf x\.cell\/X.env.kindOf x\.free)->∃c,X.env.cells.lookup x\c
 cab:∀x c,X.fn x=true->X.env.cells.lookup x\c->X.s₀.heap.objs.size<=c
 hd:X.calm=true->X.A.handled=none
 frames:X.A.frames\X.stack
 stk:X.stack=X.outer\/(X.stack=X.env::X.outer/\X.env.frame\X.env.locals)exf:∀b∈X.ex,b≠X.env.locals/\∀x c,X.env.cells.lookup x\c->c≠b
 bs:∀b o,X.base.get? b\o->X.s₀.heap.get? b\o/\X.H₀ b=none
 bsz:X.base.objs.size<=X.s₀.heap.objs.size
 noex:∀b o,X.base.get? b\o->b∉X.ex
 exfs:∀b∈X.ex,b∉X.fs
 funs:X.s₀.heap.FunFrames X.base X.outer
 frf:∀b∈X.fs,X.H₀ b=none
structure Inv(X:Cx)(qA:List (Addr×Obj))(U:List (Option V))(H:Hp)(s:Shared):Prop where
 ok:X.Ok
 os:s.os=X.s₀.os
 bare:AllBare s.gens
 base:Un X.fs X.ex X.H₀ H X.s₀.heap s.heap
 loc:∃m,s.heap.Ns X.env.locals m/\∀(i:Nat)(x:Str)(v:V),X.N[i]?\x->U[i]?\(some v)->Dj X.env.scope x->∃u,AR v u/\PX X.env s.heap m x u
 cell:∀x c,X.env.cells.lookup x\c->∃v,s.heap.IsCell c v
 free:H X.env.locals=none
 freeC:∀x c,X.env.cells.lookup x\c->H c=none
 pin:∀p∈X.pn++qA,'F' p.1\p.2/\H p.1=none/\p.1≠X.env.locals/\p.1∉X.fs/\∀v,p.2.data≠.cell v
 hok:A3 X.prog X.w H s.heap
 len:U.length=X.N.length
section
variable{U:List (Option V)}
def Cx.Ok.nofr(ok:X.Ok){o}(e:X.base.get? b\o):b∉X.fs:=λhb=>by let:=(ok.funs.mem hb).1;rw[e]at this;cases this
def Inv.bs(I:'D'):∀b o,X.base.get? b\o->'F' b\o/\H b=none:=λb o e=>{I.base.keep b o (I.ok.bs b o e).1 (I.ok.bs b o e).2 (I.ok.nofr e) (I.ok.noex b o e),I.base.free b o (I.ok.bs b o e).1 (I.ok.bs b o e).2 (I.ok.noex b o e)}
def Inv.bk(I:'D'):∀b o,X.base.get? b\o->'F' b\o:=λb o e=>(I.bs b o e).1
def Inv.mod(I:'D'):Mod X.K X.mg X.base:=I.ok.mod
def Inv.kIn(I:'D'):X.K.In s.heap:=I.ok.mod.kin.keeps I.bk
def Inv.nolimit(I:'D'):s.heap.NoLimit:=I.ok.mod.nolimit.keeps I.bk
def Inv.lt(I:'D'):X.env.locals<'H':=by let[_,hn,_]:=I.loc;show hn.lt
def Inv.sz(I:'D'):X.s₀.heap.objs.size<='H':=aR I.ok.above (aY I.lt)
def Inv.nofs(I:'D')(h:'H'<=a):a∉X.fs:=λhb=>by let[_,o,c,_]:=I.ok.funs.mem hb;show bS (aU (bN c) (aR I.sz h)) (aX _)
def Inv.cne(I:'D'):∀x c,X.env.cells.lookup x\c->c≠X.env.locals:=λx c e z=>by let[v,o,f,hd]:=I.cell x c e;let[m,[o',es,ep,a,d,_],_]:=I.loc;rw[z,a]at f;cases f;rw[d]at hd;cases hd
def Inv.funs(I:'D'):s.heap.FunFrames X.base X.outer:=by
 let all:∀(l),(∀b∈frs l,b∈X.fs)->X.s₀.heap.FunFrames X.base l->s.heap.FunFrames X.base l:=by
  intro l
  induction l with
  |nil=>intro _ _;trivial|cons env r c=>rintro hs⟨h,⟨L,o,hf,hn,f,hd⟩,d⟩;let a:=hs L (by unfold frs;rw[filterMap_cons,hf];show cA);let[sl,e]:=I.base.slot L o f (I.ok.frf L a) a λz=>I.ok.exfs L z a;show{h,#[L,_,hf,hn,e,hd],c (λb hb=>hs b (by unfold frs;rw[filterMap_cons,hf];show bT _ hb)) d}
 show all X.outer (λ_ hb=>hb) I.ok.funs
def Inv.stack(I:'D'):s.heap.FunFrames X.base X.stack:=by
 let e||[e,hf]:=I.ok.stk
 .rw[e];show I.funs
 .rw[e];let[m,hn,_]:=I.loc;show .cons (by rw[I.ok.kind];decide) hf hn ?_ I.funs;show Heap.get?_none_of_le (aR I.ok.bsz I.ok.above)
def Inv.stkSub(I:'D'):∀b∈frs X.stack,b∈X.env.locals::X.fs:=λb hb=>by
 let e||[e,hf]:=I.ok.stk
 .rw[e]at hb;show bT _ hb
 .rw[e]at hb;unfold frs at hb;rw[filterMap_cons,hf]at hb;show hb
def Inv.stkFree(I:'D'):∀b∈frs X.stack,H b=none:=λb hb=>by
 let e||hb:=aF.mp (I.stkSub b hb)
 .rw[e];show I.free
 .let[_,o,a,_]:=I.ok.funs.mem hb;show I.base.free b o a (I.ok.frf b hb) λz=>I.ok.exfs b z hb
def Inv.step{ch:Ge}(I:'D')(g:∀b∈ch,(b∈X.ex\/X.s₀.heap.objs.size<=b)/\b≠X.env.locals/\(∀x c,X.env.cells.lookup x\c->c≠b)/\∀p∈X.pn++qA,p.1≠b)(keep:∀b o,b≠X.env.locals->b∉X.fs->b∉ch->'F' b\o->H b=none->h'.get? b\o)(slot:∀b o,b≠X.env.locals->b∈X.fs->b∉ch->'F' b\o->H b=none->∃sl,h'.get? b\{o with slots:=sl})(free:∀b o,b∉ch->'F' b\o->H b=none->H' b=none)(there:∀b o,b∉ch->'F' b\o->∃o',h'.get? b\o')(tups:∀b xs,H b\(.tup xs)->H' b\(.tup xs))(frzs:∀b o u,H b\(.frz o u)->H' b\(.frz o u))(tbls:∀b ps,H b\(.tbl ps)->∃more,H' b\(.tbl (ps++more)))(ns:∀m,s.heap.Ns X.env.locals m->h'.Ns X.env.locals m)(hok:A3 X.prog X.w H' h')(N:AllBare g'):Inv X qA U H' {s with heap:=h',gens:=g',drawn:=d',toks:=t'}:=by
 let B:∀b o,X.s₀.heap.get? b\o->b≠X.env.locals:=λb o e=>bX (aU (bN e) I.ok.above);let j:∀b o,X.s₀.heap.get? b\o->b∉X.ex->b∉ch:=λb o e a hb=>by
  let z||z:=(g b hb).1
  .show a z
  .show bS (aU (bN e) z) (aX _)
 let h:∀x c,X.env.cells.lookup x\c->∀v,s.heap.IsCell c v->h'.IsCell c v:=λx c e v⟨o,A,hd⟩=>by
  let f:=λz=>(g c z).2.2.1 x c e rfl;by_cases G:c∈X.fs
  .let[sl,q]:=slot c o (I.cne x c e) G f A (I.freeC x c e);show#[_,q,hd]
  .show{o,keep c o (I.cne x c e) G f A (I.freeC x c e),hd}
 show{I.ok,I.os,N,{λb o e n hb a=>?_,λb o e n hb a=>?_,λb o e n a=>?_,λb o e a=>?_,λb xs e=>tups b xs (I.base.tups b xs e),λb o xs e=>frzs b o xs (I.base.frzs b o xs e),λb ps e=>?_},?_,λx c e=>?_,?_,λx c e=>?_,λp hp=>?_,hok,I.len}
 .show keep b o (B b o e) hb (j b o e a) (I.base.keep b o e n hb a) (I.base.free b o e n a)
 .let[sl,y]:=I.base.slot b o e n hb a;let[D,C]:=slot b _ (B b o e) hb (j b o e a) y (I.base.free b o e n a);show#[D,C]
 .let[o',y]:=I.base.there b o e a;show free b o' (j b o e a) y (I.base.free b o e n a)
 .let[o',y]:=I.base.there b o e a;show there b o' (j b o e a) y
 .let[L,y]:=I.base.tbls b ps e;let[J,C]:=tbls b _ y;show{L++J,by rw[C,Array.append_assoc]}
 .let[m,hn,M]:=I.loc;show{m,ns m hn,λi x v y C O=>?_};let[u,r,l]:=M i x v y C O;show#[u,r,?_];let l||[k,c,e,z]:=l
  .show .inl l
  .show .inr {k,c,e,h x c e _ z}
 .let[v,z]:=I.cell x c e;show{v,h x c e v z}
 .let[m,[o,_,_,A,_],_]:=I.loc;show free _ o (λz=>(g _ z).2.1 rfl) A I.free
 .let[v,o,A,hd]:=I.cell x c e;show free c o (λz=>(g c z).2.2.1 x c e rfl) A (I.freeC x c e)
 .let[e,n,ne,E,d]:=I.pin p hp;let f:=λz=>(g p.1 z).2.2.2 p hp rfl;show{keep p.1 p.2 ne E f e n,free p.1 p.2 f e n,ne,E,d}
def Inv.un(I:'D')(u:Un X.fs [] H H' s.heap h')(hok:A3 X.prog X.w H' h'):Inv X qA U H' {s with heap:=h',toks:=t'}:=by
 let[m,[o,es,ep,f,r],_]:=id I.loc;let[sl,h]:=u.any f I.free '2';show I.step (ch:=[]) '6' (λb o _ hb _ e n=>u.keep b o e n hb '2') (λb o _ hb _ e n=>u.slot b o e n hb '2') (λb o _ e n=>u.free b o e n '2') (λb o _ e=>u.there b o e '2') u.tups u.frzs u.tbls (λi hm=>by let[o',c,d,a,g]:=hm;rw[f]at a;cases a;show#[_,c,d,h,g]) hok I.bare
def Inv.call(I:'D')(u:Un (frs X.stack) ch H H' s.heap h')(hok:A3 X.prog X.w H' h')(q:AllBare g')(f:∀b∈ch,(b∈X.ex\/X.s₀.heap.objs.size<=b)/\b≠X.env.locals/\(∀x c,X.env.cells.lookup x\c->c≠b)/\∀p∈X.pn++qA,p.1≠b):Inv X qA U H' {s with heap:=h',gens:=g',drawn:=d',toks:=t'}:=by
 let[m,[o,es,ep,j,r],_]:=id I.loc;let[sl,g]:=u.any j I.free λz=>(f _ z).2.1 rfl;show I.step f (λb o g hb a e n=>u.keep b o e n (λz=>(aF.mp (I.stkSub b z)).elim g hb) a) (λb o _ _ a e n=>u.any e n a) (λb o a e n=>u.free b o e n a) (λb o a e=>u.there b o e a) u.tups u.frzs u.tbls (λv hm=>by let[o',h,i,d,l]:=hm;rw[j]at d;cases d;show#[_,h,i,g,l]) hok q
def Inv.turned(I:'D')(k:∀b o,b≠it->'F' b\o->h'.get? b\o)(hn:H it=none)(f:it≠X.env.locals)(h1:it∈X.ex\/X.s₀.heap.objs.size<=it)(h2:∀x c,X.env.cells.lookup x\c->c≠it)(h:∀p∈X.pn++qA,p.1≠it):Inv X qA U H {s with heap:=h',toks:=t'}:=by
 let d:∀b u,H b\u->b≠it:=λb u e z=>by rw[z,hn]at e;cases e
 show I.step (ch:=[it]) (λb hb=>?_) (λb o _ _ a e _=>k b o (λz=>a (by simp[z])) e) (λb o _ _ a e _=>{o.slots,k b o (λz=>a (by simp[z])) e}) (λ_ _ _ _ n=>n)
  (λb o a e=>{o,k b o (λz=>a (by simp[z])) e}) (λ_ _ e=>e) (λ_ _ _ e=>e) (λb ps e=>{#[],by rw[e];simp}) (λm hm=>?_) (λb u e=>?_) I.bare
 .let e:b=it:=by simpa using hb
  subst e;show#[h1,f,h2,h]
 .let[o,es,ep,g,r]:=hm;show{o,es,ep,k _ o (Ne.symm f) g,r}
 .show(I.hok b u e).stay (λc v a q=>k c v ?_ q) (λ_ q=>q) λ_ _ q=>q;let z||z:=a
  .rw[z];show d b u e
  .show d c _ z
def Inv.tok(I:'D')(t):Inv X qA U H {s with toks:=t}:=I.un Un.refl I.hok
def Inv.kept(I:'D')(k:∀b u,'F' b\u->h'.get? b\u):Inv X qA U H {s with heap:=h',toks:=t'}:=I.un (Un.kept k) (I.hok.kept k)
def Inv.laid(I:'D')(k:∀b u,'F' b\u->h'.get? b\u)(hp:'H'<=a)(new:BB X.prog X.w (AB H a o) h' a o):Inv X qA U (AB H a o) {s with heap:=h',toks:=t'}:=I.un (Un.laid k hp (I.hok.fresh hp)) (I.hok.laid k hp new)
def Inv.write{x e}(I:'D')(c:HN (H x))(d:e=x\/H e\(.own x))(k:∀b u,b≠e->'F' b\u->h'.get? b\u)(a:∃u,h'.get? e\u)(new:BB X.prog X.w (AB H x o) h' x o):Inv X qA U (AB H x o) {s with heap:=h',toks:=t'}:=I.un (Un.write c d k a) (I.hok.write c d k a new)
def Inv.weak(I:'D')(c:σ'.length=U.length)(w:∀(i:Nat)v,σ'[i]?\(some v)->U[i]?\(some v)):Inv X qA σ' H s:={I.ok,I.os,I.bare,I.base,(by let[m,hn,a]:=I.loc;show{m,hn,λi x v f e d=>a i x v f (w i v e) d}),I.cell,I.free,I.freeC,I.pin,I.hok,c.trans I.len}
def Inv.pins_of{a}(I:'D')(h:∀p∈a,'F' p.1\p.2/\H p.1=none/\p.1≠X.env.locals/\p.1∉X.fs/\∀v,p.2.data≠.cell v):Inv X a U H s:={I.ok,I.os,I.bare,I.base,I.loc,I.cell,I.free,I.freeC,λp hp=>(bA.mp hp).elim (λz=>I.pin p (mem_append_left _ z)) (h p),I.hok,I.len}
def Ly(c:N.Nodup)(a:N[i]?\x)(b:N[j]?\x):i=j:=by let[h1,e]:=aI.mp a;let[h2,d]:=aI.mp b;show(getElem_inj c).mp (e.trans d.symm)
def Lz{Q}(I:'D')(hN:X.N.Nodup)(hi:X.N[i]?\x)(B:D5 X.env.scope x)(r:AR v u)(h:∀s',Inv X qA (U.set i (some v)) H s'->(∃a,Heap.SameBut a s.heap s'.heap/\(a=X.env.locals\/X.env.cells.lookup x\a))->Q () s')(hf:X.fn x=true\/X.env.scope.names.lookup x\.local:=by trivial):wpAny M A (storeName X.env x u) Q E s:=by
 let[m,hn,hl]:=id I.loc;let ρ:(X.env.scope.kind==.class||(X.env.scope.kind==.module&&X.env.locals !=X.env.globals))=false:=by rw[I.ok.kind];rfl
 let G:i<U.length:=by rw[I.len];show(aI.mp hi).1
 let cne:=I.cne;let g:∀{a}{h'},(∃o,'F' a\o/\H a=none)->Heap.SameBut a s.heap h'->A3 X.prog X.w H h':=λ{a h'}ha f b ob e=>by
  let[_,_,C]:=ha;show(I.hok b ob e).stay (λc w' hc q=>(f.2 c ?_).trans q) (λ_ q=>q) λ_ _ q=>q;rintro rfl;let 0||hc:=hc
  .rw[C]at e;cases e
  .rw[C]at hc;cases hc
 let hk||hk:=B
 .show wpAny_storeName_local hk hn (λh' a3 f=>?_) ρ;let[oL,_,_,a2,_]:=id hn;show h _ {I.ok,I.os,I.bare,{λb o e n O B=>?_,λb o e n O B=>?_,I.base.free,λb o e B=>?_,I.base.tups,I.base.frzs,I.base.tbls},{_,a3,λj y v' l D e3=>?_},λy c e=>?_,I.free,I.freeC,λp hp=>?_,g #[oL,a2,I.free] f,by simpa using I.len} {_,f,.inl rfl}
  .show(f.2 b (bX (aU (bN e) I.ok.above))).trans (I.base.keep b o e n O B)
  .let[sl,l]:=I.base.slot b o e n O B;show{sl,(f.2 b (bX (aU (bN e) I.ok.above))).trans l}
  .let[o',l]:=I.base.there b o e B;show{o',(f.2 b (bX (aU (bN e) I.ok.above))).trans l}
  .by_cases J:j=i
   .subst J;rw[hi]at l;cases l;rw[bY G]at D;cases D;show#[u,r,.inl #[hk,'2']]
   .rw[bV (Ne.symm J)]at D;let[u',r',q]:=hl j y v' l D e3;show#[u',r',?_];let[k,e]||[k,c,e,z]:=q
    .show .inl #[k,?_];let:y≠x:=λe=>J (Ly hN l (e▸hi));simp[this,e]
    .show .inr {k,c,e,z.sameBut f (cne y c e)}
  .let[w',z]:=I.cell y c e;show{w',z.sameBut f (cne y c e)}
  .let[e,n,ne,nf,d]:=I.pin p hp;show{(f.2 p.1 ne).trans e,n,ne,nf,d}
 .let L:X.fn x=true:=by
   let z||z:=hf
   .show z
   .rw[z]at hk;cases hk
  let[c,hc]:=I.ok.has x (.inl hk);let[w',z]:=I.cell x c hc;show wpAny_storeName_cell I.ok.kind hk hc z (λh' a1 f=>?_);let[oc,σ,T]:=id z;show h {s with heap:=h'} {I.ok,I.os,I.bare,{λb o e n O B=>?_,λb o e n O B=>?_,I.base.free,λb o e B=>?_,I.base.tups,I.base.frzs,I.base.tbls},{m,hn.sameBut f (Ne.symm (cne x c hc)),λj y v' l D e3=>?_},λy c' e=>?_,I.free,I.freeC,λp hp=>?_,g {oc,σ,I.freeC x c hc} f,by simpa using I.len} {c,f,.inr hc}
  .show(f.2 b (bX (aU (bN e) (I.ok.cab x c L hc)))).trans (I.base.keep b o e n O B)
  .let[sl,l]:=I.base.slot b o e n O B;show{sl,(f.2 b (bX (aU (bN e) (I.ok.cab x c L hc)))).trans l}
  .let[o',l]:=I.base.there b o e B;show{o',(f.2 b (bX (aU (bN e) (I.ok.cab x c L hc)))).trans l}
  .by_cases J:j=i
   .subst J;rw[hi]at l;cases l;rw[bY G]at D;cases D;show#[u,r,.inr {.inl hk,c,hc,a1}]
   .rw[bV (Ne.symm J)]at D;let[u',r',q]:=hl j y v' l D e3;show#[u',r',?_];let q||[k,c',e,z']:=q
    .show .inl q
    .show .inr {k,c',e,z'.sameBut f ?_};rintro rfl;show J (Ly hN l (I.ok.inj _ _ _ e hc▸hi))
  .by_cases a0:c'=c
   .subst a0;show#[_,a1]
   .let[w2,z2]:=I.cell y c' e;show{w2,z2.sameBut f a0}
  .let[e,n,ne,nf,d]:=I.pin p hp;show{(f.2 p.1 ?_).trans e,n,ne,nf,d};intro q;rw[q,σ]at e;let q':=oI e;show d w' (by rw[<-q'];show T)
def L4{Q}(I:'D')(d:X.N.Nodup)(hi:X.N[i]?\x)(a:D5 X.env.scope x)(r:AR v u)(h:∀s',Inv X qA (U.set i (some v)) H s'->Q () s')(c:X.fn x=true\/X.env.scope.names.lookup x\.local:=by trivial):wpAny M A (storeName X.env x u) Q E s:=Lz I d hi a r (λs' e _=>h s' e) c
def Inv.call'(I:'D')(d:s'.os=s.os)(u:Un (frs X.stack) ch H H' s.heap s'.heap)(hok:A3 X.prog X.w H' s'.heap)(f:AllBare s'.gens)(a:∀b∈ch,(b∈X.ex\/X.s₀.heap.objs.size<=b)/\b≠X.env.locals/\(∀x c,X.env.cells.lookup x\c->c≠b)/\∀p∈X.pn++qA,p.1≠b):Inv X qA U H' s':=by let[h',g',d',t',o']:=s';let e:=d;subst e;show I.call u hok f a
end
noncomputable abbrev XK:=Value->FG->Hp->Prop
noncomputable abbrev St:=List (Option V)
noncomputable abbrev VK:=V->Hp->Prop
noncomputable abbrev TE:=St->Hp->VK->Prop
end L2
variable{ι:Type}{Xs:ι->L2.Cx}
variable{U σ':L2.St}{ta tb te:L2.TE}
namespace L2
noncomputable abbrev TT:=St->Hp->(Bool->Hp->Prop)->Prop
noncomputable abbrev TA:=St->Hp->(dH->Hp->Prop)->Prop
structure Ends where
 nx:St->Hp->Prop
 rt:VK
 bk:St->Hp->Prop:=λ_ _=>False
 ct:St->Hp->Prop:=λ_ _=>False
noncomputable abbrev TS:=Ends->St->Hp->Prop
def EP(X:Cx)(qA:List (Addr×Obj))(U:St)(Q:VK)(u:Value)(s':Shared):Prop:=(∃v H',Inv X qA U H' s'/\AR v u/\Q v H')
def TP(X:Cx)(qA:List (Addr×Obj))(U:St)(Q:Bool->Hp->Prop)(b:Bool)(s':Shared):Prop:=(∃H',Inv X qA U H' s'/\Q b H')
def AP(X:Cx)(qA:List (Addr×Obj))(U:St)(Q:dH->Hp->Prop)(us:B6)(s':Shared):Prop:=(∃vs H',Inv X qA U H' s'/\AW vs us/\Q vs H')
def SP(X:Cx)(qA:List (Addr×Obj))(D:Ends)(f:Flow)(s':Shared):Prop:=(match f with|.next=>∃σ' H',Inv X qA σ' H' s'/\D.nx σ' H'|.brk=>∃σ' H',Inv X qA σ' H' s'/\D.bk σ' H'|.cont=>∃σ' H',Inv X qA σ' H' s'/\D.ct σ' H'|.ret u=>∃v σ' H',Inv X qA σ' H' s'/\AR v u/\D.rt v H')
def PE(X:Cx)(e:Expr)(t:TE):Prop:=(∀qA s U H(Q:VK),'D'->t U H Q->'B' (eval e X.env) (EP X qA U Q) X.xe s)
def PT(X:Cx)(e:Expr)(t:TT):Prop:=(∀qA s U H(Q:Bool->Hp->Prop),'D'->t U H Q->'B' (isTrue e X.env (eval e X.env)) (TP X qA U Q) X.xe s)
def PW(X:Cx)(e:Expr)(t:TT):Prop:=(∀(whole:Sem Value)qA s U H(Q:Bool->Hp->Prop),'D'->t U H Q->'B' (isTrue e X.env whole) (TP X qA U Q) X.xe s)
def PW.pt(h:PW X e t):PT X e t:=h _
def PA(X:Cx)(es:Go)(t:TA):Prop:=(∀(pos:Pos)qA s U H(Q:dH->Hp->Prop),'D'->t U H Q->'B' (spliced (backTo pos (starEach es X.env))) (AP X qA U Q) X.xe s)
def PS(X:Cx)(st:Stmt)(t:TS):Prop:=(∀qA s U H(D:Ends),'D'->t D U H->'B' (exec st X.env) (SP X qA D) X.xe s)
def BS(X:Cx)(st:Ha)(t:TS):Prop:=(∀qA s U H(D:Ends),'D'->t D U H->'B' (execs st X.env) (SP X qA D) X.xe s)
def AQ{Q c}(h:wpAny M A t Q E s)(d:∀a s,Q a s->c a s):wpAny M A t c E s:=bL h d λ_ _ x=>x
section
inductive tVar(i:Nat)(U:St)(H:Hp)(Q:VK):Prop|mk(v:V)(e:U[i]?\(some v))(q:Q v H)
def tC(v:V):TE:=(λ_ H Q=>Q v H)
def ER(w:X.N[i]?\x)(n:Dj X.env.scope x)(f:No x:=by decide)(g:N_ x:=by decide):PE X (.Name x pos) (tVar i):=by
 rintro qA s U H Q I⟨v,e,h⟩;let[m,o,q]:=I.loc;let[u,r,l]:=q i x v w e n;let d:EP X qA U Q u s:=#[v,H,I,r,h];let[hk,p]||[hk,c,j,a]:=l
 .show wpAny_Name (wpAny_loadName_local I.ok.kind hk o p d) f
 .let hk||hk:=hk
  .show wpAny_Name (wpAny_loadName_cell I.ok.kind hk j a d) f
  .show wpAny_Name (wpAny_loadName_free I.ok.kind hk j a d g) f
def Ah{i j pos}:PE X (.Constant (.int i) j pos) (tC (.int i)):=λ_ _ _ H _ I h=>wpAny_Constant_int {.int i,H,I.tok _,#[_,0],h}
def PY:PE X (.Constant (.bool b) j pos) (tC (.bl b)):=λ_ _ _ H _ I h=>Constant_bool {.bl b,H,I,0,h}
def L5:PE X (.Constant .none j pos) (tC .non):=λ_ _ _ H _ I h=>Constant_none #[.non,H,I,0,h]
def CP:PE X (.Constant (.str x) j pos) (tC (.str x)):=λ_ _ _ H _ I h=>Calls.Constant_str {.str x,H,I.tok _,#[_,0],h}
def Gl(X:Cx)(x:Str):Prop:=(X.env.kindOf x\.globalImplicit)
def E2(I:'D')(c:Gl X x)(a:X.mg x\u)(h:Q u s)(d:No x:=by decide):'B' (eval (.Name x pos) X.env) Q E s:=Calls.Name_function_global I.ok.kind c (Calls.loadGlobal_global (by rw[I.ok.glob];show I.mod.glob.keeps I.bk) a h) d
def E3(I:'D')(e:Gl X x)(d:X.mg x=none)(a:bootBuiltins x\u)(h:Q u s)(c:x≠"__name__":=by decide)(f:No x:=by decide):'B' (eval (.Name x pos) X.env) Q E s:=by let[g,h1,h2]:=I.mod.blt;show Calls.Name_function_global I.ok.kind e (Calls.loadGlobal_builtin (by rw[I.ok.glob];show I.mod.glob.keeps I.bk) d (by rw[I.ok.blt];show h1.keeps I.bk) ((h2 x c).trans a) h) f
def PZ(c:Gl X x)(a:X.mg x\u)(r:AR v u)(d:No x:=by decide):PE X (.Name x pos) (tC v):=λ_ _ _ H _ I h=>E2 I c a #[v,H,I,r,h] d
def V0(e:Gl X x)(d:X.mg x=none)(a:bootBuiltins x\u)(r:AR v u)(c:x≠"__name__":=by decide)(f:No x:=by decide):PE X (.Name x pos) (tC v):=λ_ _ _ H _ I h=>E3 I e d a #[v,H,I,r,h] c f
variable{a b:Expr}
def PC(X:Cx)(op:CmpOp)(a b:Expr)(t:TE):Prop:=(∀qA s U H(Q:VK),'D'->t U H Q->'B' (eval a X.env) (λv s₁=>'B' (eval b X.env) (λu s₂=>'B' (compareOp op v u) (EP X qA U Q) X.xe s₂) X.xe s₁) X.xe s)
def V1(b)(h:op≠.In)(h2:op≠.NotIn):behindInMarks op b=false:=by
 let c:(op==CmpOp.In)=false:=by simp_all
 let a:(op==CmpOp.NotIn)=false:=by simp_all
 cases b<;>simp[behindInMarks,c,a]
def V2(ta:TE):TE:=(λU H Q=>ta U H λx H1=>Q (.bl (!decide (x=.non))) H1)
noncomputable def AR.none_iff{x}{v}(r:AR x v):(v==Value.none)=decide (x=.non):=by cases x with
 |non=>cases r;rfl|bl _=>cases r;rfl|int _=>let[t,0]:=r;rfl|str _=>let[t,0]:=r;rfl|byt _=>let[t,0]:=r;rfl|flt _=>let[t,0]:=r;rfl|ref _=>cases r;rfl|ty _=>cases r;rfl
def V3(e:PE X a ta):PC X .IsNot a (.Constant .none j pos') (V2 ta):=by intro qA s U H Q I h;show AQ (e qA s U H _ I h) λv g zz=>?_;let[x,H1,f,c,d]:=zz;show Constant_none (isnot_none_gen {.bl _,H1,f,by rw[c.none_iff];rfl,d})
def tB(t:TE):TT:=(λU H Q=>t U H λx H1=>∃c,x=.bl c/\Q c H1)
def Pa(h:PC X op a b t)(h1:behindInMarks op b=false:=by first|show V1 _ '3' '3'|rfl):PT X (.Compare a [op] [b] pos) (tB t):=by intro qA s U H Q I g;show wpAny_isTrue_Compare1 (AQ (h qA s U H _ I g) λv m h1=>AQ h1 λu l h2=>AQ h2 λc j zz=>?_) h1;let[x,H1,i,e,f]:=zz;let[d,0,q]:=f;cases e;show wpAny_truthy_bool #[H1,i,q]
def L6(h:PE X e t)(i:∀a,isTrue e X.env a=(do let v<-a;standAt e.pos;holding [v] (truthy v)):=by rfl):PT X e (tB t):=by intro qA s U H Q I g;show isTrue_plain (AQ (h qA s U H _ I g) λv l zz=>?_) (i _);let[x,H1,j,c,f]:=zz;let[d,0,q]:=f;cases c;show wpAny_truthy_bool #[H1,j,q]
variable{tA tB':TT}{qE:Go}
def V4(t u:TT):TT:=(λU H Q=>t U H λc H1=>if c=true then u U H1 Q else Q false H1)
def V5(t u:TT):TT:=(λU H Q=>t U H λc H1=>if c=true then Q true H1 else u U H1 Q)
def V6(t:TT):TT:=(λU H Q=>t U H λc H1=>Q (!c) H1)
def V7(d:PT X a tA):PW X (.BoolOp .And [a] pos) tA:=by intro f qA s U H Q I h;show isTrue_and (AQ (d qA s U H Q I h) λc g e=>?_);cases c with|true=>show isTrue_and_nil e|false=>show e
def L7(d:PT X a tA):PW X (.BoolOp .Or [a] pos) tA:=by intro f qA s U H Q I h;show isTrue_or (AQ (d qA s U H Q I h) λc g e=>?_);cases c with|false=>show isTrue_or_nil e|true=>show e
def V8(j:PT X a tA)(i:PW X (.BoolOp .And (b::qE) pos) tB'):PW X (.BoolOp .And (a::b::qE) pos) (V4 tA tB'):=by intro f qA s U H Q I h;show isTrue_and (AQ (j qA s U H _ I h) λc g zz=>?_);let[H1,e,d]:=zz;cases c with|true=>show i f qA g U H1 Q e d|false=>show#[H1,e,d]
def L9(j:PT X a tA)(i:PW X (.BoolOp .Or (b::qE) pos) tB'):PW X (.BoolOp .Or (a::b::qE) pos) (V5 tA tB'):=by intro f qA s U H Q I h;show isTrue_or (AQ (j qA s U H _ I h) λc g zz=>?_);let[H1,e,d]:=zz;cases c with|true=>show#[H1,e,d]|false=>show i f qA g U H1 Q e d
def MA(d:PT X a tA):PT X (.UnaryOp .Not a pos) (V6 tA):=by intro qA s U H Q I h;show isTrue_not (d qA s U H _ I h)
def V9(ta tb:TE):TE:=(λU H Q=>ta U H λx H1=>∃c,x=.bl c/\if c=true then tb U H1 Q else Q (.bl false) H1)
def WA(ta:TE):TE:=(λU H Q=>ta U H λx H1=>∃c,x=.bl c/\Q (.bl (!c)) H1)
def WC(h:PE X a t):PE X (.BoolOp op [a] pos) t:=λqA s U H Q I c=>BoolOp_one (h qA s U H Q I c)
def WD(j:PE X a ta)(i:PE X (.BoolOp .And (b::qE) pos) tb):PE X (.BoolOp .And (a::b::qE) pos) (V9 ta tb):=by intro qA s U H Q I h;show BoolOp_and (AQ (j qA s U H _ I h) λv f zz=>?_);let[x,H1,e,g,d]:=zz;let[c,0,d]:=d;cases g;show wpAny_truthy_bool ?_;cases c with|true=>show i qA f U H1 Q e d|false=>show{.bl false,H1,e,0,d}
def WE(f:PE X a ta):PE X (.UnaryOp .Not a pos) (WA ta):=by intro qA s U H Q I h;show UnaryOp_ (AQ (f qA s U H _ I h) λv i zz=>?_);let[x,H1,g,e,d]:=zz;let[c,0,d]:=d;cases e;show not_of (wpAny_truthy_bool {.bl (!c),H1,g,0,d})
end
def BA(K:Fg)(H:Hp)(a:Addr)(xs:dH):Prop:=(Rd H a (.lst xs)\/∃(o:Obj)(qG:Do)(n:Nat),K.lookup a\o/\o.cls=.type "list"/\o.dict=none/\o.data=.seq qG n/\qG.size<=sizeLine/\AW xs qG.toList)
def BP(K:Fg)(H:Hp)(a:Addr)(xs:dH):Prop:=(Rd H a (.tup xs)\/∃(o:Obj)(qG:Do)(n:Nat),K.lookup a\o/\o.cls=.type "tuple"/\o.data=.seq qG n/\qG.size<=sizeLine/\AW xs qG.toList)
noncomputable def WF:Value->Option V
 |.none=>some .non|.bool b=>some (.bl b)|.int i _=>some (.int i)|.str x _=>some (.str x)|.bytes b _=>some (.byt b)|.float b _=>some (.flt b)|.ref a=>some (.ref a)|.type n=>some (.ty n)|_=>none
noncomputable def AR.abs{x}(r:AR x u):WF u\x:=by cases x with
 |non=>cases r;rfl|bl _=>cases r;rfl|int _=>let[t,0]:=r;rfl|str _=>let[t,0]:=r;rfl|byt _=>let[t,0]:=r;rfl|flt _=>let[t,0]:=r;rfl|ref _=>cases r;rfl|ty _=>cases r;rfl
def AR.inj{x y}(r:AR x u)(q:AR y u):x=y:=oI (r.abs.symm.trans q.abs)
def AW.inj{xs}(h:AW xs us)(g:AW ys us):xs=ys:=by induction h generalizing ys with|nil=>cases g;rfl|cons r t c=>cases g with|cons a t'=>rw[AR.inj r a,c t']
section
variable{xs:dH}
def BA.of{K}(h:H a\(.lst xs)):BA K H a xs:=.inl (.inl h)
def BP.of{K}(h:H a\(.tup xs)):BP K H a xs:=.inl (.inl h)
def Inv.list(I:'D')(h:BA X.K H a xs):∃qG,AW xs qG/\PlainL s.heap a qG.toArray/\xs.length<=sizeLine:=by
 let h||[o,qG,n,c,d,hd,hs,f,r]:=h
 .let[z,qG,n,r,e]:=h.ok I.hok;show{qG,r,#[_,n,e,0,0,0],z}
 .show{qG.toList,r,{o,n,I.kIn a o c,d,hd,by assumption},?_};let e:=r.length;simp_all
def Inv.tuple(I:'D')(h:BP X.K H a xs):∃qG,AW xs qG/\IsTup s.heap a qG.toArray/\xs.length<=sizeLine:=by
 let h||[o,qG,n,c,d,hs,f,r]:=h
 .let[z,qG,r,p]:=h.ok I.hok;show#[qG,r,p.tup,z]
 .show{qG.toList,r,{o,I.kIn a o c,d,n,by assumption},?_};let e:=r.length;simp_all
def Inv.list_inj(I:'D')(h:BA X.K H a xs)(h':BA X.K H a ys):xs=ys:=by
 let[qG,r,[o,n,e,_,_,d],_]:=I.list h;let[its',g,[o',j,c,_,_,f],_]:=I.list h';rw[e]at c;cases c;rw[d]at f;injection f with i _
 let:qG=its':=by simp_all
 subst this;show r.inj g
def Inv.tuple_inj(I:'D')(h:BP X.K H a xs)(h':BP X.K H a ys):xs=ys:=by
 let[qG,r,[o,e,_,n,d],_]:=I.tuple h;let[its',g,[o',c,_,j,f],_]:=I.tuple h';rw[e]at c;cases c;rw[d]at f;injection f with i _
 let:qG=its':=by simp_all
 subst this;show r.inj g
end
noncomputable abbrev Cx.wish(X:Cx)(E:VS):Cx:={X with xe:=E}
noncomputable abbrev Cx.nox(X:Cx):Cx:=X.wish λ_ _=>False
def Cx.Ok.wish(ok:X.Ok)(E):(X.wish E).Ok:=#[ok.mod,ok.kind,ok.glob,ok.blt,ok.above,ok.inj,ok.has,ok.cab,ok.hd,ok.frames,ok.stk,ok.exf,ok.bs,ok.bsz,ok.noex,ok.exfs,ok.funs,ok.frf]
def Cx.Ok.unwish(ok:(X.wish E).Ok):X.Ok:=#[ok.mod,ok.kind,ok.glob,ok.blt,ok.above,ok.inj,ok.has,ok.cab,ok.hd,ok.frames,ok.stk,ok.exf,ok.bs,ok.bsz,ok.noex,ok.exfs,ok.funs,ok.frf]
def Inv.wish(I:'D')(E):Inv (X.wish E) qA U H s:={I.ok.wish E,I.os,I.bare,I.base,I.loc,I.cell,I.free,I.freeC,I.pin,I.hok,I.len}
def Inv.unwish(I:Inv (X.wish E) qA U H s):'D':=#[I.ok.unwish,I.os,I.bare,I.base,I.loc,I.cell,I.free,I.freeC,I.pin,I.hok,I.len]
def SP.unwish{D}(h:SP (X.wish E) qA D f s'):SP X qA D f s':=by cases f with|next=>let[σ',H',I,q]:=h;show#[σ',H',I.unwish,q]|brk=>let[σ',H',I,q]:=h;show#[σ',H',I.unwish,q]|cont=>let[σ',H',I,q]:=h;show#[σ',H',I.unwish,q]|ret u=>let[v,σ',H',I,r,q]:=h;show#[v,σ',H',I.unwish,r,q]
def BS.nox{st}(h:BS X.nox st t):BS X st t:=λqA s U H D I a=>bL (h qA s U H D (I.wish _) a) (λ_ _ q=>q.unwish) λ_ _ z=>False.elim z
section
variable{st:Stmt}{qE:Ha}{t u:TS}{e:Expr}
def WG:TS:=(λD U H=>D.nx U H)
def GA(t u:TS):TS:=(λD U H=>t {D with nx:=u D} U H)
def BX:BS X [] WG:=λ_ _ U H _ I h=>wpAny_execs_nil #[U,H,I,h]
noncomputable def Aa(h1:PS X st t)(h2:BS X qE u):BS X (st::qE) (GA t u):=by intro qA s U H D I h;show wpAny_execs_cons (AQ (h1 qA s U H {D with nx:=u D} I h) λf a q=>?_);cases f with
 |next=>let[σ',H',c,q]:=q;show h2 qA a σ' H' D c q|ret v=>show q|brk=>show q|cont=>show q
noncomputable def Ao(h1:PS X st t):BS X [st] t:=by intro qA s U H D I h;show wpAny_execs_cons (AQ (h1 qA s U H D I h) λf a q=>?_);cases f with
 |next=>show wpAny_execs_nil q|ret v=>show q|brk=>show q|cont=>show q
def Inv.quiet(I:'D'):interactive X.env=false:=by simp[interactive,I.ok.kind]
def JP(te:TE):TS:=(λD U H=>te U H λ_ H1=>D.nx U H1)
def ES(d:PE X e te)(c:swapsWith e none pos.line X.env=pure false:=by rfl):PS X (.Expr e pos) (JP te):=by intro qA s U H D I h;show wpAny_Expr_any (AQ (d qA s U H _ I h) λv g zz=>(by let[x,H1,f,i,a]:=zz;show#[U,H1,f,a])) I.quiet c
def Pb(te:TE):TS:=(λD U H=>te U H D.rt)
def B9(d:PE X e te):PS X (.Return (some e) pos) (Pb te):=by intro qA s U H D I h;show wpAny_Return_some (AQ (d qA s U H _ I h) λv g zz=>(by let[x,H1,f,a,c]:=zz;show#[x,U,H1,f,a,c]))
def WH(c:TT)(t u:TS):TS:=(λD U H=>c U H λb H1=>if b=true then t D U H1 else u D U H1)
def BY{c}{a b}(i:PT X c tc)(l:BS X a t)(j:BS X b u):PS X (.If c a b pos) (WH tc t u):=by intro qA s U H D I h;show wpAny_If (AQ (i qA s U H _ I h) λd e zz=>?_);let[H1,g,f]:=zz;cases d with|true=>show l qA e U H1 D g f|false=>show j qA e U H1 D g f
def Pc:TS:=(λ_ _ _=>False)
def WI:PS X st Pc:=λ_ _ _ _ _ _ h=>h.elim
def CY{a}:BS X a Pc:=λ_ _ _ _ _ _ h=>h.elim
end
noncomputable abbrev TG:=V->St->Hp->(St->Hp->Prop)->Prop
noncomputable abbrev FX:=dH->St->Hp->(St->Hp->Prop)->Prop
def PG(X:Cx)(target:Expr)(t:TG):Prop:=(∀qA s U H(v:V)(u:Value)(Q:St->Hp->Prop),'D'->AR v u->t v U H Q->'B' (assign target X.env u) (λ_ s'=>∃σ' H',Inv X qA σ' H' s'/\Q σ' H') X.xe s)
def FY(X:Cx)(ts:Go)(t:FX):Prop:=(∀qA s U H(vs:dH)(us:B6)(Q:St->Hp->Prop),'D'->AW vs us->t vs U H Q->'B' (assignInOrder ((assignEach ts X.env).map (·.2)) us) (λ_ s'=>∃σ' H',Inv X qA σ' H' s'/\Q σ' H') X.xe s)
noncomputable abbrev HP:=V->V->V->Hp->(Hp->Prop)->Prop
def MB(X:Cx)(t:HP):Prop:=(∀qA s U H(o i v:V)(ov iv u:Value)(Q:Hp->Prop),'D'->AR o ov->AR i iv->AR v u->t o i v H Q->'B' (setItem ov iv u) (λ_ s'=>∃H',Inv X qA U H' s'/\Q H') X.xe s)
noncomputable abbrev JQ:=V->V->Hp->VK->Prop
def Pd(X:Cx)(op:Operator)(t:JQ):Prop:=(∀qA s U H(x y:V)(v u:Value)(Q:VK),'D'->AR x v->AR y u->t x y H Q->'B' (inplaceOp op v u) (EP X qA U Q) X.xe s)
def Bq(i:Nat):TG:=(λv U H Q=>Q (U.set i (some v)) H)
def Ag(d:X.N.Nodup)(hi:X.N[i]?\x)(a:D5 X.env.scope x)(c:X.fn x=true\/X.env.scope.names.lookup x\.local:=by trivial):PG X (.Name x pos) (Bq i):=by intro qA s U H v u Q I r h;show wpAny_assign_Name (L4 I d hi a r (λs' e=>#[_,H,e,h]) c)
def E4:FX:=(λvs U H Q=>vs=[]/\Q U H)
inductive gCons(t:TG)(u:FX)(vs:dH)(U:St)(H:Hp)(Q:St->Hp->Prop):Prop|mk(v:V)(r:dH)(e:vs=v::r)(q:t v U H λσ' H'=>u r σ' H' Q)
def Br:FY X [] E4:=by rintro qA s U H vs us Q I r⟨e,h⟩;subst e;show assignInOrder_nil #[U,H,I,h]
def Al{u}(h1:PG X e t)(h2:FY X es u)(g:(assignEach (e::es) X.env).map (·.2)=assign e X.env::(assignEach es X.env).map (·.2):=by rfl):FY X (e::es) (gCons t u):=by rintro qA s U H vs us Q I r⟨v,l,i,h⟩;subst i;cases r with|cons r d=>rw[g];show assignInOrder_cons (AQ (h1 qA s U H _ _ _ I r h) λ_ c zz=>?_);let[a,H1,j,f]:=zz;show h2 qA c a H1 _ _ Q j d f
inductive gTup(K:Fg)(n:Nat)(t:FX)(v:V)(U:St)(H:Hp)(Q:St->Hp->Prop):Prop|mk(a:Addr)(xs:dH)(e:v=.ref a)(s:BP K H a xs)(l:xs.length=n)(q:t xs U H Q)
def DI{k}(m:X.calm=true)(h:FY X es t)(j:(assignEach es X.env).length=n:=by rfl)(d:(assignEach es X.env).findIdx? (·.1)=none:=by rfl):PG X (.Tuple es k pos) (gTup X.K n t):=by rintro qA s U H v u Q I r⟨a,xs,p,i,l,c⟩;subst p;cases r;let[qG,rv,g,w]:=I.tuple i;show assign_Tuple_tuple (I.ok.hd m) g (by simp[j,<-l,rv.length]) d λh' f=>?_;let q:Inv X qA U H {s with heap:=h'}:=I.kept λb o e=>f b o (bX (bN e)) e;show h qA _ U H xs _ Q q (~~~rv) c
def WJ(to ti:TE)(t:HP):TG:=(λv U H Q=>to U H λo H1=>ti U H1 λi H2=>t o i v H2 λH3=>Q U H3)
noncomputable def Pe{o i}{to d}(q:PE X o to)(hi:PE X i d)(p:MB X t)(w:∀v,assign (.Subscript o i pos) X.env v=(do
   let a<-holding [v] (eval o X.env)let c<-holding [v,a] (eval i X.env)standAt pos
   holding [v,a,c] (setItem a c v)release [v,a,c] []):=by rfl):PG X (.Subscript o i pos) (WJ to d t):=by intro qA s U H v u Q I r h;show wB (bM (AQ (q qA s U H _ I h) λa f zz=>?_));done<;>let[x,H1,B,j,n]:=zz;show wB (bM (AQ (hi qA f U H1 _ B n) λc e zz=>?_));done<;>let[y,H2,A,g,m]:=zz;show wB (wpAny_standAt (wB (bM (AQ (p qA e U H2 x y v a c u _ A j g r m) λ_ D zz=>?_))));let[C,z,l]:=zz;show wpAny_release #[U,C,z,l]
def ET(te:TE)(g:TG):TS:=(λD U H=>te U H λx H1=>g x U H1 D.nx)
def GB(j:PE X e te)(i:PG X tg g)(f:swapsWithSole [tg] e pos.line X.env=pure false:=by rfl)(hw:swappedStores [tg] e X.env=pure none:=by rfl)(h1:(assignEach [tg] X.env).map (·.2)=[assign tg X.env]:=by rfl):PS X (.Assign [tg] e pos) (ET te g):=by intro qA s U H D I h;show wpAny_Assign_stores (AQ (j qA s U H _ I h) λv a zz=>?_) f hw;let[x,H1,l,c,d]:=zz;rw[h1];show AQ (i qA a U H1 x v _ l c d) λ_ m q=>q
def Ap{i}{x}{e}{te}{pos'}(l:X.N.Nodup)(hi:X.N[i]?\x)(d:D5 X.env.scope x)(j:PE X e te)(f:swapsWith e (some (.Name x pos')) pos.line X.env=pure false:=by rfl)(g:X.fn x=true\/X.env.scope.names.lookup x\.local:=by trivial):PS X (.Assign [.Name x pos'] e pos) (ET te (Bq i)):=by intro qA s U H D I h;show wpAny_Assign_Name (AQ (j qA s U H _ I h) λv p zz=>?_) f;let[y,H1,n,a,c]:=zz;show L4 n l hi d a (λo m=>#[_,H1,m,c]) g
def WK(to ti te:TE)(tget:V->V->Hp->VK->Prop)(tip:JQ)(tset:HP):TS:=(λD U H=>to U H λo H1=>ti U H1 λi H2=>tget o i H2 λx H3=>te U H3 λy H4=>tip x y H4 λz H5=>tset o i z H5 λH6=>D.nx U H6)
def Pf(X:Cx)(t:V->V->Hp->VK->Prop):Prop:=(∀qA s U H(o i:V)(ov iv:Value)(Q:VK),'D'->AR o ov->AR i iv->t o i H Q->'B' (getItem ov iv) (EP X qA U Q) X.xe s)
def WL{o i e}{to m}{c}{a}(σ:PE X o to)(hi:PE X i m)(ρ:Pf X c)(he:PE X e te)(T:Pd X op g)(Q:MB X a)(ha:∀d f new,augStore i d f new=(do holding [new,d,f] (setItem d f new);release [new,d,f] [];pure .next):=by intros;rfl):PS X (.AugAssign (.Subscript o i tpos) op e pos) (WK to m te c g a):=by intro qA s U H D I h;show wpAny_AugAssign_SubscriptAny (AQ (σ qA s U H _ I h) λd A zz=>?_) ha;let[x1,H1,I1,p,O]:=zz;show AQ (hi qA A U H1 _ I1 O) λf z zz=>?_;done<;>let[l,H2,I2,n,N]:=zz;show AQ (ρ qA z U H2 x1 l d f _ I2 p n N) λj y zz=>?_;let[u,H3,I3,E,M]:=zz;show AQ (he qA y U H3 _ I3 M) λv x zz=>?_;let[r,H4,I4,C,L]:=zz;show AQ (T qA x U H4 u r j v _ I4 E C L) λnew w zz=>?_;let[q,H5,I5,B,J]:=zz;show AQ (Q qA w U H5 x1 l q d f new _ I5 p n B J) λ_ s6 zz=>(by let[H6,I6,G]:=zz;show#[U,H6,I6,G])
def WM(f:Int->Int->Int):JQ:=(λx y H Q=>∃i j,x=.int i/\y=.int j/\Q (.int (f i j)) H)
def WN:Pd X .Add (WM λi j=>i+j):=by rintro qA s U H x y v u Q I c a⟨i,j,e,d,q⟩;subst e;subst d;let[t,0]:=c;let[t',0]:=a;show iadd_int {.int _,H,I.tok _,#[_,0],q}
def WO(c:TT)(tb:TS):TS:=(λD U H=>∃W:Nat->St->Hp->Prop,(∃m,W m U H)/\∀m U H,W m U H->c U H λb H1=>if b=true then∃N:St->Hp->Prop,(∀σ' H',N σ' H'->∃m',m'<m/\W m' σ' H')/\tb {D with nx:=N,ct:=N,bk:=D.nx} U H1 else D.nx U H1)
noncomputable def WQ{c}{tb}(r:PassesOwn (model X.prog X.w) X.A X.env X.xe)(G:PT X c tc)(J:BS X body tb):PS X (.While c body [] pos) (WO tc tb):=by rintro qA s U H D I⟨W,⟨E,z⟩,e⟩;show wpAny_While (codeAny_whileLoop (λn s'=>∃σ' H',Inv X qA σ' H' s'/\W n σ' H') ?_ E #[U,H,I,z]);rintro n C⟨d,H1,L,y⟩;show wpAny_passesOwn r (AQ (G qA C d H1 _ L (e n d H1 y)) λb B zz=>?_);let[H2,x,j]:=zz;cases b with
 |true=>let[N,u,j]:=j;show wpAny_passesOwn r (AQ (J qA B d H2 _ x j) λf M i=>?_);cases f with
  |next=>let[a,g,q,m]:=i;let[o,p,l]:=u a g m;show#[o,p,a,g,q,l]|cont=>let[a,g,q,m]:=i;let[o,p,l]:=u a g m;show#[o,p,a,g,q,l]|brk=>show i|ret v=>show i
 |false=>show wpAny_execs_nil #[d,H2,x,j]
structure It where
 go:Nat->Hp->Prop
 yld:Nat->Hp->V->Hp->Prop
 stop:Nat->Hp->Prop
def Ce(X:Cx)(qA:List (Addr×Obj))(H:Hp)(b:Addr):Prop:=(H b=none/\b≠X.env.locals/\b∉X.fs/\(b∈X.ex\/X.s₀.heap.objs.size<=b)/\(∀x c,X.env.cells.lookup x\c->c≠b)/\∀p∈X.pn++qA,p.1≠b)
def Inv.fpOk{b:Addr}(I:'D')(hb:'H'<=b)(hn:H' b=none):Ce X qA H' b:=by
 show{hn,Nat.ne_of_gt (aU I.lt hb),I.nofs hb,.inr (aR I.sz hb),λx c e z=>?_,λp hp z=>?_}
 .let[v,q]:=I.cell x c e;show bS (aU q.lt (by simp_all)) (aX _)
 .show bS (aU (bN (I.pin p hp).1) (by simp_all)) (aX _)
structure Turn(P:Program)(w:World)(K:Fg)(tg:Expr)(J:It)(fp:Ge)(it:Addr)(tn:Nat->Heap->Prop):Prop where
 mem:it∈fp
 obj:∀i h,tn i h->∀b∈fp,∃o,h.get? b\o/\∀v,o.data≠.cell v
 keep:∀i h h',tn i h->(∀b∈fp,∀o,h.get? b\o->h'.get? b\o)->tn i h'
 item:∀(X:Cx),X.prog=P->X.w=w->X.K=K->X.calm=true->∀(i:Nat)qA s U H(E:VS),'D'->(∀b∈fp,Ce X qA H b)->tn i s.heap->J.go i H->wpAny (model P w) X.A (pyNext (.ref it)) (λr s1=>∃u,r\u/\wpAny (model P w) X.A (letOwnedTupleGo tg (.ref it) u) (λ_ s2=>∃x H',Inv X qA U H' s2/\AR x u/\J.yld i H x H'/\tn (i+1) s2.heap/\∀b∈fp,H' b=none) E s1) E s
 done:∀(X:Cx),X.prog=P->X.w=w->X.K=K->X.calm=true->∀(i:Nat)qA s U H(E:VS),'D'->(∀b∈fp,Ce X qA H b)->tn i s.heap->J.stop i H->wpAny (model P w) X.A (pyNext (.ref it)) (λr s1=>r=none/\Inv X qA U H s1) E s
 self:∀(A:Around)(i:Nat)(s:Shared)(Q:VS)(E:VS),tn i s.heap->Q (.ref it) s->wpAny (model P w) A (pyIter (.ref it)) Q E s
noncomputable abbrev TI:=St->Hp->(It->Hp->Prop)->Prop
end L2
variable{g:L2.TG}
namespace L2
def MC(X:Cx)(qA:List (Addr×Obj))(U:St)(tg:Expr)(R:It->Hp->Prop)(itv:Value)(s2:Shared):Prop:=(∃(it:Addr)(fp:Ge)(tn:Nat->Heap->Prop)(J:It)(H':Hp),itv=.ref it/\Inv X qA U H' s2/\Turn X.prog X.w X.K tg J fp it tn/\tn 0 s2.heap/\(∀b∈fp,Ce X qA H' b)/\R J H')
def PI(X:Cx)(tg iter:Expr)(wi:TI):Prop:=(∀qA s U H(R:It->Hp->Prop),'D'->wi U H R->'B' (eval iter X.env) (λv s1=>'B' (pyIter v) (MC X qA U tg R) X.xe s1) X.xe s)
noncomputable def HQ{E}{o}{n}{vs:Do}{Q}(c:'F' it=some o)(f:o.cls=.type n)(e:o.data=.fields vs)(d:["enumerate","zip","dict_itemiterator","dict_reverseitemiterator","odict_iterator","itertools.zip_longest","itertools.pairwise"].contains n=false)(a:Q () s):wpAny M A (letOwnedTupleGo tg (.ref it) u) Q E s:=by cases tg<;>first|show wP a|(cases u<;>first
        |show wP a
        | (show wB (wpAny_load c ?_)
           rw[f,e];change wpAny M A (if(["enumerate","zip","dict_itemiterator","dict_reverseitemiterator","odict_iterator","itertools.zip_longest","itertools.pairwise"].contains n&&vs[0]?==some _)=true then _ else _) Q E s;rw[aB (by intro h;rw[d]at h;cases h)];show wP a))
def D6(K:Fg)(a:Addr):It:=({λi H=>∃xs x,BA K H a xs/\xs[i]?\x,λi H x H'=>H'=H/\∀xs,BA K H a xs->xs[i]?\x,λi H=>∃xs,BA K H a xs/\xs.length<=i})
def FZ(K:Fg)(a:Addr):It:=({λi H=>∃xs x,BP K H a xs/\xs[i]?\x,λi H x H'=>H'=H/\∀xs,BP K H a xs->xs[i]?\x,λi H=>∃xs,BP K H a xs/\xs.length<=i})
def Dk(lo:Int)(n:Nat):It:=({λi _=>i<n,λi H x H'=>H'=H/\x=.int (lo+i),λi _=>n<=i})
theorem WR{K}(a it):Turn P w K tg (D6 K a) [it] it (λi h=>h.IsListIter it a i)where
 mem:='2'
 obj:=λi h st b f=>by
  let e:b=it:=by simpa using f
  subst e;let[o,e,c,d]:=st;show{o,e,λv z=>by rw[d]at z;cases z}
 keep:=λi h h' st k=>st.at λo e=>k it '2' o e
 item:=by intro X r n y J i qA s U H E I l st q;subst r n y;done<;>(let[xs,x,j,m]:=q;let[qG,rv,p,N]:=I.list j;let[u,Q,M]:=rv.get m;let[G,D,T,C,B,A]:=l it '2');show wpAny_pyNext_list_item st p.isList (~~~Q) λh' g L=>?_;let ρ:Inv X qA U H {s with heap:=h'}:=I.turned (λb o f e=>(L.2 b f).trans e) G D C B A;let[o,e,c,d]:=id g;show#[u,0,HQ e c d '3' {x,H,ρ,M,{0,λys O=>by rw[I.list_inj O j];show m},g,λb f=>(l b f).1}]
 done:=by intro X r n y J i qA s U H E I l st q;subst r n y;done<;>(let[xs,j,m]:=q;let[qG,rv,p,N]:=I.list j;let[G,D,T,C,B,A]:=l it '2');let hl:=rv.length;show wpAny_pyNext_list_end (I.ok.hd J) st p.isList '4' λh' σ=>{0,I.turned (λb o f e=>σ b o f e) G D C B A}
 self:=λ_ _ _ _ _ st h=>wpAny_pyIter_listiter st h
theorem WS{K}(a it):Turn P w K tg (FZ K a) [it] it (λi h=>h.IsTupleIter it a i)where
 mem:='2'
 obj:=λi h st b f=>by
  let e:b=it:=by simpa using f
  subst e;let[o,e,c,d]:=st;show{o,e,λv z=>by rw[d]at z;cases z}
 keep:=λi h h' st k=>st.at λo e=>k it '2' o e
 item:=by intro X r n y J i qA s U H E I l st q;subst r n y;done<;>(let[xs,x,j,m]:=q;let[qG,rv,p,N]:=I.tuple j;let[u,Q,M]:=rv.get m;let[G,D,T,C,B,A]:=l it '2');show wpAny_pyNext_tuple_item st (p) (~~~Q) λh' g L=>?_;let ρ:Inv X qA U H {s with heap:=h'}:=I.turned (λb o f e=>(L.2 b f).trans e) G D C B A;let[o,e,c,d]:=id g;show#[u,0,HQ e c d '3' {x,H,ρ,M,{0,λys O=>by rw[I.tuple_inj O j];show m},g,λb f=>(l b f).1}]
 done:=by intro X r n y J i qA s U H E I l st q;subst r n y;done<;>(let[xs,j,m]:=q;let[qG,rv,p,N]:=I.tuple j;let[G,D,T,C,B,A]:=l it '2');let hl:=rv.length;show wpAny_pyNext_tuple_end (I.ok.hd J) st (p) '4' λh' σ=>{0,I.turned (λb o f e=>σ b o f e) G D C B A}
 self:=λ_ _ _ _ _ st h=>wpAny_pyIter_tupleiter st h
theorem WT{K}(it)(lo)(n):Turn P w K tg (Dk lo n) [it] it (λi h=>IsRangeIter h it (lo+(i:Nat)*1) ((n:Int)-(i:Nat)) 1)where
 mem:='2'
 obj:=λi h st b a=>by
  let e:b=it:=by simpa using a
  subst e;show{_,st,λv z=>by let y:=z;cases y}
 keep:=λi h h' st k=>k it '2' _ st
 item:=by intro X l f m j i qA s U H E I d st g;subst l f m;let[x,u,C,r,q,p]:=d it '2';let W:=Walks.range (prog:=X.prog) (w:=X.w) (I.ok.hd j) it lo 1 n;show W.item i s _ _ g st λv h' tk B c A=>?_;let[t,0]:=B;let G:Inv X qA U H {s with heap:=h',toks:=tk}:=I.turned (λb o a e=>A b o (~~~a) e) x u r q p;show#[_,0,HQ c rfl rfl '3' {.int (lo+i),H,G,#[t,?_],#[0,0],c,λb a=>(d b a).1}];rw[Int.mul_one]
 done:=by intro X l f m j i qA s U H E I d st g;let[x,u,C,r,q,p]:=d it '2';show wpAny_pyNext_range_end (I.ok.hd j) st (by let:n<=i:=g;lia) λh' D=>{0,I.turned (λb o a e=>D b o a e) x u r q p}
 self:=λ_ _ _ _ _ st h=>wpAny_pyIter_rangeiter st h
def Pg(K:Fg)(tl:TE):TI:=(λU H R=>tl U H λx H1=>∃a,x=.ref a/\(∃xs,BA K H1 a xs)/\R (D6 K a) H1)
def Ph(K:Fg)(tl:TE):TI:=(λU H R=>tl U H λx H1=>∃a,x=.ref a/\(∃xs,BP K H1 a xs)/\R (FZ K a) H1)
def MD(j:PE X l tl):PI X tg l (Pg X.K tl):=by
 intro qA s U H R I h;show AQ (j qA s U H _ I h) λv c zz=>?_;done<;>(let[x,H1,d,f,g]:=zz;let[a,e,[xs,i],q]:=g);subst e;cases f;let[qG,rv,p,n]:=d.list i;show wpAny_pyIter_list p.isList ?_;show{c.heap.objs.size,[c.heap.objs.size],_,_,H1,0,d.kept λb o e=>aS _ e,WR a _,{_,bP _ rfl,0,0},λb m=>?_,q};let e:b=c.heap.objs.size:=by simpa using m
 subst e;show d.fpOk (aQ _) (d.hok.fresh (aQ _))
def WU(j:PE X l tl):PI X tg l (Ph X.K tl):=by
 intro qA s U H R I h;show AQ (j qA s U H _ I h) λv c zz=>?_;done<;>(let[x,H1,d,f,g]:=zz;let[a,e,[xs,i],q]:=g);subst e;cases f;let[qG,rv,p,n]:=d.tuple i;show wpAny_pyIter_tuple (p) ?_;show{c.heap.objs.size,[c.heap.objs.size],_,_,H1,0,d.kept λb o e=>aS _ e,WS a _,{_,bP _ rfl,0,0},λb m=>?_,q};let e:b=c.heap.objs.size:=by simpa using m
 subst e;show d.fpOk (aQ _) (d.hok.fresh (aQ _))
def Pj{lo hi}{t u v}(I:'D')(h1:-(2^62)<=lo)(h2:lo<2^62)(f:-(2^62)<=hi)(d:hi<2^62)(q:R (Dk lo (hi-lo).toNat) H):'B' (pyIter (.ref 'H')) (MC X qA U tg R) E {s with heap:=s.heap.push {cls:=.type "range",data:=.fields [.int lo t,.int hi u,.int 1 v].toArray},toks:=tk}:=by
 show wpAny_pyIter_range (IsRange.new ..) (small_one h1 h2 f d) ?_;let a:Inv X qA U H {s with heap:=s.heap.push {cls:=.type "range",data:=.fields [.int lo t,.int hi u,.int 1 v].toArray},toks:=tk}:=I.kept λb o e=>aS _ e;show{(s.heap.push {cls:=.type "range",data:=.fields [.int lo t,.int hi u,.int 1 v].toArray}).objs.size,[(s.heap.push {cls:=.type "range",data:=.fields [.int lo t,.int hi u,.int 1 v].toArray}).objs.size],_,_,H,0,a.kept λb o e=>aS _ e,WT _ lo (hi-lo).toNat,?_,λb c=>?_,q}
 .let h:lo+((0:Nat))*1=lo:='2'
  let g:(((hi-lo).toNat:Nat))-((0:Nat))=Builtin.Range.rangeSize lo hi 1:=by rw[rangeSize_one];split<;>lia
  change IsRangeIter _ _ (lo+((0:Nat))*1) ((((hi-lo).toNat:Nat))-((0:Nat))) 1;rw[h,g];show bP _ rfl
 .let e:b=(s.heap.push {cls:=.type "range",data:=.fields [.int lo t,.int hi u,.int 1 v].toArray}).objs.size:=by simpa using c
  subst e;show a.fpOk (aQ _) (a.hok.fresh (aQ _))
def WV(ta:TA):TI:=(λU H R=>ta U H λvs H1=>∃j:Int,vs=[.int j]/\-(2^62)<=j/\j<2^62/\R (Dk 0 j.toNat) H1)
def WW(ta:TA):TI:=(λU H R=>ta U H λvs H1=>∃i j:Int,vs=[.int i,.int j]/\(-(2^62)<=i/\i<2^62/\-(2^62)<=j/\j<2^62)/\R (Dk i (j-i).toNat) H1)
def GC{a}{ta}{p}(m:Gl X "range")(l:X.mg "range"=none)(n:PA X [a] ta)(i:starEach [a] X.env=[(false,eval a X.env)]:=by rfl):PI X tg (.Call (.Name "range" p) [a] [] pos) (WV ta):=by intro qA s U H R I h;show Call_ (E3 I m l boot_range (PyProof.Rows.callWith_type1 (AQ (n pos qA s U H _ I h) λus u zz=>?_) i rfl));done<;>(let[vs,H1,o,f,c]:=zz;let[j,e,c,g,q]:=c);subst e;cases f with|cons r d=>cases d;let[t,0]:=r;show call_range_1 (Pj o ⋯ ⋯ c g (~~~q))
def WX{a b}{ta}{p}(w:Gl X "range")(v:X.mg "range"=none)(x:PA X [a,b] ta)(u:starEach [a,b] X.env=[(false,eval a X.env),(false,eval b X.env)]:=by rfl)(c:starEach [b] X.env=[(false,eval b X.env)]:=by rfl):PI X tg (.Call (.Name "range" p) [a,b] [] pos) (WW ta):=by intro qA s U H R I h;show Call_ (E3 I w v boot_range (PyProof.Rows.callWith_type1 (AQ (x pos qA s U H _ I h) λus z zz=>?_) (by rw[u,c]) (by rw[c];rfl)));done<;>(let[vs,H1,y,g,f]:=zz;let[i,j,e,[f,o,n,m],q]:=f);subst e;cases g with|cons r d=>cases d with|cons l d=>cases d;let[t,0]:=r;let[t',0]:=l;show call_range_2 (Pj y f o n m q)
def Pk(wi:TI)(g:TG)(tb:TS):TS:=(λD U H=>wi U H λJ H1=>∃W:Nat->Nat->St->Hp->Prop,(∃m,W 0 m U H1)/\∀i m U H,W i m U H->(J.stop i H/\D.nx U H)\/(J.go i H/\∃N:St->Hp->Prop,(∀σ' H',N σ' H'->∃m',m'<m/\W (i+1) m' σ' H')/\∀x H',J.yld i H x H'->g x U H' λσ2 H2=>tb {D with nx:=N,ct:=N,bk:=D.nx} σ2 H2))
def HR(fp:Ge)(h:Heap):List (Addr×Obj):=(fp.filterMap λb=>(h.get? b).map λo=>(b,o))
def JR{a}{o}(c:b∈a)(e:h.get? b\o):(b,o)∈HR a h:=mem_filterMap.mpr {b,c,by rw[e];rfl}
def WY{a}{p}(c:p∈HR a h):p.1∈a/\h.get? p.1\p.2:=by let[b,d,e]:=mem_filterMap.mp c;cases q:h.get? b with|none=>simp_all|some o=>rw[q]at e;let f:=oI e;subst f;show#[d,q]
def Inv.pinned(I:'D')(hf:∀b∈fp,Ce X qA H b)(c:∀b∈fp,∃o,'F' b\o/\∀v,o.data≠.cell v):Inv X (qA++HR fp s.heap) U H s:=I.pins_of λp hp=>(bA.mp hp).elim (λz=>I.pin p (cC _ z)) λz=>by let[hb,e]:=WY z;let[f0,g,f,_]:=hf p.1 hb;let[o,a,d]:=c p.1 hb;simp_all
def Inv.unpinned(I:Inv X (qA++pl) U H s):'D':=I.pins_of λp hp=>I.pin p (cC _ (mem_append_left _ hp))
def EU{tb}(L:PassesOwn (model X.prog X.w) X.A X.env X.xe)(hc:X.calm=true)(hi:PI X tg iter wi)(hg:PG X tg g)(l:BS X body tb)(hs:∀x,foldedSetIterable iter X.env x=pure x:=by rfl):PS X (.For tg iter body [] pos) (Pk wi g tb):=by
 intro qA s U H D I h;show wpAny_For (AQ (hi qA s U H _ I h) λv s1 h1=>AQ h1 λa2 s2 h2=>?_) hs;done<;>let[it,O,tn,J,H2,e,I2,T,ρ,f2,W,[m0,w0],B]:=h2;subst e;let j:∀{H'},(∀b∈O,H' b=none)->∀b∈O,Ce X qA H' b:=λhn b l=>{hn b l,(f2 b l).2};show codeAny_forLoop_any (λn s'=>∃i σ' H',Inv X qA σ' H' s'/\tn i s'.heap/\(∀b∈O,H' b=none)/\W i n σ' H') ?_ m0 {(0),U,H2,I2,ρ,λb l=>(f2 b l).1,w0};rintro n s3⟨i,c,Q,I3,E,M,w3⟩;done<;>let[C,qn]||[go,N,hN,step]:=B i n c Q w3
 .show wpAny_passesOwn L (AQ (T.done X rfl rfl rfl hc i qA s3 c Q X.xe I3 (j M) E C) λr s4 zz=>?_);let[hr,I4]:=zz;subst hr;show wpAny_execs_nil #[c,Q,I4,qn]
 .show wpAny_passesOwn L (AQ (T.item X rfl rfl rfl hc i qA s3 c Q X.xe I3 (j M) E go) λr s4 zz=>?_);let[u,hr,h4]:=zz;subst hr;show wpAny_passesOwn L (AQ h4 λ_ s5 zz=>?_);done<;>let[x,H5,I5,r5,y5,z,a0]:=zz;let a1:=I5.pinned (j a0) (T.obj _ _ z);show wpAny_passesOwn L (AQ (hg _ s5 c H5 x u _ a1 r5 (step x H5 y5)) λ_ s6 zz=>?_);done<;>let[σ,H6,I6,q6]:=zz;show wpAny_passesOwn L (AQ (l _ s6 σ H6 _ I6 q6) λf s7 y=>?_);let again:∀{a}{q},Inv X (qA++HR O s5.heap) a q s7->N a q->∃m,m<n/\∃i σ' H',Inv X qA σ' H' s7/\tn i s7.heap/\(∀b∈O,H' b=none)/\W i m σ' H':=λ{a q}p G=>by let[m',hm,w7]:=hN a q G;show{m',hm,i+1,a,q,p.unpinned,T.keep _ _ _ z λb l o e=>(p.pin (b,o) (cC _ (cC _ (JR l e)))).1,λb l=>?_,w7};let[o,e,d]:=T.obj _ _ z b l;show(p.pin (b,o) (cC _ (cC _ (JR l e)))).2.1
  cases f with|next=>let[a,q,p,G]:=y;show again p G|cont=>let[a,q,p,G]:=y;show again p G|brk=>let[a,q,p,y]:=y;show#[a,q,p.unpinned,y]|ret v=>done<;>let[x7,a,q,p,r7,y]:=y;show#[x7,a,q,p.unpinned,r7,y]
def Pl{K}{tb:TS}{D:Ends}(Pv:Nat->St->Hp->Prop)(o:Pv 0 U H)(l:∀i U H,i<=xs.length->Pv i U H->BA K H a xs)(j:∀i x U H,xs[i]?\x->Pv i U H->g x U H λc H2=>tb {D with nx:=Pv (i+1),ct:=Pv (i+1),bk:=D.nx} c H2)(n:∀U H,Pv xs.length U H->D.nx U H):∃W:Nat->Nat->St->Hp->Prop,(∃m,W 0 m U H)/\∀i m U H,W i m U H->((D6 K a).stop i H/\D.nx U H)\/((D6 K a).go i H/\∃N,(∀σ' H',N σ' H'->∃f,f<m/\W (i+1) f σ' H')/\∀x H',(D6 K a).yld i H x H'->g x U H' λc H2=>tb {D with nx:=N,ct:=N,bk:=D.nx} c H2):=by
 show{λi m U H=>m=xs.length-i/\i<=xs.length/\Pv i U H,{xs.length,'2',cD _,o},?_};rintro i m U H⟨rfl,hi,p⟩;let q:=l i U H hi p;by_cases d:i<xs.length
 .show .inr #[{xs,xs[i],q,by simp[d]},Pv _,λσ' H' h=>{xs.length-(i+1),(by omega),0,d,h},λx H' y=>?_];let[e,y]:=y;subst e;show j i x U _ (y xs q) p
 .let e:i=xs.length:=⋯;subst e;show .inl #[{xs,q,aQ _},n U H p]
def JS{lo}{tb:TS}{D:Ends}(Pv:Nat->St->Hp->Prop)(l:Pv 0 U H)(h:∀i U H,i<n->Pv i U H->g (.int (lo+i)) U H λa H2=>tb {D with nx:=Pv (i+1),ct:=Pv (i+1),bk:=D.nx} a H2)(j:∀U H,Pv n U H->D.nx U H):∃W:Nat->Nat->St->Hp->Prop,(∃m,W 0 m U H)/\∀i m U H,W i m U H->((Dk lo n).stop i H/\D.nx U H)\/((Dk lo n).go i H/\∃N,(∀σ' H',N σ' H'->∃d,d<m/\W (i+1) d σ' H')/\∀x H',(Dk lo n).yld i H x H'->g x U H' λa H2=>tb {D with nx:=N,ct:=N,bk:=D.nx} a H2):=by
 show{λi m U H=>m=n-i/\i<=n/\Pv i U H,{n,'2',cD _,l},?_};rintro i m U H⟨rfl,hi,p⟩;by_cases c:i<n
 .show .inr {c,Pv _,λσ' H' f=>{n-(i+1),⋯,0,c,f},λx H' y=>?_};let[e,y]:=y;simp_all
 .let e:i=n:=⋯;subst e;show .inl {aQ _,j U H p}
noncomputable abbrev R2:=V->V->Hp->VK->Prop
def Az(X:Cx)(f:Value->Value->Sem Value)(r:R2):Prop:=(∀qA s U H(x y:V)(v u:Value)(Q:VK),'D'->AR x v->AR y u->r x y H Q->'B' (f v u) (EP X qA U Q) X.xe s)
def ME(X:Cx)(f:Value->Sem Value)(r:V->Hp->VK->Prop):Prop:=(∀qA s U H(x:V)(v:Value)(Q:VK),'D'->AR x v->r x H Q->'B' (f v) (EP X qA U Q) X.xe s)
def BQ(X:Cx)(f:Value)(r:dH->Hp->VK->Prop):Prop:=(∀qA s U H(xs:dH)(us:B6)(Q:VK),'D'->AW xs us->r xs H Q->'B' (call f us) (EP X qA U Q) X.xe s)
def HS(r:R2)(ta tb:TE):TE:=(λU H Q=>ta U H λx H1=>tb U H1 λy H2=>r x y H2 Q)
def WZ(r:V->Hp->VK->Prop)(ta:TE):TE:=(λU H Q=>ta U H λx H1=>r x H1 Q)
inductive rI(C:Int->Int->Prop)(g:Int->Int->V)(x y:V)(H:Hp)(Q:VK):Prop|mk(i j:Int)(ex:x=.int i)(ey:y=.int j)(c:C i j)(q:Q (g i j) H)
inductive rI0(g:Int->Int->V)(x y:V)(H:Hp)(Q:VK):Prop|mk(i j:Int)(ex:x=.int i)(ey:y=.int j)(q:Q (g i j) H)
def rU(g:Int->V):V->Hp->VK->Prop:=(λx H Q=>∃i,x=.int i/\Q (g i) H)
section
variable{a b c:Expr}{tc:TE}
def MF(n:PE X a ta)(m:PE X b tb){R:V->V->Hp->Prop}(I:'D')(h:ta U H λx H1=>tb U H1 λy H2=>R x y H2){f:Value->Value->Sem Value}(l:∀v u c x y H2,Inv X qA U H2 c->AR x v->AR y u->R x y H2->'B' (f v u) Q X.xe c):'B' (eval a X.env) (λv s₁=>'B' (eval b X.env) (λu s₂=>'B' (f v u) Q X.xe s₂) X.xe s₁) X.xe s:=by show AQ (n qA s U H _ I h) λv d zz=>?_;let[x,H1,p,g,j]:=zz;show AQ (m qA d U H1 _ p j) λu c zz=>?_;let[y,H2,o,e,i]:=zz;show l v u c x y H2 o g e i
def Bg{r}(f:Az X (binaryOp op) r)(i:PE X a ta)(g:PE X b tb):PE X (.BinOp a op b pos) (HS r ta tb):=by intro qA s U H Q I h;show wpAny_BinOp (MF i g I h λv u c x y H2 j e d q=>f qA c U H2 x y v u Q j e d q)
def Wa{r}(f:ME X (unaryOp op) r)(g:PE X a ta):PE X (.UnaryOp op a pos) (WZ r ta):=by intro qA s U H Q I h;show UnaryOp_ (AQ (g qA s U H _ I h) λv c zz=>(by let[x,H1,i,d,e]:=zz;show f qA c U H1 x v Q i d e))
def HU{g:Int->Int->Int}(rule:∀(i j)(t u)(s)(Q:VS)(E:VS),C i j->Q (.int (g i j) s.toks) {s with toks:=s.toks+1}->'B' (f (.int i t) (.int j u)) Q E s):Az X f (rI C λi j=>.int (g i j)):=by rintro qA s U H x y v u Q I c a⟨i,j,rfl,rfl,d,q⟩;let[t,0]:=c;let[t',0]:=a;show rule i j t t' s _ _ d {.int _,H,I.tok _,#[_,0],q}
def Pm{g:Int->Int->Int}(rule:∀(i j)(t u)(s)(Q:VS)(E:VS),Q (.int (g i j) s.toks) {s with toks:=s.toks+1}->'B' (f (.int i t) (.int j u)) Q E s):Az X f (rI0 λi j=>.int (g i j)):=by rintro qA s U H x y v u Q I c a⟨i,j,rfl,rfl,q⟩;let[t,0]:=c;let[t',0]:=a;show rule i j t t' s _ _ {.int _,H,I.tok _,#[_,0],q}
def JT{g:Int->Int->Bool}(rule:∀(i j)(t u)(s)(Q:VS)(E:VS),Q (.bool (g i j)) s->'B' (f (.int i t) (.int j u)) Q E s):Az X f (rI0 λi j=>.bl (g i j)):=by rintro qA s U H x y v u Q I c a⟨i,j,rfl,rfl,q⟩;let[t,0]:=c;let[t',0]:=a;show rule i j t t' s _ _ {.bl _,H,I,0,q}
def JU(i j:Int):Prop:=(0<=j/\j<=1000000/\i.natAbs<2^64)
def GF(i j:Int):Prop:=((-(2^64)<i/\i<2^64)\/(-(2^64)<j/\j<2^64))
def GF.ok{i j}(h:GF i j):IntMulOk i j:=by
 let[h1,h2]||[h1,h2]:=h
 .show .of_left (intBits_le_64 h1 h2)
 .show .of_right (intBits_le_64 h1 h2)
def Wc(k):(0:Int)<=2^k:=by show Int.natCast_nonneg _
def DJ:Az X (binaryOp .Add) (rI0 λi j=>.int (i+j)):=Pm λ_ _ _ _ _ _ _ q=>add_int q
def HV:Az X (binaryOp .Sub) (rI0 λi j=>.int (i-j)):=Pm λ_ _ _ _ _ _ _ q=>sub_int q
def GG:Az X (binaryOp .Mult) (rI GF λi j=>.int (i*j)):=HU λ_ _ _ _ _ _ _ a q=>mul_int q a.ok
def Fa:Az X (binaryOp .Mod) (rI (λ_ j=>0<j) λi j=>.int (i%j)):=HU λi j _ _ _ _ _ a q=>by let h1:=a;show mod_int' ⋯ (by rw[Int.fmod_eq_emod_of_nonneg i ⋯];show q)
def JV:Az X (binaryOp .Pow) (rI JU λi j=>.int (i^j.toNat)):=HU λ_ _ _ _ _ _ _ a q=>pow_int_small a.1 a.2.1 a.2.2 q
def Wf:Az X (binaryOp .RShift) (rI (λ_ j=>0<=j) λi j=>.int (i/2^j.toNat)):=HU λi j _ _ _ _ _ a q=>rshift_int a (by rw[Int.fdiv_eq_ediv_of_nonneg i (Wc _)];show q)
def Wg{g:Int->Int}(rule:∀(i)(t)(s)(Q:VS)(E:VS),Q (.int (g i) s.toks) {s with toks:=s.toks+1}->'B' (f (.int i t)) Q E s):ME X f (rU λi=>.int (g i)):=by rintro qA s U H x v Q I a⟨i,rfl,q⟩;let[t,0]:=a;show rule i t s _ _ {.int _,H,I.tok _,#[_,0],q}
def Wi:ME X (unaryOp .USub) (rU λi=>.int (-i)):=Wg λ_ _ _ _ _ q=>neg_int q
end
noncomputable def Wj:V->V->Bool|.non,.non=>true|.non,.int _=>true|.int _,.non=>true|.non,.bl _=>true|.bl _,.non=>true|.non,.str _=>true|.str _,.non=>true|.int _,.int _=>true|.bl _,.bl _=>true|.str _,.str _=>true|.byt _,.byt _=>true|.int _,.str _=>true|.str _,.int _=>true|.bl _,.str _=>true|.str _,.bl _=>true|_,_=>false
def Wk:R2:=(λx y H Q=>Wj x y=true/\Q (.bl (decide (x=y))) H)
def Wl{i j}:decide (V.int i=V.int j)=(i==j):=by rw[Bool.eq_iff_iff];simp
def Wm{i j}:decide (V.bl i=V.bl j)=(i==j):=by rw[Bool.eq_iff_iff];simp
def Wn{i j}:decide (V.str i=V.str j)=(i==j):=by rw[Bool.eq_iff_iff];simp
def Wo{i j}:decide (V.byt i=V.byt j)=(i.toList==j.toList):=by rw[Bool.eq_iff_iff];simp
section
variable{a b c:Expr}{tc:TE}
def CZ{Q}{k a}(I:'D')(q:Q (.bl k) H)(e:k=a):EP X qA U Q (.bool a) s:=by subst e;show{.bl k,H,I,0,q}
noncomputable def Pn:Az X (compareOp .Eq) Wk:=by rintro qA s U H x y v u Q I d a⟨c,q⟩;cases x with
 |non=>cases d;cases y with
  |non=>cases a;show PySem.EqNone.eq_none_none (CZ I q '2')|bl j=>cases a;show PySem.EqNone.eq_none_bool (CZ I q '2')|int j=>let[t',0]:=a;show PySem.EqNone.eq_none_int (CZ I q '2')|str j=>let[t',0]:=a;show PySem.EqNone.eq_none_str (CZ I q '2')|_=>show bS (c) cH
 |bl i=>cases d;cases y with
  |non=>cases a;show PySem.EqNone.eq_bool_none (CZ I q '2')|bl j=>cases a;show eq_bool (CZ I q Wm)|str j=>let[t',0]:=a;show PySem.EqMixed.eq_bool_str (CZ I q '2')|_=>show bS (c) cH
 |int i=>let[t,0]:=d;cases y with
  |non=>cases a;show PySem.EqNone.eq_int_none (CZ I q '2')|int j=>let[t',0]:=a;show eq_int (CZ I q Wl)|str j=>let[t',0]:=a;show PySem.EqMixed.eq_int_str (CZ I q '2')|_=>show bS (c) cH
 |str i=>let[t,0]:=d;cases y with
  |non=>cases a;show PySem.EqNone.eq_str_none (CZ I q '2')|bl j=>cases a;show PySem.EqMixed.eq_str_bool (CZ I q '2')|int j=>let[t',0]:=a;show PySem.EqMixed.eq_str_int (CZ I q '2')|str j=>let[t',0]:=a;show eq_str (CZ I q Wn)|_=>show bS (c) cH
 |byt i=>let[t,0]:=d;cases y with
  |byt j=>let[t',0]:=a;show PySem.W.eq_bytes (CZ I q Wo)|_=>show bS (c) cH
 |_=>cases y<;>show bS (c) cH
def MG:Az X (compareOp .Lt) (rI0 λi j=>.bl (decide (i<j))):=JT λ_ _ _ _ _ _ _ q=>lt_int q
def EV:Az X (compareOp .LtE) (rI0 λi j=>.bl (decide (i<=j))):=JT λ_ _ _ _ _ _ _ q=>le_int q
def Fb:Az X (compareOp .Gt) (rI0 λi j=>.bl (decide (j<i))):=JT λ_ _ _ _ _ _ _ q=>gt_int q
def Po:Az X (compareOp .GtE) (rI0 λi j=>.bl (decide (j<=i))):=JT λ_ _ _ _ _ _ _ q=>ge_int q
def Wp:Az X (compareOp .Lt) (λx y H Q=>∃i j,x=.str i/\y=.str j/\Q (.bl (decide (i.cps.toList<j.cps.toList))) H):=by rintro qA s U H x y v u Q I c a⟨i,j,rfl,rfl,q⟩;let[t,0]:=c;let[t',0]:=a;show lt_str (CZ I q rfl)
def Pp:Az X (compareOp .IsNot) (λx y H Q=>y=.non/\Q (.bl (!decide (x=.non))) H):=by rintro qA s U H x y v u Q I a c⟨rfl,q⟩;cases c;show isnot_none_gen (CZ I q ?_);cases x<;>first|(rfl)|(let[t,0]:=a;rfl)
def A0(b)(h:op≠.In:=by decide)(h2:op≠.NotIn:=by decide):behindInMarks op b=false:=by
 let c:(op==CmpOp.In)=false:=by simp_all
 let a:(op==CmpOp.NotIn)=false:=by simp_all
 cases b<;>simp[behindInMarks,c,a]
def Pq{r}(f:Az X (compareOp op) r)(j:PE X a ta)(i:PE X b tb)(g:behindInMarks op b=false):PE X (.Compare a [op] [b] pos) (HS r ta tb):=by intro qA s U H Q I h;show wpAny_Compare1 (MF j i I h λv u c x y H2 l e d q=>f qA c U H2 x y v u Q l e d q) g
def MH(t:TE):TT:=(λU H Q=>t U H λx H'=>∃k,x=.bl k/\Q k H')
def Dl{r}(o:Az X (compareOp op) r)(w:PE X a ta)(q:PE X b tb)(p:behindInMarks op b=false):PT X (.Compare a [op] [b] pos) (MH (HS r ta tb)):=by
 intro qA s U H Q I h;show wpAny_isTrue_Compare1 (AQ (w qA s U H _ I h) λv f zz=>?_) p;let[x,H1,C,j,n]:=zz;show AQ (q qA f U H1 _ C n) λu d zz=>?_;let[y,H2,B,i,m]:=zz;show AQ (o qA d U H2 x y v u _ B j i m) λc E zz=>?_;let[z,D,A,g,k,e,l]:=zz
 subst e;cases g;show wpAny_truthy_bool #[D,A,l]
def MI(r r':R2)(ta tb tc:TE):TE:=(λU H Q=>ta U H λx H1=>tb U H1 λy H2=>r x y H2 λz H3=>∃k,z=.bl k/\(if k=true then tc U H3 λw' H4=>r' y w' H4 Q else Q (.bl false) H3))
def Wq{r r'}(L:Az X (compareOp op) r)(g:Az X (compareOp f) r')(T:PE X a ta)(O:PE X b tb)(N:PE X c tc)(M:lastMarks [op,f] [b,c]=false:=by with_unfolding_all rfl):PE X (.Compare a [op,f] [b,c] pos) (MI r r' ta tb tc):=by
 intro qA s U H Q I h;show Compare_chain (AQ (T qA s U H _ I h) λv A zz=>?_) M;let[x,H1,I1,D,J]:=zz;show chain_link (AQ (O qA A U H1 _ I1 J) λu w zz=>?_);done<;>let[y,H2,ρ,i,G]:=zz;show AQ (L qA w U H2 x y v u _ ρ D i G) λd q zz=>?_;done<;>let[z,m,l,C,k,e,j]:=zz
 subst e;cases C;show wpAny_truthy_bool ?_;cases k with
 |false=>show ite_ff {.bl false,m,l,0,j}|true=>show ite_tt (chain_last (AQ (N qA q U m _ l j) λo p zz=>(by let[n,H4,σ,B,E]:=zz;show g qA p U H4 y n u o Q σ i B E)))
def Wr{r r'}(N:Az X (compareOp op) r)(g:Az X (compareOp f) r')(ρ:PE X a ta)(σ:PE X b tb)(T:PE X c tc)(O:lastMarks [op,f] [b,c]=false:=by with_unfolding_all rfl):PT X (.Compare a [op,f] [b,c] pos) (MH (MI r r' ta tb tc)):=by
 intro qA s U H Q I h;show isTrue_chain (AQ (ρ qA s U H _ I h) λv A zz=>?_) O;let[x,H1,I1,E,M]:=zz;show test_link (AQ (σ qA A U H1 _ I1 M) λu w zz=>?_);done<;>let[y,H2,I2,i,L]:=zz;show AQ (N qA w U H2 x y v u _ I2 E i L) λd q zz=>?_;done<;>let[z,m,l,D,k,e,j]:=zz
 subst e;cases D;show wpAny_truthy_bool ?_;cases k with
 |false=>let[k',e',q']:=j;cases e';show ite_ff #[m,l,q']|true=>show ite_tt (test_last (AQ (T qA q U m _ l j) λo p zz=>?_));let[n,H4,I4,C,J]:=zz;show AQ (g qA p U H4 y n u o _ I4 i C J) λd' s5 zz=>?_;let[z2,H5,I5,B,k2,e2,G]:=zz;subst e2;cases B;show wpAny_truthy_bool #[H5,I5,G]
def Fc:(sizeLine:Nat)<2^63:=by rw[cU];decide
def Pr:Az X (binaryOp .Add) (λx y H Q=>∃i j,x=.str i/\y=.str j/\i.length+j.length<=sizeLine/\Q (.str (i++j)) H):=by rintro qA s U H x y v u Q I c a⟨i,j,rfl,rfl,d,q⟩;let[t,0]:=c;let[t',0]:=a;show add_str (λt' tk=>{.str _,H,I.tok _,#[_,0],q}) d
def Ws(b:Expr):Prop:=(∀o i,subscripted b false o i=operate [o,i] (getItem o i))
def GH{x}(r:AW [x] us):∃u,us=[u]/\AR x u:=by cases r with|cons c a=>cases a;show#[_,0,c]
def MJ{x y}(r:AW [x,y] us):∃u w',us=[u,w']/\AR x u/\AR y w':=by cases r with|cons e d=>cases d with|cons c a=>cases a;show#[_,_,0,e,c]
def Wt(c:X.calm=true):BQ X (.builtin "max") (λxs H Q=>∃i j,xs=[.int i,.int j]/\Q (.int (if j>i then j else i)) H):=by
 rintro qA s U H xs us Q I r⟨i,j,rfl,q⟩;let[u,d,0,[t,0],[t',0]]:=MJ r;show max_two_ints (I.ok.hd c) λh' tk k=>{_,H,I.kept k,?_,q};by_cases a:j>i
 .rw[aC a,aC a];show#[_,0]
 .rw[aB a,aB a];show#[_,0]
def Wu(c:X.calm=true):BQ X (.builtin "min") (λxs H Q=>∃i j,xs=[.int i,.int j]/\Q (.int (if j<i then j else i)) H):=by
 rintro qA s U H xs us Q I r⟨i,j,rfl,q⟩;let[u,d,0,[t,0],[t',0]]:=MJ r;show min_two_ints (I.ok.hd c) λh' tk k=>{_,H,I.kept k,?_,q};by_cases a:j<i
 .rw[aC a,aC a];show#[_,0]
 .rw[aB a,aB a];show#[_,0]
end
structure ObjM(h:Heap)(x dx C:Addr)(mA:Str->C2):Prop where
 obj:h.get? x\(PySem.W.instObj C dx)ns:h.Ns1 dx mA
 ne:dx≠x
set_option tactic.hygienic true in
def Ps{mA:Str->C2}(n:h.Ns1 dx mA):∃od,h.get? dx\od/\∀name,PySem.W.lookIn name od\(mA name):=by
 let[o,es,ep,f,j,i,_,g]:=n;show{o,f,λname=>?_};let e:=g name;unfold nsFind findBy at e;rw[<-Array.find?_toList]at e;unfold PySem.W.lookIn;rw[j];dsimp only;split
 .simp_all
 .rename_i q;rw[q]at e;let a:es.toList.any (·.refKey)=false:=by rw[any_eq_false];intro y d;let[z,t,c]:=i y (Array.mem_toList_iff.mp d);simp[DictEntry.refKey,c]
  simp_all
def ObjM.look{x C}(I:ObjM h x dx C mA):∃od,PySem.W.InstAt h x (PySem.W.instObj C dx) C (some od)/\∀name,PySem.W.lookIn name od\(mA name):=let⟨od,a,c⟩:=Ps I.ns
 {od,#[I.obj,0,0,a],c}
section
variable{K:Fg}{x C f:Addr}{mA:Str->C2}{name:Str}{v:Value}
def Wv{a}(X:K.In s.heap)(I:ObjM s.heap x dx C mA)(g:PySem.W.plainGet K C name=true)(f:PySem.W.hasDictIn K C=true)(i:PySem.W.findIn K (.ref C) name\none)(d:mA name\v)(c:PySem.W.handedIn v=true)(h:Q v {s with toks:=s.toks+1}):'C' (getAttr (.ref x) name a) Q E s:=by let[od,J,e]:=I.look;show PySem.W.get_value X J (PySem.W.plainGet_of g).1 (PySem.W.findObj_own f i rfl (by rw[e,d])) c h
def Ww{Q:Value×B6->Shared->Prop}(X:K.In s.heap)(I:ObjM s.heap x dx C mA)(a:PySem.W.plainGet K C name=true)(g:PySem.W.findIn K (.ref C) name\(some (.ref f)))(d:PySem.W.isFn K (.ref f)=true)(c:mA name=none)(h:Q (.ref f,[.ref x]) s):'C' (getMethod (.ref x) name pl) Q E s:=by let[od,J,e]:=I.look;show PySem.W.method_fn X J (PySem.W.plainGet_of a).1 (PySem.W.plainGet_of a).2 g (beq_iff_eq.mp d) (by change(PySem.W.lookIn name od).map _\false;rw[e,c];rfl) h
def Wx{Q}(X:K.In s.heap)(I:ObjM s.heap x dx C mA)(m:PySem.W.findIn K (.ref C) "__setattr__"\(some (.builtin "object.__setattr__")))(n:PySem.W.plainOver K C=true)(l:PySem.W.takerIn K C name\none)(o:PySem.W.hasDictIn K C=true)(hw:PySem.Within mA ns)(hsz:ns.length<=sizeLine)(h:∀h',ObjM h' x dx C (λy=>if y=name then some v else mA y)->Heap.SameBut dx s.heap h'->Q () {s with heap:=h',toks:=s.toks+2}):'C' (setAttr (.ref x) name v) Q E s:=by let[od,J,B]:=I.look;show PySem.W.set_plain X J m (PySem.W.osa_open X J n l λb=>?_);let[cd,p,g]:=PySem.W.any_some o;let j:=I.obj;show wB (wP (wB (wB (wpAny_loadPart j (wB (PySem.W.Looks.here (PySem.W.looks_clsIn X p) ?_))))));rw[g];show wP (wB (wP (wB ?_)));show wpAny_nsSet1 I.ns λh' d c=>?_;done<;>let[z,q,u,e,f,i]:=d.count (PySem.Within.cons name v hw);show wB (wpAny_lookBehind e (by rw[f];show pastItsLine_dict (aR i (by rw[length_cons];lia))) ?_);show wP (h _ {(c.2 _ (Ne.symm I.ne)).trans I.obj,d,I.ne} c)
noncomputable def Wy{vs:B6}{a}(X:K.In s.heap)(c:PySem.W.makesIn K C=true)(hi:PySem.W.findIn K (.ref C) "__init__"\(some (.ref f)))(e:PySem.W.typeIn K (.ref f)\(.type "function"))(h:codeAny (model prog w) (A.under (.builtin "type.__call__" {.ref C::vs,a})) (.call (.ref f) {.ref ('H'+1)::vs,a}) (PySem.W.InitBack ('H'+1) R)
   {s with heap:=(s.heap.push PySem.W.emptyDict).push (PySem.W.instObj C 'H')}):codeAny (model prog w) A (.call (.ref C) #[vs,a]) R s:=by show PySem.W.make_core (PySem.W.makes_of X c) (PySem.W.looks_findIn X hi) (λself=>PySem.W.bind_fn X self e) (.inl rfl) h
end
noncomputable def BC(f:Str)(v:V):List (Str×V)->List (Str×V)|[]=>[(f,v)]|(g,x)::r=>if g=f then(g,v)::r else(g,x)::BC f v r
theorem Pt(f g)(v):∀fs,(BC f v fs).lookup g=if g=f then some v else fs.lookup g
 |[]=>by change List.lookup g [(f,v)]=_;grind|(k,x)::r=>by let d:=Pt f g v r;rw[show BC f v _=(if k=f then(k,v)::r else(k,x)::BC f v r)from rfl];grind
theorem MK(f)(v):∀fs,f∈(BC f v fs).map (·.1)/\∀g,g∈fs.map (·.1)->g∈(BC f v fs).map (·.1)
 |[]=>{by simp[BC],λg h=>by simp at h}|(k,x)::r=>by
  let[d,c]:=MK f v r;rw[show BC f v _=(if k=f then(k,v)::r else(k,x)::BC f v r)from rfl];by_cases a:k=f
  .subst a;show{'2',λg h=>by simpa using h}
  .rw[aB a];show{?_,λg h=>?_}
   .show bT _ d
   .let e||e:=aF.mp h
    .show aF.mpr (.inl e)
    .show bT _ (c g e)
theorem ML(f)(v):∀fs,(BC f v fs).length<=fs.length+1
 |[]=>by simp[BC]|(k,x)::r=>by
  let c:=ML f v r;rw[show BC f v _=(if k=f then(k,v)::r else(k,x)::BC f v r)from rfl];by_cases a:k=f
  .simp_all
  simp_all
def CK.some_of{o}(r:CK (some v) o):∃u,o\u/\AR v u:=by cases o with|none=>show(r).elim|some u=>show#[u,0,r]
def CK.none_of{o}(r:CK none o):o=none:=by cases o with|none=>rfl|some u=>show(r).elim
noncomputable def Pu(r:AR v u):PySem.W.handedIn u=true:=by cases v with
 |non=>cases(r);rfl|bl b=>cases(r);rfl|int i=>let[t,e]:=(r);cases e;rfl|str x=>let[t,e]:=(r);cases e;rfl|byt b=>let[t,e]:=(r);cases e;rfl|flt b=>let[t,e]:=(r);cases e;rfl|ref a=>cases(r);rfl|ty n=>cases(r);rfl
section
variable{P:Program}{C:Addr}{fs fs':List (Str×V)}
def JW(hok:A3 P w H h)(e:H a\(.ins C dx fs)):∃mA,ObjM h a dx C mA/\(∀f,CK (fs.lookup f) (mA f))/\PySem.Within mA (fs.map (·.1))/\fs.length<=1000/\H dx\(.own a):=by let[d,z,g,c,mA,n,r,q]:=(hok a _ e);show{mA,#[c,n,g],r,q,z,d}
end
structure Cls(K:Fg)(C:Addr):Prop where
 pg:PySem.W.plainGet K C Str.empty=true
 hd:PySem.W.hasDictIn K C=true
 po:PySem.W.plainOver K C=true
 sa:PySem.W.findIn K (.ref C) "__setattr__"\(some (.builtin "object.__setattr__"))
def Cls.get{K}{C}(c:Cls K C)(f):PySem.W.plainGet K C f=true:=c.pg
def C4(K:Fg)(C:Addr)(f:Str):Prop:=(PySem.W.findIn K (.ref C) f\none)
def C4.taker{K}(n:C4 K C f):PySem.W.takerIn K C f\none:=by unfold PySem.W.takerIn;rw[n];rfl
structure Meth(K:Fg)(C:Addr)(m:Str)(f:Addr):Prop where
 at_:PySem.W.findIn K (.ref C) m\(some (.ref f))fn:PySem.W.isFn K (.ref f)=true
 kp:PySem.W.keepIn K (.ref f)=true
section
variable{C:Addr}{fs:List (Str×V)}{f:Str}
def Wz(I:'D')(e:H a\(.ins C dx fs))(c:Cls X.K C)(n:C4 X.K C f)(l:fs.lookup f\v)(h:∀u s',Inv X qA U H s'->AR v u->Q u s'):wpAny (model X.prog X.w) A (getAttr (.ref a) f b) Q E s:=by let[mA,O,r,_,_,_]:=JW I.hok e;let[u,g,d]:=CK.some_of (by rw[<-l];show r f);show Wv I.kIn O (c.get f) c.hd n g (Pu d) (h u _ (I.tok _) d)
def Pw{m}{g}{Q:Value×B6->Shared->Prop}(I:'D')(e:H a\(.ins C dx fs))(c:Cls X.K C)(k:Meth X.K C m g)(l:fs.lookup m=none)(h:Q (.ref g,[.ref a]) s):wpAny (model X.prog X.w) A (getMethod (.ref a) m pl) Q E s:=by let[mA,O,r,_,_,_]:=JW I.hok e;let d:=CK.none_of (by rw[<-l];show r m);show Ww I.kIn O (c.get m) k.at_ k.fn d h
def W0{Q}(I:'D')(e:H a\(.ins C dx fs))(c:Cls X.K C)(n:C4 X.K C f)(G:fs.length<1000)(l:AR y u)(h:∀s',Inv X qA U (AB H a (.ins C dx (BC f y fs))) s'->Q () s'):wpAny (model X.prog X.w) A (setAttr (.ref a) f u) Q E s:=by
 let[mA,O,r,wi,_,i]:=JW I.hok e;let m:(fs.map (·.1)).length<=sizeLine:=by rw[aA,cU];lia
 show Wx I.kIn O c.sa c.po n.taker c.hd wi m λh' d j=>h _ ?_;let v:∃o,h'.get? dx\o:=(by let[o,_,_,D,_]:=d.ns;show#[o,D]);show I.write (by rw[e];show True.intro) (.inr i) (λb q B z=>(j.2 b B).trans z) v ?_;show{by rw[AE O.ne];show i,?_,O.ne,d.obj,_,d.ns,λg=>?_,λg p=>?_}
 .let:=ML f y fs;lia
 .rw[Pt];by_cases q:g=f
  .rw[aC q,aC q];show l
  .rw[aB q,aB q];show r g
 .by_cases q:g=f
  .rw[q];show(MK f y fs).1
  .show(MK f y fs).2 g (wi g λz=>p ?_);change(if g=f then some u else mA g)=none;rw[aB q];show z
noncomputable def Inv.made(I:'D'):Inv X qA U (AB (AB H 'H' (.own ('H'+1))) ('H'+1) (.ins C 'H' []))
  {s with heap:=(s.heap.push PySem.W.emptyDict).push (PySem.W.instObj C 'H')}:=by
 let c:(s.heap.push PySem.W.emptyDict).get? 'H'\PySem.W.emptyDict:=bP s.heap rfl;let h:((s.heap.push PySem.W.emptyDict).push (PySem.W.instObj C 'H')).get? ('H'+1)\(PySem.W.instObj C 'H'):=by
  let:=bP (s.heap.push PySem.W.emptyDict) (o:=PySem.W.instObj C 'H') rfl
  simp_all
 let g:(s.heap.push PySem.W.emptyDict).Ns 'H' _:={PySem.W.emptyDict,#[],_,c,0,(λe f=>bS f '2'),λ_=>rfl};let i:=I.laid (o:=.own ('H'+1)) (t':=s.toks) (λb u q=>aS _ q) (aQ _) #[_,c];show i.laid (λb u q=>aS _ q) (Nat.le_of_eq (Heap.size_push _ _)) ?_;let ne:'H'≠'H'+1:=bX (Nat.lt_succ_self _);show{by rw[AE ne,AN],cD _,ne,h,λ_=>none,(Heap.Ns1.of_empty g).at λo q=>aS _ q,λ_=>True.intro,λy d=>bS rfl d}
def Px(a:attributeBase e f env (eval e env)=eval e env)(h:'C' (eval e env) (λo s₁=>'C' (getAttr o f true) Q E s₁) E s):'C' (eval (.Attribute e f pos) env) Q E s:=Attribute_any_ h (by rw[arm_eval_Attribute,a])
end
inductive rFld(K:Fg)(f:Str)(x:V)(H1:Hp)(Q:VK):Prop|mk(a C dx:Addr)(fs:List (Str×V))(v:V)(ex:x=.ref a)(ea:H1 a\(.ins C dx fs))(c:Cls K C)(n:C4 K C f)(l:fs.lookup f\v)(q:Q v H1)
def W1(K:Fg)(ta:TE)(f:Str):TE:=(λU H Q=>ta U H λx H1=>rFld K f x H1 Q)
inductive rFldS(K:Fg)(f:Str)(x y:V)(H2:Hp)(N:Hp->Prop):Prop|mk(a C dx:Addr)(fs:List (Str×V))(ex:x=.ref a)(ea:H2 a\(.ins C dx fs))(c:Cls K C)(n:C4 K C f)(l:fs.length<1000)(q:N (AB H2 a (.ins C dx (BC f y fs))))
def W2(K:Fg)(ta tv:TE)(f:Str):TS:=(λD U H=>tv U H λy H1=>ta U H1 λx H2=>rFldS K f x y H2 (D.nx U))
section
variable{o e value:Expr}{f:Str}{tv:TE}
def HW(i:PE X e ta)(j:attributeBase e f X.env (eval e X.env)=eval e X.env):PE X (.Attribute e f pos) (W1 X.K ta f):=by intro qA s U H Q I h;show Px j (AQ (i qA s U H _ I h) λu w zz=>?_);let[x,H1,p,d,a,C,dx,fs,v,ex,m,c,n,l,q]:=zz;subst ex;obtain rfl:u=Value.ref a:=d;show Wz p m c n l λu' r o g=>#[v,H1,o,g,q]
def GI(r:PE X o ta)(m:PE X value tv)(p:swapsWith value (some (.Attribute o f pos')) pos.line X.env=pure false):PS X (.Assign [.Attribute o f pos'] value pos) (W2 X.K ta tv f):=by intro qA s U H D I h;show plainObj_wpAny_Assign_Attribute (AQ (m qA s U H _ I h) λu d zz=>?_) p;let[y,H1,A,e,q]:=zz;show AQ (r qA d U H1 _ A q) λj E zz=>?_;let[x,H2,z,g,a,C,dx,fs,ex,v,c,n,l,i]:=zz;subst ex;obtain rfl:j=Value.ref a:=g;show W0 z v c n l e λB w=>#[U,_,w,i]
end
section
variable{c:Value}{b:Bool}
inductive TyOf(K:Fg)(H:Hp):V->Value->Prop where|non:TyOf K H .non (.type "NoneType")|bl(x:Bool):TyOf K H (.bl x) (.type "bool")|int(i:Int):TyOf K H (.int i) (.type "int")|str(x:Str):TyOf K H (.str x) (.type "str")|flt(x:UInt64):TyOf K H (.flt x) (.type "float")|lst{a:Addr}{xs:dH}(e:H a\(.lst xs)):TyOf K H (.ref a) (.type "list")|frz{a:Addr}{o:Obj}{xs:dH}(e:H a\(.frz o (.lst xs))):TyOf K H (.ref a) (.type "list")|tup{a:Addr}{xs:dH}(e:H a\(.tup xs)):TyOf K H (.ref a) (.type "tuple")|dK{a:Addr}{qH:List (AT×V)}(e:H a\(.dK qH)):TyOf K H (.ref a) (.type "dict")|dT{a:Addr}{qH:List (List AT×V)}(e:H a\(.dT qH)):TyOf K H (.ref a) (.type "dict")|fT{a:Addr}{o:Obj}{qH:List (List AT×V)}(e:H a\(.frz o (.dT qH))):TyOf K H (.ref a) (.type "dict")|ins{a C dx:Addr}{fs:List (Str×V)}(e:H a\(.ins C dx fs))(cl:Cls K C)(ha:PySem.W.findIn K (.ref C) "__class__"\(some (.builtin "object.__class__")))(hn:PySem.W.specialIn K (.builtin "object.__class__") "__get__"\(some (.builtin "getset_descriptor.__get__")))(htk:PySem.W.takesIn K (.builtin "object.__class__")\true)(hm:PySem.W.mroIn K C (.type "object")\true):TyOf K H (.ref a) (.ref C)
noncomputable def W3{x}(I:'D')(f:AR x u)(ty:TyOf X.K H x t)(e:PySem.W.kitOne X.K t c\b)(h:∀tk,Q (.bool b) {s with toks:=tk}):wpAny (model X.prog X.w) A (call (.builtin "isinstance") [u,c]) Q E s:=by cases ty with
 |non=>cases(f);show PySem.W.kia_one PySem.W.kitx_none I.kIn True.intro e '5' h|bl y=>cases(f);show PySem.W.kia_one PySem.W.kitx_bool I.kIn True.intro e '5' h|int i=>let[t,q]:=(f);cases q;show PySem.W.kia_one PySem.W.kitx_int I.kIn True.intro e '5' h|str y=>let[t,q]:=(f);cases q;show PySem.W.kia_one PySem.W.kitx_str I.kIn True.intro e '5' h|flt y=>let[t,q]:=(f);cases q;show PySem.W.kia_one PySem.W.kitx_float I.kIn True.intro e '5' h|@lst a xs d=>cases(f);let[_,_,n,_,h1]:=(I.hok a _ d);show PySem.W.kia_one PySem.W.kitx_list I.kIn #[_,h1,0] e '5' h|@frz a g xs d=>cases(f);let[_,_,_,n,_,h1]:=(I.hok a _ d);show PySem.W.kia_one PySem.W.kitx_list I.kIn #[_,h1,0] e '5' h|@tup a xs d=>cases(f);let[_,_,_,p]:=(I.hok a _ d);let[o,h1,h2,_]:=p;show PySem.W.kia_one PySem.W.kitx_tuple I.kIn #[o,h1,h2] e '5' h|@dK a qH d=>cases(f);let[_,_,vs,_,p]:=(I.hok a _ d);let[o,es,ep,h1,h2,_]:=p;show PySem.W.kia_one PySem.W.kitx_dict I.kIn #[o,h1,h2.1] e '5' h|@dT a qH d=>cases(f);let[_,_,xs,_,o,es,ep,h1,h2,_]:=(I.hok a _ d);show PySem.W.kia_one PySem.W.kitx_dict I.kIn #[o,h1,h2.1] e '5' h|@fT a g qH d=>cases(f);let[_,_,_,xs,_,o,es,ep,h1,h2,_]:=(I.hok a _ d);show PySem.W.kia_one PySem.W.kitx_dict I.kIn #[o,h1,h2.1] e '5' h|@ins a C dx fs d l v m j r=>cases(f);let[mA,O,_]:=JW I.hok d;let[od,J,_]:=O.look;show PySem.W.kia_one (PySem.W.kitx_own (l.get _) l.hd v m j r) I.kIn J e '5' h
end
structure Room(k:Nat)(A:Around):Prop where
 hd:A.handled=none
 dp:A.depth+3*k+5<recursionLimit
 un:A.units+16*k+200<cLine
def Room.mono(r:Room k A)(h:j<=k):Room j A:={r.hd,by let:=r.dp;lia,by let:=r.un;lia}
def Room.mq(h:Room k A)(e:j<=k:=by decide):Room j A:=h.mono e
def Room.deeper(r:Room (k+1) A)(env):Room k (A.deeper env):={r.hd,by let:=r.dp;change A.depth+1+3*k+5<_;lia,by let:=r.un;change A.units+3+16*k+200<_;lia}
def XA{a}:(A.under (.builtin "type.__call__" {.ref C::us,a})).depth=A.depth+1:=rfl
def XB{a}:(A.under (.builtin "type.__call__" {.ref C::us,a})).units=A.units+1:=rfl
def Room.make(r:Room (k+1) A)(C)(us:B6)(a):Room k (A.under (.builtin "type.__call__" {.ref C::us,a})):={r.hd,by let:=r.dp;rw[XA];lia,by let:=r.un;rw[XB];lia}
def Room.depth(r:Room k A):A.depth<recursionLimit:=by let:=r.dp;lia
def Room.units(r:Room k A):A.units+64<cLine:=by let:=r.un;lia
def Room.units0(r:Room k A):A.units<cLine:=by let:=r.un;lia
def BU:TA:=(λ_ H Q=>Q [] H)
def A6(ta:TE)(tr:TA):TA:=(λU H Q=>ta U H λx H1=>tr U H1 λxs H2=>Q (x::xs) H2)
section
variable{e:Expr}{t:TA}
def Ab:PA X [] BU:=λ_ _ _ _ H Q I h=>Calls.spliced_nil {[],H,I,.nil,h}
def AK(l:PE X e te)(j:PA X es t)(i:starEach (e::es) X.env=(false,eval e X.env)::starEach es X.env:=by rfl):PA X (e::es) (A6 te t):=by intro pos qA s U H Q I h;rw[i];show Calls.spliced_cons (AQ (l qA s U H _ I h) λu a zz=>?_);let[x,H1,n,d,g]:=zz;show AQ (j pos qA a U H1 _ n g) λus o zz=>(by let[xs,H2,m,c,f]:=zz;show{x::xs,H2,m,.cons d c,f})
def HX(t:TA):TE:=(λU H Q=>t U H λxs H1=>xs.length<=sizeLine/\∀p,H1 p=none->Q (.ref p) (AB H1 p (.tup xs)))
def MM(t:TA):TE:=(λU H Q=>t U H λxs H1=>xs.length<=sizeLine/\∀p,H1 p=none->Q (.ref p) (AB H1 p (.lst xs)))
def DU{x1}(h:PA X es t):PE X (.Tuple es x1 pos) (HX t):=by intro qA s U H Q I d;show wpAny_Tuple_spliced (AQ (h pos qA s U H _ I d) λus a zz=>?_);let[xs,H1,c,r,z,q]:=zz;show{by rw[<-r.length];show z,?_};let f:=c.hok.fresh (aQ _);show{.ref a.heap.objs.size,AB H1 a.heap.objs.size _,c.laid (λb u e=>aS _ e) (aQ _) ?_,0,q _ f};show{z,us,r,DT.new _ _}
def D7(h:PA X es t):PE X (.List es pos) (MM t):=by intro qA s U H Q I d;show wpAny_List_spliced (AQ (h pos qA s U H _ I d) λus a zz=>?_);let[xs,H1,c,r,z,q]:=zz;show{by rw[<-r.length];show z,?_};let f:=c.hok.fresh (aQ _);show{.ref a.heap.objs.size,AB H1 a.heap.objs.size _,c.laid (λb u e=>aS _ e) (aQ _) ?_,0,q _ f};show{z,us,(0),r,bP _ rfl}
end
noncomputable abbrev Sp:=dH->Hp->VK->XK->Prop
noncomputable abbrev Cf:=List Env->Hp->Shared->XK->Value->Shared->Prop
structure Env0(P:Program)(w:World)(K:Fg)(mg:Str->C2)(base:Heap)(A:Around)(outer:List Env)(s:Shared)(H:Hp):Prop where
 frames:A.frames\outer
 mod:Mod K mg base
 bs:∀b o,base.get? b\o->'F' b\o/\H b=none
 bsz:base.objs.size<='H'
 funs:s.heap.FunFrames base outer
 frf:∀b∈frs outer,H b=none
 hok:A3 P w H s.heap
 bare:AllBare s.gens
def CE(outer:List Env)(P:Program)(w:World)(H:Hp)(s:Shared)(Q:VK)(u:Value)(s':Shared):Prop:=(∃v H',s'.os=s.os/\AllBare s'.gens/\Un (frs outer) [] H H' s.heap s'.heap/\A3 P w H' s'.heap/\AR v u/\Q v H')
noncomputable def CR(CX:Cf)(outer:List Env)(P:Program)(w:World)(H:Hp)(s:Shared)(Q:VK)(E:XK)(r:Result)(s':Shared):Prop:=(match r with
 |.ok (.ret u)=>CE outer P w H s Q u s'|.ok _=>False|.error e=>CX outer H s E e s')
structure FnOk(P:Program)(w:World)(K:Fg)(mg:Str->C2)(base:Heap)(CX:Cf)(k:Nat)(f:Addr)(fd:FuncData)(ps:At)(sp:Sp):Prop where
 len:∀vs H Q E,sp vs H Q E->vs.length=ps.length
 run:∀(A:Around)(outer:List Env)(s:Shared)(H:Hp)(args:Args)(us:B6)(vs:dH)(Q:VK)(E:XK),Room k A->Env0 P w K mg base A outer s H->BindsTo s fd args (ps.zip us)->AW vs us->sp vs H Q E->codeAny (model P w) A (.call (.ref f) args) (CR CX outer P w H s Q E) s
def FnOk.mono{K}(F:FnOk P w K mg base CX j f fd ps sp)(h:j<=k):FnOk P w K mg base CX k f fd ps sp:={F.len,λA outer s H args us vs Q E a=>F.run A outer s H args us vs Q E (a.mono h)}
def FnOk.imp{K}(F:FnOk P w K mg base CX k f fd ps sp)(h:∀vs H Q E,sp' vs H Q E->sp vs H Q E):FnOk P w K mg base CX k f fd ps sp':={λvs H Q E q=>F.len vs H Q E (h _ _ _ _ q),λA outer s H args us vs Q E a c hb hv hs=>F.run A outer s H args us vs Q E a c hb hv (h _ _ _ _ hs)}
def Env0.make{K}(e:Env0 P w K mg base A outer s H)(C)(us:B6)(a):Env0 P w K mg base (A.under (.builtin "type.__call__" {.ref C::us,a})) outer s H:={by first|show e.frames|lia,e.mod,e.bs,e.bsz,e.funs,e.frf,e.hok,e.bare}
def Inv.env0(I:'D'):Env0 X.prog X.w X.K X.mg X.base X.A X.stack s H:={I.ok.frames,I.ok.mod,I.bs,aR I.ok.bsz I.sz,I.stack,I.stkFree,I.hok,I.bare}
def Inv.after{Q}(I:'D')(h:CE X.stack X.prog X.w H s Q u s'):EP X qA U Q u s':=by let[v,H',os,bare,un,hok,r,q]:=h;let[c,g,d,t,a]:=s';obtain rfl:a=s.os:=os;show{v,H',I.call un hok bare (λb z=>bS z '2'),r,q}
def EW(sp:Sp)(dvs:dH)(E:XK)(t:TA):TE:=(λU H Q=>t U H λvs H1=>sp (vs++dvs) H1 Q E)
inductive rMeth(C:Addr)(m:Str)(x:V)(H1:Hp)(N:Prop):Prop|mk(a dx:Addr)(fs:List (Str×V))(ex:x=.ref a)(ea:H1 a\(.ins C dx fs))(l:fs.lookup m=none)(q:N)
def JX(C:Addr)(m:Str)(sp:Sp)(dvs:dH)(E:XK)(ta:TE)(t:TA):TE:=(λU H Q=>ta U H λx H1=>rMeth C m x H1 (t U H1 λvs H2=>sp (x::(vs++dvs)) H2 Q E))
def Py(C:Addr)(sp:Sp)(dvs:dH)(E:XK)(t:TA):TE:=(λU H Q=>t U H λvs H1=>∀x dx,H1 x=none->H1 dx=none->dx≠x->sp (.ref x::(vs++dvs)) (AB (AB H1 dx (.own x)) x (.ins C dx [])) (λv H2=>v=.non/\Q (.ref x) H2) E)
def Cr(K:Fg)(fd:FuncData)(ps:At)(ds:B6):Prop:=(∀(s:Shared)(us:B6),K.In s.heap->(us++ds).length=ps.length->BindsTo s fd {us,[]} (ps.zip (us++ds)))
def Cr.all{K}(h:∀us:B6,us.length=ps.length->bindArgs fd {us,[]}=pure (ps.zip us)):Cr K fd ps []:=λs us _ a=>by rw[cP]at a⊢;show .of_eq (h us a)
def DK(CX:Cf)(X:Cx)(E:XK):Prop:=(∀(qA:List (Addr×Obj))(U:St)(H:Hp)(s:Shared)(e:Value)(s':Shared),'D'->CX X.stack H s E e s'->X.xe e s')
section
variable{CX:Cf}{k:Nat}{f C:Addr}{sp:Sp}{dvs:dH}{ds:B6}{E:XK}{m:Str}{p:Pos}{e o:Expr}{t:TA}
def MN{Q}(F:FnOk X.prog X.w X.K X.mg X.base CX k f fd ps sp)(g:Room k X.A)(l:Cr X.K fd ps ds)(j:AW dvs ds)(d:DK CX X E)(I:'D')(r:AW vs us)(h:sp (vs++dvs) H Q E):'B' (call (.ref f) us) (EP X qA U Q) X.xe s:=by
 let c:=r.append j;let i:(us++ds).length=ps.length:=by rw[<-c.length];show F.len _ _ _ _ h
 show wpAny_call (codeAny_mono (F.run X.A X.stack s H {us,[]} _ _ Q E g I.env0 (l s us I.kIn i) c h) λr s' a=>?_);cases r with
 |error e=>show d qA U H s e s' I a|ok m=>cases m with
  |ret u=>show I.after a|next=>assumption|brk=>assumption|cont=>assumption
def Pz(F:FnOk X.prog X.w X.K X.mg X.base CX k f fd ps sp)(i:Room k X.A)(m:Gl X x)(j:X.mg x\(.ref f))(l:PySem.W.keepIn X.K (.ref f)=true)(u:Cr X.K fd ps ds)(o:AW dvs ds)(g:DK CX X E)(v:PA X (e::es) t)(c:No x:=by decide)(n:starEach (e::es) X.env=(false,eval e X.env)::starEach es X.env:=by rfl)(a:(backTo pos (starEach es X.env)).any (·.1)=false:=by rfl):PE X (.Call (.Name x p) (e::es) [] pos) (EW sp dvs E t):=by intro qA s U H Q I h;show wpAny_Call_Name_kw (E2 I m j ?_ c);show PySem.W.callWith_K I.ok.mod.kin l (AQ (v pos qA s U H _ I h) λus y zz=>?_) n a;let[vs,H1,d,r,q]:=zz;show#[d.kIn,?_];show MN F i u o g d r q
noncomputable def XC(r:PE X o ta)(c:Cls X.K C)(g:Meth X.K C m f)(F:FnOk X.prog X.w X.K X.mg X.base CX k f fd ps sp)(p:Room k X.A)(y:Cr X.K fd ps ds)(v:AW dvs ds)(j:DK CX X E)(n:eval (.Call (.Attribute o m qK) [] [] pos) X.env=(do
   let e<-eval o X.env
   standAt qK.atName let(f,first)<-holding [e] (getMethod e m pl)callWith pos f first (backTo pos (starEach [] X.env)) (backToKw pos (keywordEach [] X.env))):=by rfl):PE X (.Call (.Attribute o m qK) [] [] pos) (JX C m sp dvs E ta BU):=by intro qA s U H Q I h;show PySem.W.methodCall_KW (AQ (r qA s U H _ I h) λu B zz=>?_) n;let[x,H1,d,i,a,dx,fs,ex,z,l,q]:=zz;subst ex;obtain rfl:u=Value.ref a:=i;show Pw d z c g l ?_;show PySem.W.callWith_K0 d.kIn g.kp (MN (vs:=[.ref a]) F p y v j d (.cons rfl .nil) q)
structure Mk(K:Fg)(C f:Addr):Prop where
 makes:PySem.W.makesIn K C=true
 init:PySem.W.findIn K (.ref C) "__init__"\(some (.ref f))fn:PySem.W.isFn K (.ref f)=true
 kp:PySem.W.keepIn K (.ref C)=true
def XD{Q}(M:Mk X.K C f)(F:FnOk X.prog X.w X.K X.mg X.base CX k f fd ps sp)(l:Room (k+1) X.A)(o:Cr X.K fd ps ds)(n:AW dvs ds)(j:DK CX X E)(I:'D')(r:AW vs us)(h:∀x dx,H x=none->H dx=none->dx≠x->sp (.ref x::(vs++dvs)) (AB (AB H dx (.own x)) x (.ins C dx [])) (λv H2=>v=.non/\Q (.ref x) H2) E):'B' (call (.ref C) us) (EP X qA U Q) X.xe s:=by
 let g:=h _ 'H' (I.hok.fresh (cS _)) (I.hok.fresh (aQ _)) (bX (Nat.lt_succ_self _));let c:=Inv.made (C:=C) I;let d:AW (V.ref ('H'+1)::(vs++dvs)) _:=.cons rfl (r.append n);let m:(Value.ref ('H'+1)::us++ds).length=ps.length:=by let e:=d.length;rw[F.len _ _ _ _ g]at e;show e.symm
 show wpAny_call (Wy I.kIn M.makes M.init (beq_iff_eq.mp M.fn) (codeAny_mono (F.run _ X.stack _ _ {Value.ref _::us,[]} _ _ _ E (l.make C us [])
  (c.env0.make C us []) (o _ _ c.kIn m) d g) λr s' a=>?_))
 cases r with|error e=>show j qA U _ _ e s' c a|ok p=>cases p with|ret u=>let[v,H',q,rv,ev,i]:=c.after a;subst ev;show#[rv,{V.ref _,H',q,0,i}]|next=>assumption|brk=>assumption|cont=>show False.elim a
def XE(M:Mk X.K C f)(F:FnOk X.prog X.w X.K X.mg X.base CX k f fd ps sp)(i:Room (k+1) X.A)(l:Gl X x)(j:X.mg x\(.ref C))(o:Cr X.K fd ps ds)(n:AW dvs ds)(g:DK CX X E)(u:PA X (e::es) t)(c:No x:=by decide)(m:starEach (e::es) X.env=(false,eval e X.env)::starEach es X.env:=by rfl)(a:(backTo pos (starEach es X.env)).any (·.1)=false:=by rfl):PE X (.Call (.Name x p) (e::es) [] pos) (Py C sp dvs E t):=by intro qA s U H Q I h;show wpAny_Call_Name_kw (E2 I l j ?_ c);show PySem.W.callWith_K I.ok.mod.kin M.kp (AQ (u pos qA s U H _ I h) λus v zz=>?_) m a;let[vs,H1,d,r,q]:=zz;show#[d.kIn,?_];show XD M F i o n g d r q
end
def PK(X:Cx)(kws:List Keyword)(t:TA):Prop:=(∀(pos:Pos)qA s U H(Q:dH->Hp->Prop),'D'->t U H Q->'B' (evalAll ((backToKw pos (keywordEach kws X.env)).map (·.2))) (AP X qA U Q) X.xe s)
section
variable{CX:Cf}{k:Nat}{f C:Addr}{sp:Sp}{E:XK}{m:Str}{p kpos:Pos}{e o:Expr}{kws:List Keyword}{t tk:TA}{nm:Option Str}
def XF:PK X [] BU:=λ_ _ _ _ H Q I h=>wpAny_evalAll_nil {[],H,I,.nil,h}
def XG(j:PE X e te)(i:PK X kws t):PK X (#[nm,e,kpos]::kws) (A6 te t):=by intro pos qA s U H Q I h;show wpAny_evalAll_cons (wB (AQ (j qA s U H _ I h) λu a zz=>?_));let[x,H1,m,d,g]:=zz;show wB (wpAny_standAt (wP ?_));show AQ (i pos qA a U H1 _ m g) λus n zz=>(by let[xs,H2,l,c,f]:=zz;show{x::xs,H2,l,.cons d c,f})
variable{g:B6->B6->B6}{gV:dH->dH->dH}
end
structure FnScope(N P:At)(sc:Scope):Prop where
 kind:sc.kind=.function
 co:sc.isCoroutine=false
 gen:sc.isGenerator=false
 nd:N.Nodup
 pre:N.take P.length=P
 par:∀x∈P,sc.names.lookup x\.local\/sc.names.lookup x\.cell
 nofree:∀y∈sc.names,y.2≠.free
theorem P0{kindOf}:∀{binds}{m:Str->C2},(∀v,(x,v)∉binds)->bindL kindOf binds m x=m x
 |[],_,_=>rfl|(n,v)::r,m,h=>by
  unfold bindL;rw[P0 λw a=>h w (bT _ a)];split
  .let:x≠n:=by rintro rfl;show h v cA
   simp[this]
  .rfl
theorem P1{kindOf}:∀{binds}{m:Str->C2},(∀v,(x,v)∉binds)->bindC kindOf binds m x=m x
 |[],_,_=>rfl|(n,v)::r,m,h=>by
  unfold bindC;rw[P1 λw a=>h w (bT _ a)];split
  .rfl
  .let:x≠n:=by rintro rfl;show h v cA
   simp[this]
theorem P2{kindOf}{v}:∀{P:At}{vs:B6}{i:Nat}{m:Str->C2},P.Nodup->P[i]?\x->vs[i]?\v->kindOf x\.local->bindL kindOf (P.zip vs) m x\v
 |[],_,_,_,_,h,_,_=>by simp at h|_::_,[],_,_,_,_,h,_=>by simp at h|p::P,w::vs,0,m,a,h1,h2,c=>by simp at h1 h2;subst h1;subst h2;change bindL kindOf ((p,w)::P.zip vs) m p=_;unfold bindL;rw[P0 λv d=>(bC.mp a).1 (of_mem_zip d).1,aC c];simp|p::P,w::vs,i+1,m,a,h1,h2,c=>by unfold bindL;show P2 (bC.mp a).2 (~~~h1) (~~~h2) c
theorem P3{kindOf}{v}:∀{P:At}{vs:B6}{i:Nat}{m:Str->C2},P.Nodup->P[i]?\x->vs[i]?\v->kindOf x≠some .local->bindC kindOf (P.zip vs) m x\v
 |[],_,_,_,_,h,_,_=>by simp at h|_::_,[],_,_,_,_,h,_=>by simp at h|p::P,w::vs,0,m,a,h1,h2,c=>by simp at h1 h2;subst h1;subst h2;change bindC kindOf ((p,w)::P.zip vs) m p=_;unfold bindC;rw[P1 λv d=>(bC.mp a).1 (of_mem_zip d).1,aB c];simp|p::P,w::vs,i+1,m,a,h1,h2,c=>by unfold bindC;show P3 (bC.mp a).2 (~~~h1) (~~~h2) c
def start(N:At)(vs:dH):St:=(vs.map some++replicate (N.length-vs.length) none)
noncomputable def EY(CX:Cf)(P:Program)(w:World)(K:Fg)(mg:Str->C2)(base:Heap)(N:At)(qual:Str)(scope:Scope)(f:Addr)(cd:Value)(A:Around)(outer:List Env)(s:Shared)(H:Hp)(E:XK):Cx where
 prog:=P
 w:=w
 K:=K
 mg:=mg
 base:=base
 A:=A.deeper (envOfC qual scope 'H' f cd)
 N:=N
 s₀:=s
 H₀:=H
 env:=envOfC qual scope 'H' f cd
 outer:=outer
 stack:=envOfC qual scope 'H' f cd::outer
 ex:=[]
 calm:=true
 fn:=λ_=>true
 pn:=[]
 xe:=λe s'=>wpAny (model P w) (A.deeper (envOfC qual scope 'H' f cd)) (leaving (envOfC qual scope 'H' f cd) e) (λ_ s''=>CX outer H s E e s'') (λe' s''=>CX outer H s E e' s'') s'
def P4(h:sc.names.lookup x\.cell):∃c,(cellsFrom n sc.names []).lookup x\c:=by let q:=PySem.W.cellsFrom_some sc.names n [] (.inl h);show Option.isSome_iff_exists.mp q
def XH{K}{E}(S:FnScope N ps scope)(C:A.handled=none)(d:Env0 P w K mg base A outer s H)(G:vs.length=ps.length)(r:AW vs us)(x:InCallC s 'H' (bindL (envOfC qual scope 'H' f cd).kindOf (ps.zip us) λ_=>none) (cellsFrom ('H'+1) scope.names []) (bindC (envOfC qual scope 'H' f cd).kindOf (ps.zip us) λ_=>none) s1):Inv (EY CX P w K mg base N qual scope f cd A outer s H E) [] (start N vs) H s1:=by
 let B:ps.length<=N.length:=by let:=aT length S.pre;rw[aO]at this;lia
 let[h1,tk,0,o]:=x.done;let g:∀b,b∉(EY CX P w K mg base N qual scope f cd A outer s H E).ex:=λb z=>bS (show b∈([])from z) '2';show#[{d.mod,S.kind,0,0,aQ _,λy z c h1 h2=>?_,λy hy=>?_,λy c _ h=>?_,λ_=>C,Around.frames_deeper d.frames,.inr #[0,0],λb z=>bS z (g b),d.bs,d.bsz,λb _ _=>g b,λb z=>bS z (g b),d.funs,d.frf},0,d.bare,Un.kept o,{_,x.toInCall.ns,λi y v h1 h2 I=>?_},λy c h=>{_,x.cell y c h},d.hok.fresh (aQ _),λy c h=>?_,λp l=>bS (show p∈([])from l) '2',d.hok.kept o,?_]
 .show name_of_addr x.apart (PySem.mem_of_lookup h1) (PySem.mem_of_lookup h2)
 .let hy:=hy;let hy||hy:=hy
  .show P4 hy
  .show bS rfl (S.nofree _ (PySem.mem_of_lookup hy))
 .show aY (x.above y c (PySem.mem_of_lookup h))
 .let hi:i<vs.length:=by
   unfold start at h2;by_cases hi:i<vs.length
   .show hi
   .rw[getElem?_append_right (~~~hi)]at h2;rw[getElem?_replicate]at h2;split at h2<;>cases h2
  let D:vs[i]?\v:=by unfold start at h2;rw[getElem?_append_left (~~~hi),bO]at h2;cases e:vs[i]? with
   |none=>rw[e]at h2;cases h2|some a=>rw[e]at h2;cases h2;rfl
  let[u,m,rv]:=r.get D;let l:ps[i]?\y:=by rw[<-S.pre,getElem?_take_of_lt (by simp_all)];show h1
  let j:ps.Nodup:=by rw[<-S.pre];show S.nd.sublist (take_sublist _ _)
  show#[u,rv,?_];let k||k:=S.par y (aM l)
  .show .inl {k,P2 j l m k}
  .let[c,e]:=P4 k;show .inr {.inl k,c,e,?_};let q:=x.cell y c e;rw[P3 j l m (by change scope.names.lookup y≠_;rw[k];decide)]at q;show q
 .show d.hok.fresh (aY (x.above y c (PySem.mem_of_lookup h)))
 .unfold start;change _=N.length;rw[aG,aA,length_replicate];simp_all
def JY{K:Fg}{c}{C kV doc a}{m:Array C2}(G:K.lookup f\{oc,od,.func (PySem.W.fnOf name qual c body scope C kV doc pm an a ct),m})(B:PySem.W.codeIn K a qual=true)(S:FnScope N ps scope)(len:∀vs H Q E,sp vs H Q E->vs.length=ps.length)(g:∀(A)(outer)(s)(H)(vs)(Q)(E),Room k (A.deeper (envOfC qual scope 'H' f a))->sp vs H Q E->∃t,BS (EY CX P w K mg base N qual scope f a A outer s H E) body t/\t {nx:=λ_ H'=>Q .non H',rt:=Q} (start N vs) H):FnOk P w K mg base CX (k+1) f (PySem.W.fnOf name qual c body scope C kV doc pm an a ct) ps sp:=by
 show{len,λA outer s H args us vs Q E z l ρ r i=>?_};let T:=len _ _ _ _ i;let D:=l.mod.kin.keeps λb o e=>(l.bs b o e).1;let p:=l.mod.nolimit.keeps λb o e=>(l.bs b o e).1;let d:∀y∈ps.zip us,scope.names.lookup y.1\.local\/(scope.names.lookup y.1\.cell/\((cellsFrom ('H'+1) scope.names []).lookup y.1).isSome=true):=λ⟨n,v⟩L=>by
  let q||q:=S.par n (of_mem_zip L).1
  .show .inl q
  .show .inr {q,PySem.W.cellsFrom_some _ _ _ (.inl q)}
 show codeAny_call_function z.depth (D _ _ G) rfl S.co S.gen rfl (PySem.W.codeRec_of D B) (ρ _ _ _ _ ?_);show wpAny_newFunctionEnv_cells S.kind d λenv σ s1 x=>?_;subst σ;show{p.keeps x.toInCall.keep,codeAny_func ?_};let[t,M,O]:=g A outer s H vs Q E (z.deeper _) i;let I:Inv (EY CX P w K mg base N qual scope f a A outer s H E) [] _ H s1:=XH S z.hd l T r x;show bL (M [] s1 _ H _ I O) (λfl s' h=>?_) λe s' h=>h;let j:∀{σ'}{H'}{v}{u},Inv (EY CX P w K mg base N qual scope f a A outer s H E) [] σ' H' s'->AR v u->Q v H'->CE outer P w H s Q u s':=λ{σ' H' v u}J rv q=>#[v,H',J.os,J.bare,J.base,J.hok,rv,q]
 cases fl with
 |ret u=>let[v,σ',H',J,rv,q]:=h;show j J rv q|next=>let[σ',H',J,q]:=h;show j (v:=V.non) J rfl q|brk=>let[_,_,_,q]:=h;show False.elim q|cont=>let[_,_,_,q]:=h;show False.elim q
section
variable{p:Pos}{e:Expr}{t:TA}{id T:String}{r:dH->Hp->VK->Prop}
def GJ(r:dH->Hp->VK->Prop)(t:TA):TE:=(λU H Q=>t U H λvs H1=>r vs H1 Q)
def E5(o:BQ X (.builtin id) r)(m:Gl X x)(l:X.mg x=none)(i:bootBuiltins x\(.builtin id))(q:PA X (e::es) t)(j:x≠"__name__":=by decide)(c:No x:=by decide)(n:starEach (e::es) X.env=(false,eval e X.env)::starEach es X.env:=by rfl)(a:(backTo pos (starEach es X.env)).any (·.1)=false:=by rfl):PE X (.Call (.Name x p) (e::es) [] pos) (GJ r t):=by intro qA s U H Q I h;show wpAny_Call_Name_kw (E3 I m l i ?_ j c);show PyProof.Rows.callWith_builtin1 (AQ (q pos qA s U H _ I h) λus d zz=>(by let[vs,H1,u,f,g]:=zz;show o qA d U H1 vs us Q u f g)) n a
def Fd(o:BQ X (.type T) r)(m:Gl X x)(l:X.mg x=none)(i:bootBuiltins x\(.type T))(q:PA X (e::es) t)(j:x≠"__name__":=by decide)(c:No x:=by decide)(n:starEach (e::es) X.env=(false,eval e X.env)::starEach es X.env:=by rfl)(a:(backTo pos (starEach es X.env)).any (·.1)=false:=by rfl):PE X (.Call (.Name x p) (e::es) [] pos) (GJ r t):=by intro qA s U H Q I h;show wpAny_Call_Name_kw (E3 I m l i ?_ j c);show PyProof.Rows.callWith_type1 (AQ (q pos qA s U H _ I h) λus d zz=>(by let[vs,H1,u,f,g]:=zz;show o qA d U H1 vs us Q u f g)) n a
end
end L2
namespace HT
noncomputable def lexLt:By->By->Bool
 |[],[]=>false|[],_::_=>true|_::_,[]=>false|x::xs,y::ys=>if x=y then lexLt xs ys else decide (x<y)
def dB(x y)(xs ys:By):lexLt (x::xs) (y::ys)=if x=y then lexLt xs ys else decide (x<y):=rfl
def XI:lexLt [] []=false:=rfl
def XJ(y)(ys:By):lexLt [] (y::ys)=true:=rfl
def XM(x)(xs:By):lexLt (x::xs) []=false:=rfl
def XN(A)(s)(a)(t)(c)(u):∃e,SeqAt.EqAt A s (.int a t) (.int c u) e/\(e=true↔a=c):={(a==c),SeqAt.EqAt.int_int a t c u,'2'}
theorem XQ(A)(s)(a)(t)(c)(u)(prog)(w)(E:VS)(Q:VS)(h:Q (.bool (decide (a<c))) s):'C' (richCompare .Lt (.int a t) (.int c u)) Q E s:=(PyProof.Rows.lt_int h)
section
open PySem.SeqAt
open PySem.AutoSeq1(wpAny_loadPart')
open PySem.MeetsSeq PySem.MeetsSeq2 PySem.MeetsSeq3
noncomputable def dL(l b)(items f:Do)(n T)(dd M:FG)(Q I:Array C2)(ns ms:By)(hi:IntsAre items.toList ns)(O:IntsAre f.toList ms):Meets (Builtin.«tuple.__lt__» {[.ref l,.ref b],[]})
   (λ_ R s=>'F' l\{cls:=.type "tuple",dict:=dd,data:=.seq items n,slots:=Q}/\'F' b\{cls:=.type "tuple",dict:=M,data:=.seq f T,slots:=I}/\R (.ok (.ret (.bool (lexLt ns ms)))) s):=.of_wp λprog w A R s h=>by
  let[H,g,d,tk,os]:=s;let[hl,hb,h]:=h;let f2:=AutoSeq1.sub_tuple_tuple;let z1:items.size=ns.length:=by rw[<-hi.length];simp
  let z2:f.size=ms.length:=by rw[<-O.length];simp
  wp_walk using wpAny_loadPart' hl,wpAny_loadPart' hb,wpAny_forIn_list _ (λqE b s'=>b.1=none/\s'=#[H,g,d,tk,os]/\∃(vs G:B6)(j m:By),qE=vs.zip G/\IntsAre vs j/\IntsAre G m/\j.length+f.size=m.length+items.size/\R (.ok (.ret (.bool (lexLt j m)))) #[H,g,d,tk,os]) _
  case turn=>rintro⟨y,x⟩qE b s'⟨C,rfl,vs,G,j,m,o,z,p,i,v⟩;cases z with
   |nil=>rw[zip_nil_left]at o;cases o|cons a t E=>cases p with
    |nil=>rw[zip_nil_right]at o;cases o|cons c u D=>
     rw[zip_cons_cons]at o;injection o with J B
     injection J with σ ρ
     subst σ ρ;rw[dB]at v;simp only[length_cons]at i;let[e,he,r]:=XN A.in1 #[H,g,d,tk,os] a t c u;show wB (he prog w _ _ ?_);cases e with
     |true=>
      rw[aC (r.mp rfl)]at v
      wp_walk
      show{0,0,_,_,_,_,B,E,D,⋯,v}|false=>
      rw[aB (λq=>bS (r.mpr q) cH)]at v;let L:=XQ A.in1 #[H,g,d,tk,os] a t c u prog w
      wp_walk using L
      show{_,0,by simpa using v}
  case fin=>
   rintro⟨b1,b2⟩s'⟨C,rfl,vs,G,j,m,o,z,p,i,v⟩;simp only at C;subst C;let N:lexLt j m=decide (items.size<f.size):=by cases z with
    |nil=>cases p with
     |nil=>simp only[length_nil]at i;rw[XI];show(cK (by simp_all)).symm|cons c u hw=>simp only[length_nil,length_cons]at i;rw[XJ];show(aK (by simp_all)).symm
    |cons a t N=>cases p with
     |nil=>simp only[length_nil,length_cons]at i;rw[XM];show(cK ⋯).symm|cons c u hw=>rw[zip_cons_cons]at o;cases o
   rw[N]at v
   wp_walk
   show{_,0,by simpa[Builtin.Tuple.tupleCompareSizes]using v}
  case h=>show{0,0,items.toList,f.toList,ns,ms,0,hi,O,⋯,h}
end
def dN{items a:Do}{ns ms:By}(v:IsTup s.heap l items)(z:IsTup s.heap b a)(hi:IntsAre items.toList ns)(y:IntsAre a.toList ms)(u:A.units<cLine)(h:Q (.bool (lexLt ns ms)) s):'C' (compareOp .Lt (.ref l) (.ref b)) Q E s:=by
 let[[B,dd,o,q],i,m,n,j]:=id v;let[[p,g,data2,f],c,e,r,d]:=id z;subst m j e d;show richCompare_meets_room (op:=.Lt) #[_,i,0] #[_,c,0] PySem.F.slot_tuple_lt PySem.F.entry_tuple_lt (PySem.F.args_tuple_lt_2 _ _) (dL l b items a n r dd g q f ns ms hi y)
  #[i,c,{(λx=>nomatch x),h}] u
def dS{vs a:B6}(u:IsTup s.heap t vs.toArray)(v:IsTup s.heap b a.toArray)(o:vs≠[])(h1:a=[]->Q (.ref t) s)(h2:a≠[]->Q (.ref 'H') {s with heap:=s.heap.push {cls:=.type "tuple",data:=.seq (vs++a).toArray}})(hsz:vs.length+a.length<=sizeLine):'C' (binaryOp .Add (.ref t) (.ref b)) Q E s:=by
 let[[cls,dd,data,l],j,q,n,p]:=id u;let[[r,h,data2,d],c,g,m,f]:=id v;subst q p g f;let e:vs.toArray++a.toArray=(vs++a).toArray:='2'
 by_cases i:a=[]
 .show concat_meets #[_,j,0] #[_,c,0] noFill_tuple_add seq_tuple_add PySem.F.slot_tuple_add PySem.F.entry_tuple_add (PySem.F.args_tuple_add_2 _ _)
   (tuple_addW1 t b vs.toArray a.toArray n m dd h l d (~~~o) (by simp[i])) {j,c,h1 i}
 .show concat_meets #[_,j,0] #[_,c,0] noFill_tuple_add seq_tuple_add PySem.F.slot_tuple_add PySem.F.entry_tuple_add (PySem.F.args_tuple_add_2 _ _)
   (tuple_addW2 t b vs.toArray a.toArray n m dd h l d (~~~o) (~~~i) (by show hsz)) #[j,c,?_]
  rw[e];show h2 i
noncomputable def dA(n d:Nat):Option Int->Nat|none=>d|some v=>if v<0 then(v+(n:Int)).toNat else min v.toNat n
def XR(n d)(c:d<=n)(o):dA n d o<=n:=by cases o with|none=>show c|some v=>
  change(if v<0 then(v+n).toNat else min v.toNat n)<=n;by_cases a:v<0
  .lia
  .rw[aB a];show Nat.min_le_right _ _
def P5(v)(n d:Nat):(if v<0 then max (v+(n:Int)) 0 else min v (n:Int))=((dA n d (some v):Nat):Int):=by change(if v<0 then max (v+n) 0 else min v n)=(((if v<0 then(v+(n:Int)).toNat else min v.toNat n):Nat));lia
def XS(lo hi)(n:Nat):Builtin.Slice.sliceAdjust lo hi 1 (n:Int)=(((dA n 0 lo:Nat):Int),((dA n n hi:Nat):Int)):=by
 let h1:¬(1<0):=(by simp);unfold Builtin.Slice.sliceAdjust;show Prod.ext ?_ ?_
 .cases lo with
  |none=>rfl|some v=>show P5 v n 0
 .cases hi with|none=>rfl|some v=>show P5 v n n
def XT(i j:Nat):Builtin.Slice.slicePlaces (i:Int) (j:Int) 1=j-i:=by unfold Builtin.Slice.slicePlaces;lia
def P6{v}{o}{Q}(p:IsPart v o)(h:Q o s):'C' (Builtin.Slice.slicePartIndex v) Q E s:=by cases p with|none=>show slicePart_none h|int i t=>show slicePart_int h
def P7{e d}{lo hi}{Q}(i:s.heap.IsSliceOf f e d .none)(pl:IsPart e lo)(g:IsPart d hi)(h:Q (((dA n 0 lo:Nat):Int),1,dA n n hi-dA n 0 lo) s):'C' (Builtin.Slice.sliceApplied (.ref f) (pure (n:Int))) Q E s:=by let[os,a,j,c]:=id i;show wB (wB (wpAny_field a c rfl (wB (wpAny_field a c rfl (wB (wpAny_field a c rfl (wP ?_)))))));show wB (slicePart_none ?_);change 'A' (if(1==0)=true then _ else _) _ _ s;show wB (P6 pl (wB (P6 g (wB (wP ?_)))));change 'A' (match Builtin.Slice.sliceAdjust lo hi 1 (n:Int)with|(lo,hi)=>pure (lo,(1:Int),Builtin.Slice.slicePlaces lo hi 1)) _ _ s;rw[XS lo hi n];change 'A' (pure (((dA n 0 lo):Int),1,Builtin.Slice.slicePlaces ((dA n 0 lo:Nat)) ((dA n n hi:Nat)) 1)) _ _ s;rw[XT];show wP h
def XU(xs:Do)(i k:Nat):((List.range k).filterMap λ(m:Nat)=>xs[((i:Int)+(m:Int)*1).toNat]?).toArray=((xs.toList.drop i).take k).toArray:=by
 let e:(λ(m:Nat)=>xs[(i+(m:Int)*1).toNat]?)=λm=>xs[i+m]?:=by
  funext m
  let:(i+(m:Int)*1).toNat=i+m:=⋯;rw[this]
 rw[e];let:=pick_run xs i k;rw[filterMap_map]at this;let a:((λx=>xs[x]?)∘λx=>i+x)=λm=>xs[i+m]?:=rfl;rw[a]at this;rw[this]
def dM{items:Do}{l j}{lo hi}(c:IsTup s.heap t items)(n:s.heap.IsSliceOf d l j .none)(pl:IsPart l lo)(o:IsPart j hi)(hw:¬(dA items.size 0 lo=0/\dA items.size items.size hi=items.size))(h:Q (.ref 'H') {s with heap:=s.heap.push {cls:=.type "tuple",data:=.seq ((items.toList.drop (dA items.size 0 lo)).take (dA items.size items.size hi-dA items.size 0 lo)).toArray}})(hsz:items.size<=sizeLine):'C' (getItem (.ref t) (.ref d)) Q E s:=by
 let a:sizeOk (.seq ((items.toList.drop (dA items.size 0 lo)).take (dA items.size items.size hi-dA items.size 0 lo)).toArray):=by change((items.toList.drop _).take _).toArray.size<=sizeLine;rw[size_toArray,aO,length_drop,bR];omega
 let[os,e,g,p]:=id n;let i:s.TypeIs (.ref d) "slice":=#[os,e,g];unfold getItem
 try with_reducible show bM ?_
 show wB (wpAny_sequenceKey c.typeIs '3' ?_);show wB (wpAny_callSpecial?_slot c.typeIs PyProof.Rows.slot_tuple_getitem
  (cQ PyProof.Rows.slot_tuple_getitem c.typeIs entry_tuple_getitem ?_ (args_tuple_getitem _ _)))
 change 'A' (Builtin.Tuple.tupleItemsOf (.ref t)>>=_) _ _ s;show wB (tupleItemsOf_ c ?_);show wB (wpAny_typeOf i ?_);show wB (P7 n pl o ?_);let f:¬((((dA items.size 0 lo):Int)==0&&(1:Int)==1&&(dA items.size items.size hi-dA items.size 0 lo)==items.size)=true):=by intro q;rw[cB,cB]at q;let u:=aV q.1.1;let r:=aV q.2;show hw {(by simp_all),(by simp_all)}
 change 'A' (if(((dA items.size 0 lo):Int)==0&&1==1&&(dA items.size items.size hi-dA items.size 0 lo)==items.size)=true then _ else _) _ _ s;rw[aB f,XU]
 first
  |show wB (cG (wP {_,0,wP h}) a)|show wB (cG (wB (wP (wP {_,0,wP h}))) a)|show wB (wB (cG (wP (wP {_,0,wP h})) a))|show wB (wB (cG (wP {_,0,wP h}) a))
end HT
namespace L2
noncomputable abbrev TO:=St->Hp->(Option Int->Hp->Prop)->Prop
def PO(X:Cx)(e:Option Expr)(t:TO):Prop:=(∀qA s U H(Q:Option Int->Hp->Prop),'D'->t U H Q->'B' (evalPart e X.env) (λu s'=>∃o H',Inv X qA U H' s'/\IsPart u o/\Q o H') X.xe s)
def P8:TO:=(λ_ H Q=>Q none H)
def P9(t:TE):TO:=(λU H Q=>t U H λx H1=>∃i,x=.int i/\Q (some i) H1)
noncomputable def HY{ns:By}:∀{us},AW (ns.map V.int) us->IntsAre us ns:=by induction ns with
 |nil=>intro us r;cases r;show .nil|cons n ns d=>intro us r;cases r with|cons c a=>let[t,e]:=c;subst e;show .cons n t (d a)
section
variable{e:Expr}{lo hi:Option Expr}{tl th:TO}{p2:Pos}
def E6:PO X none P8:=by intro qA s U H Q I h;show wP #[none,H,I,.none,h]
def E7(h:PE X e te):PO X (some e) (P9 te):=by intro qA s U H Q I d;show AQ (h qA s U H _ I d) λu g zz=>?_;let[x,H1,f,a,c]:=zz;let[i,0,q]:=c;let[t,0]:=a;show{some i,H1,f,.int i t,q}
def DV(X:Cx)(r:V->Option Int->Option Int->Hp->VK->Prop):Prop:=(∀qA s U H(x:V)(v vl vu:Value)(lo hi:Option Int)(sl:Addr)(Q:VK),'D'->AR x v->s.heap.IsSliceOf sl vl vu .none->IsPart vl lo->IsPart vu hi->r x lo hi H Q->∃T id,typeLookup (.type T) "__getitem__"=pure (some (.builtin id))/\s.TypeIs v T/\'B' (getItem v (.ref sl)) (EP X qA U Q) X.xe s)
def DV.or{r r'}(h:DV X r)(h':DV X r'):DV X (λx lo hi H Q=>r x lo hi H Q\/r' x lo hi H Q):=by
 intro qA s U H x v vl a lo hi sl Q I c hs pl d q;let q||q:=q
 .show h qA s U H x v vl a lo hi sl Q I c hs pl d q
 .show h' qA s U H x v vl a lo hi sl Q I c hs pl d q
def MO(r:V->Option Int->Option Int->Hp->VK->Prop)(te:TE)(tl th:TO):TE:=(λU H Q=>te U H λx H1=>tl U H1 λl H2=>th U H2 λu H3=>r x l u H3 Q)
def E8{r}(B:DV X r)(E:PE X e te)(C:PO X lo tl)(y:PO X hi th):PE X (.Subscript e (.Slice lo hi none p2) pos) (MO r te tl th):=by intro qA s U H Q I h;show Subscript_ (AQ (E qA s U H _ I h) λv i zz=>?_);let[x,H1,N,j,o]:=zz;show wpAny_Slice (AQ (C qA i U H1 _ N o) λd g zz=>?_);done<;>let[l,H2,M,pl,n]:=zz;show AQ (y qA g U H2 _ M n) λc a zz=>?_;done<;>let[u,f,L,p,m]:=zz;show wP ?_;let J:Inv X qA U f {a with heap:=a.heap.push {cls:=.type "slice",data:=.fields [d,c,.none].toArray}}:=L.kept λb O q=>aS _ q;let[T,id,G,z,D]:=B qA {a with heap:=a.heap.push {cls:=.type "slice",data:=.fields [d,c,.none].toArray}} U f x v d c l u a.heap.objs.size Q J j (Heap.IsSliceOf.new ..) pl p m;show tail_any z G D (rfl)
def DW(xs:dH)(lo hi:Option Int):dH:=((xs.drop (HT.dA xs.length 0 lo)).take (HT.dA xs.length xs.length hi-HT.dA xs.length 0 lo))
def QB(xs)(lo hi):(DW xs lo hi).length<=xs.length:=by unfold DW;rw[aO,length_drop];lia
def XV(K:Fg):V->Option Int->Option Int->Hp->VK->Prop:=(λx lo hi H Q=>∃a xs,x=.ref a/\BP K H a xs/\¬(HT.dA xs.length 0 lo=0/\HT.dA xs.length xs.length hi=xs.length)/\∀p,H p=none->Q (.ref p) (AB H p (.tup (DW xs lo hi))))
def XW:DV X (XV X.K):=by
 rintro qA s U H x v n m lo hi p Q I f l pl g⟨a,xs,rfl,i,j,q⟩;cases f;let[qG,r,e,d]:=I.tuple i;let c:qG.toArray.size=xs.length:=by show r.length.symm
 show{"tuple",_,PyProof.Rows.slot_tuple_getitem.lookup,e.typeIs,?_};show HT.dM e l pl g (by rw[c];show j) ?_ (by rw[c];show d);rw[c];show{.ref 'H',_,I.laid (λb u q=>aS _ q) (aQ _) ?_,0,q _ (I.hok.fresh (aQ _))};show{aR (QB xs lo hi) d,_,(r.drop _).take _,DT.new _ _}
def XX(K:Fg):R2:=(λx y H Q=>∃a b ns ms,x=.ref a/\y=.ref b/\BP K H a (ns.map V.int)/\BP K H b (ms.map V.int)/\Q (.bl (HT.lexLt ns ms)) H)
def XY(l:X.A.units<cLine):Az X (compareOp .Lt) (XX X.K):=by rintro qA s U H x y v u Q I e d⟨a,b,ns,ms,rfl,rfl,n,m,q⟩;cases e;cases d;let[qG,g,p1,_]:=I.tuple n;let[c,f,p2,_]:=I.tuple m;let j:=HY g;let i:=HY f;show HT.dN p1 p2 j i l {.bl _,H,I,0,q}
def XZ(K:Fg):R2:=(λx y H Q=>∃a b xs ys,x=.ref a/\y=.ref b/\BP K H a xs/\BP K H b ys/\xs≠[]/\xs.length+ys.length<=sizeLine/\(ys=[]->Q (.ref a) H)/\(ys≠[]->∀p,H p=none->Q (.ref p) (AB H p (.tup (xs++ys)))))
def AW.nil_iff(r:AW xs us):us=[]↔xs=[]:=by cases r with|nil=>simp|cons _ _=>simp
def Xa:Az X (binaryOp .Add) (XZ X.K):=by rintro qA s U H x y v u Q I i g⟨a,b,xs,ys,rfl,rfl,p,n,m,f,l,j⟩;cases i;cases g;done<;>(let[qG,d,p1,_]:=I.tuple p;let[e,c,p2,_]:=I.tuple n);show HT.dS p1 p2 (λz=>m (d.nil_iff.mp z)) (λz=>{.ref a,H,I,0,l (c.nil_iff.mp z)}) (λz=>?_) (by rw[<-d.length,<-c.length];show f);show{.ref 'H',_,I.laid (λb r q=>aS _ q) (aQ _) ?_,0,j (λw=>z (c.nil_iff.mpr w)) _ (I.hok.fresh (aQ _))};show{by simp_all,_,d.append c,DT.new _ _}
end
def EZ(n:Nat)(i:Int):Option Nat:=(if 0<=i then(if i<n then some i.toNat else none)else if-(n:Int)<=i then some (i+n).toNat else none)
def atI{α:Type}(xs:List α)(i:Int):Option α:=((EZ xs.length i).bind λj=>xs[j]?)
def QC{i}(h:EZ n i\j):seqIndex? i n\j/\j<n/\-(n:Int)<=i/\i<n:=by
 unfold EZ at h;by_cases a:0<=i
 .rw[aC a]at h;by_cases h1:i<n
  .rw[aC h1]at h;let e:=oI h;show{by rw[seqIndex_of a h1,e],⋯,⋯,h1}
  simp_all
 .rw[aB a]at h;by_cases h1:-n<=i
  .rw[aC h1]at h;let e:=oI h;show{by rw[seqIndex_neg (by simp_all) h1,e],⋯,h1,⋯}
  simp_all
def JZ{i}{v}(h:atI xs i\v):∃j,seqIndex? i xs.length\j/\xs[j]?\v/\j<xs.length/\-(xs.length:Int)<=i/\i<xs.length:=by unfold atI at h;cases e:EZ xs.length i with|none=>simp_all|some j=>rw[e]at h;let[h1,h2,c,a]:=QC e;show#[j,h1,h,h2,c,a]
def Cg{v}(h:xs[j]?\v):atI xs (j:Int)\v:=by
 let a:=(aI.mp h).1;let e:EZ xs.length j\j:=by unfold EZ;simp_all
 unfold atI;rw[e];show h
def QD(b:Expr):Prop:=(∀o i,subscripted b false o i=operate [o,i] (getItem o i))
def E9(X:Cx)(r:R2):Prop:=(∀(value slice:Expr)qA s U H(x y:V)(v u:Value)(Q:VK),'D'->AR x v->AR y u->r x y H Q->subscripted slice false v u=operate [v,u] (getItem v u)->'B' (subscriptTail value slice v u) (EP X qA U Q) X.xe s)
def GK(X:Cx)(id:String)(r:V->dH->Hp->VK->Prop):Prop:=(∀qA s U H(x:V)(xs:dH)(v:Value)(us:B6)(Q:VK),'D'->AR x v->AW xs us->r x xs H Q->'B' (call (.builtin id) (v::us)) (EP X qA U Q) X.xe s)
section
variable{a b:Expr}
def B1{r}(g:E9 X r)(j:PE X a ta)(i:PE X b tb)(f:QD b):PE X (.Subscript a b pos) (HS r ta tb):=by intro qA s U H Q I h;show Subscript_ (MF j i I h λv u c x y H2 l e d q=>g a b qA c U H2 x y v u Q l e d q (f _ _))
def Xb(K:Fg):R2:=(λx y H Q=>∃p xs i v,x=.ref p/\y=.int i/\BA K H p xs/\atI xs i\v/\Q v H)
def Xc(K:Fg):R2:=(λx y H Q=>∃p xs i v,x=.ref p/\y=.int i/\BP K H p xs/\atI xs i\v/\Q v H)
def QF:R2:=(λx y H Q=>∃z i c,x=.str z/\y=.int i/\z.length<=sizeLine/\atI z.cps.toList i\c/\Q (.str {[c].toArray}) H)
def QH:E9 X (Xb X.K):=by
 intro value c qA s U H x y v u Q I n m h f;done<;>let[p,xs,i,z,0,0,o,B,q]:=h;cases n;done<;>(let[t,0]:=m;let[qG,r,pl,E]:=I.list o;let[j,h1,h2,J,D,C]:=JZ B;let[w,l,d]:=r.get h2);let A:=r.length;let G:=Fc;let a:EP X qA U Q w s:=#[z,H,I,d,q];by_cases g:0<=i
 .let e:i.toNat=j:=by rw[seqIndex_of g C]at h1;show oI h1
  show item_listR pl.isList g ⋯ (by rw[e];simpa using l) a f
 .let e:(i+qG.toArray.size).toNat=j:=by rw[seqIndex_neg (by simp_all) D]at h1;rw[size_toArray,<-A];show oI h1
  show subscriptTail_builtinR pl.isList.typeIs slot_list_getitem.lookup
   (wpAny_getItem_list_neg pl.isList ⋯ (by rw[size_toArray]<;>simp_all) ⋯ (by rw[e];simpa using l) #[0,a]) f
def QJ:E9 X (Xc X.K):=by
 intro value a qA s U H x y v u Q I f e h g;done<;>let[p,xs,i,z,0,0,l,n,q]:=h;cases f;done<;>(let[t,0]:=e;let[qG,r,pl,A]:=I.tuple l;let[j,h1,h2,E,D,C]:=JZ n;let[w,o,c]:=r.get h2);let m:=r.length;let B:=Fc;let d:EP X qA U Q w s:=#[z,H,I,c,q];show subscriptTail_builtinR pl.typeIs slot_tuple_getitem.lookup
  (getItem_tuple pl ⋯ ⋯ (by rw[size_toArray,<-m];show h1) (~~~o) #[0,d]) g
def MP:E9 X QF:=by
 intro value a qA s U H x y v u Q I e d h f;done<;>(let[z,i,c,0,0,r,l,q]:=h;let[t,0]:=e;let[t',0]:=d;let[j,h1,h2,A,n,m]:=JZ l);let g:z.cps.toList.length=z.length:=rfl
 rw[g]at h1 n m;let w:=Fc;show tail_any (typeIs_str s z t) slot_str_getitem.lookup (getItem_str (by lia) (by rw[h1];simpa using h2) {.str {[c].toArray},H,I.tok _,#[_,0],q}) f
def Xd(qG:B6)(n j)(u):Obj.mapSeq (·.setIfInBounds j u) {cls:=.type "list",data:=.seq qG.toArray n}={cls:=.type "list",data:=.seq (qG.set j u).toArray n}:=by simp[Obj.mapSeq]
def Inv.lst{xs}(I:'D')(h:H p\(.lst xs)):∃(qG:B6)(n:Nat),AW xs qG/\'F' p\{cls:=.type "list",data:=.seq qG.toArray n}/\xs.length<=sizeLine:=by let[z,qG,n,r,e]:=I.hok p _ h;show#[qG,n,r,e,z]
def Inv.lstUpd{qG its':B6}{a}(I:'D')(h:H p\(.lst xs))(c:'F' p\{cls:=.type "list",data:=.seq qG.toArray n})(hf:f {cls:=.type "list",data:=.seq qG.toArray n}={cls:=.type "list",data:=.seq its'.toArray a})(r:AW ys its')(hz:ys.length<=sizeLine)(t):Inv X qA U (AB H p (.lst ys)) {s with heap:=s.heap.update p f,toks:=t}:=by
 let e:(s.heap.update p f).get? p\{cls:=.type "list",data:=.seq its'.toArray a}:=by rw[Heap.get?_update_self f c (by rw[hf]<;>rfl),hf]
 show I.write (by rw[h];trivial) (.inl rfl) (λb u hb q=>(cM _ _ (Ne.symm hb)).trans q) #[_,e] ?_;show#[hz,its',a,r,e]
def Xe:V->V->V->Hp->(Hp->Prop)->Prop:=(λo i v H Q=>∃p xs k j,o=.ref p/\i=.int k/\H p\(.lst xs)/\EZ xs.length k\j/\Q (AB H p (.lst (xs.set j v))))
def MQ:MB X Xe:=by
 rintro qA s U H o i v z A u Q I w ri rv⟨p,xs,k,j,rfl,rfl,e,y,q⟩;cases w;done<;>(let[t,0]:=ri;let[qG,n,r,a,x]:=I.lst e;let[h1,h2,g,f]:=QC y);let c:=r.length;let B:=Fc;let m:=I.lstUpd e a (Xd qG n j u) (r.set rv j) (by rw[length_set];show x) s.toks
 by_cases l:0<=k
 .let d:k.toNat=j:=by rw[seqIndex_of l f]at h1;show oI h1
  show PySem.W.ki_setAt a l ⋯ (by rw[size_toArray,<-c];show f) (by rw[d];show#[_,m,q])
 .let d:(k+qG.toArray.size).toNat=j:=by rw[seqIndex_neg (by simp_all) g]at h1;rw[size_toArray,<-c];show oI h1
  show PySem.W.ki_setBack a ⋯ (by rw[size_toArray,<-c];show g) ⋯ (by rw[d];show#[_,m,q])
def Xf(lo hi)(n):(sliceBounds lo hi none n).1=((HT.dA n 0 lo:Nat):Int)/\(sliceBounds lo hi none n).2.1=((HT.dA n n hi:Nat):Int)/\(sliceBounds lo hi none n).2.2=1:=by
 show#[?_,?_,0]
 .cases lo with|none=>simp[sliceBounds,HT.dA]|some i=>
   simp only[sliceBounds,HT.dA,Option.getD_none,show(1:Int)>0 by decide,dD];by_cases h:i<0
   .simp only[h,dD]<;>lia
   .simp only[h,if_false]<;>lia
 .cases hi with
  |none=>simp[sliceBounds,HT.dA]|some i=>
   simp only[sliceBounds,HT.dA,Option.getD_none,show(1:Int)>0 by decide,dD];by_cases h:i<0
   .simp only[h,dD]<;>lia
   .simp only[h,if_false]<;>lia
def Xg(qG:B6)(lo hi):slicePick qG.toArray lo hi none=((qG.drop (HT.dA qG.length 0 lo)).take (HT.dA qG.length qG.length hi-HT.dA qG.length 0 lo)).toArray:=by let[h1,h2,a]:=Xf lo hi qG.toArray.size;unfold slicePick;rw[h1,h2,a];simp only[sliceRange_one,pick_run,size_toArray]<;>rfl
def QK(K:Fg):V->Option Int->Option Int->Hp->VK->Prop:=(λx lo hi H Q=>∃a xs,x=.ref a/\BA K H a xs/\∀p,H p=none->Q (.ref p) (AB H p (.lst (DW xs lo hi))))
def Ja:DV X (QK X.K):=by rintro qA s U H x v m l lo hi n Q I e j pl f⟨a,xs,rfl,i,q⟩;cases e;let[qG,r,d,g]:=I.list i;let c:=r.length;show{"list",_,slot_list_getitem.lookup,d.isList.typeIs,?_};show wpAny_getItem_list_slice d.isList j pl f .none '2' ?_ (by simp_all);rw[Xg,<-c];show{.ref 'H',_,I.laid (λb p q=>aS _ q) (aQ _) ?_,0,q _ (I.hok.fresh (aQ _))};show{aR (QB xs lo hi) g,_,(0),(r.drop _).take _,bP _ rfl}
noncomputable def Ea:V->Bool|.non=>true|.bl _=>true|.int _=>true|.str _=>true|_=>false
noncomputable def D8:V->V->Bool|.non,.non=>true|.bl a,.bl b=>a==b|.bl a,.int b=>(if a then 1 else 0)==b|.int a,.bl b=>a==(if b then 1 else 0)|.int a,.int b=>a==b|.str a,.str b=>a==b|_,_=>false
noncomputable def Xh{y x}{v}(d:AR y u)(c:AR x v)(f:Ea y=true)(e:Ea x=true):SeqAt.EqAt A s u v (D8 y x):=by cases y with
 |non=>cases d;cases x with
  |non=>cases c;show SeqAt.EqAt.same _|bl b=>cases c;show SeqAt.EqAt.none_bool b|int b=>let[t,0]:=c;show SeqAt.EqAt.none_int b t|str b=>let[t,0]:=c;show SeqAt.EqAt.none_str b t|_=>show bS (e) cH
 |bl a=>cases d;cases x with
  |non=>cases c;show SeqAt.EqAt.bool_none a|bl b=>cases c;show SeqAt.EqAt.bool_bool a b|int b=>let[t,0]:=c;show SeqAt.EqAt.bool_int a b t|str b=>let[t,0]:=c;show SeqAt.EqAt.bool_str a b t|_=>show bS (e) cH
 |int a=>let[t',0]:=d;cases x with
  |non=>cases c;show SeqAt.EqAt.int_none a t'|bl b=>cases c;show SeqAt.EqAt.int_bool a t' b|int b=>let[t,0]:=c;show SeqAt.EqAt.int_int a t' b t|str b=>let[t,0]:=c;show SeqAt.EqAt.int_str a t' b t|_=>show bS (e) cH
 |str a=>let[t',0]:=d;cases x with
  |non=>cases c;show SeqAt.EqAt.str_none a t'|bl b=>cases c;show SeqAt.EqAt.str_bool a t' b|int b=>let[t,0]:=c;show SeqAt.EqAt.str_int a t' b t|str b=>let[t,0]:=c;show SeqAt.EqAt.str_str a t' b t|_=>show bS (e) cH
 |_=>show bS (f) cH
noncomputable def Eb(x:V)(u:Value):Bool:=(match u with
 |.none=>D8 .non x|.bool b=>D8 (.bl b) x|.int i _=>D8 (.int i) x|.str z _=>D8 (.str z) x|_=>false)
noncomputable def QL{x y}(r:AR y u)(f:Ea y=true):Eb x u=D8 y x:=by cases y with
 |non=>cases r;rfl|bl b=>cases r;rfl|int i=>let[t,0]:=r;rfl|str z=>let[t,0]:=r;rfl|_=>show bS (f) cH
theorem MR{x}:∀{xs}{us},AW xs us->xs.all Ea=true->us.any (Eb x)=xs.any λy=>D8 y x|_,_,.nil,_=>rfl|y::xs,u::us,.cons r t,f=>by rw[all_cons,cB]at f;rw[any_cons,any_cons,QL r f.1,MR t f.2]
theorem MS{x}{v}(a:AR x v)(c:Ea x=true):∀{xs}{us},AW xs us->xs.all Ea=true->∀u∈us,SeqAt.EqAt A s u v (Eb x u)
 |_,_,.nil,_=>λu hu=>by cases hu|y::xs,u::us,.cons r t,f=>λu' hu=>by
  rw[all_cons,cB]at f;let 0||hu:=aF.mp hu
  .rw[QL r f.1];show Xh r a f.1 c
  .show MS a c t f.2 u' hu
def Jb(x:V)(xs:dH):Bool:=(xs.any λy=>D8 y x)
def Xi(K:Fg)(neg:Bool):R2:=(λx y H Q=>∃p xs,y=.ref p/\(BA K H p xs\/BP K H p xs)/\Ea x=true/\xs.all Ea=true/\Q (.bl (if neg then !Jb x xs else Jb x xs)) H)
def Xj:Az X (compareOp .In) (Xi X.K false):=by
 rintro qA s U H x y v u Q I c e⟨p,xs,rfl,hq,d,fs,q⟩;cases e;let hq||hq:=hq
 .let[qG,r,pl,f]:=I.list hq;show SeqAt.in_listAt _ pl.isList (λw a=>MS c d r fs w (~~~a)) {.bl _,H,I,0,?_};rw[show qG.toArray.any _=qG.any (Eb x)by simp,MR r fs];show q
 .let[qG,r,pl,f]:=I.tuple hq;show SeqAt.in_tupleAt _ pl (λw a=>MS c d r fs w (~~~a)) {.bl _,H,I,0,?_};rw[show qG.toArray.any _=qG.any (Eb x)by simp,MR r fs];show q
def MT:BQ X (.builtin "len") (λxs H Q=>∃p ys,xs=[.ref p]/\(BA X.K H p ys\/BP X.K H p ys)/\Q (.int ys.length) H):=by
 rintro qA s U H xs us Q I r⟨p,ys,rfl,hq,q⟩;let[u,0,d]:=GH r;cases d;let f:=Fc;let hq||hq:=hq
 .let[qG,c,pl,e]:=I.list hq;let a:=c.length;show Calls.call_len_list pl.isList (by simp only[size_toArray]<;>lia) {.int ys.length,H,I.tok _,{s.toks+1,by rw[size_toArray,a]},q}
 .let[qG,c,pl,e]:=I.tuple hq;let a:=c.length;show len_tuple pl (by simp only[size_toArray]<;>lia) {.int ys.length,H,I.tok _,{s.toks+1,by rw[size_toArray,a]},q}
def QM:BQ X (.builtin "len") (λxs H Q=>∃z,xs=[.str z]/\z.length<=sizeLine/\Q (.int z.length) H):=by rintro qA s U H xs us Q I r⟨z,rfl,a,q⟩;let[u,0,t,0]:=GH r;let c:=Fc;show len_str ⋯ {.int z.length,H,I.tok _,#[_,0],q}
def Xk:BQ X (.type "list") (λxs H Q=>∃p ys,xs=[.ref p]/\(BA X.K H p ys\/BP X.K H p ys)/\∀l,H l=none->Q (.ref l) (AB H l (.lst ys))):=by
 rintro qA s U H xs us Q I r⟨p,ys,rfl,hq,q⟩;let[u,0,x]:=GH r;cases x;let i:∀(qG),AW ys qG->ys.length<=sizeLine->∀(h')(c),(∀b o','F' b\o'->h'.get? b\o')->h'.get? 'H'\{cls:=.type "list",dict:=none,data:=.seq qG.toArray c,slots:=#[]}->EP X qA U Q _ {s with heap:=h'}:=λqG a f h' c d e=>{.ref 'H',_,I.laid d (aQ _) (show BB X.prog X.w _ h' _ (.lst ys)from#[f,qG,c,a,e]),0,q _ (I.hok.fresh (aQ _))}
 let hq||hq:=hq
 .let[qG,a,pl,f]:=I.list hq;let g:=a.length;let[o,j,v,n,m]:=pl.isList;show call_list_seq p (.inl rfl) j v m (λh' c d e=>i qG a f h' c d e) (by simp only[size_toArray]<;>simp_all)
 .let[qG,a,pl,f]:=I.tuple hq;let g:=a.length;let[o,j,v,n,m]:=pl;show call_list_seq p (.inr rfl) j v m (λh' c d e=>i qG a f h' c d e) (by simp only[size_toArray]<;>lia)
def Xl:BQ X (.type "tuple") (λxs H Q=>∃p ys,xs=[.ref p]/\((BA X.K H p ys/\∀l,H l=none->Q (.ref l) (AB H l (.tup ys)))\/(BP X.K H p ys/\Q (.ref p) H))):=by
 rintro qA s U H xs us Q I r⟨p,ys,rfl,h⟩;let[u,0,i]:=GH r;cases i;let[c,q]||[c,q]:=h
 .let[qG,a,pl,d]:=I.list c;let f:=a.length;show call_tuple_list pl.isList (λh' j=>?_) (by simp_all);let g:Inv X qA U H {s with heap:=h'}:=I.kept j;let m:Inv X qA U (AB H h'.objs.size (.tup ys)) {s with heap:=h'.push {cls:=.type "tuple",data:=.seq qG.toArray}}:=g.laid (λb o e=>aS _ e) (aQ _) ({d,qG,a,DT.new _ _})
  show{.ref h'.objs.size,_,m,0,q _ (g.hok.fresh (aQ _))}
 .let[qG,a,pl,d]:=I.tuple c;show call_tuple_same pl {.ref p,H,I,0,q}
noncomputable def MU(K:Fg)(T:String)(x:V)(H:Hp):Prop:=(match x with
 |.str _=>T="str"|.int _=>T="int"|.ref p=>(T="list"/\∃xs,BA K H p xs)\/(T="tuple"/\∃o,K.lookup p\o/\o.cls=.type "tuple"/\o.dict=none)\/(T="dict"/\((∃qH,H p\(.dK qH))\/∃qH,H p\(.dT qH)))\/(T="set"/\∃S n,H p\(.set S n))|_=>False)
noncomputable def QN{x}{v}(I:'D')(r:AR x v)(ty:MU X.K T x H):s.TypeIs v T/\∀a,v=.ref a->∃h,'F' a\h/\h.dict=none:=by cases x with
 |str z=>let[t,0]:=r;cases(ty);show{typeIs_str s z t,λ_ e=>nomatch e}|int i=>let[t,0]:=r;cases(ty);show{typeIs_int s i t,λ_ e=>nomatch e}|ref p=>
  cases r;rcases ty with⟨rfl,xs,j⟩|⟨rfl,o,d,l,f⟩|⟨rfl,d⟩|⟨rfl,S,n,d⟩
  .let[qG,_,pl,_]:=I.list j;show{pl.isList.typeIs,λa e=>?_};cases e;let[o,n,e,c,f,_]:=pl;show#[o,e,f]
  .show#[{o,I.kIn p o d,l},λa e=>?_];cases e;show{o,I.kIn _ o d,f}
  .let z:∃o,'F' p\o/\o.ExactDict:=by
    let[qH,d]||[qH,d]:=d
    .let[_,_,_,_,o,_,_,e,ex,_]:=I.hok p _ d;show#[o,e,ex]
    .let[_,_,_,_,o,_,_,e,ex,_]:=I.hok p _ d;show#[o,e,ex]
   let[o,e,ex]:=z;show#[#[o,e,ex.1],λa g=>?_];cases g;show#[o,e,ex.2.1]
  .let[o,_,_,_,e,ex,_]:=I.hok p _ d;show#[#[o,e,ex.1],λa g=>?_];cases g;show#[o,e,ex.2.1]|_=>show False.elim ty
def MV(K:Fg)(T:String)(r:V->dH->Hp->VK->Prop)(to:TE):TE:=(λU H Q=>to U H λx H1=>MU K T x H1/\r x [] H1 Q)
def Jc(K:Fg)(T:String)(r:V->dH->Hp->VK->Prop)(to:TE)(t:TA):TE:=(λU H Q=>to U H λx H1=>MU K T x H1/\t U H1 λxs H2=>r x xs H2 Q)
variable{o e:Expr}{to:TE}{t:TA}{name:Str}{T id:String}{r:V->dH->Hp->VK->Prop}
def Xm(pa:PlainAttrs T)(slot:Slot T name id)(d:typeOf (.builtin id)=pure (.type "method_descriptor"))(l:GK X id r)(j:PE X o to)(c:attributeBase o name X.env (eval o X.env)=eval o X.env:=by rfl)(a:(qK.endLine==qJ.line)=true:=by rfl):PE X (.Call (.Attribute o name qK) [] [] qJ) (MV X.K T r to):=by intro qA s U H Q I h;show wpAny_Call_method0_late c a (AQ (j qA s U H _ I h) λv g zz=>?_);let[x,H1,f,e,ty,i]:=zz;let[h1,h2]:=QN f e ty;show{T,id,pa,slot,d,h1,h2,Calls.callWith_builtin rfl (PySem.evalArgs_none (l qA g U H1 x [] v [] Q f e .nil i))}
def FA(pa:PlainAttrs T)(slot:Slot T name id)(g:typeOf (.builtin id)=pure (.type "method_descriptor"))(z:GK X id r)(y:PE X o to)(A:PA X (e::es) t)(d:attributeBase o name X.env (eval o X.env)=eval o X.env:=by rfl)(f:((backTo qJ (starEach (e::es) X.env)).all (λx=>!x.1)&&(backToKw qJ (keywordEach [] X.env)).all (λx=>x.1.isSome)&&decide ((e::es).length+([]:List Keyword).length+(if([]:List Keyword).isEmpty then 0 else 1)<30))=true:=by rfl)(c:(qK.endLine==qJ.line)=true:=by rfl)(w:starEach (e::es) X.env=(false,eval e X.env)::starEach es X.env:=by rfl)(a:(backTo qJ (starEach es X.env)).any (·.1)=false:=by rfl):PE X (.Call (.Attribute o name qK) (e::es) [] qJ) (Jc X.K T r to t):=by intro qA s U H Q I h;show wpAny_Call_method_late d f c rfl (AQ (y qA s U H _ I h) λv n zz=>?_);done<;>(let[x,H1,l,i,ty,u]:=zz;let[h1,h2]:=QN l i ty);show#[T,id,pa,slot,g,h1,h2,?_];let j:=A qJ qA n U H1 _ l u;rw[w]at j⊢;show Calls.callWith_builtin ((by assumption)) (Calls.evalArgs_plain ?_);show AQ j λus m zz=>(by let[vs,H2,B,p,q]:=zz;show z qA m U H2 x vs v us Q B i p q)
end
def QP(X:Cx)(id:String)(r:V->dH->Hp->VK->Prop):Prop:=(∀qA s U H(x:V)(xs:dH)(v:Value)(us:B6)(Q:VK),'D'->AR x v->AW xs us->r x xs H Q->'B' (call (.builtin id) (v::us)) (EP X qA U Q) X.xe s)
def AW.one{x}(h:AW [x] us):∃u,us=[u]/\AR x u:=by cases h with|cons r t=>cases t;show#[_,0,r]
def AW.two{x y}(h:AW [x,y] us):∃u v,us=[u,v]/\AR x u/\AR y v:=by cases h with|cons r t=>let[v,0,q]:=AW.one t;show#[_,_,0,r,q]
theorem AW.eraseIdx:∀{xs}{us}(i),AW xs us->AW (xs.eraseIdx i) (us.eraseIdx i)
 |_,_,_,.nil=>.nil|_,_,0,.cons _ t=>t|_,_,i+1,.cons r t=>.cons r (AW.eraseIdx i t)
theorem QR{α:Type}:∀(l:List α)(i),(l.eraseIdx i).length<=l.length
 |[],_=>aQ _|_::_,0=>cS _|_::r,i+1=>Nat.succ_le_succ (QR r i)
section
variable{l b:Addr}{xs zs:dH}
def Inv.lset{qG its':B6}{f:Do->Do}(I:'D')(c:H l\(.lst xs))(e:'F' l\{cls:=.type "list",data:=.seq qG.toArray n})(hf:f qG.toArray=its'.toArray)(hv:AW ys its')(hz:ys.length<=sizeLine):Inv X qA U (AB H l (.lst ys)) {s with heap:=s.heap.update l (Obj.mapSeq f),toks:=t'}:=by let q:=PySem.IsL.update e f;rw[hf]at q;show I.write (by rw[c];show trivial) (.inl rfl) (λb' u hb a=>(cM s.heap _ (Ne.symm hb)).trans a) #[_,q] ?_;show#[hz,its',_,hv,q]
def Inv.lnew{qG}(I:'D')(hv:AW ys qG)(hz:ys.length<=sizeLine):Inv X qA U (AB H 'H' (.lst ys)) {s with heap:=s.heap.push {cls:=.type "list",data:=.seq qG.toArray},toks:=t'}:=I.laid (λ_ _ q=>aS _ q) (aQ _) {hz,qG,(0),hv,bP _ rfl}
def Inv.fresh(I:'D'):H 'H'=none:=I.hok.fresh (aQ _)
def Inv.lstM(I:'D')(a:H l\(.lst xs)):xs.length<=sizeLine/\∃(qG:B6)(n:Nat),AW xs qG/\xs.length=qG.length/\'F' l\{cls:=.type "list",data:=.seq qG.toArray n}:=by let[z,qG,n,r,e]:=I.hok l _ a;show#[z,qG,n,r,r.length,e]
def dV(h:n<=sizeLine):Builtin.List.listTooLong n=false:=by show cK (by simp_all)
end
inductive rAppend(x:V)(vs:dH)(H:Hp)(Q:VK):Prop|mk(l:Addr)(xs:dH)(y:V)(ex:x=.ref l)(ev:vs=[y])(h:H l\(.lst xs))(z:xs.length<sizeLine)(q:Q .non (AB H l (.lst (xs++[y]))))
def Fe:QP X "list.append" rAppend:=by rintro qA s U H x vs v us Q I c rv⟨l,xs,y,rfl,rfl,a,f,q⟩;cases c;let[u,0,d]:=rv.one;let[z,qG,n,r,g,e]:=I.lstM a;show call_meets F.slot_list_append #[_,e,0] F.entry_list_append (F.args_list_append_2 _ _) (PySem.list_append l qG.toArray n u (by simp_all)) #[e,?_];show{.non,_,I.lset a e '2' (r.append (.cons d .nil)) ?_,0,q};rw[aG,length_singleton];lia
def QU:V->dH->Hp->VK->Prop:=(λx vs H Q=>∃l xs i k y,x=.ref l/\vs=[.int i]/\H l\(.lst xs)/\-(2^63)<=i/\i<2^63/\seqIndex? i xs.length\k/\xs[k]?\y/\Q y (AB H l (.lst (xs.eraseIdx k))))
def Xo:QP X "list.pop" QU:=by
 rintro qA s U H x vs v us Q I d rv⟨l,xs,i,k,y,rfl,rfl,c,h1,h2,o,g,q⟩;cases d;done<;>(let[u,0,f]:=rv.one;let[t,0]:=f;let[z,qG,n,r,m,e]:=I.lstM c;let[w,j,a]:=r.get g);show call_meets F.slot_list_pop #[_,e,0] F.entry_list_pop (F.args_list_pop_2 _ _)
  (MeetsSeq.list_pop_at l qG.toArray n i t k w (fitsIndex_both h1 h2) (by simp_all) (by simp_all) (by simp_all)) #[e,?_]
 show{y,_,I.lset c e ?_ (r.eraseIdx k) ?_,a,q}
 .simp
 .let:=QR xs k;lia
def Xp:R2:=(λx y H Q=>∃l b xs zs,x=.ref l/\y=.ref b/\H l\(.lst xs)/\H b\(.lst zs)/\xs.length+zs.length<=sizeLine/\∀p,H p=none->Q (.ref p) (AB H p (.lst (xs++zs))))
def Xq:Az X (binaryOp .Add) Xp:=by
 rintro qA s U H x y v u Q I d c⟨l,b,xs,zs,rfl,rfl,i,j,A,q⟩;cases d;cases c;done<;>(let[z,qG,n,r,B,e]:=I.lstM i;let[p,a,w,f,g,o]:=I.lstM j);show PySem.P.add_list e o ?_ (by simp_all);let m:qG.toArray++a.toArray=(qG++a).toArray:='2'
 rw[m];show{.ref _,_,I.lnew (r.append f) (by rw[aG];lia),0,q _ I.fresh}
section
variable{κ:Type}[DecidableEq κ]
def CQ(qH:List (κ×V))(k:κ):Option V:=((qH.find? λkv=>decide (kv.1=k)).map (·.2))
def BZ(qH:List (κ×V))(k:κ)(v:V):List (κ×V):=(if(qH.any λkv=>decide (kv.1=k))=true then qH.map (λkv=>if kv.1=k then(kv.1,v)else kv)else qH++[(k,v)])
def Jd{p}{r:List (κ×V)}(e:p.1=k):CQ (p::r) k\p.2:=by simp[CQ,find?_cons,e]
def MW{p}{r:List (κ×V)}(e:¬p.1=k):CQ (p::r) k=CQ r k:=by simp[CQ,find?_cons,e]
theorem QV(k):∀qH:List (κ×V),(qH.any λa=>decide (a.1=k))=(CQ qH k).isSome
 |[]=>rfl|p::r=>by
  rw[any_cons];by_cases e:p.1=k
  .simp only[Jd e,aK e,Bool.true_or,Option.isSome_some]
  .rw[MW e,cK e];show QV k r
def Je(qH)(k:κ)(v):(BZ qH k v).length<=qH.length+1:=by
 unfold BZ;split
 .rw[aA];lia
 simp
noncomputable def CK.isSome_eq{o}{u}(r:CK o u):o.isSome=u.isSome:=by cases o with
 |none=>cases u with
  |none=>rfl|some _=>show(r).elim
 |some _=>cases u with|none=>show(r).elim|some _=>rfl
noncomputable def CK.getD{o}{u}{d}(r:CK o u)(a:AR d d'):AR (o.getD d) (u.getD d'):=by cases o with
 |none=>cases u with|none=>show a|some _=>show(r).elim
 |some _=>cases u with
  |none=>show(r).elim|some _=>show r
noncomputable def KV.val{vs}(r:KV qH vs)(k:κ):CK (CQ qH k) (valueAt vs k):=by induction r with
 |nil=>show True.intro|@cons p q ps a h t d=>
  let[h1,h2]:=h;by_cases e:p.1=k
  .let c:=h1.symm.trans e;let b:valueAt (q::a) k\q.2:=by simp[valueAt,find?_cons,c]
   rw[Jd e,b];show h2
  .let c:¬q.1=k:=λz=>e (h1.trans z);let b:valueAt (q::a) k=valueAt a k:=by simp[valueAt,find?_cons,c]
   rw[MW e,b];show d
def KV.any{vs}(r:KV qH vs)(k:κ):(qH.any λa=>decide (a.1=k))=vs.any λa=>decide (a.1=k):=by induction r with|nil=>rfl|cons h t c=>simp_all
noncomputable def KV.repl{vs}(r:KV qH vs)(k:κ)(c:AR y u):KV (qH.map λa=>if a.1=k then(a.1,y)else a) (vs.map λa=>if a.1=k then(a.1,u)else a):=by induction r with
 |nil=>show .nil|@cons p q ps f h t d=>
  rw[map_cons,map_cons];show .cons ?_ d;let[h1,h2]:=h;by_cases e:p.1=k
  .simp_all
  simp_all
def KV.put{vs}(r:KV qH vs)(k:κ)(a:AR y u):KV (BZ qH k y) (stored vs k u):=by
 unfold BZ stored;rw[r.any k];by_cases e:(vs.any λc=>decide (c.1=k))=true
 .rw[aC e,aC e];show r.repl k a
 .rw[aB e,aB e];show Paired.snoc r #[0,a]
def KV.length{vs:List (κ×Value)}(r:KV qH vs):qH.length=vs.length:=Paired.length r
end
def HZ(r:AR (kV k) u):(Bp P w).is k u=true:=by cases k with|inl i=>let[t,e]:=(r);subst e;show Vt P w i t|inr x=>let[t,e]:=(r);subst e;show Vu P w x t
theorem QX:∀{ks}{us},AW (ks.map kV) us->ItemsAre (Bp P w) ks us
 |[],_,r=>by cases r;show .nil|k::ks,_,r=>by cases r with|cons h t=>show .cons (HZ h) (QX t)
noncomputable abbrev KT(H:Hp):List (List AT×V)->List (List AT×Addr×Value)->Prop:=Paired λp q=>p.1=q.1/\H q.2.1\(.tup (p.1.map kV))/\AR p.2 q.2.2
def KT.val(r:KT H qH xs)(k):CK (CQ qH k) ((atKey xs k).map (·.2)):=by induction r with|nil=>show True.intro|@cons p q ps a h t d=>
  let[h1,_,h2]:=h;by_cases e:p.1=k
  .let c:=h1.symm.trans e;let b:atKey (q::a) k\q.2:=by simp[atKey,find?_cons,c]
   rw[Jd e,b];show h2
  .let c:¬q.1=k:=λz=>e (h1.trans z);let b:atKey (q::a) k=atKey a k:=by simp[atKey,find?_cons,c]
   rw[MW e,b];show d
noncomputable def KT.repl(r:KT H qH xs)(k)(c:AR y u):KT H (qH.map λa=>if a.1=k then(a.1,y)else a) (xs.map (putAt k u)):=by induction r with
 |nil=>show .nil|@cons p q ps g h t d=>
  rw[map_cons];show .cons ?_ d;let[h1,h2,f]:=h;unfold putAt;by_cases e:p.1=k
  .rw[aC e,aC (h1.symm.trans e)];show#[h1,h2,c]
  .rw[aB e,aB (λz=>e (h1.trans z))];show#[h1,h2,f]
def KT.put(r:KT H qH xs)(k)(hb:H b\(.tup (k.map kV)))(a:AR y u):KT H (BZ qH k y) (storedH xs k b u):=by
 let e:(qH.any λc=>decide (c.1=k))=(atKey xs k).isSome:=by rw[QV,(r.val k).isSome_eq,Option.isSome_map]
 unfold BZ storedH;rw[e];by_cases q:(atKey xs k).isSome=true
 .rw[aC q,aC q];show r.repl k a
 .rw[aB q,aB q];show Paired.snoc r #[0,hb,a]
def KT.keeps(r:KT H qH xs)(a:∀b ys,H b\(.tup ys)->H' b\(.tup ys)):KT H' qH xs:=Paired.mapP r λ_ _ z=>{z.1,a _ _ z.2.1,z.2.2}
section
variable{P:Program}
def QY{u}(ok:A3 P w H h)(e:Rd H a u):BB P w H h a u:=e.ok ok
def FC(ok:A3 P w H h)(e:Rd H a (.dK qH)):qH.length<=sizeLine/\(a==sysModules)=false/\∃vs,KV qH vs/\h.DictOf (Bp P w) a vs:=QY ok e
def MX(ok:A3 P w H h)(e:H a\(.dK qH)):qH.length<=sizeLine/\(a==sysModules)=false/\∃vs,KV qH vs/\h.DictOf (Bp P w) a vs:=FC ok (.inl e)
def GL{ks}(ok:A3 P w H h)(e:H a\(.tup (ks.map kV))):(tupleKind (Bp P w)).is h ks a:=by let[_,qG,r,o,h1,h2,[n,c],_]:=(ok a _ e);show{o,qG.toArray,n,h1,h2,c,by simpa using QX r}
def GM(ok:A3 P w H h)(e:Rd H a (.dT qH)):qH.length<=sizeLine/\(a==sysModules)=false/\∃xs,KT H qH xs/\h.DictOfH (tupleKind (Bp P w)) a xs:=by
 done<;>let[z,y,xs,r,o,es,ep,h1,h2,i,g,f]:=(QY ok e);show{z,y,xs,r,o,es,ep,h1,h2,i,g,λx hx=>?_,f};let all:∀{l}{m},KT H l m->∀x∈m,(tupleKind (Bp P w)).is h x.1 x.2.1:=by
  intro l m q
  induction q with
  |nil=>simp|@cons p q ps j c t d=>
   intro x hx;let e||hx:=aF.mp hx
   .subst e;show GL ok (by simp_all)
   .show d x hx
 show all r x hx
def QZ(ok:A3 P w H h)(e:H a\(.dT qH)):qH.length<=sizeLine/\(a==sysModules)=false/\∃xs,KT H qH xs/\h.DictOfH (tupleKind (Bp P w)) a xs:=GM ok (.inl e)
end
def Cs(H:Hp)(a:Addr)(y:V)(r:Option V):Prop:=((∃qH k,Rd H a (.dK qH)/\y=kV k/\r=CQ qH k)\/∃qH k b,Rd H a (.dT qH)/\y=.ref b/\H b\(.tup (k.map kV))/\r=CQ qH k)
def FD(H:Hp)(a:Addr)(y v:V)(H':Hp):Prop:=((∃qH k,H a\(.dK qH)/\y=kV k/\qH.length<sizeLine/\H'=AB H a (.dK (BZ qH k v)))\/∃qH k b,H a\(.dT qH)/\y=.ref b/\H b\(.tup (k.map kV))/\qH.length<sizeLine/\H'=AB H a (.dT (BZ qH k v)))
def Cs.k{k}(e:H a\(.dK qH)):Cs H a (kV k) (CQ qH k):=.inl {qH,k,.inl e,0,0}
def Cs.t{k}(e:H a\(.dT qH))(c:H b\(.tup (k.map kV))):Cs H a (.ref b) (CQ qH k):=.inr {qH,k,b,.inl e,0,c,0}
def FD.k{k}(e:H a\(.dK qH))(c:qH.length<sizeLine):FD H a (kV k) v (AB H a (.dK (BZ qH k v))):=.inl #[qH,k,e,0,c,0]
def FD.t{k}(e:H a\(.dT qH))(d:H b\(.tup (k.map kV)))(c:qH.length<sizeLine):FD H a (.ref b) v (AB H a (.dT (BZ qH k v))):=.inr #[qH,k,b,e,0,d,c,0]
section
variable{y:V}{r:Value}{o:Option V}
def Inv.big(I:'D'):sysModules<'H':=by let h:=(I.mod.glob.keeps I.bk).lt;show Nat.lt_trans '3' h
def Xr(m:A.units+1<cLine)(I:'D')(g:Cs H a y (some v))(j:AR y u)(h:∀w' s',Inv X qA U H s'->AR v w'->Q w' s'):wpAny (model X.prog X.w) A (getItem (.ref a) u) Q E s:=by
 let[qH,k,e,i,l]||[qH,k,b,e,i,r,l]:=g
 .subst i;let[z,q,vs,rel,dd]:=FC I.hok e;let[w',d,c]:=CK.some_of (by rw[l];show rel.val k);show wpAny_getItem_of (HZ j) dd.mapOf d (h w' _ (I.tok _) c)
 .subst i;cases(j);done<;>(let[z,q,xs,rel,dd]:=GM I.hok e;let[w',d,c]:=CK.some_of (by rw[l];show rel.val k);let[p,n,f]:=aJ.mp d);show wpAny_getItem_heap (tupleKind_room_in1 m) (GL I.hok r) dd n ?_;rw[f];show h w' _ (I.tok _) c
def Xt(i:A.units+1<cLine)(I:'D')(g:Cs H a y o)(f:AR y u)(h:∀s',Inv X qA U H s'->Q (.bool o.isSome) s'):wpAny (model X.prog X.w) A (compareOp .In u (.ref a)) Q E s:=by
 let[qH,k,e,d,l]||[qH,k,b,e,d,j,l]:=g
 .subst d;let[z,c,vs,rel,dd]:=FC I.hok e;show wpAny_in_of (HZ f) c dd.mapOf ?_;rw[<-(rel.val k).isSome_eq,<-l];show h _ (I.tok _)
 .subst d;cases(f);let[z,c,xs,rel,dd]:=GM I.hok e;show wpAny_in_heap (tupleKind_room_in1 i) (GL I.hok j) c dd ?_;let q:=(rel.val k).isSome_eq;rw[Option.isSome_map]at q;rw[<-q,<-l];show h _ (I.tok _)
def Jf{c}(I:'D')(d:HN (H a))(f:Heap.SameBut a s.heap h')(g:∃q,h'.get? a\q)(new:BB X.prog X.w (AB H a c) h' a c):Inv X qA U (AB H a c) {s with heap:=h',toks:=t'}:=I.write d (.inl rfl) (λb q h z=>(f.2 b h).trans z) g new
def Qa{vs}(z:qH.length<=sizeLine)(c:(a==sysModules)=false)(rel:KV qH vs)(dd:h'.DictOf (Bp P w) a vs):BB P w H' h' a (.dK qH):=#[z,c,vs,rel,dd]
def Xu{Q}(C:A.units+1<cLine)(I:'D')(g:FD H a y v H')(p:AR y u)(rv:AR v r)(h:∀s',Inv X qA U H' s'->Q () s'):wpAny (model X.prog X.w) A (setItem (.ref a) u r) Q E s:=by
 let[qH,k,e,n,l,o]||[qH,k,b,e,n,B,l,o]:=g
 .subst n o;let[z,m,vs,rel,dd]:=MX I.hok e;let f:vs.length<=sizeLine:=by rw[<-rel.length];show z
  let j:(BZ qH k v).length<=sizeLine:=by let:=Je qH k v;lia
  show wpAny_setItem_pairs (HZ p) dd λh' dd' i=>h _ ?_;let D:∃q,h'.get? a\q:=(by let[q,_,_,d,_]:=dd';show#[q,d]);show Jf I (by rw[e];show True.intro) i D (Qa j m (rel.put k rv) dd')
 .subst n o;cases(p);let[z,m,xs,rel,dd]:=QZ I.hok e;let f:xs.length<=sizeLine:=by rw[<-Paired.length rel];show z
  let j:(BZ qH k v).length<=sizeLine:=by let:=Je qH k v;lia
  show wpAny_setItem_heap (tupleKind_room_in1 C) (GL I.hok B) dd λh' dd' i=>h _ ?_;done<;>let[q,es,ep,d,h2,L,J,_,G]:=dd';show Jf I (by rw[e];show True.intro) i #[q,d] {j,m,_,(rel.put k B rv).keeps λc ys x=>?_,q,es,ep,d,h2,L,J,G};rw[AE (CC x e '5')];show x
end
section
variable{qH:List (AT×V)}{k:AT}
def Xv(I:'D')(e:Rd H a (.dK qH))(h:∀t s',Inv X qA U H s'->Q (.int qH.length t) s'):wpAny (model X.prog X.w) A (call (.builtin "len") [.ref a]) Q E s:=by let[z,c,vs,rel,dd]:=FC I.hok e;show call_len_dict c dd (by rw[<-rel.length];rw[cU]at z;lia) ?_;rw[<-rel.length];show h _ _ (I.tok _)
end
def MY(i:Expr):Prop:=(∀ov iv,subscripted i false ov iv=operate [ov,iv] (getItem ov iv))
def Xw{value a}{T id}(m:typeLookup (.type T) "__getitem__"=pure (some (.builtin id)))(l:MY a)(h:'C' (eval value env) (λo s₁=>'C' (eval a env) (λi s₂=>s₂.TypeIs o T/\'C' (getItem o i) Q E s₂) E s₁) E s):'C' (eval (.Subscript value a pos) env) Q E s:=by
 show Subscript_ (bL h (λo s₁ g=>bL g (λi s₂ c=>?_) λ_ _ x=>x) λ_ _ x=>x);let[j,c]:=c;show wB ?_;show wB (wpAny_specialOf j m ?_);let e:'C' (subscripted a false o i) (λr d=>'C' (letTemporaryGo value o r>>=λ_=>pure r) Q E d) E s₂:=by rw[l o i];show wpAny_operating (bL c (λr d f=>wB (wpAny_letTemporaryGo (wP f))) λ_ _ x=>x)
 first
  |show wP (wB e)|lia|show wB e
def Xx{o}(I:'D')(g:Cs H a y o):s.TypeIs (.ref a) "dict":=by
 let[qH,k,e,_,_]||[qH,k,b,e,_,_,_]:=g
 .let[_,_,vs,_,dd]:=FC I.hok e;show dd.typeIs
 .let[_,_,xs,_,dd]:=GM I.hok e;show dd.typeIs
inductive rDGet(x y:V)(H2:Hp)(Q:VK):Prop|mk(a:Addr)(v:V)(ex:x=.ref a)(g:Cs H2 a y (some v))(q:Q v H2)
def Xy(td ty:TE):TE:=(λU H Q=>td U H λx H1=>ty U H1 λy H2=>rDGet x y H2 Q)
def Xz(ty td:TE):TE:=(λU H Q=>ty U H λy H1=>td U H1 λx H2=>∃a o,x=.ref a/\Cs H2 a y o/\Q (.bl o.isSome) H2)
inductive rDPut(x y v:V)(H3:Hp)(N:Hp->Prop):Prop|mk(a:Addr)(H4:Hp)(ex:x=.ref a)(g:FD H3 a y v H4)(q:N H4)
def Jg(td ty tv:TE):TS:=(λD U H=>tv U H λv H1=>td U H1 λx H2=>ty U H2 λy H3=>rDPut x y v H3 (D.nx U))
section
variable{o i e value:Expr}{td ty tv:TE}
def X1(n:X.A.units+1<cLine)(q:PE X o td)(hi:PE X i ty)(p:MY i):PE X (.Subscript o i pos) (Xy td ty):=by intro qA s U H Q I h;show Xw PySem.F.slot_dict_getitem.lookup p (AQ (q qA s U H _ I h) λu e zz=>?_);let[x,H1,w,j,m]:=zz;show AQ (hi qA e U H1 _ w m) λD C zz=>?_;let[y,H2,d,f,a,v,ex,g,l]:=zz;subst ex;obtain rfl:u=Value.ref a:=j;show#[Xx d g,Xr n d g f λz B r c=>#[v,H2,r,c,l]]
def X2(m:X.A.units+1<cLine)(hi:PE X i ty)(n:PE X o td):PC X .In i o (Xz ty td):=by intro qA s U H Q I h;show AQ (hi qA s U H _ I h) λz c zz=>?_;let[y,H1,r,d,j]:=zz;show AQ (n qA c U H1 _ r j) λu w zz=>?_;let[x,H2,q,e,a,l,ex,g,f]:=zz;subst ex;obtain rfl:u=Value.ref a:=e;show Xt m q g d λv p=>{.bl l.isSome,H2,p,0,f}
def Jh(p:X.A.units+1<cLine)(w:PE X o td)(hi:PE X i ty)(n:PE X value tv)(q:swapsWith value (some (.Subscript o i pos')) pos.line X.env=pure false):PS X (.Assign [.Subscript o i pos'] value pos) (Jg td ty tv):=by intro qA s U H D I h;show wpAny_Assign_Subscript (AQ (n qA s U H _ I h) λr d zz=>?_) q;let[v,H1,E,rv,m]:=zz;show AQ (w qA d U H1 _ E m) λu c zz=>?_;let[x,H2,C,f,l]:=zz;show AQ (hi qA c U H2 _ C l) λM L zz=>?_;let[y,N,B,e,a,G,ex,g,j]:=zz;subst ex;obtain rfl:u=Value.ref a:=f;show Xu p B g e rv λJ z=>#[U,G,z,j]
end
def X3(h:Heap)(a:sysModules<h.objs.size):BB P w H (h.push {cls:=.type "dict",data:=.dict #[]}) h.objs.size (.dK []):={cD _,beq_eq_false_iff_ne.mpr (Ne.symm (bX a)),[],.nil,Heap.DictOf.new h}
def Qb(h:Heap)(a:sysModules<h.objs.size):BB P w H (h.push {cls:=.type "dict",data:=.dict #[]}) h.objs.size (.dT []):={cD _,beq_eq_false_iff_ne.mpr (Ne.symm (bX a)),[],.nil,_,#[],(0),bP _ rfl,#[0,0,0],0,0,nodup_nil}
def Qc:TE:=(λ_ H Q=>∀p,H p=none->Q (.ref p) (AB H p (.dK [])))
def X4:TE:=(λ_ H Q=>∀p,H p=none->Q (.ref p) (AB H p (.dT [])))
def MZ:PE X (.Dict [] [] pos) Qc:=λqA s U H Q I h=>wpAny_Dict_empty {.ref 'H',_,I.laid (λ_ _ q=>aS _ q) (aQ _) (X3 s.heap I.big),0,h _ (I.hok.fresh (aQ _))}
def X5:PE X (.Dict [] [] pos) X4:=λqA s U H Q I h=>wpAny_Dict_empty {.ref 'H',_,I.laid (λ_ _ q=>aS _ q) (aQ _) (Qb s.heap I.big),0,h _ (I.hok.fresh (aQ _))}
structure M2(X:Cx)(o:Expr)(m:Str)(qK:Pos)(e f:Expr)(qJ:Pos):Prop where
 base:attributeBase o m X.env (eval o X.env)=eval o X.env
 few:((backTo qJ (starEach [e,f] X.env)).all (λx=>!x.1)&&(backToKw qJ (keywordEach [] X.env)).all (λx=>x.1.isSome)&&decide (([e,f]:Go).length+([]:List Keyword).length+(if([]:List Keyword).isEmpty then 0 else 1)<30))=true
 line:(qK.endLine==qJ.line)=true
 trees:backTo qJ (starEach [e,f] X.env)=[(false,eval e X.env),(false,eval f X.env)]
def Ma(H:Hp)(a:Addr):Prop:=((∃qH,Rd H a (.dK qH))\/∃qH,Rd H a (.dT qH))
def X6(I:'D')(d:Ma H a):s.TypeIs (.ref a) "dict"/\(∀b,Value.ref a=.ref b->∃c,'F' b\c/\c.dict=none)/\(a==sysModules)=false:=by
 let[qH,e]||[qH,e]:=d
 .let[_,f,vs,_,dd]:=FC I.hok e;show{dd.typeIs,λb q=>?_,f};cases q;let[c,_,_,h1,h2,_]:=dd;show#[c,h1,h2.2.1]
 .let[_,f,xs,_,dd]:=GM I.hok e;show{dd.typeIs,λb q=>?_,f};cases q;let[c,_,_,h1,h2,_]:=dd;show#[c,h1,h2.2.1]
section
variable{y d:V}{r:Value}{o:Option V}
def X7(m:A.units+1<cLine)(I:'D')(g:Cs H a y o)(i:AR y u)(j:AR d r)(h:∀w' s',Inv X qA U H s'->AR (o.getD d) w'->Q w' s'):wpAny (model X.prog X.w) A (call (.builtin "dict.get") [.ref a,u,r]) Q E s:=by
 done<;>let[qH,k,e,f,l]||[qH,k,b,e,f,n,l]:=g
 .subst f;let[z,c,vs,rel,dd]:=FC I.hok e;show call_meetsIn PySem.F.slot_dict_get dd.typeIs PySem.F.entry_dict_get (PySem.F.args_dict_get_3 _ _ _) (meets_dict_get_default _ a (HZ i) c r) {_,dd.mapOf,h _ _ (I.tok _) ?_};rw[l];show(rel.val k).getD j
 .subst f;cases(i);let[z,c,xs,rel,dd]:=GM I.hok e;show call_meetsIn PySem.F.slot_dict_get dd.typeIs PySem.F.entry_dict_get (PySem.F.args_dict_get_3 _ _ _) (meetsH_dict_get_default _ a b c r) {tupleKind_room_in1 m,k,xs,GL I.hok n,dd,h _ _ (I.tok _) ?_};rw[l];show(rel.val k).getD j
end
def X8(td ty tx:TE):TE:=(λU H Q=>td U H λx H1=>∃a,x=.ref a/\Ma H1 a/\ty U H1 λy H2=>tx U H2 λz H3=>∃o,Cs H3 a y o/\Q (o.getD z) H3)
section
variable{o e f:Expr}{td ty tx:TE}
def X9(D:X.A.units+1<cLine)(E:PE X o td)(J:PE X e ty)(G:PE X f tx)(m:M2 X o "get" qK e f qJ):PE X (.Call (.Attribute o "get" qK) [e,f] [] qJ) (X8 td ty tx):=by
 intro qA s U H Q I h;show wpAny_Call_method m.base m.few m.line PySem.F.plainAttrs_dict PySem.F.slot_dict_get PySem.F.type_dict_get (AQ (E qA s U H _ I h) λu p zz=>?_);done<;>(let[x,H1,i,v,a,ex,d,C]:=zz;subst ex;obtain rfl:u=Value.ref a:=v;let[l,j,_]:=X6 i d);show#[l,j,?_];rw[m.trees];show Calls.callWith_builtin rfl (Calls.evalArgs_plain (Calls.spliced_cons (AQ (J qA p U H1 _ i C) λiv n zz=>?_)));let[y,H2,N,r,B]:=zz;show Calls.spliced_cons (AQ (G qA n U H2 _ N B) λfv ρ zz=>?_);done<;>let[z,O,M,q,ov,g,w]:=zz;show Calls.spliced_nil ?_
 show X7 D M g r q λT σ L c=>#[_,O,L,c,w]
end
section
variable{qH:List (AT×V)}
def YA(I:'D')(e:Rd H a (.dK qH))(h:∀p s',H p=none->Inv X qA U (AB H p (.dK qH)) s'->Q (.ref p) s'):wpAny (model X.prog X.w) A (call (.type "dict") [.ref a]) Q E s:=by let[z,f,vs,rel,dd]:=FC I.hok e;show kt_call_dict f dd (by rw[<-rel.length];show z) λh' dd' d=>?_;show h _ _ (I.hok.fresh (aQ _)) (I.laid (λb q c=>?_) (aQ _) (Qa z (beq_eq_false_iff_ne.mpr (Ne.symm (bX I.big))) rel dd'));show(d.2 b (bX (bN c))).trans (aS _ c)
end
end L2
namespace Att
open PySem.W PySem.Calls
def YB:∀(ns:By)(vs:B6),WellAll P h vs (ns.map WData.int)->IntsAre vs ns:=by
 intro ns
 induction ns with
 |nil=>intro vs w;cases w;show .nil|cons n ns c=>intro vs w;cases w with|cons a b=>cases a;show .cons _ _ (c _ b)
def YC{l:OpenLaw}(w:l.most\n){c:B6}(e:l.row.toRowW.claim.pre args=true)(m:WellAll P h c args):∃a vs ns,c=[Value.ref a]/\args=[WData.list (ns.map WData.int)]/\h.get? a\{cls:=.type "list",data:=.seq vs.toArray}/\IntsAre vs ns/\ns.length<=n:=by
 let o:=(pre_splitW e).1;let p:l.pre.holds [] {args:=args}=true:=(pre_splitW e).2;let[d,r,0,h1,h2]:=hasAllW_cons o;obtain rfl:=hasAllW_nil h2;let[xs,0,x]:=hasW_list h1;let[ns,0]:=items_int x;let f:ns.length<=n:=by
  let j:(WTm.not (.lt (.lit (.int n)) (.len (.arg 0)))).holds [] {args:=[.list (ns.map .int)]}=true:=by let j:=(holds_andW p).1;rw[w]at j;show j
  let i:=condW_of j (w_not (w_lt w_lit (w_len_list (w_arg rfl))));simp_all
 cases m with|cons u s=>cases s;cases u with|list v g=>show{_,_,ns,0,0,v,YB ns _ g,f}
def YD(l:OpenLaw)(args):l.row.toRowW.claim.post args (.bool true) args=true:=postW_of
  (by rfl)
  (w_eq_bool (w_res rfl) w_lit) rfl
def attach_call{l:OpenLaw}{q}{c:At}{C:(Str->C2)->Heap->Prop}{d}(I:l.most\n)(v:d.params.defaults=[])(call:∀(w)(s₀ s₁)(mg m:Str->C2)(j)(o)(pm cd doc)(a)(vs:B6)(ns:By),Ground q c [] C w s₀ mg m s₁.heap->B w s₁.heap->s₁.heap.get? j\o->o.data=.func (docDef d.name d.params d.body d.scope pm cd doc)->s₁.heap.CodeRec cd d.name->mg d.name\(.ref j)->s₁.heap.get? a\{cls:=.type "list",data:=.seq vs.toArray}->IntsAre vs ns->ns.length<=n->s₁.gens=#[]->codeAny (model l.prog w) callerA (.call (.ref j) {[.ref a],[]}) (λr s'=>r=.ok (.ret (.bool true))/\OldK s₁.heap s'.heap/\s'.os=s₁.os/\AllBare s'.gens) s₁):WalkO q c C B l.row.toRowW d [] (λf vs=>PySem.call f vs):=by intro w s₀ s₁ mg m G ρ j o pm cd doc T kV H N x A u M args y as g z D p L;obtain rfl:T=.none:=Dflts.none A v;obtain rfl:kV=.none:=Dflts.noKw A;let[a,vs,ns,0,0,h,e,i]:=YC I g p;show enter_call (codeAny_mono (call w s₀ s₁ mg m j o pm cd doc a vs ns G ρ H (fd_plain N) x u h e i M) λr s' E=>?_);let[0,h2,Q,O]:=E;show{.inl #[.bool true,.bool true,[],0,λ_=>rfl,.bool true,YD l _,λ_=>{List.Pairwise.nil,λ_ J=>(nomatch J)}],h2,Q,O}
section
variable{K:Frag}
def noObjs(h:Heap):Heap:=({h with objs:=#[]})
def noObjs_get(h)(b):(noObjs h).get? b=none:=rfl
def fr_all{m:Str->C2}(n:h.Ns L m):Fr (noObjs h) L h m:={n,λb o e=>(by cases e),cD _}
end
end Att
namespace L2
noncomputable def YE{vs:B6}{ns:By}(h:IntsAre vs ns):AW (ns.map V.int) vs:=by induction h with
 |nil=>show .nil|cons n t h a=>show .cons #[t,0] a
def Mb(H:Hp):Prop:=(∀b,H b=none\/∃o xs,H b\(.frz o (.lst xs)))
def YF{K}{I:Str->C2}{O}{vs:B6}{ns:By}(KX:K.In s₁.heap)(A:s₁.heap.Ns mainGlobals mg)(f:s₁.heap.Ns builtinsNs I)(M:∀x:Str,x≠"__name__"->I x=bootBuiltins x)(B:s₁.heap.NoLimit)(hg:s₁.gens=#[])(E:s₁.heap.get? a\{cls:=.type "list",data:=.seq vs.toArray})(hi:IntsAre vs ns)(T:ns.length<=sizeLine)(hr:Room k callerA)(F:∀base,K.In base->base.Ns mainGlobals mg->FnOk P w K mg base CX k O fd [x] sp)(i:∀(s)(u),BindsTo s fd {[u],[]} [(x,u)])(J:∀H,Mb H->BA K H a (ns.map V.int)->sp [.ref a] H (λv _=>v=.bl true) λ_ _ _=>False)(N:∀H e s',CX [] H s₁ (λ_ _ _=>False) e s'->False):codeAny (model P w) callerA (.call (.ref O) {[.ref a],[]}) (λr s'=>r=.ok (.ret (.bool true))/\OldK s₁.heap s'.heap/\s'.os=s₁.os/\AllBare s'.gens) s₁:=by
 let rv:=YE hi;let l:=hi.length;let core:∀H,Mb H->BA K H a (ns.map V.int)->A3 P w H s₁.heap->(∀b,H b≠none->b=a)->(H a≠none->K.lookup a=none)->codeAny (model P w) callerA (.call (.ref O) {[.ref a],[]}) (λr s'=>r=.ok (.ret (.bool true))/\OldK s₁.heap s'.heap/\s'.os=s₁.os/\AllBare s'.gens) s₁:=by
  intro H σ hS y ρ hK;let c:∀{b}{o},s₁.heap.get? b\o->H b=none->(EQ s₁.heap H).get? b\o:=λe n=>Vw e n;let G:∀{b}{o}{es}{ep},s₁.heap.get? b\o->o.data=.dict es ep->H b=none:=λ{b o es ep}e d=>by cases q:H b with|none=>rfl|some u=>let Q:=ρ b (by rw[q];simp);subst Q;rw[E]at e;cases e;let d':=d;cases d'
  let g:∀{b}{m},s₁.heap.Ns b m->(EQ s₁.heap H).Ns b m:=λ{b m}⟨o,es,ep,e,d,r⟩=>{o,es,ep,c e (G e d),d,r};let C:=λb o e=>c (KX b o e) (by cases q:H b with|none=>rfl|some u=>let Q:=ρ b (by rw[q];simp);subst Q;rw[hK (by rw[q];simp)]at e;cases e)
  let hM:Mod K mg (EQ s₁.heap H):={C,g A,{I,g f,M},(by let[mc,h1,h2]:=B;show{mc,g h1,h2})};let e0:Env0 P w K mg (EQ s₁.heap H) callerA [] s₁ H:={0,hM,λb o e=>Vx e,Nat.le_of_eq (Vv _ _),trivial,λb f=>bS (show b∈([])from f) '2',y,.of_eq hg};show codeAny_mono ((F _ C (g A)).run callerA [] s₁ H {[.ref a],[]} [.ref a] [.ref a] _ _ hr e0 (i s₁ (.ref a)) (.cons rfl .nil) (J H σ hS)) λr s' h=>?_;cases r with|error e=>show(N H e s' h).elim|ok fl=>cases fl with|next=>show False.elim h|brk=>show False.elim h|cont=>show False.elim h|ret u=>done<;>(let[v,H',os,D,un,p,r',q]:=h;let q':=q;subst q';obtain rfl:u=Value.bool true:=r');show{0,OldK.of_keep λb o e=>?_,os,D};cases q:H b with
    |none=>show un.keep b o e q (by intro z;show bS (show b∈([])from z) '2') '2'|some u=>
     let z||[ob,xs,z]:=σ b
     .rw[q]at z;cases z
     .let z2:=un.frzs b ob _ z;let[e1,_]:=y b _ z;let[e2,_]:=p b _ z2;rw[e]at e1;cases e1;show e2
 cases L:K.lookup a with
 |some o=>let e:=KX a o L;rw[E]at e;cases e;show core (λ_=>none) (λ_=>.inl rfl) (.inr {_,vs.toArray,_,L,0,0,0,by rw[size_toArray,l];show T,by simpa using rv}) (λb u z=>by let j:=z;cases j) (λb z=>bS rfl z) λz=>bS rfl z|none=>
  show core (λb=>if b=a then some (.frz {cls:=.type "list",data:=.seq vs.toArray} (.lst (ns.map V.int)))else none) (λb=>?_) (.inl (.inr #[{cls:=.type "list",data:=.seq vs.toArray},aC rfl])) (λb u z=>?_) (λb z=>?_) λ_=>L
  .by_cases f:b=a
   .show .inr {_,_,aC f}
   .show .inl (aB f)
  .by_cases f:b=a
   .let j:=(aC f).symm.trans z;cases j;subst f;show{E,by rw[aA];show T,vs,_,rv,E}
   .let j:=(aB f).symm.trans z;cases j
  .by_cases f:b=a
   .show f
   .show bS (aB f) z
def dU{l:PySem.W.OpenLaw}{q}{i:At}{XP:(Str->C2)->Heap->Prop}{D}{d}{K:Params->Fg}{CX:World->Cf}{sp:World->Sp}(J:l.most\n)(z:n<=sizeLine)(B:d.params.defaults=[])(I:Room k callerA)(O:∀(w)(h),D w h->(K w.params).In h)(F:∀(w)(mg:Str->C2)(r)(h),(K w.params).In h->h.Ns mainGlobals mg->mg d.name\(.ref r)->∃fd,(∀(s)(u),BindsTo s fd {[u],[]} [(x,u)])/\∀base,(K w.params).In base->base.Ns mainGlobals mg->FnOk l.prog w (K w.params) mg base (CX w) k r fd [x] (sp w))(y:∀(w)(H)(a)(ns:By),ns.length<=n->Mb H->BA (K w.params) H a (ns.map V.int)->sp w [.ref a] H (λv _=>v=.bl true) λ_ _ _=>False)(C:∀(w)(H)(s)(e)(s'),CX w [] H s (λ_ _ _=>False) e s'->False):PySem.W.WalkO q i XP D l.row.toRowW d [] (λf vs=>PySem.call f vs):=by show Att.attach_call J B λw s₀ m mg mb r o pm cd doc a vs ns G ρ ho hd M A p j c L=>?_;let E:=O w _ ρ;let[fd,N,hF]:=F w mg r _ E G.T.g A;show YF E G.T.g G.T.b G.T.builtins G.T.nolimit L p j (aR c z) I hF N (λH σ Q=>y w H a ns c σ Q) λH e s'=>C w H m e s'
noncomputable def Ji(s:Stmt)(j:Nat):Stmt:=(match s with
 |.ClassDef _ _ _ body _ _ _ _ _ _ _=>body.getD j (.Pass #[(0),(0),(0),(0)])|_=>.Pass #[(0),(0),(0),(0)])
def Ca(s:Stmt):Arguments:=(match s with|.FunctionDef _ a _ _ _ _ _ _ _ _=>a|_=>{posonlyargs:=[],args:=[],vararg:=none,kwonlyargs:=[],kw_defaults:=[],kwarg:=none,defaults:=[]})
def Bi(s:Stmt):Ha:=(match s with|.FunctionDef _ _ b _ _ _ _ _ _ _=>b|_=>[])
def AL(s:Stmt):Scope:=(match s with|.FunctionDef _ _ _ _ _ _ sc _ _ _=>sc|_=>{kind:=.function,names:=[],isGenerator:=false,isCoroutine:=false})
noncomputable abbrev Dm:Cf:=λ_ _ _ _ _ _=>False
noncomputable abbrev E0:XK:=λ_ _ _=>False
def YG:DK Dm X E0:=λ_ _ _ _ _ _ _ h=>h.elim
structure Fun(K:Fg)(x qual:Str)(st:Stmt)(f:Addr)(fd:FuncData):Prop where
 ex:∃(oc:Value)(od:FG)(kV doc pm:Value)(an:FG)(cdv ct:Value)(osl:Array C2),fd=PySem.W.fnOf x qual (Ca st) (Bi st) (AL st) .none kV doc pm an cdv ct/\K.lookup f\{oc,od,.func fd,osl}/\PySem.W.codeIn K cdv qual=true
 kp:PySem.W.keepIn K (.ref f)=true
section
variable{P:Program}{K:Fg}
def Fun.ok{st}(F:Fun K x qual st f fd)(S:FnScope N ps (AL st))(len:∀vs H Q E,sp vs H Q E->vs.length=ps.length)(a:∀(cdv)(A)(outer)(s)(H)(vs)(Q)(E),Room k (A.deeper (envOfC qual (AL st) 'H' f cdv))->sp vs H Q E->∃t,BS (EY Dm P w K mg base N qual (AL st) f cdv A outer s H E).nox (Bi st) t/\t {nx:=λ_ H'=>Q .non H',rt:=Q} (start N vs) H):FnOk P w K mg base Dm (k+1) f fd ps sp:=by let[oc,od,kV,doc,pm,an,cdv,ct,osl,0,e,d]:=F.ex;show JY e d S len λA outer s H vs Q E g c=>?_;let[t,h,q]:=a cdv A outer s H vs Q E g c;show#[t,h.nox,q]
def Fun.binds{st}(F:Fun K x qual st f fd)(h:∀(kV doc pm)(an:FG)(cdv ct)(us:B6),us.length=ps.length->bindArgs (PySem.W.fnOf x qual (Ca st) (Bi st) (AL st) .none kV doc pm an cdv ct) {us,[]}=pure (ps.zip us)):Cr K fd ps []:=by let[oc,od,kV,doc,pm,an,cdv,ct,osl,0,c,a]:=F.ex;show .all (h kV doc pm an cdv ct)
def Mc{st}{d:Array C2}{kV doc a}(l:K.lookup f\{oc,od,.func (PySem.W.fnOf x qual (Ca st) (Bi st) (AL st) .none kV doc pm an a ct),d})(c:PySem.W.codeIn K a qual=true)(k:PySem.W.keepIn K (.ref f)=true):Fun K x qual st f (PySem.W.fnOf x qual (Ca st) (Bi st) (AL st) .none kV doc pm an a ct):=#[#[oc,od,kV,doc,pm,an,a,ct,d,0,l,c],k]
end
def DX(a:Room k A):A.units+1<cLine:=Nat.lt_of_le_of_lt (Nat.add_le_add_left (by decide) _) a.units
def Ff(h:n<=1000):n<sizeLine:=Nat.lt_of_le_of_lt h '3'
def pv(i)(e:X.N[i]?\x:=by rfl)(c:Dj X.env.scope x:=by trivial)(d:No x:=by decide)(a:N_ x:=by decide):PE X (.Name x pos) (tVar i):=ER e c d a
def CD{A B:Prop}(h:B):if false=true then A else B:=by rw[aB cH];show h
def Qd{A B:Prop}(h:A):if true=true then A else B:=by rw[aC rfl];show h
def Au{c A B:Prop}[Decidable c](h1:c->A)(h2:¬c->B):if c then A else B:=by simp_all
def Ct(H H':Hp):Prop:=(∀b o,H b\o->H' b\o)
def Ct.trans(a:Ct H H1)(b:Ct H1 H2):Ct H H2:=λc o h=>b c o (a c o h)
def Ct.free(e:Ct H H')(h:H' l=Option.none):H l=Option.none:=by cases q:H l with|none=>rfl|some o=>rw[e l o q]at h;cases h
def Ct.seq{K}(e:Ct H H')(h:BA K H a xs):BA K H' a xs:=by
 rcases h with(h|⟨o,h⟩)|h
 .show .inl (.inl (e _ _ h))
 .show .inl (.inr {o,e _ _ h})
 .show .inr h
def YH:BQ X (.builtin "len") (λxs H Q=>∃a qH,xs=[V.ref a]/\H a\(.dK qH)/\Q (.int qH.length) H):=by rintro qA s U H xs us Q I r⟨a,qH,rfl,d,q⟩;let[u,0,c]:=GH r;cases c;show Xv I (.inl d) λt s' e=>{.int qH.length,H,e,#[t,0],q}
section
variable{κ:Type}[DecidableEq κ]
theorem Qe:∀{l}{k:κ},l.Nodup->¬k∈l->(l++[k]).Nodup|[],k,_,_=>'2'|a::r,k,h,c=>by let[h1,h2]:=bC.mp h;show bC.mpr {λm=>?_,Qe h2 λm=>c (aF.mpr (Or.inr m))};simp_all
end
noncomputable def Ch(cells:List (Str×Addr)):List (Str×NameKind)->List (Str×Addr)->List (Str×Addr)
 |[],cs=>cs|(n,k)::r,cs=>Ch cells r (if(k==.free)=true then(match cells.lookup n with|some c=>(n,c)::cs|none=>cs)else cs)
def YI(h:∀y∈scope.names,y.2=NameKind.free->∃c,env.cells.lookup y.1\c):closureFor scope env=pure (Ch env.cells scope.names []):=by
 let all:∀(l)(f),(∀y∈l,y.2=NameKind.free->∃c,env.cells.lookup y.1\c)->(forIn l f λx r=>if(x.2==NameKind.free)=true then do let a<-cellOf env x.1;pure (ForInStep.yield ((x.1,a)::r))else pure (ForInStep.yield r))=(pure (Ch env.cells l f):Sem _):=by
  intro l
  induction l with|nil=>intro f _;rfl|cons y r i=>
   intro f j;let[n,k]:=y;let o:=λy m=>j y (bT _ m);rw[forIn_cons];by_cases g:(k==NameKind.free)=true
   .let[c,d]:=j (n,k) cA (~~~g);let d:=d;let e:cellOf env n=pure c:=by unfold cellOf;rw[d]
    simp only[g,dD,e,Ch,d];show i _ o
   .simp only[g,Ch];show i _ o
 show(aT (λz=>z>>=λr=>(pure r)) (all scope.names [] h)).trans rfl
theorem Md{a}{c}:∀{names}{cs},(Ch a names cs).lookup x\c->a.lookup x\c\/cs.lookup x\c
 |[],cs,h=>.inr h|(n,k)::r,cs,h=>by
  unfold Ch at h;let q||q:=Md h
  .simp_all
  .split at q
   .cases f:a.lookup n with
    |none=>simp_all|some g=>rw[f]at q;rw[lookup_cons]at q;cases d:x==n with
     |true=>simp_all|false=>simp_all
   simp_all
theorem Qf{a}:∀{names}{cs},(cs.lookup x).isSome=true->((Ch a names cs).lookup x).isSome=true
 |[],_,h=>h|(n,k)::r,cs,h=>by
  unfold Ch;show Qf ?_;split
  .cases d:a.lookup n with
   |none=>show h|some e=>simp_all
  .show h
theorem Mf{a}{c}(d:a.lookup x\c):∀{names}{cs},(x,NameKind.free)∈names->((Ch a names cs).lookup x).isSome=true
 |(n,k)::r,cs,h=>by
  unfold Ch;let e||h:=aF.mp h
  .cases e;show Qf ?_;simp_all
  .show Mf d h
theorem Qg{env:Env}{x}:∀{names:List (Str×NameKind)},(∀y∈names,y.2≠NameKind.cell)->let l:=(names.map λ(n,k)=>if(k==NameKind.free&&env.scope.kind==.function&&env.kindOf n==some .cell)then(n,NameKind.cell)else(n,k)).lookup x
  (l\.cell\/l\.free)->(x,NameKind.free)∈names
 |[],_,h=>by let h||h:=h<;>simp at h|(n,k)::r,f,h=>by
  let d:=@Qg env x r λy m=>f y (bT _ m);simp only[map_cons]at h d;by_cases c:(k==NameKind.free&&env.scope.kind==.function&&env.kindOf n==some .cell)=true
  .rw[aC c,lookup_cons]at h;let g:k=.free:=by rw[Bool.and_assoc,cB]at c;simpa using c.1
   cases a:x==n with
   |true=>
    let e:x=n:=by simpa using a
    subst e;rw[g];show cA|false=>rw[a]at h;show bT _ (d h)
  .rw[aB c,lookup_cons]at h;cases a:x==n with
   |true=>
    let e:x=n:=by simpa using a
    subst e;rw[a]at h;let h||h:=h
    .show bS (oI h) (f (x,k) cA)
    .rw[oI h];show cA|false=>rw[a]at h;show bT _ (d h)
theorem Qh{env:Env}:∀{names:List (Str×NameKind)}{x},names.lookup x\.free->let l:=(names.map λ(n,k)=>if(k==NameKind.free&&env.scope.kind==.function&&env.kindOf n==some .cell)then(n,NameKind.cell)else(n,k)).lookup x
  (l\.cell\/l\.free)
 |[],_,h=>by simp at h|(n,k)::r,x,h=>by
  let c:=@Qh env r x;simp only[map_cons]at c⊢;by_cases d:(k==NameKind.free&&env.scope.kind==.function&&env.kindOf n==some .cell)=true
  .rw[aC d,lookup_cons];cases a:x==n with
   |true=>show .inl rfl|false=>rw[lookup_cons,a]at h;show c h
  .rw[aB d,lookup_cons];cases a:x==n with
   |true=>simp_all|false=>rw[lookup_cons,a]at h;show c h
structure CompP where
 cl:List (Str×Addr)C:Addr
 s:Shared
 H:Hp
 fp:Ge
 qA:List (Addr×Obj)
noncomputable def Cx.comp(X:Cx)(N':At)(scope:Scope)(p:CompP):Cx where
 prog:=X.prog
 w:=X.w
 K:=X.K
 mg:=X.mg
 base:=X.base
 A:=X.A
 N:=N'
 s₀:=p.s
 H₀:=p.H
 env:=compEnvC scope p.cl p.C X.env
 outer:=X.stack
 stack:=X.stack
 ex:=p.fp
 fn:=λ_=>false
 calm:=X.calm
 pn:=X.pn++p.qA
 xe:=λ_ _=>False
structure CompScope(N:At)(sc:Scope)(N':At)(qC:List (Option Nat))(scope:Scope):Prop where
 kind:scope.kind=.function
 nocell:∀y∈scope.names,y.2≠NameKind.cell
 names:∀y∈scope.names,y.2=NameKind.local->scope.names.lookup y.1\.local
 free:∀y∈scope.names,y.2=NameKind.free->scope.names.lookup y.1\.free
 has:∀y∈scope.names,y.2=NameKind.free->(sc.names.lookup y.1\.cell\/sc.names.lookup y.1\.free)len:qC.length=N'.length
 cap:∀q∈qC.zip N',q.1=none\/(N[q.1.getD 0]?\q.2/\(q.2,NameKind.free)∈scope.names)
def picked(U:St)(qC:List (Option Nat)):St:=(qC.map λo=>match o with|none=>none|some j=>(U[j]?).join)
def GN(X:Cx)(ifs:Go)(t:TT):Prop:=(∀qA s U H(Q:Bool->Hp->Prop),'D'->t U H Q->'B' (forIn ifs true λc r=>if r=true then do let ok<-isTrue c X.env (eval c X.env);pure (ForInStep.yield ok)else pure (ForInStep.yield r)) (TP X qA U Q) X.xe s)
def Qi:TT:=(λ_ H Q=>Q true H)
def Jj:GN X [] Qi:=λqA s U H Q I h=>wpAny_tests_nil #[H,I,h]
def YJ{c}(h:PT X c t):GN X [c] t:=λqA s U H Q I q=>wpAny_tests_one (h qA s U H Q I q)
noncomputable def YK{cf a}{ifs:Go}{it o}(I:Nat->Shared->Prop)(turn:∀n s,I n s->'C' (pyNext it) (λr s₁=>match r with
   |none=>R (.ok .next) s₁|some v=>'C' (letOwnedTupleGo a it v) (λ_ e=>'C' (assign a env v) (λ_ s₂=>'C' (forIn ifs true λc r=>if r=true then do let ok<-isTrue c env (eval c env);pure (ForInStep.yield ok)else pure (ForInStep.yield r)) (λok d=>if ok=true then 'C' (eval cf env) (λx g=>'C' (call (.builtin "list.append") [o,x]) (λ_ f=>∃m,m<n/\I m f) '9' g) '9' d else∃m,m<n/\I m d) '9' s₂) '9' e) '9' s₁) '9' s)(n)(h:I n s):codeAny (model prog w) A (.compLoop (.ListComp cf [#[a,iter,ifs,(0)]] scope pos) 0 it o env) R s:=by show codeAny_loop rfl I (λn s y=>?_) n h;show wpAny_noted ?_;show wB (wpAny_standAt (wB (bL (turn n s y) (λr s₁ j=>?_) λ_ _ h'=>h'.elim)));cases r with|none=>show wP j|some v=>show wB (bL j (λ_ e l=>?_) λ_ _ h'=>h'.elim);show wB (bL l (λ_ s₂ u=>wB (bL u (λok d i=>?_) λ_ _ h'=>h'.elim)) λ_ _ h'=>h'.elim);cases ok with
  |false=>show wP #[0,i]|true=>show wB (wB (bL i (λx g q=>wB (bL q (λ_ f p=>wP (wP #[0,p])) λ_ _ h'=>h'.elim)) λ_ _ h'=>h'.elim))
def Hc(J:It)(qC:List (Option Nat))(g:TG)(tt:TT)(te:TE)(U:St)(Q:VK)(H1:Hp):Prop:=(∀D,H1 D=none->∃W:Nat->Nat->dH->Hp->Prop,(∃m,W 0 m [] (AB H1 D (.lst [])))/\∀i m ys H2,W i m ys H2->H2 D\(.lst ys)/\((J.stop i H2/\Q (.ref D) H2)\/(J.go i H2/\∃M:dH->Hp->Prop,(∀zs H',M zs H'->∃m',m'<m/\W (i+1) m' zs H')/\∀x H3,J.yld i H2 x H3->g x (L2.picked U qC) H3 λσ4 H4=>tt σ4 H4 λb H5=>if b=true then te σ4 H5 λy H6=>H6 D\(.lst ys)/\ys.length<sizeLine/\M (ys++[y]) (AB H6 D (.lst (ys++[y])))else M ys H5)))
def Jk(wi:TI)(qC:List (Option Nat))(g:TG)(tt:TT)(te:TE):TE:=(λU H Q=>wi U H λJ H1=>Hc J qC g tt te U Q H1)
def Fh(qC:List (Option Nat))(g:TG):Prop:=(∀(U:St)(x:V)(H:Hp)(Q:St->Hp->Prop),g x (L2.picked U qC) H Q->g x (L2.picked U qC) H λσ' H'=>Q σ' H'/\∀(k:Nat)v,(L2.picked U qC)[k]?\(some v)->σ'[k]?\(some v))
def Jl(h:qC[i]?\none):(L2.picked U qC)[i]?\none:=by unfold L2.picked;simp_all
def Qj(h:qC[i]?\none):Fh qC (Bq i):=λU x H Q q=>{q,λk v e=>by
 let a:i≠k:=λz=>by subst z;rw[Jl h]at e;cases e
 rw[bV a];show e}
def Mg{K}(h:qC[i]?\none)(h':qC[j]?\none):Fh qC (gTup K 2 (gCons (Bq i) (gCons (Bq j) E4))):=by
 rintro U x H Q⟨a,xs,rfl,f,g,v,r,rfl,v',l,rfl,rfl,q⟩;show{a,_,0,f,g,v,_,0,v',_,0,0,q,λk v e=>?_};let d:i≠k:=λz=>by subst z;rw[Jl h]at e;cases e
 let c:j≠k:=λz=>by subst z;rw[Jl h']at e;cases e
 rw[bV c,bV d];show e
section
variable{N':At}{cf:Expr}{ifs:Go}{wi:TI}{tt:TT}
def YL{C:Addr}{m:Str->C2}(S:CompScope N sc N' qC scope)(hN:X.N=N)(G:X.env.scope=sc)(I:'D')(ρ:∀b∈fp,Ce X qA H b)(a3:∀b∈fp,∃o,'F' b\o)(hC:'H'<=C)(L:∀b o,'F' b\o->s4.heap.get? b\o)(hn:s4.heap.Ns C m)(ho:s4.os=s.os)(hg:s4.gens=s.gens):Inv (X.comp N' scope {Ch X.env.cells scope.names [],C,s,H,fp,qA}) [] (L2.picked U qC) H s4:=by
 let ok:=I.ok;let T:=λy hy=>by let q:=S.has (y,.free) hy rfl;rw[<-G]at q;show ok.has y q
 let sub:∀y c,(Ch X.env.cells scope.names []).lookup y\c->X.env.cells.lookup y\c:=λy c e=>by
  let q||q:=Md e
  .show q
  .simp at q
 show#[{ok.mod,S.kind,ok.glob,ok.blt,hC,λx y c σ f=>ok.inj x y c (sub x c σ) (sub y c f),λx hx=>?_,λx c z _=>(nomatch(z)),ok.hd,ok.frames,.inl rfl,λb A=>{λz=>?_,λx c e=>(ρ b A).2.2.2.2.1 x c (sub x c e)},I.bs,aR ok.bsz I.sz,λb o e A=>?_,λb A z=>?_,I.stack,I.stkFree},ho,by rw[hg];show I.bare,Un.kept L,{m,hn,λi x v σ f e3=>?_},λx c e=>?_,I.hok.fresh hC,λx c e=>I.freeC x c (sub x c e),λp hp=>?_,I.hok.kept L,?_]
 .let E:=Qg S.nocell hx;let[c,Q]:=T x E;show Option.isSome_iff_exists.mp (Mf Q E)
 .let[o,e]:=a3 b A;let e':=z;show bS (aU (bN e) (e'▸hC)) (aX _)
 .let q||q:=(ρ b A).2.2.2.1
  .show ok.noex b o e q
  .show bS (aU (bN e) (aR ok.bsz q)) (aX _)
 .let q||q:=aF.mp (I.stkSub b z)
  .show(ρ b A).2.1 q
  .show(ρ b A).2.2.1 q
 .--a B name
  let hi:i<qC.length:=by
   let q||q:=cE i qC.length
   .show q
   .unfold L2.picked at f;rw[bQ (~~~q)]at f;cases f
  obtain⟨o,J⟩:∃o,qC[i]?\o:={qC[i],by simp[hi]};unfold L2.picked at f;rw[bO,J]at f;cases o with|none=>cases f|some j=>
   let f:some ((U[j]?).join)\(some v):=f;let σ:=σ;let hz:(some j,x)∈qC.zip N':=by show aM (i:=i) ?_;rw[getElem?_zip_eq_some];show#[J,σ]
   let[c1,c2]:=(S.cap _ hz).resolve_left '5';let c1:=c1;let e3:U[j]?\(some v):=by let q:=oI f;cases D:U[j]? with|none=>rw[D]at q;cases q|some y=>rw[D]at q;show aT some q
   rw[<-hN]at c1;let[m0,a5,a2]:=I.loc;let kq:=S.has (x,.free) c2 rfl;rw[<-G]at kq;let[u,r,l]:=a2 j x v c1 e3 (kq.elim (λz=>.inr (.inl z)) λz=>.inr (.inr z));show#[u,r,?_];let[c,Q]:=T x c2;let[c',O]:=Option.isSome_iff_exists.mp (Mf Q c2);let a4:=oI ((sub x c' O).symm.trans Q);subst a4;let a0:(compEnvC scope (Ch X.env.cells scope.names []) C X.env).kindOf x\.cell\/(compEnvC scope (Ch X.env.cells scope.names []) C X.env).kindOf x\.free:=by show Qh (S.free (x,.free) c2 rfl)
   let[k,_]||[_,a7,M,w]:=l
   .exfalso;let k:X.env.scope.names.lookup x\.local:=k;let z||z:=kq
    .rw[k]at z;cases z
    .rw[k]at z;cases z
   .rw[Q]at M;cases M;let[oc,g,hd]:=w;show .inr {a0,c',O,oc,L _ _ g,hd}
 .let[v,oc,g,hd]:=I.cell x c (sub x c e);show{v,oc,L _ _ g,hd}
 .let a1:p∈X.pn++qA:=by let hp:p∈(X.pn++qA)++[]:=hp;simpa using hp
  done<;>let[e,n,ne,nf,d]:=I.pin p a1;show{L _ _ e,n,λz=>?_,λz=>?_,d}
  .let z:=z;show bS (aU (bN e) (z▸hC)) (aX _)
  .let q||q:=aF.mp (I.stkSub _ z)
   .show ne q
   .show nf q
 .unfold L2.picked;rw[aA];show S.len
def Qk{Q}{QQ:VS}(S:CompScope N sc N' qC scope)(hN:X.N=N)(a9:X.env.scope=sc)(hc:X.calm=true)(hi:PI X tg iter wi)(hk:Fh qC g)(hg:∀p,PG (X.comp N' scope p) tg g)(ht:∀p,GN (X.comp N' scope p) ifs tt)(he:∀p,PE (X.comp N' scope p) cf te)(hs:∀x,foldedSetIterable iter X.env x=pure x)(I:'D')(h:Jk wi qC g tt te U H Q)(fin:∀(D C)(H')(s')(m:Str->C2),Inv X qA U H' s'->Q (.ref D) H'->H' C=none->C≠X.env.locals->X.s₀.heap.objs.size<=C->(∀x c,X.env.cells.lookup x\c->c≠C)->(∀p∈X.pn++qA,p.1≠C)->s'.heap.Ns C m->compPost (model X.prog X.w) X.A X.xe a1 QQ (.ref D) C (.ok .next) s'):'B' (comprehension (.ListComp cf [#[tg,iter,ifs,(0)]] scope pos) scope X.env (firstIterPos [#[tg,iter,ifs,(0)]] pos) (newList []) false (eval iter X.env) a1) QQ X.xe s:=by
 let ab:=λy hy e=>by let q:=S.has y hy e;rw[<-a9]at q;show I.ok.has y.1 q
 show wpAny_comprehension_free rfl hs (YI ab) S.kind S.names (AQ (hi qA s U H _ I h) λv s1 h1=>AQ h1 λau f h2=>?_);done<;>(let[it,G,tn,J,H2,e,I2,T,a3,L,q]:=h2;subst e;let af:=I2.fresh;let[W,[m0,w0],a4]:=q f.heap.objs.size af);show cG (wpAny_newFunctionEnv S.nocell (by intro y hy;simp at hy) (λh₁ l j=>?_) S.kind);dsimp only at l j⊢;let I3:Inv X qA U (AB H2 f.heap.objs.size (.lst [])) {f with heap:=f.heap.push {cls:=.type "list",dict:=none,data:=.seq ([]:B6).toArray}}:=I2.lnew .nil (cD _)
 generalize ρ:f.heap.push {cls:=.type "list",dict:=none,data:=.seq ([]:B6).toArray}=G3 at l j I3⊢;let f3:∀b∈G,Ce X qA (AB H2 f.heap.objs.size (.lst [])) b:=λb a=>by let[o,e,_]:=T.obj _ _ a3 b a;show{?_,(L b a).2};rw[AE (bX (bN e))];show(L b a).1
 let aa:∀b∈G,∃o,G3.get? b\o:=λb a=>by let[o,e,_]:=T.obj _ _ a3 b a;show{o,ρ▸aS _ e}
 let a8:∀b o,G3.get? b\o->h₁.get? b\o:=λb o e=>(j.2 b (bX (bN e))).trans (aS _ e);let I4:=YL (s4:={f with heap:=h₁,toks:=f.toks+([]:List (Str×Value)).length}) S hN a9 I3 f3 aa (aQ G3.objs.size) a8 l rfl rfl;let a7:=T.keep _ _ _ a3 λb a o e=>a8 b o (ρ▸aS _ e);let σ:f.heap.objs.size<=G3.objs.size:=by rw[<-ρ,Heap.size_push];show cS _
 generalize E:({Ch X.env.cells scope.names [],G3.objs.size,{f with heap:=G3},AB H2 f.heap.objs.size (.lst []),G,qA}:CompP)=p at I4;let sub:∀y c,(X.comp N' scope p).env.cells.lookup y\c->X.env.cells.lookup y\c:=λy c e=>by
  subst E;let q||q:=Md e
  .show q
  .simp at q
 let B:∀{H'},(∀b∈G,H' b=none)->∀b∈G,Ce (X.comp N' scope p) [] H' b:=λhn b a=>by
  show{hn b a,λz=>?_,λz=>?_,.inl (by subst E;show a),λx c e=>(L b a).2.2.2.2.1 x c (sub x c e),λq hq=>?_}
  .subst E;let[o,e]:=aa b a;let z:=z;show bS (bN e) (by rw[z];show aX _)
  .subst E;let q||q:=aF.mp (I2.stkSub b z)
   .show(L b a).2.1 q
   .show(L b a).2.2.1 q
  .show(L b a).2.2.2.2.2 q ?_;subst E;let hq:q∈(X.pn++qA)++[]:=hq;simpa using hq
 let a0:codeAny (model X.prog X.w) X.A (.compLoop (.ListComp cf [#[tg,iter,ifs,(0)]] scope pos) 0 (.ref it) (.ref f.heap.objs.size) (X.comp N' scope p).env)
   (compPost (model X.prog X.w) X.A X.xe a1 QQ (.ref f.heap.objs.size) G3.objs.size) {f with heap:=h₁,toks:=f.toks+([]:List (Str×Value)).length}:=by
  show YK (λn s'=>∃i ys H',Inv (X.comp N' scope p) [] (L2.picked U qC) H' s'/\tn i s'.heap/\(∀b∈G,H' b=none)/\W i n ys H') ?_ m0 {(0),[],_,I4,a7,λb a=>(f3 b a).1,w0};rintro n s5⟨i,ys,H5,I5,a6,ae,w5⟩;done<;>(let[hD,am]:=a4 i n ys H5 w5;let[a5,qn]||[go,M,hM,step]:=am)
  .show AQ (T.done (X.comp N' scope p) rfl rfl rfl hc i [] s5 _ H5 _ I5 (B ae) a6 a5) λr s6 zz=>?_;let[hr,I6]:=zz;subst hr;let[m6,ak,_]:=I6.loc;let un:Un (frs X.stack) G H2 H5 f.heap s6.heap:=by let u1:Un (frs X.stack) G H2 (AB H2 f.heap.objs.size (.lst [])) f.heap G3:=Un.laid (λb o e=>ρ▸aS _ e) (aQ _) af;let u2:=I6.base;subst E;show u1.trans u2
   let IO:=I2.call' (by let e:=I6.os;subst E;show e) un (by let e:=I6.hok;subst E;show e) I6.bare λb a=>{(L b a).2.2.2.1,(L b a).2.1,(L b a).2.2.2.2.1,(L b a).2.2.2.2.2};show fin _ _ H5 s6 m6 IO qn ?_ ?_ ?_ ?_ ?_ ?_
   .let e:=I6.free;subst E;show e
   .show Nat.ne_of_gt (aU I2.lt σ)
   .show aR I2.sz σ
   .intro x c e z;let[v,q]:=I2.cell x c e;show bS (aU q.lt σ) (by rw[z];show aX _)
   .intro q hq z;show bS (aU (bN (I2.pin q hq).1) σ) (by rw[z];show aX _)
   .subst E;show ak
  .show AQ (T.item (X.comp N' scope p) rfl rfl rfl hc i [] s5 _ H5 _ I5 (B ae) a6 go) λr s6 zz=>?_;let[u,hr,h6]:=zz;subst hr;show AQ h6 λ_ s7 zz=>?_;let[x,H7,I7,r7,y7,a2,al]:=zz;let an:=I7.pinned (B al) (T.obj _ _ a2);show AQ (hg p _ s7 _ H7 x u _ an r7 (hk U x H7 _ (step x H7 y7))) λ_ s8 zz=>?_;done<;>let[O,H8,I8,q8,w8]:=zz;show AQ (ht p _ s8 O H8 _ I8 q8) λok s9 zz=>?_;let[H9,I9,q9]:=zz;let back:∀{H'}{s'},Inv (X.comp N' scope p) ([]++HR G s7.heap) O H' s'->∀{k:Nat}{zs},M zs H'->∃m,m<n/\∃i ys H'',Inv (X.comp N' scope p) [] (L2.picked U qC) H'' s'/\tn i s'.heap/\(∀b∈G,H'' b=none)/\W i m ys H'':=λ{H' s'}I'{k zs}mz=>by
    let[m',hm,w']:=hM _ _ mz;show{m',hm,i+1,zs,H',?_,T.keep _ _ _ a2 λb a o e=>(I'.pin (b,o) (cC _ (cC _ (JR a e)))).1,λb a=>?_,w'}
    .show(I'.unpinned).weak ?_ w8;rw[(I'.unpinned).len,I7.len]
    .let[o,e,d]:=T.obj _ _ a2 b a;show(I'.pin (b,o) (cC _ (cC _ (JR a e)))).2.1
   cases ok with
   |false=>show back I9 (k:=0) q9|true=>show AQ (he p _ s9 O H9 _ I9 q9) λv ag zz=>?_;done<;>let[y,aq,ap,ah,ac,hz,aj]:=zz;show AQ (Fe _ ag O aq (.ref f.heap.objs.size) [y] _ [v] (λ_ H'=>M (ys++[y]) H') ap rfl (.cons ah .nil) #[_,ys,y,0,0,ac,hz,aj]) λw ar zz=>?_;let[z,av,ao,as,ai]:=zz;show back ao (k:=0) ai
 subst E;show codeAny_compStart_list a0 (T.self _ 0 _ _ _ a7 a0)
def Jm(S:CompScope N sc N' qC scope)(z:X.calm=true)(hi:PI X tg iter wi)(v:Fh qC g)(w:∀p,PG (X.comp N' scope p) tg g)(n:∀p,GN (X.comp N' scope p) ifs tt)(y:∀p,PE (X.comp N' scope p) cf te)(B:X.N=N:=by rfl)(a:X.env.scope=sc:=by rfl)(r:∀x,foldedSetIterable iter X.env x=pure x:=by rfl):PE X (.ListComp cf [#[tg,iter,ifs,(0)]] scope pos) (Jk wi qC g tt te):=by intro qA s U H Q I h;show Qk S B a z hi v w n y r I h λD C H' s' m IO q l j i f d u=>?_;show#[m,u,λh' c=>{.ref D,H',IO.turned (λb o A e=>(c.2 b A).trans e) l (Ne.symm (Ne.symm j)) (.inr i) f d,0,q}]
def Ql{r}(S:CompScope N sc N' qC scope)(l:X.N.Nodup)(n:X.N[i]?\x)(J:D5 X.env.scope x)(hc:X.calm=true)(hi:PI X tg iter wi)(T:Fh qC g)(σ:∀p,PG (X.comp N' scope p) tg g)(L:∀p,GN (X.comp N' scope p) ifs tt)(he:∀p,PE (X.comp N' scope p) cf te)(hN:X.N=N:=by rfl)(d:X.env.scope=sc:=by rfl)(c:swapsWith (.ListComp cf [#[tg,iter,ifs,(0)]] scope pos) (some (.Name x pos')) r.line X.env=pure true:=by rfl)(M:∀x,foldedSetIterable iter X.env x=pure x:=by rfl)(ρ:X.fn x=true\/X.env.scope.names.lookup x\.local:=by trivial):PS X (.Assign [.Name x pos'] (.ListComp cf [#[tg,iter,ifs,(0)]] scope pos) r) (ET (Jk wi qC g tt te) (Bq i)):=by
 intro qA s U H D I h;rw[exec_Assign_Name_used _ _ _ _ c];show wB (wpAny_standAt (wB ?_));show wB (AQ (Qk S hN d hc hi T σ L he M I h λD' C H' s' m IO q G w E u B Q=>?_) λ_ s' O=>wP (wP O));show wpAny_assign_Name (Lz (v:=V.ref D') IO l n J rfl (λy I2 zz=>?_) ρ);let[a,f,ha]:=zz;let A:C≠a:=by
  let e||e:=ha
  .rw[e];show w
  .showλz=>u _ _ e z.symm
 show#[m,Q.sameBut f A,λh' j=>{_,H',I2.turned (λb o hb e=>(j.2 b hb).trans e) G w (.inr E) u B,q}]
end
section
variable{K:Fg}{xs:dH}{tt:TT}{Q:VK}{J:It}
def Qm{y:Nat->V->Prop}(Pv:Addr->Nat->dH->Hp->Prop)(w:∀D,H D=none->Pv D 0 [] (AB H D (.lst [])))(v:∀D i ys H2,H D=none->i<=n->Pv D i ys H2->H2 D\(.lst ys))(h:∀D i ys H2,H D=none->i<n->Pv D i ys H2->J.go i H2)(c:∀D ys H2,H D=none->Pv D n ys H2->J.stop n H2)(r:∀D i ys H2 x j,H D=none->i<n->Pv D i ys H2->J.yld i H2 x j->y i x/\j=H2)(s:∀D,H D=none->∀i x ys H2,i<n->y i x->Pv D i ys H2->g x (L2.picked U qC) H2 λf A=>tt f A λb H5=>if b=true then te f H5 λy H6=>H6 D\(.lst ys)/\ys.length<sizeLine/\Pv D (i+1) (ys++[y]) (AB H6 D (.lst (ys++[y])))else Pv D (i+1) ys H5)(u:∀D ys H2,H D=none->Pv D n ys H2->Q (.ref D) H2):Hc J qC g tt te U Q H:=by
 intro D d;show{λi m ys H2=>m=n-i/\i<=n/\Pv D i ys H2,{n,'2',cD _,w D d},?_};rintro i m ys H2⟨rfl,hi,p⟩;show{v D i ys H2 d hi p,?_};by_cases a:i<n
 .show .inr {h D i ys H2 d a p,Pv D _,λzs H' q=>{n-(i+1),⋯,0,a,q},λx H' z=>?_};let[o,l]:=r D i ys H2 x H' d a p z;subst l;show s D d i x ys _ a o p
 .let e:i=n:=⋯;subst e;show .inl {c D ys H2 d p,u D ys H2 d p}
def YM{lo}(Pv:Addr->Nat->dH->Hp->Prop)(j:∀D,H D=none->Pv D 0 [] (AB H D (.lst [])))(h:∀D i ys H2,H D=none->i<=n->Pv D i ys H2->H2 D\(.lst ys))(e:∀D,H D=none->∀(i)ys H2,i<n->Pv D i ys H2->g (.int (lo+i)) (L2.picked U qC) H2 λa l=>tt a l λb H5=>if b=true then te a H5 λy H6=>H6 D\(.lst ys)/\ys.length<sizeLine/\Pv D (i+1) (ys++[y]) (AB H6 D (.lst (ys++[y])))else Pv D (i+1) ys H5)(f:∀D ys H2,H D=none->Pv D n ys H2->Q (.ref D) H2):Hc (Dk lo n) qC g tt te U Q H:=Qm Pv j h (λD i ys H2 c hi p=>hi) (λD ys H2 c p=>aQ _) (λD i ys H2 x m c hi p z=>#[z.2,z.1])
  (λD c i x ys H2 hi d p=>by subst d;show e D c i ys H2 hi p) f
end
def Jn(xs:dH):It:=({λi _=>i<xs.length,λi H x H'=>H'=H/\xs[i]?\x,λi _=>xs.length<=i})
def DY(z:Str):dH:=(z.cps.toList.map λc=>V.str {[c].toArray})
def Qn(z):(DY z).length=z.length:=by unfold DY;rw[aA];show bR
theorem YN{K}(l:ty="str_ascii_iterator"\/ty="str_iterator")(x)(t)(it):Turn P w K tg (Jn (DY x)) [it] it (λi h=>h.IsStrIter it ty x t i)where
 mem:='2'
 obj:=λi h st b a=>by
  let e:b=it:=by simpa using a
  subst e;let[o,e,c,d]:=st;show{o,e,λv z=>by rw[d]at z;cases z}
 keep:=λi h h' st k=>by let[o,e,r]:=st;show{o,k it '2' o e,r}
 item:=by
  intro X J C L G i qA s U H E I m st D;subst J C L;let hi:i<x.cps.size:=by let h:i<(DY x).length:=D;rw[Qn]at h;show h
  let[B,y,T,q,p,n]:=m it '2';let g:x.cps[i]?\x.cps[i]:=by simp[hi]
  let j:∀h',h'.IsStrIter it ty x t (i+1)->Heap.SameBut it s.heap h'->∃u,(some (Value.str {[x.cps[i]].toArray} s.toks))\u/\'B' (letOwnedTupleGo tg (.ref it) u) (λ_ N=>∃x' H',Inv X qA U H' N/\AR x' u/\(Jn (DY x)).yld i H x' H'/\N.heap.IsStrIter it ty x t (i+1)/\∀b∈[it],H' b=none) E {s with heap:=h',toks:=s.toks+1}:=by intro h' f O;let σ:Inv X qA U H {s with heap:=h',toks:=s.toks+1}:=I.turned (λb o a e=>(O.2 b a).trans e) B y q p n;let[o,e,c,d]:=id f;show#[_,0,HQ e c d (by let z||z:=l<;>rw[z]<;>decide) {.str {[x.cps[i]].toArray},H,σ,#[_,0],#[0,?_],f,λb a=>(m b a).1}];unfold DY;simp[hi]
  let z||z:=l
  .subst z;show wpAny_pyNext_ascii_item st g j
  .subst z;show wpAny_pyNext_wide_item st g j
 done:=by
  intro X J C L G i qA s U H E I m st D;let hi:x.cps.size<=i:=by let h:(DY x).length<=i:=D;rw[Qn]at h;show h
  let[B,y,T,q,p,n]:=m it '2';let g:x.cps[i]?=none:=by simp[hi]
  let z||z:=l
  .subst z;show wpAny_pyNext_ascii_end (I.ok.hd G) st g λh' M=>{0,I.turned (λb o a e=>M b o a e) B y q p n}
  .subst z;show wpAny_pyNext_wide_end (I.ok.hd G) st g λh' M=>{0,I.turned (λb o a e=>M b o a e) B y q p n}
 self:=λA i s Q E st h=>by
  let z||z:=l
  .subst z;show wpAny_pyIter_striter_ascii st h
  .subst z;show wpAny_pyIter_striter_wide st h
def YO(te:TE):TI:=(λU H R=>te U H λx H1=>∃z,x=.str z/\R (Jn (DY z)) H1)
section
variable{e:Expr}
def YQ(i:PE X e te):PI X tg e (YO te):=by
 intro qA s U H R I h;show AQ (i qA s U H _ I h) λv a zz=>?_;let[x,H1,c,g,z,l,q]:=zz;subst l;let[t,0]:=g;let base:∀(ty)(d),MC X qA U tg R _ {a with heap:=a.heap.push {cls:=.type ty,data:=.fields [.str z t,.int 0 0].toArray}}:=λty d=>by
  let m:Inv X qA U H1 {a with heap:=a.heap.push {cls:=.type ty,data:=.fields [.str z t,.int 0 0].toArray}}:=c.kept λb n q=>aS _ q;show{a.heap.objs.size,[a.heap.objs.size],_,_,H1,0,m,YN d z t _,{_,bP _ rfl,0,0},λb j=>?_,q};let e:b=a.heap.objs.size:=by simpa using j
  subst e;show c.fpOk (aQ _) c.fresh
 cases f:z.cps.all _
 .show wpAny_pyIter_wide f (base _ (.inr rfl))
 .show wpAny_pyIter_ascii f (base _ (.inl rfl))
end
def Qo:Az X (compareOp .LtE) (λx y H Q=>∃i j,x=.str i/\y=.str j/\Q (.bl (!decide (j.cps.toList<i.cps.toList))) H):=by rintro qA s U H x y v u Q I c a⟨i,j,rfl,rfl,q⟩;let[t,0]:=c;let[t',0]:=a;show P.le_str {.bl _,H,I,0,q}
def Qp:V->Option Int->Option Int->Hp->VK->Prop:=(λx lo hi H Q=>∃z,x=.str z/\z.length<=sizeLine/\Q (.str (Txt.slice z lo hi)) H)
noncomputable def Qq{v}{o}(h:IsPart v o):∃l,l.map (·.1)=o/\partValue l=v:=by cases h with
 |none=>show#[none,0,0]|int i t=>show{some (i,t),0,0}
def Qr:DV X Qp:=by rintro qA s U H x v g f lo hi i Q I a e pl c⟨z,rfl,d,q⟩;let[t,0]:=a;let[l,0,0]:=Qq pl;let[u,0,0]:=Qq c;show{"str",_,F.slot_str_getitem.lookup,typeIs_str _ _ _,wpAny_getItem_str_slice (st:=none) e rfl ?_};show post_val_or_str #[aR (Txt.slice_le z _ _) d,λt' k=>{.str _,H,I.tok k,#[t',0],q}]
theorem Mj:∀{ys:At}{us},AW (ys.map V.str) us->StrsAre us ys
 |[],_,.nil=>.nil|y::ys,_,.cons ⟨t,e⟩ r=>by subst e;show .cons y t (Mj r)
def YR(K:Fg):V->dH->Hp->VK->Prop:=(λx vs H Q=>∃z p ys,x=.str z/\vs=[.ref p]/\BA K H p (ys.map V.str)/\(ys.map (·.length)).sum+ys.length*z.length<=16777216/\Q (.str (Txt.join z ys)) H)
def YS:GK X "str.join" (YR X.K):=by rintro qA s U H x vs v us Q I c rv⟨z,p,ys,rfl,rfl,e,a,q⟩;let[t,0]:=c;let[u,0,d]:=rv.one;cases d;let[qG,r,pl,f]:=I.list e;show join_list pl.isList (Mj (~~~r)) a λt' k=>{.str _,H,I.tok k,#[t',0],q}
theorem Ml:∀{bs}{us},AW (bs.map V.bl) us->LSm.BoolsAre us bs|[],_,.nil=>.nil|b::bs,_,.cons e r=>by cases e;show .cons b (Ml r)
def D9(m:X.calm=true):BQ X (.builtin "all") (λxs H Q=>∃(p:Addr)(bs:List Bool),xs=[.ref p]/\BA X.K H p (bs.map V.bl)/\Q (.bl (bs.all id)) H):=by
 rintro qA s U H xs us Q I r⟨p,bs,rfl,j,q⟩;let[u,0,g]:=r.one;cases g;let[qG,r,pl,o]:=I.list j;let d:=Ml r;let c:=pl.isList;let a:p<'H':=by let[_,e,_]:=c;show bN e
 show call_all_walk (wpAny_pyIter_list c ?_);show{'H',['H',p],['H'],qG.toArray.size,_,_,λi=>(bs[i]?).getD true,0,Walks.list (A:=X.A.in1) (I.ok.hd m) _ p (bX a) qG.toArray,#[{_,bP _ rfl,0,0},c.push _],λi v s' w x n f=>?_,λh' tk l=>?_}
 .let[b,e,0]:=d.get i v (~~~n);simp only[e,Option.getD_some]at f;show wpAny_truthy_bool f
 .let e:((List.range qG.toArray.size).all λi=>(bs[i]?).getD true)=bs.all id:=by rw[size_toArray,d.length];show LSm.range_all bs
  rw[e];show{.bl _,H,I.kept (LSm.kept_iter l),0,q}
def YT:BQ X (.builtin "isinstance") (λxs H Q=>∃x t n b,xs=[x,.ty n]/\TyOf X.K H x t/\PySem.W.kitOne X.K t (.type n)\b/\Q (.bl b) H):=by rintro qA s U H xs us Q I r⟨x,t,n,b,rfl,ty,e,q⟩;let[u,v,0,a,rv]:=r.two;cases(rv);show W3 I a ty e λtk=>{.bl b,H,I.tok tk,0,q}
def Qs:Az X (binaryOp .FloorDiv) (rI (λ_ j=>0<j/\j<2^64) λi j=>.int (i/j)):=HU λi j t u s E Q a q=>by
 let e:i.fdiv j=i/j:=Int.fdiv_eq_ediv_of_nonneg _ (Int.le_of_lt a.1);show floordiv_int (Int.ne_of_gt a.1) (by simp_all) (.inl (PyProof.noPylong_of_log2 ?_));let h:j.natAbs<2^64:=by omega
 let c:j.natAbs≠0:=by lia
 show aU ((Nat.log2_lt c).mpr h) '3'
inductive rIxF(x y:V)(H:Hp)(Q:VK):Prop|mk(p:Addr)(i:Int)(xs:dH)(ex:x=.ref p)(ey:y=.int i)(h:H p\(.lst xs))(v:V)(hv:atI xs i\v)(q:Q v H)
def C5:E9 X rIxF:=λvalue a qA s U H x y v u Q I d c zz f=>(by let[p,i,xs,j,g,h,w,e,q]:=zz;show QH value a qA s U H x y v u Q I d c {p,xs,i,w,j,g,.of h,e,q} f)
def YU:Pf X rIxF:=by
 rintro qA s U H o i x y Q I g ri⟨p,k,xs,rfl,rfl,l,z,n,q⟩;cases g;done<;>(let[t,0]:=ri;let[qG,r,pl,A]:=I.list (.of l);let[j,h1,h2,C,v,u]:=JZ n;let[w,f,c]:=r.get h2);let m:=r.length;let B:=Fc;let a:EP X qA U Q w s:=#[z,H,I,c,q];by_cases e:0<=k
 .let d:k.toNat=j:=by rw[seqIndex_of e u]at h1;show oI h1
  show wpAny_getItem_list pl.isList e ⋯ (by rw[d];simpa using f) a
 .let d:(k+qG.toArray.size).toNat=j:=by rw[seqIndex_neg (by simp_all) v]at h1;rw[size_toArray,<-m];show oI h1
  show wpAny_getItem_list_neg pl.isList ⋯ (by rw[size_toArray]<;>simp_all) ⋯ (by rw[d];simpa using f) a
def Mm:BQ X (.builtin "len") (λxs H Q=>∃p ys,xs=[.ref p]/\H p\(.lst ys)/\Q (.int ys.length) H):=by rintro qA s U H xs us Q I r⟨p,ys,rfl,a,q⟩;show MT qA s U H _ us Q I r {p,ys,0,.inl (.of a),q}
inductive rIxU(x y:V)(H:Hp)(Q:VK):Prop|mk(p:Addr)(i:Int)(xs:dH)(ex:x=.ref p)(ey:y=.int i)(h:H p\(.tup xs))(v:V)(hv:atI xs i\v)(q:Q v H)
def Hd:E9 X rIxU:=λvalue a qA s U H x y v u Q I d c zz f=>(by let[p,i,xs,j,g,h,w,e,q]:=zz;show QJ value a qA s U H x y v u Q I d c {p,xs,i,w,j,g,.of h,e,q} f)
def YV:BQ X (.builtin "len") (λxs H Q=>∃p ys,xs=[.ref p]/\H p\(.tup ys)/\Q (.int ys.length) H):=by rintro qA s U H xs us Q I r⟨p,ys,rfl,a,q⟩;show MT qA s U H _ us Q I r {p,ys,0,.inr (.of a),q}
def Fn(P:Program)(w:World)(K:Fg)(mg:Str->C2)(base:Heap)(x:Str)(k:Nat)(ps:At)(sp:Sp):Prop:=(∃(f:Addr)(fd:FuncData),FnOk P w K mg base Dm k f fd ps sp/\mg x\(.ref f)/\PySem.W.keepIn K (.ref f)=true/\Cr K fd ps [])
def CF{p}(G:Fn X.prog X.w X.K X.mg X.base x k ps sp)(d:Room k X.A)(i:Gl X x)(m:PA X (e::es) t)(c:No x:=by decide+kernel)(j:starEach (e::es) X.env=(false,eval e X.env)::starEach es X.env:=by rfl)(a:(backTo pos (starEach es X.env)).any (·.1)=false:=by rfl):PE X (.Call (.Name x p) (e::es) [] pos) (EW sp [] E0 t):=by let[f,fd,F,g,h,l]:=G;show Pz F d i g h l .nil YG m c j a
def Ai(K:Fg)(mg:Str->C2)(x:Str)(st:Stmt):Prop:=(∃(f:Addr)(fd:FuncData),Fun K x x st f fd/\mg x\(.ref f))
def DZ{K}{st}(D:Ai K mg x st)(S:FnScope N ps (AL st))(e:∀(kV doc pm)(an:FG)(a ct)(us:B6),us.length=ps.length->bindArgs (PySem.W.fnOf x x (Ca st) (Bi st) (AL st) .none kV doc pm an a ct) {us,[]}=pure (ps.zip us))(len:∀vs H Q E,sp vs H Q E->vs.length=ps.length)(c:∀(f)(a)(A)(outer)(s)(H)(vs)(Q)(E),Room k (A.deeper (PyProof.Rows.envOfC x (AL st) 'H' f a))->sp vs H Q E->∃t,BS (EY Dm P w K mg base N x (AL st) f a A outer s H E).nox (Bi st) t/\t {nx:=λ_ H'=>Q .non H',rt:=Q} (start N vs) H):Fn P w K mg base x (k+1) ps sp:=by let[f,fd,F,d]:=D;show{f,fd,F.ok S len (c f),d,F.kp,F.binds e}
def GO:BQ X (.type "list") (λxs H Q=>∃p ys,xs=[.ref p]/\(H p\(.lst ys)\/H p\(.tup ys))/\∀l,H l=none->Q (.ref l) (AB H l (.lst ys))):=by rintro qA s U H xs us Q I r⟨p,ys,rfl,a,q⟩;show Xk qA s U H _ us Q I r {p,ys,0,a.elim (λz=>.inl (.of z)) (λz=>.inr (.of z)),q}
def EA:BQ X (.type "tuple") (λxs H Q=>∃p ys,xs=[.ref p]/\H p\(.lst ys)/\∀l,H l=none->Q (.ref l) (AB H l (.tup ys))):=by rintro qA s U H xs us Q I r⟨p,ys,rfl,a,q⟩;show Xl qA s U H _ us Q I r #[p,ys,0,.inl {.of a,q}]
def YW(h:k<=x.length):(Txt.slice x none (some (k:Int))).cps.toList=x.cps.toList.take k:=by let e:=beq_iff_eq.mp (slice_closes_to (x:=x) (j:=k) {⋯,by let:x.cps.toList.length=x.length:=bR;simp_all});rw[e];simp
def YX:∀ys:At,(Txt.join {#[]} ys).cps.toList=(ys.map (·.cps.toList)).flatten:=by
 let c:∀ys,(Str.join {#[]} ys).cps.toList=(ys.map (·.cps.toList)).flatten:=by
  intro ys
  induction ys with
  |nil=>rfl|cons y r a=>cases r with|nil=>simp[Str.join]|cons z r=>let e:Str.join {#[]} (y::z::r)=y++{#[]}++Str.join {#[]} _:=rfl;change((y.cps++#[])++(Str.join {#[]} _).cps).toList=_;simp_all
 intro ys;let e:=beq_iff_eq.mp (join_plain_closes {#[]} ys);simp_all
noncomputable def YY{ys:At}(h:StrsAre us ys):AW (ys.map V.str) us:=by induction h with
 |nil=>show .nil|cons y t r a=>show .cons #[t,0] a
def Jo(_:True):BQ X (.builtin "sorted") (λxs H Q=>∃(p:Addr)(ss:At),xs=[.ref p]/\H p\(.lst (ss.map V.str))/\ss.length<64/\∀(l)(a:At),H l=none->a.Perm ss->sortedS a=true->Q (.ref l) (AB H l (.lst (a.map V.str)))):=by rintro qA s U H xs us Q I r⟨p,ss,rfl,d,j,q⟩;let[u,0,c]:=r.one;cases c;let[qG,r,pl,n]:=I.list (.of d);let i:=Mj r;let f:=r.length;rw[aA]at f;show sorted_strs pl.isList i (by simp_all) λout a h1 h2 m=>?_;let[e,g]:=sortedAll_at s.heap qG out;show{.ref _,_,I.laid (λb o q=>sortedAll_old q) (cS _) ?_,0,q _ a (I.hok.fresh (cS _)) h2 m};show{?_,out.toList,e,YY h1,g};rw[aA,h2.length_eq];simp_all
theorem Qt(z):∀xs:At,Jb (.str z) (xs.map V.str)=decide (z∈xs)
 |[]=>rfl|x::r=>by
  let a:=Qt z r;unfold Jb at a⊢;rw[map_cons,any_cons,a];by_cases e:x=z
  .subst e;simp[D8]
  .let c:¬z=x:=λh=>e h.symm;simp[D8,e,c]
theorem Qu:∀xs:At,(xs.map V.str).all Ea=true|[]=>rfl|x::r=>by rw[map_cons,all_cons,Qu r];rfl
def YZ:Az X (compareOp .In) (λx y H Q=>∃(z:Str)(p:Addr)(xs:At),x=.str z/\y=.ref p/\(H p\(.lst (xs.map V.str))\/H p\(.tup (xs.map V.str)))/\Q (.bl (decide (z∈xs))) H):=by rintro qA s U H x y v u Q I c a⟨z,p,xs,rfl,rfl,d,q⟩;show Xj qA s U H _ _ v u Q I c a {p,xs.map V.str,0,d.elim (λz=>.inl (.of z)) (λz=>.inr (.of z)),0,Qu xs,?_};rw[Qt];show q
open PySem.Builtin PySem.Builtin.Str in
def Mn(h:0<x.length):(Txt.slice x none (some (-1))).cps.toList=x.cps.toList.take (x.length-1):=by
 let e:Txt.slice x none (some (-1))=Txt.slice x none (some (((x.length-1:Nat)):Int)):=by
  unfold Txt.slice;let a:strSliceIndices none (some (-1)) 1 x.length=strSliceIndices none (some (((x.length-1:Nat)):Int)) 1 x.length:=by
   unfold strSliceIndices;let d:(-1:Int)<0:=by decide
   let c:¬(((x.length-1:Nat)):Int)<0:=(by simp);simp only[d,c,dD,if_false,show(1:Int)>0 by decide]
   congr 1
   lia
  rw[a]
 rw[e];show YW (by simp)
def BS.weak{st}{u m}(h:BS X st u)(hw:∀D U H,m D U H->u D U H):BS X st m:=λqA s U H D I q=>h qA s U H D I (hw D U H q)
end L2
namespace HT
def dC{t c}{items:Do}{i g}{lo hi}(a:IsTup s.heap t items)(j:s.heap.IsSliceOf c i g .none)(pl:IsPart i lo)(l:IsPart g hi)(hw:dA items.size 0 lo=0/\dA items.size items.size hi=items.size)(h:Q (.ref t) s):'C' (getItem (.ref t) (.ref c)) Q E s:=by
 let[os,d,e,m]:=id j;let f:s.TypeIs (.ref c) "slice":=#[os,d,e];unfold getItem
 try with_reducible show bM ?_
 show wB (wpAny_sequenceKey a.typeIs '3' ?_);show wB (wpAny_callSpecial?_slot a.typeIs PyProof.Rows.slot_tuple_getitem
  (cQ PyProof.Rows.slot_tuple_getitem a.typeIs entry_tuple_getitem ?_ (args_tuple_getitem _ _)))
 change 'A' (Builtin.Tuple.tupleItemsOf _>>=_) _ _ s;show wB (tupleItemsOf_ a (wB (wpAny_typeOf f ?_)));show wB (P7 j pl l ?_);change 'A' (if(((dA items.size 0 lo):Int)==0&&1==1&&(dA items.size items.size hi-dA items.size 0 lo)==items.size)=true then _ else _) _ _ s;rw[aC (by rw[hw.1,hw.2];simp)];show wB (wB (wpAny_typeOf a.typeIs (wP ?_)));first
  |show wB _|show wB _|show wB (wB (wpAny_rule (wP (wP {_,0,wP h}))))
def Mo{items:Do}{x}(a:s.heap.IsTupleIter it t i)(h:s.heap.IsTuple t items)(g:items[i]?\x)(l:∀h',h'.IsTupleIter it t (i+1)->Heap.SameBut it s.heap h'->Q x {s with heap:=h'}):'C' (Builtin.SmallTypes.nextOf (.ref it)) Q E s:=by let[o,d,j,c]:=id a;let[m,e,_,n,f]:=h;show wB (wpAny_callSpecial?_slot a.typeIs F.slot_tuple_iterator_next (cQ F.slot_tuple_iterator_next a.typeIs F.entry_tuple_iterator_next ?_ (F.args_tuple_iterator_next_1 _)));change 'A' (field _ 0>>=_) _ _ s;show wB (wpAny_field d c rfl ?_);change 'A' _ _ _ s;show wB (wpAny_field d c rfl ?_);show wB (wpAny_seqItems e f ?_);simp only[Int.toNat_natCast,g];show wB (wpAny_setField d c '2' (wP {x,0,wP (l _ ?_ (Heap.SameBut.update ..))}));show{_,Heap.get?_update_self _ d (Obj.isFreed_of_fields (Obj.data_mapFields c _)),(Obj.cls_mapFields ..).trans j,by rw[Obj.data_mapFields c];simp[rawInt]}
def Qv{items:Do}(j:A.handled=none)(c:s.heap.IsTupleIter it t i)(n:s.heap.IsTuple t items)(l:items[i]?=none)(p:∀h' e,Heap.ExtBut it s.heap h'->(∃o,h'.get? e\o/\o.cls=.type "StopIteration")->E (.ref e) {s with heap:=h'}):'C' (Builtin.SmallTypes.nextOf (.ref it)) Q E s:=by
 let[o,f,u,h]:=id c;let[q,d,_,r,g]:=n;show wB (wpAny_callSpecial?_slot c.typeIs F.slot_tuple_iterator_next (cQ F.slot_tuple_iterator_next c.typeIs F.entry_tuple_iterator_next ?_ (F.args_tuple_iterator_next_1 _)));change 'A' (field _ 0>>=_) _ _ s;show wB (wpAny_field f h rfl ?_);change 'A' _ _ _ s;show wB (wpAny_field f h rfl ?_);show wB (wpAny_seqItems d g ?_);simp only[Int.toNat_natCast,l];show wB (wpAny_rule (wB (wpAny_setField f h '2' ?_)));show wB ?_;show wB (cG ?_ (by size_fits));show wB (wpAny_of_eq (by first|rfl|(rfl)) ?_);show cG ?_ (by size_fits);show wB (wpAny_handled ?_)
 first|rw[j]|rw[j]
 show wB (wP (wpAny_throw ?_));show p _ _ (((Heap.SameBut.update ..).extBut.push _).push _) {_,bP _ rfl,0}
def dP{xs ys:Do}{x y a b}{Q:C2->Shared->Prop}(D:ZipApart z TI TO i1 ρ l1 l2)(hz:IsZip s.heap z TI TO .none)(ac:IsPair s.heap TI (.ref i1) (.ref ρ))(ab:IsPair s.heap TO a b)(h1:s.heap.IsTupleIter i1 l1 k)(h2:s.heap.IsTupleIter ρ l2 k)(aa:s.heap.IsTuple l1 xs)(a9:s.heap.IsTuple l2 ys)(hx:xs[k]?\x)(hy:ys[k]?\y)(hQ:∀h',IsZip h' z TI TO (rawInt 'H')->IsPair h' TO x y->h'.IsTupleIter i1 l1 (k+1)->h'.IsTupleIter ρ l2 (k+1)->IsPair h' 'H' x y->h'.objs.size='H'+1->(∀c o,c≠z->c≠TO->c≠i1->c≠ρ->'F' c\o->h'.get? c\o)->Q (some (.ref 'H')) {s with heap:=h'}):'C' (pyNext (.ref z)) Q E s:=by
 let hT:s.TypeIs (.ref z) "zip":=#[_,hz,0];unfold pyNext;show wB (wpAny_attempt (wpAny_callSpecial?_slot hT F.slot_zip_next (cQ F.slot_zip_next hT F.entry_zip_next ?_ (F.args_zip_next_1 _))));change 'A' (field (.ref z) 2>>=_) _ _ _;show wB (wpAny_field hz rfl rfl ?_);change 'A' (field (.ref z) 3>>=_) _ _ _;show wB (wpAny_field hz rfl rfl (wB (wpAny_seqItems ac rfl ?_)));change 'A' (Builtin.SmallTypes.ownedTupleIsFree (.ref z)>>=_) _ _ _;show wB ?_;unfold Builtin.SmallTypes.ownedTupleIsFree;show wB (wpAny_field hz rfl rfl (wP ?_));simp only[dD];show wB (wpAny_rule (wB (wpAny_field hz rfl rfl ?_)));show wB (wpAny_setField_rec hz '2' λh₁ I f=>?_)
 replace I:=I
 show wB ?_;simp only[zipIdx_cons,zipIdx_nil,forIn_cons,forIn_nil];let B:∀{h h'}{t j}{qG},h.IsTuple t qG->Heap.SameBut j h h'->t≠j->h'.IsTuple t qG:=λ{h h' t j qG}⟨o,e,r⟩sb ne=>{o,sb.extBut _ _ ne e,r};let m:∀{h h'}{i t j}{n:Nat},h.IsTupleIter i t n->Heap.SameBut j h h'->i≠j->h'.IsTupleIter i t n:=λ{h h' i t j n}⟨o,e,r⟩sb ne=>{o,sb.extBut _ _ ne e,r};show wB (wB (wpAny_onRaise ?_));change 'A' (Builtin.SmallTypes.nextOf (.ref i1)>>=_) _ _ _;show wB (Mo (m h1 f D.i1z) (B aa f D.l1z) hx λh₂ a6 l=>wP ?_);let N:=l.extBut _ _ D.TOi1 (f.extBut _ _ D.TOz ab);show wB (wpAny_seqItems N rfl (wB (wpAny_updateSeq_pair N λh₃ G g=>?_)))
 replace G:=G
 show wB (wpAny_letGo (wP ?_));show wB (wB (wpAny_onRaise ?_));change 'A' (Builtin.SmallTypes.nextOf (.ref ρ)>>=_) _ _ _;show wB (Mo (m (m (m h2 f D.i2z) l D.i12.symm) g D.TOi2.symm) (B (B (B a9 f D.l2z) l D.l2i1) g D.l2TO) hy λh₄ a4 u=>wP ?_);let M:=u.extBut _ _ D.TOi2 G;show wB (wpAny_seqItems M rfl (wB (wpAny_updateSeq_pair M λd p q=>?_)))
 replace p:IsPair d TO x y:=p
 show wB (wpAny_letGo (wP (wP ?_)));show wB (wpAny_seqItems p rfl (wB (wpAny_newTuple ?_)));let a8:d.objs.size='H':=by rw[q.1,u.1,g.1,l.1,f.1]
 let O:=q.extBut _ _ D.TOz.symm (u.extBut _ _ D.i2z.symm (g.extBut _ _ D.TOz.symm (l.extBut _ _ D.i1z.symm I)));let a2:∀c o,c≠z->c≠TO->c≠i1->c≠ρ->'F' c\o->d.get? c\o:=λc o c1 c2 c3 c4 e=>q.extBut _ _ c2 (u.extBut _ _ c4 (g.extBut _ _ c2 (l.extBut _ _ c3 (f.extBut _ _ c1 e))));let a5:=m (m (m a6 g D.TOi1.symm) u D.i12) q D.TOi1.symm;let a3:=m a4 q D.TOi2.symm;let a0:=bN O;change 'A' (Builtin.SmallTypes.ownedTupleHandOut (.ref z) (.ref d.objs.size)>>=_) _ _ _;show wB ?_;unfold Builtin.SmallTypes.ownedTupleHandOut;let a1:IsZip (d.push {cls:=.type "tuple",data:=.seq [x,y].toArray}) z TI TO .ellipsis:=aS _ O;show wB (wpAny_setField_rec a1 '2' λh₇ H L=>?_)
 replace H:=H
 show wpAny_setField_rec H '2' λv C J=>?_
 replace C:=C
 let up:∀c o,c≠z->d.get? c\o->v.get? c\o:=λc o c1 e=>J.extBut _ _ c1 (L.extBut _ _ c1 (aS _ e));let T:=J.extBut _ _ (Nat.ne_of_gt a0) (L.extBut _ _ (Nat.ne_of_gt a0) (bP _ rfl));let a7:v.objs.size=d.objs.size+1:=by rw[J.1,L.1,Heap.size_push]
 rw[a8]at C T a7;let σ:∀{i t:Addr}{n:Nat},d.IsTupleIter i t n->i≠z->v.IsTupleIter i t n:=λ{i t n}⟨o,e,r⟩ne=>{o,up _ _ ne e,r};show wP {_,0,wP ?_};change Q (some (.ref d.objs.size)) _;rw[a8];show hQ v C (up _ _ D.TOz p) (σ a5 D.i1z) (σ a3 D.i2z) T a7 λc o c1 c2 c3 c4 e=>up c o c1 (a2 c o c1 c2 c3 c4 e)
def dR{xs ys:Do}{a b}{Q:C2->Shared->Prop}(hh:A.handled=none)(D:ZipApart z TI TO M L l1 l2)(hz:IsZip s.heap z TI TO .none)(a5:IsPair s.heap TI (.ref M) (.ref L))(a4:IsPair s.heap TO a b)(h1:s.heap.IsTupleIter M l1 k)(h2:s.heap.IsTupleIter L l2 k)(ρ:s.heap.IsTuple l1 xs)(a3:s.heap.IsTuple l2 ys)(a0:xs[k]?=none\/ys[k]?=none)(hQ:∀h',(∀c o,c≠z->c≠TO->c≠M->c≠L->'F' c\o->h'.get? c\o)->Q none {s with heap:=h'}):'C' (pyNext (.ref z)) Q E s:=by
 let hT:s.TypeIs (.ref z) "zip":=#[_,hz,0];let a1:∀h' e,(∀c o,c≠z->c≠TO->c≠M->c≠L->'F' c\o->h'.get? c\o)->(∃o,h'.get? e\o/\o.cls=.type "StopIteration")->'C' (isInstance (.ref e) (.type "StopIteration")>>=λr=>if r=true then pure none else throw (.ref e)) Q E {s with heap:=h'}:=λh' e hk⟨o,ho,hc⟩=>wB (wpAny_isInstance #[o,ho,hc] isSubtype_stop (wP (hQ _ hk)))
 show wB (wpAny_attempt (wpAny_callSpecial?_slot hT F.slot_zip_next (cQ F.slot_zip_next hT F.entry_zip_next ?_ (F.args_zip_next_1 _))));change 'A' (field (.ref z) 2>>=_) _ _ _;show wB (wpAny_field hz rfl rfl ?_);show wB (wpAny_field hz rfl rfl (wB (wpAny_seqItems a5 rfl ?_)));show wB ?_;show wB (wpAny_field hz rfl rfl (wP ?_));show wB (wpAny_rule (wB (wpAny_field hz rfl rfl ?_)));show wB (wpAny_setField_rec hz '2' λσ m d=>?_)
 replace m:=m
 show wB ?_;let l:∀{h h'}{t j}{qG},h.IsTuple t qG->Heap.SameBut j h h'->t≠j->h'.IsTuple t qG:=λ{h h' t j qG}⟨o,e,r⟩sb ne=>{o,sb.extBut _ _ ne e,r};let p:∀{h h'}{i t j}{n},h.IsTupleIter i t n->Heap.SameBut j h h'->i≠j->h'.IsTupleIter i t n:=λ{h h' i t j n}⟨o,e,r⟩sb ne=>{o,sb.extBut _ _ ne e,r};show wB (wB (wpAny_onRaise ?_));change 'A' (Builtin.SmallTypes.nextOf (.ref M)>>=_) _ _ _;cases hx:xs[k]? with
 |none=>
  show wB (Qv hh (p h1 d D.i1z) (l ρ d D.l1z) hx λv e f zz=>?_);let[oe,q,H]:=zz;let B:=f _ _ D.i1z.symm m;let J:e≠z:=λx=>by subst x;rw[B]at q;cases q;simp at H
  show wpAny_setField_rec B '2' λI _ g=>a1 I e (λc o c1 _ c3 _ x=>g.extBut _ _ c1 (f _ _ c3 (d.extBut _ _ c1 x))) {oe,g.extBut _ _ J q,H}|some x=>
  let hy:ys[k]?=none:=by let h||h:=a0;rw[hx]at h;cases h;show h
  show wB (Mo (p h1 d D.i1z) (l ρ d D.l1z) hx λv a6 f=>wP ?_);let u:=f.extBut _ _ D.TOi1 (d.extBut _ _ D.TOz a4);show wB (wpAny_seqItems u rfl (wB (wpAny_updateSeq_pair u λI a2 g=>?_)));show wB (wpAny_letGo (wP ?_));show wB (wB (wpAny_onRaise ?_));change 'A' (Builtin.SmallTypes.nextOf (.ref L)>>=_) _ _ _;show wB (Qv hh (p (p (p h2 d D.i2z) f D.i12.symm) g D.TOi2.symm) (l (l (l a3 d D.l2z) f D.l2i1) g D.l2TO) hy λO e G zz=>?_);let[oe,q,H]:=zz;let y:=G _ _ D.i2z.symm (g.extBut _ _ D.TOz.symm (f.extBut _ _ D.i1z.symm m));let J:e≠z:=λx=>by subst x;rw[y]at q;cases q;simp at H
  show wpAny_setField_rec y '2' λN _ C=>a1 N e (λc o c1 c2 c3 c4 x=>C.extBut _ _ c1 (G _ _ c4 (g.extBut _ _ c2 (f.extBut _ _ c3 (d.extBut _ _ c1 x))))) {oe,C.extBut _ _ J q,H}
noncomputable abbrev Jp(h:Heap)(l1:Addr):Heap:=h.push {cls:=.type "tuple_iterator",data:=.fields [.ref l1,.int 0 0].toArray}
noncomputable abbrev Jq(h:Heap)(l1 l2:Addr):Heap:=(Jp h l1).push {cls:=.type "tuple_iterator",data:=.fields [.ref l2,.int 0 0].toArray}
noncomputable abbrev Jr(h:Heap)(l1 l2:Addr):Heap:=(Jq h l1 l2).push {cls:=.type "tuple",data:=.seq [.ref h.objs.size,.ref (Jp h l1).objs.size].toArray}
noncomputable abbrev Js(h:Heap)(l1 l2:Addr):Heap:=(Jr h l1 l2).push {cls:=.type "tuple",data:=.seq [.none,.none].toArray}
noncomputable abbrev GP(h:Heap)(l1 l2:Addr):Heap:=(Js h l1 l2).push {cls:=.type "zip",data:=.fields [.none,.bool false,.bool false,.ref (Jq h l1 l2).objs.size,.ref (Jr h l1 l2).objs.size].toArray}
def Ya(l1 l2)(xs ys:Do):Meets (Builtin.«zip.__new__» {[.type "zip",.ref l1,.ref l2],[]}) (λ_ R s=>s.heap.IsTuple l1 xs/\s.heap.IsTuple l2 ys/\R (.ok (.ret (.ref (Js s.heap l1 l2).objs.size))) {s with heap:=GP s.heap l1 l2}):=.of_wp λprog w A R s h=>by
  let[l,g,d,tk,os]:=s;let[c,a,h]:=h;let j:=sub_zip;let i:=c;let f:Heap.IsTuple (Shared.heap {l.push {cls:=.type "tuple_iterator",data:=.fields [.ref l1,.int 0 0].toArray},g,d,tk,os}) l2 ys:=by let[o,e,r]:=a;show{o,aS _ e,r}
  wp_walk using wpAny_pyIter_tuple i,wpAny_pyIter_tuple f
  show#[_,0,h]
def dQ{xs ys:Do}(i:s.heap.IsTuple l1 xs)(g:s.heap.IsTuple l2 ys)(h:∀h',IsZip h' ('H'+4) ('H'+2) ('H'+3) .none->IsPair h' ('H'+2) (.ref 'H') (.ref ('H'+1))->IsPair h' ('H'+3) .none .none->h'.IsTupleIter 'H' l1 0->h'.IsTupleIter ('H'+1) l2 0->(∀c o,'F' c\o->h'.get? c\o)->Q (.ref ('H'+4)) {s with heap:=h'}):'C' (call (.type "zip") [.ref l1,.ref l2]) Q E s:=by
 show callType_new F.called_zip '3' (F.typeCall_zip_2 _ _) (F.newCall_zip_2 _ _) (λf=>F.args_object_init_3 f _ _) F.entry_zip_new (Ya l1 l2 xs ys) #[i,g,?_];let e:(Jp s.heap l1).objs.size='H'+1:=Heap.size_push ..;let d:(Jq s.heap l1 l2).objs.size='H'+2:=by rw[Heap.size_push,e]
 let a:(Jr s.heap l1 l2).objs.size='H'+3:=by rw[Heap.size_push,d]
 let l:(Js s.heap l1 l2).objs.size='H'+4:=by rw[Heap.size_push,a]
 let j:(GP s.heap l1 l2).get? (Js s.heap l1 l2).objs.size\_:=bP _ rfl;let m:(GP s.heap l1 l2).get? (Jr s.heap l1 l2).objs.size\_:=aS _ (bP _ rfl);let n:(GP s.heap l1 l2).get? (Jq s.heap l1 l2).objs.size\_:=aS _ (aS _ (bP _ rfl));let p:(GP s.heap l1 l2).get? (Jp s.heap l1).objs.size\_:=aS _ (aS _ (aS _ (bP _ rfl)));let q:(GP s.heap l1 l2).get? 'H'\_:=aS _ (aS _ (aS _ (aS _ (bP _ rfl))));rw[d,a,l]at j;rw[e,d]at n;rw[a]at m;rw[e]at p;rw[l];show#[#[_,j,0],h _ j n m #[_,q,0,0] #[_,p,0,0] λc o x=>aS _ (aS _ (aS _ (aS _ (aS _ x))))]
end HT
namespace L2
def Inv.turnedL{ch:Ge}(I:'D')(k:∀b o,b∉ch->'F' b\o->h'.get? b\o)(hf:∀b∈ch,Ce X qA H b):Inv X qA U H {s with heap:=h',toks:=t'}:=by
 let d:∀b u,H b\u->b∉ch:=λb u e z=>by rw[(hf b z).1]at e;cases e
 show I.step (λb hb=>{(hf b hb).2.2.2.1,(hf b hb).2.1,(hf b hb).2.2.2.2.1,(hf b hb).2.2.2.2.2}) (λb o _ _ a e _=>k b o a e) (λb o _ _ a e _=>{o.slots,k b o a e}) (λ_ _ _ _ n=>n)
  (λb o a e=>{o,k b o a e}) (λ_ _ e=>e) (λ_ _ _ e=>e) (λb ps e=>{#[],by rw[e];simp}) (λm hm=>?_) (λb u e=>?_) I.bare
 .let[o,es,ep,f,r]:=hm;show{o,es,ep,k _ o (λz=>(hf _ z).2.1 rfl) f,r}
 .show(I.hok b u e).stay (λc v a q=>k c v ?_ q) (λ_ q=>q) λ_ _ q=>q;let z||z:=a
  .rw[z];show d b u e
  .show d c _ z
def Hg(K:Fg)(l1 l2:Addr):It:=({λi H=>∃xs ys,BP K H l1 xs/\BP K H l2 ys/\i<xs.length/\i<ys.length,λi H v H'=>∃T x y,H T=none/\v=.ref T/\H'=AB H T (.tup [x,y])/\∀xs ys,BP K H l1 xs->BP K H l2 ys->xs[i]?=some x/\ys[i]?=some y,λi H=>∃xs ys,BP K H l1 xs/\BP K H l2 ys/\(xs.length<=i\/ys.length<=i)})
theorem Yb{K}{z TI TO n m}(D:ZipApart z TI TO n m l1 l2):Turn P w K (.Tuple elts x1 pos) (Hg K l1 l2) [z,TI,TO,n,m] z (λi h=>IsZip h z TI TO .none/\IsPair h TI (.ref n) (.ref m)/\(∃a b,IsPair h TO a b)/\h.IsTupleIter n l1 i/\h.IsTupleIter m l2 i)where
 mem:='2'
 obj:=λi h st b d=>by
  let[r,j,[a,c,l],[M,C,_,d1],[L,B,_,d2]]:=st;simp only[aF,bB,or_false]at d;rcases d with rfl|rfl|rfl|rfl|rfl
  .show{_,r,λv q=>nomatch q}
  .show{_,j,λv q=>nomatch q}
  .show{_,l,λv q=>nomatch q}
  .show{_,C,λv q=>by rw[d1]at q;cases q}
  .show{_,B,λv q=>by rw[d2]at q;cases q}
 keep:=λi h h' st k=>by done<;>let[r,j,[a,c,l],[M,C,r1],[L,B,r2]]:=st;show#[k z '2' _ r,k TI '2' _ j,{a,c,k TO '2' _ l},{M,k n '2' _ C,r1},{L,k m '2' _ B,r2}]
 item:=by
  intro X hP hw hK hc i qA s U H E I hf st hg;subst hP hw hK;done<;>(let[r,j,[a,c,l],h1,h2]:=st;let[xs,ys,q1,ρ,g1,g2]:=hg;let[qG,rv,p,a7]:=I.tuple q1;let[N,A,p2,O]:=I.tuple ρ);let hx:xs[i]?\xs[i]:=by simp[g1]
  let hy:ys[i]?\ys[i]:=by simp[g2]
  done<;>(let[u,hu,ru]:=rv.get hx;let[G,a8,a0]:=A.get hy);show HT.dP D r j l h1 h2 p p2 (~~~hu) (~~~a8) λh' a1 a2 a3 a4 a5 a6 hk=>{_,0,wpAny_letOwnedTupleGo_zip a1 λσ Q f=>?_};let a9:=I.fresh;let J:Inv X qA U (AB H 'H' (.tup [xs[i],ys[i]])) {s with heap:=s.heap.push {cls:=.type "tuple",data:=.seq [u,G].toArray}}:=I.laid (λb o q=>aS _ q) (aQ _) {by change 2<=sizeLine;decide,[u,G],.cons ru (.cons a0 .nil),DT.new _ _}
  let T:∀b∈[z,TI,TO,n,m],b≠'H':=λb d e=>by
   let o:∃o,'F' b\o:=by
    simp only[aF,bB,or_false]at d;let[M,C,_]:=h1;let[L,B,_]:=h2;rcases d with rfl|rfl|rfl|rfl|rfl
    .show#[_,r]
    .show#[_,j]
    .show#[_,l]
    .show#[_,C]
    .show#[_,B]
   let[o,q]:=o;show bS (bN q) (by rw[e];show aX _)
  let hn:∀b∈[z,TI,TO,n,m],AB H 'H' (.tup [xs[i],ys[i]]) b=none:=λb d=>by rw[AE (T b d)];show(hf b d).1
  let nz:=(T z '2').symm;let J2:Inv X qA U (AB H 'H' (.tup [xs[i],ys[i]])) {s with heap:=σ}:=by
   show Inv.turnedL (s:={s with heap:=s.heap.push {cls:=.type "tuple",data:=.seq [u,G].toArray}}) (ch:=[z,TO,n,m]) J (λb o d q=>?_) (λb d=>{hn b ?_,(hf b ?_).2})
   .simp only[aF,bB,or_false,not_or]at d;by_cases e:b='H'
    .subst e;let q':=q;rw[bP _ rfl]at q';cases q';show f.extBut _ _ nz a5
    .let q0:'F' b\o:=by rw[<-Heap.get?_push_ne _ _ _ e];show q
     show f.extBut _ _ d.1 (hk b o d.1 d.2.1 d.2.2.1 d.2.2.2 q0)
   .simp only[aF,bB,or_false]at d⊢;rcases d with h|h|h|h<;>simp[h]
   .simp only[aF,bB,or_false]at d⊢;rcases d with h|h|h|h<;>simp[h]
  show{.ref 'H',_,J2,0,{_,_,_,a9,0,0,λab aa z1 z2=>?_},?_,hn}
  .rw[I.tuple_inj z1 q1,I.tuple_inj z2 ρ];show#[hx,hy]
  .done<;>(let[M,C,r1]:=a3;let[L,B,r2]:=a4);show#[Q,f.extBut _ _ D.TIz (hk _ _ D.TIz D.TITO D.TIi1 D.TIi2 j),{_,_,f.extBut _ _ D.TOz a2},{M,f.extBut _ _ D.i1z C,r1},{L,f.extBut _ _ D.i2z B,r2}]
 done:=by
  intro X hP hw hK hc i qA s U H E I hf st hg;subst hP hw hK;done<;>(let[r,j,[a,c,l],h1,h2]:=st;let[xs,ys,q1,ρ,g]:=hg;let[qG,rv,p,a7]:=I.tuple q1;let[N,A,p2,O]:=I.tuple ρ);let l1:=rv.length;let l2:=A.length;show HT.dR (I.ok.hd hc) D r j l h1 h2 p p2 '4' λh' hk=>{0,I.turnedL (ch:=[z,TO,n,m]) (λb o d q=>?_) λb d=>hf b ?_}
  .simp only[aF,bB,or_false,not_or]at d;show hk b o d.1 d.2.1 d.2.2.1 d.2.2.2 q
  .simp only[aF,bB,or_false]at d⊢;rcases d with h|h|h|h<;>simp[h]
 self:=λ_ _ _ _ _ st h=>wpAny_pyIter_zip st.1 h
def Qw(K:Fg)(ta:TA):TI:=(λU H R=>ta U H λvs H1=>∃l1 l2 xs ys,vs=[.ref l1,.ref l2]/\BP K H1 l1 xs/\BP K H1 l2 ys/\R (Hg K l1 l2) H1)
def Qx:bootBuiltins "zip"\(.type "zip"):=by decide+kernel
def Yc{a b}{ta}{p}{x1}{tp}(J:Gl X "zip")(E:X.mg "zip"=none)(L:PA X [a,b] ta)(D:starEach [a,b] X.env=[(false,eval a X.env),(false,eval b X.env)]:=by rfl)(d:starEach [b] X.env=[(false,eval b X.env)]:=by rfl):PI X (.Tuple elts x1 tp) (.Call (.Name "zip" p) [a,b] [] pos) (Qw X.K ta):=by
 intro qA s U H R I h;show Call_ (E3 I J E Qx (PyProof.Rows.callWith_type1 (AQ (L pos qA s U H _ I h) λus c zz=>?_) (by rw[D,d]) (by rw[d];rfl)));done<;>(let[vs,H1,g,n,A]:=zz;let[l1,l2,xs,ys,0,z,y,q]:=A;let[u,v,0,x,rv]:=n.two);cases(x);cases(rv);done<;>(let[qG,n,p1,_]:=g.tuple z;let[o,N,p2,_]:=g.tuple y);show HT.dQ p1 p2 λh' r m l C B G=>?_;let M:Inv X qA U H1 {c with heap:=h'}:=g.kept G;let j:l1<c.heap.objs.size:=by let[_,e,_]:=p1;show bN e
 let i:l2<c.heap.objs.size:=by let[_,e,_]:=p2;show bN e
 show wpAny_pyIter_zip r {_,[c.heap.objs.size+4,c.heap.objs.size+2,c.heap.objs.size+3,c.heap.objs.size,c.heap.objs.size+1],_,_,H1,0,M,Yb (zipApart_new j i),{r,m,#[_,_,l],C,B},λb w=>?_,q};let f:c.heap.objs.size<=b:=by simp only[aF,bB,or_false]at w;rcases w with h|h|h|h|h<;>rw[h]<;>first|show Nat.le_add_right _ _|show aQ _
 show g.fpOk f (g.hok.fresh f)
def Mp:V->Option Int->Option Int->Hp->VK->Prop:=(λx lo hi H Q=>∃a xs,x=.ref a/\H a\(.tup xs)/\((HT.dA xs.length 0 lo=0/\HT.dA xs.length xs.length hi=xs.length)->Q (.ref a) H)/\(¬(HT.dA xs.length 0 lo=0/\HT.dA xs.length xs.length hi=xs.length)->∀p,H p=none->Q (.ref p) (AB H p (.tup (DW xs lo hi)))))
def Jt:DV X Mp:=by
 rintro qA s U H x v m l lo hi n Q I e j pl f⟨a,xs,rfl,g,h1,h2⟩;by_cases d:HT.dA xs.length 0 lo=0/\HT.dA xs.length xs.length hi=xs.length
 .cases e;let[qG,r,i,o]:=I.tuple (.of g);let c:qG.toArray.size=xs.length:=by show r.length.symm
  show#["tuple",_,PyProof.Rows.slot_tuple_getitem.lookup,i.typeIs,HT.dC i j pl f (by rw[c];show d) {.ref a,H,I,0,h1 d}]
 .show XW qA s U H _ v m l lo hi n Q I e j pl f {a,xs,0,.of g,d,h2 d}
open PySem.W
noncomputable def ev(lt:Nat->Nat->Bool):KasT α->α|.ret a=>a|.ask i j k=>ev lt (k (lt i j))
def Ent(n:Nat)(p:Array Nat):Prop:=(0<n/\∀x∈p.toList,x<n)
theorem Hh:∀a,HT.lexLt a a=false|[]=>rfl|x::r=>by rw[HT.dB,aC rfl];show Hh r
theorem Hi:∀a b c,HT.lexLt a b=true->HT.lexLt b c=true->HT.lexLt a c=true
 |[],[],c,h,_=>by simp[HT.lexLt]at h|[],_::_,[],_,h=>by simp[HT.lexLt]at h|[],_::_,_::_,_,_=>rfl|_::_,[],_,h,_=>by simp[HT.lexLt]at h|_::_,_::_,[],_,h=>by simp[HT.lexLt]at h|x::xs,y::ys,z::zs,h1,h2=>by
  rw[HT.dB]at h1 h2⊢;by_cases e:x=y
  .subst e;rw[aC rfl]at h1;by_cases d:x=z
   .subst d;rw[aC rfl]at h2⊢;show Hi xs ys zs h1 h2
   .rw[aB d]at h2⊢;show h2
  .rw[aB e]at h1;let h1:=aL h1;by_cases d:y=z
   .subst d;rw[aB e];show aK h1
   .rw[aB d]at h2;let h2:=aL h2;rw[aB ⋯];show aK ⋯
theorem Fi:∀a b,HT.lexLt a b=false->HT.lexLt b a=false->a=b
 |[],[],_,_=>rfl|[],_::_,h,_=>by simp[HT.lexLt]at h|_::_,[],_,h=>by simp[HT.lexLt]at h|x::xs,y::ys,h1,h2=>by
  rw[HT.dB]at h1 h2;by_cases c:x=y
  .subst c;rw[aC rfl]at h1 h2;rw[Fi xs ys h1 h2]
  .rw[aB c]at h1;rw[aB (λz=>c z.symm)]at h2;lia
def Mq(a b c)(h:HT.lexLt a c=true):HT.lexLt a b=true\/HT.lexLt b c=true:=by
 cases h1:HT.lexLt a b
 .cases h2:HT.lexLt b c
  .cases d:HT.lexLt b a
   .rw[Fi a b h1 d,h2]at h;cases h
   .let:=Hi b a c d h;simp_all
  simp
 simp
def Fj:KeyOrd:=(#[By,HT.lexLt,Hh,Hi,Mq,Fi])
noncomputable def Yd{Q}{vs:B6}{ns ms:By}(i)(h1:IntsAre us ns)(h2:IntsAre vs ms)(d:ns.length=ms.length)(q:Q (HT.lexLt ns ms) s):KatLex prog w A true false Q (us.zip vs) i s:=by induction h1 generalizing vs ms i with
 |nil=>cases h2 with|nil=>show q|cons _ _ _=>cases d
 |cons a t h f=>cases h2 with|nil=>cases d|cons c u g=>
   show kat_cons (SeqAt.EqAt.int_int a t c u prog w _ _ ?_);rw[HT.dB]at q;by_cases e:a=c
   .rw[aC e]at q;rw[show(a==c)=true by simpa using e];show kat_yes (f _ g (Nat.succ.inj d) q)
   .rw[aB e]at q;rw[show(a==c)=false by simpa using e];show kat_no ?_;by_cases hi:i=0
    .subst hi;show kat_lt_int q
    .rw[show(true&&i==0)=false by simp[hi]];show kat_one _ _ (lt_int q)
end L2
namespace L2
noncomputable abbrev Ec(a:Addr)(i c z:Int):HO:=.lst [.ref a,.int i,.int c,.int z]
structure Bag(H:Hp)(b a:Addr):Prop where ob:∃(ns:By)(i c z:Int),H b\(Ec a i c z)/\H a\(.lst (ns.map V.int))/\0<=i/\a≠b
structure Step(b a:Addr)(H H':Hp):Prop where
 bag:Bag H' b a
 same:∀p o,p≠b->H p\o->H' p\o
section
variable{b:Addr}
def Step.refl(h:Bag H b a):Step b a H H:={h,λ_ _ _ e=>e}
def Step.trans(x:Step b a H H1)(y:Step b a H1 H2):Step b a H H2:={y.bag,λp o n e=>y.same p o n (x.same p o n e)}
def Bag.put(h:Bag H b a)(nb:p≠b)(na:p≠a):Bag (AB H p o) b a:=by let[ns,i,c,z,h1,h2,r]:=h;show{ns,i,c,z,by rw[AE nb.symm];show h1,by rw[AE na.symm];show h2,r}
def Bag.atb(h:Bag H b a):∃l,H b\(.lst l):=by let[ns,i,c,z,h1,_]:=h;show#[_,h1]
def Bag.ata(h:Bag H b a):∃l,H a\(.lst l):=by let[ns,i,c,z,h1,h2,_]:=h;show#[_,h2]
def Bag.nb(h:Bag H b a)(n:H p=none):p≠b:=by let[l,h1]:=h.atb;show(Af h1 n).symm
def Bag.na(h:Bag H b a)(n:H p=none):p≠a:=by let[l,h1]:=h.ata;show(Af h1 n).symm
def Bag.new(h:Bag H b a)(n:H p=none):Bag (AB H p o) b a:=h.put (h.nb n) (h.na n)
def Step.new(h:Bag H b a)(n:H p=none):Step b a H (AB H p o):={h.new n,λq u _ e=>by rw[AE (Af e n)];show e}
def Bag.neT(h:Bag H b a)(e:H p\(.tup xs)):p≠b/\p≠a:=by let[ns,i,c,z,h1,h2,_]:=h;lia
def Step.free(s:Step b a H H1)(n:H1 p=none):H p=none:=by cases e:H p with|none=>rfl|some o=>rw[s.same p o (s.bag.nb n) e]at n;cases n
end
noncomputable abbrev BD(r:By):List AT:=r.map Sum.inl
noncomputable abbrev Aq(x:Str):AT:=Sum.inr x
inductive P where|non|bl(b:Bool)|int(i:Int)|str(x:Str)|bag|tup(xs:List P)|lst(xs:List P)|dT(ks:List By)(vs:List P)|dK(ks:At)(vs:List P)|fT(ks:List By)(vs:List P)
noncomputable abbrev dI:=List P
mutual
noncomputable def P.imm:P->Bool|.lst _=>false|.dT _ _=>false|.dK _ _=>false|.fT _ _=>false|.tup xs=>P.imms xs|.non=>true|.bl _=>true|.int _=>true|.str _=>true|.bag=>true
noncomputable def P.imms:dI->Bool|[]=>true|x::r=>x.imm&&P.imms r
end
noncomputable def P.mut:P->Bool|.lst _=>true|.dT _ _=>true|.dK _ _=>true|.fT _ _=>true|_=>false
def Ye{x:P}(h:x.mut=true):x.imm=false:=by cases x<;>simp_all[P.mut,P.imm]
noncomputable def P.items:P->Option dI|.lst xs=>some xs|.tup xs=>some xs|_=>none
def Fz(H:Hp)(p:Addr)(qH:List (List AT×V)):Prop:=(∃o,H p\(.frz o (.dT qH)))
def Fz.map(h:Fz H p qH)(k:∀o,H p\o->H' p\o):Fz H' p qH:=by let[o,e]:=h;show{o,k _ e}
mutual
noncomputable def Rp(b:Addr)(Z:Addr->Prop)(H:Hp):P->V->Prop
 |.non,v=>v=.non|.bl k,v=>v=.bl k|.int i,v=>v=.int i|.str x,v=>v=.str x|.bag,v=>v=.ref b|.tup xs,v=>∃p vs,v=.ref p/\H p\(.tup vs)/\AC b Z H xs vs|.lst xs,v=>∃p vs,v=.ref p/\¬Z p/\H p\(.lst vs)/\AC b Z H xs vs|.dT ks xs,v=>∃p vs,v=.ref p/\¬Z p/\H p\(.dT ((ks.map BD).zip vs))/\ks.length=xs.length/\AC b Z H xs vs|.fT ks xs,v=>∃p vs,v=.ref p/\¬Z p/\Fz H p ((ks.map BD).zip vs)/\ks.length=xs.length/\AC b Z H xs vs|.dK ks xs,v=>∃p vs,v=.ref p/\¬Z p/\H p\(.dK ((ks.map Aq).zip vs))/\ks.length=xs.length/\AC b Z H xs vs
noncomputable def AC(b:Addr)(Z:Addr->Prop)(H:Hp):dI->dH->Prop|[],vs=>vs=[]|x::xs,vs=>∃v r,vs=v::r/\Rp b Z H x v/\AC b Z H xs r
end
noncomputable def Rc(b:Addr)(Z:Addr->Prop)(H:Hp):P->Addr->Prop
 |.lst xs,p=>∃vs,H p\(.lst vs)/\AC b Z H xs vs|.dT ks xs,p=>∃vs,H p\(.dT ((ks.map BD).zip vs))/\ks.length=xs.length/\AC b Z H xs vs|.fT ks xs,p=>∃vs,Fz H p ((ks.map BD).zip vs)/\ks.length=xs.length/\AC b Z H xs vs|.dK ks xs,p=>∃vs,H p\(.dK ((ks.map Aq).zip vs))/\ks.length=xs.length/\AC b Z H xs vs|_,_=>False
section
variable{b:Addr}{Z':Addr->Prop}
mutual
theorem Rp.keep(a:∀p o,¬Z p->H p\o->¬Z' p/\H' p\o)(e:∀p vs,H p\(.tup vs)->H' p\(.tup vs)):∀{x:P}{v:V},Rp b Z H x v->Rp b Z' H' x v
 |.non,_,h=>h|.bl _,_,h=>h|.int _,_,h=>h|.str _,_,h=>h|.bag,_,h=>h|.tup xs,v,h=>by let[p,vs,h1,h2,c]:=h;show{p,vs,h1,e p vs h2,AC.keep a e c}|.lst xs,v,h=>by let[p,vs,h1,h2,c,d]:=h;show{p,vs,h1,(a p _ h2 c).1,(a p _ h2 c).2,AC.keep a e d}|.dT ks xs,v,h=>by let[p,vs,h1,h2,c,f,d]:=h;show{p,vs,h1,(a p _ h2 c).1,(a p _ h2 c).2,f,AC.keep a e d}|.fT ks xs,v,h=>by let[p,vs,h1,h2,[o,c],f,d]:=h;show{p,vs,h1,(a p _ h2 c).1,{o,(a p _ h2 c).2},f,AC.keep a e d}|.dK ks xs,v,h=>by let[p,vs,h1,h2,c,f,d]:=h;show{p,vs,h1,(a p _ h2 c).1,(a p _ h2 c).2,f,AC.keep a e d}theorem AC.keep(c:∀p o,¬Z p->H p\o->¬Z' p/\H' p\o)(a:∀p vs,H p\(.tup vs)->H' p\(.tup vs)):∀{xs:dI}{vs:dH},AC b Z H xs vs->AC b Z' H' xs vs|[],_,h=>h|x::xs,vs,h=>by let[v,r,h1,h2,d]:=h;show{v,r,h1,Rp.keep c a h2,AC.keep c a d}end
mutual
theorem Rp.imm:∀{x:P}{v:V},x.imm=true->Rp b Z H x v->Rp b Z' H x v
 |.non,_,_,h=>h|.bl _,_,_,h=>h|.int _,_,_,h=>h|.str _,_,_,h=>h|.bag,_,_,h=>h|.tup xs,v,hi,h=>by let[p,vs,h1,h2,a]:=h;show{p,vs,h1,h2,AC.imm (by simpa[P.imm]using hi) a}|.lst _,_,hi,_=>by simp[P.imm]at hi|.dT _ _,_,hi,_=>by simp[P.imm]at hi|.fT _ _,_,hi,_=>by simp[P.imm]at hi|.dK _ _,_,hi,_=>by simp[P.imm]at hi
theorem AC.imm:∀{xs:dI}{vs:dH},P.imms xs=true->AC b Z H xs vs->AC b Z' H xs vs
 |[],_,_,h=>h|x::xs,vs,hi,h=>by let[v,r,h1,h2,a]:=h;rw[P.imms,cB]at hi;show{v,r,h1,Rp.imm hi.1 h2,AC.imm hi.2 a}end
theorem AC.length:∀{xs}{vs},AC b Z H xs vs->xs.length=vs.length|[],_,h=>by rw[h];rfl|x::xs,vs,h=>by let[v,r,h1,h2,a]:=h;rw[h1,length_cons,length_cons,AC.length a]
theorem AC.get:∀{xs}{vs}{i:Nat}{x},AC b Z H xs vs->xs[i]?\x->∃v,vs[i]?\v/\Rp b Z H x v|[],_,_,_,_,e=>by simp at e|y::xs,vs,0,x,h,e=>by let[v,r,h1,h2,a]:=h;simp_all|y::xs,vs,i+1,x,h,e=>by let[v,r,h1,h2,a]:=h;subst h1;let[u,d,c]:=AC.get a (~~~e);simp_all
def AC.getV:∀{xs}{vs}{i:Nat}{v},AC b Z H xs vs->vs[i]?\v->∃x,xs[i]?\x/\Rp b Z H x v:=λ{xs vs i v}h e=>by
 let a:=h.length;let hi:i<vs.length:=by
  let q||q:=cE i vs.length
  .show q
  simp_all
 let ex:xs[i]?\(xs[i]'(by simp only[*])):=by simp[a,hi]
 let[u,h1,h2]:=h.get ex;simp_all
theorem AC.app:∀{xs ys}{vs us},AC b Z H xs vs->AC b Z H ys us->AC b Z H (xs++ys) (vs++us)|[],_,_,_,h,g=>by rw[h];show g|x::xs,ys,vs,us,h,g=>by let[v,r,h1,h2,a]:=h;subst h1;show{v,r++us,0,h2,AC.app a g}
theorem AC.take:∀{xs}{vs}(n),AC b Z H xs vs->AC b Z H (xs.take n) (vs.take n)|_,_,0,_=>rfl|[],_,_+1,h=>by rw[h];rfl|x::xs,vs,n+1,h=>by let[v,r,h1,h2,a]:=h;subst h1;show{v,r.take n,0,h2,AC.take n a}
theorem AC.drop:∀{xs}{vs}(n),AC b Z H xs vs->AC b Z H (xs.drop n) (vs.drop n)|_,_,0,h=>h|[],_,_+1,h=>by rw[h];rfl|x::xs,vs,n+1,h=>by let[v,r,h1,h2,a]:=h;subst h1;show AC.drop n a
theorem AC.erase:∀{xs}{vs}(n),AC b Z H xs vs->AC b Z H (xs.eraseIdx n) (vs.eraseIdx n)
 |[],_,_,h=>by rw[h];rfl|y::xs,vs,0,h=>by let[u,r,h1,h2,a]:=h;simp_all|y::xs,vs,n+1,h=>by let[u,r,h1,h2,a]:=h;subst h1;show{u,r.eraseIdx n,0,h2,AC.erase n a}
def AC.snoc{x}(h:AC b Z H xs vs)(g:Rp b Z H x v):AC b Z H (xs++[x]) (vs++[v]):=h.app {v,[],0,g,0}
theorem AC.ints:∀{ns:By}{vs},AC b Z H (ns.map P.int) vs↔vs=ns.map V.int
 |[],vs=>Iff.rfl|n::ns,vs=>by
  constructor
  .rintro⟨v,r,h1,h2,a⟩;rw[h1,h2,AC.ints.mp a];rfl
  .intro h;show{.int n,ns.map V.int,h,0,AC.ints.mpr rfl}
theorem AC.strs:∀{ns:At}{vs},AC b Z H (ns.map P.str) vs↔vs=ns.map V.str
 |[],vs=>Iff.rfl|n::ns,vs=>by
  constructor
  .rintro⟨v,r,h1,h2,a⟩;rw[h1,h2,AC.strs.mp a];rfl
  .intro h;show{.str n,ns.map V.str,h,0,AC.strs.mpr rfl}
theorem AC.bls:∀{ns:List Bool}{vs},AC b Z H (ns.map P.bl) vs↔vs=ns.map V.bl
 |[],vs=>Iff.rfl|n::ns,vs=>by
  constructor
  .rintro⟨v,r,h1,h2,a⟩;rw[h1,h2,AC.bls.mp a];rfl
  .intro h;show{.bl n,ns.map V.bl,h,0,AC.bls.mpr rfl}
end
@[simp]theorem Yf(i):(P.int i).imm=true:=rfl
@[simp]theorem Yg(i):(P.str i).imm=true:=rfl
@[simp]theorem Yh(i):(P.bl i).imm=true:=rfl
@[simp]theorem Yi:P.non.imm=true:=rfl
@[simp]theorem Yj:P.bag.imm=true:=rfl
@[simp]theorem Yk(xs:dI):(P.lst xs).imm=false:=rfl
@[simp]theorem Yl(ks)(xs:dI):(P.dT ks xs).imm=false:=rfl
@[simp]theorem Ym(ks)(xs:dI):(P.dK ks xs).imm=false:=rfl
@[simp]theorem Qy(xs:dI):(P.tup xs).imm=P.imms xs:=by simp[P.imm]
@[simp]theorem Yn:P.imms []=true:=by simp[P.imms]
@[simp]theorem Mr(x)(xs:dI):P.imms (x::xs)=(x.imm&&P.imms xs):=by simp[P.imms]
def GQ:P.imms xs=true↔∀x∈xs,x.imm=true:=by induction xs with|nil=>simp|cons x r a=>simp[a]
def Fk{α:Type}{f}(h:∀a,(f a).imm=true)(xs:List α):P.imms (xs.map f)=true:=by rw[GQ];simp_all
@[simp]theorem Qz(ns:By):P.imms (ns.map P.int)=true:=Fk dF ns
@[simp]theorem Hj(ns:At):P.imms (ns.map P.str)=true:=Fk dF ns
@[simp]theorem Yo(ns:List Bool):P.imms (ns.map P.bl)=true:=Fk dF ns
@[simp]theorem Yp(xs:dI):(P.lst xs).mut=true:=rfl
@[simp]theorem Yq(ks)(xs:dI):(P.dT ks xs).mut=true:=rfl
@[simp]theorem Yr(ks)(xs:dI):(P.dK ks xs).mut=true:=rfl
@[simp]theorem Ys(xs:dI):(P.tup xs).mut=false:=rfl
@[simp]theorem Yt(xs:dI):(P.lst xs).items\xs:=rfl
@[simp]theorem Yu(xs:dI):(P.tup xs).items\xs:=rfl
inductive S where|emp|sh(x:P)|fr(x:P)|own(x:P)
noncomputable abbrev dJ:=List S
inductive Fl where|nw|fr|cl|bo|rf|an deriving DecidableEq
noncomputable def Fl.el:Fl->Fl|.nw=>.fr|.fr=>.fr|.bo=>.fr|.cl=>.cl|.rf=>.rf|.an=>.an
noncomputable def Fl.top:Fl->Fl|.nw=>.nw|.fr=>.nw|.bo=>.nw|.cl=>.cl|.rf=>.rf|.an=>.an
noncomputable def Fl.join:Fl->Fl->Fl|.nw,g=>g|f,.nw=>f|.cl,.cl=>.cl|.rf,.rf=>.rf|_,_=>.an
def Bj(f:Fl)(xs:dI):Fl:=(if P.imms xs=true then .nw else f.top)
structure Wd where
 b:Addr
 a:Addr
 H₀:Hp
 F:Hp
 O:Addr->Prop
end L2
variable{xs:List L2.P}{y:L2.P}{f:L2.Fl}{W:L2.Wd}{Y ρ':List L2.S}
namespace L2
def A8(Y:dJ)(U:St)(p:Addr):Prop:=(∃(i:Nat)(x:P),Y[i]?\(.own x)/\U[i]?\(some (.ref p)))
def Ow(W:Wd)(Y:dJ)(U:St)(p:Addr):Prop:=(W.O p\/A8 Y U p)
noncomputable def AJ(W:Wd)(Y:dJ)(U:St):Fl->Addr->Prop|.cl,p=>p=W.b\/Ow W Y U p|.rf,p=>p=W.b\/W.H₀ p≠none|.an,p=>p=W.b|_,p=>p=W.b\/Ow W Y U p\/W.H₀ p≠none
noncomputable abbrev Zf(W:Wd)(Y:dJ)(U:St):Addr->Prop:=AJ W Y U .fr
noncomputable abbrev Zc(W:Wd)(Y:dJ)(U:St):Addr->Prop:=AJ W Y U .cl
noncomputable def C6(W:Wd)(Y:dJ)(U:St)(H:Hp):S->Option V->Prop
 |.emp,_=>True|.sh x,o=>∃v,o\v/\Rp W.b (Zc W Y U) H x v|.fr x,o=>∃v,o\v/\Rp W.b (Zf W Y U) H x v|.own x,o=>∃p,o\(.ref p)/\W.H₀ p=none/\W.F p=none/\p≠W.b/\p≠W.a/\Rc W.b (Zf W Y U) H x p
structure Ok(W:Wd)(Y:dJ)(U:St)(H:Hp):Prop where
 bag:Bag H W.b W.a
 fb:W.F W.b=none
 old:∀p o,p≠W.b->W.H₀ p\o->H p\o
 frm:∀p o,W.F p\o->H p\o
 oo:∀p,W.O p->W.H₀ p=none/\W.F p=none/\p≠W.b/\p≠W.a/\∃o,H p\o/\∀ys,o≠.tup ys
 len:U.length=Y.length
 slot:∀(i:Nat)s,Y[i]?\s->∃o,U[i]?\o/\C6 W Y U H s o
 uniq:∀(i j:Nat)x y,Y[i]?\(S.own x)->Y[j]?\(S.own y)->U[i]?=U[j]?->i=j
noncomputable def RF(W:Wd)(Y:dJ)(U:St)(Hs:Hp):Fl->Hp->P->V->Prop
 |.bo,H,x,v=>∃p,v=.ref p/\A8 Y U p/\Rc W.b (Zf W Y U) H x p|.nw,H,x,v=>Rp W.b (Zf W Y U) H x v/\(x.mut=true->∃p,v=.ref p/\Hs p=none)|f,H,x,v=>Rp W.b (AJ W Y U f) H x v
section
variable{Hs:Hp}{x:P}
def Rc.cell(h:Rc b Z H x p):∃o,H p\o/\∀ys,o≠.tup ys:=by cases x with|lst xs=>let[vs,h1,_]:=h;show{_,h1,λ_ z=>nomatch z}|dT ks xs=>let[vs,h1,_]:=h;show{_,h1,λ_ z=>nomatch z}|fT ks xs=>let[vs,[o,h1],_]:=h;show{_,h1,λ_ z=>nomatch z}|dK ks xs=>let[vs,h1,_]:=h;show{_,h1,λ_ z=>nomatch z}|_=>show h.elim
def Ok.ow(ok:Ok W Y U H)(h:Ow W Y U p):W.H₀ p=none/\W.F p=none/\p≠W.b/\p≠W.a/\∃o,H p\o/\∀ys,o≠.tup ys:=by
 let h||[i,x,h1,h2]:=h
 .show ok.oo p h
 done<;>let[o,c,q,l,j,g,f,e,d]:=ok.slot i _ h1;rw[h2]at c;cases c;cases l;show#[j,g,f,e,d.cell]
def Ok.dom(ok:Ok W Y U H)(h:AJ W Y U f p):H p≠none:=by
 let hb:p=W.b->H p≠none:=λe=>by let[l,q]:=ok.bag.atb;simp_all
 let a:Ow W Y U p->H p≠none:=λe=>by let[_,_,_,_,o,q,_]:=ok.ow e;simp_all
 let c:W.H₀ p≠none->H p≠none:=λe z=>by
  by_cases hp:p=W.b
  .show hb hp z
  .cases q:W.H₀ p with|none=>show e q|some o=>rw[ok.old p o hp q]at z;cases z
 cases f<;>simp only[AJ]at h
 .show h.elim hb λh=>h.elim a c
 .show h.elim hb λh=>h.elim a c
 .show h.elim hb a
 .show h.elim hb λh=>h.elim a c
 .show h.elim hb c
 .show hb h
def AJ.b:AJ W Y U f W.b:=by cases f<;>simp[AJ]
def Rp.step(h:Rp W.b (AJ W Y U f) H x v)(s:Step W.b W.a H H')(hb:Bag H W.b W.a):Rp W.b (AJ W Y U f) H' x v:=h.keep (λp o c e=>{c,s.same p o (λz=>c (z▸AJ.b)) e}) λp vs e=>s.same p _ (hb.neT e).1 e
def AC.step(h:AC W.b (AJ W Y U f) H xs vs)(s:Step W.b W.a H H')(hb:Bag H W.b W.a):AC W.b (AJ W Y U f) H' xs vs:=h.keep (λp o c e=>{c,s.same p o (λz=>c (z▸AJ.b)) e}) λp vs e=>s.same p _ (hb.neT e).1 e
noncomputable def Rc.step(h:Rc W.b (Zf W Y U) H x p)(s:Step W.b W.a H H')(hb:Bag H W.b W.a)(hp:p≠W.b):Rc W.b (Zf W Y U) H' x p:=by cases x with
 |lst xs=>let[vs,h1,h2]:=h;show{vs,s.same p _ hp h1,h2.step s hb}|dT ks xs=>let[vs,h1,c,h2]:=h;show{vs,s.same p _ hp h1,c,h2.step s hb}|fT ks xs=>let[vs,h1,c,h2]:=h;show{vs,h1.map λ_ e=>s.same p _ hp e,c,h2.step s hb}|dK ks xs=>let[vs,h1,c,h2]:=h;show{vs,s.same p _ hp h1,c,h2.step s hb}|_=>show h.elim
def C6.step{s}{o}(h:C6 W Y U H s o)(st:Step W.b W.a H H')(hb:Bag H W.b W.a):C6 W Y U H' s o:=by cases s with|emp=>trivial|sh x=>let[v,h1,h2]:=h;show{v,h1,h2.step st hb}|fr x=>let[v,h1,h2]:=h;show{v,h1,h2.step st hb}|own x=>let[p,h1,h2,f,c,e,d]:=h;show{p,h1,h2,f,c,e,d.step st hb c}
theorem Ok.step(ok:Ok W Y U H)(st:Step W.b W.a H H'):Ok W Y U H' where
 bag:=st.bag
 fb:=ok.fb
 old:=λp o hp e=>st.same p o hp (ok.old p o hp e)
 frm:=λp o e=>st.same p o (λz=>by rw[z,ok.fb]at e;cases e) (ok.frm p o e)
 oo:=λp h=>(by let[h1,h2,c,g,o,f,d]:=ok.oo p h;show{h1,h2,c,g,o,st.same p o c f,d})
 len:=ok.len
 slot:=λi s e=>(by let[o,h1,h2]:=ok.slot i s e;show{o,h1,h2.step st ok.bag})
 uniq:=ok.uniq
noncomputable def RF.step(h:RF W Y U Hs f H x v)(ok:Ok W Y U H)(s:Step W.b W.a H H'):RF W Y U Hs f H' x v:=by cases f with
 |bo=>let[p,h1,h2,c]:=h;show{p,h1,h2,c.step s ok.bag (ok.ow (.inr h2)).2.2.1}|nw=>show{h.1.step s ok.bag,h.2}|fr=>show Rp.step h s ok.bag|cl=>show Rp.step h s ok.bag|rf=>show Rp.step h s ok.bag|an=>show Rp.step h s ok.bag
def RF.back(h:RF W Y U H1 f H x v)(s:Step W.b W.a Hs H1):RF W Y U Hs f H x v:=by cases f with|nw=>show{h.1,λm=>(by let[p,e,n]:=h.2 m;show{p,e,s.free n})}|_=>show h
noncomputable def RF.any(h:RF W Y U Hs f H x v)(ok:Ok W Y U H):Rp W.b (AJ W Y U .an) H x v:=by let k:∀{g},Rp W.b (AJ W Y U g) H x v->Rp W.b (AJ W Y U .an) H x v:=λ{g}h=>h.keep (λp o j e=>{λz=>j (by rw[z];show AJ.b),e}) λp vs e=>e;cases f with
 |bo=>let[p,h1,h2,d]:=h;let nb:=(ok.ow (.inr h2)).2.2.1;let k2:∀{xs}{vs},AC W.b (Zf W Y U) H xs vs->AC W.b (AJ W Y U .an) H xs vs:=λh=>h.keep (λp o j e=>{λz=>j (by rw[z];show AJ.b),e}) λp vs e=>e;cases x with
  |lst xs=>let[vs,c,a]:=d;show{p,vs,h1,nb,c,k2 a}|dT ks xs=>let[vs,c,i,a]:=d;show{p,vs,h1,nb,c,i,k2 a}|fT ks xs=>let[vs,c,i,a]:=d;show{p,vs,h1,nb,c,i,k2 a}|dK ks xs=>let[vs,c,i,a]:=d;show{p,vs,h1,nb,c,i,k2 a}|_=>show d.elim
 |nw=>show k h.1|fr=>show k h|cl=>show k h|rf=>show k h|an=>show h
def RF.items(h:RF W Y U Hs f H x v)(c:x.items\xs):∃p vs,v=.ref p/\(H p\(.lst vs)\/H p\(.tup vs))/\AC W.b (AJ W Y U f) H xs vs:=by
 let k:∀{g},Rp W.b (AJ W Y U g) H x v->∃p vs,v=.ref p/\(H p\(.lst vs)\/H p\(.tup vs))/\AC W.b (AJ W Y U g) H xs vs:=λ{g}h=>by
  cases x<;>simp only[P.items]at c<;>try cases c
  .let[p,vs,h1,h2,a]:=h;show{p,vs,h1,.inr h2,a}
  .let[p,vs,h1,i,h2,a]:=h;show{p,vs,h1,.inl h2,a}
 cases f with
 |bo=>
  let[p,h1,h2,a]:=h;cases x<;>simp only[P.items]at c<;>try cases c
  .show a.elim
  .let[vs,e,d]:=a;show{p,vs,h1,.inl e,d}|nw=>show k h.1|fr=>show k h|cl=>show k h|rf=>show k h|an=>show k h
def RF.ofEl(h:Rp W.b (AJ W Y U f) H x v):RF W Y U Hs f.el H x v:=by cases f<;>show h
def RF.ofImm{g}(hi:x.imm=true)(h:Rp W.b g H x v):RF W Y U Hs .fr H x v:=h.imm hi
def RF.immAny(hi:x.imm=true)(ok:Ok W Y U H)(h:RF W Y U Hs f H x v){g}(a:g≠.bo):RF W Y U Hs g H x v:=by let k:=h.any ok;cases g with|bo=>show bS rfl a|nw=>show{k.imm hi,λm=>by rw[Ye m]at hi;cases hi}|fr=>show k.imm hi|cl=>show k.imm hi|rf=>show k.imm hi|an=>assumption
def RF.newL(ok:Ok W Y U H)(st:Step W.b W.a Hs H)(c:AC W.b (AJ W Y U f) H xs vs)(hp:H p=none):RF W Y U Hs (Bj f xs) (AB H p (.lst vs)) (.lst xs) (.ref p):=by
 let d:∀g,¬AJ W Y U g p:=λg z=>ok.dom z hp;let k:∀g,AC W.b _ H xs vs->Rp W.b _ _ (.lst xs) _:=λg h=>{p,vs,0,d g,AN,h.step (Step.new ok.bag hp) ok.bag};unfold Bj;split
 .show#[k .fr (c.imm ‹_›),λ_=>{p,0,st.free hp}]
 .cases f with
  |nw=>show#[k .fr c,λ_=>{p,0,st.free hp}]|fr=>show#[k .fr c,λ_=>{p,0,st.free hp}]|bo=>show#[k .fr c,λ_=>{p,0,st.free hp}]|cl=>show k .cl c|rf=>show k .rf c|an=>show k .an c
def RF.newT(ok:Ok W Y U H)(a:AC W.b (AJ W Y U f) H xs vs)(hp:H p=none):RF W Y U Hs (Bj f xs) (AB H p (.tup vs)) (.tup xs) (.ref p):=by
 let k:∀g,AC W.b _ H xs vs->Rp W.b (AJ W Y U g) _ (.tup xs) _:=λg h=>{p,vs,0,AN,h.step (Step.new ok.bag hp) ok.bag};unfold Bj;split
 .show{k .fr (a.imm ‹_›),λm=>by simp at m}
 .cases f with
  |nw=>show{k .fr a,λm=>by simp at m}|fr=>show{k .fr a,λm=>by simp at m}|bo=>show{k .fr a,λm=>by simp at m}|cl=>show k .cl a|rf=>show k .rf a|an=>show k .an a
end
noncomputable abbrev pE:=dJ->(P->Fl->Prop)->Prop
end L2
variable{pa pb pe:L2.pE}
namespace L2
set_option tactic.hygienic true
noncomputable abbrev pT:=dJ->(Bool->Prop)->Prop
noncomputable abbrev pA:=dJ->(List (P×Fl)->Prop)->Prop
def Bs(t:TE)(p:pE):Prop:=(∀(W:Wd)(Y:dJ)(U:St)(H:Hp)(Q:VK)(K:P->Fl->Prop),Ok W Y U H->p Y K->(∀x f v H',K x f->Step W.b W.a H H'->RF W Y U H f H' x v->Q v H')->t U H Q)
def Hk(t:TT)(p:pT):Prop:=(∀(W:Wd)(Y:dJ)(U:St)(H:Hp)(Q:Bool->Hp->Prop)(K:Bool->Prop),Ok W Y U H->p Y K->(∀c H',K c->Step W.b W.a H H'->Q c H')->t U H Q)
noncomputable def Bu(W:Wd)(Y:dJ)(U:St)(Hs H:Hp):List (P×Fl)->dH->Prop|[],vs=>vs=[]|(x,f)::r,vs=>∃v t,vs=v::t/\RF W Y U Hs f H x v/\Bu W Y U Hs H r t
def Ms(t:TA)(p:pA):Prop:=(∀(W:Wd)(Y:dJ)(U:St)(H:Hp)(Q:dH->Hp->Prop)(K:List (P×Fl)->Prop),Ok W Y U H->p Y K->(∀xs vs H',K xs->Step W.b W.a H H'->Bu W Y U H H' xs vs->Q vs H')->t U H Q)
section
def QE(Xs:ι->Cx)(e:Expr)(p:pE):Prop:=(∃t,(∀i,PE (Xs i) e t)/\Bs t p)
def QT(Xs:ι->Cx)(e:Expr)(p:pT):Prop:=(∃t,(∀i,PT (Xs i) e t)/\Hk t p)
def QW(Xs:ι->Cx)(e:Expr)(p:pT):Prop:=(∃t,(∀i,PW (Xs i) e t)/\Hk t p)
def QA(Xs:ι->Cx)(es:Go)(p:pA):Prop:=(∃t,(∀i,PA (Xs i) es t)/\Ms t p)
end
noncomputable abbrev p2:=P->Fl->P->Fl->(P->Fl->Prop)->Prop
def BE(r:R2)(pr:p2):Prop:=(∀(W:Wd)(Y:dJ)(U:St)(Hs H:Hp)(Q:VK)(K:P->Fl->Prop)(x y:P)(f g:Fl)(v u:V),Ok W Y U H->Step W.b W.a Hs H->RF W Y U Hs f H x v->RF W Y U Hs g H y u->pr x f y g K->(∀z h v' H',K z h->Step W.b W.a H H'->RF W Y U Hs h H' z v'->Q v' H')->r v u H Q)
noncomputable abbrev pC:=List (P×Fl)->(P->Fl->Prop)->Prop
def Cu(r:dH->Hp->VK->Prop)(pr:pC):Prop:=(∀(W:Wd)(Y:dJ)(U:St)(Hs H:Hp)(Q:VK)(K:P->Fl->Prop)(xs:List (P×Fl))(vs:dH),Ok W Y U H->Step W.b W.a Hs H->Bu W Y U Hs H xs vs->pr xs K->(∀z h v' H',K z h->Step W.b W.a H H'->RF W Y U Hs h H' z v'->Q v' H')->r vs H Q)
section
variable{Hs:Hp}{x:P}{ar:List (P×Fl)}
theorem Bu.back:∀{ar}{vs},Bu W Y U H1 H ar vs->Step W.b W.a Hs H1->Bu W Y U Hs H ar vs|[],_,h,_=>h|(x,f)::r,vs,h,st=>by let[v,t,h1,h2,c]:=h;show{v,t,h1,h2.back st,Bu.back c st}
theorem Bu.any:∀{ar}{vs},Bu W Y U Hs H ar vs->Ok W Y U H->AC W.b (AJ W Y U .an) H (ar.map (·.1)) vs
 |[],_,h,_=>h|(x,f)::r,vs,h,ok=>by let[v,t,h1,h2,a]:=h;show{v,t,h1,h2.any ok,Bu.any a ok}
theorem Bu.length:∀{ar}{vs},Bu W Y U Hs H ar vs->vs.length=ar.length|[],_,h=>by rw[h];rfl|(x,f)::r,vs,h=>by let[v,t,h1,h2,a]:=h;rw[h1,length_cons,length_cons,Bu.length a]
end
noncomputable def CG(k:Nat):pE:=(λY K=>match Y[k]? with
 |some (.sh x)=>K x .cl|some (.fr x)=>K x .fr|some (.own x)=>K x .bo|_=>False)
def pK(x:P):pE:=(λ_ K=>K x .fr)
def Da(pr:p2)(pa pb:pE):pE:=(λY K=>pa Y λx f=>pb Y λy g=>pr x f y g K)
def FE:pA:=(λ_ K=>K [])
def C7(pa:pE)(pr:pA):pA:=(λY K=>pa Y λx f=>pr Y λxs=>K ((x,f)::xs))
def GR(pr:pC)(pa:pA):pE:=(λY K=>pa Y λxs=>pr xs K)
section
variable{a b c:Expr}{pc:pE}
noncomputable def Ok.var(ok:Ok W Y U H){K}(h:CG k Y K):∃x f v,K x f/\U[k]?\(some v)/\RF W Y U H f H x v:=by unfold CG at h;cases e:Y[k]? with|none=>simp_all|some s=>rw[e]at h;let[o,h1,h2]:=ok.slot k s e;cases s with
  |emp=>simp_all|sh x=>let[v,0,a]:=h2;show#[x,_,v,h,h1,a]|fr x=>let[v,0,a]:=h2;show#[x,_,v,h,h1,a]|own x=>let[p,0,a,i,g,d,c]:=h2;show{x,_,_,h,h1,p,0,#[k,x,e,h1],c}
def Yv(k):Bs (tVar k) (CG k):=λW Y U H Q K ok h q=>by let[x,f,v,h1,h2,a]:=ok.var h;show{v,h2,q x f v H h1 (Step.refl ok.bag) a}
def qv(k)(e:∀i,(Xs i).N[k]?\x:=by rfl)(c:∀i,Dj (Xs i).env.scope x:=by intro _;trivial)(d:No x:=by decide)(a:N_ x:=by decide):QE Xs (.Name x pos) (CG k):={_,λi=>ER (e i) (c i) d a,Yv k}
def Hl{x}(hi:x.imm=true)(h:∀W H,Rp W (λ_=>False) H x v):Bs (tC v) (pK x):=λW Y U H Q K ok a q=>q x .fr v H a (Step.refl ok.bag) ((h W.b H).imm hi)
def AV{i j}:QE Xs (.Constant (.int i) j pos) (pK (.int i)):={_,λ_=>Ah,Hl rfl λ_ _=>rfl}
def Hm{b j}:QE Xs (.Constant (.bool b) j pos) (pK (.bl b)):={_,λ_=>PY,Hl rfl λ_ _=>rfl}
def Ju:QE Xs (.Constant .none j pos) (pK .non):={_,λ_=>L5,Hl rfl λ_ _=>rfl}
def Ci:QE Xs (.Constant (.str x) j pos) (pK (.str x)):={_,λ_=>CP,Hl rfl λ_ _=>rfl}
def Hn{n}(a:∀i,∃t,(Xs i).mg x\(.int n t))(c:∀i,Gl (Xs i) x:=by rfl)(d:No x:=by decide+kernel):QE Xs (.Name x pos) (pK (.int n)):={_,λi=>(by let[t,h]:=a i;show PZ (c i) h #[t,0] d),Hl rfl λ_ _=>rfl}
def Jv{r}(l:BE r pr)(n:Bs ta pa)(m:Bs tb pb):Bs (HS r ta tb) (Da pr pa pb):=λW Y U H Q K ok h q=>n W Y U H _ _ ok h λx f v H1 h1 a j=>m W Y U H1 _ _ (ok.step a) h1 λy g u H2 h2 c i=>l W Y U H H2 Q K x y f g v u ((ok.step a).step c) (a.trans c) (j.step (ok.step a) c) (i.back a) h2 λz h v' H' o d e=>q z h v' H' o ((a.trans c).trans d) e
def B2{r}(h:∀i,Az (Xs i) (binaryOp op) r)(g:BE r pr)(l:QE Xs a pa)(j:QE Xs b pb):QE Xs (.BinOp a op b pos) (Da pr pa pb):=by let[ta,f,e]:=l;let[tb,d,c]:=j;show{_,λi=>Bg (h i) (f i) (d i),Jv g e c}
def FF{r}(h:∀i,Az (Xs i) (compareOp op) r)(g:BE r pr)(m:QE Xs a pa)(l:QE Xs b pb)(j:behindInMarks op b=false):QE Xs (.Compare a [op] [b] pos) (Da pr pa pb):=by let[ta,f,e]:=m;let[tb,d,c]:=l;show{_,λi=>Pq (h i) (f i) (d i) j,Jv g e c}
def Av{r}(j:∀i,E9 (Xs i) r)(h:BE r pr)(m:QE Xs a pa)(l:QE Xs b pb)(g:QD b):QE Xs (.Subscript a b pos) (Da pr pa pb):=by let[ta,f,e]:=m;let[tb,d,c]:=l;show{_,λi=>B1 (j i) (f i) (d i) g,Jv h e c}
def AG:QA Xs [] FE:={_,λ_=>Ab,λW Y U H Q K ok h q=>q [] [] H h (Step.refl ok.bag) rfl}
def AA(r:QE Xs a pa)(p:QA Xs es pr)(o:∀i,starEach (a::es) (Xs i).env=(false,eval a (Xs i).env)::starEach es (Xs i).env:=by rfl):QA Xs (a::es) (C7 pa pr):=by
 let[ta,j,g]:=r;let[tr,e,d]:=p;show{_,λi=>AK (j i) (e i) (o i),λW Y U H Q K ok h q=>?_};show g W Y U H _ _ ok h λx f v H1 h1 c n=>d W Y U H1 _ _ (ok.step c) h1 λxs vs H2 h2 l m=>q _ _ H2 h2 (c.trans l) {v,vs,0,n.step (ok.step c) l,m.back c}
def Q0{r}{p}(f:Cu r pr)(g:Ms t p):Bs (GJ r t) (GR pr p):=λW Y U H Q K ok h q=>g W Y U H _ _ ok h λxs vs H1 h1 a e=>f W Y U H H1 Q K xs vs (ok.step a) a e h1 λz h v' H' i c d=>q z h v' H' i (a.trans c) d
def Aw{id}{r}{p}{p1}(m:∀i,BQ (Xs i) (.builtin id) r)(f:Cu r pr)(h:∀i,(Xs i).mg x=none)(e:bootBuiltins x\(.builtin id))(n:QA Xs (a::es) p)(j:∀i,Gl (Xs i) x:=by rfl)(g:x≠"__name__":=by decide+kernel)(d:No x:=by decide+kernel)(l:∀i,starEach (a::es) (Xs i).env=(false,eval a (Xs i).env)::starEach es (Xs i).env:=by rfl)(c:∀i,(backTo pos (starEach es (Xs i).env)).any (·.1)=false:=by rfl):QE Xs (.Call (.Name x p1) (a::es) [] pos) (GR pr p):=by let[t,h1,h2]:=n;show{_,λi=>E5 (m i) (j i) (h i) e (h1 i) g d (l i) (c i),Q0 f h2}
def Bv{r}{p}{p1}(m:∀i,BQ (Xs i) (.type T) r)(f:Cu r pr)(h:∀i,(Xs i).mg x=none)(e:bootBuiltins x\(.type T))(n:QA Xs (a::es) p)(j:∀i,Gl (Xs i) x:=by rfl)(g:x≠"__name__":=by decide+kernel)(d:No x:=by decide+kernel)(l:∀i,starEach (a::es) (Xs i).env=(false,eval a (Xs i).env)::starEach es (Xs i).env:=by rfl)(c:∀i,(backTo pos (starEach es (Xs i).env)).any (·.1)=false:=by rfl):QE Xs (.Call (.Name x p1) (a::es) [] pos) (GR pr p):=by let[t,h1,h2]:=n;show{_,λi=>Fd (m i) (j i) (h i) e (h1 i) g d (l i) (c i),Q0 f h2}
end
noncomputable def BJ:P->Fl->Fl
 |x,.bo=>if x.imm=true then .nw else .rf|x,.nw=>.nw|x,.fr=>.nw|x,.cl=>if x.imm=true then .nw else .cl|x,.rf=>if x.imm=true then .nw else .rf|x,.an=>if x.imm=true then .nw else .an
noncomputable def DL:List (P×Fl)->Fl
 |[]=>.nw|(x,f)::r=>(BJ x f).join (DL r)
def Mt(p:pA):pE:=(λY K=>p Y λxs=>K (.tup (xs.map (·.1))) (DL xs))
def Q3(p:pA):pE:=(λY K=>p Y λxs=>K (.lst (xs.map (·.1))) (DL xs))
section
variable{Hs:Hp}{x:P}{g:Fl}{ar:List (P×Fl)}
def Mu(ok:Ok W Y U H)(h2:RF W Y U Hs f H x v):BJ x f≠.bo/\BJ x f≠.fr/\Rp W.b (AJ W Y U (BJ x f)) H x v:=by
 by_cases hi:x.imm=true
 .let e:BJ x f=.nw:=by cases f<;>simp[BJ,hi]
  rw[e];show{'2','2',(h2.any ok).imm hi}
 .cases f with
  |nw=>show{by simp[BJ],by simp[BJ],h2.1}|fr=>show{by simp[BJ],by simp[BJ],h2}|cl=>simp only[BJ,aB hi];show#['2','2',h2]|rf=>simp only[BJ,aB hi];show#['2','2',h2]|an=>simp only[BJ,aB hi];show#['2','2',h2]|bo=>
   simp only[BJ,aB hi];show#['2','2',?_];let[p,i,n,d]:=h2;let m:=ok.ow (.inr n);let j:¬AJ W Y U .rf p:=by simp only[AJ,not_or,Classical.not_not];show#[m.2.2.1,m.1]
   let l:∀{xs}{vs},AC W.b (Zf W Y U) H xs vs->AC W.b (AJ W Y U .rf) H xs vs:=λh=>h.keep (λp o q e=>{λz=>q (z.elim .inl λz=>.inr (.inr z)),e}) λp vs e=>e;cases x with
   |lst xs=>let[us,c,a]:=d;show{p,us,i,j,c,l a}|dT ks xs=>let[us,c,g,a]:=d;show{p,us,i,j,c,g,l a}|fT ks xs=>let[us,c,g,a]:=d;show{p,us,i,j,c,g,l a}|dK ks xs=>let[us,c,g,a]:=d;show{p,us,i,j,c,g,l a}|_=>show d.elim
def Q4{g j}(h1:g≠.bo)(h2:g≠.fr)(c:j≠.bo)(a:j≠.fr)(p)(z:AJ W Y U (g.join j) p):AJ W Y U g p/\AJ W Y U j p:=by cases g<;>cases j<;>simp_all[Fl.join,AJ]<;>let z||z:=z<;>simp_all
def Mv{g j:Fl}(h1:g≠.bo)(h2:g≠.fr)(c:j≠.bo)(a:j≠.fr):g.join j≠.bo/\g.join j≠.fr:=by cases g<;>cases j<;>simp_all[Fl.join]
theorem Bu.items:∀{ar}{vs},Ok W Y U H->Bu W Y U Hs H ar vs->DL ar≠.bo/\DL ar≠.fr/\AC W.b (AJ W Y U (DL ar)) H (ar.map (·.1)) vs
 |[],_,_,h=>{by simp[DL],by simp[DL],h}|(x,f)::r,vs,ok,h=>by let[v,t,h1,h2,m]:=h;let[g,d,l]:=Bu.items ok m;let[c,a,j]:=Mu ok h2;let hj:=Q4 (W:=W) (Y:=Y) (U:=U) c a g d;show{(Mv c a g d).1,(Mv c a g d).2,v,t,h1,j.keep (λp o i e=>{λz=>i (hj p z).1,e}) (λp vs e=>e),l.keep (λp o i e=>{λz=>i (hj p z).2,e}) (λp vs e=>e)}
def RF.topped(hb:g≠.bo)(hf:g≠.fr):g.top=g:=by cases g<;>simp_all[Fl.top]
end
section
variable{a b c:Expr}{pc:pE}
theorem Mw:∀{xs},P.imms (xs.map (·.1))=true->DL xs=.nw
 |[],_=>rfl|(x,f)::r,hi=>by
  simp only[map_cons,Mr,cB]at hi;rw[DL,Mw hi.2];let:BJ x f=.nw:=by cases f<;>simp[BJ,hi.1]
  rw[this];rfl
def Db{x1}{p}(h:QA Xs es p)(m:es.length=n:=by rfl)(hz:n<=sizeLine:=by decide):QE Xs (.Tuple es x1 pos) (Mt λY K=>p Y λxs=>xs.length=n/\K xs):=by
 let[t,h1,h2]:=h;show{_,λi=>DU (h1 i),λW Y U H Q K ok l q=>?_};show h2 W Y U H _ _ ok l λxs vs H1 zz a c=>?_;let[j,k1]:=zz;show{by rw[c.length,j];show hz,λp d=>?_};let[g,f,e]:=Bu.items (ok.step a) c;let st:=a.trans (Step.new (o:=.tup vs) a.bag d);show q _ _ _ _ k1 st ?_;let:=RF.newT (Hs:=H) (ok.step a) e d;unfold Bj at this;split at this
 .rename_i hi;rw[Mw hi];show this
 .rw[RF.topped g f]at this;show this
def Cj{p}(h:QA Xs es p)(m:es.length=n:=by rfl)(hz:n<=sizeLine:=by decide):QE Xs (.List es pos) (Q3 λY K=>p Y λxs=>xs.length=n/\K xs):=by
 let[t,h1,h2]:=h;show{_,λi=>D7 (h1 i),λW Y U H Q K ok l q=>?_};show h2 W Y U H _ _ ok l λxs vs H1 zz a c=>?_;let[j,k1]:=zz;show{by rw[c.length,j];show hz,λp d=>?_};let[g,f,e]:=Bu.items (ok.step a) c;let st:=a.trans (Step.new (o:=.lst vs) a.bag d);show q _ _ _ _ k1 st ?_;let:=RF.newL (ok.step a) a e d;unfold Bj at this;split at this
 .rename_i hi;rw[Mw hi];show this
 .rw[RF.topped g f]at this;show this
end
def Mx(k:List AT):By:=(k.map λx=>match x with|.inl i=>i|.inr _=>0)
def Q5(k:AT):Str:=(match k with|.inr x=>x|.inl _=>{#[]})
def Mz(r):Mx (BD r)=r:=by simp[Mx,bZ,Function.comp_def]
def Q6{ks ks':List By}(h:ks.map BD=ks'.map BD):ks=ks':=by let:=aT (map Mx) h;simpa[Function.comp_def,Mz]using this
def Yw(h:ks.map Aq=ks'.map Aq):ks=ks':=by let:=aT (map Q5) h;simpa[Function.comp_def,Q5]using this
def M0{α c:Type}{ks ks':List α}{vs vs':List c}(h1:ks.length=vs.length)(h2:ks'.length=vs'.length)(h:ks.zip vs=ks'.zip vs'):ks=ks'/\vs=vs':=by let a:=aT (map Prod.fst) h;let b:=aT (map Prod.snd) h;rw[map_fst_zip ⋯,map_fst_zip ⋯]at a;rw[map_snd_zip (by simp_all),map_snd_zip ⋯]at b;show#[a,b]
section
variable{b:Addr}{Z':Addr->Prop}
mutual
theorem Rp.fun(hz:Z b)(hb:∀vs,H b≠some (.tup vs)):∀{x y:P}{v:V},Rp b Z H x v->Rp b Z H y v->x=y
 |.non,y,v,h1,h2=>by rw[show v=_ from h1]at h2;cases y<;>simp_all[Rp]|.bl _,y,v,h1,h2=>by rw[show v=_ from h1]at h2;cases y<;>simp_all[Rp]|.int _,y,v,h1,h2=>by rw[show v=_ from h1]at h2;cases y<;>simp_all[Rp]|.str _,y,v,h1,h2=>by rw[show v=_ from h1]at h2;cases y<;>simp_all[Rp]|.bag,y,v,h1,h2=>by rw[show v=_ from h1]at h2;cases y<;>simp_all[Rp]|.tup xs,y,v,h1,h2=>by let[p,vs,0,e,f]:=h1;cases y with
  |tup ys=>let[q,us,c,a,d]:=h2;cases c;rw[e]at a;cases a;rw[AC.fun hz hb f d]|lst ys=>let[q,us,c,_,a,d]:=h2;cases c;rw[e]at a;cases a|dT ks ys=>let[q,us,c,_,a,d]:=h2;cases c;rw[e]at a;cases a|fT ks ys=>let[q,us,c,_,[o,a],d]:=h2;cases c;rw[e]at a;cases a|dK ks ys=>let[q,us,c,_,a,d]:=h2;cases c;rw[e]at a;cases a|bag=>cases(show V.ref p=V.ref b from h2);show bS e (hb vs)|_=>cases h2
 |.lst xs,y,v,h1,h2=>by let[p,vs,0,i,e,f]:=h1;cases y with
  |lst ys=>let[q,us,c,_,a,d]:=h2;cases c;rw[e]at a;cases a;rw[AC.fun hz hb f d]|tup ys=>let[q,us,c,a,d]:=h2;cases c;rw[e]at a;cases a|dT ks ys=>let[q,us,c,_,a,d]:=h2;cases c;rw[e]at a;cases a|fT ks ys=>let[q,us,c,_,[o,a],d]:=h2;cases c;rw[e]at a;cases a|dK ks ys=>let[q,us,c,_,a,d]:=h2;cases c;rw[e]at a;cases a|bag=>cases(show V.ref p=V.ref b from h2);show bS hz i|_=>cases h2
 |.dT ks xs,y,v,h1,h2=>by let[p,vs,0,i,e,el,f]:=h1;cases y with
  |dT h ys=>let[q,us,c,_,a,l,d]:=h2;cases c;rw[e]at a;let[g,j]:=M0 (by rw[aA];show el.trans f.length) (by rw[aA];show l.trans d.length) (HO.dT.inj (oI a));let g:=Q6 g;subst g;subst j;rw[AC.fun hz hb f d]|fT h ys=>let[q,us,c,_,[o,a],d]:=h2;cases c;rw[e]at a;cases a|tup ys=>let[q,us,c,a,d]:=h2;cases c;rw[e]at a;cases a|lst ys=>let[q,us,c,_,a,d]:=h2;cases c;rw[e]at a;cases a|dK ks ys=>let[q,us,c,_,a,d]:=h2;cases c;rw[e]at a;cases a|bag=>cases(show V.ref p=V.ref b from h2);show bS hz i|_=>cases h2
 |.fT ks xs,y,v,h1,h2=>by let[p,vs,0,i,[o,e],el,f]:=h1;cases y with
  |fT h ys=>let[q,us,c,_,[o',a],l,d]:=h2;cases c;rw[e]at a;let a:=(HO.frz.inj (oI a)).2;let[g,j]:=M0 (by rw[aA];show el.trans f.length) (by rw[aA];show l.trans d.length) (HO.dT.inj a);let g:=Q6 g;subst g;subst j;rw[AC.fun hz hb f d]|tup ys=>let[q,us,c,a,d]:=h2;cases c;rw[e]at a;cases a|lst ys=>let[q,us,c,_,a,d]:=h2;cases c;rw[e]at a;cases a|dT ks ys=>let[q,us,c,_,a,d]:=h2;cases c;rw[e]at a;cases a|dK ks ys=>let[q,us,c,_,a,d]:=h2;cases c;rw[e]at a;cases a|bag=>cases(show V.ref p=V.ref b from h2);show bS hz i|_=>cases h2
 |.dK ks xs,y,v,h1,h2=>by let[p,vs,0,i,e,el,f]:=h1;cases y with
  |dK h ys=>let[q,us,c,_,a,l,d]:=h2;cases c;rw[e]at a;let[g,j]:=M0 (by rw[aA];show el.trans f.length) (by rw[aA];show l.trans d.length) (HO.dK.inj (oI a));let g:=Yw g;subst g;subst j;rw[AC.fun hz hb f d]|tup ys=>let[q,us,c,a,d]:=h2;cases c;rw[e]at a;cases a|lst ys=>let[q,us,c,_,a,d]:=h2;cases c;rw[e]at a;cases a|dT ks ys=>let[q,us,c,_,a,d]:=h2;cases c;rw[e]at a;cases a|fT ks ys=>let[q,us,c,_,[o,a],d]:=h2;cases c;rw[e]at a;cases a|bag=>cases(show V.ref p=V.ref b from h2);show bS hz i|_=>cases h2
theorem AC.fun(hz:Z b)(hb:∀vs,H b≠some (.tup vs)):∀{xs ys:dI}{vs:dH},AC b Z H xs vs->AC b Z H ys vs->xs=ys
 |[],ys,vs,h1,h2=>by rw[show vs=[]from h1]at h2;cases ys with
  |nil=>rfl|cons y r=>let[v,t,e,_]:=h2;cases e
 |x::xs,ys,vs,h1,h2=>by let[v,r,0,g,f]:=h1;cases ys with|nil=>cases(show v::r=[]from h2)|cons y ys=>let[u,t,d,c,a]:=h2;cases d;rw[Rp.fun hz hb g c,AC.fun hz hb f a]end
mutual
theorem Rp.avoid(hz:Z b)(hb:∀vs,H b≠some (.tup vs)){x:P}{p:Addr}(a:Rp b Z H x (.ref p)):∀{y:P}{v:V},sizeOf y<sizeOf x->Rp b Z H y v->Rp b (λq=>Z q\/q=p) H y v
 |.non,_,_,h=>h|.bl _,_,_,h=>h|.int _,_,_,h=>h|.str _,_,_,h=>h|.bag,_,_,h=>h|.tup ys,v,hs,h=>by let[q,vs,e,d,c]:=h;show{q,vs,e,d,AC.avoid hz hb a (by simp at hs⊢;lia) c}|.lst ys,v,hs,h=>by let[q,vs,0,e,d,c]:=id h;show{q,vs,0,λz=>z.elim e λz=>?_,d,AC.avoid hz hb a (by simp at hs⊢;lia) c};subst z;rw[Rp.fun hz hb a h]at hs;show aX _ hs|.dT ks ys,v,hs,h=>by let[q,vs,0,e,d,el,c]:=id h;show{q,vs,0,λz=>z.elim e λz=>?_,d,el,AC.avoid hz hb a (by simp at hs⊢;lia) c};subst z;rw[Rp.fun hz hb a h]at hs;show aX _ hs|.fT ks ys,v,hs,h=>by let[q,vs,0,e,d,el,c]:=id h;show{q,vs,0,λz=>z.elim e λz=>?_,d,el,AC.avoid hz hb a (by simp at hs⊢;lia) c};subst z;rw[Rp.fun hz hb a h]at hs;show aX _ hs|.dK ks ys,v,hs,h=>by let[q,vs,0,e,d,el,c]:=id h;show{q,vs,0,λz=>z.elim e λz=>?_,d,el,AC.avoid hz hb a (by simp at hs⊢;lia) c};subst z;rw[Rp.fun hz hb a h]at hs;show aX _ hs
theorem AC.avoid(hz:Z b)(hb:∀vs,H b≠some (.tup vs)){x:P}{p:Addr}(a:Rp b Z H x (.ref p)):∀{ys:dI}{vs:dH},sizeOf ys<sizeOf x->AC b Z H ys vs->AC b (λq=>Z q\/q=p) H ys vs
 |[],_,_,h=>h|y::ys,vs,hs,h=>by let[v,r,e,d,c]:=h;show{v,r,e,Rp.avoid hz hb a (by simp at hs⊢;lia) d,AC.avoid hz hb a (by simp at hs⊢;lia) c}end
def Rp.toRc(hz:Z b)(hb:∀vs,H b≠some (.tup vs)){x}(hm:x.mut=true)(a:Rp b Z H x (.ref p)):¬Z p/\Rc b (λq=>Z q\/q=p) H x p:=by cases x with
 |lst xs=>let[q,vs,f,e,d,c]:=id a;cases f;show{e,vs,d,AC.avoid hz hb a '2' c}|dT ks xs=>let[q,vs,f,e,d,el,c]:=id a;cases f;show{e,vs,d,el,AC.avoid hz hb a '4' c}|fT ks xs=>let[q,vs,f,e,d,el,c]:=id a;cases f;show{e,vs,d,el,AC.avoid hz hb a '4' c}|dK ks xs=>let[q,vs,f,e,d,el,c]:=id a;cases f;show{e,vs,d,el,AC.avoid hz hb a '4' c}|_=>simp[P.mut]at hm
end
noncomputable def Bl(k:Nat)(x:P)(f:Fl)(Y:dJ)(K:dJ->Prop):Prop:=(if x.imm=true then K (Y.set k (.sh x))else match f with
 |.nw=>K (Y.set k (if x.mut=true then .own x else .fr x))|.fr=>K (Y.set k (.fr x))|.cl=>K (Y.set k (.sh x))|_=>False)
section
variable{Hs:Hp}{x:P}{k:Nat}
def Ok.nt(ok:Ok W Y U H):∀vs,H W.b≠some (.tup vs):=λvs e=>(ok.bag.neT e).1 rfl
def Jw(st:Step W.b W.a Hs H)(c:∀p,A8 ρ' σ' p->A8 Y U p\/Hs p=none)(p)(o)(hz:¬AJ W Y U f p)(e:Hs p\o):¬AJ W ρ' σ' f p/\H p\o:=by
 show{λz=>hz ?_,st.same p o (λz=>hz (z▸AJ.b)) e};let k:Ow W ρ' σ' p->Ow W Y U p:=λz=>z.elim .inl λz=>(c p z).elim .inr λz=>by simp_all
 cases f<;>simp only[AJ]at z⊢
 all_goals first|show z|show z.elim .inl λz=>.inr (k z)|show z.elim .inl λz=>.inr (z.elim (λz=>.inl (k z)) .inr)
def Rp.move(hb:Bag Hs W.b W.a)(st:Step W.b W.a Hs H)(hn:∀p,A8 ρ' σ' p->A8 Y U p\/Hs p=none)(h:Rp W.b (AJ W Y U f) Hs x v):Rp W.b (AJ W ρ' σ' f) H x v:=h.keep (Jw st hn) λp vs e=>st.same p _ (hb.neT e).1 e
def AC.move(hb:Bag Hs W.b W.a)(st:Step W.b W.a Hs H)(hn:∀p,A8 ρ' σ' p->A8 Y U p\/Hs p=none)(h:AC W.b (AJ W Y U f) Hs xs vs):AC W.b (AJ W ρ' σ' f) H xs vs:=h.keep (Jw st hn) λp vs e=>st.same p _ (hb.neT e).1 e
noncomputable def Rc.move(hb:Bag Hs W.b W.a)(st:Step W.b W.a Hs H)(hp:p≠W.b)(hn:∀p,A8 ρ' σ' p->A8 Y U p\/Hs p=none)(h:Rc W.b (Zf W Y U) Hs x p):Rc W.b (Zf W ρ' σ') H x p:=by cases x with
 |lst xs=>let[vs,h1,h2]:=h;show{vs,st.same p _ hp h1,h2.move hb st hn}|dT ks xs=>let[vs,h1,c,h2]:=h;show{vs,st.same p _ hp h1,c,h2.move hb st hn}|fT ks xs=>let[vs,h1,c,h2]:=h;show{vs,h1.map λ_ e=>st.same p _ hp e,c,h2.move hb st hn}|dK ks xs=>let[vs,h1,c,h2]:=h;show{vs,st.same p _ hp h1,c,h2.move hb st hn}|_=>show h.elim
def C6.move{s}{o}(hb:Bag Hs W.b W.a)(st:Step W.b W.a Hs H)(hn:∀p,A8 ρ' σ' p->A8 Y U p\/Hs p=none)(h:C6 W Y U Hs s o):C6 W ρ' σ' H s o:=by cases s with|emp=>trivial|sh x=>let[v,h1,h2]:=h;show{v,h1,h2.move hb st hn}|fr x=>let[v,h1,h2]:=h;show{v,h1,h2.move hb st hn}|own x=>let[p,h1,h2,f,c,e,d]:=h;show{p,h1,h2,f,c,e,d.move hb st c hn}
theorem Ok.put{s}(ok:Ok W Y U Hs)(st:Step W.b W.a Hs H)(g:k<Y.length)(hn:∀p,A8 (Y.set k s) (U.set k (some v)) p->A8 Y U p\/Hs p=none)(hs:C6 W (Y.set k s) (U.set k (some v)) H s (some v))(A:∀y,s=.own y->∃p,v=.ref p/\Hs p=none):Ok W (Y.set k s) (U.set k (some v)) H where
 bag:=st.bag
 fb:=ok.fb
 old:=λp o hp e=>st.same p o hp (ok.old p o hp e)
 frm:=λp o e=>st.same p o (λz=>by rw[z,ok.fb]at e;cases e) (ok.frm p o e)
 oo:=(ok.step st).oo
 len:=by rw[length_set,length_set];show ok.len
 slot:=λi s' e=>by
  by_cases hi:k=i
  .subst hi;rw[bY g]at e;cases e;show{some v,bY (by rw[ok.len];show g),hs}
  .rw[bV hi]at e;let[o,h1,h2]:=ok.slot i s' e;show{o,by rw[bV hi];show h1,h2.move ok.bag st hn}
 uniq:=λi j x y h1 h2 c=>by
  let old:∀i x,k≠i->(Y.set k s)[i]?\(.own x)->∃p o,U[i]?\(some (.ref p))/\Hs p\o:=λi x hi e=>by rw[bV hi]at e;done<;>(let[o,w,p,u,_,_,_,_,r]:=ok.slot i _ e;let[o',n,_]:=r.cell);show{p,o',by rw[w,u],n}
  let new:∀i x,k=i->(Y.set k s)[i]?\(.own x)->∃p,v=.ref p/\Hs p=none:=λi x hi e=>by subst hi;rw[bY g]at e;cases e;show A x rfl
  let d:k<U.length:=by rw[ok.len];show g
  by_cases hi:k=i<;>by_cases hj:k=j
  .show hi.symm.trans hj
  .let[p,m,l]:=new i x hi h1;let[q,o,h,f]:=old j y hj h2;rw[<-hi,bY d,bV hj,h,m]at c;cases c;rw[l]at f;cases f
  .exfalso;let[p,m,l]:=new j y hj h2;let[q,o,h,f]:=old i x hi h1;rw[<-hj,bY d,bV hi,h,m]at c;cases c;rw[l]at f;cases f
  .rw[bV hi]at h1 c;rw[bV hj]at h2 c;show ok.uniq i j x y h1 h2 c
def Ho{s}(a:∀x,s≠.own x):∀p,A8 (Y.set k s) (U.set k (some v)) p->A8 Y U p:=λp⟨i,x,h1,h2⟩=>by
 by_cases hi:k=i
 .subst hi;let q||q:=cE k Y.length
  .simp_all
  simp_all
 .rw[bV hi]at h1 h2;show#[i,x,h1,h2]
def Ok.set{K}(ok:Ok W Y U Hs)(st:Step W.b W.a Hs H)(r:RF W Y U Hs f H x v)(h:Bl k x f Y K):∃ρ',K ρ'/\Ok W ρ' (U.set k (some v)) H:=by
 by_cases d:Y.length<=k
 .let I:∀s,Y.set k s=Y:=λs=>set_eq_of_length_le d;let G:U.set k (some v)=U:=set_eq_of_length_le (by rw[ok.len];show d);rw[G];show{Y,?_,ok.step st};unfold Bl at h;simp only[I]at h;split at h
  .show h
  .cases f<;>first|show h|show h.elim
 let d:=Nat.lt_of_not_le d;let c:=ok.step st;let k1:∀(s),(∀x,s≠.own x)->C6 W (Y.set k s) (U.set k (some v)) H s (some v)->Ok W (Y.set k s) (U.set k (some v)) H:=λs hs w=>ok.put st d (λp z=>.inl (Ho hs p z)) w λy e=>bS e (hs y)
 let k2:∀{s}{g},(∀x,s≠.own x)->Rp W.b (AJ W Y U g) H x v->Rp W.b (AJ W (Y.set k s) (U.set k (some v)) g) H x v:=λ{s g}hs w=>Rp.move c.bag (Step.refl c.bag) (λp z=>.inl (Ho hs p z)) w
 unfold Bl at h;split at h
 .rename_i hi;show#[_,h,k1 _ '6' {v,0,(r.any c).imm hi}]
 .cases f with
  |nw=>
   by_cases hm:x.mut=true
   .rw[aC hm]at h;show#[_,h,?_];let[p,0,hp]:=r.2 hm;let hn:∀q,A8 (Y.set k (.own x)) (U.set k (some (.ref p))) q->A8 Y U q\/Hs q=none:=λq⟨i,y,h1,h2⟩=>by
     by_cases hi:k=i
     .subst hi;rw[bY (by rw[ok.len];show d)]at h2;cases h2;show .inr hp
     .rw[bV hi]at h1 h2;show .inl #[i,y,h1,h2]
    let[B,m]:=Rp.toRc AJ.b c.nt hm r.1;let u:p≠W.b/\W.H₀ p=none:=by simp only[AJ,not_or,Classical.not_not]at B;show#[B.1,B.2.2]
    let E:W.F p=none:=by cases q:W.F p with
     |none=>rfl|some o=>rw[ok.frm p o q]at hp;cases hp
    let ha:=ok.bag.na hp;let C:∀q,¬(Zf W Y U q\/q=p)->¬Zf W (Y.set k (.own x)) (U.set k (some (.ref p))) q:=λq w z=>w (by
     simp only[AJ]at z⊢;let z||z||z:=z
     .show .inl (.inl z)
     .let z||z:=z
      .show .inl (.inr (.inl (.inl z)))
      .let[i,y,h1,h2]:=z;by_cases hi:k=i
       .subst hi;rw[bY (by rw[ok.len];show d)]at h2;cases h2;show .inr rfl
       .rw[bV hi]at h1 h2;show .inl (.inr (.inl (.inr #[i,y,h1,h2])))
     .show .inl (.inr (.inr z)))
    let A:∀{xs}{vs},AC W.b (λq=>Zf W Y U q\/q=p) H xs vs->AC W.b (Zf W (Y.set k (.own x)) (U.set k (some (.ref p)))) H xs vs:=λh=>h.keep (λq o D e=>{C q D,e}) λq us e=>e;show ok.put st d hn #[p,0,u.2,E,u.1,ha,?_] λy e=>#[p,0,hp];cases x with
    |lst xs=>let[us,l,j]:=m;show{us,l,A j}|dT ks xs=>let[us,l,n,j]:=m;show{us,l,n,A j}|fT ks xs=>let[us,l,n,j]:=m;show{us,l,n,A j}|dK ks xs=>let[us,l,n,j]:=m;show{us,l,n,A j}|_=>show m.elim
   .rw[aB hm]at h;show#[_,h,k1 _ '6' {v,0,k2 '6' r.1}]|fr=>show#[_,h,k1 _ '6' {v,0,k2 '6' r}]|cl=>show#[_,h,k1 _ '6' {v,0,k2 '6' r}]|_=>show h.elim
end
def GS(p:pE):pT:=(λY K=>p Y λx _=>∃k,x=.bl k/\K k)
def Q7(p q:pT):pT:=(λY K=>p Y λc=>if c=true then q Y K else K false)
def Q8(p q:pT):pT:=(λY K=>p Y λc=>if c=true then K true else q Y K)
def Q9(p:pT):pT:=(λY K=>p Y λc=>K (!c))
def RA(p q:pE):pE:=(λY K=>p Y λx _=>∃c,x=.bl c/\if c=true then q Y K else K (.bl false) .fr)
def RB(p:pE):pE:=(λY K=>p Y λx _=>∃c,x=.bl c/\K (.bl (!c)) .fr)
def Jx(r r':p2)(pa pb pc:pE):pE:=(λY K=>pa Y λx f=>pb Y λy g=>r x f y g λz _=>∃k,z=.bl k/\if k=true then pc Y λw h=>r' y g w h K else K (.bl false) .fr)
section
variable{a b c:Expr}{qE:Go}{pc:pE}{p q:pT}
def Jy(ok:Ok W Y U H)(r:RF W Y U Hs f H (.bl k) v):v=.bl k:=r.any ok
def Ck(ok:Ok W Y U H)(r:RF W Y U Hs f H (.int k) v):v=.int k:=r.any ok
def EB(ok:Ok W Y U H)(r:RF W Y U Hs f H (.str k) v):v=.str k:=r.any ok
def M1(h:Bs t pa):Hk (MH t) (GS pa):=λW Y U H Q K ok d q=>h W Y U H _ _ ok d λx f v H1⟨k,e,h1⟩a c=>by subst e;show{k,Jy (ok.step a) c,q k H1 h1 a}
def BN{r}(h:∀i,Az (Xs i) (compareOp op) r)(g:BE r pr)(m:QE Xs a pa)(l:QE Xs b pb)(j:behindInMarks op b=false):QT Xs (.Compare a [op] [b] pos) (GS (Da pr pa pb)):=by let[ta,f,e]:=m;let[tb,d,c]:=l;show{_,λi=>Dl (h i) (f i) (d i) j,M1 (Jv g e c)}
def CS(h:QE Xs a pa)(f:∀i,∀c,isTrue a (Xs i).env c=(do let v<-c;standAt a.pos;holding [v] (truthy v)):=by intro _ _;rfl):QT Xs a (GS pa):=by let[ta,e,d]:=h;show{tB ta,λi=>L6 (e i) (f i),M1 d}
def CL(h:QT Xs a p):QT Xs (.UnaryOp .Not a pos) (Q9 p):=by let[ta,e,d]:=h;show{_,λi=>MA (e i),λW Y U H Q K ok g q=>d W Y U H _ _ ok g λc H1 h1 f=>q _ H1 h1 f}
def QW.pt(h:QW Xs a p):QT Xs a p:=by let[t,h1,h2]:=h;show{t,λi=>(h1 i).pt,h2}
def RC(h:QT Xs a p):QW Xs (.BoolOp .And [a] pos) p:=by let[t,h1,h2]:=h;show{t,λi=>V7 (h1 i),h2}
def GU(h:QT Xs a p):QW Xs (.BoolOp .Or [a] pos) p:=by let[t,h1,h2]:=h;show{t,λi=>L7 (h1 i),h2}
noncomputable def RD(o:QT Xs a p)(n:QW Xs (.BoolOp .And (b::qE) pos) q):QW Xs (.BoolOp .And (a::b::qE) pos) (Q7 p q):=by let[ta,j,h]:=o;let[tb,g,f]:=n;show{_,λi=>V8 (j i) (g i),λW Y U H Q K ok m q=>h W Y U H _ _ ok m λc H1 h1 e=>?_};cases c with
 |true=>show f W Y U H1 _ _ (ok.step e) h1 λd H2 h2 l=>q d H2 h2 (e.trans l)|false=>show q false H1 h1 e
noncomputable def FH(o:QT Xs a p)(n:QW Xs (.BoolOp .Or (b::qE) pos) q):QW Xs (.BoolOp .Or (a::b::qE) pos) (Q8 p q):=by let[ta,j,h]:=o;let[tb,g,f]:=n;show{_,λi=>L9 (j i) (g i),λW Y U H Q K ok m q=>h W Y U H _ _ ok m λc H1 h1 e=>?_};cases c with
 |false=>show f W Y U H1 _ _ (ok.step e) h1 λd H2 h2 l=>q d H2 h2 (e.trans l)|true=>show q true H1 h1 e
theorem M3(h:QE Xs a pa):QE Xs (.BoolOp op [a] pos) pa:=(by assumption)
def Dn:RF W Y U Hs .fr H (.bl k) (.bl k):=rfl
def GV:RF W Y U Hs .fr H (.int k) (.int k):=rfl
def RE:RF W Y U Hs .fr H (.str k) (.str k):=rfl
noncomputable def M4(u:QE Xs a pa)(s:QE Xs (.BoolOp .And (b::qE) pos) pb):QE Xs (.BoolOp .And (a::b::qE) pos) (RA pa pb):=by let[ta,m,l]:=u;let[tb,j,h]:=s;show{_,λi=>WD (m i) (j i),λW Y U H Q K ok r q=>l W Y U H _ _ ok r λx f v H1 zz g p=>?_};let[c,e,h1]:=zz;subst e;show{c,Jy (ok.step g) p,?_};cases c with
 |true=>show h W Y U H1 _ _ (ok.step g) h1 λd f v H2 h2 n o=>q d f v H2 h2 (g.trans n) (o.back g)|false=>show q _ _ _ H1 h1 g Dn
def Yx(m:QE Xs a pa):QE Xs (.UnaryOp .Not a pos) (RB pa):=by let[ta,g,d]:=m;show{_,λi=>WE (g i),λW Y U H Q K ok l q=>d W Y U H _ _ ok l λx f v H1 zz h j=>?_};let[c,e,h1]:=zz;subst e;show{c,Jy (ok.step h) j,q _ _ _ H1 h1 h Dn}
noncomputable def RG{r r'}{pr i}(B:BE r pr)(o:BE r' i)(E:Bs ta pa)(D:Bs tb pb)(C:Bs tc pc):Bs (MI r r' ta tb tc) (Jx pr i pa pb pc):=λW Y U H Q K ok h q=>E W Y U H _ _ ok h λx f v H1 h1 c A=>D W Y U H1 _ _ (ok.step c) h1 λy g u H2 h2 d p=>B W Y U H H2 _ _ x y f g v u ((ok.step c).step d) (c.trans d) (A.step (ok.step c) d) (p.back c) h2 λz h v' s⟨k,e,m⟩l n=>by subst e;let a:=(c.trans d).trans l;show{k,Jy (ok.step a) n,?_};cases k with
   |false=>show q _ _ _ s m a Dn|true=>show C W Y U s _ _ (ok.step a) m λz I u' J G j w=>o W Y U H J Q K y z g I u u' (ok.step (a.trans j)) (a.trans j) ((p.back c).step (ok.step (c.trans d)) (l.trans j)) (w.back a) G λz h v' H' m l n=>q z h v' H' m ((a.trans j).trans l) n
def RH{op d}{r r'}(q:∀i,Az (Xs i) (compareOp op) r)(p:BE r pr)(g:∀i,Az (Xs i) (compareOp d) r')(f:BE r' e)(w:QE Xs a pa)(v:QE Xs b pb)(u:QE Xs c pc)(s:lastMarks [op,d] [b,c]=false:=by with_unfolding_all rfl):QE Xs (.Compare a [op,d] [b,c] pos) (Jx pr e pa pb pc):=by let[ta,o,n]:=w;let[tb,m,l]:=v;let[tc,j,h]:=u;show{_,λi=>Wq (q i) (g i) (o i) (m i) (j i) s,RG p f n l h}
def RI{op d}{r r'}(q:∀i,Az (Xs i) (compareOp op) r)(p:BE r pr)(g:∀i,Az (Xs i) (compareOp d) r')(f:BE r' e)(w:QE Xs a pa)(v:QE Xs b pb)(u:QE Xs c pc)(s:lastMarks [op,d] [b,c]=false:=by with_unfolding_all rfl):QT Xs (.Compare a [op,d] [b,c] pos) (GS (Jx pr e pa pb pc)):=by let[ta,o,n]:=w;let[tb,m,l]:=v;let[tc,j,h]:=u;show{_,λi=>Wr (q i) (g i) (o i) (m i) (j i) s,M1 (RG p f n l h)}
end
inductive Xn where|nm(x:Str)|vl(x f:Str)(v:P)
instance:Coe Str Xn:=#[Xn.nm]
instance:Coe String Xn:={λx=>Xn.nm (Str.ofString x)}
structure PEnds where
 nx:dJ->Prop
 rt:P->Prop
 bk:dJ->Prop:=λ_=>False
 ct:dJ->Prop:=λ_=>False
 ex:Xn->(Xn->Hp->Prop)->Prop:=λ_ _=>False
noncomputable abbrev pS:=PEnds->dJ->Prop
def RJ(W:Wd)(H:Hp)(x:P)(v:V):Prop:=(Bag H W.b W.a/\(∀p o,p≠W.b->W.H₀ p\o->H p\o)/\Rp W.b (λp=>W.H₀ p≠none) H x v)
structure RelD(W:Wd)(E:PEnds)(D:Ends):Prop where
 nx:∀Y U H,E.nx Y->Ok W Y U H->D.nx U H
 rt:∀x v H,E.rt x->RJ W H x v->D.rt v H
 bk:∀Y U H,E.bk Y->Ok W Y U H->D.bk U H
 ct:∀Y U H,E.ct Y->Ok W Y U H->D.ct U H
 noO:∀p,¬W.O p
 ex:∀n H EX,E.ex n EX->Bag H W.b W.a->(∀p o,p≠W.b->W.H₀ p\o->H p\o)->EX n H
def GW(t:TS)(p:pS):Prop:=(∀(W:Wd)(Y:dJ)(U:St)(H:Hp)(D:Ends)(E:PEnds),Ok W Y U H->p E Y->RelD W E D->t D U H)
def QS(Xs:ι->Cx)(st:Stmt)(p:pS):Prop:=(∃t,(∀i,PS (Xs i) st t)/\GW t p)
def BK(Xs:ι->Cx)(st:Ha)(p:pS):Prop:=(∃t,(∀i,BS (Xs i) st t)/\GW t p)
def M5:pS:=(λE Y=>E.nx Y)
def M6(p q:pS):pS:=(λE Y=>p {E with nx:=q E} Y)
def RK:pS:=(λ_ _=>False)
def Ed(x:P)(f:Fl):Bool:=(x.imm||(match f with|.cl=>false|.an=>false|_=>true))
def A4(p:pE):pS:=(λE Y=>p Y λx f=>Ed x f=true/\E.rt x)
def M7(c:pT)(p q:pS):pS:=(λE Y=>c Y λb=>if b=true then p E Y else q E Y)
def Hr(p:pE)(k:Nat):pS:=(λE Y=>p Y λx f=>Bl k x f Y E.nx)
section
variable{st:Stmt}{qE:Ha}{p q:pS}{a:Expr}
def C8:BK Xs [] M5:={_,λ_=>BX,λW Y U H D E ok h r=>r.nx Y U H h ok}
def Ad(h:QS Xs st p):BK Xs [st] p:=by let[t,h1,h2]:=h;show{t,λi=>Ao (h1 i),h2}
def Aj(h:QS Xs st p)(g:BK Xs qE q):BK Xs (st::qE) (M6 p q):=by let[t,h1,h2]:=h;let[u,d,c]:=g;show#[_,λi=>Aa (h1 i) (d i),λW Y U H D E ok h r=>h2 W Y U H _ _ ok h {λρ' σ' H' e a=>c W ρ' σ' H' D E a e r,r.rt,r.bk,r.ct,r.noO,r.ex}]
def BK.weak{p m}(h:BK Xs qE p)(hw:∀E Y,m E Y->p E Y):BK Xs qE m:=by let[t,h1,h2]:=h;show{t,h1,λW Y U H D E ok h r=>h2 W Y U H D E ok (hw E Y h) r}
def Yy:QS Xs st RK:={_,λ_=>WI,λ_ _ _ _ _ _ _ h _=>h.elim}
def RF.ret{x}(ok:Ok W Y U H)(h:RF W Y U Hs f H x v)(l:Ed x f=true):RJ W H x v:=by
 show#[ok.bag,ok.old,?_];by_cases hi:x.imm=true
 .show(h.any ok).imm hi
 .let k:∀{g},(∀p,W.H₀ p≠none->AJ W Y U g p)->Rp W.b _ H x v->Rp W.b _ H x v:=λ{g}m h=>h.keep (λp o j e=>{λz=>j (m p z),e}) λp vs e=>e;cases f with
  |nw=>show k (g:=.fr) (λp z=>.inr (.inr z)) h.1|fr=>show k (g:=.fr) (λp z=>.inr (.inr z)) h|rf=>show k (g:=.rf) (λp z=>.inr z) h|cl=>simp[Ed,hi]at l|an=>simp[Ed,hi]at l|bo=>let[p,h1,h2,d]:=h;let nb:=(ok.ow (.inr h2)).1;let k2:∀{xs}{vs},AC W.b (Zf W Y U) H xs vs->AC W.b (λp=>W.H₀ p≠none) H xs vs:=λh=>h.keep (λp o j e=>{λz=>j (.inr (.inr z)),e}) λp vs e=>e;cases x with
   |lst xs=>let[vs,c,a]:=d;show{p,vs,h1,λz=>z nb,c,k2 a}|dT ks xs=>let[vs,c,i,a]:=d;show{p,vs,h1,λz=>z nb,c,i,k2 a}|fT ks xs=>let[vs,c,i,a]:=d;show{p,vs,h1,λz=>z nb,c,i,k2 a}|dK ks xs=>let[vs,c,i,a]:=d;show{p,vs,h1,λz=>z nb,c,i,k2 a}|_=>show d.elim
def A5(h:QE Xs a pa):QS Xs (.Return (some a) pos) (A4 pa):=by let[t,h1,h2]:=h;show{_,λi=>B9 (h1 i),λW Y U H D E ok h r=>h2 W Y U H _ _ ok h λx f v H1 zz c d=>(by let[k0,k]:=zz;show r.rt x v H1 k (d.ret (ok.step c) k0))}
noncomputable def Cb{c}{l j}(o:QT Xs c pc)(u:BK Xs l p)(s:BK Xs j q):QS Xs (.If c l j pos) (M7 pc p q):=by let[tc,d,a]:=o;let[ta,h,g]:=u;let[tb,f,e]:=s;show{_,λi=>BY (d i) (h i) (f i),λW Y U H D E ok n r=>a W Y U H _ _ ok n λc H1 h1 m=>?_};cases c with
 |true=>show g W Y U H1 D E (ok.step m) h1 r|false=>show e W Y U H1 D E (ok.step m) h1 r
def RL(h2:Bs t pa):GW (ET t (Bq k)) (Hr pa k):=λW Y U H D E ok h r=>h2 W Y U H _ _ ok h λx f v H1 g c d=>by let[ρ',e,a]:=Ok.set ok c d g;show r.nx ρ' _ H1 e a
def BF(f:∀i,(Xs i).N.Nodup)(h:QE Xs a pa)(hi:∀i,(Xs i).N[k]?\x:=by rfl)(c:∀i,D5 (Xs i).env.scope x:=by intro _;trivial)(d:∀i,swapsWith a (some (.Name x pos')) pos.line (Xs i).env=pure false:=by rfl)(e:∀i,(Xs i).fn x=true\/(Xs i).env.scope.names.lookup x\.local:=by intro _;trivial):QS Xs (.Assign [.Name x pos'] a pos) (Hr pa k):=by let[t,h1,h2]:=h;show{_,λi=>Ap (f i) (hi i) (c i) (h1 i) (d i) (e i),RL h2}
end
noncomputable abbrev pG:=P->Fl->dJ->(dJ->Prop)->Prop
def Ht(g:TG)(p:pG):Prop:=(∀(W:Wd)(Y:dJ)(U:St)(Hs H:Hp)(x:P)(f:Fl)(v:V)(Q:St->Hp->Prop)(K:dJ->Prop),Ok W Y U Hs->Step W.b W.a Hs H->RF W Y U Hs f H x v->p x f Y K->(∀ρ' σ',K ρ'->Ok W ρ' σ' H->Q σ' H)->g v U H Q)
def QG(Xs:ι->Cx)(tg:Expr)(p:pG):Prop:=(∃g,(∀i,PG (Xs i) tg g)/\Ht g p)
noncomputable def Jz:Ex->dI->Fl->dJ->(dJ->Prop)->Prop
 |[],[],_,Y,K=>K Y|k::ks,x::xs,f,Y,K=>Bl k x f Y λρ'=>Jz ks xs f ρ' K|_,_,_,_,_=>False
def GX(ks:Ex):pG:=(λx f Y K=>∃xs,x=.tup xs/\xs.length=ks.length/\Jz ks xs f.el Y K)
noncomputable def Ee:Ex->FX|[]=>E4|k::ks=>gCons (Bq k) (Ee ks)
section
def RM(k):Ht (Bq k) (λx f Y K=>Bl k x f Y K):=λW Y U Hs H x f v Q K ok st r h q=>by let[ρ',e,a]:=Ok.set ok st r h;show q ρ' _ e a
def Dp(d:∀i,(Xs i).N.Nodup)(hi:∀i,(Xs i).N[k]?\x:=by rfl)(a:∀i,D5 (Xs i).env.scope x:=by intro _;trivial)(c:∀i,(Xs i).fn x=true\/(Xs i).env.scope.names.lookup x\.local:=by intro _;trivial):QG Xs (.Name x pos) (Bl k):={_,λi=>Ag (d i) (hi i) (a i) (c i),RM k}
def Yz{x}{K}(ok:Ok W Y U H)(r:Rp W.b (AJ W Y U f) H x v)(h:Bl k x f.el Y K):∃ρ',K ρ'/\Ok W ρ' (U.set k (some v)) H/\∀p,A8 ρ' (U.set k (some v)) p->A8 Y U p:=by
 unfold Bl at h;split at h
 .rename_i hi;let[ρ',e,a]:=Ok.set ok (Step.refl ok.bag) (RF.ofEl r) (by unfold Bl;rw[aC hi]);subst e;show{_,h,a,Ho λ_ z=>nomatch z}
 .rename_i hi;let k1:∀(s),(∀x,s≠.own x)->K _->Bl k x f.el Y (λρ'=>ρ'=Y.set k s)->∃ρ',K ρ'/\Ok W ρ' _ H/\∀p,A8 ρ' (U.set k (some v)) p->A8 Y U p:=λs c g d=>by let[ρ',e,a]:=Ok.set ok (Step.refl ok.bag) (RF.ofEl r) d;subst e;show{_,g,a,Ho c}
  cases f with
  |nw=>show k1 (.fr x) '6' h (by unfold Bl;rw[aB hi];rfl)|fr=>show k1 (.fr x) '6' h (by unfold Bl;rw[aB hi];rfl)|bo=>show k1 (.fr x) '6' h (by unfold Bl;rw[aB hi];rfl)|cl=>show k1 (.sh x) '6' h (by unfold Bl;rw[aB hi];rfl)|_=>show h.elim
theorem RN{Q}{K}:∀{ks}{xs}{vs}{Y}{U},Ok W Y U H->AC W.b (AJ W Y U f) H xs vs->Jz ks xs f.el Y K->(∀ρ' σ',K ρ'->Ok W ρ' σ' H->Q σ' H)->Ee ks vs U H Q
 |[],[],vs,Y,U,ok,r,h,q=>{r,q Y U h ok}|[],_::_,_,_,_,_,_,h,_=>h.elim|_::_,[],_,_,_,_,_,h,_=>h.elim|k::ks,x::xs,vs,Y,U,ok,r,h,q=>by let[v,t,g,d,c]:=r;subst g;let[ρ',e,a,sub]:=Yz ok d h;show{v,t,0,RN a (AC.move ok.bag (Step.refl ok.bag) (λp z=>.inl (sub p z)) c) e q}
def M8{K}{ks}(d:ks.length=n):Ht (gTup K n (Ee ks)) (GX ks):=λW Y U Hs H x f v Q K ok st r h q=>by
 let[xs,0,e,h]:=h;let[p,vs,0,hc,a]:=r.items rfl;let hc:H p\(.tup vs):=by let[j,c,i,g,_]:=r.any (ok.step st);lia
 show{p,vs,0,.of hc,by rw[<-a.length,e,d],RN (ok.step st) a h q}
def M9{k1}{ks}(e:∀i,(Xs i).calm=true)(f:∀i,(Xs i).K=Kf)(h:∀i,FY (Xs i) es (Ee ks))(d:ks.length=n)(c:∀i,(assignEach es (Xs i).env).length=n:=by rfl)(a:∀i,(assignEach es (Xs i).env).findIdx? (·.1)=none:=by rfl):QG Xs (.Tuple es k1 pos) (GX ks):={gTup Kf n _,λi=>by let:=DI (k:=k1) (pos:=pos) (e i) (h i) (c i) (a i);simp_all,M8 d}
end
noncomputable abbrev pF:=dI->(P->Prop)->Prop
inductive spP(f:pF)(vs:dH)(H:Hp)(Q:VK)(E:XK):Prop|mk(b a:Addr)(xs:dI)(K:P->Prop)(hb:Bag H b a)(r:AC b (λp=>p=b) H xs vs)(hf:f xs K)(k:∀x v H',K x->Step b a H H'->Rp b (λp=>H p≠none) H' x v->Q v H')
def FI(n:Nat)(xs:dI):dJ:=(xs.map S.sh++replicate (n-xs.length) S.emp)
def J0(f:pF)(pa:pA):pE:=(λY K=>pa Y λxs=>f (xs.map (·.1)) λz=>K z .nw)
def Y0(h:vs[i]?\v):(start N vs)[i]?\(some v):=by
 unfold start;let hi:i<vs.length:=by
  let q||q:=cE i vs.length
  .show q
  simp_all
 rw[getElem?_append_left (by simp_all),bO,h];rfl
def RO{x}:(FI n xs)[i]?≠some (.own x):=by
 intro h;let a:=aM h;let z||z:=bA.mp a
 .simp_all
 simp_all
theorem RP(g:Bag H b a)(r:AC b (λp=>p=b) H xs vs)(m:xs.length<=N.length):Ok {b,a,H,λ_=>none,λ_=>False} (FI N.length xs) (start N vs) H where
 bag:=g
 fb:=rfl
 old:=λ_ _ _ e=>e
 frm:=λ_ _ e=>nomatch e
 oo:=λ_ z=>z.elim
 len:=by let:=r.length;simp only[start,FI,aG,aA,length_replicate];simp only[*]
 slot:=λi s e=>by
  let c:=r.length;unfold FI at e;let q||q:=cE i xs.length
  .rw[getElem?_append_left (by rw[aA];show q),bO]at e;let[v,h1,h2]:=r.get (i:=i) (x:=xs[i]) (by simp[q]);simp only[aH q,Option.map_some]at e;cases e;show{some v,Y0 h1,v,0,h2.keep (λp o d e=>{λz=>d ?_,e}) λp vs e=>e};let z||z:=z
   .show z
   .let z||[j,y,h,_]:=z
    .show z.elim
    .show bS h RO
  .rw[getElem?_append_right (by rw[aA];show q),aA]at e;let f:=aM e;let l:=(mem_replicate.mp f).2;subst l;let hi:i-xs.length<N.length-xs.length:=by
    let z||z:=cE _ (N.length-xs.length)
    .show z
    .rw[bQ (by rw[length_replicate];show z)]at e;cases e
   show#[none,?_,trivial];unfold start;rw[getElem?_append_right (by rw[aA,<-c];show q),aA,<-c,getElem?_replicate,aC hi]
 uniq:=λi j x y h1=>bS h1 RO
section
variable{K:Fg}
def BI{st}{f}(D:Ai K mg x st)(S:FnScope N ps (AL st))(q:∀(kV doc pm)(an:FG)(c ct)(us:B6),us.length=ps.length->bindArgs (PySem.W.fnOf x x (Ca st) (Bi st) (AL st) .none kV doc pm an c ct) {us,[]}=pure (ps.zip us))(len:∀xs K,f xs K->xs.length=ps.length)(u:ps.length<=N.length)(d:∀(j)(c)(A)(outer)(s)(H)(E),Room k (A.deeper (PyProof.Rows.envOfC x (AL st) 'H' j c))->∃p,BK (λ_:Unit=>(EY Dm P' w K mg base N x (AL st) j c A outer s H E).nox) (Bi st) p/\∀xs K,f xs K->p {nx:=λ_=>K .non,rt:=K} (FI N.length xs)):'E' x (k+1) ps (spP f):=by
 show DZ D S q (λvs H Q E h=>?_) (λj c A outer s H vs Q E o h=>?_)
 .let[b,a,xs,K,_,r,i,_]:=h;rw[<-r.length];show len xs K i
 .let[b,a,xs,n,g,r,i,m]:=h;let[p,[t,h1,h2],B]:=d j c A outer s H E o;show#[t,h1 (),h2 _ _ _ H _ _ (RP g r (by rw[len xs n i];show u)) (B xs n i) {λY U H' e ok=>?_,λy v H' e l=>?_,λ_ _ _ e=>e.elim,λ_ _ _ e=>e.elim,λ_ z=>z,λ_ _ _ e=>e.elim}]
  .show m _ _ H' e #[ok.bag,ok.old] rfl
  .show m y v H' e #[l.1,l.2.1] l.2.2
def Fn.imp(F:'E' x k ps sp)(h:∀vs H Q E,sp' vs H Q E->sp vs H Q E):'E' x k ps sp':=by let[f,fd,F,r]:=F;show{f,fd,F.imp h,r}
end
section
def Y1{f}{pa}(h2:Ms t pa):Bs (EW (spP f) [] E0 t) (J0 f pa):=λW Y U H Q K ok l q=>h2 W Y U H _ _ ok l λxs vs H1 h1 g i=>by let d:=ok.step g;rw[cP];show#[W.b,W.a,_,_,g.bag,(i.any d),h1,λx v H' k1 h c=>q x .nw v H' k1 (g.trans h) {c.keep (λp o j e=>{λz=>j (d.dom z),e}) λp vs e=>e,λm=>?_}];let k2:∀p,¬H1 p≠none->H p=none:=λp z=>g.free (Classical.not_not.mp z);cases x with|lst xs=>let[p,us,e,z,_]:=c;show{p,e,k2 p z}|dT ks xs=>let[p,us,e,z,_]:=c;show{p,e,k2 p z}|fT ks xs=>let[p,us,e,z,_]:=c;show{p,e,k2 p z}|dK ks xs=>let[p,us,e,z,_]:=c;show{p,e,k2 p z}|_=>simp[P.mut]at m
def Ae{f}{p}{pa}(G:∀i,Fn (Xs i).prog (Xs i).w (Xs i).K (Xs i).mg (Xs i).base x k ps (spP f))(d:∀i,Room k (Xs i).A)(j:QA Xs (e::es) pa)(g:∀i,Gl (Xs i) x:=by rfl)(c:No x:=by decide+kernel)(h:∀i,starEach (e::es) (Xs i).env=(false,eval e (Xs i).env)::starEach es (Xs i).env:=by rfl)(a:∀i,(backTo pos (starEach es (Xs i).env)).any (·.1)=false:=by rfl):QE Xs (.Call (.Name x p) (e::es) [] pos) (J0 f pa):=by let[t,h1,h2]:=j;show{_,λi=>CF (G i) (d i) (g i) (h1 i) c (h i) (a i),Y1 h2}
end
open Classical in
def frz(W:Wd)(Y:dJ)(U:St)(H:Hp):Hp:=(λp=>if p=W.b\/Ow W Y U p then none else H p)
noncomputable abbrev Wd.frz(W:Wd)(Y:dJ)(U:St)(H:Hp):Wd:={W with F:=L2.frz W Y U H}
noncomputable abbrev J1(W:Wd)(Y:dJ)(U:St)(H1:Hp):(Addr->Prop)->dJ->St->Hp->Prop:=λO' ρ' σ' H'=>O'=W.O/\Ok (W.frz Y U H1) ρ' σ' H'
noncomputable abbrev J4(W:Wd)(Y:dJ)(U:St)(H1:Hp):(Addr->Prop)->dJ->St->Hp->Prop:=λO' ρ' σ' H'=>(∀p,O' p->W.O p\/H1 p=none)/\ρ'=Y/\σ'=U/\Ok W Y U H'/\Step W.b W.a H1 H'
def Ef(W:Wd)(Lt:(Addr->Prop)->dJ->St->Hp->Prop)(J:It)(xs:dI)(f:Fl):Prop:=(∀O' ρ' σ' H',Lt O' ρ' σ' H'->∀i,(i<xs.length->J.go i H')/\(xs.length<=i->J.stop i H')/\∀v H'',J.yld i H' v H''->∀x,xs[i]?\x->Step W.b W.a H' H''/\RF {W with O:=O'} ρ' σ' H' f H'' x v)
noncomputable abbrev pI:=dJ->(dI->Fl->Bool->Prop)->Prop
def RQ(wi:TI)(p:pI):Prop:=(∀(W:Wd)(Y:dJ)(U:St)(H:Hp)(R:It->Hp->Prop)(K:dI->Fl->Bool->Prop),Ok W Y U H->p Y K->(∀xs f st J H1,K xs f st->Step W.b W.a H H1->Ef W (J4 W Y U H1) J xs f->(st=true->Ef W (J1 W Y U H1) J xs f)->R J H1)->wi U H R)
def QI(Xs:ι->Cx)(tg e:Expr)(p:pI):Prop:=(∃wi,(∀i,PI (Xs i) tg e wi)/\RQ wi p)
section
variable{Hs:Hp}{x:P}{k:Nat}
def Hu(hz:¬(p=W.b\/Ow W Y U p)):frz W Y U H p=H p:=by unfold frz;rw[aB hz]
def J5(hz:p=W.b\/Ow W Y U p):frz W Y U H p=none:=by unfold frz;rw[aC hz]
def Y2(h:frz W Y U H p\o):H p\o/\p≠W.b/\¬Ow W Y U p:=by
 by_cases a:p=W.b\/Ow W Y U p
 .rw[J5 a]at h;cases h
 .rw[Hu a]at h;simp_all
theorem Ok.frz(ok:Ok W Y U H):Ok (W.frz Y U H) Y U H where
 bag:=ok.bag
 fb:=J5 (.inl rfl)
 old:=ok.old
 frm:=λp o e=>(Y2 e).1
 oo:=λp h=>(by let[h1,h2,m,l,j]:=ok.oo p h;show{h1,J5 (.inr (.inl h)),m,l,j})
 len:=ok.len
 slot:=λi s e=>by let[o,h1,h2]:=ok.slot i s e;show#[o,h1,?_];cases s with
  |emp=>trivial|sh x=>show h2|fr x=>show h2|own x=>let[p,a,g,n,f,d,c]:=h2;show{p,a,g,J5 (.inr (.inr {i,x,e,by rw[h1,a]})),f,d,c}
 uniq:=ok.uniq
theorem Ok.thaw(a:Ok W Y U H)(ok:Ok (W.frz Y U H) ρ' σ' H'):Ok W ρ' σ' H' where
 bag:=ok.bag
 fb:=a.fb
 old:=ok.old
 frm:=λp o e=>by
  let hb:p≠W.b:=λz=>by rw[z,a.fb]at e;cases e
  let d:¬Ow W Y U p:=λz=>by rw[(a.ow z).2.1]at e;cases e
  show ok.frm p o ((Hu λz=>z.elim hb d).trans (a.frm p o e))
 oo:=λp h=>(by let[h1,h2,v,r,q]:=ok.oo p h;show{h1,(a.oo p h).2.1,v,r,q})
 len:=ok.len
 slot:=λi s e=>by let[o,h1,h2]:=ok.slot i s e;show#[o,h1,?_];cases s with
  |emp=>trivial|sh x=>show h2|fr x=>show h2|own x=>let[p,n,m,c,g,l,j]:=h2;show#[p,n,m,?_,g,l,j];cases f:W.F p with
   |none=>rfl|some u=>
    let hb:p≠W.b:=g;let d:¬Ow W Y U p:=λz=>by rw[(a.ow z).2.1]at f;cases f
    let c:L2.frz W Y U H p=none:=c;rw[Hu (λz=>z.elim hb d),a.frm p u f]at c;cases c
 uniq:=ok.uniq
def Hv(ok:Ok W Y U H)(c:Ok (W.frz Y U H) ρ' σ' H')(l:f=.nw\/f=.fr\/f=.cl):(∀p o,¬AJ W Y U f p->H p\o->¬AJ W ρ' σ' f p/\H' p\o)/\∀p vs,H p\(.tup vs)->H' p\(.tup vs):=by
 let c:=c;let n:∀p,¬AJ W Y U f p->p≠W.b:=λp z e=>z (e▸AJ.b);let j:∀p,¬AJ W Y U f p->¬Ow W Y U p:=λp z e=>z (by let 0||0||0:=l<;>simp[AJ,e]);show{λp o a e=>?_,λp vs e=>?_}
 .let d:=(Hu λz=>z.elim (n p a) (j p a)).trans e;let g:¬A8 ρ' σ' p:=λz=>by let:=(c.ow (.inr z)).2.1;let this:L2.frz W Y U H p=none:=this;rw[d]at this;cases this
  show{λz=>?_,c.frm p o d};let h:=λz=>j p a (.inl z);let 0||0||0:=l<;>simp only[AJ,not_or]at z a
  .rcases z with z|(z|z)|z
   .show a.1 z
   .show h z
   .show g z
   .show a.2.2 z
  .rcases z with z|(z|z)|z
   .show a.1 z
   .show h z
   .show g z
   .show a.2.2 z
  .rcases z with z|(z|z)
   .show a.1 z
   .show h z
   .show g z
 .show c.frm p _ ((Hu λz=>z.elim (ok.bag.neT e).1 λz=>?_).trans e);let[_,_,_,_,o,i,m]:=ok.ow z;rw[e]at i;cases i;show m vs rfl
def RR{c}(st:Step W.b W.a H H')(d:∀p,c p->W.O p\/H p=none)(p)(o)(hz:¬AJ W Y U f p)(e:H p\o):¬AJ {W with O:=c} Y U f p/\H' p\o:=by
 show{λz=>hz ?_,st.same p o (λz=>hz (z▸AJ.b)) e};let k:Ow {W with O:=c} Y U p->Ow W Y U p:=λz=>z.elim (λz=>(d p z).elim .inl λz=>by simp_all) .inr;cases f<;>simp only[AJ]at z⊢
 all_goals first|show z|show z.elim .inl λz=>.inr (k z)|show z.elim .inl λz=>.inr (z.elim (λz=>.inl (k z)) .inr)
def Dc(f:Fl):Bool:=(match f with|.nw=>true|.fr=>true|.cl=>true|_=>false)
def J6(h:Dc f=true):f=.nw\/f=.fr\/f=.cl:=by cases f<;>simp_all[Dc]
def Y3{K}(ok:Ok W Y U H)(r:RF W Y U Hs f H (.lst xs) (.ref p))(s:H p\(.lst vs))(rv:AC W.b (AJ W Y U f) H xs vs):Ef W (J4 W Y U H) (D6 K p) xs f.el/\(Dc f=true->Ef W (J1 W Y U H) (D6 K p) xs f.el):=by
 let l:p≠W.b:=by let[q,us,h,c,_]:=r.any ok;cases h;show c
 let core:∀j ρ' σ' H',H' p\(.lst vs)->AC W.b _ H' xs vs->Bag H' W.b W.a->∀i,(i<xs.length->(D6 K p).go i H')/\(xs.length<=i->(D6 K p).stop i H')/\∀v d,(D6 K p).yld i H' v d->∀x,xs[i]?\x->Step W.b W.a H' d/\RF {W with O:=j} ρ' σ' H' f.el d x v:=λj ρ' σ' H' e n C i=>by let g:=n.length;show{λhi=>{vs,vs[i]'(by simp_all),.of e,by simp[<-g,hi]},λhi=>{vs,.of e,(by simp_all)},λv d y x B=>?_};let[c,y]:=y;subst c;let[u,G,E]:=n.get B;let w:=y vs (.of e);rw[G]at w;cases w;show{Step.refl C,RF.ofEl E}
 show{λj ρ' σ' H' g i=>?_,λo j ρ' σ' H' g i=>?_}
 .let[D,0,0,z,st]:=g;show core _ _ _ H' (st.same p _ l s) (rv.keep (RR st D) λq us e=>st.same q _ (ok.bag.neT e).1 e) st.bag i
 .let[0,g]:=g;let m:=Hv ok g (J6 o);let A:¬AJ W Y U f p:=by cases f with
   |nw=>let[q,us,h,c,_]:=r.1;cases h;show c|fr=>let[q,us,h,c,_]:=r;cases h;show c|cl=>let[q,us,h,c,_]:=r;cases h;show c|_=>simp[Dc]at o
  show core _ _ _ H' (m.1 p _ A s).2 (rv.keep m.1 m.2) g.bag i
def Y4{K}(ok:Ok W Y U H)(j:H p\(.tup vs))(rv:AC W.b (AJ W Y U f) H xs vs):Ef W (J4 W Y U H) (FZ K p) xs f.el/\(Dc f=true->Ef W (J1 W Y U H) (FZ K p) xs f.el):=by
 let core:∀g ρ' σ' H',H' p\(.tup vs)->AC W.b _ H' xs vs->Bag H' W.b W.a->∀i,(i<xs.length->(FZ K p).go i H')/\(xs.length<=i->(FZ K p).stop i H')/\∀v c,(FZ K p).yld i H' v c->∀x,xs[i]?\x->Step W.b W.a H' c/\RF {W with O:=g} ρ' σ' H' f.el c x v:=λg ρ' σ' H' e l s i=>by let d:=l.length;show{λhi=>{vs,vs[i]'(by simp_all),.of e,by simp[<-d,hi]},λhi=>{vs,.of e,(by simp_all)},λv c y x o=>?_};let[B,y]:=y;subst B;let[u,A,z]:=l.get o;let m:=y vs (.of e);rw[A]at m;cases m;show{Step.refl s,RF.ofEl z}
 show{λg ρ' σ' H' d i=>?_,λr g ρ' σ' H' d i=>?_}
 .let[w,0,0,n,st]:=d;show core _ _ _ H' (st.same p _ (ok.bag.neT j).1 j) (rv.keep (RR st w) λq us e=>st.same q _ (ok.bag.neT e).1 e) st.bag i
 .let[0,d]:=d;let h:=Hv ok d (J6 r);show core _ _ _ H' (h.2 p _ j) (rv.keep h.1 h.2) d.bag i
end
def RS(p:pE):pI:=(λY K=>p Y λx f=>∃xs,x=.lst xs/\K xs f.el (Dc f))
def RT(p:pE):pI:=(λY K=>p Y λx f=>∃xs,x=.tup xs/\K xs f.el (Dc f))
def EC(lo:Int)(n:Nat):dI:=((List.range n).map λ(k:Nat)=>P.int (lo+k))
def NA(p:pA):pI:=(λY K=>p Y λxs=>∃j f,xs=[(P.int j,f)]/\-(2^62)<=j/\j<2^62/\K (EC 0 j.toNat) .fr true)
def NB(p:pA):pI:=(λY K=>p Y λxs=>∃i j f g,xs=[(P.int i,f),(P.int j,g)]/\(-(2^62)<=i/\i<2^62/\-(2^62)<=j/\j<2^62)/\K (EC i (j-i).toNat) .fr true)
def RU(p:pE):pI:=(λY K=>p Y λx f=>∃z,x=.str z/\K (z.cps.toList.map λc=>P.str {[c].toArray}) .fr true)
def C9(lo)(n):(EC lo n).length=n:=by simp[EC]
def FJ{lo}{x}(h:(EC lo n)[i]?\x):i<n/\x=.int (lo+i):=by
 unfold EC at h;rw[bO]at h;let q||q:=cE i n
 .simp_all
 simp_all
section
variable{a:Expr}
def B3(r:∀i,(Xs i).K=Kf)(h:QE Xs a pa):QI Xs tg a (RS pa):=by
 let[t,h1,h2]:=h;show{Pg Kf t,λi=>by let:=MD (tg:=tg) (h1 i);simp_all,λW Y U H R K ok o q=>h2 W Y U H _ _ ok o λx f v H1 zz g d=>?_};let[xs,e,k1]:=zz;subst e;let c:=ok.step g;let[p,vs,w,u,s]:=d.items rfl;subst w;let l:H1 p\(.lst vs):=by let[q,us,n,y,m,_]:=d.any c;lia
 let j:=Y3 (K:=Kf) c d l s;show{p,0,{vs,.of l},q xs _ _ _ H1 k1 g j.1 j.2}
def ED(r:∀i,(Xs i).K=Kf)(h:QE Xs a pa):QI Xs tg a (RT pa):=by
 let[t,h1,h2]:=h;show{Ph Kf t,λi=>by let:=WU (tg:=tg) (h1 i);simp_all,λW Y U H R K ok o q=>h2 W Y U H _ _ ok o λx f v H1 zz d g=>?_};let[xs,e,k1]:=zz;subst e;let c:=ok.step d;let[p,vs,w,u,s]:=g.items rfl;subst w;let l:H1 p\(.tup vs):=by let[q,us,n,m,_]:=g.any c;lia
 let j:=Y4 (K:=Kf) c l s;show{p,0,{vs,.of l},q xs _ _ _ H1 k1 d j.1 j.2}
def J7{f}(c:∀d ρ' σ' H',f d ρ' σ' H'->Bag H' W.b W.a)(n:∀i H',i<xs.length->J.go i H')(j:∀i H',xs.length<=i->J.stop i H')(g:∀i H' v H'' x,J.yld i H' v H''->xs[i]?\x->H''=H'/\x.imm=true/\∀(b)(Z),Rp b Z H' x v):Ef W f J xs .fr:=λd ρ' σ' H' m i=>#[n i H',j i H',λv H'' y x h=>by let[e,hi,l]:=g i H' v H'' x y h;subst e;show{Step.refl (c _ _ _ _ m),l _ _}]
def J8{lo}:Ef W (J4 W Y U H) (Dk lo n) (EC lo n) .fr/\(true=true->Ef W (J1 W Y U H) (Dk lo n) (EC lo n) .fr):=by
 let d:∀i H' v a x,(Dk lo n).yld i H' v a->(EC lo n)[i]?\x->a=H'/\x.imm=true/\∀(b)(Z),Rp b Z H' x v:=λi H' v a x y e=>by let[j,g]:=y;let[_,f]:=FJ e;subst f;show{j,0,λ_ _=>g}
 show{J7 (λ_ _ _ _ c=>c.2.2.2.1.bag) (λi H' h=>by rw[C9]at h;show h) (λi H' h=>by rw[C9]at h;show h) d,λ_=>J7 (λ_ _ _ _ c=>c.2.bag) (λi H' h=>by rw[C9]at h;show h) (λi H' h=>by rw[C9]at h;show h) d}
def EF{p}(h:∀i,(Xs i).mg "range"=none)(n:QA Xs [a] pr)(m:∀i,Gl (Xs i) "range":=by rfl)(g:∀i,starEach [a] (Xs i).env=[(false,eval a (Xs i).env)]:=by rfl):QI Xs tg (.Call (.Name "range" p) [a] [] pos) (NA pr):=by let[t,h1,h2]:=n;show{_,λi=>GC (m i) (h i) (h1 i) (g i),λW Y U H R K ok l q=>h2 W Y U H _ _ ok l λxs vs H1 zz c d=>?_};let[j,f,e,w,u,k1]:=zz;subst e;let[v,t,s,r,o]:=d;subst s;cases(o);cases Ck (ok.step c) r;show{j,0,w,u,q _ _ _ _ H1 k1 c J8.1 J8.2}
def RV{p}(o:∀i,(Xs i).mg "range"=none)(u:QA Xs [a,b] pr)(s:∀i,Gl (Xs i) "range":=by rfl)(n:∀i,starEach [a,b] (Xs i).env=[(false,eval a (Xs i).env),(false,eval b (Xs i).env)]:=by rfl)(d:∀i,starEach [b] (Xs i).env=[(false,eval b (Xs i).env)]:=by rfl):QI Xs tg (.Call (.Name "range" p) [a,b] [] pos) (NB pr):=by let[t,h1,h2]:=u;show{_,λi=>WX (s i) (o i) (h1 i) (n i) (d i),λW Y U H R K ok r q=>h2 W Y U H _ _ ok r λxs vs H1 zz c l=>?_};done<;>(let[j,m,f,g,e,B,k1]:=zz;subst e;let[v,t,A,z,C,h,y,x,w]:=l);subst A;subst y;cases(w);cases Ck (ok.step c) z;cases Ck (ok.step c) x;show{j,m,0,B,q _ _ _ _ H1 k1 c J8.1 J8.2}
def Y5(h:QE Xs a pa):QI Xs tg a (RU pa):=by
 let[t,h1,h2]:=h;show{_,λi=>YQ (h1 i),λW Y U H R K ok r q=>h2 W Y U H _ _ ok r λx f v H1 zz m p=>?_};let[z,e,k1]:=zz;subst e;let d:(z.cps.toList.map λc=>P.str {[c].toArray}).length=(DY z).length:=by simp[DY]
 let n:∀i H' v g x,(Jn (DY z)).yld i H' v g->(z.cps.toList.map λc=>P.str {[c].toArray})[i]?\x->g=H'/\x.imm=true/\∀(b)(Z),Rp b Z H' x v:=λi H' v g x y j=>by let[s,l]:=y;unfold DY at l;rw[bO]at l j;cases o:z.cps.toList[i]? with|none=>rw[o]at j;cases j|some c=>rw[o]at j l;cases j;cases l;show{s,0,λ_ _=>rfl}
 show{z,EB (ok.step m) p,q _ _ _ _ H1 k1 m ?_ λ_=>?_}
 .show J7 (λ_ _ _ _ d=>d.2.2.2.1.bag) (λi H' h=>by rw[d]at h;show h) (λi H' h=>by rw[d]at h;show h) n
 .show J7 (λ_ _ _ _ d=>d.2.bag) (λi H' h=>by rw[d]at h;show h) (λi H' h=>by rw[d]at h;show h) n
end
def J9(pi:pI)(pg:pG)(pb:pS):pS:=(λE Y=>pi Y λxs f st=>st=true/\∃I:Nat->dJ->Prop,I 0 Y/\(∀i ρ' x,xs[i]?\x->I i ρ'->pg x f ρ' λρ2=>pb {E with nx:=I (i+1),ct:=I (i+1),bk:=E.nx} ρ2)/\∀ρ',I xs.length ρ'->E.nx ρ')
def RW(c:pT)(pb:pS):pS:=(λE Y=>∃I:Nat->dJ->Prop,(∃m,I m Y)/\∀m ρ',I m ρ'->c ρ' λb=>if b=true then∃N:dJ->Prop,(∀ρ2,N ρ2->∃m',m'<m/\I m' ρ2)/\pb {E with nx:=N,ct:=N,bk:=E.nx} ρ' else E.nx ρ')
section
variable{a c:Expr}{pi:pI}{pg:pG}{pb:pS}{pc:pT}
def RelD.frz{E}{D}(a:Ok W Y U H)(r:RelD W E D):RelD (W.frz Y U H) E D:={λρ' σ' H' e ok=>r.nx ρ' σ' H' e (a.thaw ok),r.rt,λρ' σ' H' e ok=>r.bk ρ' σ' H' e (a.thaw ok),λρ' σ' H' e ok=>r.ct ρ' σ' H' e (a.thaw ok),r.noO,r.ex}
def DA(hp:∀i,PassesOwn (model (Xs i).prog (Xs i).w) (Xs i).A (Xs i).env (Xs i).xe)(hc:∀i,(Xs i).calm=true)(hi:QI Xs tg a pi)(hg:QG Xs tg pg)(hb:BK Xs body pb)(hs:∀i,∀x,foldedSetIterable a (Xs i).env x=pure x:=by intro _ _;rfl):QS Xs (.For tg a body [] pos) (J9 pi pg pb):=by
 let[wi,i1,i2]:=hi;let[g,g1,g2]:=hg;let[tb,b1,b2]:=hb;show{_,λi=>EU (hp i) (hc i) (i1 i) (g1 i) (b1 i) (hs i),λW Y U H D E ok h r=>i2 W Y U H _ _ ok h λxs f st J H1 zz ρ _ C=>?_};let[G,I,h0,p,u]:=zz;let C:=C G;let s:=ok.step ρ;let z:=r.frz s;show{λi m σ' H'=>m=xs.length-i/\i<=xs.length/\∃ρ',I i ρ'/\Ok _ ρ' σ' H',{xs.length,'2',cD _,Y,h0,s.frz},?_};rintro i m σ' H'⟨rfl,hi,ρ',Q,o⟩;let[q1,q2,q3]:=C W.O ρ' σ' H' #[0,o] i;by_cases q:i<xs.length
 .show .inr {q1 q,λl H2=>∃c,I _ c/\Ok _ c l H2,λl H2 zz=>(by let[c,e1,L]:=zz;show{xs.length-(i+1),(by omega),0,q,c,e1,L}),λv H2 y=>?_};let N:xs[i]?\xs[i]:=by simp[q]
  let[σ,T]:=q3 v H2 y _ N;show g2 _ ρ' σ' H' H2 _ f v _ _ o σ T (p i ρ' _ N Q) λc l L B=>?_;show b2 _ c l H2 _ _ B L {λd n M e j=>#[d,e,j],z.rt,λd n M e j=>z.nx d n M e j,λd n M e j=>#[d,e,j],r.noO,r.ex}
 .let e:i=xs.length:=⋯;subst e;show .inl {q2 (aQ _),z.nx ρ' σ' H' (u ρ' Q) o}
noncomputable def Y6(x:∀i,PassesOwn (model (Xs i).prog (Xs i).w) (Xs i).A (Xs i).env (Xs i).xe)(y:QT Xs c pc)(n:BK Xs body pb):QS Xs (.While c body [] pos) (RW pc pb):=by let[tc,M,L]:=y;let[tb,Q,O]:=n;show{_,λi=>WQ (x i) (M i) (Q i),λW Y U H D E ok h r=>?_};let[I,[u,C],p]:=h;show{λm σ' H'=>∃ρ',I m ρ'/\Ok W ρ' σ' H',#[u,Y,C,ok],?_};rintro m σ' H'⟨ρ',B,j⟩;show L W ρ' σ' H' _ _ j (p m ρ' B) λb H1 n s=>?_;cases b with
 |false=>show r.nx ρ' σ' H1 n (j.step s)|true=>let[N,z,n]:=n;show{λo H2=>∃d,N d/\Ok W d o H2,λo H2 zz=>(by let[d,J,G]:=zz;show let⟨v,l,h⟩:=z d J;#[v,l,d,h,G]),?_};show O W ρ' σ' H1 _ _ (j.step s) n {λa g q e f=>#[a,e,f],r.rt,λa g q e f=>r.nx a g q e f,λa g q e f=>#[a,e,f],r.noO,r.ex}
end
def Dq(Y:dJ)(qC:List (Option Nat)):dJ:=(qC.map λo=>match o with|none=>.emp|some j=>(Y[j]?).getD .emp)
noncomputable abbrev GY(qC:List (Option Nat)):Prop:=qC.Pairwise λa b=>a=none\/a≠b
def A2(xs:dI)(step:P->(Option (P×Fl)->Prop)->Prop)(K:P->Fl->Prop):Prop:=(∃(g:Fl)(I:Nat->dI->Prop),(g=.nw\/g=.cl)/\I 0 []/\(∀i x ys,xs[i]?\x->I i ys->step x λo=>match o with|some (y,h)=>(BJ y h).join g=g/\I (i+1) (ys++[y])|none=>I (i+1) ys)/\∀ys,I xs.length ys->K (.lst ys) g)
def Hw(pi:pI)(qC:List (Option Nat))(pg:pG)(pt:pT)(pe:pE):pE:=(λY K=>pi Y λxs f _=>f≠.bo/\xs.length<=16777216/\A2 xs (λx M=>pg x f (Dq Y qC) λρ'=>pt ρ' λc=>if c=true then pe ρ' λy h=>M (some (y,h))else M none) K)
section
variable{Wb:Wd}{ρb:dJ}{σb:St}{Hs:Hp}{x:P}{k:Nat}
noncomputable def C6.mv{s}{o}(hb:Wb.b=W.b)(ha:Wb.a=W.a)(u:Wb.H₀=W.H₀)(n:Wb.F=W.F)(i:∀f p o,¬AJ W Y U f p->H1 p\o->¬AJ Wb ρb σb f p/\H2 p\o)(g:∀p vs,H1 p\(.tup vs)->H2 p\(.tup vs))(hs:∀p o,p≠W.b->H1 p\o->H2 p\o)(h:C6 W Y U H1 s o):C6 Wb ρb σb H2 s o:=by cases s with
 |emp=>trivial|sh x=>let[v,h1,h2]:=h;show{v,h1,by rw[hb];show h2.keep (i .cl) g}|fr x=>let[v,h1,h2]:=h;show{v,h1,by rw[hb];show h2.keep (i .fr) g}|own x=>let[p,h1,h2,r,m,q,l]:=h;show{p,h1,by rw[u];show h2,by rw[n];show r,by rw[hb];show m,by rw[ha];show q,?_};rw[hb];cases x with
  |lst xs=>let[vs,d,c]:=l;show{vs,hs p _ m d,c.keep (i .fr) g}|dT ks xs=>let[vs,d,j,c]:=l;show{vs,hs p _ m d,j,c.keep (i .fr) g}|fT ks xs=>let[vs,d,j,c]:=l;show{vs,d.map λ_ e=>hs p _ m e,j,c.keep (i .fr) g}|dK ks xs=>let[vs,d,j,c]:=l;show{vs,hs p _ m d,j,c.keep (i .fr) g}|_=>show l.elim
def KA{s}(h:(Dq Y qC)[i]?\s):∃o,qC[i]?\o/\s=(match o with|none=>.emp|some j=>(Y[j]?).getD .emp):=by unfold Dq at h;rw[bO]at h;cases e:qC[i]? with|none=>simp_all|some o=>simp_all
def Y7(d:GY qC)(h:qC[i]?\(some j))(h':qC[i']?\(some j)):i=i':=by
 let hi:i<qC.length:=by
  let q||q:=cE i qC.length
  .show q
  .rw[bQ q]at h;cases h
 let a:i'<qC.length:=by
  let q||q:=cE i' qC.length
  .show q
  .rw[bQ q]at h';cases h'
 rw[aH hi]at h;rw[aH a]at h';let c:=pairwise_iff_getElem.mp d;let q||q||q:=Nat.lt_trichotomy i i'
 .let z||z:=c i i' hi a q
  .rw[oI h]at z;cases z
  simp_all
 .show q
 .let z||z:=c i' i a hi q
  .rw[oI h']at z;cases z
  simp_all
def KB(h:qC[i]?\(some j)):(L2.picked U qC)[i]?\((U[j]?).join):=by unfold L2.picked;simp_all
def RX(ok:Ok W Y U H)(h:A8 (Dq Y qC) (L2.picked U qC) p):A8 Y U p:=by let[i,x,h1,h2]:=h;let[o,e,a]:=KA h1;cases o with|none=>cases a|some j=>rw[KB e]at h2;dsimp only at a;cases c:Y[j]? with|none=>simp_all|some s=>rw[c]at a;cases a;let[o,d,f]:=ok.slot j _ c;rw[d]at h2;show{j,x,c,by simp_all}
noncomputable abbrev Wd.blk(W:Wd)(Y:dJ)(U:St)(D:Addr):Wd:={W with O:=λp=>W.O p\/A8 Y U p\/p=D}
def Y8(a:A8 ρb σb p->A8 Y U p\/H1 p=none)(c:H1 D=none)(h:AJ (W.blk Y U D) ρb σb f p):AJ W Y U f p\/H1 p=none:=by
 let k:Ow (W.blk Y U D) ρb σb p->Ow W Y U p\/H1 p=none:=λz=>by
  rcases z with(z|z|z)|z
  .show .inl (.inl z)
  .show .inl (.inr z)
  .subst z;show .inr c
  .show(a z).elim (λz=>.inl (.inr z)) .inr
 cases f<;>simp only[AJ]at h⊢
 .let h||h||h:=h
  .show .inl (.inl h)
  .show(k h).elim (λz=>.inl (.inr (.inl z))) .inr
  .show .inl (.inr (.inr h))
 .let h||h||h:=h
  .show .inl (.inl h)
  .show(k h).elim (λz=>.inl (.inr (.inl z))) .inr
  .show .inl (.inr (.inr h))
 .let h||h:=h
  .show .inl (.inl h)
  .show(k h).elim (λz=>.inl (.inr z)) .inr
 .let h||h||h:=h
  .show .inl (.inl h)
  .show(k h).elim (λz=>.inl (.inr (.inl z))) .inr
  .show .inl (.inr (.inr h))
 .show .inl h
 .show .inl h
theorem Y9(ok:Ok W Y U H1)(v:GY qC)(n:H1 D=none)(st:Step W.b W.a H1 H2)(e:H2 D\(.lst l)):Ok (W.blk Y U D) (Dq Y qC) (L2.picked U qC) H2 where
 bag:=st.bag
 fb:=ok.fb
 old:=λp o v e=>st.same p o v (ok.old p o v e)
 frm:=λp o e=>st.same p o (λz=>by rw[z,ok.fb]at e;cases e) (ok.frm p o e)
 oo:=λp h=>by
  let k:Ow W Y U p->W.H₀ p=none/\W.F p=none/\p≠W.b/\p≠W.a/\∃o,H2 p\o/\∀ys,o≠.tup ys:=λz=>by done<;>let[r,C,G,O,o,N,M]:=ok.ow z;show{r,C,G,O,o,st.same p o G N,M}
  let h||h||h:=h
  .show k (.inl h)
  .show k (.inr h)
  .subst h;let nb:=ok.bag.nb n;show{?_,?_,nb,ok.bag.na n,_,e,λ_ z=>nomatch z}
   .cases q:W.H₀ p with
    |none=>rfl|some o=>rw[ok.old p o nb q]at n;cases n
   .cases q:W.F p with|none=>rfl|some o=>rw[ok.frm p o q]at n;cases n
 len:=by simp[L2.picked,Dq]
 slot:=λi s h=>by let[o,B,c]:=KA h;cases o with
  |none=>subst c;show#[none,?_,trivial];unfold L2.picked;rw[bO,B];rfl|some j=>dsimp only at c;show{_,KB B,?_};cases m:Y[j]? with
   |none=>rw[m]at c;subst c;trivial|some s'=>
    rw[m]at c;let c:=c;subst c;let[o,r,C]:=ok.slot j _ m;rw[r];change C6 _ _ _ _ s o;show C6.mv (W:=W) rfl rfl rfl rfl (λf p u I L=>{λz=>?_,st.same p u (λz=>I (z▸AJ.b)) L}) (λp us e=>st.same p _ (ok.bag.neT e).1 e) (λp o v e=>st.same p o v e) C;let z||z:=Y8 (λz=>.inl (RX ok z)) n z
    .show I z
    .rw[L]at z;cases z
 uniq:=λi σ x y h1 h2 J=>by let[o,B,c]:=KA h1;let[o',A,d]:=KA h2;cases o with|none=>cases c|some j=>cases o' with|none=>cases d|some E=>dsimp only at c d;cases m:Y[j]? with|none=>rw[m]at c;cases c|some s=>cases g:Y[E]? with|none=>rw[g]at d;cases d|some s'=>rw[m]at c;rw[g]at d;cases c;cases d;let[o,r,C]:=ok.slot j _ m;let[o',w,Q]:=ok.slot E _ g;rw[KB B,KB A,r,w]at J;let T:o=o':=oI J;subst T;let:=ok.uniq j E x y m g (by rw[r,w]);subst this;show Y7 v B A
def ZA{h g}{i}(ok:Ok (W.blk Y U D) ρ' σ' H2)(c:g=.nw\/g=.cl)(r:RF (W.blk Y U D) ρ' σ' i h H2 y v)(m:(BJ y h).join g=g):Rp W.b (λq=>AJ W Y U g q\/q=D) H2 y v:=by
 let[l,j,d]:=Mu ok r;let hi:BJ y h=.nw\/BJ y h=.cl:=by let 0||0:=c<;>cases e:BJ y h<;>simp_all[Fl.join]
 show d.keep (λq o f e=>{λz=>f ?_,e}) λq us e=>e;let ow:(Ow W Y U q\/q=D)->Ow (W.blk Y U D) ρ' σ' q:=λz=>.inl (z.elim (λz=>z.elim .inl λz=>.inr (.inl z)) λz=>.inr (.inr z));let 0||0:=c
 .let a:BJ y h=.nw:=by let z||z:=hi<;>simp_all[Fl.join]
  rw[a];rcases z with(z|z|z)|z
  .show .inl z
  .show .inr (.inl (ow (.inl z)))
  .show .inr (.inr z)
  .show .inr (.inl (ow (.inr z)))
 .let z'||z':=hi<;>rw[z']<;>simp only[AJ]at z⊢
  .rcases z with(z|z)|z
   .show .inl z
   .show .inr (.inl (ow (.inl z)))
   .show .inr (.inl (ow (.inr z)))
  .rcases z with(z|z)|z
   .show .inl z
   .show .inr (ow (.inl z))
   .show .inr (ow (.inr z))
def NC(hp:GY qC)(hi:RQ wi pi)(hg:Ht g pg)(ht:Hk tt pt)(he:Bs te pe):Bs (Jk wi qC g tt te) (Hw pi qC pg pt pe):=by
 intro W Y U H Q K ok hk q;show hi W Y U H _ _ ok hk λxs f _ J H1 zz s1 jC _=>?_;let[a5,a7,E,I,a1,h0,T,a2]:=zz;let d:=ok.step s1;let a0:∀{D H2},H1 D=none->Step W.b W.a H1 H2->∀{o},Step W.b W.a H1 (AB H2 D o):=λ{D H2}r s{o}=>{s.bag.put (d.bag.nb r) (d.bag.na r),λp u hp e=>by rw[AE (Af e r)];show s.same p u hp e};intro D r;show{λi m ys H2=>m=xs.length-i/\i<=xs.length/\∃ps,I i ps/\H2 D\(.lst ys)/\AC W.b (λq=>AJ W Y U E q\/q=D) H2 ps ys/\Step W.b W.a H1 H2/\ps.length<=i,{xs.length,'2',cD _,[],h0,AN,0,a0 r (Step.refl d.bag),aQ _},?_};rintro i m ys H2⟨rfl,hi,ps,hI,G,rps,s2,a9⟩;show#[G,?_];let M:=d.step s2;let a4:=d.bag.nb r;let a8:=d.bag.na r;let[j1,j2,j3]:=jC (λp=>W.O p\/p=D) Y U H2 {λp z=>z.elim .inl λz=>.inr (z▸r),0,0,M,s2} i;by_cases σ:i<xs.length
 .show .inr {j1 σ,λzs H'=>∃ps,I (i+1) ps/\H' D\(.lst zs)/\AC W.b (λq=>AJ W Y U E q\/q=D) H' ps zs/\Step W.b W.a H1 H'/\ps.length<=i+1,λzs H' zz=>(by let[ps,z]:=zz;show{xs.length-(i+1),⋯,0,σ,ps,z}),λv H3 y=>?_};let hx:xs[i]?\xs[i]:=by simp[σ]
  let[y1,ρ]:=j3 v H3 y _ hx;let a3:=Y9 d hp r s2 G;let y3:RF (W.blk Y U D) (Dq Y qC) (L2.picked U qC) H2 f H3 xs[i] v:=by
   let sub:∀{f}{q},AJ (W.blk Y U D) (Dq Y qC) (L2.picked U qC) f q->AJ {W with O:=λp=>W.O p\/p=D} Y U f q:=λ{f q}z=>by
    let k:Ow (W.blk Y U D) (Dq Y qC) (L2.picked U qC) q->Ow {W with O:=λp=>W.O p\/p=D} Y U q:=λz=>by
     rcases z with(z|z|z)|z
     .show .inl (.inl z)
     .show .inr z
     .show .inl (.inr z)
     .show .inr (RX d z)
    cases f<;>simp only[AJ]at z⊢
    all_goals first|show z|show z.elim .inl λz=>.inr (k z)|show z.elim .inl λz=>.inr (z.elim (λz=>.inl (k z)) .inr)
   let kp:∀{f},Rp W.b (AJ {W with O:=λp=>W.O p\/p=D} Y U f) H3 xs[i] v->Rp W.b (AJ (W.blk Y U D) (Dq Y qC) (L2.picked U qC) f) H3 xs[i] v:=λ{f}h=>h.keep (λq o l e=>{λz=>l (sub z),e}) λq us e=>e;cases f with
   |bo=>show bS rfl a5|nw=>show{kp ρ.1,ρ.2}|fr=>show kp ρ|cl=>show kp ρ|rf=>show kp ρ|an=>show kp ρ
  let j:∀{n w},Step W.b W.a n w->n D\(.lst ys)->w D\(.lst ys):=λs e=>s.same D _ a4 e;let N:∀{n w}{o},Bag n W.b W.a->n D\(.lst ys)->Step W.b W.a n w->AC W.b (λq=>AJ W Y U E q\/q=D) n ps ys->AC W.b (λq=>AJ W Y U E q\/q=D) (AB w D o) ps ys:=λ{n w o}hb a6 s h=>h.keep (λq u l e=>{l,by rw[AE (λz=>l (.inr z))];show s.same q u (λz=>l (.inl (z▸AJ.b))) e}) λq us e=>by rw[AE (λz=>by rw[z,a6]at e;cases e)];show s.same q _ (hb.neT e).1 e
  let B:∀{n w},Bag n W.b W.a->Step W.b W.a n w->AC W.b (λq=>AJ W Y U E q\/q=D) n ps ys->AC W.b (λq=>AJ W Y U E q\/q=D) w ps ys:=λ{n w}hb s h=>h.keep (λq u l e=>{l,s.same q u (λz=>l (.inl (z▸AJ.b))) e}) λq us e=>s.same q _ (hb.neT e).1 e
  show hg (W.blk Y U D) _ _ H2 H3 _ f v _ _ a3 y1 y3 (T i _ ps hx hI) λρ4 σ4 k4 L=>?_;show ht (W.blk Y U D) ρ4 σ4 H3 _ _ L k4 λc H5 k5 s5=>?_;let A:=y1.trans s5;cases c with|false=>show{ps,k5,j A G,B M.bag A rps,s2.trans A,⋯}|true=>
   show he (W.blk Y U D) ρ4 σ4 H5 _ _ (L.step s5) k5 λy h u H6 zz s6 r6=>?_;let[k6,k7]:=zz;let x:=A.trans s6;show{j x G,?_,ps++[y],k7,AN,?_,a0 r (s2.trans x),by rw[aG];simp;lia}
   .let:=rps.length;let aa:sizeLine=16777216:=rfl;lia
   .show(N M.bag G x rps).snoc ?_;let r7:=ZA (L.step (s5.trans s6)) a1 r6 k6;show r7.keep (λq u l e=>{l,by rw[AE (λz=>l (.inr z))];show e}) λq us e=>by rw[AE (λz=>by rw[z,j x G]at e;cases e)];show e
 .let e:i=xs.length:=⋯;subst e;show .inl {j2 (aQ _),q _ E _ H2 (a2 ps hI) (s1.trans s2) ?_};let nz:∀g,¬AJ W Y U g D:=λg z=>d.dom z r;let C:=rps.keep (λq o l e=>{λz=>l (.inl z),e}) λq us e=>e;let 0||0:=a1
  .show#[{D,ys,0,nz .fr,G,C},λ_=>{D,0,s1.free r}]
  .show{D,ys,0,nz .cl,G,C}
end
section
variable{N':At}{cf:Expr}{ifs:Go}{pi:pI}{pg:pG}{pt:pT}
noncomputable abbrev Eg(Xs:ι->Cx)(N':At)(scope:Scope):ι×CompP->Cx:=λq=>(Xs q.1).comp N' scope q.2
def GZ(Xs:ι->Cx)(qC:List (Option Nat))(tg:Expr)(p:pG):Prop:=(∃g,(∀i,PG (Xs i) tg g)/\Ht g p/\Fh qC g)
def Hx(Xs:ι->Cx)(ifs:Go)(p:pT):Prop:=(∃t,(∀i,GN (Xs i) ifs t)/\Hk t p)
def RY:pT:=(λ_ K=>K true)
def Bm:Hx Xs [] RY:={_,λ_=>Jj,λW Y U H Q K ok h q=>q true H h (Step.refl ok.bag)}
def Eh{c}(h:QT Xs c pt):Hx Xs [c] pt:=by let[t,h1,h2]:=h;show{t,λi=>YJ (h1 i),h2}
def Bw(c:qC[k]?\none)(e:∀i,(Xs i).N.Nodup)(hi:∀i,(Xs i).N[k]?\x:=by rfl)(a:∀i,D5 (Xs i).env.scope x:=by intro _;trivial)(d:∀i,(Xs i).fn x=true\/(Xs i).env.scope.names.lookup x\.local:=by intro _;trivial):GZ Xs qC (.Name x pos) (Bl k):={_,λi=>Ag (e i) (hi i) (a i) (d i),RM k,Qj c}
def FK{k1}(d:qC[i]?\none)(c:qC[j]?\none)(f:∀i,(Xs i).calm=true)(g:∀i,(Xs i).K=Kf)(h:∀q,FY (Xs q) es (Ee [i,j]))(e:∀i,(assignEach es (Xs i).env).length=2:=by rfl)(a:∀i,(assignEach es (Xs i).env).findIdx? (·.1)=none:=by rfl):GZ Xs qC (.Tuple es k1 pos) (GX [i,j]):={gTup Kf 2 _,λi=>by let:=DI (k:=k1) (pos:=pos) (f i) (h i) (e i) (a i);simp_all,M8 rfl,Mg d c}
def BR(S:CompScope N sc N' qC scope)(l:GY qC)(o:∀i,(Xs i).calm=true)(hi:QI Xs tg iter pi)(m:GZ (Eg Xs N' scope) qC tg pg)(h:Hx (Eg Xs N' scope) ifs pt)(n:QE (Eg Xs N' scope) cf pe)(q:∀i,(Xs i).N=N:=by rfl)(a:∀i,(Xs i).env.scope=sc:=by rfl)(j:∀i,∀x,foldedSetIterable iter (Xs i).env x=pure x:=by intro _ _;rfl):QE Xs (.ListComp cf [#[tg,iter,ifs,(0)]] scope pos) (Hw pi qC pg pt pe):=by let[wi,f,e]:=hi;let[g,u,s,r]:=m;let[tt,d,c]:=h;let[te,w,v]:=n;show{_,λi=>Jm S (o i) (f i) r (λp=>u (i,p)) (λp=>d (i,p)) (λp=>w (i,p)) (q i) (a i) (j i),NC l e s c v}
def RZ{f}(d:∀i,(Xs i).N.Nodup)(S:CompScope N sc N' qC scope)(r:GY qC)(w:∀i,(Xs i).calm=true)(hi:QI Xs tg iter pi)(s:GZ (Eg Xs N' scope) qC tg pg)(o:Hx (Eg Xs N' scope) ifs pt)(v:QE (Eg Xs N' scope) cf pe)(e:∀i,(Xs i).N[k]?\x:=by rfl)(n:∀i,D5 (Xs i).env.scope x:=by intro _;trivial)(y:∀i,(Xs i).N=N:=by rfl)(c:∀i,(Xs i).env.scope=sc:=by rfl)(a:∀i,swapsWith (.ListComp cf [#[tg,iter,ifs,(0)]] scope pos) (some (.Name x pos')) f.line (Xs i).env=pure true:=by rfl)(q:∀i,∀x,foldedSetIterable iter (Xs i).env x=pure x:=by intro _ _;rfl)(u:∀i,(Xs i).fn x=true\/(Xs i).env.scope.names.lookup x\.local:=by intro _;trivial):QS Xs (.Assign [.Name x pos'] (.ListComp cf [#[tg,iter,ifs,(0)]] scope pos) f) (Hr (Hw pi qC pg pt pe) k):=by let[wi,m,l]:=hi;let[g,B,A,z]:=s;let[tt,j,h]:=o;let[te,D,C]:=v;show{_,λi=>Ql S (d i) (e i) (n i) (w i) (m i) z (λp=>B (i,p)) (λp=>j (i,p)) (λp=>D (i,p)) (y i) (c i) (a i) (q i) (u i),RL (NC r l A h C)}
end
def Ra{h}(hi:y.imm=true):BJ y h=.nw:=by cases h<;>simp[BJ,hi]
section
variable{α:Type}{as:List α}{enc:α->P}{step:P->(Option (P×Fl)->Prop)->Prop}{K:P->Fl->Prop}
noncomputable def Rb{x}(h:(as.map enc)[i]?\x):∃a,as[i]?\a/\a∈as/\x=enc a/\as.take (i+1)=as.take i++[a]:=by rw[bO]at h;cases c:as[i]? with
 |none=>simp_all|some a=>rw[c]at h;show{a,0,aM c,(oI h).symm,by rw[take_add_one,c];rfl}
def A2.filter(t)(g)(hi:∀a∈as,t a=true->(g a).imm=true)(hs:∀a∈as,∀M,(∀h,M (if t a=true then some (g a,h)else none))->step (enc a) M)(j:K (.lst ((as.filter t).map g)) .nw):A2 (as.map enc) step K:=by
 show{.nw,λi ys=>ys=((as.take i).filter t).map g,.inl rfl,0,λi x ys d c=>?_,λys c=>?_}
 .done<;>let[a,_,hm,0,f]:=Rb d;subst c;show hs a hm _ λh=>?_;let key:((as.take (i+1)).filter t).map g=((as.take i).filter t).map g++if t a=true then[g a]else[]:=by rw[f,filter_append];cases e:t a<;>simp[e]
  cases e:t a
  .simp_all
  .show{by rw[Ra (hi a hm e)];rfl,?_};lia
 .rw[aA,take_length]at c;subst c;show j
def A2.map(g)(hi:∀a∈as,(g a).imm=true)(hs:∀a∈as,∀M,(∀h,M (some (g a,h)))->step (enc a) M)(c:K (.lst (as.map g)) .nw):A2 (as.map enc) step K:=A2.filter (λ_=>true) g (λa m _=>hi a m) (λa m M h=>hs a m M h) (by rw[filter_eq_self.mpr λ_ _=>rfl];show c)
inductive Each{α β:Type}(R:α->β->Prop):List α->List β->Prop where|nil:Each R [] []|cons{a b as bs}:R a b->Each R as bs->Each R (a::as) (b::bs)
noncomputable def Each.snoc{a}{b:β}(h:R a b)(e:Each R as bs):Each R (as++[a]) (bs++[b]):=by induction e with
 |nil=>show .cons h .nil|cons r t c=>show .cons r c
def Each.length{bs:List β}(e:Each R as bs):as.length=bs.length:=by induction e with|nil=>rfl|cons r t a=>show aT _ a
def Each.mem{bs:List β}(e:Each R as bs):∀b∈bs,∃a∈as,R a b:=by induction e with|nil=>simp|cons r t c=>simp_all
def A2.rel(g)(R:α->β->Prop)(hs:∀a∈as,∀M,(∀b h,R a b->M (some (g b,h)))->step (enc a) M)(l:∀b,(g b).imm=true)(m:∀bs,Each R as bs->K (.lst (bs.map g)) .nw):A2 (as.map enc) step K:=by
 show{.nw,λi ys=>∃bs,ys=bs.map g/\Each R (as.take i) bs,.inl rfl,{[],0,.nil},λi x ys e c=>?_,λys c=>?_}
 .done<;>(let[a,_,hm,0,f]:=Rb e;let[bs,0,d]:=c);show hs a hm _ λb h j=>{by rw[Ra (l b)];rfl,bs++[b],'2',?_};rw[f];show d.snoc j
 .let[bs,0,d]:=c;simp_all
end
noncomputable def Cv(C:Int->Int->Prop)(g:Int->Int->P):p2:=(λx _ y _ K=>match x,y with
 |.int i,.int j=>C i j/\K (g i j) .fr|_,_=>False)
noncomputable abbrev CT:Int->Int->Prop:=λ_ _=>True
noncomputable def A7:P->Option V|.non=>some .non|.bl k=>some (.bl k)|.int i=>some (.int i)|.str x=>some (.str x)|_=>none
def ND{x}(h:A7 x\v):RF W Y U Hs .fr H x v:=by cases x<;>simp only[A7]at h<;>first|(cases h;rfl)|cases h
section
variable{C:Int->Int->Prop}{g:Int->Int->V}{gp:Int->Int->P}
def KC(e:∀i j,A7 (gp i j)\(g i j)):BE (rI C g) (Cv C gp):=λW Y U Hs H Q K x y f h v u ok st d c a q=>by
 unfold Cv at a;split at a
 .cases Ck ok d;cases Ck ok c;show{_,_,0,0,a.1,q _ _ _ H a.2 (Step.refl ok.bag) (ND (e _ _))}
 simp_all
def Ga(e:∀i j,A7 (gp i j)\(g i j)):BE (rI0 g) (Cv CT gp):=λW Y U Hs H Q K x y f h v u ok st d c a q=>by
 unfold Cv at a;split at a
 .cases Ck ok d;cases Ck ok c;show{_,_,0,0,q _ _ _ H a.2 (Step.refl ok.bag) (ND (e _ _))}
 simp_all
end
noncomputable abbrev Re:p2:=Cv CT λi j=>.int (i+j)
noncomputable abbrev ZB:p2:=Cv CT λi j=>.int (i-j)
noncomputable abbrev ZC:p2:=Cv GF λi j=>.int (i*j)
noncomputable abbrev ZD:p2:=Cv (λ_ j=>0<j) λi j=>.int (i%j)
noncomputable abbrev ZE:p2:=Cv JU λi j=>.int (i^j.toNat)
noncomputable abbrev ZF:p2:=Cv (λ_ j=>0<=j) λi j=>.int (i/2^j.toNat)
noncomputable abbrev ZG:p2:=Cv CT λi j=>.bl (decide (i<j))
noncomputable abbrev ZI:p2:=Cv CT λi j=>.bl (decide (i<=j))
noncomputable abbrev ZJ:p2:=Cv CT λi j=>.bl (decide (j<i))
noncomputable abbrev ZK:p2:=Cv CT λi j=>.bl (decide (j<=i))
def FL:BE (rI0 λi j=>.int (i+j)) Re:=Ga λ_ _=>rfl
def NE:BE (rI0 λi j=>.int (i-j)) ZB:=Ga λ_ _=>rfl
def ZL:BE (rI GF λi j=>.int (i*j)) ZC:=KC λ_ _=>rfl
def ZM:BE (rI (λ_ j=>0<j) λi j=>.int (i%j)) ZD:=KC λ_ _=>rfl
def NF:BE (rI JU λi j=>.int (i^j.toNat)) ZE:=KC λ_ _=>rfl
def ZN:BE (rI (λ_ j=>0<=j) λi j=>.int (i/2^j.toNat)) ZF:=KC λ_ _=>rfl
def Rf:BE (rI0 λi j=>.bl (decide (i<j))) ZG:=Ga λ_ _=>rfl
def Fm:BE (rI0 λi j=>.bl (decide (i<=j))) ZI:=Ga λ_ _=>rfl
def Gf:BE (rI0 λi j=>.bl (decide (j<i))) ZJ:=Ga λ_ _=>rfl
def ZO:BE (rI0 λi j=>.bl (decide (j<=i))) ZK:=Ga λ_ _=>rfl
section
variable{a b:Expr}
end
noncomputable def Hy(C:Str->Str->Prop)(g:Str->Str->P):p2:=(λx _ y _ K=>match x,y with
 |.str i,.str j=>C i j/\K (g i j) .fr|_,_=>False)
def Rg{r}{g:Str->Str->V}(l:∀i j,A7 (gp i j)\(g i j))(e:∀i j H Q,C i j->Q (g i j) H->r (.str i) (.str j) H Q):BE r (Hy C gp):=λW Y U Hs H Q K x y f h v u ok st d c a q=>by
 unfold Hy at a;split at a
 .cases EB ok d;cases EB ok c;show e _ _ H Q a.1 (q _ _ _ H a.2 (Step.refl ok.bag) (ND (l _ _)))
 simp_all
noncomputable abbrev ST:Str->Str->Prop:=λ_ _=>True
noncomputable abbrev ZP:p2:=Hy ST λi j=>.bl (decide (i.cps.toList<j.cps.toList))
noncomputable abbrev ZQ:p2:=Hy ST λi j=>.bl (!decide (j.cps.toList<i.cps.toList))
def ZR:BE (λx y H Q=>∃i j,x=.str i/\y=.str j/\Q (.bl (decide (i.cps.toList<j.cps.toList))) H) ZP:=Rg dG λi j H Q c q=>#[i,j,0,0,q]
def Rh:BE (λx y H Q=>∃i j,x=.str i/\y=.str j/\Q (.bl (!decide (j.cps.toList<i.cps.toList))) H) ZQ:=Rg dG λi j H Q c q=>#[i,j,0,0,q]
noncomputable def P.isNon:P->Bool|.non=>true|_=>false
def NG:p2:=(λx _ y _ K=>y=.non/\K (.bl (!x.isNon)) .fr)
noncomputable def ZS{x}(h:Rp b Z H x v):decide (v=.non)=x.isNon:=by cases x with
 |non=>rw[h];rfl|bl k=>rw[h];rfl|int k=>rw[h];rfl|str k=>rw[h];rfl|bag=>rw[h];rfl|tup xs=>let[p,vs,e,_]:=h;rw[e];rfl|lst xs=>let[p,vs,e,_]:=h;rw[e];rfl|dT ks xs=>let[p,vs,e,_]:=h;rw[e];rfl|fT ks xs=>let[p,vs,e,_]:=h;rw[e];rfl|dK ks xs=>let[p,vs,e,_]:=h;rw[e];rfl
def Ri:BE (λx y H Q=>y=.non/\Q (.bl (!decide (x=.non))) H) NG:=λW Y U Hs H Q K x y f h v u ok st d c a q=>by let[0,a]:=a;show{c.any ok,?_};rw[ZS (d.any ok)];show q _ _ _ H a (Step.refl ok.bag) Dn
noncomputable def Fo:p2:=(λx f y _ K=>match x,y with
 |.lst xs,.int i=>∃z,atI xs i\z/\K z f.el|.tup xs,.int i=>∃z,atI xs i\z/\K z f.el|.str z,.int i=>z.length<=16777216/\∃c,atI z.cps.toList i\c/\K (.str {[c].toArray}) .fr|_,_=>False)
def AC.atI{i}(h:AC b Z H xs vs)(e:L2.atI xs i\z):∃v,L2.atI vs i\v/\Rp b Z H z v:=by unfold L2.atI at e⊢;rw[h.length]at e;cases hj:EZ vs.length i with|none=>simp_all|some j=>rw[hj]at e;show h.get e
def Rj:R2:=(λx y H Q=>(∃p i xs,x=.ref p/\y=.int i/\(H p\(.lst xs)\/H p\(.tup xs))/\∃v,atI xs i\v/\Q v H)\/QF x y H Q)
def Ax:E9 X Rj:=λvalue a qA s U H x y v u Q I d c h e=>by
 let[p,i,xs,j,g,h,w,f,q]||h:=h
 .let h||h:=h
  .show QH value a qA s U H x y v u Q I d c {p,xs,i,w,j,g,.of h,f,q} e
  .show QJ value a qA s U H x y v u Q I d c {p,xs,i,w,j,g,.of h,f,q} e
 .show MP value a qA s U H x y v u Q I d c h e
def Ay:BE Rj Fo:=λW Y U Hs H Q K x y f h v u ok st i g a q=>by
 unfold Fo at a;split at a
 .let[z,e,d]:=a;cases Ck ok g;let[p,vs,0,l,r]:=i.items rfl;let[w,m,j]:=r.atI e;show .inl {p,_,vs,0,0,l,w,m,q _ _ _ H d (Step.refl ok.bag) (RF.ofEl j)}
 .let[z,e,d]:=a;cases Ck ok g;let[p,vs,0,l,r]:=i.items rfl;let[w,m,j]:=r.atI e;show .inl {p,_,vs,0,0,l,w,m,q _ _ _ H d (Step.refl ok.bag) (RF.ofEl j)}
 .let[n,c,e,d]:=a;cases Ck ok g;cases EB ok i;show .inr {_,_,c,0,0,n,e,q _ _ _ H d (Step.refl ok.bag) RE}
 .show a.elim
noncomputable def NH:p2:=(λx f y g K=>match x,y with
 |.lst xs,.lst ys=>xs.length+ys.length<=16777216/\K (.lst (xs++ys)) ((Bj f xs).join (Bj g ys))|.tup xs,.tup ys=>(P.imms xs=true/\P.imms ys=true)/\xs.length+ys.length<=16777216/\K (.tup (xs++ys)) .fr|_,_=>False)
def Rk:R2:=(λx y H Q=>(∃p q xs ys,x=.ref p/\y=.ref q/\H p\(.lst xs)/\H q\(.lst ys)/\xs.length+ys.length<=sizeLine/\∀l,H l=none->Q (.ref l) (AB H l (.lst (xs++ys))))\/(∃p q xs ys,x=.ref p/\y=.ref q/\H p\(.tup xs)/\H q\(.tup ys)/\xs.length+ys.length<=sizeLine/\(xs=[]->Q (.ref q) H)/\(xs≠[]->ys=[]->Q (.ref p) H)/\(xs≠[]->ys≠[]->∀l,H l=none->Q (.ref l) (AB H l (.tup (xs++ys))))))
def Hz:Az X (binaryOp .Add) Rk:=by
 intro qA s U H x y v u Q I m l h;done<;>let[p,q,xs,ys,i,g,h1,h2,o,k]||[p,q,xs,ys,i,g,h1,h2,o,k0,k1,k2]:=h
 .show Xq qA s U H x y v u Q I m l #[p,q,xs,ys,i,g,h1,h2,o,k]
 .by_cases f:xs=[]
  .subst i;subst g;subst f;cases m;cases l;let[qG,E,p1,_]:=I.tuple (.of h1);let[a,L,p2,_]:=I.tuple (.of h2);cases E;done<;>(let[[J,dd,B,D],w,A,n,z]:=id p1;let[[C,r,data2,j],c,e,G,d]:=id p2);simp only at A z e d;subst A z e d;show concat_meets #[_,w,0] #[_,c,0] noFill_tuple_add seq_tuple_add PySem.F.slot_tuple_add PySem.F.entry_tuple_add (PySem.F.args_tuple_add_2 _ _)
    (tuple_addW0 p q #[] a.toArray n G dd r D j rfl) {w,c,.ref q,H,I,0,k0 rfl}
  .show Xa qA s U H x y v u Q I m l {p,q,xs,ys,i,g,.of h1,.of h2,f,o,k1 f,k2 f}
def Rl(h:AC W.b (AJ W Y U f) H xs vs):Bj f xs≠.bo/\Bj f xs≠.fr/\AC W.b (AJ W Y U (Bj f xs)) H xs vs:=by
 unfold Bj;split
 .show{'2','2',h.imm ‹_›}
 .cases f<;>show{by simp[Fl.top],by simp[Fl.top],h}
def DB(ok:Ok W Y U H)(r:RF W Y U Hs f H (.lst xs) v):∃p vs,v=.ref p/\H p\(.lst vs)/\AC W.b (AJ W Y U f) H xs vs:=by let[p,vs,0,hc,a]:=r.items rfl;let[q,us,d,_,c,_]:=r.any ok;simp_all
def Dr(ok:Ok W Y U H)(r:RF W Y U Hs f H (.tup xs) v):∃p vs,v=.ref p/\H p\(.tup vs)/\AC W.b (AJ W Y U f) H xs vs:=by let[p,vs,0,hc,a]:=r.items rfl;let[q,us,d,c,_]:=r.any ok;simp_all
def IA{g}(ok:Ok W Y U H)(st:Step W.b W.a Hs H)(f:g≠.bo)(d:g≠.fr)(h:AC W.b (AJ W Y U g) H xs vs)(i:H p=none):RF W Y U Hs g (AB H p (.lst vs)) (.lst xs) (.ref p):=by
 let:=RF.newL ok st h i;unfold Bj at this;split at this
 .cases g with
  |bo=>show bS rfl f|fr=>show bS rfl d|nw=>show this|cl=>show this.1.keep (λq o c e=>{λz=>c (z.elim .inl λz=>.inr (.inl z)),e}) λq us e=>e|rf=>show this.1.keep (λq o c e=>{λz=>c (z.elim .inl λz=>.inr (.inr z)),e}) λq us e=>e|an=>show this.1.keep (λq o c e=>{λz=>c (.inl z),e}) λq us e=>e
 .rw[RF.topped f d]at this;show this
def IB:BE Rk NH:=λW Y U Hs H Q K x y f h v u ok st s r g q=>by
 unfold NH at g;split at g
 .let[d,j]:=g;let[p,vs,0,n,c]:=DB ok s;let[p2,vs2,0,m,a]:=DB ok r;let[E,D,c]:=Rl c;let[C,B,a]:=Rl a;let A:=Q4 (W:=W) (Y:=Y) (U:=U) E D C B;let w:=Mv E D C B;show .inl {p,p2,vs,vs2,0,0,n,m,by rw[<-c.length,<-a.length];show d,λl i=>q _ _ _ _ j (Step.new ok.bag i) ?_};show IA ok st w.1 w.2 ((c.keep (λq o d e=>{λz=>d (A q z).1,e}) λq us e=>e).app (a.keep (λq o d e=>{λz=>d (A q z).2,e}) λq us e=>e)) i
 .let[[I,G],d,j]:=g;let[p,vs,0,n,c]:=Dr ok s;let[p2,vs2,0,m,a]:=Dr ok r;let l1:=c.length;let l2:=a.length;let c:AC W.b (Zf W Y U) H _ vs:=c.imm I;let a:AC W.b (Zf W Y U) H _ vs2:=a.imm G;show .inr {p,p2,vs,vs2,0,0,n,m,by rw[<-l1,<-l2];show d,λe=>?_,λe J=>?_,λ_ _ l i=>?_}
  .subst e;show q _ _ _ _ j (Step.refl ok.bag) ?_;rw[length_eq_zero_iff.mp l1,nil_append];show#[p2,vs2,0,m,a]
  .subst J;show q _ _ _ _ j (Step.refl ok.bag) ?_;rw[length_eq_zero_iff.mp l2,cP];show#[p,vs,0,n,c]
  .show q _ _ _ _ j (Step.new ok.bag i) ?_;show{l,vs++vs2,0,AN,(c.app a).step (Step.new ok.bag i) ok.bag}
 .show g.elim
section
variable{Hs:Hp}
def Bu.one{x}(h:Bu W Y U Hs H [(x,f)] vs):∃v,vs=[v]/\RF W Y U Hs f H x v:=by let[v,t,0,h2,a]:=h;cases(a);show#[v,0,h2]
def Bu.two{x}{g}(h:Bu W Y U Hs H [(x,f),(y,g)] vs):∃v u,vs=[v,u]/\RF W Y U Hs f H x v/\RF W Y U Hs g H y u:=by let[v,t,0,h2,c]:=h;let[u,0,a]:=Bu.one c;show#[v,u,0,h2,a]
end
def p1(g:P->Fl->(P->Fl->Prop)->Prop):pC:=(λxs K=>match xs with|[(x,f)]=>g x f K|_=>False)
noncomputable def IC:pC:=(p1 λx _ K=>match x with
 |.lst xs=>K (.int xs.length) .fr|.tup xs=>K (.int xs.length) .fr|.str z=>z.length<=16777216/\K (.int z.length) .fr|_=>False)
def Ro:dH->Hp->VK->Prop:=(λxs H Q=>(∃p ys,xs=[.ref p]/\(H p\(.lst ys)\/H p\(.tup ys))/\Q (.int ys.length) H)\/∃z,xs=[.str z]/\z.length<=sizeLine/\Q (.int z.length) H)
def Bn:BQ X (.builtin "len") Ro:=by
 intro qA s U H xs us Q I r h;let[p,ys,0,a,q]||h:=h
 .show MT qA s U H _ us Q I r {p,ys,0,a.elim (λz=>.inl (.of z)) (λz=>.inr (.of z)),q}
 .show QM qA s U H _ us Q I r h
def Bo:Cu Ro IC:=λW Y U Hs H Q K xs vs ok st r a q=>by
 unfold IC p1 at a;split at a
 .let[v,0,rv]:=r.one;split at a
  .let[p,us,0,c,d]:=DB ok rv;show .inl {p,us,0,.inl c,by rw[<-d.length];show q _ _ _ H a (Step.refl ok.bag) GV}
  .let[p,us,0,c,d]:=Dr ok rv;show .inl {p,us,0,.inr c,by rw[<-d.length];show q _ _ _ H a (Step.refl ok.bag) GV}
  .cases EB ok rv;show .inr {_,0,a.1,q _ _ _ H a.2 (Step.refl ok.bag) GV}
  simp_all
 .show a.elim
noncomputable def NI:pC:=(p1 λx f K=>match x with
 |.lst xs=>K (.lst xs) (Bj f xs)|.tup xs=>K (.lst xs) (Bj f xs)|_=>False)
def NJ:Cu (λxs H Q=>∃p ys,xs=[.ref p]/\(H p\(.lst ys)\/H p\(.tup ys))/\∀l,H l=none->Q (.ref l) (AB H l (.lst ys))) NI:=λW Y U Hs H Q K xs vs ok st r a q=>by
 unfold NI p1 at a;split at a
 .let[v,0,rv]:=r.one;split at a
  .let[p,us,0,c,e]:=DB ok rv;show{p,us,0,.inl c,λl d=>q _ _ _ _ a (Step.new ok.bag d) (RF.newL ok st e d)}
  .let[p,us,0,c,e]:=Dr ok rv;show{p,us,0,.inr c,λl d=>q _ _ _ _ a (Step.new ok.bag d) (RF.newL ok st e d)}
  simp_all
 simp_all
noncomputable def NK:pC:=(p1 λx f K=>match x with
 |.lst xs=>K (.tup xs) (Bj f xs)|_=>False)
def EG:Cu (λxs H Q=>∃p ys,xs=[.ref p]/\H p\(.lst ys)/\∀l,H l=none->Q (.ref l) (AB H l (.tup ys))) NK:=λW Y U Hs H Q K xs vs ok st r a q=>by
 unfold NK p1 at a;split at a
 .let[v,0,rv]:=r.one;split at a
  .let[p,us,0,c,e]:=DB ok rv;show{p,us,0,c,λl d=>q _ _ _ _ a (Step.new ok.bag d) (RF.newT ok e d)}
  simp_all
 simp_all
def NL:pC:=(p1 λx f K=>∃bs:List Bool,x=.lst (bs.map P.bl)/\K (.bl (bs.all id)) .fr)
def EH:Cu (λxs H Q=>∃(p:Addr)(bs:List Bool),xs=[.ref p]/\BA Kf H p (bs.map V.bl)/\Q (.bl (bs.all id)) H) NL:=λW Y U Hs H Q K xs vs ok st r a q=>by
 unfold NL p1 at a;split at a
 .let[v,0,rv]:=r.one;let[bs,0,e]:=a;let[p,us,0,c,d]:=DB ok rv;rw[AC.bls.mp d]at c;show{p,bs,0,.of c,q _ _ _ H e (Step.refl ok.bag) Dn}
 simp_all
def NM:pC:=(p1 λx f K=>∃ss:At,x=.lst (ss.map P.str)/\ss.length<64/\∀ss':At,ss'.Perm ss->sortedS ss'=true->K (.lst (ss'.map P.str)) .nw)
def KD:Cu (λxs H Q=>∃(p:Addr)(ss:At),xs=[.ref p]/\H p\(.lst (ss.map V.str))/\ss.length<64/\∀(l)(a:At),H l=none->a.Perm ss->sortedS a=true->Q (.ref l) (AB H l (.lst (a.map V.str)))) NM:=λW Y U Hs H Q K xs vs ok st r d q=>by
 unfold NM p1 at d;split at d
 .let[v,0,rv]:=r.one;let[ss,0,e,i]:=d;let[p,us,0,c,h]:=DB ok rv;rw[AC.strs.mp h]at c;show{p,ss,0,c,e,λl a f h1 h2=>q _ _ _ _ (i a h1 h2) (Step.new ok.bag f) (IA ok st '2' '2' (AC.strs.mpr rfl) f)}
 simp_all
noncomputable def Gg:P->String|.non=>"NoneType"|.bl _=>"bool"|.int _=>"int"|.str _=>"str"|.tup _=>"tuple"|.lst _=>"list"|.dT _ _=>"dict"|.dK _ _=>"dict"|.fT _ _=>"dict"|.bag=>"list"
def NN(n:String)(x:P):Bool:=(decide (Gg x=n)||(decide (n="int")&&decide (Gg x="bool")))
def Rq(n:String)(p:pE):pE:=(λY K=>p Y λx _=>K (.bl (NN n x)) .fr)
def ZT(K:Fg){n}(a:n="bool"\/n="int"\/n="tuple"\/n="list"\/n="str")(x):PySem.W.kitOne K (.type (Gg x)) (.type n)\(NN n x):=by rcases a with rfl|rfl|rfl|rfl|rfl<;>cases x<;>rfl
noncomputable def ZU{K}{x}(d:Bag H b a)(h:Rp b Z H x v):TyOf K H v (.type (Gg x)):=by cases x with
 |non=>rw[h];show .non|bl k=>rw[h];show .bl k|int k=>rw[h];show .int k|str k=>rw[h];show .str k|bag=>rw[h];let[l,e]:=d.atb;show .lst e|tup xs=>let[p,vs,e,c,_]:=h;rw[e];show .tup c|lst xs=>let[p,vs,e,_,c,_]:=h;rw[e];show .lst c|dT ks xs=>let[p,vs,e,_,c,_]:=h;rw[e];show .dT c|fT ks xs=>let[p,vs,e,_,[o,c],_]:=h;rw[e];show .fT c|dK ks xs=>let[p,vs,e,_,c,_]:=h;rw[e];show .dK c
section
variable{a:Expr}
def ID{n}{p1 p2}(p:n="bool"\/n="int"\/n="tuple"\/n="list"\/n="str")(y:∀i,(Xs i).K=Kf)(r:∀i,(Xs i).mg "isinstance"=none)(e:∀i,(Xs i).mg x=none)(d:bootBuiltins x\(.type n))(h:QE Xs a pa)(u:∀i,Gl (Xs i) "isinstance":=by rfl)(g:∀i,Gl (Xs i) x:=by rfl)(o:x≠"__name__":=by decide+kernel)(j:No x:=by decide+kernel)(l:∀i,starEach [a,.Name x p2] (Xs i).env=[(false,eval a (Xs i).env),(false,eval (.Name x p2) (Xs i).env)]:=by rfl):QE Xs (.Call (.Name "isinstance" p1) [a,.Name x p2] [] pos) (Rq n pa):=by
 let[t,h1,h2]:=h;show{GJ (λxs H Q=>∃x t n b,xs=[x,.ty n]/\TyOf Kf H x t/\PySem.W.kitOne Kf t (.type n)\b/\Q (.bl b) H) (A6 t (A6 (tC (.ty n)) BU)),λi=>?_,λW Y U H Q K ok s q=>h2 W Y U H _ _ ok s λx f v H1 k1 c m=>?_}
 .let w:BQ (Xs i) (.builtin "isinstance") (λxs H Q=>∃x t n b,xs=[x,.ty n]/\TyOf Kf H x t/\PySem.W.kitOne Kf t (.type n)\b/\Q (.bl b) H):=by rw[<-y i];show YT
  show E5 w (u i) (r i) nofun (AK (h1 i) (AK (V0 (g i) (e i) d rfl o j) Ab (by rfl)) ?_) nofun nofun ?_ ?_
  .show l i
  .show l i
  .rfl
 .show{v,.type _,n,_,0,ZU c.bag (m.any (ok.step c)),ZT Kf p x,q _ _ _ H1 k1 c Dn}
end
open PySem.SeqAt
mutual
noncomputable def AU:P->P->Bool
 |.non,.non=>true|.bl a,.bl b=>a==b|.int a,.int b=>a==b|.str a,.str b=>a==b|.bl a,.int b=>(if a then 1 else 0)==b|.int a,.bl b=>a==(if b then 1 else 0)|.tup xs,.tup ys=>BV xs ys|.lst xs,.lst ys=>BV xs ys|_,_=>false
noncomputable def BV:dI->dI->Bool|[],[]=>true|x::xs,y::ys=>AU x y&&BV xs ys|_,_=>false
end
noncomputable def P.pl:Nat->P->Bool
 |_,.non=>true|_,.bl _=>true|_,.int _=>true|_,.str _=>true|n+1,.tup xs=>xs.all (P.pl n)|n+1,.lst xs=>xs.all (P.pl n)|_,_=>false
theorem Rr:∀{xs ys}{e},(∀j x y,xs[j]?\x->ys[j]?\y->e j=AU x y)->((List.range (min xs.length ys.length)).all e&&xs.length==ys.length)=BV xs ys
 |[],[],e,_=>rfl|[],_::_,e,_=>rfl|_::_,[],e,_=>rfl|x::xs,y::ys,e,h=>by
  let c:=Rr λj a b h1 h2=>h (j+1) a b (~~~h1) (~~~h2);let d:=h 0 x y rfl rfl;rw[BV,<-c,<-d];let g:min (x::xs).length (y::ys).length=min xs.length ys.length+1:='2'
  rw[g,range_succ_eq_map,all_cons,all_map];let f:((x::xs).length==(y::ys).length)=(xs.length==ys.length):=by simp
  rw[f,Bool.and_assoc];rfl
noncomputable def Cw{x}(a:A7 x\v)(q:AR v v'):(x=.non/\v'=.none)\/(∃b,x=.bl b/\v'=.bool b)\/(∃i t,x=.int i/\v'=.int i t)\/∃z t,x=.str z/\v'=.str z t:=by cases x with
 |non=>cases(oI (a));show .inl #[0,q]|bl b=>cases(oI (a));show .inr (.inl #[b,0,q])|int i=>cases(oI (a));let[t,e]:=(q);show .inr (.inr (.inl #[i,t,0,e]))|str i=>cases(oI (a));let[t,e]:=(q);show .inr (.inr (.inr #[i,t,0,e]))|_=>cases a
@[elab_as_elim]theorem Sl{x}{C:Value->Prop}(a:A7 x\v)(q:AR v v')(h:C .none)(i:∀b,C (.bool b))(j:∀b t,C (.int b t))(k:∀b t,C (.str b t)):C v':=by rcases Cw a q with⟨_,rfl⟩|⟨_,_,rfl⟩|⟨_,_,_,rfl⟩|⟨_,_,_,rfl⟩;show h;show i _;show j _ _;show k _ _
def Rs{x}{u}(d:A7 x\v)(a:A7 y\u)(qv:AR v v')(c:AR u u'):EqAt A s v' u' (AU x y):=by
 rcases Cw d qv with⟨rfl,rfl⟩|⟨_,rfl,rfl⟩|⟨_,_,rfl,rfl⟩|⟨_,_,rfl,rfl⟩<;>rcases Cw a c with⟨rfl,rfl⟩|⟨_,rfl,rfl⟩|⟨_,_,rfl,rfl⟩|⟨_,_,rfl,rfl⟩<;>simp only[AU,Bool.not_false,Bool.not_true]
 show EqAt.same _;show EqAt.none_bool _;show EqAt.none_int _ _;show EqAt.none_str _ _;show EqAt.bool_none _;show EqAt.bool_bool _ _;show EqAt.bool_int _ _ _;show EqAt.bool_str _ _ _;show EqAt.int_none _ _;show EqAt.int_bool _ _ _;show EqAt.int_int _ _ _ _;show EqAt.int_str _ _ _ _;show EqAt.str_none _ _;show EqAt.str_bool _ _ _;show EqAt.str_int _ _ _ _;show EqAt.str_str _ _ _ _
def ZV{x}{u}(d:A7 x\v)(a:A7 y\u)(qv:AR v v')(c:AR u u'):RcNeAt A s v' u' (!AU x y):=by
 rcases Cw d qv with⟨rfl,rfl⟩|⟨_,rfl,rfl⟩|⟨_,_,rfl,rfl⟩|⟨_,_,rfl,rfl⟩<;>rcases Cw a c with⟨rfl,rfl⟩|⟨_,rfl,rfl⟩|⟨_,_,rfl,rfl⟩|⟨_,_,rfl,rfl⟩<;>simp only[AU,Bool.not_false,Bool.not_true]
 show RcNeAt.none_none;show RcNeAt.none_bool _;show RcNeAt.none_int _ _;show RcNeAt.none_str _ _;show RcNeAt.bool_none _;show RcNeAt.bool_bool _ _;show RcNeAt.bool_int _ _ _;show RcNeAt.bool_str _ _ _;show RcNeAt.int_none _ _;show RcNeAt.int_bool _ _ _;show RcNeAt.int_int _ _ _ _;show RcNeAt.int_str _ _ _ _;show RcNeAt.str_none _ _;show RcNeAt.str_bool _ _ _;show RcNeAt.str_int _ _ _ _;show RcNeAt.str_str _ _ _ _
def ZW{x}{u}(d:A7 x\v)(a:A7 y\u)(qv:AR v v')(c:AR u u'):RcAt A s v' u' (AU x y):=by
 rcases Cw d qv with⟨rfl,rfl⟩|⟨_,rfl,rfl⟩|⟨_,_,rfl,rfl⟩|⟨_,_,rfl,rfl⟩<;>rcases Cw a c with⟨rfl,rfl⟩|⟨_,rfl,rfl⟩|⟨_,_,rfl,rfl⟩|⟨_,_,rfl,rfl⟩<;>simp only[AU,Bool.not_false,Bool.not_true]
 show RcAt.none_none;show RcAt.none_bool _;show RcAt.none_int _ _;show RcAt.none_str _ _;show RcAt.bool_none _;show RcAt.bool_bool _ _;show RcAt.bool_int _ _ _;show RcAt.bool_str _ _ _;show RcAt.int_none _ _;show RcAt.int_bool _ _ _;show RcAt.int_int _ _ _ _;show RcAt.int_str _ _ _ _;show RcAt.str_none _ _;show RcAt.str_bool _ _ _;show RcAt.str_int _ _ _ _;show RcAt.str_str _ _ _ _
def ZX{u}(f:s.heap.IsList l qG)(e:A.units<cLine)(c:A7 y\u)(d:AR u u'):EqAt A s (.ref l) u' false:=Sl c d (EqAt.list_none f e) (λ_=>EqAt.list_bool _ f e) (λ_ _=>EqAt.list_int _ _ f e) λ_ _=>EqAt.list_str _ _ f e
def ZY{u}(f:s.heap.IsList l qG)(e:A.units<cLine)(c:A7 y\u)(d:AR u u'):EqAt A s u' (.ref l) false:=Sl c d (EqAt.none_list f e) (λ_=>EqAt.bool_list _ f e) (λ_ _=>EqAt.int_list _ _ f e) λ_ _=>EqAt.str_list _ _ f e
def ZZ{u}(f:s.heap.IsTuple l qG)(e:A.units<cLine)(c:A7 y\u)(d:AR u u'):EqAt A s (.ref l) u' false:=Sl c d (EqAt.tuple_none f e) (λ_=>EqAt.tuple_bool _ f e) (λ_ _=>EqAt.tuple_int _ _ f e) λ_ _=>EqAt.tuple_str _ _ f e
def Za{u}(f:s.heap.IsTuple l qG)(e:A.units<cLine)(c:A7 y\u)(d:AR u u'):EqAt A s u' (.ref l) false:=Sl c d (EqAt.none_tuple f e) (λ_=>EqAt.bool_tuple _ f e) (λ_ _=>EqAt.int_tuple _ _ f e) λ_ _=>EqAt.str_tuple _ _ f e
def Zb{u}(f:s.heap.IsList l qG)(e:A.units<cLine)(c:A7 y\u)(d:AR u u'):RcNeAt A s (.ref l) u' true:=Sl c d (RcNeAt.list_none f e) (λ_=>RcNeAt.list_bool _ f e) (λ_ _=>RcNeAt.list_int _ _ f e) λ_ _=>RcNeAt.list_str _ _ f e
def Zd{u}(f:s.heap.IsList l qG)(e:A.units<cLine)(c:A7 y\u)(d:AR u u'):RcNeAt A s u' (.ref l) true:=Sl c d (RcNeAt.none_list f e) (λ_=>RcNeAt.bool_list _ f e) (λ_ _=>RcNeAt.int_list _ _ f e) λ_ _=>RcNeAt.str_list _ _ f e
def Ze{u}(f:s.heap.IsTuple l qG)(e:A.units<cLine)(c:A7 y\u)(d:AR u u'):RcNeAt A s (.ref l) u' true:=Sl c d (RcNeAt.tuple_none f e) (λ_=>RcNeAt.tuple_bool _ f e) (λ_ _=>RcNeAt.tuple_int _ _ f e) λ_ _=>RcNeAt.tuple_str _ _ f e
def Zg{u}(f:s.heap.IsTuple l qG)(e:A.units<cLine)(c:A7 y\u)(d:AR u u'):RcNeAt A s u' (.ref l) true:=Sl c d (RcNeAt.none_tuple f e) (λ_=>RcNeAt.bool_tuple _ f e) (λ_ _=>RcNeAt.int_tuple _ _ f e) λ_ _=>RcNeAt.str_tuple _ _ f e
def Zh{u}(f:s.heap.IsList l qG)(e:A.units<cLine)(c:A7 y\u)(d:AR u u'):RcAt A s (.ref l) u' false:=Sl c d (RcAt.list_none f e) (λ_=>RcAt.list_bool _ f e) (λ_ _=>RcAt.list_int _ _ f e) λ_ _=>RcAt.list_str _ _ f e
def Zi{u}(f:s.heap.IsList l qG)(e:A.units<cLine)(c:A7 y\u)(d:AR u u'):RcAt A s u' (.ref l) false:=Sl c d (RcAt.none_list f e) (λ_=>RcAt.bool_list _ f e) (λ_ _=>RcAt.int_list _ _ f e) λ_ _=>RcAt.str_list _ _ f e
def Zj{u}(f:s.heap.IsTuple l qG)(e:A.units<cLine)(c:A7 y\u)(d:AR u u'):RcAt A s (.ref l) u' false:=Sl c d (RcAt.tuple_none f e) (λ_=>RcAt.tuple_bool _ f e) (λ_ _=>RcAt.tuple_int _ _ f e) λ_ _=>RcAt.tuple_str _ _ f e
def Zk{u}(f:s.heap.IsTuple l qG)(e:A.units<cLine)(c:A7 y\u)(d:AR u u'):RcAt A s u' (.ref l) false:=Sl c d (RcAt.none_tuple f e) (λ_=>RcAt.bool_tuple _ f e) (λ_ _=>RcAt.int_tuple _ _ f e) λ_ _=>RcAt.str_tuple _ _ f e
noncomputable def DC{x}(a:x.pl n=true)(r:Rp b Z H x v):A7 x\v\/(∃m xs,n=m+1/\x=.tup xs/\xs.all (P.pl m)=true)\/∃m xs,n=m+1/\x=.lst xs/\xs.all (P.pl m)=true:=by cases x with
 |non=>show .inl (by rw[r];rfl)|bl k=>show .inl (by rw[r];rfl)|int k=>show .inl (by rw[r];rfl)|str k=>show .inl (by rw[r];rfl)|tup xs=>cases n with|zero=>simp[P.pl]at a|succ m=>show .inr (.inl {m,xs,0,0,(by assumption)})
 |lst xs=>cases n with|zero=>simp[P.pl]at a|succ m=>show .inr (.inr {m,xs,0,0,(by assumption)})
 |_=>cases n<;>simp[P.pl]at a
def IE:∀(n){x},x.pl n=true->AU x x=true:=by
 intro n
 induction n with
 |zero=>intro x a;cases x<;>simp[P.pl]at a<;>simp[AU]|succ n e=>
  let d:∀{xs},xs.all (P.pl n)=true->BV xs xs=true:=by
   intro xs
   induction xs with|nil=>intro _;rfl|cons x r c=>intro h;rw[all_cons,cB]at h;rw[BV,e h.1,c h.2];rfl
  intro x a;cases x<;>simp only[P.pl]at a<;>simp only[AU,beq_self_eq_true]
  .cases a
  .show d a
  .show d a
  .cases a
  .cases a
  .cases a
noncomputable def Rt(n)(xs)(h:xs.all (P.pl n)=true):BV xs xs=true:=by induction xs with
 |nil=>rfl|cons x r a=>rw[all_cons,cB]at h;rw[BV,IE n h.1,a h.2];rfl
def Ru:∀(n){x y}{v},x.pl n=true->y.pl n=true->Rp b Z H x v->Rp b Z H y v->x=y:=by
 intro n
 induction n with
 |zero=>intro x y v u l j a;cases x<;>simp[P.pl]at u<;>cases y<;>simp[P.pl]at l<;>(rw[j]at a)<;>first|rfl|(cases a;rfl)|cases a
 |succ n D=>
  let w:∀{xs ys}{vs},xs.all (P.pl n)=true->ys.all (P.pl n)=true->AC b Z H xs vs->AC b Z H ys vs->xs=ys:=by
   intro xs
   induction xs with
   |nil=>intro ys vs _ _ f c;rw[f]at c;cases ys with|nil=>rfl|cons y r=>let[_,_,e,_]:=c;cases e
   |cons x r s=>intro ys vs h1 h2 f c;let[v,t,0,C,B]:=f;cases ys with
    |nil=>cases(c)|cons y ys=>let[_,_,e,A,z]:=c;cases e;rw[all_cons,cB]at h1 h2;rw[D h1.1 h2.1 C A,s h1.2 h2.2 B z]
  intro x y v u l j a;let q||[m,xs,e,0,px]||[m,xs,e,0,px]:=DC u j
  .let i||[m,ys,e,0,g]||[m,ys,e,0,g]:=DC l a
   .cases x<;>simp only[A7]at q<;>cases q<;>cases y<;>simp only[A7]at i<;>cases i<;>rfl
   .let[p,us,0,_]:=a;cases x<;>simp[A7]at q
   .let[p,us,0,_]:=a;cases x<;>simp[A7]at q
  .cases e;done<;>(let[p,vs,0,o,f]:=j;let i||[m,ys,e,0,g]||[m,ys,e,0,g]:=DC l a)
   .cases y<;>simp[A7]at i
   .cases e;let[p2,us,h,d,c]:=a;cases h;rw[o]at d;cases d;rw[w px g f c]
   .let[p2,us,h,_,d,c]:=a;cases h;rw[o]at d;cases d
  .cases e;let[p,vs,0,_,o,f]:=j;let i||[m,ys,e,0,g]||[m,ys,e,0,g]:=DC l a
   .cases y<;>simp[A7]at i
   .let[p2,us,h,d,c]:=a;cases h;rw[o]at d;cases d
   .cases e;let[p2,us,h,_,d,c]:=a;cases h;rw[o]at d;cases d;rw[w px g f c]
theorem NO:∀{xs ys}{vs},xs.all (P.pl n)=true->ys.all (P.pl n)=true->AC b Z H xs vs->AC b Z H ys vs->xs=ys
 |[],ys,vs,_,_,c,a=>by rw[c]at a;cases ys with
  |nil=>rfl|cons y r=>let[_,_,e,_]:=a;cases e
 |x::xs,ys,vs,h1,h2,c,a=>by let[v,t,0,h,g]:=c;cases ys with|nil=>cases(a)|cons y ys=>let[_,_,e,f,d]:=a;cases e;rw[all_cons,cB]at h1 h2;rw[Ru n h1.1 h2.1 h f,NO h1.2 h2.2 g d]
def Ei(I:'D')(e:H p\(.tup vs)):∃qG,AW vs qG/\s.heap.IsTuple p qG.toArray:=by let[qG,r,t,_]:=I.tuple (.of e);show#[qG,r,t]
def Ej(I:'D')(e:H p\(.lst vs)):∃qG,AW vs qG/\s.heap.IsList p qG.toArray:=by let[qG,r,t,_]:=I.list (.of e);show#[qG,r,t.isList]
def Gj(A:Around):A.in1.units=A.units+1:=rfl
def FM(xs ys:dI)(j:Nat):Bool:=(match xs[j]?,ys[j]? with|some x,some y=>AU x y|_,_=>true)
def Gk{ys}:((List.range (min xs.length ys.length)).all (FM xs ys)&&xs.length==ys.length)=BV xs ys:=Rr λj x y h1 h2=>by unfold FM;rw[h1,h2]
def KF{x}(h:xs.all (P.pl m)=true)(e:xs[i]?\x):x.pl m=true:=all_eq_true.mp h x (aM e)
def Rv(I:'D'):∀(n){A}{x y}{v u}{v' u'},A.units+n<cLine->x.pl n=true->y.pl n=true->Rp b Z H x v->Rp b Z H y u->AR v v'->AR u u'->EqAt A s v' u' (AU x y):=by
 intro n
 induction n with
 |zero=>
  intro A x y v u v' u' hu M J G q qv w;let D||[m,xs,e,_]||[m,xs,e,_]:=DC M G
  .let C||[m,ys,e,_]||[m,ys,e,_]:=DC J q
   .show Rs D C qv w
   .cases e
   .cases e
  .cases e
  .cases e|succ n ih=>
  intro A x y v u v' u' hu M J G q qv w;let c:A.units<cLine:=⋯;let N:A.in1.units+n<cLine:=by lia
  let pc:∀{xs ys}{vs us}{qG a},xs.all (P.pl n)=true->ys.all (P.pl n)=true->AC b Z H xs vs->AC b Z H ys us->AW vs qG->AW us a->∀j(h1)(h2:j<a.toArray.size),EqAt A.in1 s qG.toArray[j] a.toArray[j] (FM xs ys j):=by
   intro xs ys vs us qG a px h r g B z j h1 h2;let l1:=r.length;let l2:=g.length;let l3:=B.length;let L:=z.length;rw[size_toArray]at h1 h2;done<;>(let[v1,E,q1]:=r.get (i:=j) (x:=xs[j]'(by simp only[*])) (by simp[l1,l3,h1]);let[v2,f,q2]:=g.get (i:=j) (x:=ys[j]'⋯) (by simp[l2,L,h2]);let[u1,ρ,k1]:=B.get E;let[u2,σ,k2]:=z.get f);let ex:xs[j]?\(xs[j]'⋯):=by simp[l1,l3,h1]
   let ey:ys[j]?\(ys[j]'⋯):=by simp[l2,L,h2]
   let z1:qG.toArray[j]=u1:=by
    let:qG[j]?\qG[j]:=by simp[h1]
    rw[this]at ρ;simpa using oI ρ
   let z2:a.toArray[j]=u2:=by
    let:a[j]?\a[j]:=by simp[h2]
    rw[this]at σ;simpa using oI σ
   rw[z1,z2];let:FM xs ys j=AU (xs[j]'⋯) (ys[j]'⋯):=by unfold FM;rw[ex,ey]
   rw[this];show ih N (KF px ex) (KF h ey) q1 q2 k1 k2
  let D||[m,xs,e,0,px]||[m,xs,e,0,px]:=DC M G
  .let C||[m,ys,e,0,h]||[m,ys,e,0,h]:=DC J q
   .show Rs D C qv w
   .done<;>let[p,us,0,f,g]:=q;cases(w);done<;>let[qG,_,o]:=Ei I f;let:AU x (.tup ys)=false:=by cases x<;>simp[A7]at D<;>simp only[AU]
    rw[this];show Za o c D qv
   .let[p,us,0,_,f,g]:=q;cases(w);let[qG,_,o]:=Ej I f;let:AU x (.lst ys)=false:=by cases x<;>simp[A7]at D<;>simp only[AU]
    rw[this];show ZY o c D qv
  .cases e;done<;>let[p,vs,0,E,r]:=id G;cases(qv);done<;>(let[qG,B,o]:=Ei I E;let C||[m,ys,e,0,h]||[m,ys,e,0,h]:=DC J q)
   .let:AU (.tup xs) y=false:=by cases y<;>simp[A7]at C<;>simp only[AU]
    rw[this];show ZZ o c C w
   .cases e;done<;>let[p2,us,0,f,g]:=id q;cases(w);let[a,z,d]:=Ei I f;let key:=RcAt.tuples o d c (pc px h r g B z);rw[size_toArray,size_toArray,<-B.length,<-z.length,<-r.length,<-g.length,Gk]at key;rw[show AU (.tup xs) (.tup ys)=BV xs ys by simp only[AU]];by_cases l:p=p2
    .subst l;rw[E]at f;cases f;let:BV xs ys=true:=by let O:=Rt n;rw[NO px h r g];show O ys h
     rw[this];show EqAt.same _
    .show EqAt.of_refs l key
   .let[p2,us,0,_,f,g]:=q;cases(w);let[a,_,d]:=Ej I f;rw[show AU (.tup xs) (.lst ys)=false by simp only[AU]];show EqAt.tuple_list o d c
  .cases e;let[p,vs,0,_,E,r]:=id G;cases(qv);let[qG,B,o]:=Ej I E;let C||[m,ys,e,0,h]||[m,ys,e,0,h]:=DC J q
   .let:AU (.lst xs) y=false:=by cases y<;>simp[A7]at C<;>simp only[AU]
    rw[this];show ZX o c C w
   .let[p2,us,0,f,g]:=q;cases(w);let[a,_,d]:=Ei I f;rw[show AU (.lst xs) (.tup ys)=false by simp only[AU]];show EqAt.list_tuple o d c
   .cases e;let[p2,us,0,_,f,g]:=id q;cases(w);let[a,z,d]:=Ej I f;rw[show AU (.lst xs) (.lst ys)=BV xs ys by simp only[AU]];by_cases l:p=p2
    .subst l;rw[E]at f;cases f;let:BV xs ys=true:=by let O:=Rt n;rw[NO px h r g];show O ys h
     rw[this];show EqAt.same _
    .by_cases T:qG.length=a.length
     .let key:=RcAt.lists o d (~~~T) c (pc px h r g B z);rw[<-Gk];let l1:=r.length;let l2:=g.length;let l3:=B.length;let L:=z.length;let e5:min xs.length ys.length=qG.toArray.size:=by rw[size_toArray];simp_all
      let Q:(xs.length==ys.length)=true:=by rw[beq_iff_eq];simp only[*]
      rw[e5,Q,Bool.and_true];show EqAt.of_refs l key
     .let l1:=r.length;let l2:=g.length;let l3:=B.length;let L:=z.length;let Q:(xs.length==ys.length)=false:=by rw[beq_eq_false_iff_ne];simp_all
      rw[<-Gk,Q,Bool.and_false];show EqAt.of_refs l (RcAt.lists_lengths o d (~~~T) c)
def Rw(I:'D')(c:A.in1.units+n<cLine){ys}{us}{qG a}(px:xs.all (P.pl n)=true)(u:ys.all (P.pl n)=true)(f:AC b Z H xs vs)(r2:AC b Z H ys us)(e:AW vs qG)(d:AW us a):∀j(h1)(h2:j<a.toArray.size),EqAt A.in1 s qG.toArray[j] a.toArray[j] (FM xs ys j):=by
 intro j h1 h2;let l1:=f.length;let l2:=r2.length;let l3:=e.length;let g:=d.length;rw[size_toArray]at h1 h2;done<;>(let[z,w,r]:=f.get (i:=j) (x:=xs[j]'(by simp only[*])) (by simp[l1,l3,h1]);let[y,v,q]:=r2.get (i:=j) (x:=ys[j]'(by simp only[*])) (by simp[l2,g,h2]);let[u1,l,k1]:=e.get w;let[u2,h,k2]:=d.get v);let ex:xs[j]?\(xs[j]'⋯):=by simp[l1,l3,h1]
 let m:ys[j]?\(ys[j]'⋯):=by simp[l2,g,h2]
 let p:qG.toArray[j]=u1:=by
  let:qG[j]?\qG[j]:=by simp[h1]
  rw[this]at l;simpa using oI l
 let o:a.toArray[j]=u2:=by
  let:a[j]?\a[j]:=by simp[h2]
  rw[this]at h;simpa using oI h
 rw[p,o];let:FM xs ys j=AU (xs[j]'⋯) (ys[j]'⋯):=by unfold FM;rw[ex,m]
 rw[this];show Rv I n c (KF px ex) (KF u m) r q k1 k2
def Rx(I:'D'){x}{u}(T:A.units+n+1<cLine)(N:x.pl n=true)(J:y.pl n=true)(E:Rp b Z H x v)(l:Rp b Z H y u)(qv:AR v v')(h:AR u u'):RcAt A s v' u' (AU x y)/\RcNeAt A s v' u' (!AU x y):=by
 let a:A.units<cLine:=⋯;let q||[m,xs,e,0,px]||[m,xs,e,0,px]:=DC N E
 .let j||[m,ys,e,0,r]||[m,ys,e,0,r]:=DC J l
  .show{ZW q j qv h,ZV q j qv h}
  .done<;>let[p,us,0,i,o]:=l;cases(h);done<;>let[qG,_,d]:=Ei I i;let:AU x (.tup ys)=false:=by cases x<;>simp[A7]at q<;>simp only[AU]
   rw[this];show{Zk d a q qv,Zg d a q qv}
  .let[p,us,0,_,i,o]:=l;cases(h);let[qG,_,d]:=Ej I i;let:AU x (.lst ys)=false:=by cases x<;>simp[A7]at q<;>simp only[AU]
   rw[this];show{Zi d a q qv,Zd d a q qv}
 .subst e;done<;>let[p,vs,0,M,B]:=id E;cases(qv);done<;>(let[qG,z,d]:=Ei I M;let j||[G,ys,e,0,r]||[G,ys,e,0,r]:=DC J l)
  .let:AU (.tup xs) y=false:=by cases y<;>simp[A7]at j<;>simp only[AU]
   rw[this];show{Zj d a j h,Ze d a j h}
  .cases e;done<;>let[p2,us,0,i,o]:=id l;cases(h);let[g,w,c]:=Ei I i;let C:=Rw I (A:=A) (by rw[Gj];lia) px r B o z w;let key:=RcAt.tuples d c a C;let f:=RcNeAt.tuples d c a C;rw[size_toArray,size_toArray,<-z.length,<-w.length,<-B.length,<-o.length,Gk]at key f;rw[show AU (.tup xs) (.tup ys)=BV xs ys by simp only[AU]];show#[key,f]
  .let[p2,us,0,_,i,o]:=l;cases(h);let[g,_,c]:=Ej I i;rw[show AU (.tup xs) (.lst ys)=false by simp only[AU]];show{RcAt.tuple_list d c a,RcNeAt.tuple_list d c a}
 .subst e;let[p,vs,0,_,M,B]:=id E;cases(qv);let[qG,z,d]:=Ej I M;let j||[G,ys,e,0,r]||[G,ys,e,0,r]:=DC J l
  .let:AU (.lst xs) y=false:=by cases y<;>simp[A7]at j<;>simp only[AU]
   rw[this];show{Zh d a j h,Zb d a j h}
  .let[p2,us,0,i,o]:=l;cases(h);let[g,_,c]:=Ei I i;rw[show AU (.lst xs) (.tup ys)=false by simp only[AU]];show{RcAt.list_tuple d c a,RcNeAt.list_tuple d c a}
  .cases e;let[p2,us,0,_,i,o]:=id l;cases(h);let[g,w,c]:=Ej I i;rw[show AU (.lst xs) (.lst ys)=BV xs ys by simp only[AU]];let l1:=B.length;let l2:=o.length;let l3:=z.length;let Q:=w.length;by_cases D:qG.length=g.length
   .let C:=Rw I (A:=A) (by rw[Gj];lia) px r B o z w;let key:=RcAt.lists d c (~~~D) a C;let f:=RcNeAt.lists d c (~~~D) a C;rw[<-Gk];let O:min xs.length ys.length=qG.toArray.size:=by rw[size_toArray];simp_all
    let L:(xs.length==ys.length)=true:=by rw[beq_iff_eq];simp only[*]
    rw[O,L,Bool.and_true];show#[key,f]
   .let L:(xs.length==ys.length)=false:=by rw[beq_eq_false_iff_ne];simp_all
    rw[<-Gk,L,Bool.and_false];show{RcAt.lists_lengths d c (~~~D) a,RcNeAt.lists_lengths d c (~~~D) a}
def Ry:R2:=(λv u H Q=>∃(b:Addr)(Z:Addr->Prop)(x y:P),x.pl 9=true/\y.pl 9=true/\Rp b Z H x v/\Rp b Z H y u/\Q (.bl (AU x y)) H)
def NP:R2:=(λv u H Q=>∃(b:Addr)(Z:Addr->Prop)(x y:P),x.pl 9=true/\y.pl 9=true/\Rp b Z H x v/\Rp b Z H y u/\Q (.bl (!AU x y)) H)
def EI(f:Room k X.A):Az X (compareOp .Eq) Ry:=by rintro qA s U H x y v u Q I c a⟨b,Z,px,g,h1,h2,e,d,q⟩;show(Rx I (by let:=f.units;lia) h1 h2 e d c a).1 _ _ _ _ {.bl _,H,I,0,q}
def Ds(f:Room k X.A):Az X (compareOp .NotEq) NP:=by rintro qA s U H x y v u Q I c a⟨b,Z,px,g,h1,h2,e,d,q⟩;show(Rx I (by let:=f.units;lia) h1 h2 e d c a).2 _ _ _ _ {.bl _,H,I,0,q}
def Rz:p2:=(λx _ y _ K=>(x.pl 9=true/\y.pl 9=true)/\K (.bl (AU x y)) .fr)
def R0:p2:=(λx _ y _ K=>(x.pl 9=true/\y.pl 9=true)/\K (.bl (!AU x y)) .fr)
def EJ:BE Ry Rz:=λW Y U Hs H Q K x y f h v u ok st d c a q=>{W.b,_,x,y,a.1.1,a.1.2,d.any ok,c.any ok,q _ _ _ H a.2 (Step.refl ok.bag) Dn}
def Dt:BE NP R0:=λW Y U Hs H Q K x y f h v u ok st d c a q=>{W.b,_,x,y,a.1.1,a.1.2,d.any ok,c.any ok,q _ _ _ H a.2 (Step.refl ok.bag) Dn}
@[simp]theorem R1(n)(i):(P.int i).pl n=true:=by cases n<;>rfl
@[simp]theorem R3(n)(i):(P.str i).pl n=true:=by cases n<;>rfl
@[simp]theorem Zl(n)(i):(P.bl i).pl n=true:=by cases n<;>rfl
@[simp]theorem Zm(n):P.non.pl n=true:=by cases n<;>rfl
@[simp]theorem Zn(n)(xs:dI):(P.tup xs).pl (n+1)=xs.all (P.pl n):=rfl
@[simp]theorem Zo(n)(xs:dI):(P.lst xs).pl (n+1)=xs.all (P.pl n):=rfl
def IF{α:Type}{f}(h:∀a,(f a).pl n=true)(xs:List α):(xs.map f).all (P.pl n)=true:=by simp_all
@[simp]theorem Zp(n)(xs:By):(xs.map P.int).all (P.pl n)=true:=IF (λa=>R1 n a) xs
@[simp]theorem Zq(n)(xs:At):(xs.map P.str).all (P.pl n)=true:=IF (λa=>R3 n a) xs
mutual
noncomputable def P.nb:P->Bool|.non=>true|.int _=>true|.str _=>true|.tup xs=>P.nbs xs|.lst xs=>P.nbs xs|_=>false
noncomputable def P.nbs:dI->Bool|[]=>true|x::r=>x.nb&&P.nbs r
end
mutual
theorem IG:∀{x y:P},x.nb=true->y.nb=true->(AU x y=true↔x=y)
 |.non,y,_,c=>by cases y<;>simp_all[AU,P.nb]|.bl _,y,a,_=>by simp[P.nb]at a|.int _,y,_,c=>by cases y<;>simp_all[AU,P.nb]|.str _,y,_,c=>by cases y<;>simp_all[AU,P.nb]|.bag,y,a,_=>by simp[P.nb]at a|.tup xs,y,a,c=>by cases y with
  |tup ys=>rw[P.nb]at a c;rw[show AU (.tup xs) (.tup ys)=BV xs ys by simp only[AU],NQ a c];simp|_=>simp[AU]
 |.lst xs,y,a,c=>by cases y with
  |lst ys=>rw[P.nb]at a c;rw[show AU (.lst xs) (.lst ys)=BV xs ys by simp only[AU],NQ a c];simp|_=>simp[AU]
 |.dT _ _,y,a,_=>by simp[P.nb]at a|.fT _ _,y,a,_=>by simp[P.nb]at a|.dK _ _,y,a,_=>by simp[P.nb]at a
theorem NQ:∀{xs ys:dI},P.nbs xs=true->P.nbs ys=true->(BV xs ys=true↔xs=ys)
 |[],[],_,_=>by simp[BV]|[],_::_,_,_=>by simp[BV]|_::_,[],_,_=>by simp[BV]|x::xs,y::ys,c,a=>by rw[P.nbs,cB]at c a;rw[BV,cB,IG c.1 a.1,NQ c.2 a.2];simp
end
theorem IH{α:Type}{f}(h:∀a,(f a).nb=true):∀xs:List α,P.nbs (xs.map f)=true|[]=>rfl|x::r=>by rw[map_cons,P.nbs,h x,IH h r];rfl
def NR(neg:Bool):R2:=(λv u H Q=>∃(b p:Addr)(Z:Addr->Prop)(x:P)(ys:dI)(us:dH),u=.ref p/\(H p\(.lst us)\/H p\(.tup us))/\x.pl 8=true/\ys.all (P.pl 8)=true/\Rp b Z H x v/\AC b Z H ys us/\Q (.bl (if neg=true then !(ys.any λy=>AU y x)else ys.any λy=>AU y x)) H)
section
variable{k:Nat}
open Classical in
def R4(O:Room k X.A){b:Addr}{x:P}{ys:dI}{us:dH}{qG:B6}(I:'D')(L:AR v v')(w:AW us qG)(h1:x.pl 8=true)(h2:ys.all (P.pl 8)=true)(M:Rp b Z H x v)(r2:AC b Z H ys us):∃e:Value->Bool,(∀y,y∈qG.toArray->EqAt X.A.in1 s y v' (e y))/\qG.toArray.any e=ys.any λy=>AU y x:=by
 let G:∀j y,qG[j]?\y->∃z u,ys[j]?\z/\z∈ys/\Rp b Z H z u/\AR u y:=λj y c=>by
  let l1:=r2.length;let l2:=w.length;let p:j<qG.length:=by
   let q||q:=cE j qG.length
   .show q
   .rw[bQ q]at c;cases c
  let r:ys[j]?\(ys[j]'(by simp only[*])):=by simp[l1,l2,p]
  let[u,E,D]:=r2.get r;let[Q,d,C]:=w.get E;rw[c]at d;cases d;show{_,u,r,aM r,D,C}
 show{λy=>decide (∃z u,z∈ys/\Rp b Z H z u/\AR u y/\AU z x=true),λy o=>?_,?_}
 .let o:y∈qG:=by simpa using o
  let[j,c,e]:=getElem_of_mem o;let[z,u,T,n,g,l]:=G j y (by rw[<-e];simp[c]);let B:=Rv I 8 (A:=X.A.in1) (by rw[Gj];let:=O.units;lia) (all_eq_true.mp h2 z n) h1 g M l L;let:decide (∃z u,z∈ys/\Rp b Z H z u/\AR u y/\AU z x=true)=AU z x:=by
   rw[Bool.eq_iff_iff,aW];constructor
   .rintro⟨J,u',N,f,h,a⟩;cases l.inj h;rw[Ru 8 (all_eq_true.mp h2 z n) (all_eq_true.mp h2 J N) g f];show a
   .showλa=>#[z,u,n,g,l,a]
  change EqAt X.A.in1 s y v' (decide _);rw[this];show B
 .rw[Bool.eq_iff_iff,any_toArray,any_eq_true,any_eq_true];constructor
  .rintro⟨y,_,a⟩;let[z,u,m,_,_,a]:=aL a;show#[z,m,a]
  .rintro⟨z,m,a⟩;let[j,c,e]:=getElem_of_mem m;let[u,E,D]:=r2.get (i:=j) (x:=z) (by rw[<-e];simp[c]);let[y,d,C]:=w.get E;show#[y,aM d,aK #[z,u,m,D,C,a]]
def II(j:Room k X.A):Az X (compareOp .In) (NR false):=by
 rintro qA s U H x y v u Q I f l⟨b,p,Z,px,ys,us,rfl,hp,h1,h2,i,g,q⟩;cases l;let hp||hp:=hp
 .let[qG,w,a]:=Ej I hp;let[e,c,d]:=R4 j I f w h1 h2 i g;show in_listAt e a c (by rw[d];show{.bl _,H,I,0,q})
 .let[qG,w,a]:=Ei I hp;let[e,c,d]:=R4 j I f w h1 h2 i g;show in_tupleAt e a c (by rw[d];show{.bl _,H,I,0,q})
end
def NS(neg:Bool):p2:=(λx _ y _ K=>∃ys,y.items\ys/\(x.pl 8=true/\ys.all (P.pl 8)=true)/\K (.bl (if neg=true then !(ys.any λy=>AU y x)else ys.any λy=>AU y x)) .fr)
noncomputable abbrev Zr:p2:=NS false
def Zs(a):BE (NR a) (NS a):=λW Y U Hs H Q K x y f h v u ok st d c j q=>by let[ys,e,[h1,h2],l]:=j;let g:=RF.items (f:=.an) (Hs:=Hs) (c.any ok) e;let[p,vs,0,m,i]:=g;show{W.b,p,_,x,ys,vs,0,m,h1,h2,d.any ok,i,q _ _ _ H l (Step.refl ok.bag) Dn}
def IJ:BE (NR false) Zr:=Zs false
def KG(z)(xs:At):((xs.map P.str).any λy=>AU y (.str z))=decide (z∈xs):=by induction xs with|nil=>rfl|cons x r a=>rw[map_cons,any_cons,a,show AU _ _=(x==z)by rfl];grind
end L2
namespace L2
set_option tactic.hygienic true
def cut{α:Type}(xs:List α)(lo hi:Option Int):List α:=((xs.drop (HT.dA xs.length 0 lo)).take (HT.dA xs.length xs.length hi-HT.dA xs.length 0 lo))
noncomputable abbrev pO:=dJ->(Option Int->Prop)->Prop
def Zt(t:TO)(p:pO):Prop:=(∀(W:Wd)(Y:dJ)(U:St)(H:Hp)(Q:Option Int->Hp->Prop)(K:Option Int->Prop),Ok W Y U H->p Y K->(∀o H',K o->Step W.b W.a H H'->Q o H')->t U H Q)
def QO(Xs:ι->Cx)(e:Option Expr)(p:pO):Prop:=(∃t,(∀i,PO (Xs i) e t)/\Zt t p)
def R5:pO:=(λ_ K=>K none)
def R6(p:pE):pO:=(λY K=>p Y λx _=>match x with|.int i=>K (some i)|_=>False)
noncomputable def R7(pe:pE)(pl ph:pO):pE:=(λY K=>pe Y λx f=>pl Y λlo=>ph Y λhi=>match x with
 |.lst xs=>K (.lst (cut xs lo hi)) (Bj f (cut xs lo hi))|.tup xs=>K (.tup (cut xs lo hi)) f.el|.str z=>z.length<=16777216/\K (.str (Txt.slice z lo hi)) .fr|_=>False)
section
variable{e:Expr}{lo hi:Option Expr}{pl ph:pO}{p2:Pos}
def KH:QO Xs none R5:={_,λ_=>E6,λW Y U H Q K ok h q=>q none H h (Step.refl ok.bag)}
def KI(h:QE Xs e pe):QO Xs (some e) (R6 pe):=by
 let[t,h1,h2]:=h;show{_,λi=>E7 (h1 i),λW Y U H Q K ok d q=>h2 W Y U H _ _ ok d λx f v H1 k1 a c=>?_};split at k1
 .show{_,Ck (ok.step a) c,q _ H1 k1 a}
 simp_all
def R8(K:Fg):V->Option Int->Option Int->Hp->VK->Prop:=(λx lo hi H Q=>(QK K x lo hi H Q\/Mp x lo hi H Q)\/Qp x lo hi H Q)
def Zu:DV X (R8 X.K):=DV.or (DV.or Ja Jt) Qr
def AC.cut{lo hi}(h:AC b Z H xs vs):AC b Z H (L2.cut xs lo hi) (DW vs lo hi):=by unfold L2.cut DW;rw[h.length];show(h.drop _).take _
def KJ(z:∀i,(Xs i).K=Kf)(y:QE Xs e pe)(g:QO Xs lo pl)(w:QO Xs hi ph):QE Xs (.Subscript e (.Slice lo hi none p2) pos) (R7 pe pl ph):=by
 let[te,B,A]:=y;let[tl,l1,l2]:=g;let[th,h1,h2]:=w;show{MO (R8 Kf) te tl th,λi=>E8 (by rw[<-z i];show Zu) (B i) (l1 i) (h1 i),λW Y U H Q K ok u q=>A W Y U H _ _ ok u λx f v H1 k1 h s=>l2 W Y U H1 _ _ (ok.step h) k1 λo H2 k2 j=>h2 W Y U H2 _ _ ((ok.step h).step j) k2 λo' C k3 r=>?_};let a:=(h.trans j).trans r;let d:=ok.step a;let m:=s.step (ok.step h) (j.trans r);split at k3
 .let[p,us,0,c,rv]:=DB d m;show .inl (.inl {p,us,0,.of c,λl g=>q _ _ _ _ k3 (a.trans (Step.new a.bag g)) (RF.newL d a rv.cut g)})
 .let[p,us,0,c,rv]:=Dr d m;show .inl (.inr {p,us,0,c,λn=>q _ _ _ _ k3 a ?_,λn l g=>q _ _ _ _ k3 (a.trans (Step.new a.bag g)) ?_})
  .rename_i xs0;let e:L2.cut xs0 o o'=xs0:=by unfold L2.cut;rw[rv.length,n.1,n.2,drop_zero,Nat.sub_zero,<-rv.length,take_length]
   rw[e];show RF.ofEl #[p,us,0,c,rv]
  .show RF.ofEl {l,_,0,AN,(rv.cut).step (Step.new a.bag g) a.bag}
 .cases EB d m;show .inr {_,0,k3.1,q _ _ _ _ k3.2 a RE}
 .show k3.elim
end
section
variable{x x':P}{k:Nat}
def Fp(ok:Ok W Y U H)(h:A8 Y U p)(g:f=.cl\/f=.fr):(∀q u,¬AJ W Y U f q->H q\u->¬AJ W Y U f q/\AB H p o q\u)/\∀q us,H q\(.tup us)->AB H p o q\(.tup us):=by
 let[_,_,_,_,o',a,d]:=ok.ow (.inr h);show{λq u c e=>#[c,?_],λq us e=>?_}
 .rw[AE (λz=>c (by subst z;let 0||0:=g<;>simp[AJ,Ow,h]))];show e
 .rw[AE (λz=>by subst z;rw[e]at a;cases a;show d us rfl)];show e
def Ok.mut(ok:Ok W Y U H)(A:Y[k]?\(.own x))(hs:U[k]?\(some (.ref p)))(σ:∀ys,o≠.tup ys)(E:Rc W.b (Zf W Y U) (AB H p o) x' p):Ok W (Y.set k (.own x')) U (AB H p o):=by
 let d:A8 Y U p:=#[k,x,A,hs];let[N,M,L,ga,o',q1,q2]:=ok.ow (.inr d);let J:k<Y.length:=by
  let q||q:=cE k Y.length
  .show q
  .rw[bQ q]at A;cases A
 let get:∀(i)(y),(Y.set k (S.own x'))[i]?\(S.own y)->∃z,Y[i]?\(S.own z):=λi y e=>by
  by_cases hi:k=i
  .subst hi;show#[x,A]
  .rw[bV hi]at e;show#[y,e]
 let D:∀q,A8 (Y.set k (.own x')) U q↔A8 Y U q:=λq=>by
  constructor
  .rintro⟨i,y,h1,h2⟩;let[z,e]:=get i y h1;show#[i,z,e,h2]
  .rintro⟨i,y,h1,h2⟩;by_cases hi:k=i
   .subst hi;show{k,x',bY J,h2}
   .show{i,y,by rw[bV hi];show h1,h2}
 let O:∀f q,AJ W (Y.set k (.own x')) U f q↔AJ W Y U f q:=λf q=>by let:Ow W (Y.set k (.own x')) U q↔Ow W Y U q:=or_congr Iff.rfl (D q);cases f<;>simp only[AJ,this]
 let C:=λf=>funext λq=>propext (O f q);show{ok.bag.put L ga,ok.fb,λq u G e=>?_,λq u e=>?_,λq G=>?_,by rw[length_set];show ok.len,λi s e=>?_,λi j y z h1 h2 I=>?_}
 .rw[AE (λz=>by subst z;rw[N]at e;cases e)];show ok.old q u G e
 .rw[AE (λz=>by subst z;rw[M]at e;cases e)];show ok.frm q u e
 .done<;>let[h1,h2,I,h4,u,h5,ρ]:=ok.oo q G;show#[h1,h2,I,h4,?_];by_cases w:q=p
  .subst w;show#[o,AN,σ]
  .show{u,by rw[AE w];show h5,ρ}
 .by_cases hi:k=i
  .subst hi;rw[bY J]at e;cases e;show{_,hs,p,0,N,M,L,ga,by rw[show Zf W (Y.set k (.own x')) U=Zf W Y U from C .fr];show E}
  .rw[bV hi]at e;let[u,h1,h2]:=ok.slot i s e;show#[u,h1,?_];cases s with
   |emp=>trivial|sh y=>let[v,g,m]:=h2;let a:=Fp (o:=o) ok d (.inl rfl);show{v,g,by rw[show Zc W (Y.set k (.own x')) U=Zc W Y U from C .cl];show m.keep a.1 a.2}|fr y=>let[v,g,m]:=h2;let a:=Fp (o:=o) ok d (.inr rfl);show{v,g,by rw[show Zf W (Y.set k (.own x')) U=Zf W Y U from C .fr];show m.keep a.1 a.2}|own y=>
    let[r,g,m,e3,e4,e5,B]:=h2;let a:=Fp (o:=o) ok d (.inr rfl);let c:r≠p:=λz=>by subst z;show hi (ok.uniq k i x y A e (by rw[hs,h1,g]))
    show#[r,g,m,e3,e4,e5,?_];rw[show Zf W (Y.set k (.own x')) U=Zf W Y U from C .fr];cases y with
    |lst xs=>let[vs,l,h]:=B;show{vs,by rw[AE c];show l,h.keep a.1 a.2}|dT ks xs=>let[vs,l,n,h]:=B;show{vs,by rw[AE c];show l,n,h.keep a.1 a.2}|fT ks xs=>let[vs,l,n,h]:=B;show{vs,l.map λ_ e=>by rw[AE c];show e,n,h.keep a.1 a.2}|dK ks xs=>let[vs,l,n,h]:=B;show{vs,by rw[AE c];show l,n,h.keep a.1 a.2}|_=>show B.elim
 .let[T,g]:=get i y h1;let[Q,m]:=get j z h2;show ok.uniq i j T Q g m I
def Ok.ownL(ok:Ok W Y U H)(a:Y[k]?\(.own (.lst xs))):∃p vs,U[k]?\(some (.ref p))/\H p\(.lst vs)/\AC W.b (Zf W Y U) H xs vs/\A8 Y U p:=by let[o,h1,p,h2,_,_,_,_,vs,d,c]:=ok.slot k _ a;subst h2;show#[p,vs,h1,d,c,k,_,a,h1]
def Ok.mutL{ys}{vs us:dH}(ok:Ok W Y U H)(c:Y[k]?\(.own (.lst xs)))(hs:U[k]?\(some (.ref p)))(d:AC W.b (Zf W Y U) H ys us):Ok W (Y.set k (.own (.lst ys))) U (AB H p (.lst us)):=by let a:=Fp (o:=HO.lst us) ok #[k,_,c,hs] (.inr rfl);show ok.mut c hs '6' {us,AN,d.keep a.1 a.2}
end
noncomputable def IK(k:Nat)(pe:pE):pS:=(λE Y=>match Y[k]? with
 |some (.own (.lst xs))=>pe Y λy f=>BJ y f=.nw/\xs.length<16777216/\E.nx (Y.set k (.own (.lst (xs++[y]))))|_=>False)
noncomputable def KL(k j:Nat)(pi:pE):pS:=(λE Y=>match Y[k]?,Y[j]? with
 |some (.own (.lst xs)),some (.own (.lst ys))=>pi Y λi _=>∃(m:Nat)(z:P),i=.int (m:Int)/\m<2^62/\ys[m]?\z/\xs.length<16777216/\k≠j/\E.nx ((Y.set j (.own (.lst (ys.eraseIdx m)))).set k (.own (.lst (xs++[z]))))|_,_=>False)
noncomputable def frzS(k:Nat)(Y:dJ):dJ:=(match Y[k]? with
 |some (.own x)=>Y.set k (.fr x)|_=>Y)
def R9(k:Nat)(p:pS):pS:=(λE Y=>p E (frzS k Y))
def NT(ok:Ok W Y U H)(r:RF W Y U Hs f H y v)(h:BJ y f=.nw):Rp W.b (Zf W Y U) H y v:=by let:=(Mu ok r).2.2;rw[h]at this;show this
section
variable{a b:Expr}{p1:Pos}{k:Nat}{t u:TE}
def Ok.stepL(ok:Ok W Y U H)(st:Step W.b W.a H H')(hs:U[k]?\(some (.ref p)))(e:H p\(.lst vs))(c:AC W.b (Zf W Y U) H xs vs)(d:A8 Y U p):H' p\(.lst vs)/\AC W.b (Zf W Y U) H' xs vs:={st.same p _ (ok.ow (.inr d)).2.2.1 e,c.step st ok.bag}
def Zv(h2:Bs t pa):GW (JP (Jc Kf "list" rAppend (tVar k) (A6 t BU))) (IK k pa):=λW Y U H D E ok c r=>by
 unfold IK at c;split at c
 .rename_i xs e;let[p,vs,d,l,j,n]:=ok.ownL e;show{.ref p,d,.inl {0,vs,.of l},h2 W Y U H _ _ ok c λy f v H1 zz i m=>?_};let[k1,k2,k3]:=zz;let a:=ok.step i;let[h,g]:=ok.stepL i d l j n;show{p,vs,v,0,0,h,by rw[<-j.length];show k2,r.nx _ _ _ k3 (a.mutL (vs:=vs) e d (g.snoc (NT a m k1)))}
 simp_all
def Gn(n:∀i,(Xs i).K=Kf)(l:QE Xs a pa)(m:∀i,(Xs i).N[k]?\x:=by rfl)(e:∀i,Dj (Xs i).env.scope x:=by intro _;trivial)(h:No x:=by decide)(d:N_ x:=by decide)(g:(qK.endLine==qJ.line)=true:=by rfl)(f:∀i,swapsWith (.Call (.Attribute (.Name x p1) "append" qK) [a] [] qJ) none pos.line (Xs i).env=pure false:=by rfl)(j:∀i,attributeBase (.Name x p1) "append" (Xs i).env (eval (.Name x p1) (Xs i).env)=eval (.Name x p1) (Xs i).env:=by rfl)(c:∀i,starEach [a] (Xs i).env=[(false,eval a (Xs i).env)]:=by rfl):QS Xs (.Expr (.Call (.Attribute (.Name x p1) "append" qK) [a] [] qJ) pos) (IK k pa):=by let[t,h1,h2]:=l;show{_,λi=>?_,Zv (Kf:=Kf) h2};rw[<-n i];show ES (FA PySem.F.plainAttrs_list PySem.F.slot_list_append PySem.F.type_list_append Fe (ER (m i) (e i) h d) (AK (h1 i) Ab (c i)) (j i) (by rw[c i];rfl) g (c i) rfl) (f i)
def Ok.frzS(B:∀p,¬W.O p)(ok:Ok W Y U H):Ok W (frzS k Y) U H:=by
 unfold L2.frzS;split
 .rename_i x e;let[o,h1,p,h2,D,E,C,ga,g]:=ok.slot k _ e;subst h2;let r:k<Y.length:=by
   let q||q:=cE k Y.length
   .show q
   .rw[bQ q]at e;cases e
  let u:k<U.length:=by rw[ok.len];show r
  let h:U.set k (some (.ref p))=U:=by
   apply ext_getElem?;intro i;by_cases hi:k=i
   .subst hi;rw[bY u,h1]
   .rw[bV hi]
  let hn:=Ho (Y:=Y) (U:=U) (k:=k) (v:=.ref p) (s:=.fr x) '6';let key:=ok.put (Step.refl ok.bag) r (λq z=>.inl (hn q z)) ?_ (λy z=>nomatch z)
  .rw[h]at key;show key
  .show{.ref p,0,?_};rw[h]at hn⊢;let l:∀q o,¬Zf W Y U q->H q\o->¬Zf W (Y.set k (.fr x)) U q/\H q\o:=Jw (Step.refl ok.bag) (λq z=>.inl (hn q z));let np:¬Zf W (Y.set k (.fr x)) U p:=by
    intro z;rcases z with z|(z|z)|z
    .show C z
    .--n m:w same cell
     show B p z
    .let[i,y,j,A]:=z;by_cases hi:k=i
     .subst hi;rw[bY r]at j;cases j
     .rw[bV hi]at j;show hi (ok.uniq k i x y e j (by rw[h1,A]))
    .show z D
   cases x with
   |lst xs=>let[vs,c,a]:=g;show{p,vs,0,np,c,a.keep l λq us e=>e}|dT ks xs=>let[vs,c,d,a]:=g;show{p,vs,0,np,c,d,a.keep l λq us e=>e}|fT ks xs=>let[vs,c,d,a]:=g;show{p,vs,0,np,c,d,a.keep l λq us e=>e}|dK ks xs=>let[vs,c,d,a]:=g;show{p,vs,0,np,c,d,a.keep l λq us e=>e}|_=>show g.elim
 .show ok
def IL{st}{p}(k)(h:QS Xs st p):QS Xs st (R9 k p):=by let[t,h1,h2]:=h;show{t,h1,λW Y U H D E ok a r=>h2 W _ U H D E (ok.frzS r.noO) a r}
def Zw(h:m<n):seqIndex? (m:Int) n\m:=by rw[seqIndex_of ⋯ (by simp_all)];simp
def Zx(h1:Bs t pa):GW (JP (Jc Kf "list" rAppend (tVar k) (A6 (Jc Kf "list" QU (tVar j) (A6 t BU)) BU))) (KL k j pa):=λW Y U H D E ok G r=>by
 unfold KL at G;split at G
 .rename_i xs ys e I;done<;>(let[p,vs,n,ρ,σ,ho]:=ok.ownL e;let[q,us,a,C,u,x]:=ok.ownL I);show{.ref p,n,.inl {0,vs,.of ρ},.ref q,a,.inl {0,us,.of C},h1 W Y U H _ _ ok G λy f v H1 zz J r1=>?_};done<;>let[m,z,k0,k1,k2,k3,T,k5]:=zz;subst k0;let d:=ok.step J;cases Ck d r1;done<;>(let[B,a3]:=ok.stepL J n ρ σ ho;let[N,s]:=ok.stepL J a C u x;let l:=σ.length;let[w,O,e4]:=s.get k2);let hm:m<us.length:=by
   let qq||qq:=cE m us.length
   .show qq
   .rw[bQ qq]at O;cases O
  let g:p≠q:=λzz=>by subst zz;show T (ok.uniq k j _ _ e I (by rw[n,a]))
  show{q,us,m,m,w,0,0,N,⋯,⋯,Zw hm,O,?_};let c:=d.mutL (vs:=us) I a (s.erase m);let eA:(Y.set j (.own (.lst (ys.eraseIdx m))))[k]?\(.own (.lst xs)):=by rw[bV (Ne.symm T)];show e
  let[p',a0,h,A,M,a4]:=c.ownL eA;rw[n]at h;cases h;rw[AE g,B]at A;cases A;show{p,vs,w,0,0,by rw[AE g];show B,by rw[<-l];show k3,r.nx _ _ _ k5 ?_};show c.mutL (vs:=vs) eA n (M.snoc ?_);let Q:=Fp (o:=HO.lst (us.eraseIdx m)) d x (.inr rfl);let L:∀q',A8 (Y.set j (.own (.lst (ys.eraseIdx m)))) U q'->A8 Y U q':=λq'⟨i,y,a1,a2⟩=>by
   by_cases hi:j=i
   .subst hi;show#[j,_,I,a2]
   .rw[bV hi]at a1;show#[i,y,a1,a2]
  let z5:=e4.keep Q.1 Q.2;show z5.keep (Jw (Step.refl c.bag) (λq' z=>.inl (L q' z))) λ_ _ e=>e
 .show G.elim
def SA{x'}{p2 e d}(z:∀i,(Xs i).K=Kf)(w:QE Xs a pa)(y:∀i,(Xs i).N[k]?\x:=by rfl)(q:∀i,Dj (Xs i).env.scope x:=by intro _;trivial)(u:No x:=by decide)(n:N_ x:=by decide)(p:∀i,(Xs i).N[j]?\x':=by rfl)(h:∀i,Dj (Xs i).env.scope x':=by intro _;trivial)(m:(x'==("__debug__":Str))=false:=by decide)(g:(x'==("__classdict__":Str))=false:=by decide)(s:(qK.endLine==qJ.line)=true:=by rfl)(l:(e.endLine==d.line)=true:=by rfl)(r:∀i,swapsWith (.Call (.Attribute (.Name x p1) "append" qK) [.Call (.Attribute (.Name x' p2) "pop" e) [a] [] d] [] qJ) none pos.line (Xs i).env=pure false:=by rfl)(v:∀i,attributeBase (.Name x p1) "append" (Xs i).env (eval (.Name x p1) (Xs i).env)=eval (.Name x p1) (Xs i).env:=by rfl)(o:∀i,attributeBase (.Name x' p2) "pop" (Xs i).env (eval (.Name x' p2) (Xs i).env)=eval (.Name x' p2) (Xs i).env:=by rfl)(f:∀i,starEach [a] (Xs i).env=[(false,eval a (Xs i).env)]:=by rfl)(c:∀i,starEach [.Call (.Attribute (.Name x' p2) "pop" e) [a] [] d] (Xs i).env=[(false,eval (.Call (.Attribute (.Name x' p2) "pop" e) [a] [] d) (Xs i).env)]:=by rfl):QS Xs (.Expr (.Call (.Attribute (.Name x p1) "append" qK) [.Call (.Attribute (.Name x' p2) "pop" e) [a] [] d] [] qJ) pos) (KL k j pa):=by let[t,h1,h2]:=w;show{_,λi=>?_,Zx (Kf:=Kf) h2};rw[<-z i];show ES (FA PySem.F.plainAttrs_list PySem.F.slot_list_append PySem.F.type_list_append Fe (ER (y i) (q i) u n) (AK (FA PySem.F.plainAttrs_list PySem.F.slot_list_pop PySem.F.type_list_pop Xo (ER (p i) (h i) m g) (AK (h1 i) Ab (f i)) (o i) (by rw[f i];rfl) l (f i) rfl) Ab (c i)) (v i) (by rfl) s (c i) rfl) (r i)
end
open PySem.W
def Inv.laidF{m:Str->C2}(I:'D')(hm:s.heap.Ns X.env.locals m)(a:h'.Ns X.env.locals m)(k:∀b u,b≠X.env.locals->'F' b\u->h'.get? b\u)(d:H D=none)(h:∀u,'F' D≠some u)(new:BB X.prog X.w (AB H D o) h' D o):Inv X qA U (AB H D o) {s with heap:=h',toks:=t'}:=by
 show I.step (ch:=[]) (λb hb=>nomatch hb) (λb u f _ _ e _=>k b u f e) (λb u f _ _ e _=>{u.slots,k b u f e}) (λb u _ e n=>?_) (λb u _ e=>?_) (λb xs e=>?_) (λb u v e=>?_) (λb ps e=>{#[],?_}) (λl h2=>?_) ?_ I.bare
 .rw[AE (λz=>by subst z;show h u e)];show n
 .by_cases hb:b=X.env.locals
  .subst hb;let[o',_,_,j,_]:=a;show#[o',j]
  .show{u,k b u hb e}
 .rw[AE (Af e d)];show e
 .rw[AE (Af e d)];show e
 .rw[AE (Af e d)];simpa using e
 .rw[h2.eq_nsMap,<-hm.eq_nsMap];show a
 .intro b u e;by_cases hb:b=D
  .subst hb;rw[AN]at e;cases e;show new
  .rw[AE hb]at e;let g:∀c v,H c\v->c≠X.env.locals:=λc v q z=>by subst z;rw[I.free]at q;cases q
   show(I.hok b u e).stay (λc v i q=>k c v ?_ q) (λc q=>?_) λc xs q=>?_
   .let z||z:=i
    .rw[z];show g b u e
    .show g c _ z
   .rw[AE (Af q d)];show q
   .rw[AE (Af q d)];show q
def SB(f:'F' a\(seqObj "list" us.toArray n))(h2:us.length<2)(h:F (.done (.ret .none)) {s with heap:=sortedHeap s.heap a us us.toArray}):'C' (Builtin.«list.sort» {[.ref a],[]}) F E s:=by
 let i:=bN f;rw[list_sort_plain];show wB (listItems_at f rfl (wB (listUpdate_at f rfl ?_)));let d:=get?_update_seq f (λ_=>#[]);show wB (seqEpoch_at d rfl (wB (wpAny_newTuple (wB (wpAny_newList (bM ?_))))));let c:(((s.heap.update a (Obj.mapSeq λ_=>#[])).push (seqObj "tuple" us.toArray 0)).push (seqObj "list" #[] 0)).get? a=_:=(Heap.get?_push_ne _ a _ (by rw[size_push',Heap.size_update];show bX (Nat.lt_succ_of_lt i))).trans ((Heap.get?_push_ne _ a _ (by rw[Heap.size_update];show bX i)).trans d)
 let g:us.toArray.size<2:=by show h2
 dsimp only;rw[aC g,aC g];show wB (wP ?_);show wB (wP (wB (seqEpoch_at c rfl (wB (listUpdate_at c rfl ?_ (hsz2:=?_))))))
 .simp only[bne_self_eq_false,Bool.false_eq_true,if_false];let e:(arrOf (SortSt.mk' general' (us.toArray.zip us.toArray) #[] 7 none)).map (·.2)=us.toArray:=by apply Array.ext';simp[map_snd_zip]
  rw[<-e]at h;show wP h
 .rw[Array.size_map];rw[Array.size_zip,cU];lia
def Zy(d:s.heap.IsList l us.toArray)(h2:us.length<2)(q:Q (.ref ('H'+1)) {s with heap:=sortedAll s.heap us us.toArray}):'C' (call (.builtin "sorted") [.ref l]) Q E s:=by
 show Calls.call_function_entry kind_sorted plain_sorted entry_sorted (args_sorted1 _) ?_;show wB (wP (wB (collect_list d (wB (wpAny_newList ?_ (by rw[cU];lia))) (by rw[cU];lia))));let c:((s.heap.push (seqObj "list" #[] 0)).update 'H' (Obj.mapSeq (·++us.toArray))).objs.size='H'+1:=by simp
 let a:=bP ((s.heap.push (seqObj "list" #[] 0)).update 'H' (Obj.mapSeq (·++us.toArray))) (o:=seqObj "list" us.toArray 0) rfl;rw[c]at a;rw[c];show wB (bM (cQ slot_list_sort #[_,a,0] entry_list_sort (SB a h2 #[_,0,wP #[_,0,q]]) (args_list_sort _)))
noncomputable abbrev Dd(ps:List (Addr×By)):dH:=ps.map λq=>V.ref q.1
def CH(rs:List By):Prop:=(rs.Pairwise λa b=>HT.lexLt b a=false)
theorem SC:∀{ps}{us},AW (Dd ps) us->us=ps.map λq=>Value.ref q.1|[],_,.nil=>rfl|q::r,_,.cons e t=>by rw[SC t,e];rfl
theorem NU:∀(ps),AW (Dd ps) (ps.map λq=>Value.ref q.1)
 |[]=>.nil|q::r=>.cons rfl (NU r)
def Zz(M)(h)(i)(t):Looks M h (typeOf (.int i t)) (.type "int"):=λA Q E s _ q=>wP q
noncomputable def BB.there(x:BB P' w H h a o):∃u,h.get? a\u:=by cases o with
 |lst xs=>let[_,_,_,_,e]:=x;show#[_,e]|tup xs=>let[_,_,_,u,e,_]:=x;show#[u,e]|dK qH=>let[_,_,_,_,u,_,_,e,_]:=x;show#[u,e]|dT qH=>let[_,_,_,_,u,_,_,e,_]:=x;show#[u,e]|set S n=>let[u,_,_,_,e,_]:=x;show#[u,e]|ins C dx fs=>let[_,_,_,e,_]:=x;show#[_,e]|own y=>show x|xd fs=>let[_,[u,_,_,e,_],_]:=x;show#[u,e]|met f y=>show#[_,x]|rng lo hi=>let[_,_,_,e]:=x;show#[_,e]|frz u v=>show#[_,x.1]|tbl ps=>show#[_,x]|ext φ=>show x.2.1
theorem SD:∀{ps:List (Addr×By)},(∀q∈ps,∃us,IntsAre us q.2/\∃o n,h.get? q.1\o/\o.cls=.type "tuple"/\o.data=.seq us.toArray n)->(∀q∈ps,0<q.2.length)->∃fs,KatTups h (ps.map λq=>Value.ref q.1) fs/\fs.length=ps.length/\∀v∈fs,∃i t,v=Value.int i t
 |[],_,_=>{[],.nil,0,λv g=>nomatch g}|q::r,h1,h2=>by
  let[fs,a,b,c]:=SD (λq f=>h1 q (bT _ f)) λq f=>h2 q (bT _ f);let[us,d,o,n,p,m,e]:=h1 q cA;let l:=h2 q cA;generalize q.2=s at d l;let j:=d.length
  match us,d,e with
  |v::us,d,e=>
   obtain⟨i,t,ev⟩:∃i t,v=Value.int i t:=by cases d with|cons i t _=>show#[i,t,0]
   show{v::fs,.cons p m e '2' a,by simp[b],λx hx=>?_};let 0||hx:=aF.mp hx
   .show#[i,t,ev]
   .show c x hx|[],d,e=>simp at j;simp_all
end L2
namespace L2
set_option tactic.hygienic true
section
variable{κ κ':Type}[DecidableEq κ][DecidableEq κ']
noncomputable def CA:List κ->dI->κ->Option P|k0::ks,v::vs,k=>if k0=k then some v else CA ks vs k|_,_,_=>none
def Cm(ks:List κ)(k:κ):List κ:=(if k∈ks then ks else ks++[k])
def DM(ks:List κ)(vs:dI)(k:κ)(x:P):dI:=(if k∈ks then zipWith (λk0 v=>if k0=k then x else v) ks vs else vs++[x])
noncomputable def Gq{g:κ->κ'}(m:∀a c,g a=g c->a=c){ks}(r:AC b Z H xs vs)(f:ks.length=xs.length):(∀z,CA ks xs k\z->∃v,CQ ((ks.map g).zip vs) (g k)\v/\Rp b Z H z v)/\(CA ks xs k=none->CQ ((ks.map g).zip vs) (g k)=none):=by induction ks generalizing xs vs with
 |nil=>cases xs with|nil=>show{(λz h=>(nomatch h)),dF}|cons x xs=>cases f
 |cons k0 ks d=>cases xs with|nil=>cases f|cons x xs=>
   let[v,t,0,j,i]:=r;let d:=d i (Nat.succ.inj f);simp only[CA,map_cons,zip_cons_cons];by_cases e:k0=k
   .subst e;rw[aC rfl,Jd rfl];show{(λz h=>{v,0,by cases h;show j}),(λh=>(nomatch h))}
   .rw[aB e];let l:¬g k0=g k:=λz=>e (m _ _ z);let:CQ ((g k0,v)::(ks.map g).zip t) (g k)=CQ ((ks.map g).zip t) (g k):=by unfold CQ;simp[l]
    rw[this];show d
theorem SE{g:κ->κ'}(f:∀a c,g a=g c->a=c):∀(ks:List κ)(vs:dH),((ks.map g).zip vs).map (λd=>if d.1=g k then(d.1,v)else d)=(ks.map g).zip (zipWith (λk0 u=>if k0=k then v else u) ks vs)
 |[],_=>'2'|_::_,[]=>'2'|k0::ks,u::vs=>by
  simp only[map_cons,zip_cons_cons,zipWith_cons_cons,SE f ks vs];by_cases e:k0=k
  .simp_all
  .let h:¬g k0=g k:=λz=>e (f _ _ z);simp[e,h]
theorem NV{g:κ->κ'}(d:∀a c,g a=g c->a=c):∀{ks:List κ}{vs:dH},ks.length=vs.length->((((ks.map g).zip vs).any λe=>decide (e.1=g k))=true↔k∈ks)
 |[],_,_=>'2'|k0::ks,[],h=>by simp at h|k0::ks,u::vs,h=>by
  simp only[map_cons,zip_cons_cons,any_cons,Bool.or_eq_true,aW,NV d (by simpa using h),aF];constructor
  .rintro(z|z)
   .show .inl (d _ _ z).symm
   simp_all
  .rintro(z|z)
   .simp_all
   simp_all
def Z0{g:κ->κ'}(f:∀a c,g a=g c->a=c){ks}(e:ks.length=vs.length):BZ ((ks.map g).zip vs) (g k) v=((Cm ks k).map g).zip (if k∈ks then zipWith (λk0 u=>if k0=k then v else u) ks vs else vs++[v]):=by
 unfold BZ Cm;by_cases d:k∈ks
 .rw[aC ((NV f e).mpr d),aC d,aC d,SE f]
 .rw[aB (λz=>d ((NV f e).mp z)),aB d,aB d,cO,zip_append (~~~e)];rfl
noncomputable def Z1{x}(c:Rp b Z H x v){ks:List κ}(r:AC b Z H xs vs)(a:ks.length=xs.length):AC b Z H (zipWith (λk0 y=>if k0=k then x else y) ks xs) (zipWith (λk0 u=>if k0=k then v else u) ks vs):=by induction ks generalizing xs vs with
 |nil=>show rfl|cons k0 ks g=>cases xs with
  |nil=>cases a|cons y xs=>let[u,t,0,f,d]:=r;show{_,_,0,?_,g d (Nat.succ.inj a)};lia
def KM{g:κ->κ'}(f:∀a c,g a=g c->a=c){ks}{x}(r:AC b Z H xs vs)(e:ks.length=xs.length)(d:Rp b Z H x v):∃vs',BZ ((ks.map g).zip vs) (g k) v=((Cm ks k).map g).zip vs'/\AC b Z H (DM ks xs k x) vs':=by
 show{_,Z0 f (e.trans r.length),?_};unfold DM;split
 .show Z1 d r e
 .show r.snoc d
def NW{ks:List κ}{x}(a:ks.length=xs.length):(Cm ks k).length=(DM ks xs k x).length:=by
 unfold Cm DM;split
 .simp_all
 .simp[a]
end
def Gu(a c)(h:BD a=BD c):a=c:=by rw[<-Mz a,h,Mz]
def Gv(a c)(h:Aq a=Aq c):a=c:=Sum.inr.inj h
noncomputable def De:P->Option By
 |.tup xs=>xs.mapM λx=>match x with|.int i=>some i|_=>none
 |_=>none
@[simp]theorem DN(r):De (.tup (r.map P.int))\r:=by
 simp only[De]
 induction r with|nil=>rfl|cons x r a=>rw[map_cons,mapM_cons,a];rfl
noncomputable def SG{x}(h:De x\r):x=.tup (r.map P.int):=by cases x with
 |tup xs=>
  simp only[De]at h
  congr 1
  induction xs generalizing r with
  |nil=>cases h;rfl|cons y xs a=>rw[mapM_cons]at h;cases y with
   |int i=>cases e:(xs.mapM λx=>match x with|.int i=>some i|_=>none)with
    |none=>simp_all|some c=>rw[e]at h;cases h;rw[a e];rfl
   |_=>cases h
 |_=>cases h
noncomputable def SH(pd pk:pE):pE:=(λY K=>pd Y λx f=>pk Y λy _=>match x with
 |.dT ks vs=>∃r z,De y\r/\CA ks vs r\z/\K z f.el|.dK ks vs=>match y with|.str k=>∃z,CA ks vs k\z/\K z f.el|_=>False
 |.fT ks vs=>∃r z,De y\r/\CA ks vs r\z/\K z f.el|_=>False)
noncomputable def SI(pd pk px:pE):pE:=(λY K=>pd Y λx f=>(x.mut=true/\∀xs,x≠.lst xs)/\pk Y λy _=>px Y λz _=>match x with
 |.dT ks vs=>∃r,De y\r/\P.imms vs=true/\z.imm=true/\K ((CA ks vs r).getD z) .fr|.dK ks vs=>match y with|.str k=>P.imms vs=true/\z.imm=true/\K ((CA ks vs k).getD z) .fr|_=>False
 |_=>False)
section
variable{Hs:Hp}
noncomputable def Gx{ks}(ok:Ok W Y U H)(r:RF W Y U Hs f H (.dT ks xs) v):∃p vs,v=.ref p/\p≠W.b/\H p\(.dT ((ks.map BD).zip vs))/\ks.length=xs.length/\AC W.b (AJ W Y U f) H xs vs:=by cases f with
 |bo=>let[p,e,o,us,h1,h2,a]:=r;show{p,us,e,(ok.ow (.inr o)).2.2.1,h1,h2,a}|nw=>let[p,us,e,z,h1,h2,a]:=r.1;show{p,us,e,λq=>z (q▸AJ.b),h1,h2,a}|fr=>let[p,us,e,z,h1,h2,a]:=r;show{p,us,e,λq=>z (q▸AJ.b),h1,h2,a}|cl=>let[p,us,e,z,h1,h2,a]:=r;show{p,us,e,λq=>z (q▸AJ.b),h1,h2,a}|rf=>let[p,us,e,z,h1,h2,a]:=r;show{p,us,e,λq=>z (q▸AJ.b),h1,h2,a}|an=>assumption
noncomputable def NX(ok:Ok W Y U H)(r:RF W Y U Hs f H (.dK ks xs) v):∃p vs,v=.ref p/\p≠W.b/\H p\(.dK ((ks.map Aq).zip vs))/\ks.length=xs.length/\AC W.b (AJ W Y U f) H xs vs:=by cases f with
 |bo=>let[p,e,o,us,h1,h2,a]:=r;show{p,us,e,(ok.ow (.inr o)).2.2.1,h1,h2,a}|nw=>let[p,us,e,z,h1,h2,a]:=r.1;show{p,us,e,λq=>z (q▸AJ.b),h1,h2,a}|fr=>let[p,us,e,z,h1,h2,a]:=r;show{p,us,e,λq=>z (q▸AJ.b),h1,h2,a}|cl=>let[p,us,e,z,h1,h2,a]:=r;show{p,us,e,λq=>z (q▸AJ.b),h1,h2,a}|rf=>let[p,us,e,z,h1,h2,a]:=r;show{p,us,e,λq=>z (q▸AJ.b),h1,h2,a}|an=>assumption
noncomputable def SJ{ks}(ok:Ok W Y U H)(r:RF W Y U Hs f H (.fT ks xs) v):∃p vs,v=.ref p/\p≠W.b/\Fz H p ((ks.map BD).zip vs)/\ks.length=xs.length/\AC W.b (AJ W Y U f) H xs vs:=by cases f with
 |bo=>let[p,e,o,us,h1,h2,a]:=r;show{p,us,e,(ok.ow (.inr o)).2.2.1,h1,h2,a}|nw=>let[p,us,e,z,h1,h2,a]:=r.1;show{p,us,e,λq=>z (q▸AJ.b),h1,h2,a}|fr=>let[p,us,e,z,h1,h2,a]:=r;show{p,us,e,λq=>z (q▸AJ.b),h1,h2,a}|cl=>let[p,us,e,z,h1,h2,a]:=r;show{p,us,e,λq=>z (q▸AJ.b),h1,h2,a}|rf=>let[p,us,e,z,h1,h2,a]:=r;show{p,us,e,λq=>z (q▸AJ.b),h1,h2,a}|an=>assumption
def KN{x}(ok:Ok W Y U H)(g:De x\r)(a:RF W Y U Hs f H x v):∃q,v=.ref q/\H q\(.tup ((BD r).map kV)):=by rw[SG g]at a;let[q,us,e,c,d]:=Dr ok a;rw[AC.ints.mp d]at c;show{q,e,by rw[c];simp[BD,bZ,Function.comp_def,kV]}
end
section
variable{o i e c:Expr}{pd pk px:pE}
def KO(M:∀j,(Xs j).A.units+1<cLine)(O:QE Xs o pd)(hi:QE Xs i pk)(N:MY i):QE Xs (.Subscript o i pos) (SH pd pk):=by
 let[td,ρ,σ]:=O;let[tk,k1,k2]:=hi;show{_,λj=>X1 (M j) (ρ j) (k1 j) N,λW Y U H Q K ok T q=>σ W Y U H _ _ ok T λx f v H1 h1 C J=>k2 W Y U H1 _ _ (ok.step C) h1 λy g u H2 h2 I D=>?_};let c:=C.trans I;let a:=ok.step c;let d:=J.step (ok.step C) I;split at h2
 .let[r,z,E,h,e]:=h2;let[p,us,0,_,n,m,l]:=Gx a d;let[L,0,G]:=KN a E D;let[w,B,s]:=(Gq Gu l m).1 z h;show{p,w,0,by rw[<-B];show Cs.t n G,q z _ w H2 e c (RF.ofEl s)}
 .split at h2
  .let[z,h,e]:=h2;rename_i ks vs _ k;let[p,us,0,_,n,m,l]:=NX a d;cases EB a D;let[w,B,s]:=(Gq Gv l m).1 z h;show{p,w,0,by rw[<-B];show Cs.k (k:=Sum.inr k) n,q z _ w H2 e c (RF.ofEl s)}
  .show h2.elim
 .let[r,z,E,h,e]:=h2;let[p,us,0,_,[o,n],m,l]:=SJ a d;let[L,0,G]:=KN a E D;let[w,B,s]:=(Gq Gu l m).1 z h;show{p,w,0,by rw[<-B];show .inr {_,_,_,.inr #[o,n],0,G,0},q z _ w H2 e c (RF.ofEl s)}
 .show h2.elim
noncomputable def SK[DecidableEq κ][DecidableEq κ']{g:κ->κ'}(i:∀a c,g a=g c->a=c){ks}{u}(r:AC b Z H xs vs)(f:ks.length=xs.length)(hi:P.imms xs=true)(hz:z.imm=true)(j:Rp b Z H z u):Rp b Z H ((CA ks xs k).getD z) ((CQ ((ks.map g).zip vs) (g k)).getD u)/\((CA ks xs k).getD z).imm=true:=by cases e:CA ks xs k with
 |none=>rw[(Gq i r f).2 e];show#[j,hz]|some w=>
  let[v,n,m]:=(Gq i r f).1 w e;rw[n];show#[m,?_];let:∀{ks}{xs},P.imms xs=true->CA ks xs k\w->w.imm=true:=by
   intro ks
   induction ks with|nil=>intro xs _ h;cases h|cons k0 ks l=>intro xs d h;cases xs with
    |nil=>cases h|cons x xs=>rw[Mr,cB]at d;simp only[CA]at h;grind
  show this hi e
def Fq(hu:∀j,(Xs j).A.units+1<cLine)(ho:QE Xs o pd)(hi:QE Xs e pk)(hx:QE Xs c px)(m:∀j,M2 (Xs j) o "get" qK e c qJ:=by intro _;show#[0,0,0,0]):QE Xs (.Call (.Attribute o "get" qK) [e,c] [] qJ) (SI pd pk px):=by
 done<;>(let[td,d1,d2]:=ho;let[tk,k1,k2]:=hi;let[tx,x1,ρ]:=hx);show{_,λj=>X9 (hu j) (d1 j) (k1 j) (x1 j) (m j),λW Y U H Q K ok hk q=>d2 W Y U H _ _ ok hk λx f v H1 zz T G=>?_};let[[M,L],h1]:=zz;let a:=ok.step T;obtain⟨p,rfl,hd⟩:∃p,v=.ref p/\Ma H1 p:=by cases x with
  |dT ks xs=>let[p,us,e,_,h,_]:=Gx a G;show#[p,e,.inr {_,.of h}]|dK ks xs=>let[p,us,e,_,h,_]:=NX a G;show#[p,e,.inl {_,.of h}]|fT ks xs=>let[p,us,e,_,[o,h],_]:=SJ a G;show#[p,e,.inr #[_,.inr #[o,h]]]|lst xs=>show bS rfl (L xs)|_=>simp[P.mut]at M
 show{p,0,hd,k2 W Y U H1 _ _ a h1 λy g u H2 h2 E r2=>ρ W Y U H2 _ _ (a.step E) h2 λz gz uz s n I σ=>?_};let i:=(T.trans E).trans I;let d:=ok.step i;let B:=G.step a (E.trans I);let w:=r2.step (a.step E) I;split at n
 .done<;>(let[r,e1,D,C,N]:=n;let[p',us,e,_,h,O,l]:=Gx d B);cases e;let[q2,0,c4]:=KN d e1 w;let l:AC W.b (Zf W Y U) s _ us:=l.imm D;let J:Rp W.b (Zf W Y U) s z uz:=(σ.any d).imm C;show{_,Cs.t h c4,q _ _ _ s N i (SK Gu l O D C J).1}
 .split at n
  .let[D,C,N]:=n;rename_i ks vs _ k;let[p',us,e,_,h,O,l]:=NX d B;cases e;cases EB d w;let l:AC W.b (Zf W Y U) s _ us:=l.imm D;let J:Rp W.b (Zf W Y U) s z uz:=(σ.any d).imm C;show{_,Cs.k (k:=Sum.inr k) h,q _ _ _ s N i (SK Gv l O D C J).1}
  .show n.elim
 .show n.elim
def SL:pE:=(λ_ K=>K (.dT [] []) .nw)
def NY:QE Xs (.Dict [] [] pos) SL:=#[_,λ_=>X5,λW Y U H Q K ok c q=>λp a=>q _ _ _ _ c (Step.new ok.bag a) #[{p,[],0,λz=>ok.dom z a,AN,0,0},λ_=>#[p,0,a]]]
end
noncomputable def KP(k:Nat)(pk pe:pE):pS:=(λE Y=>match Y[k]? with
 |some (.own (.dT ks vs))=>pe Y λy f=>pk Y λz _=>∃r,De z\r/\BJ y f=.nw/\ks.length<16777216/\E.nx (Y.set k (.own (.dT (Cm ks r) (DM ks vs r y))))|some (.own (.dK ks vs))=>pe Y λy f=>pk Y λz _=>∃r,z=.str r/\BJ y f=.nw/\ks.length<16777216/\E.nx (Y.set k (.own (.dK (Cm ks r) (DM ks vs r y))))|_=>False)
section
variable{a b:Expr}{p1:Pos}{k:Nat}{t u:TE}
def Z2(h1:Bs t pa)(h2:Bs u pb):GW (Jg (tVar k) t u) (KP k pa pb):=λW Y U H D E ok x r=>by
 unfold KP at x;split at x
 .rename_i ks xs e;let[w,j,p,M,_,_,I,_,vs,O,A,N]:=ok.slot k _ e;subst M;let G:A8 Y U p:=#[k,_,e,j];show h2 W Y U H _ _ ok x λy f v H1 ky h C=>{.ref p,j,h1 W Y U H1 _ _ (ok.step h) ky λz T Q H2 zz n B=>?_};let[g,k0,k1,k2,k3]:=zz;let c:=h.trans n;let a:=ok.step c;let[q,0,σ]:=KN a k0 B;let m:=c.same p _ I O;let l:=N.step c ok.bag;let i:=NT a (C.step (ok.step h) n) k1;show{p,_,0,FD.t m σ (by rw[length_zip,aA];show Nat.lt_of_le_of_lt (Nat.min_le_left _ _) k2),r.nx _ _ _ k3 ?_};let[d,L,J]:=KM Gu l A i;rw[L];let s:=Fp (o:=HO.dT (((Cm ks g).map BD).zip d)) a G (.inr rfl);show a.mut e j '6' {d,AN,NW A,J.keep s.1 s.2}
 .rename_i ks xs e;let[w,j,p,M,_,_,I,_,vs,O,A,N]:=ok.slot k _ e;subst M;let G:A8 Y U p:=#[k,_,e,j];show h2 W Y U H _ _ ok x λy f v H1 ky h C=>{.ref p,j,h1 W Y U H1 _ _ (ok.step h) ky λz T Q H2 zz n B=>?_};let[g,k0,k1,k2,k3]:=zz;let c:=h.trans n;let a:=ok.step c;subst k0;cases EB a B;let m:=c.same p _ I O;let l:=N.step c ok.bag;let i:=NT a (C.step (ok.step h) n) k1;show{p,_,0,FD.k (k:=Sum.inr g) m (by rw[length_zip,aA];show Nat.lt_of_le_of_lt (Nat.min_le_left _ _) k2),r.nx _ _ _ k3 ?_};let[d,L,J]:=KM Gv l A i;rw[show(Sum.inr g)=Aq g from rfl,L];let s:=Fp (o:=HO.dK (((Cm ks g).map Aq).zip d)) a G (.inr rfl);show a.mut e j '6' {d,AN,NW A,J.keep s.1 s.2}
 .show x.elim
def KQ(e:∀i,(Xs i).A.units+1<cLine)(j:QE Xs a pa)(h:QE Xs b pb)(l:∀i,(Xs i).N[k]?\x:=by rfl)(d:∀i,Dj (Xs i).env.scope x:=by intro _;trivial)(g:No x:=by decide)(c:N_ x:=by decide)(f:∀i,swapsWith b (some (.Subscript (.Name x p1) a pos')) pos.line (Xs i).env=pure false:=by rfl):QS Xs (.Assign [.Subscript (.Name x p1) a pos'] b pos) (KP k pa pb):=by let[t,p,o]:=j;let[u,n,m]:=h;show{_,λi=>Jh (e i) (ER (l i) (d i) g c) (p i) (n i) (f i),Z2 o m}
end
open PySem.W
def B4(h:Heap)(d:Addr)(es:Array DictEntry)(ep:Nat):Prop:=(∃o,h.get? d\o/\o.ExactDict/\o.data=.dict es ep)
def B4.typeIs{es}(x:B4 s.heap d es ep):s.TypeIs (.ref d) "dict":=by let[o,e,c,_]:=x;show#[o,e,c.1]
def B4.keep{es}(x:B4 h d es ep)(k:∀o,h.get? d\o->h'.get? d\o):B4 h' d es ep:=by let[o,e,r]:=x;show{o,k o e,r}
def B4.lt{es}(x:B4 h d es ep):d<h.objs.size:=by let[_,e,_]:=x;show bN e
section
variable{es:Array DictEntry}
def Z3(f:(d==sysModules)=false)(c:B4 s.heap d es ep)(g:Q (.ref 'H') {s with heap:=s.heap.push {cls:=.type "dict_keyiterator",data:=.fields [.ref d,.int 0 0,.int es.size 0,.int ep 0].toArray}}):'C' (pyIter (.ref d)) Q E s:=by let[o,e,h,a]:=id c;show wpAny_pyIter_slot c.typeIs F.slot_dict_iter (cQ F.slot_dict_iter c.typeIs F.entry_dict_iter ?body (F.args_dict_iter_1 _));show wB (wB (wpAny_notOrdered_dict c.typeIs ?_));show wP ?_;change 'A' (Builtin.Dict.showsAll d>>=_) _ _ s;unfold Builtin.Dict.showsAll;rw[aB (by rw[f];simp)];show wB (wP (wB (wpAny_dictEntries e a (wB (wpAny_dictEpoch e a (wB (cG (wP {_,0,"dict_keyiterator",_,{_,bP _ rfl,0},F.slot_dict_keyiterator_next.lookup,?_}))))))));assumption
def Z4{Q:C2->Shared->Prop}(a:s.heap.IsKeyIter it d i es.size ep)(l:B4 s.heap d es ep)(hi)(p:∀h',h'.IsKeyIter it d (i+1) es.size ep->Heap.SameBut it s.heap h'->Q (some es[i].key) {s with heap:=h'}):'C' (pyNext (.ref it)) Q E s:=by
 let[o,j,n,h]:=id a;let[od,f,m,g]:=id l;let e:Builtin.Dict_items.ownsTuple "dict_keyiterator"=false:=by decide
 show wB (wpAny_attempt (wpAny_callSpecial?_slot a.typeIs F.slot_dict_keyiterator_next (cQ F.slot_dict_keyiterator_next a.typeIs F.entry_dict_keyiterator_next ?body (F.args_dict_keyiterator_next_1 _))));show wB (wP (wB (wB ?_)))
 first
  |show wB (wpAny_typeNameOfWhole_keyiter a.typeIs (wP (wB (wpAny_fieldsOf j h ?_))))|show wB _
 change 'A' _ _ _ s;show wB (wP (wB (wpAny_dictEntries f g ?_)));rw[aB '2'];show wB (wP (wB (wpAny_dictEpoch f g ?_)));rw[aB '2'];show wP ?_;simp only[show¬(i<0)by simp,if_false,Int.toNat_natCast,cL hi];show wB ?_
 first
  |show wB (wpAny_typeNameOfWhole_keyiter a.typeIs (wP (wB (wpAny_isOneOf_keyiter a.typeIs ?_))))|show wB _
 change 'A' (setField _ 1 (rawInt (i+1))>>=_) _ _ s;show wB (wpAny_setField j h '2' ?_);let c:(s.heap.update it (Obj.mapFields (·.setIfInBounds 1 (rawInt (i+1))))).IsKeyIter it d (i+1) es.size ep:={_,Heap.get?_update_self _ j (Obj.isFreed_of_fields (Obj.data_mapFields h _)),(Obj.cls_mapFields ..).trans n,by rw[Obj.data_mapFields h]<;>simp[rawInt]}
 show wB (bM (wB (wpAny_isOneOf_keyiter c.typeIs ?_)));show wP (wP {_,0,wP (p _ c (Heap.SameBut.update ..))})
def Z5{Q:C2->Shared->Prop}(l:A.handled=none)(c:s.heap.IsKeyIter it d es.size es.size ep)(j:B4 s.heap d es ep)(p:∀h',Heap.ExtBut it s.heap h'->Q none {s with heap:=h'}):'C' (pyNext (.ref it)) Q E s:=by
 let[o,h,v,i]:=id c;let[od,f,n,g]:=id j;let e:Builtin.Dict_items.ownsTuple "dict_keyiterator"=false:=by decide
 show wB (wpAny_attempt (wpAny_callSpecial?_slot c.typeIs F.slot_dict_keyiterator_next (cQ F.slot_dict_keyiterator_next c.typeIs F.entry_dict_keyiterator_next ?body (F.args_dict_keyiterator_next_1 _))));show wB (wP (wB (wB ?_)))
 first
  |show wB (wpAny_typeNameOfWhole_keyiter c.typeIs (wP (wB (wpAny_fieldsOf h i ?_))))|show wB _
 change 'A' _ _ _ s;show wB (wP (wB (wpAny_dictEntries f g ?_)));rw[aB '2'];show wB (wP (wB (wpAny_dictEpoch f g ?_)));rw[aB '2'];show wP ?_;simp only[show¬(es.size<0)by simp,if_false,Int.toNat_natCast,Array.getElem?_eq_none (aQ es.size)];show wB ?_
 first
  |show wB (wpAny_typeNameOfWhole_keyiter c.typeIs (wP ?_))|show wB _
 change 'A' (setField _ 0 .none>>=_) _ _ s;show wB (wpAny_setField h i '2' ?_);show wB ?_;show wB (cG ?uyy (by size_fits));show wB (wpAny_of_eq (by first|rfl|(rfl)) (cG ?ryy (by size_fits)));show wB (wpAny_handled ?_);rw[l];show wB (wP (wpAny_throw ?_));show wB (wpAny_isInstance {_,bP _ rfl,0} isSubtype_stop ?q);show wP (p _ (((Heap.SameBut.update ..).extBut.push _).push _))
theorem Z6(n:A.handled=none)(I d)(j:d≠I)(es)(ep):Walks prog w A I [I,d] [I] es.size (λi v=>∃h,v=es[i].key) (λi h=>h.IsKeyIter I d i es.size ep/\B4 h d es ep)where
 sub:=λb a=>by simp_all
 frame:=λ_ _ _ st m=>{st.1.at λo e=>m I '2' o e,st.2.keep λo e=>m d '2' o e}
 item:=λi s Q E hi st g=>Z4 st.1 st.2 hi λh' f c=>g _ h' s.toks #[hi,0] {f,st.2.keep λo e=>c.extBut d o j e} λb o a e=>c.extBut b o (λh=>a (by simp[h])) e
 done:=λs Q E st g=>Z5 n st.1 st.2 λh' l=>g h' s.toks λb o a e=>l b o (λh=>a (by simp[h])) e
 self:=λ_ _ _ _ st g=>wpAny_pyIter_keyiter st.1 g
theorem NZ(lo:(d==sysModules)=false):KdlSrc prog w "dict" d d es.size (λi v=>∃h,v=es[i].key) (λh=>B4 h d es ep)where
 type:=λ_ a=>a.typeIs
 there:=λ_ a=>#[a.lt,a.lt]
 keep:=λ_ _ a f=>a.keep λo e=>f d (.inl rfl) o e
 notList:=rfl
 notTuple:=rfl
 hint:=λ_ _ _ _ a c=>kdl_hint_dict a.typeIs c
 iter:=λ_ _ g a=>#[_,_,(λ_ _ c=>Z3 lo a c),Z6 g _ d (bX a.lt) es ep,#[{_,bP _ rfl,0,0},a.keep λo e=>aS _ e]]
end
noncomputable abbrev AZ(r:By):P:=.tup (r.map P.int)
def SM:dH->Hp->VK->Prop:=(λxs H Q=>∃(p:Addr)(qH:List (List AT×V)),xs=[.ref p]/\H p\(.dT qH)/\∀(l:Addr)(ps:List (Addr×List AT)),H l=none->ps.map (·.2)=qH.map (·.1)->(∀q∈ps,H q.1\(.tup (q.2.map kV)))->Q (.ref l) (AB H l (.lst (ps.map λq=>V.ref q.1))))
theorem Na:∀{qH}{xs},Paired (λ(p:List AT×V)(q:List AT×Addr×Value)=>p.1=q.1/\H q.2.1\(.tup (p.1.map kV))/\AR p.2 q.2.2) qH xs->(xs.map λx=>(x.2.1,x.1)).map (·.2)=qH.map (·.1)/\∀q∈(xs.map λx=>(x.2.1,x.1)),H q.1\(.tup (q.2.map kV))
 |_,_,.nil=>{0,λq hq=>nomatch hq}|_,_,.cons r t=>by
  let[a,b]:=Na t;show{by simp_all,λq hq=>?_};let 0||hq:=aF.mp hq
  .simp_all
  .show b q hq
def Nb(hok:A3 P' w H h)(e:H p\(.dT qH)):∃(es:Array DictEntry)(ep:Nat)(ps:List (Addr×List AT)),B4 h p es ep/\(p==sysModules)=false/\qH.length<=sizeLine/\ps.map (·.2)=qH.map (·.1)/\(∀q∈ps,H q.1\(.tup (q.2.map kV)))/\es.toList.map (·.key)=ps.map λq=>Value.ref q.1:=by done<;>let[z,a,xs,rel,o,es,ep,h1,h2,d,c,_]:=hok p _ e;show{es,ep,xs.map λx=>(x.2.1,x.1),#[o,h1,h2,d],a,z,(Na rel).1,(Na rel).2,by rw[c,bZ,bZ];rfl}
def SN{es:Array DictEntry}{a:Do}(h:ItemsOf (λi v=>∃h,v=es[i].key) a n)(c:n=es.size):a.toList=es.toList.map (·.key):=by
 apply ext_getElem?;intro i;let d:a.size=es.size:=by rw[<-c];show h.1
 by_cases hi:i<a.size
 .let[h',e]:=h.2 i a[i] (by simp[hi]);simp_all
 simp_all
noncomputable def Z7(ps:List (Addr×List AT)):AW (ps.map λq=>V.ref q.1) (ps.map λq=>Value.ref q.1):=by induction ps with
 |nil=>show .nil|cons q r a=>show .cons rfl a
def IM(n:X.calm=true):BQ X (.type "list") SM:=by
 rintro qA s U H xs us Q I r⟨p,qH,rfl,j,k⟩;let[u,0,g]:=r.one;cases g;done<;>let[es,ep,ps,i,m,z,f,x,e]:=Nb I.hok j;let b:=aT length f;simp at b;let A:es.size=qH.length:=by let a:=aT length e;simp at a;simp only[*]
 show kdl_call (NZ m) (I.ok.hd n) i (by simp_all) λh' tk d y l v c=>?_;let w:=SN c rfl;show{.ref 'H',_,I.laid (o:=.lst _) l (aQ _) #[?_,d.toList,y,?_,?_],0,k _ ps (I.hok.fresh (aQ _)) f x}
 .rw[aA];simp_all
 .rw[w,e];show Z7 ps
 .simpa using v
noncomputable def Nc:pC:=(p1 λx f K=>match x with
 |.dT ks vs=>K (.lst (ks.map AZ)) .nw|_=>False)
def Z8(ks:List By):P.imms (ks.map AZ)=true:=Fk (λr=>'2') ks
theorem KR:∀{ps:List (Addr×By)},(∀q∈ps,H q.1\(.tup (q.2.map V.int)))->AC b Z H (ps.map λq=>AZ q.2) (ps.map λq=>V.ref q.1)|[],_=>rfl|q::r,h=>{_,_,0,{q.1,_,0,h q cA,AC.ints.mpr rfl},KR λp a=>h p (bT _ a)}
def KS(r):(BD r).map kV=r.map V.int:=by simp[BD,bZ,Function.comp_def,kV]
noncomputable def SO{ps:List (Addr×List AT)}{ks}(h:ps.map (·.2)=ks.map BD):∃ps':List (Addr×By),ps'.map (·.1)=ps.map (·.1)/\ps'.map (·.2)=ks/\∀q'∈ps',(q'.1,BD q'.2)∈ps:=by induction ps generalizing ks with
 |nil=>simp_all|cons q r d=>cases ks with|nil=>simp at h|cons k ks=>
   simp only[map_cons,List.cons.injEq]at h;let[ps',a,b,c]:=d h.2;show{(q.1,k)::ps',by simp[a],by simp[b],λq' hq=>?_};let 0||hq:=aF.mp hq
   .simp[<-h.1]
   .show bT _ (c q' hq)
def IN:Cu SM Nc:=λW Y U Hs H Q K xs vs ok st r d q=>by
 unfold Nc p1 at d;split at d
 .let[v,0,rv]:=r.one;split at d
  .rename_i ks g;let[p,us,0,_,u,s,o]:=Gx ok rv;show{p,_,0,u,λl ps e f n=>q _ _ _ _ d (Step.new ok.bag e) ?_};rw[map_fst_zip (by rw[aA,s,o.length];show aQ _)]at f;let[ps',a,b,c]:=SO f;let h:AC W.b (AJ W Y U .nw) H (ks.map AZ) (ps.map λq=>V.ref q.1):=by
    let:=KR (b:=W.b) (Z:=AJ W Y U .nw) λq' i=>by let:=n _ (c q' i);rw[KS]at this;show this
    let m:(ps'.map λq=>V.ref q.1)=ps.map λq=>V.ref q.1:=by let:=aT (map V.ref) a;simpa[Function.comp_def]using this
    let j:(ps'.map λq=>AZ q.2)=ks.map AZ:=by rw[<-b,bZ];rfl
    rw[m,j]at this;show this
   show IA ok st '2' '2' h e
  .show d.elim
 .show d.elim
theorem Nd:∀{rs}{vs},AC b Z H (rs.map AZ) vs->∃ps,vs=Dd ps/\ps.map (·.2)=rs/\∀q∈ps,H q.1\(.tup (q.2.map V.int))
 |[],vs,h=>{[],h,0,λ_ h=>nomatch h}|r::rs,vs,h=>by
  let[v,t,0,[p,us,0,e,d],h2]:=h;let[ps,a,b,c]:=Nd h2;rw[AC.ints.mp d]at e;show{(p,r)::ps,by rw[a];rfl,by simp_all,λq hq=>?_};let 0||hq:=aF.mp hq
  .show e
  .show c q hq
end L2
namespace HT
section
open PySem.SeqAt
open PySem.AutoSeq1(wpAny_loadPart')
open PySem.MeetsSeq PySem.MeetsSeq2 PySem.MeetsSeq3
end
end HT
namespace L2
def IP(K:Fg)(l1 l2:Addr):It:=({λi H=>∃xs ys,BA K H l1 xs/\BA K H l2 ys/\i<xs.length/\i<ys.length,λi H v H'=>∃T x y,H T=none/\v=.ref T/\H'=AB H T (.tup [x,y])/\∀xs ys,BA K H l1 xs->BA K H l2 ys->xs[i]?=some x/\ys[i]?=some y,λi H=>∃xs ys,BA K H l1 xs/\BA K H l2 ys/\(xs.length<=i\/ys.length<=i)})
theorem Z9{P}{K}{z TI TO n m}(D:ZipApart z TI TO n m l1 l2):Turn P w K (.Tuple elts x1 pos) (IP K l1 l2) [z,TI,TO,n,m] z (λi h=>IsZip h z TI TO .none/\IsPair h TI (.ref n) (.ref m)/\(∃a b,IsPair h TO a b)/\h.IsListIter n l1 i/\h.IsListIter m l2 i)where
 mem:='2'
 obj:=λi h st b d=>by
  let[r,j,[a,c,l],[N,G,_,d1],[M,C,_,d2]]:=st;simp only[aF,bB,or_false]at d;rcases d with rfl|rfl|rfl|rfl|rfl
  .show{_,r,λv q=>nomatch q}
  .show{_,j,λv q=>nomatch q}
  .show{_,l,λv q=>nomatch q}
  .show{_,G,λv q=>by rw[d1]at q;cases q}
  .show{_,C,λv q=>by rw[d2]at q;cases q}
 keep:=λi h h' st k=>by done<;>let[r,j,[a,c,l],[N,G,r1],[M,C,r2]]:=st;show#[k z '2' _ r,k TI '2' _ j,{a,c,k TO '2' _ l},{N,k n '2' _ G,r1},{M,k m '2' _ C,r2}]
 item:=by
  intro X hP hw hK hc i qA s U H E I hf st hg;subst hP hw hK;done<;>(let[r,j,[a,c,l],h1,h2]:=st;let[xs,ys,q1,q2,g1,g2]:=hg;let[qG,rv,pq,a7]:=I.list q1;let p:=pq.isList;let[O,A,B,Q]:=I.list q2);let p2:=B.isList;let hx:xs[i]?\xs[i]:=by simp[g1]
  let hy:ys[i]?\ys[i]:=by simp[g2]
  done<;>(let[u,hu,ru]:=rv.get hx;let[L,a8,a0]:=A.get hy);show wpAny_pyNext_zip_item D r j l h1 h2 p p2 (~~~hu) (~~~a8) λh' a1 a2 a3 a4 a5 a6 hk=>{_,0,wpAny_letOwnedTupleGo_zip a1 λρ T f=>?_};let a9:=I.fresh;let J:Inv X qA U (AB H 'H' (.tup [xs[i],ys[i]])) {s with heap:=s.heap.push {cls:=.type "tuple",data:=.seq [u,L].toArray}}:=I.laid (λb o q=>aS _ q) (aQ _) {by change 2<=sizeLine;decide,[u,L],.cons ru (.cons a0 .nil),DT.new _ _}
  let σ:∀b∈[z,TI,TO,n,m],b≠'H':=λb d e=>by
   let o:∃o,'F' b\o:=by
    simp only[aF,bB,or_false]at d;let[N,G,_]:=h1;let[M,C,_]:=h2;rcases d with rfl|rfl|rfl|rfl|rfl
    .show#[_,r]
    .show#[_,j]
    .show#[_,l]
    .show#[_,G]
    .show#[_,C]
   let[o,q]:=o;show bS (bN q) (by rw[e];show aX _)
  let hn:∀b∈[z,TI,TO,n,m],AB H 'H' (.tup [xs[i],ys[i]]) b=none:=λb d=>by rw[AE (σ b d)];show(hf b d).1
  let nz:=(σ z '2').symm;let J2:Inv X qA U (AB H 'H' (.tup [xs[i],ys[i]])) {s with heap:=ρ}:=by
   show Inv.turnedL (s:={s with heap:=s.heap.push {cls:=.type "tuple",data:=.seq [u,L].toArray}}) (ch:=[z,TO,n,m]) J (λb o d q=>?_) (λb d=>{hn b ?_,(hf b ?_).2})
   .simp only[aF,bB,or_false,not_or]at d;by_cases e:b='H'
    .subst e;let q':=q;rw[bP _ rfl]at q';cases q';show f.extBut _ _ nz a5
    .let q0:'F' b\o:=by rw[<-Heap.get?_push_ne _ _ _ e];show q
     show f.extBut _ _ d.1 (hk b o d.1 d.2.1 d.2.2.1 d.2.2.2 q0)
   .simp only[aF,bB,or_false]at d⊢;rcases d with h|h|h|h<;>simp[h]
   .simp only[aF,bB,or_false]at d⊢;rcases d with h|h|h|h<;>simp[h]
  show{.ref 'H',_,J2,0,{_,_,_,a9,0,0,λab aa z1 z2=>?_},?_,hn}
  .rw[I.list_inj z1 q1,I.list_inj z2 q2];show#[hx,hy]
  .done<;>(let[N,G,r1]:=a3;let[M,C,r2]:=a4);show#[T,f.extBut _ _ D.TIz (hk _ _ D.TIz D.TITO D.TIi1 D.TIi2 j),{_,_,f.extBut _ _ D.TOz a2},{N,f.extBut _ _ D.i1z G,r1},{M,f.extBut _ _ D.i2z C,r2}]
 done:=by
  intro X hP hw hK hc i qA s U H E I hf st hg;subst hP hw hK;done<;>(let[r,j,[a,c,l],h1,h2]:=st;let[xs,ys,q1,q2,g]:=hg;let[qG,rv,pq,a7]:=I.list q1;let p:=pq.isList;let[O,A,B,Q]:=I.list q2);let p2:=B.isList;let l1:=rv.length;let l2:=A.length;show wpAny_pyNext_zip_end (I.ok.hd hc) D r j l h1 h2 p p2 '4' λh' hk=>{0,I.turnedL (ch:=[z,TO,n,m]) (λb o d q=>?_) λb d=>hf b ?_}
  .simp only[aF,bB,or_false,not_or]at d;show hk b o d.1 d.2.1 d.2.2.1 d.2.2.2 q
  .simp only[aF,bB,or_false]at d⊢;rcases d with h|h|h|h<;>simp[h]
 self:=λ_ _ _ _ _ st h=>wpAny_pyIter_zip st.1 h
def SQ(K:Fg)(ta:TA):TI:=(λU H R=>ta U H λvs H1=>∃l1 l2 xs ys,vs=[.ref l1,.ref l2]/\BA K H1 l1 xs/\BA K H1 l2 ys/\R (IP K l1 l2) H1)
def dW{a b}{ta}{p}{x1}{tp}(M:Gl X "zip")(J:X.mg "zip"=none)(N:PA X [a,b] ta)(G:starEach [a,b] X.env=[(false,eval a X.env),(false,eval b X.env)]:=by rfl)(d:starEach [b] X.env=[(false,eval b X.env)]:=by rfl):PI X (.Tuple elts x1 tp) (.Call (.Name "zip" p) [a,b] [] pos) (SQ X.K ta):=by
 intro qA s U H R I h;show Call_ (E3 I M J Qx (PyProof.Rows.callWith_type1 (AQ (N pos qA s U H _ I h) λus c zz=>?_) (by rw[G,d]) (by rw[d];rfl)));done<;>(let[vs,H1,g,r,C]:=zz;let[l1,l2,xs,ys,0,B,A,q]:=C;let[u,v,0,z,rv]:=r.two);cases(z);cases(rv);done<;>(let[qG,r,j,_]:=g.list B;let p1:=j.isList;let[w,Q,i,_]:=g.list A);let p2:=i.isList;show call_zip_2 p1 p2 λh' x o n E D _ L=>?_;let O:Inv X qA U H1 {c with heap:=h'}:=g.kept L;let m:l1<c.heap.objs.size:=by let[_,e,_]:=p1;show bN e
 let l:l2<c.heap.objs.size:=by let[_,e,_]:=p2;show bN e
 show wpAny_pyIter_zip x {_,[c.heap.objs.size+4,c.heap.objs.size+2,c.heap.objs.size+3,c.heap.objs.size,c.heap.objs.size+1],_,_,H1,0,O,Z9 (zipApart_new m l),{x,o,#[_,_,n],E,D},λb y=>?_,q};let f:c.heap.objs.size<=b:=by simp only[aF,bB,or_false]at y;rcases y with h|h|h|h|h<;>rw[h]<;>first|show Nat.le_add_right _ _|show aQ _
 show g.fpOk f (g.hok.fresh f)
def SR:R2:=(λx y H Q=>∃a b ns ms,x=.ref a/\y=.ref b/\H a\(.tup (ns.map V.int))/\H b\(.tup (ms.map V.int))/\Q (.bl (HT.lexLt ns ms)) H)
def dX(f:Room k X.A):Az X (compareOp .Lt) SR:=by rintro qA s U H x y v u Q I d c⟨a,b,ns,e,i,g,h1,h2,q⟩;show XY f.units0 qA s U H x y v u Q I d c {a,b,ns,e,i,g,.of h1,.of h2,q}
def SS(g:By->By->Bool):p2:=(λx _ y _ K=>∃ns ms,De x\ns/\De y\ms/\K (.bl (g ns ms)) .fr)
noncomputable abbrev dY:p2:=SS HT.lexLt
def SU{x}{ns}(ok:Ok W Y U H)(g:De x\ns)(r:RF W Y U Hs f H x v):∃a,v=.ref a/\H a\(.tup (ns.map V.int)):=by rw[SG g]at r;let[p,us,e,c,d]:=Dr ok r;rw[AC.ints.mp d]at c;show#[p,e,c]
def dZ:BE SR dY:=λW Y U Hs H Q K x y f h v u ok st d c g q=>by let[ns,e,l,j,i]:=g;let[a,0,n]:=SU ok l d;let[b,0,m]:=SU ok j c;show{a,b,ns,e,0,0,n,m,q _ _ _ H i (Step.refl ok.bag) Dn}
def Cy(x y:P):P:=(.tup [x,y])
def SV(pa pb:pE):pI:=(λY K=>pa Y λx f=>pb Y λy g=>∃xs ys,x=.lst xs/\y=.lst ys/\(P.imms xs=true/\P.imms ys=true)/\K (zipWith Cy xs ys) .fr (Dc f&&Dc g))
section
variable{a b:Expr}{p1 tp:Pos}{x1:Nat}
def db(hK:∀i,(Xs i).K=Kf)(hm:∀i,(Xs i).mg "zip"=none)(ha:QE Xs a pa)(hb:QE Xs b pb)(hg:∀i,Gl (Xs i) "zip":=by rfl)(hs:∀i,starEach [a,b] (Xs i).env=[(false,eval a (Xs i).env),(false,eval b (Xs i).env)]:=by rfl)(w:∀i,starEach [b] (Xs i).env=[(false,eval b (Xs i).env)]:=by rfl):QI Xs (.Tuple elts x1 tp) (.Call (.Name "zip" p1) [a,b] [] pos) (SV pa pb):=by
 let[ta,L,a2]:=ha;let[tb,J,b2]:=hb;show{SQ Kf (A6 ta (A6 tb BU)),λi=>?_,λW Y U H R K ok hk q=>a2 W Y U H _ _ ok hk λx f v H1 h1 M r1=>b2 W Y U H1 _ _ (ok.step M) h1 λy g u H2⟨xs,ys,j,h,⟨i1,i2⟩,a0⟩s2 N=>?_}
 .let:=dW (elts:=elts) (x1:=x1) (tp:=tp) (p:=p1) (pos:=pos) (hg i) (hm i) (AK (L i) (AK (J i) Ab (by rw[w i];rfl)) (by rw[hs i,w i])) (hs i) (w i);rw[hK i]at this;show this
 .subst j;subst h;let C:=M.trans s2;let c:=ok.step C;let s:=r1.step (ok.step M) s2;let[l1,vs,0,c1,E]:=DB c s;let[l2,us,0,c2,D]:=DB c N;let nb:∀{f}{xs}{l}{Hs},RF W Y U Hs f H2 (.lst xs) (.ref l)->l≠W.b:=λr=>by let[p',a5,j,h,_]:=r.any c;cases j;show h
  let σ:=nb s;let Q:=nb N;let a4:=E.length;let a3:=D.length;let core:∀A ρ' σ' H',H' l1\(.lst vs)->H' l2\(.lst us)->(∀p vs,H2 p\(.tup vs)->H' p\(.tup vs))->Bag H' W.b W.a->∀i,(i<(zipWith Cy xs ys).length->(IP Kf l1 l2).go i H')/\((zipWith Cy xs ys).length<=i->(IP Kf l1 l2).stop i H')/\∀v n,(IP Kf l1 l2).yld i H' v n->∀x,(zipWith Cy xs ys)[i]?\x->Step W.b W.a H' n/\RF {W with O:=A} ρ' σ' H' .fr n x v:=λA ρ' σ' H' g1 g2 gt hb i=>by
   show{λhi=>?_,λhi=>?_,λv n yl x m=>?_}
   .rw[length_zipWith]at hi;show{vs,us,.of g1,.of g2,⋯,⋯}
   .rw[length_zipWith]at hi;show{vs,us,.of g1,.of g2,⋯}
   .let[T,x',y',hT,0,0,e]:=yl;let[j,h]:=e vs us (.of g1) (.of g2);rw[getElem?_zipWith]at m;cases ex:xs[i]? with|none=>rw[ex]at m;simp at m|some px=>cases I:ys[i]? with|none=>rw[ex,I]at m;simp at m|some G=>
      rw[ex,I]at m;let m:Cy px G=x:=by simpa using m
      subst m;let[v1,L,a2]:=E.get ex;let[v2,J,b2]:=D.get I;rw[j]at L;cases L;rw[h]at J;cases J;let m1:=GQ.mp i1 px (aM ex);let m2:=GQ.mp i2 G (aM I);show{Step.new hb hT,?_};let k1:Rp W.b (AJ {W with O:=A} ρ' σ' .fr) (AB H' T (.tup [x',y'])) px x':=(((a2.imm m1).keep (Z':=λ_=>True) (λp o ρ=>bS trivial ρ) (λp B e=>by rw[AE (Af (gt p B e) hT)];show gt p B e)).imm m1);let k2:Rp W.b (AJ {W with O:=A} ρ' σ' .fr) (AB H' T (.tup [x',y'])) G y':=(((b2.imm m2).keep (Z':=λ_=>True) (λp o ρ=>bS trivial ρ) (λp B e=>by rw[AE (Af (gt p B e) hT)];show gt p B e)).imm m2);show{T,[x',y'],0,AN,x',[y'],0,k1,y',[],0,k2,0}
  show{l1,l2,vs,us,0,.of c1,.of c2,q _ _ _ _ H2 a0 C (λA ρ' σ' H' z i=>?_) (λd A ρ' σ' H' z i=>?_)}
  .let[_,0,0,a6,st]:=z;show core A _ _ H' (st.same l1 _ σ c1) (st.same l2 _ Q c2) (λp B e=>st.same p _ (c.bag.neT e).1 e) st.bag i
  .let[0,z]:=z;rw[cB]at d;let k1:=Hv c z (J6 d.1);let k2:=Hv c z (J6 d.2);let nz:∀{f}{xs}{l:Addr}{Hs:Hp},Dc f=true->RF W Y U Hs f H2 (.lst xs) (.ref l)->¬AJ W Y U f l:=λ{f xs l Hs}hf r=>by cases f with|nw=>let[q,us,j,h,_]:=r.1;cases j;show h|fr=>let[q,us,j,h,_]:=r;cases j;show h|cl=>let[q,us,j,h,_]:=r;cases j;show h|_=>simp[Dc]at hf
   show core _ _ _ H' (k1.1 l1 _ (nz d.1 s) c1).2 (k2.1 l2 _ (nz d.2 N) c2).2 k1.2 z.bag i
end
noncomputable abbrev AH(ns:At):P:=.tup (ns.map P.str)
noncomputable abbrev CB(q:By×Int):P:=.tup [AZ q.1,.int q.2]
noncomputable abbrev Ac(t:List (By×Int)):P:=.lst (t.map CB)
noncomputable abbrev B5(t:List (By×Int)):P:=.dT (t.map (·.1)) (t.map λq=>.int q.2)
@[simp]theorem CI(r):(AZ r).imm=true:='2'
@[simp]theorem KU(q):(CB q).imm=true:='2'
@[simp]theorem SW(t:List (By×Int)):P.imms (t.map CB)=true:=Fk KU t
@[simp]theorem SX(t:List By):P.imms (t.map AZ)=true:=Fk CI t
@[simp]theorem SY(n)(r):(AZ r).pl (n+1)=true:='2'
@[simp]theorem SZ(n)(q):(CB q).pl (n+2)=true:='2'
@[simp]theorem AAF(n)(t:List (By×Int)):(t.map CB).all (P.pl (n+2))=true:=IF (SZ n) t
def Gy(a b):AU (.int a) (.int b)=decide (a=b):=rfl
def KW(a b):AU (.str a) (.str b)=decide (a=b):=rfl
def de(a b):AU (.bl a) (.bl b)=decide (a=b):=rfl
def KY(r):(AZ r).nb=true:=by show IH dF r
def df(q):(CB q).nb=true:=by rw[P.nb,P.nbs,KY];rfl
def Sa(t):(Ac t).nb=true:=by show IH df t
def Sb(r):(AH r).nb=true:=by show IH dF r
def Sc{a b:By}(h:a.map P.int=b.map P.int):a=b:=by let:=aT (map λp=>match p with|P.int i=>i|_=>0) h;simpa[Function.comp_def]using this
def Sd{a b:At}(h:a.map P.str=b.map P.str):a=b:=by let:=aT (map λp=>match p with|P.str i=>i|_=>{#[]}) h;simpa[Function.comp_def]using this
def Nf{a b}(h:AZ a=AZ b):a=b:=Sc (P.tup.inj h)
def Se{a b}(h:CB a=CB b):a=b:=by let h:=P.tup.inj h;simp only[List.cons.injEq]at h;show Prod.ext (Nf h.1) (P.int.inj h.2.1)
theorem KZ{α:Type}{f:α->P}(c:∀a b,f a=f b->a=b):∀{a b:List α},a.map f=b.map f->a=b|[],[],_=>rfl|[],_::_,h=>by simp at h|_::_,[],h=>by simp at h|x::a,y::b,h=>by simp only[map_cons,List.cons.injEq]at h;rw[c x y h.1,KZ c h.2]
def dg{a b}(h:Ac a=Ac b):a=b:=KZ (λ_ _=>Se) (P.lst.inj h)
def dh(a b):AU (AZ a) (AZ b)=decide (a=b):=by rw[Bool.eq_iff_iff,IG (KY a) (KY b),aW];show{Nf,λh=>by rw[h]}
def di(a b):AU (Ac a) (Ac b)=decide (a=b):=by rw[Bool.eq_iff_iff,IG (Sa a) (Sa b),aW];show{dg,λh=>by rw[h]}
def Ng(a b):AU (AH a) (AH b)=decide (a=b):=by rw[Bool.eq_iff_iff,IG (Sb a) (Sb b),aW];show{λh=>Sd (P.tup.inj h),λh=>by rw[h]}
def BW(t:List (By×Int))(r:By)(c:Int):List (By×Int):=(if r∈t.map (·.1)then t.map (λq=>if q.1=r then(q.1,c)else q)else t++[(r,c)])
def AY(t:List (By×Int))(r:By):Option Int:=((t.find? λq=>decide (q.1=r)).map (·.2))
theorem Ka(r):∀t,CA (t.map (·.1)) (t.map λq=>P.int q.2) r=(AY t r).map P.int
 |[]=>rfl|q::t=>by
  simp only[map_cons,CA];unfold AY;by_cases e:q.1=r
  .simp[e]
  .rw[Ka r t];simp[e,AY]
theorem Sf(r)(c):∀t:List (By×Int),zipWith (λk0 v=>if k0=r then P.int c else v) (t.map (·.1)) (t.map λq=>P.int q.2)=(t.map (λq=>if q.1=r then(q.1,c)else q)).map λq=>P.int q.2|[]=>rfl|q::t=>by simp only[map_cons,zipWith_cons_cons,Sf r c t];by_cases e:q.1=r<;>simp[e]
def Kb(t)(r)(c):P.dT (Cm (t.map (·.1)) r) (DM (t.map (·.1)) (t.map λq=>P.int q.2) r (.int c))=B5 (BW t r c):=by
 unfold Cm DM BW B5;by_cases h:r∈t.map (·.1)
 .rw[aC h,aC h,aC h,Sf]
  congr 1
  rw[bZ];show cF λq _=>?_;by_cases e:q.1=r<;>simp[e]
 .rw[aB h,aB h,aB h];simp
def Kc(t)(r)(c):(BW t r c).length<=t.length+1:=by unfold BW;split<;>simp
def Nh(h:∀q∈t,q.1.length=n)(e:r.length=n):∀q∈BW t r c,q.1.length=n:=by
 unfold BW;split
 .intro q a;let[p,d,0]:=bU.mp a;split
  .show h p d
  .show h p d
 .intro q a;let z||z:=bA.mp a
  .show h q z
  .rw[bI.mp z];show e
def Sg(t)(r)(c):(BW t r c).map (·.1)=if r∈t.map (·.1)then t.map (·.1)else t.map (·.1)++[r]:=by
 unfold BW;split
 .rw[bZ];show cF λq _=>?_;by_cases e:q.1=r<;>simp[e]
 .simp
set_option tactic.hygienic true in
def Si(h:(t.map (·.1)).Nodup):((BW t r c).map (·.1)).Nodup:=by
 rw[Sg];split
 .show h
 .rename_i d;rw[nodup_append];show{h,'2',λa g b f=>by rw[bI.mp f];showλe=>d (e▸g)}
theorem Ni:∀{a b},a.Perm b->CH a->CH b->a=b
 |[],b,h,_,_=>(nil_perm.mp h).symm|x::xs,[],h,_,_=>bS h.length_eq '2'|x::xs,y::ys,h,h1,h2=>by
  let e:x=y:=by
   let hx:=h.mem_iff.mp cA;let hy:=h.mem_iff.mpr cA;let e||hx:=aF.mp hx
   .show e
   .let e||hy:=aF.mp hy
    .simp_all
    .show Fi x y ((cT.mp h2).1 x hx) ((cT.mp h1).1 y hy)
  subst e;rw[Ni ((perm_cons x).mp h) (cT.mp h1).2 (cT.mp h2).2]
noncomputable def Gz(x:By):List By->List By|[]=>[x]|y::r=>if HT.lexLt y x=true then y::Gz x r else x::y::r
noncomputable def DD:List By->List By
 |[]=>[]|x::r=>Gz x (DD r)
theorem Nj(x):∀r,(Gz x r).Perm (x::r)
 |[]=>List.Perm.refl _|y::r=>by
  unfold Gz;split
  .show((Nj x r).cons y).trans (List.Perm.swap x y r)
  rfl
theorem DE:∀r,(DD r).Perm r
 |[]=>List.Perm.refl _|x::r=>(Nj x _).trans ((DE r).cons x)
set_option tactic.hygienic true in
theorem Sj(x):∀{r},CH r->CH (Gz x r)
 |[],_=>pairwise_singleton _ _|y::r,h=>by
  unfold Gz;let h1:=cT.mp h;split
  .rename_i a;show cT.mpr {λz hz=>?_,Sj x h1.2};let e||hz:=aF.mp ((Nj x r).mem_iff.mp hz)
   .rw[e];cases c:HT.lexLt x y
    .rfl
    .let:=Hi _ _ _ a c;rw[Hh]at this;cases this
   .show h1.1 z hz
  .rename_i a;let a:HT.lexLt y x=false:=by simpa using a
   show cT.mpr {λz hz=>?_,h};let e||hz:=aF.mp hz
   .rw[e];show a
   .cases c:HT.lexLt z x
    .rfl
    .let q||q:=Mq z y x c
     .rw[h1.1 z hz]at q;cases q
     .rw[a]at q;cases q
theorem Ek:∀r,CH (DD r)
 |[]=>List.Pairwise.nil|x::r=>Sj x (Ek r)
def Nk{rs a}(h:a.Perm rs)(c:CH a):a=DD rs:=Ni (h.trans (DE rs).symm) c (Ek rs)
def Ar(t:List (By×Int)):List (By×Int):=(((DD (t.map (·.1))).filter λr=>decide ((AY t r).getD 0≠0)).map λr=>(r,(AY t r).getD 0))
def Sk(h:r∈t.map (·.1)):∃c,AY t r\c:=by let[q,a,e]:=bU.mp h;unfold AY;cases d:t.find? λq=>decide (q.1=r)with|some p=>simp|none=>show bS (aK e) (~~~(find?_eq_none.mp d q a))
def Nl:pF:=(λxs K=>∃n b:Int,xs=[.bag,.int n,.int b]/\0<=n/\n<=100/\0<b/\b<2^64/\∀r:By,(r.length:Int)=n->(∀x∈r,0<=x/\x<b)->K (AZ r))
def Nm:pF:=(λxs K=>xs=[.bag]/\∀c:Int,1<=c->c<=1000000000000->K (.int c))
def Rows(t:List (By×Int)):Prop:=(t.length<2\/∃n,0<n/\∀q∈t,q.1.length=n)
def QS.weak{st}{p m}(h:QS Xs st p)(hw:∀E Y,m E Y->p E Y):QS Xs st m:=by let[t,h1,h2]:=h;show{t,h1,λW Y U H D E ok h r=>h2 W Y U H D E ok (hw E Y h) r}
structure Drawn(n:Nat)(t:List (By×Int)):Prop where
 len:t.length<=40
 rows:∀q∈t,q.1.length=n
 nd:(t.map (·.1)).Nodup
 row:∀q∈t,∀x∈q.1,0<=x/\x<=9
 cnt:∀q∈t,1<=q.2/\q.2<=1000000000000
def Sm{q}(h:q∈BW t r c):q∈t\/q=(r,c):=by
 unfold BW at h;split at h
 .let[p,a,e]:=bU.mp h;by_cases z:p.1=r
  .simp_all
  simp_all
 simp_all
structure DrawnI(n i:Nat)(t:List (By×Int)):Prop where
 len:t.length<=i
 rows:∀q∈t,q.1.length=n
 nd:(t.map (·.1)).Nodup
 row:∀q∈t,∀x∈q.1,0<=x/\x<=9
 cnt:∀q∈t,1<=q.2/\q.2<=1000000000000
def DrawnI.nil:DrawnI n 0 []:=#['2','2','2','2','2']
theorem DrawnI.put(h:DrawnI n i t)(f:r.length=n)(d:∀x∈r,0<=x/\x<=9)(h1:1<=c)(h2:c<=1000000000000):DrawnI n (i+1) (BW t r c)where
 len:=aR (Kc t r c) (Nat.add_le_add_right h.len 1)
 rows:=Nh h.rows f
 nd:=Si h.nd
 row:=λq a=>(Sm a).elim (h.row q) λe=>by rw[e];show d
 cnt:=λq a=>(Sm a).elim (h.cnt q) λe=>by rw[e];show#[h1,h2]
def DrawnI.out(h:DrawnI n i t)(hi:i<=40):Drawn n t:={aR h.len hi,h.rows,h.nd,h.row,h.cnt}
def Sn:pF:=(λxs K=>∃qI,xs=[.bag,AH qI]/\qI.length<=9/\∀t,Drawn qI.length t->K (Ac (Ar t)))
def CM(n:Nat)(r:By):Bool:=(decide (r.length=n)&&r.all λx=>decide (0<=x/\x<=9))
noncomputable def EK:List By->Bool
 |a::b::r=>HT.lexLt a b&&EK (b::r)|_=>true
def G0(n:Nat)(t:List (By×Int)):Bool:=((t.all λq=>CM n q.1&&decide (1<=q.2))&&EK (t.map (·.1)))
def Ke:pF:=(λxs K=>∃qI r,xs=[AH qI,AZ r]/\r.length<=1000/\K (.bl (CM qI.length r)))
def dj{a b:At}:(a.map P.str=b.map P.str)=(a=b):=propext {Sd,λh=>by rw[h]}
def dk{a b:By}:(a.map P.int=b.map P.int)=(a=b):=propext {Sc,λh=>by rw[h]}
def dm{a b:List (By×Int)}:(a.map CB=b.map CB)=(a=b):=propext {λh=>KZ (λ_ _=>Se) h,λh=>by rw[h]}
def dn{a b:List By}:(a.map AZ=b.map AZ)=(a=b):=propext {λh=>KZ (λ_ _=>Nf) h,λh=>by rw[h]}
def Nn(t):(Ar t).length<=t.length:=by unfold Ar;rw[aA];show aR (length_filter_le _ _) ?_;rw[(DE _).length_eq,aA];show aQ _
def Sq{q}(h:q∈Ar t):q.1∈t.map (·.1):=by let[r,a,0]:=bU.mp h;show(DE _).mem_iff.mp (cX.mp a).1
theorem Sr:∀(t),EK t=true↔∀k a b,t[k]?\a->t[k+1]?\b->HT.lexLt a b=true
 |[]=>by simp[EK]|[x]=>by simp[EK]|x::y::r=>by
  let e:=Sr (y::r);unfold EK;rw[cB,e];constructor
  .rintro⟨h1,h2⟩k a b d c;cases k with
   |zero=>simp_all|succ k=>show h2 k a b (~~~d) (~~~c)
  .intro h;show{h 0 x y rfl rfl,λk a b d c=>h (k+1) a b (~~~d) (~~~c)}
open PySem.W PySem.SeqAt
def dq{a}(f)(I:Ex->a->Shared->Prop)(Q)(turn:∀y l c u,I (y::l) c u->wpAny M A (f y c) (λz u'=>match z with|.yield d=>I l d u'|.done d=>Q d u') E u)(fin:∀b s,I [] b s->Q b s)(m)(b)(h:I (range' 0 m) b s):wpAny M A (forIn [0:m] b f) Q E s:=by rw[Std.Legacy.Range.forIn_eq_forIn_range'];simp only[Std.Legacy.Range.size,Nat.sub_zero,Nat.add_sub_cancel,Nat.div_one];show wpAny_forIn_list f I Q turn fin _ b h
noncomputable def du(l)(items:Do)(n)(dd:FG)(r:Array C2)(x)(e:Value->Bool)(j)(E)(q:e items[j]=true)(p:∀m(D:m<items.size),m<j->e items[m]=false):Meets (Builtin.«tuple.index» {[.ref l,x],[]})
   (λA R s=>'F' l\{cls:=.type "tuple",dict:=dd,data:=.seq items n,slots:=r}/\(∀y,y∈items->EqAt A.in1 s y x (e y))/\R (.ok (.ret (.int j s.toks))) {s with toks:=s.toks+1}):=.of_wp λprog w A R s h=>by
  let[u,g,d,tk,os]:=s;let[v,B,h]:=h
  wp_walk using wpAny_loadPart' v,dq _ (λqE b s'=>b.1=none/\s'=#[u,g,d,tk,os]/\∃i,i<=j/\qE=range' i (items.size-i)) _
  case turn=>
   rintro i qE b s'⟨C,rfl,f,hi,o⟩;obtain⟨rfl,a⟩:i=f/\qE=range' _ _:=by
    let e:items.size-f=(items.size-(f+1))+1:=⋯;rw[e,range'_succ]at o;injection o with h1 h2
    show#[h1,h2]
   let c:i<items.size:=⋯;rw[cL c];show wB (B _ (Array.getElem_mem c) prog w _ _ ?_);by_cases z:i=j
   .subst z;wp_walk
    show#[_,0,h]
   .rw[p i c ⋯]
    wp_walk
    show{0,0,i+1,⋯,a}
  case fin=>rintro⟨H,G⟩s'⟨C,rfl,i,hi,o⟩;let:=aT length o;simp at this;lia
  case h=>show{0,0,(0),cD _,'2'}
def Ss:V->dH->Hp->VK->Prop:=(λx vs H Q=>∃(p:Addr)(ss:At)(z:Str)(j:Nat),x=.ref p/\vs=[.str z]/\H p\(.tup (ss.map V.str))/\ss[j]?\z/\(∀m,m<j->ss[m]?≠some z)/\Q (.int j) H)
def Su(r:V->dH->Hp->VK->Prop)(to:TE)(t:TA):TE:=(λU H Q=>to U H λx H1=>(∃p vs,x=.ref p/\H1 p\(.tup vs))/\t U H1 λxs H2=>r x xs H2 Q)
section
variable{o e:Expr}{to:TE}{t:TA}{name:Str}{id:String}{r:V->dH->Hp->VK->Prop}
def dw(slot:Slot "tuple" name id)(j:typeOf (.builtin id)=pure (.type "method_descriptor"))(J:GK X id r)(G:PE X o to)(L:PA X (e::es) t)(f:attributeBase o name X.env (eval o X.env)=eval o X.env:=by rfl)(g:((backTo qJ (starEach (e::es) X.env)).all (λx=>!x.1)&&(backToKw qJ (keywordEach [] X.env)).all (λx=>x.1.isSome)&&decide ((e::es).length+([]:List Keyword).length+(if([]:List Keyword).isEmpty then 0 else 1)<30))=true:=by rfl)(d:(qK.endLine==qJ.line)=true:=by rfl)(D:starEach (e::es) X.env=(false,eval e X.env)::starEach es X.env:=by rfl)(c:(backTo qJ (starEach es X.env)).any (·.1)=false:=by rfl):PE X (.Call (.Attribute o name qK) (e::es) [] qJ) (Su r to t):=by
 intro qA s U H Q I h;show wpAny_Call_method_late f g d rfl (AQ (G qA s U H _ I h) λv i zz=>?_);done<;>let[x,H1,u,z,[p,T,ex,E],B]:=zz;subst ex;cases z;let[_,qG,_,C]:=u.hok p _ E;let l:i.TypeIs (.ref p) "tuple"/\∀a,Value.ref p=.ref a->∃m,i.heap.get? a\m/\m.dict=none:=by let[o',q,N,_,M]:=C;show#[#[_,q,N],λa e=>by cases e;show#[_,q,M]]
 let[h1,h2]:=l;show{"tuple",id,PySem.F.plainAttrs_tuple,slot,j,h1,h2,?_};let n:=L qJ qA i U H1 _ u B;rw[D]at n⊢;show Calls.callWith_builtin (by change(false||(backTo qJ _).any _)=false;rw[c]<;>rfl) (Calls.evalArgs_plain ?_);show AQ n λus w zz=>(by let[vs,H2,O,y,A]:=zz;show J qA w U H2 (.ref p) vs _ us Q O rfl y A)
def dy:GK X "tuple.index" Ss:=by
 rintro qA s U H x vs v us Q I O rv⟨p,o,z,j,rfl,rfl,hp,L,D,q⟩;cases O;let[u,0,T]:=rv.one;let[t,0]:=T;let[_,qG,w,ρ]:=I.hok p _ hp;let G:=w.length;rw[aA]at G;let l:∀(m)(g:m<qG.toArray.size),∃x t',o[m]?\x/\qG.toArray[m]=.str x t':=λm g=>by
  let r:m<o.length:=by simpa[G]using g
  let[y,f,t',d]:=w.get (i:=m) (x:=V.str o[m]) (by simp[r]);show{o[m],t',by simp[r],?_};let B:qG[m]?\(qG.toArray[m]):=by simp[by simpa using g]
  rw[f]at B;show(oI B).symm.trans d
 let J:=(aI.mp L).1;let A:j<qG.toArray.size:=by simpa[<-G]using J
 obtain⟨n,C,N⟩:∃(n:Nat)(C:Array C2),'F' p\{cls:=.type "tuple",dict:=none,data:=.seq qG.toArray n,slots:=C}:=by let[[c,dd,da,C],f,d,[n,B],M]:=ρ;simp only at d B M;subst d B M;show#[n,C,f]
 show call_meets PySem.F.slot_tuple_index #[_,N,0] PySem.F.entry_tuple_index (PySem.F.args_tuple_index_2 _ _)
  (du p qG.toArray _ none _ (.str z t) (λy=>match y with|.str a _=>a==z|_=>false) j A ?_ ?_) #[N,λy σ=>?_,{.int j,H,I.tok _,#[_,0],q}]
 .let[x,t',f,d]:=l j A;rw[L]at f;cases f;rw[d];simp
 .intro m g E;let[x,t',f,d]:=l m g;rw[d];let:x≠z:=λe=>D m E (by rw[f,e]);simp[this]
 .let[m,g,0]:=Array.getElem_of_mem σ;let[x,t',f,d]:=l m g;rw[d];show EqAt.str_str x t' z t
end
end L2
namespace L2
open PySem.W
def Sv(po pe:pE):pE:=(λY K=>po Y λx _=>(∃xs,x=.tup xs)/\pe Y λy _=>∃(ss:At)(z:Str)(j:Nat),x=AH ss/\y=.str z/\ss[j]?\z/\(∀m,m<j->ss[m]?≠some z)/\K (.int j) .fr)
section
variable{o e:Expr}{po:pE}
def Sw(E:QE Xs o po)(J:QE Xs e pe)(L:∀i,attributeBase o "index" (Xs i).env (eval o (Xs i).env)=eval o (Xs i).env:=by rfl)(G:(qK.endLine==qJ.line)=true:=by rfl)(d:∀i,starEach [e] (Xs i).env=[(false,eval e (Xs i).env)]:=by rfl):QE Xs (.Call (.Attribute o "index" qK) [e] [] qJ) (Sv po pe):=by let[to,D,C]:=E;let[te,e1,ρ]:=J;show{Su Ss to _,λi=>dw PySem.F.slot_tuple_index PySem.F.type_tuple_index dy (D i) (AK (e1 i) Ab (d i)) (L i) (by rw[d i];rfl) G (d i) rfl,λW Y U H Q K ok I q=>C W Y U H _ _ ok I λx f v H1 zz n r=>?_};let[[xs,ex],h1]:=zz;let a:=ok.step n;subst ex;let[p,us,0,c,rv]:=Dr a r;show#[#[p,us,0,c],ρ W Y U H1 _ _ a h1 λy g u H2 zz l B=>?_];done<;>(let[A,z,j,σ,T,O,N,k2]:=zz;let h:=a.step l;let[p',w,M,s,m]:=Dr h (r.step a l));cases M;cases σ;subst T;cases EB h B;rw[AC.strs.mp m]at s;show{p,A,z,j,0,0,s,O,N,q _ _ _ _ k2 (n.trans l) GV}
end
noncomputable def Np:pC:=(λxs K=>match xs with
 |[(.int i,_),(.int j,_)]=>K (.int (if j<i then j else i)) .fr|_=>False)
noncomputable def Nq:pC:=(λxs K=>match xs with
 |[(.int i,_),(.int j,_)]=>K (.int (if j>i then j else i)) .fr|_=>False)
def dz:Cu (λxs H Q=>∃i j,xs=[.int i,.int j]/\Q (.int (if j<i then j else i)) H) Np:=λW Y U Hs H Q K xs vs ok st r a q=>by
 unfold Np at a;split at a
 .let[v,u,0,d,c]:=r.two;cases Ck ok d;cases Ck ok c;show{_,_,0,q _ _ _ H a (Step.refl ok.bag) GV}
 simp_all
def d0:Cu (λxs H Q=>∃i j,xs=[.int i,.int j]/\Q (.int (if j>i then j else i)) H) Nq:=λW Y U Hs H Q K xs vs ok st r a q=>by
 unfold Nq at a;split at a
 .let[v,u,0,d,c]:=r.two;cases Ck ok d;cases Ck ok c;show{_,_,0,q _ _ _ H a (Step.refl ok.bag) GV}
 simp_all
end L2
namespace PySem
open PySem.Sem(wp)
def d5:typeLookup (.type "list") (Str.ofString "keys")=pure none:=am_miss_of_fast nofun
def d6{o}{xs:Do}{Q:C2->Shared->Prop}(m:'F' a\o)(p:o.cls=.type "list")(f:o.data=.seq xs k)(n:o.dict=none)(hA:A.handled=none)(h:∀h' tk e,Heap.NewExcOf s.heap h' e "AttributeError"->Q none {s with heap:=h',toks:=tk}):'C' (getAttr? (.ref a) (Str.ofString "keys")) Q E s:=by
 let[c,v,x,r]:=o;subst p f n;let[u,g,d,tk,os]:=s;let q:∀j,(#[u,g,d,j,os]:Shared).TypeIs (.ref a) "list":=λ_=>#[_,m,0];let D:=sub_AttributeError;let C:=F.slot_list_getattribute.lookup;let B:=F.slot_list_getattribute.bind (.ref a);let z:=am_list_getattr_none;let i:=d5;repeat(any_goals(first|assumption|show q _|((with_reducible change 'A' (call (Value.builtin "list.__getattribute__") _ _) _ _ _);show call_meets F.slot_list_getattribute (q _) am_entry_list_getattribute (F.args_list_getattribute_2 _ _) (meets_getattribute_miss_list a xs k r (Str.ofString "keys") _ i nofun) {m,by assumption,λh' j e l=>?_})|wp_step))
 let[t',u',y]:=l.there;change 'A' (getattributeRaised _ _ _ _ _ _ _) _ _ _;unfold getattributeRaised
 repeat(any_goals(first|assumption|wp_step))
 all_goals first|show h _ _ _ l.of|trace_state
end PySem
namespace L2
open PySem.W
def Kg:plainId "dict.update.loop"=true:=by decide+kernel
def Sx:entryFor table "dict.update.loop"\Builtin.«dict.update.loop»:=entryFor_of_fast (by kernel_rfl)
def d7(e:H a\o):AB H a o=H:=by
 funext b
 by_cases c:b=a
 .subst c;rw[AN,e]
 .rw[AE c]
def d8{r}{Q}(m:(tupleKind (Bp X.prog X.w)).room B)(I:'D')(e:H a\(.dT qH))(i:H b\(.tup (k.map kV)))(l:qH.length<sizeLine)(rv:AR v r)(h:∀s',Inv X qA U (AB H a (.dT (BZ qH k v))) s'->Heap.SameBut a s.heap s'.heap->Q () s'):wpAny (model X.prog X.w) B (dictSet a (.ref b) r) Q E s:=by
 let[z,o,xs,rel,dd]:=QZ I.hok e;let j:xs.length<=sizeLine:=by rw[<-Paired.length rel];show z
 let n:(BZ qH k v).length<=sizeLine:=by let:=Je qH k v;lia
 show wpAny_dictSet_heap m (GL I.hok i) dd λh' dd' d=>h _ ?_ d;done<;>let[q,es,ep,f,h2,x,u,_,p]:=dd';show Jf I (by rw[e];show True.intro) d #[q,f] {n,o,_,(rel.put k i rv).keeps λc ys g=>?_,q,es,ep,f,h2,x,u,p};rw[AE (CC g e '5')];show g
noncomputable def G4(qH:List (List AT×V)):List (Addr×List AT×Addr×V)->List (List AT×V)|[]=>qH|p::r=>G4 (BZ qH p.2.1 p.2.2.2) r
def d9(hh:A.handled=none)(hr:(tupleKind (Bp X.prog X.w)).room A.in1){ps:List (Addr×List AT×Addr×V)}:∀(n i)(s)(H)(qH),ps.length-i=n->i<=ps.length->'D'->H d\(.dT qH)->H l\(.lst (ps.map λp=>V.ref p.1))->(∀p∈ps,H p.1\(.tup [.ref p.2.2.1,p.2.2.2])/\H p.2.2.1\(.tup (p.2.1.map kV)))->s.heap.IsListIter it l i->Ce X qA H it->qH.length+n<sizeLine->(∀s',Inv X qA U (AB H d (.dT (G4 qH (ps.drop i)))) s'->R (.ok (.ret .none)) s')->wpAny (model X.prog X.w) A.in1 (Builtin.«dict.update.loop» {[.ref d,.ref it,rawInt i,.none],[]}) (λfin s'=>match fin with|.done f=>R (.ok f) s'|.again Q=>Q.quiet=true/\codeAny (model X.prog X.w) A Q R s') (λe s'=>R (.error e) s') s:=by
 intro n
 induction n with
 |zero=>intro i s H qH hn hi I h el c st J E k;let G:i=ps.length:=⋯;let[qG,rv,pl,hz]:=I.list (.of el);let hl:=rv.length;rw[aA]at hl;done<;>let[g,y,O,v,q,m]:=J;show wB (wpAny_pyNext_list_end hh st pl.isList '4' λh' eb=>?_);let B:Inv X qA U H {s with heap:=h'}:=I.turned (λb o L e=>eb b o L e) g y v q m;let:=k _ (by rw[G,drop_length];unfold G4;rw[d7 h];show B);show wB (wP (wP this))|succ n ih=>
  intro i s H qH hn hi I h el c st J E k;let a:i<ps.length:=⋯;done<;>(let[qG,rv,pl,hz]:=I.list (.of el);let[h1,h2]:=c ps[i] (getElem_mem a);let[u,hu,ru]:=rv.get (i:=i) (x:=V.ref ps[i].1) (by simp[a]));cases ru;done<;>let[g,y,O,v,q,m]:=id J;unfold Builtin.«dict.update.loop»;show wB (wpAny_pyNext_list_item st pl.isList (~~~hu) λh' C sb=>?_);let B:Inv X qA U H {s with heap:=h'}:=I.turned (λb o L e=>(sb.2 b L).trans e) g y v q m;done<;>(let[_,ts,w1,o1,N,g2,[n1,g3],_]:=B.hok _ _ h1;let[u1,M,0,r1,r2]:=MJ w1);cases r1;let hT:(#[h',s.gens,s.drawn,s.toks,s.os]:Shared).TypeIs (.ref ps[i].1) "tuple":=#[o1,N,g2];let j:it≠d:=λz=>by rw[z,h]at g;cases g
  dsimp only;show wB (bM ?_);show wB (wpAny_tryCatch ?_);unfold Builtin.Dict.pairItems;show wB (wpAny_typeOf hT ?_);rw[aC '3'];show wB (wpAny_seqItems N g3 ?_);show wP ?_;change 'A' (holding [Value.ref ps[i].2.2.1,M] (dictSet d (.ref ps[i].2.2.1) M)) _ _ _;show bM (d8 hr B h h2 ⋯ r2 λs2 I2 D=>?_);show wP {plainId_quiet Kg _,codeAny_builtin Sx ?_};rw[Around.under_plainId Kg _];let hc:(i+1)=((i+1):Int):=by push_cast;rfl
  rw[hc];let nt:∀b ys,H b\(HO.tup ys)->b≠d:=λb ys e=>CC e h '5';let a0:=Je qH ps[i].2.1 ps[i].2.2.2;show ih (i+1) s2 _ _ ⋯ a I2 AN (by rw[AE (CC el h '5')];show el) (λp hp=>?_) ?_ {by rw[AE j];show g,y,O,v,q,m} ⋯ λs' ρ=>k s' ?_
  .let[σ,T]:=c p hp;show{by rw[AE (nt _ _ σ)];show σ,by rw[AE (nt _ _ T)];show T}
  .let[o,e,r]:=C;show{o,(D.2 it j).trans e,r}
  .rw[HM]at ρ;rw[drop_eq_getElem_cons a];show ρ
def Sy:dH->Hp->VK->Prop:=(λxs H Q=>∃(l:Addr)(ps:List (Addr×List AT×Addr×V)),xs=[.ref l]/\H l\(.lst (ps.map λp=>V.ref p.1))/\(∀p∈ps,H p.1\(.tup [.ref p.2.2.1,p.2.2.2])/\H p.2.2.1\(.tup (p.2.1.map kV)))/\ps.length<16777216/\∀d,H d=none->Q (.ref d) (AB H d (.dT (G4 [] ps))))
def IQ(n:X.calm=true)(G:Room k X.A):BQ X (.type "dict") Sy:=by
 rintro qA s U H xs us Q I r⟨l,ps,rfl,m,i,hz,q⟩;let[u,0,C]:=r.one;cases C;let a:=I.hok.fresh (aQ _);let y:Inv X qA U (AB H 'H' (.dT [])) {s with heap:=s.heap.push {cls:=.type "dict",data:=.dict #[]}}:=I.laid (λb o e=>aS _ e) (aQ _) (Qb s.heap (modules_low I.nolimit))
 show callType_codes (Q₁:=λd c=>d=.ref 'H'/\c={s with heap:=s.heap.push {cls:=.type "dict",data:=.dict #[]}}) F.kt_called_dict (F.kt_typeCall_dict_1 _) F.entry_dict_init (kt_code_dict_new _ #[0,0]) ?_;rintro d c⟨rfl,rfl⟩;let v:({s.heap.push {cls:=.type "dict",data:=.dict #[]},s.gens,s.drawn,s.toks,s.os}:Shared).TypeIs (.ref 'H') "dict":={_,bP _ rfl,0};let el:(AB H 'H' (.dT [])) l\(.lst (ps.map λp=>V.ref p.1)):=by rw[AE (Af m a)];show m
 show{v,F.args_dict_init_2 _ _,?_};show wB ?_;show wB (wpAny_notOrdered_dict v ?_);show wP ?_;change 'A' (Builtin.Dict.updateFrom "dict.__init__" 'H' (.ref l) [] .none) _ _ _;done<;>(let[qG,rv,pl,D]:=y.list (.of el);let[σ,ρ,O,N,M,L]:=id pl);show wB (wpAny_typeOf pl.isList.typeIs ?_);show wB (d6 O N L M (I.ok.hd n) λh' tk e E=>?_);let f:=y.kept (t':=tk) E.keeps;show wB (wpAny_rule ?_);let[j,B,g,_]:=f.list (.of el);show wB (wpAny_pyIter_list g.isList ?_);let T:=f.kept (t':=tk) (h':=h'.push {cls:=.type "list_iterator",data:=.fields [.ref l,.int 0 0].toArray}) λb o e=>aS _ e;show wP {plainId_quiet Kg _,codeAny_builtin Sx ?_};show d9 (A:=X.A.in1) (I.ok.hd n) (tupleKind_room_in1 (by let:=G.un;lia)) _ 0 _ _ [] rfl (cD _) T AN el (λp J=>?_) {_,bP _ rfl,0,0} (f.fpOk (aQ _) (f.hok.fresh (aQ _))) ?_ λs' z=>{0,.ref 'H',_,?_,0,q _ a}
 .let[x,w]:=i p J;show{by rw[AE (Af x a)];show x,by rw[AE (Af w a)];show w}
 .change 0+(ps.length-0)<16777216;simp_all
 .rw[HM,drop_zero]at z;show z
def Kh(t:List (By×Int)):List (By×Int):=(t.foldl (λa q=>BW a q.1 q.2) [])
def Nr:pC:=(p1 λx _ K=>∃t,x=Ac t/\t.length<16777216/\K (B5 (Kh t)) .nw)
theorem Sz:∀{t:List (By×Int)}{us},AC b Z H (t.map CB) us->∃ps:List (Addr×List AT×Addr×V),us=(ps.map λp=>V.ref p.1)/\ps.map (λp=>(p.2.1,p.2.2.2))=t.map (λq=>(BD q.1,V.int q.2))/\∀p∈ps,H p.1\(.tup [.ref p.2.2.1,p.2.2.2])/\H p.2.2.1\(.tup (p.2.1.map kV))
 |[],us,h=>{[],h,0,λ_ h=>nomatch h}|q::t,us,h=>by
  let[v,r,0,[a,o,0,c,s,u,0,[g,ks,0,d,k2],e,f,0,n,m],h2]:=h;let[ps,l,j,i]:=Sz h2;cases(n);cases(m);rw[AC.ints.mp k2]at d;show{(a,BD q.1,g,.int q.2)::ps,by rw[l];rfl,by rw[map_cons,map_cons,j],λp hp=>?_};let 0||hp:=aF.mp hp
  .show{c,by rw[KS];show d}
  .show i p hp
def cW(a)(r)(c):BZ (a.map λq=>(BD q.1,V.int q.2)) (BD r) (.int c)=(BW a r c).map λq=>(BD q.1,V.int q.2):=by
 unfold BZ BW;let e:(a.map λq=>(BD q.1,V.int q.2)).any (λg=>decide (g.1=BD r))=decide (r∈a.map (·.1)):=by
  rw[Bool.eq_iff_iff,any_eq_true,aW];constructor
  .rintro⟨x,i,j⟩;let[q,d,0]:=bU.mp i;let:=Gu _ _ (aL j);show bU.mpr #[q,d,this]
  .intro h;let[q,d,0]:=bU.mp h;show{_,aP d,aK rfl}
 rw[e];by_cases h:r∈a.map (·.1)
 .rw[aC (aK h),aC h,bZ,bZ];show cF λq _=>?_;by_cases z:q.1=r
  .simp[z]
  .let f:¬BD q.1=BD r:=λh=>z (Gu _ _ h);simp[z,f]
 .rw[aB (~~~h),aB h];simp
theorem S0:∀(ps)(t a:List (By×Int)),ps.map (λp=>(p.2.1,p.2.2.2))=t.map (λq=>(BD q.1,V.int q.2))->G4 (a.map λq=>(BD q.1,V.int q.2)) ps=(t.foldl (λa q=>BW a q.1 q.2) a).map λq=>(BD q.1,V.int q.2)
 |[],[],a,_=>rfl|[],_::_,_,h=>by simp at h|_::_,[],_,h=>by simp at h|p::ps,q::t,a,h=>by simp only[map_cons,List.cons.injEq,Prod.mk.injEq]at h;unfold G4;rw[h.1.1,h.1.2,cW];show S0 ps t _ h.2
def S1(t:List (By×Int)):((t.map (·.1)).map BD).zip (t.map λq=>V.int q.2)=t.map λq=>(BD q.1,V.int q.2):=by grind
def cY(t:List (By×Int)):AC b Z H (t.map λq=>P.int q.2) (t.map λq=>V.int q.2):=by let:=(AC.ints (b:=b) (Z:=Z) (H:=H) (vs:=(t.map (·.2)).map V.int)).mpr rfl;simpa[Function.comp_def]using this
def IR:Cu Sy Nr:=λW Y U Hs H Q K xs vs ok st r g q=>by
 unfold Nr p1 at g;split at g
 .let[v,0,rv]:=r.one;let[t,0,s,m]:=g;let[p,us,0,c,l]:=DB ok rv;let[ps,o,j,n]:=Sz l;let i:ps.length=t.length:=by let:=aT length j;simpa using this
  show{p,ps,0,by rw[c,o],n,(by simp_all),λd h=>q _ _ _ _ m (Step.new ok.bag h) ?_};let e:=S0 ps t [] j;rw[map_nil]at e;rw[e,show t.foldl _ []=Kh t from rfl,<-S1];show#[{d,_,0,λz=>ok.dom z h,AN,'2',cY _},λ_=>{d,0,st.free h}]
 .show g.elim
noncomputable def DF(b:Addr×By):List (Addr×By)->Addr×By|[]=>b|p::r=>if HT.lexLt p.2 b.2=true then DF p r else DF b r
def Inv.off{S}(I:'D')(hf:Ce X qA H S)(k:∀b o,b≠S->'F' b\o->h'.get? b\o):Inv X qA U H {s with heap:=h'}:=by let[f0,e,f,d,c,a]:=hf;show I.turned k f0 e d c a
def cZ(hh:A.handled=none)(hu:A.in1.units<cLine){l S}{ps}(m:S≠it):∀(n i)(s)(H)(a)(c),ps.length-i=n->i<=ps.length->'D'->H l\(.lst (Dd ps))->(∀p∈ps,H p.1\(.tup (p.2.map V.int)))->H a.1\(.tup (a.2.map V.int))->s.heap.IsListIter it l i->'F' S\{cls:=.type "list",dict:=none,data:=.seq [.ref a.1,.ref a.1].toArray c,slots:=#[]}->Ce X qA H it->Ce X qA H S->(∀s',Inv X qA U H s'->R (.ok (.ret (.ref (DF a (ps.drop i)).1))) s')->codeAny (model X.prog X.w) A (.builtin "min.loop" {[.ref it,.none,.ref S],[(Str.ofString "default",dv)]}) R s:=by
 let d:(toString "min"++toString ".loop")="min.loop":=by decide
 intro n
 induction n with
 |zero=>intro i s H a c hn hi I el C h st y z B k;let E:i=ps.length:=⋯;let[qG,rv,pl,hz]:=I.list (.of el);let hl:=rv.length;rw[aA]at hl;show codeAny_builtin F.entry_min_loop ?_;rw[Around.under_plainId F.plain_min_loop _];change wpAny _ A.in1 (seqItems? (.ref S)>>=_) _ _ s;show wB (wpAny_seqItems y rfl ?_);change wpAny _ A.in1 (tryCatch (pyNext (.ref it)) _>>=_) _ _ s;show wB (wpAny_tryCatch (wpAny_pyNext_list_end hh st pl.isList '4' λh' M=>?_));let q:=I.off z (λb o h e=>M b o h e);let j:=M S _ m y;change wpAny _ A.in1 (updateSeq S (λ_=>#[])>>=_) _ _ _;show wB ?_;show wpAny_updateSeq j rfl (wB (wpAny_letGo (wP ?_)));rw[E,drop_length]at k;show k _ (q.off B (λb o h e=>(cM _ _ (Ne.symm h)).trans e))|succ n J=>intro i s H a c hn hi I el C h st y z B k;let g:i<ps.length:=⋯;let[qG,rv,pl,hz]:=I.list (.of el);let h1:=C ps[i] (getElem_mem g);let[u,D,σ]:=rv.get (i:=i) (x:=V.ref ps[i].1) (by simp[g]);cases σ;show codeAny_builtin F.entry_min_loop ?_;rw[Around.under_plainId F.plain_min_loop _];change wpAny _ A.in1 (seqItems? (.ref S)>>=_) _ _ s;show wB (wpAny_seqItems y rfl ?_);change wpAny _ A.in1 (tryCatch (pyNext (.ref it)) _>>=_) _ _ s;show wB (wpAny_tryCatch (wpAny_pyNext_list_item st pl.isList (~~~D) λh' v G=>?_));let q:=I.off z (λb o h e=>(G.2 b h).trans e);let j:=(G.2 S m).trans y;done<;>(let[T,O,p1,_]:=q.tuple (.of h1);let[Q,N,p2,_]:=q.tuple (.of h));let i1:=HY O;let ρ:=HY N;change wpAny _ A.in1 (tryCatch (holding [Value.ref ps[i].1,Value.ref ps[i].1] (compareOp .Lt (.ref ps[i].1) (.ref a.1)>>=_)) _>>=_) _ _ _;show wB (wpAny_tryCatch (bM (wB (HT.dN p1 p2 i1 ρ hu ?_))));show wB (bM (wpAny_truthy_bool ?_));show wB (wpAny_letGo (wP ?_));rw[drop_eq_getElem_cons g]at k;cases L:HT.lexLt ps[i].2 a.2 with
  |true=>simp only[DF,L,dD]at k;simp only[dD];show wB ?_;show wpAny_updateSeq j rfl (wB (wpAny_letGo ?_));rw[d];let I2:=λf=>q.off B (h':=h'.update S f) (λb o h e=>(cM _ _ (Ne.symm h)).trans e);show wP {plainId_quiet F.plain_min_loop _,J (i+1) _ H ps[i] _ ⋯ g (I2 _) el C h1 ?_ (Heap.get?_update_self _ j rfl) z B k};let[o,e,r]:=v;show{o,(cM _ _ m).trans e,r}|false=>simp only[DF,L,Bool.false_eq_true,if_false]at k;simp only[Bool.false_eq_true,if_false];show wB (wpAny_letGo ?_);rw[d];show wP {plainId_quiet F.plain_min_loop _,J (i+1) _ H a c ⋯ g q el C h v j z B k}
def cg(a d):argsOk "min" {[a],[(Str.ofString "default",d)]}:=rfl
def ci{id}{args:B6}(j:builtinKind id=none)(i:plainId id=true)(l:entryFor table id\b)(a:argsOk id #[args,e])(h:wpAny (model prog w) A.in1 (b #[args,e]) (λz g=>match z with|.done f=>wants Q E (.ok f) g|.again c=>c.quiet=true/\codeAny (model prog w) A c (wants Q E) g) E s):'C' (call (.builtin id) args e) Q E s:=wpAny_call (codeAny_call_builtin i l (by unfold checkBuiltinCall;rw[j];cases es:Manifest.signature? id with|none=>show wP h|some d=>simp only[argsOk,es]at a;let h2:=a;change wpAny _ A.in1 (Bind.checkArgs id d #[args,e]) _ _ s;rw[h2];show wP h))
def cj(M:X.calm=true)(hr:Room k X.A){ps}{Q}(I:'D')(el:H l\(.lst (Dd ps)))(j:∀p∈ps,H p.1\(.tup (p.2.map V.int)))(ρ:AR v dv)(q:ps=[]->Q v H)(q1:∀b r,ps=b::r->Q (.ref (DF b r).1) H):'B' (call (.builtin "min") [.ref l] [(Str.ofString "default",dv)]) (EP X qA U Q) X.xe s:=by
 let c:(toString "min"++toString ".loop")="min.loop":=by decide
 show ci F.kind_min F.plain_min F.entry_min (cg _ _) ?_;show wB (wpAny_of_eq (rfl) ?_);show wB (wP ?_);let[qG,rv,pl,hz]:=I.list (.of el);show wB (wpAny_pyIter_list pl.isList ?_);let G:=I.kept (t':=s.toks) (h':=s.heap.push {cls:=.type "list_iterator",data:=.fields [.ref l,.int 0 0].toArray}) λb o e=>aS _ e;show wB (cG ?_);rw[c];let E:=G.kept (t':=s.toks) (h':=(s.heap.push {cls:=.type "list_iterator",data:=.fields [.ref l,.int 0 0].toArray}).push {cls:=.type "list",data:=.seq #[]}) λb o e=>aS _ e;let B:(s.heap.push {cls:=.type "list_iterator",data:=.fields [.ref l,.int 0 0].toArray}).objs.size='H'+1:=size_push' _ _;let C:=I.fpOk (aQ _) (I.hok.fresh (aQ _));let O:=G.fpOk (aQ _) (G.hok.fresh (aQ _));let g:(s.heap.push {cls:=.type "list_iterator",data:=.fields [.ref l,.int 0 0].toArray}).objs.size≠'H':=by rw[B];simp
 let st:((s.heap.push {cls:=.type "list_iterator",data:=.fields [.ref l,.int 0 0].toArray}).push {cls:=.type "list",data:=.seq #[]}).IsListIter 'H' l 0:={_,aS _ (bP _ rfl),0,0};let N:((s.heap.push {cls:=.type "list_iterator",data:=.fields [.ref l,.int 0 0].toArray}).push {cls:=.type "list",data:=.seq #[]}).get? (s.heap.push {cls:=.type "list_iterator",data:=.fields [.ref l,.int 0 0].toArray}).objs.size\{cls:=.type "list",dict:=none,data:=.seq #[] 0,slots:=#[]}:=bP _ rfl;generalize(s.heap.push {cls:=.type "list_iterator",data:=.fields [.ref l,.int 0 0].toArray}).objs.size=S at*;generalize 'H'=it at*;show wP {plainId_quiet F.plain_min_loop _,codeAny_builtin F.entry_min_loop ?_};show wB (wpAny_seqItems N rfl ?_);change wpAny _ X.A.in1 (tryCatch (pyNext (.ref it)) _>>=_) _ _ _;let[L,a,h,a0]:=E.list (.of el);let d:=a.length;rw[aA]at d
 match ps,el,j,q,q1,a,d with
 |[],el,j,q,q1,a,d=>show wB (wpAny_tryCatch (wpAny_pyNext_list_end (I.ok.hd M) st h.isList (by simp;show cN (~~~d.symm)) λh' eb=>?_));let D:=E.off C (λb o m e=>eb b o m e);change wpAny _ X.A.in1 (rule _>>=_) _ _ _;show wB (wpAny_rule (wP {v,H,D,ρ,q rfl}))|b::r,el,j,q,q1,a,d=>let[u,z,T]:=a.get (i:=0) rfl;cases T;show wB (wpAny_tryCatch (wpAny_pyNext_list_item st h.isList (~~~z) λh' y J=>?_));let D:=E.off C (λb o m e=>(J.2 b m).trans e);let n:=(J.2 S g).trans N;change wpAny _ X.A.in1 (updateSeq S (λ_=>[Value.ref b.1,Value.ref b.1].toArray)>>=_) _ _ _;show wB ?_;show wpAny_updateSeq n rfl ?_;rw[c];let I4:=λf=>D.off O (h':=h'.update S f) (λb o m e=>(cM _ _ (Ne.symm m)).trans e);show wP #[plainId_quiet F.plain_min_loop _,cZ (I.ok.hd M) (by rw[Gj];let:=hr.un;lia) g _ 1 _ H b _ rfl '2' (I4 _) el j (j b cA) ?_ (Heap.get?_update_self _ n rfl) C O λs' I'=>{.ref (DF b r).1,H,I',0,q1 b r rfl}];let[o,e,σ]:=y;show{o,(cM _ _ g).trans e,σ}
def ck(te td:TE):TE:=(λU H Q=>A6 te BU U H λvs H1=>A6 td BU U H1 λzs H2=>∃(l:Addr)(ps:List (Addr×By))(v:V),vs=[.ref l]/\zs=[v]/\H2 l\(.lst (Dd ps))/\(∀p∈ps,H2 p.1\(.tup (p.2.map V.int)))/\(ps=[]->Q v H2)/\∀b r,ps=b::r->Q (.ref (DF b r).1) H2)
def cm{e d}{p kpos}(B:X.calm=true)(r:Room k X.A)(y:PE X e te)(z:PE X d td)(x:Gl X "min")(w:X.mg "min"=none)(a:starEach [e] X.env=[(false,eval e X.env)]:=by rfl):PE X (.Call (.Name "min" p) [e] [{some (Str.ofString "default"),d,kpos}] pos) (ck te td):=by intro qA s U H Q I h;show wpAny_Call_Name_kw (E3 I x w (show bootBuiltins "min"\(.builtin "min")from nofun) ?_ nofun nofun);show callWith_kw (AQ (AK y Ab a pos qA s U H _ I h) λus c zz=>?_) (by rw[a];rfl) (by rw[a];rfl) rfl rfl;let[vs,H1,G,j,n]:=zz;show AQ (XG z XF pos qA c U H1 _ G n) λJ L zz=>?_;done<;>(let[zs,H2,E,i,l,ps,v,D,C,el,q,o,m]:=zz;subst D C;let[u,0,f]:=j.one);cases f;let[dv,0,g]:=i.one;show cj B r E el q g o m
def S2(pe pd:pE):pE:=(λY K=>pe Y λx f=>pd Y λy g=>∃rs:List By,x=.lst (rs.map AZ)/\y.imm=true/\(rs=[]->K y .fr)/\∀b r,rs=b::r->K (AZ (r.foldl (λm x=>if HT.lexLt x m=true then x else m) b)) .fr)
theorem Nt:∀(r)(b),(DF b r).2=(r.map (·.2)).foldl (λm x=>if HT.lexLt x m=true then x else m) b.2
 |[],b=>rfl|p::r,b=>by
  simp only[DF,map_cons,foldl_cons];by_cases h:HT.lexLt p.2 b.2=true
  .rw[aC h,aC h];show Nt r p
  .rw[aB h,aB h];show Nt r b
theorem Nu:∀(r)(b),DF b r∈b::r
 |[],b=>bI.mpr rfl|p::r,b=>by
  simp only[DF];split
  .show bT _ (Nu r p)
  .let h||h:=aF.mp (Nu r b)
   .simp_all
   simp_all
section
variable{e d:Expr}{pd:pE}{p kpos:Pos}
def cn(T:∀i,(Xs i).calm=true)(J:∀i,Room k (Xs i).A)(o:∀i,(Xs i).mg "min"=none)(N:QE Xs e pe)(O:QE Xs d pd)(M:∀i,Gl (Xs i) "min":=by rfl)(n:∀i,starEach [e] (Xs i).env=[(false,eval e (Xs i).env)]:=by rfl):QE Xs (.Call (.Name "min" p) [e] [{some (Str.ofString "default"),d,kpos}] pos) (S2 pe pd):=by
 let[te,ρ,σ]:=N;let[td,d1,d2]:=O;show{_,λi=>cm (T i) (J i) (ρ i) (d1 i) (M i) (o i) (n i),λW Y U H Q K ok L q=>σ W Y U H _ _ ok L λx f v H1 h1 m D=>d2 W Y U H1 _ _ (ok.step m) h1 λy g u H2 zz w C=>?_};done<;>(let[rs,ex,I,G,E]:=zz;let a:=m.trans w;let j:=ok.step a;subst ex;let[l,us,0,c,rv]:=DB j (D.step (ok.step m) w);let[ps,0,B,z]:=Nd rv);show{l,ps,u,0,0,c,z,λh=>q _ _ _ _ (G (by rw[<-B,h];rfl)) a ?_,λb r h=>q _ _ _ _ (E b.2 _ (by rw[<-B,h];rfl)) a ?_}
 .show(C.back m).immAny I j '2'
 .let o:DF b r∈ps:=by rw[h];show Nu r b
  let s:=z _ o;rw[<-Nt r b];show RF.ofImm (g:=λp=>p=W.b) (CI _) {(DF b r).1,_,0,s,AC.ints.mpr rfl}
end
end L2
namespace HT
end HT
namespace PySem
open PySem.Sem(wp)
end PySem
namespace L2
open PySem.W HT
end L2
namespace L2
open PySem.W
def cp:dH->Hp->VK->Prop:=(λxs H Q=>∃(p:Addr)(qH:List (AT×V)),xs=[.ref p]/\H p\(.dK qH)/\∀l:Addr,H l=none->Q (.ref l) (AB H l (.lst (qH.map λq=>kV q.1))))
def S3{P}(h:(Bp P w).is k u=true):AR (kV k) u:=by
 let[i,t,0,0]||[x,t,0,0]:=D4 h
 .show#[t,0]
 .show#[t,0]
noncomputable def cq{P}{es}{vs}(h:Pairs (Bp P w) es vs):AW (vs.map λq=>kV q.1) (es.map (·.key)):=by induction h with
 |nil=>show .nil|cons h _ t a=>show .cons (S3 h) a
theorem S4:∀{qH}{vs},KV qH vs->(qH.map λq=>kV q.1)=vs.map λq=>kV q.1|_,_,.nil=>rfl|_,_,.cons r t=>by rw[map_cons,map_cons,S4 t,r.1]
def cr(l:X.calm=true):BQ X (.type "list") cp:=by
 rintro qA s U H xs us Q I r⟨p,qH,rfl,g,k⟩;let[u,0,f]:=r.one;cases f;done<;>let[x,j,vs,rel,o,es,ep,h1,h2,n,_,e,_]:=MX I.hok g;let b:=rel.length;let y:es.size=qH.length:=by let a:=e.length;simp at a;simp_all
 show kdl_call (NZ j) (I.ok.hd l) #[o,h1,h2,n] (by simp_all) λh' tk d w i m c=>?_;let v:=SN c rfl;show{.ref 'H',_,I.laid (o:=.lst _) i (aQ _) #[?_,d.toList,w,?_,?_],0,k _ (I.hok.fresh (aQ _))}
 .rw[aA];lia
 .rw[v,S4 rel];show cq e
 .simpa using m
end L2
namespace L2
def Nv:Bool->Keyed->Array Keyed->Nat->Nat->Nat->StateT SortSt Sem (Option Nat):=(sortPriv%PySem.Builtin.gallop)
def cu:Array Keyed->Array Keyed->StateT SortSt Sem (Array Keyed):=(sortPriv%PySem.Builtin.mergeLo)
def cv:Array Keyed->Array Keyed->StateT SortSt Sem (Array Keyed):=(sortPriv%PySem.Builtin.mergeHi)
structure Cmp(M:Model)(A:Around)(E:VS)(s:Shared)(κ:SortKind)(O:KeyOrd)(ky:Keyed->O.α)(mem:Keyed->Prop):Prop where ask:∀x y,mem x->mem y->∀(R:Option Bool->SortSt->Prop)(st:SortSt),kindOf st=κ->R (some (O.blt (ky x) (ky y))) st->wpS M A E s (lt' x y) R st
section
variable{M:Model}{κ:SortKind}{ky:Keyed->O.α}{mem:Keyed->Prop}
def Bx{x}{st}(e:qF[i]?\x)(h:R x st):wpS M A E s (elem' qF i) R st:=by rw[elem'_eq,e];show aE h
def Du(ky:Keyed->O.α)(left:Bool)(key x:Keyed):Bool:=(if left=true then O.blt (ky x) (ky key)else !O.blt (ky key) (ky x))
def S5(C:Cmp M A E s κ O ky mem){base hint}{st}(hk:kindOf st=κ)(y:mem key)(p:Nat->Bool)(H:∀i,i<n->∃x,qF[base+i]?\x/\mem x/\p i=Du ky left key x)(hh:hint<n)(mono:∀i j,i<=j->j<n->p j=true->p i=true)(h:∀k,k<=n->(∀i,i<k->p i=true)->(∀i,k<=i->i<n->p i=false)->R (some k) st):wpS M A E s (Nv left key qF base n hint) R st:=by
 let G:∀i,i<n->∀{R},R (some (p i)) st->wpS M A E s (do let x<-elem' qF (base+i);if left=true then lt' x key else do let z<-lt' key x;pure (z.map λq=>!q)) R st:=by intro i hi R f;let[x,e,D,hp]:=H i hi;show aD (Bx e ?_);cases left with
  |true=>rw[aC rfl];show C.ask _ _ D y _ _ hk ?_;rw[hp]at f;show f|false=>rw[aB '2'];show aD (C.ask _ _ y D _ _ hk (aE ?_));rw[hp]at f;show f
 let r:∀i j,i<=j->j<n->p i=false->p j=false:=λi j T hj hi=>by cases e:p j with
  |false=>rfl|true=>rw[mono i j T hj e]at hi;cases hi
 let B:∀lo hi,lo<=hi->hi<=n->(∀i,i<lo->p i=true)->(∀i,hi<=i->i<n->p i=false)->∀(F),(∀x lo hi,¬lo≥hi->lo+(hi-lo)/2<n->∀(u:ForInStep (Option (Option Nat)×Nat×Nat)->SortSt->Prop),u (.yield (if p (lo+(hi-lo)/2)=true then(none,lo+(hi-lo)/2+1,hi)else(none,lo,lo+(hi-lo)/2))) st->wpS M A E s (F x (none,lo,hi)) u st)->(∀x lo hi,lo≥hi->∀(u:ForInStep (Option (Option Nat)×Nat×Nat)->SortSt->Prop),u (.done (none,lo,hi)) st->wpS M A E s (F x (none,lo,hi)) u st)->∀(u:Option (Option Nat)×Nat×Nat->SortSt->Prop),(∀k,k<=n->(∀i,i<k->p i=true)->(∀i,k<=i->i<n->p i=false)->u (none,k,k) st)->wpS M A E s (forIn [0:n] (none,lo,hi) F) u st:=by
  intro lo hi h1 h2 l g F hF σ u f;show wpS_forRange (I:=λx c a=>a=st/\∃lo hi,c=(none,lo,hi)/\lo<=hi/\hi<=n/\(∀i,i<lo->p i=true)/\(∀i,hi<=i->i<n->p i=false)/\hi-lo<=n-x) ?_ ?_ {0,lo,hi,0,h1,h2,l,g,⋯}
  .rintro x c a _ hx⟨rfl,lo,hi,rfl,h1,h2,l,g,w⟩;by_cases m:lo≥hi
   .show σ x lo hi m _ ?_;let e:lo=hi:=⋯;subst e;show f lo h2 l g
   .show hF x lo hi m ⋯ _ ?_;cases e:p (lo+(hi-lo)/2)with
    |true=>rw[aC rfl];show{0,_,_,0,⋯,h2,λi a0=>mono i _ ⋯ ⋯ e,g,⋯}|false=>rw[aB '2'];show{0,_,_,0,⋯,⋯,l,λi J h7=>r _ i J h7 e,⋯}
  .rintro c a⟨rfl,lo,hi,rfl,h1,h2,l,g,w⟩;let e:lo=hi:=⋯;subst e;show f lo h2 l g
 show aD (G hint hh ?_);cases e0:p hint with
 |true=>
  dsimp only;rw[aC rfl];show aD (wpS_mono (wpS_forRange (I:=λx c a=>a=st/\∃d o,c=(none,d,o)/\d<o/\x+1<=o/\hint+d<n/\p (hint+d)=true) (Q:=λc a=>a=st/\∃d o,c=(none,d,o)/\d<o/\hint+d<n/\p (hint+d)=true/\(n-hint<=o\/(hint+o<n/\p (hint+o)=false))) ?L ?f1 {0,(0),1,0,⋯,⋯,⋯,e0}) ?ρ)
  case L=>
   rintro x c a _ hx⟨rfl,d,o,rfl,h1,h2,l,g⟩;dsimp only;by_cases m:o≥n-hint
   .rw[aC m];show aE {0,d,o,0,h1,l,g,.inl m}
   .rw[aB m];show aD (G (hint+o) ⋯ ?_);cases v:p (hint+o)with
    |true=>show aE {0,o,2*o+1,0,⋯,⋯,⋯,v}|false=>show aE #[0,d,o,0,h1,l,g,.inr {⋯,v}]
  case f1=>rintro c a⟨rfl,d,o,rfl,h1,h2,l,g⟩;show{0,d,o,0,h1,l,g,.inl ⋯}
  case ρ=>
   rintro c a⟨rfl,d,o,rfl,h1,l,g,w⟩;dsimp only;show aD (B (hint+d+1) (hint+min o (n-hint)) (by omega) (by omega) (λi hi=>mono i (hint+d) ⋯ l g) (λi hi N=>?_) _ ?_ ?_ _ λk k1 k2 k3=>aE (h k k1 k2 k3))
   .let w||[w,J]:=w
    .lia
    .show r (hint+o) i ⋯ N J
   .intro x lo hi m D u f;dsimp only;rw[aB m];show aD (G _ D ?_);cases v:p (lo+(hi-lo)/2)with
    |true=>rw[v,aC rfl]at f;show aE f|false=>rw[v,aB '2']at f;show aE f
   .intro x lo hi m u f;dsimp only;rw[aC m];show aE f|false=>
  dsimp only;rw[aB '2'];show aD (wpS_mono (wpS_forRange (I:=λx c a=>a=st/\∃d o,c=(none,d,o)/\d<o/\x+1<=o/\d<=hint/\p (hint-d)=false) (Q:=λc a=>a=st/\∃d o,c=(none,d,o)/\d<o/\d<=hint/\p (hint-d)=false/\(hint+1<=o\/(o<=hint/\p (hint-o)=true))) ?L ?f1 {0,(0),1,0,⋯,⋯,⋯,e0}) ?ρ)
  case L=>
   rintro x c a _ hx⟨rfl,d,o,rfl,h1,h2,l,g⟩;dsimp only;by_cases m:o≥hint+1
   .rw[aC m];show aE {0,d,o,0,h1,l,g,.inl m}
   .rw[aB m];show aD (G (hint-o) ⋯ ?_);cases v:p (hint-o)with
    |true=>show aE #[0,d,o,0,h1,l,g,.inr {⋯,v}]|false=>show aE {0,o,2*o+1,0,⋯,⋯,⋯,v}
  case f1=>rintro c a⟨rfl,d,o,rfl,h1,h2,l,g⟩;show{0,d,o,0,h1,l,g,.inl ⋯}
  case ρ=>
   rintro c a⟨rfl,d,o,rfl,h1,l,g,w⟩;dsimp only;show aD (B (hint+1-min o (hint+1)) (hint-d) (by omega) ⋯ (λi hi=>?_) (λi hi N=>r (hint-d) i hi N g) _ ?_ ?_ _ λk k1 k2 k3=>aE (h k k1 k2 k3))
   .let w||[w,J]:=w
    .simp_all
    .show mono i (hint-o) ⋯ ⋯ J
   .intro x lo hi m D u f;dsimp only;rw[aB m];show aD (G _ D ?_);cases v:p (lo+(hi-lo)/2)with
    |true=>rw[v,aC rfl]at f;show aE f|false=>rw[v,aB '2']at f;show aE f
   .intro x lo hi m u f;dsimp only;rw[aC m];show aE f
end
section
variable{ky:Keyed->O.α}
noncomputable abbrev A1(ky:Keyed->O.α)(x y:Keyed):Prop:=O.kle (ky x) (ky y)
noncomputable abbrev As(ky:Keyed->O.α)(l:List Keyed):Prop:=l.Pairwise (A1 ky)
structure Mi(ky:Keyed->O.α)(a b out:List Keyed)(ia ib:Nat):Prop where
 perm:(out++(a.drop ia++b.drop ib)).Perm (a++b)srt:As ky out
 le:∀x∈out,∀y,y∈a.drop ia\/y∈b.drop ib->A1 ky x y
variable{a b out:List Keyed}{ia ib k:Nat}
def S6{l:List Keyed}{x}(h:x∈l.take k\/x∈l.drop k):x∈l:=by rw[<-take_append_drop k l];show bA.mpr h
def Ba(h:As ky l)(k):As ky (l.take k)/\As ky (l.drop k)/\∀x∈l.take k,∀y∈l.drop k,A1 ky x y:=by
 let h':As ky (l.take k++l.drop k):=by simp_all
 let[h1,h2,a]:=cR.mp h';show#[h1,h2,a]
theorem Mi.manyA(m:Mi ky a b out ia ib)(sa:As ky a)(k)(hb:∀x∈(a.drop ia).take k,∀y∈b.drop ib,A1 ky x y):Mi ky a b (out++(a.drop ia).take k) (ia+k) ib where
 perm:=by
  let e:a.drop ia=(a.drop ia).take k++a.drop (ia+k):=by rw[<-drop_drop];show(take_append_drop _ _).symm
  let:=m.perm;rw[e]at this;simpa[bK]using this
 srt:=by show cR.mpr {m.srt,(Ba (Ba sa ia).2.1 k).1,λx hx y hy=>m.le x hx y (.inl (S6 (.inl hy)))}
 le:=λx hx y hy=>by
  let hx||hx:=bA.mp hx
  .show m.le x hx y ?_;let hy||hy:=hy
   .rw[<-drop_drop]at hy;show .inl (S6 (.inr hy))
   .show .inr hy
  .let hy||hy:=hy
   .rw[<-drop_drop]at hy;show(Ba (Ba sa ia).2.1 k).2.2 x hx y hy
   .show hb x hx y hy
theorem Mi.swap(m:Mi ky a b out ia ib):Mi ky b a out ib ia where
 perm:=((perm_append_comm).append_left out).trans (m.perm.trans perm_append_comm)
 srt:=m.srt
 le:=λx d y c=>m.le x d y c.symm
def Mi.manyB(m:Mi ky a b out ia ib)(c:As ky b)(k)(ha:∀x∈(b.drop ib).take k,∀y∈a.drop ia,A1 ky x y):Mi ky a b (out++(b.drop ib).take k) ia (ib+k):=(m.swap.manyA c k ha).swap
def S7{l:List Keyed}{x}(e:l[i]?\x):(l.drop i).take 1=[x]:=by
 let hi:i<l.length:=by
  let q||q:=cE i l.length
  .show q
  simp_all
 rw[aH hi]at e;rw[drop_eq_getElem_cons hi];simp[oI e]
def Mi.oneA(m:Mi ky a b out ia ib)(sa:As ky a){x}(e:a[ia]?\x)(hb:∀y∈b.drop ib,A1 ky x y):Mi ky a b (out++[x]) (ia+1) ib:=by let:=m.manyA sa 1 (by rw[S7 e];intro z c;rw[bI.mp c];show hb);rw[S7 e]at this;show this
def Mi.oneB(m:Mi ky a b out ia ib)(c:As ky b){x}(e:b[ib]?\x)(ha:∀y∈a.drop ia,A1 ky x y):Mi ky a b (out++[x]) ia (ib+1):=(m.swap.oneA c e ha).swap
def G5(h:As ky l){x}(e:l[i]?\x):∀y∈l.drop i,A1 ky x y:=by
 let hi:i<l.length:=by
  let q||q:=cE i l.length
  .show q
  simp_all
 rw[aH hi]at e;let h2:=(Ba h i).2.1;rw[drop_eq_getElem_cons hi,oI e]at h2⊢;intro y hy;let 0||hy:=aF.mp hy
 .show KeyOrd.kle_refl _
 .show(cT.mp h2).1 y hy
structure MDone(ky:Keyed->O.α)(a b m:List Keyed):Prop where
 perm:m.Perm (a++b)srt:As ky m
theorem Mi.done(m:Mi ky a b out ia ib)(sa:As ky a)(c:As ky b)(h:a.length<=ia\/b.length<=ib):MDone ky a b (out++a.drop ia++b.drop ib)where
 perm:=by rw[bK];show m.perm
 srt:=by
  rw[bK];show cR.mpr {m.srt,?_,λx e y d=>m.le x e y (bA.mp d)};let h||h:=h
  .rw[drop_eq_nil_of_le h];show(Ba c ib).2.1
  .rw[drop_eq_nil_of_le h,cP];show(Ba sa ia).2.1
theorem Mi.lastA(m:Mi ky a b out ia ib)(sa:As ky a)(c:As ky b)(h:∀x∈b.drop ib,∀y∈a.drop ia,A1 ky x y):MDone ky a b (out++b.drop ib++a.drop ia)where
 perm:=by rw[bK];show((perm_append_comm).append_left out).trans m.perm
 srt:=by rw[bK];show cR.mpr {m.srt,cR.mpr {(Ba c ib).2.1,(Ba sa ia).2.1,h},λx e y d=>m.le x e y (bA.mp d).symm}
end
def Ki(a:Array Keyed)(i):(a.extract i a.size).toList=a.toList.drop i:=by rw[Array.toList_extract,extract_eq_take_drop];rw[aZ (by simp)]
def Nw(a:Array Keyed)(i k):(a.extract i (i+k)).toList=(a.toList.drop i).take k:=by simp
section
variable{M:Model}{κ:SortKind}{ky:Keyed->O.α}{mem:Keyed->Prop}
noncomputable abbrev CU(st:SortSt)(g:Nat):SortSt:=SortSt.mk' (kindOf st) 'G' (pendingOf st) g (failedOf st)
def cw:Nat->StateT SortSt Sem Unit:=(sortPriv%PySem.Builtin.setMinGallop)
def Kj{g}{st}(h:R () (CU st g)):wpS M A E s (cw g) R st:=wpS_modify h
def B7{a:Array Keyed}{x}(e:a.toList[i]?\x):a[i]?\x:=by simp_all
def G6{l:List Keyed}(h:i<l.length):∃x,l[i]?\x/\x∈l:={l[i],aH h,getElem_mem h}
def IS{l:List Keyed}{y}(h:y∈l.drop i):∃j,i<=j/\l[j]?\y:=by let[n,a]:=getElem?_of_mem h;show{i+n,Nat.le_add_right _ _,by simp_all}
def Kk{l:List Keyed}{y}(h:y∈(l.drop i).take k):∃j,j<k/\l[i+j]?\y:=by
 let[n,a]:=getElem?_of_mem h;rw[getElem?_take]at a;split at a
 .show{n,‹_›,by simp_all}
 .cases a
def Nx(C:Cmp M A E s κ O ky mem){base hint}{st}(p:kindOf st=κ)(c:mem key)(o:∀x∈qF.toList,mem x)(m:∀i j x y,base<=i->i<=j->j<base+n->qF.toList[i]?\x->qF.toList[j]?\y->A1 ky x y)(w:base+n<=qF.size)(u:hint<n)(h:∀k,k<=n->(∀i x,i<k->qF.toList[base+i]?\x->A1 ky x key)->(∀i x,k<=i->i<n->qF.toList[base+i]?\x->O.klt (ky key) (ky x))->R (some k) st):wpS M A E s (Nv false key qF base n hint) R st:=by
 let a:∀i,i<n->∃x,qF.toList[base+i]?\x/\x∈qF.toList:=λi hi=>G6 (by rw[bR];lia);show S5 C p c (λi=>match qF.toList[base+i]? with|some x=>Du ky false key x|none=>false) (λi hi=>?_) u (λi j r q g=>?_) (λk k1 k2 k3=>h k k1 (λi x hi e=>?_) (λi x hi d e=>?_))
 .let[x,e,f]:=a i hi;show{x,B7 e,o x f,by rw[e]}
 .let[x,e,f]:=a i ⋯;let[y,l,v]:=a j q;simp only[l,Du,Bool.false_eq_true,if_false,Bool.not_eq_true']at g;simp only[e,Du,Bool.false_eq_true,if_false,Bool.not_eq_true'];show KeyOrd.kle_trans (m _ _ x y ⋯ (by simp_all) (by simp_all) e l) g
 .let:=k2 i hi;simp only[e,Du,Bool.false_eq_true,if_false,Bool.not_eq_true']at this;show this
 .let:=k3 i hi d;simp only[e,Du,Bool.false_eq_true,if_false,Bool.not_eq_false']at this;show this
def Ny(C:Cmp M A E s κ O ky mem){base hint}{st}(p:kindOf st=κ)(c:mem key)(o:∀x∈qF.toList,mem x)(m:∀i j x y,base<=i->i<=j->j<base+n->qF.toList[i]?\x->qF.toList[j]?\y->A1 ky x y)(w:base+n<=qF.size)(u:hint<n)(h:∀k,k<=n->(∀i x,i<k->qF.toList[base+i]?\x->O.klt (ky x) (ky key))->(∀i x,k<=i->i<n->qF.toList[base+i]?\x->A1 ky key x)->R (some k) st):wpS M A E s (Nv true key qF base n hint) R st:=by
 let a:∀i,i<n->∃x,qF.toList[base+i]?\x/\x∈qF.toList:=λi hi=>G6 (by rw[bR];lia);show S5 C p c (λi=>match qF.toList[base+i]? with|some x=>Du ky true key x|none=>false) (λi hi=>?_) u (λi j r q g=>?_) (λk k1 k2 k3=>h k k1 (λi x hi e=>?_) (λi x hi d e=>?_))
 .let[x,e,f]:=a i hi;show{x,B7 e,o x f,by rw[e]}
 .let[x,e,f]:=a i ⋯;let[y,l,v]:=a j q;simp only[l,Du,dD]at g;simp only[e,Du,dD];show KeyOrd.klt_of_kle_of_klt (m _ _ x y ⋯ (by simp_all) (by simp_all) e l) g
 .let:=k2 i hi;simp only[e,Du,dD]at this;show this
 .let:=k3 i hi d;simp only[e,Du,dD]at this;show this
def Fs(h:As ky l){x y}(a:i<=j)(e:l[i]?\x)(c:l[j]?\y):A1 ky x y:=by
 show G5 h e y ?_;let:(l.drop i)[j-i]?\y:=by simp_all
 show aM this
end
section
variable{M:Model}{κ:SortKind}{ky:Keyed->O.α}{mem:Keyed->Prop}
def Ak{c}[Decidable c]{x y}{st:SortSt}(h1:c->wpS M A E s x R st)(h2:¬c->wpS M A E s y R st):wpS M A E s (if c then x else y) R st:=by
 split
 .show h1 ‹_›
 .show h2 ‹_›
structure MLo(ky:Keyed->O.α)(a b out:Array Keyed)(ia ib:Nat):Prop where
 mi:Mi ky a.toList b.toList out.toList ia ib
 ha:ia+1<a.size
 hb:ib<b.size
def Kl{α d a:Type}{F:d->a->StateT SortSt Sem α}{I:d->a->Prop}{c}[Decidable c]{t}{x}{y}{R}{st}(k:∀b g,I b g->wpS M A E s (F b g) R st)(h1:(∀b g,I b g->wpS M A E s (F b g) R st)->c->wpS M A E s t R st)(h2:¬c->I x y):wpS M A E s (if c then t else F x y) R st:=Ak (h1 k) (λh=>k _ _ (h2 h))
def S8{α a:Type}{F:a->StateT SortSt Sem α}{c}[Decidable c]{x y}{R}{st}(k:∀z,wpS M A E s (F z) R st):wpS M A E s (if c then F x else F y) R st:=Ak (λ_=>k _) (λ_=>k _)
def cx(C:Cmp M A E s κ O ky mem){a b}{st}(hk:kindOf st=κ)(ma:∀x∈a.toList,mem x)(mb:∀x∈b.toList,mem x)(sa:As ky a.toList)(N:As ky b.toList)(ha:0<a.size)(hb:0<b.size)(h1:∀x y,b.toList[0]?\x->y∈a.toList->A1 ky x y)(h2:∀x∈b.toList,∀y,a.toList[a.size-1]?\y->A1 ky x y)(h:∀m g,MDone ky a.toList b.toList m.toList->R m (CU st g)):wpS M A E s (cu a b) R st:=by
 let la:a.toList.length=a.size:=bR;let lb:b.toList.length=b.size:=bR;let ata:∀i,i<a.size->∃x,a.toList[i]?\x/\mem x:=λi hi=>(by let[x,e,p]:=G6 (l:=a.toList) (i:=i) ⋯;show{x,e,ma x p});let atb:∀i,i<b.size->∃x,b.toList[i]?\x/\mem x:=λi hi=>(by let[x,e,p]:=G6 (l:=b.toList) (i:=i) ⋯;show{x,e,mb x p});let u:∀(out:Array Keyed)ia ib g,Mi ky a.toList b.toList out.toList ia ib->(a.size<=ia\/b.size<=ib)->R (out++a.extract ia a.size++b.extract ib b.size) (CU st g):=λout ia ib g m f=>by show h _ g ?_;rw[cJ,cJ,Ki,Ki];show m.done sa N (by rw[la,lb];show f)
 let v:∀(out:Array Keyed)ia ib g,Mi ky a.toList b.toList out.toList ia ib->ia+1=a.size->R (out++b.extract ib b.size++a.extract ia a.size) (CU st g):=λout ia ib g m f=>by
  show h _ g ?_;rw[cJ,cJ,Ki,Ki];show m.lastA sa N λx p y L=>?_;let[j,hj,e]:=IS L;let af:j<a.toList.length:=by
   let q||q:=cE j a.toList.length
   .show q
   .rw[bQ q]at e;cases e
  let ej:j=a.size-1:=⋯;rw[ej]at e;show h2 x (mem_of_mem_drop p) y e
 show aD (wpS_lift (wpAny_rule #[0,?_]));let[b0,a9,as]:=atb 0 hb;show aD (Bx (B7 a9) ?_);let m0:Mi ky a.toList b.toList ([b0].toArray:Array Keyed).toList 0 1:=by let:Mi ky a.toList b.toList [] 0 0:={'2',List.Pairwise.nil,λx p=>by cases p};show this.oneB N a9 (λy L=>h1 b0 y a9 (~~~L))
 dsimp-zeta only;by_cases ag:1=b.size
 .rw[aC (~~~ag)];show aE (u _ 0 1 (gallopOf st) m0 (.inr (by simp_all)))
 rw[aB (~~~ag)];by_cases a8:0+1=a.size
 .rw[aC (~~~a8)];show aE (v _ 0 1 (gallopOf st) m0 a8)
 rw[aB (~~~a8)];show aD (wpS_get ?_);show aD (wpS_mono (wpS_forRange (I:=λx c d=>(∃g,d=CU st g)/\∃out ia ib mg,c=(none,out,ia,ib,mg)/\MLo ky a b out ia ib/\x+1<=ia+ib) (Q:=λc d=>∃m r,c=(some m,r)/\R m d) ?step ?u #[{gallopOf st,0},_,_,_,_,0,{m0,⋯,⋯},⋯]) ?aa)
 case aa=>rintro c d⟨m,r,rfl,hr⟩;show aE hr
 case u=>rintro c d⟨_,out,ia,ib,mg,rfl,m,p⟩;let:=m.ha;let:=m.hb;lia
 case step=>
  rintro x c d _ p⟨⟨g,rfl⟩,out,ia,ib,mg,rfl,m,ab⟩;dsimp-zeta only;show aD (wpS_mono (wpS_forRange (I:=λy c d=>d=CU st g/\∃out ia ib D B,c=(none,out,ia,ib,D,B)/\MLo ky a b out ia ib/\x+1+y<=ia+ib) (Q:=λc d=>(∃m r,c=(some m,r)/\R m d)\/(d=CU st g/\∃out ia ib D B,c=(none,out,ia,ib,D,B)/\MLo ky a b out ia ib/\x+1<=ia+ib)) ?a1 ?ai {0,_,_,_,_,_,0,m,⋯}) ?a3)
  case ai=>rintro c d⟨_,out,ia,ib,D,B,rfl,m,p⟩;let:=m.ha;let:=m.hb;lia
  case a1=>rintro y c d _ L⟨rfl,out,ia,ib,D,B,rfl,m,aj⟩;let a7:=m.ha;let J:=m.hb;done<;>(let[xa,ea,a5]:=ata ia ⋯;let[xb,ρ,a4]:=atb ib J);dsimp-zeta only;show aD (Bx (B7 ρ) (aD (Bx (B7 ea) (aD (C.ask _ _ a4 a5 _ _ hk ?_)))));cases ae:O.blt (ky xb) (ky xa)with
   |true=>
    dsimp-zeta only;rw[aC rfl];let w:=m.mi.oneB N ρ λz f=>KeyOrd.kle_trans (KeyOrd.kle_of_klt ae) (G5 sa ea z f);rw[<-Array.toList_push]at w;show aD (Bx (B7 ρ) ?_);by_cases f:ib+1=b.size
    .rw[aC (~~~f)];show aE (.inl {_,_,0,u _ _ _ g w (.inr (by simp_all))})
    .rw[aB (~~~f)];split
     .show aE (.inr {0,_,_,_,_,_,0,{w,a7,⋯},⋯})
     .show aE {0,_,_,_,_,_,0,{w,a7,⋯},⋯}|false=>
    dsimp-zeta only;rw[aB '2'];let w:=m.mi.oneA sa ea λz f=>KeyOrd.kle_trans ae (G5 N ρ z f);rw[<-Array.toList_push]at w;show aD (Bx (B7 ea) ?_);by_cases f:ia+1+1=a.size
    .rw[aC (~~~f)];show aE (.inl {_,_,0,v _ _ _ g w f})
    .rw[aB (~~~f)];split
     .show aE (.inr {0,_,_,_,_,_,0,{w,⋯,J},⋯})
     .show aE {0,_,_,_,_,_,0,{w,⋯,J},⋯}
  case a3=>
   rintro c d(⟨w,r,rfl,hr⟩|⟨rfl,out,ia,ib,D,B,rfl,m,ab⟩)
   .show aE #[w,_,0,hr]
   dsimp-zeta only;show aD (wpS_lift (wpAny_rule #[0,?_]));show aD (wpS_mono (wpS_forRange (I:=λy c d=>(∃g,d=CU st g)/\∃out ia ib mg D B,c=(none,out,ia,ib,mg,D,B)/\MLo ky a b out ia ib/\x+1+2*y<=ia+ib) (Q:=λc d=>(∃m r,c=(some m,r)/\R m d)\/((∃g,d=CU st g)/\∃out ia ib mg D B,c=(none,out,ia,ib,mg,D,B)/\MLo ky a b out ia ib/\x+2<=ia+ib)) ?a0 ?ah #[#[g,0],_,_,_,_,_,_,0,m,⋯]) ?a2)
   case ah=>rintro c d⟨_,out,ia,ib,mg,D,B,rfl,m,p⟩;let:=m.ha;let:=m.hb;lia
   case a2=>
    rintro c d(⟨w,r,rfl,hr⟩|⟨⟨g,rfl⟩,out,ia,ib,mg,D,B,rfl,m,ab⟩)
    .show aE #[w,_,0,hr]
    .dsimp-zeta only;show aD (Kj (aE #[#[_,0],_,_,_,_,0,m,⋯]))
   case a0=>
    rintro y c d _ L⟨⟨g,rfl⟩,out,ia,ib,mg,D,B,rfl,m,aj⟩;let a7:=m.ha;let J:=m.hb;let[xb,ρ,a4]:=atb ib J
    extract_lets-merge c1 c2 c3 c4 c5 c6 c7 c8 c9 ar aq ap jp ao
    show S8 λz=>?_;subst ao jp ap aq ar c9 c8 c7 c6 c5 c4 c3 c2 c1;dsimp-zeta only;show aD (Kj ?_);show aD (Bx (B7 ρ) (aD (Nx C hk a4 ma (λi j x y _ a6 _ e1 e2=>Fs sa a6 e1 e2) ⋯ ⋯ λk k1 k2 k3=>?_)));let T:=m.mi.manyA sa k λx p z f=>by let[j,hj,e]:=Kk p;show KeyOrd.kle_trans (k2 j x hj e) (G5 N ρ z f)
    let up:∀z∈a.toList.drop (ia+k),A1 ky xb z:=λz f=>by
     let[j,hj,e]:=IS f;let af:j<a.toList.length:=by
      let q||q:=cE j a.toList.length
      .show q
      .rw[bQ q]at e;cases e
     show KeyOrd.kle_of_klt (k3 (j-ia) z ⋯ ⋯ (by rw[show ia+(j-ia)=j by lia];show e))
    dsimp-zeta only
    extract_lets-merge d1 jp d2 d3
    show Kl (F:=λo n=>jp () o n) (I:=λo H=>¬H+1=a.size/\H<a.size/\ia<=H/\Mi ky a.toList b.toList o.toList H ib/\∀z∈a.toList.drop H,A1 ky xb z) (λo H h=>?_) (λkey an=>?_) (λan=>?_)
    .clear T up k2 k3;done<;>let[f,σ,au,T,up]:=h;subst d3 d2 jp d1;dsimp-zeta only;show aD (Bx (B7 ρ) ?_);let m2:=T.oneB N ρ up;rw[<-Array.toList_push]at m2;show Ak (λL=>aE (.inl {_,_,0,u _ _ _ _ m2 (.inr (by let:=aV L;simp_all))})) (λL=>?_);let L:¬ib+1=b.size:=by simpa using L
     done<;>let[xa,ea,a5]:=ata H ⋯;show aD (Bx (B7 ea) (aD (Ny (base:=ib+1) (n:=b.size-(ib+1)) (hint:=0) C hk a5 mb (λi j x y _ a6 _ e1 e2=>Fs N a6 e1 e2) ⋯ ⋯ λl l1 l2 l3=>?_)));let m3:=m2.manyB N l λx p z f=>by let[j,hj,e]:=Kk p;show KeyOrd.kle_trans (KeyOrd.kle_of_klt (l2 j x hj e)) (G5 sa ea z f)
     let G:∀z∈b.toList.drop (ib+1+l),A1 ky xa z:=λz f=>by
      let[j,hj,e]:=IS f;let af:j<b.toList.length:=by
       let q||q:=cE j b.toList.length
       .show q
       .rw[bQ q]at e;cases e
      show l3 (j-(ib+1)) z ⋯ ⋯ (by rw[show ib+1+(j-(ib+1))=j by lia];show e)
     dsimp-zeta only
     extract_lets-merge e1 e2 jq e3 e4
     show Kl (F:=λo n=>jq () o n) (I:=λo nl=>nl<b.size/\ib+1<=nl/\Mi ky a.toList b.toList o.toList H nl/\∀z∈b.toList.drop nl,A1 ky xa z) (λo nl h=>?_) (λkey al=>?_) (λal=>?_)
     .clear m3 G l2 l3;done<;>let[hw,av,m3,G]:=h;subst e4 e3 jq e2 e1;dsimp-zeta only;show aD (Bx (B7 ea) ?_);let m4:=m3.oneA sa ea G;rw[<-Array.toList_push]at m4;show Ak (λhv=>aE (.inl {_,_,0,v _ _ _ _ m4 (~~~hv)})) (λhv=>?_);let hv:¬H+1+1=a.size:=by simpa using hv
      show Ak (λ_=>aE (.inr #[#[_,0],_,H+1,nl,_,_,_,0,{m4,⋯,⋯},⋯])) (λ_=>aE #[#[_,0],_,H+1,nl,_,_,_,0,{m4,⋯,⋯},⋯])
     .rw[<-Nw,<-cJ]at m3;show Ak (λhw=>aE (.inl {_,_,0,u _ _ _ _ m3 (.inr (Nat.le_of_eq (aV hw).symm))})) (λhw=>key _ _ {Nat.lt_of_le_of_ne ⋯ λq=>hw (beq_iff_eq.mpr q),Nat.le_add_right _ _,m3,G})
     .let ak:l=0:=(by simp_all)
      clear_value jq
      subst ak;rw[take_zero,cP]at m3;show{⋯,aQ _,m3,G}
    .rw[<-Nw,<-cJ]at T;show Ak (λf=>aE (.inl {_,_,0,v _ _ _ _ T (aV f)})) (λf=>Ak (λσ=>aE (.inl {_,_,0,u _ _ _ _ T (.inl (Nat.le_of_eq (aV σ).symm))})) (λσ=>key _ _ {λq=>f (beq_iff_eq.mpr q),Nat.lt_of_le_of_ne ⋯ λq=>σ (beq_iff_eq.mpr q),Nat.le_add_right _ _,T,up}))
    .let am:k=0:=⋯
     clear_value jp
     subst am;rw[take_zero,cP]at T;show{⋯,⋯,aQ _,T,up}
end
section
variable{ky:Keyed->O.α}
structure Mh(ky:Keyed->O.α)(a b out:List Keyed)(na nb:Nat):Prop where
 perm:((a.take na++b.take nb)++out.reverse).Perm (a++b)srt:As ky out.reverse
 le:∀y∈out,∀x,x∈a.take na\/x∈b.take nb->A1 ky x y
variable{a b out:List Keyed}{na nb:Nat}
theorem Mh.swap(m:Mh ky a b out na nb):Mh ky b a out nb na where
 perm:=((perm_append_comm).append_right _).trans (m.perm.trans perm_append_comm)
 srt:=m.srt
 le:=λy c x d=>m.le y c x d.symm
def S9{l:List Keyed}(h:i<=n):l.take n=l.take i++(l.take n).drop i:=by let:=(take_append_drop i (l.take n)).symm;rw[take_take,Nat.min_eq_left h]at this;show this
theorem Mh.manyA(m:Mh ky a b out na nb)(sa:As ky a)(hj:j<=na)(hb:∀x∈(a.take na).drop j,∀y∈b.take nb,A1 ky y x):Mh ky a b (out++((a.take na).drop j).reverse) j nb where
 perm:=by let:=m.perm;rw[S9 hj]at this;rw[reverse_append,reverse_reverse];show List.Perm.trans ?_ this;rw[bK,bK,bK];show List.Perm.append_left _ ?_;rw[<-bK,<-bK];show List.Perm.append_right _ perm_append_comm
 srt:=by rw[reverse_append,reverse_reverse];show cR.mpr {(Ba (Ba sa na).1 j).2.1,m.srt,λx hx y hy=>m.le y (mem_reverse.mp hy) x (.inl ?_)};show mem_of_mem_drop hx
 le:=λy hy x hx=>by
  let hy||hy:=bA.mp hy
  .show m.le y hy x ?_;let hx||hx:=hx
   .show .inl (by rw[S9 hj];show mem_append_left _ hx)
   .show .inr hx
  .let hy:=mem_reverse.mp hy;let hx||hx:=hx
   .let s2:=(Ba sa na).1;let e:(a.take na).take j=a.take j:=by rw[take_take,Nat.min_eq_left hj]
    show(Ba s2 j).2.2 x (by rw[e];show hx) y hy
   .show hb y hy x hx
def Mh.manyB(m:Mh ky a b out na nb)(c:As ky b)(hj:j<=nb)(ha:∀x∈(b.take nb).drop j,∀y∈a.take na,A1 ky y x):Mh ky a b (out++((b.take nb).drop j).reverse) na j:=(m.swap.manyA c hj ha).swap
def TB{l:List Keyed}{x}(h:0<n)(e:l[n-1]?\x):(l.take n).drop (n-1)=[x]:=by
 let hi:n-1<l.length:=by
  let q||q:=cE _ l.length
  .show q
  simp_all
 rw[aH hi]at e;let a:=oI e;rw[drop_take,show n-(n-1)=1 by lia,drop_eq_getElem_cons hi,a];rfl
def Mh.oneA(m:Mh ky a b out na nb)(sa:As ky a)(c:0<na){x}(e:a[na-1]?\x)(hb:∀y∈b.take nb,A1 ky y x):Mh ky a b (out++[x]) (na-1) nb:=by let:=m.manyA sa (Nat.sub_le na 1) (by rw[TB c e];intro z d;rw[bI.mp d];show hb);rw[TB c e]at this;show this
def Mh.oneB(m:Mh ky a b out na nb)(c:As ky b)(d:0<nb){x}(e:b[nb-1]?\x)(ha:∀y∈a.take na,A1 ky y x):Mh ky a b (out++[x]) na (nb-1):=(m.swap.oneA c d e ha).swap
def IT(h:As ky l){x}(c:0<n)(e:l[n-1]?\x):∀y∈l.take n,A1 ky y x:=λy a=>by
 let[i,hi]:=getElem?_of_mem a;rw[getElem?_take]at hi;split at hi
 .show Fs h ⋯ hi e
 .cases hi
theorem Mh.done(m:Mh ky a b out na nb)(sa:As ky a)(c:As ky b)(h:na=0\/nb=0):MDone ky a b (a.take na++b.take nb++out.reverse)where
 perm:=m.perm
 srt:=by
  show cR.mpr {?_,m.srt,λx e y d=>m.le y (mem_reverse.mp d) x (bA.mp e)};let h||h:=h
  .rw[h,take_zero];show(Ba c nb).1
  .rw[h,take_zero,cP];show(Ba sa na).1
theorem Mh.firstB(m:Mh ky a b out na nb)(sa:As ky a)(c:As ky b)(h:∀x∈b.take nb,∀y∈a.take na,A1 ky x y):MDone ky a b (b.take nb++a.take na++out.reverse)where
 perm:=((perm_append_comm).append_right _).trans m.perm
 srt:=cR.mpr {cR.mpr {(Ba c nb).1,(Ba sa na).1,h},m.srt,λx e y d=>m.le y (mem_reverse.mp d) x (bA.mp e).symm}
end
def Km(a:Array Keyed)(n):(a.extract 0 n).toList=a.toList.take n:=by simp
def Nz(a:Array Keyed)(i n):(a.extract i n).toList=(a.toList.take n).drop i:=by rw[Array.toList_extract,drop_take]
section
variable{M:Model}{κ:SortKind}{ky:Keyed->O.α}{mem:Keyed->Prop}
structure MHi(ky:Keyed->O.α)(a b out:Array Keyed)(na nb:Nat):Prop where
 mi:Mh ky a.toList b.toList out.toList na nb
 ha:0<na
 hb:1<nb
 la:na<=a.size
 lb:nb<=b.size
def cy(C:Cmp M A E s κ O ky mem){a b}{st}(hk:kindOf st=κ)(ma:∀x∈a.toList,mem x)(mb:∀x∈b.toList,mem x)(σ:As ky a.toList)(sb:As ky b.toList)(ha:0<a.size)(hb:0<b.size)(h1:∀x y,b.toList[0]?\x->y∈a.toList->A1 ky x y)(h2:∀x∈b.toList,∀y,a.toList[a.size-1]?\y->A1 ky x y)(h:∀m g,MDone ky a.toList b.toList m.toList->R m (CU st g)):wpS M A E s (cv a b) R st:=by
 let la:a.toList.length=a.size:=bR;let lb:b.toList.length=b.size:=bR;let ata:∀i,i<a.size->∃x,a.toList[i]?\x/\mem x:=λi hi=>(by let[x,e,p]:=G6 (l:=a.toList) (i:=i) ⋯;show{x,e,ma x p});let atb:∀i,i<b.size->∃x,b.toList[i]?\x/\mem x:=λi hi=>(by let[x,e,p]:=G6 (l:=b.toList) (i:=i) ⋯;show{x,e,mb x p});let u:∀(out:Array Keyed)na nb g,Mh ky a.toList b.toList out.toList na nb->(na=0\/nb=0)->R (a.extract 0 na++b.extract 0 nb++out.reverse) (CU st g):=λout na nb g m f=>by show h _ g ?_;rw[cJ,cJ,Km,Km,Array.toList_reverse];show m.done σ sb f
 let v:∀(out:Array Keyed)na nb g,Mh ky a.toList b.toList out.toList na nb->nb=1->R (b.extract 0 nb++a.extract 0 na++out.reverse) (CU st g):=λout na nb g m f=>by
  show h _ g ?_;rw[cJ,cJ,Km,Km,Array.toList_reverse];show m.firstB σ sb λx p y G=>?_;let[i,hi]:=getElem?_of_mem p;rw[getElem?_take]at hi;split at hi
  .let:i=0:=(by simp_all);rw[this]at hi;show h1 x y hi (mem_of_mem_take G)
  .cases hi
 show aD (wpS_lift (wpAny_rule #[0,?_]));done<;>let[a0,ab,aq]:=ata (a.size-1) ⋯;show aD (Bx (B7 ab) ?_);let m0:Mh ky a.toList b.toList ([a0].toArray:Array Keyed).toList (a.size-1) b.size:=by let e1:a.toList.take a.size=a.toList:=aZ ⋯;let e2:b.toList.take b.size=b.toList:=aZ ⋯;let:Mh ky a.toList b.toList [] a.size b.size:={by rw[e1,e2];simp,List.Pairwise.nil,λx p=>by cases p};show this.oneA σ ha ab (λy G=>h2 y (by rw[e2]at G;show G) a0 ab)
 show Ak (λf=>aE (u _ _ _ (gallopOf st) m0 (.inl (aV f)))) (λf=>?_);let f:¬a.size-1=0:=by simpa using f
 show Ak (λhw=>aE (v _ _ _ (gallopOf st) m0 (aV hw))) (λhw=>?_);let hw:¬b.size=1:=by simpa using hw
 show aD (wpS_get ?_);show aD (wpS_mono (wpS_forRange (I:=λx c d=>(∃g,d=CU st g)/\∃na nb out mg,c=(none,na,nb,out,mg)/\MHi ky a b out na nb/\na+nb+x+1<=a.size+b.size) (Q:=λc d=>∃m r,c=(some m,r)/\R m d) ?step ?u #[{gallopOf st,0},_,_,_,_,0,{m0,⋯,⋯,(by simp),⋯},⋯]) ?ae)
 case ae=>rintro c d⟨m,r,rfl,hr⟩;show aE hr
 case u=>rintro c d⟨_,na,nb,out,mg,rfl,m,p⟩;let:=m.ha;let:=m.hb;lia
 case step=>
  rintro x c d _ p⟨⟨g,rfl⟩,na,nb,out,mg,rfl,m,af⟩;show aD (wpS_mono (wpS_forRange (I:=λy c d=>d=CU st g/\∃na nb out D B,c=(none,na,nb,out,D,B)/\MHi ky a b out na nb/\na+nb+x+1+y<=a.size+b.size) (Q:=λc d=>(∃m r,c=(some m,r)/\R m d)\/(d=CU st g/\∃na nb out D B,c=(none,na,nb,out,D,B)/\MHi ky a b out na nb/\na+nb+x+1<=a.size+b.size)) ?a2 ?ai {0,_,_,_,_,_,0,m,⋯}) ?a4)
  case ai=>rintro c d⟨_,na,nb,out,D,B,rfl,m,p⟩;let:=m.ha;let:=m.hb;lia
  case a2=>rintro y c d _ G⟨rfl,na,nb,out,D,B,rfl,m,aj⟩;let N:=m.ha;let aa:=m.hb;let a8:=m.la;let a7:=m.lb;let[xa,ea,a6]:=ata (na-1) ⋯;let[xb,eb,a5]:=atb (nb-1) ⋯;show aD (Bx (B7 eb) (aD (Bx (B7 ea) (aD (C.ask _ _ a5 a6 _ _ hk ?_)))));cases ag:O.blt (ky xb) (ky xa)with
   |true=>
    show Ak (λ_=>?_) (λhn=>bS rfl hn);let w:=m.mi.oneA σ N ea λz f=>KeyOrd.kle_trans (IT sb ⋯ eb z f) (KeyOrd.kle_of_klt ag);rw[<-Array.toList_push]at w;show aD (Bx (B7 ea) ?_);show Ak (λf=>aE (.inl {_,_,0,u _ _ _ g w (.inl (aV f))})) (λf=>?_);let f:¬na-1=0:=by simpa using f
    show Ak (λ_=>aE (.inr {0,na-1,nb,_,_,_,0,{w,⋯,aa,⋯,a7},⋯})) (λ_=>aE {0,na-1,nb,_,_,_,0,{w,⋯,aa,⋯,a7},⋯})|false=>
    show Ak (λhn=>by cases hn) (λ_=>?_);let w:=m.mi.oneB sb ⋯ eb λz f=>KeyOrd.kle_trans (IT σ N ea z f) ag;rw[<-Array.toList_push]at w;show aD (Bx (B7 eb) ?_);show Ak (λf=>aE (.inl {_,_,0,v _ _ _ g w (aV f)})) (λf=>?_);let f:¬nb-1=1:=by simpa using f
    show Ak (λ_=>aE (.inr {0,na,nb-1,_,_,_,0,{w,N,⋯,a8,⋯},⋯})) (λ_=>aE {0,na,nb-1,_,_,_,0,{w,N,⋯,a8,⋯},⋯})
  case a4=>
   rintro c d(⟨w,r,rfl,hr⟩|⟨rfl,na,nb,out,D,B,rfl,m,af⟩)
   .show aE #[w,_,0,hr]
   show aD (wpS_lift (wpAny_rule #[0,?_]));show aD (wpS_mono (wpS_forRange (I:=λy c d=>(∃g,d=CU st g)/\∃na nb out mg D B,c=(none,na,nb,out,mg,D,B)/\MHi ky a b out na nb/\na+nb+x+1+2*y<=a.size+b.size) (Q:=λc d=>(∃m r,c=(some m,r)/\R m d)\/((∃g,d=CU st g)/\∃na nb out mg D B,c=(none,na,nb,out,mg,D,B)/\MHi ky a b out na nb/\na+nb+x+2<=a.size+b.size)) ?a1 ?ah #[#[g,0],_,_,_,_,_,_,0,m,⋯]) ?a3)
   case ah=>rintro c d⟨_,na,nb,out,mg,D,B,rfl,m,p⟩;let:=m.ha;let:=m.hb;lia
   case a3=>
    rintro c d(⟨w,r,rfl,hr⟩|⟨⟨g,rfl⟩,na,nb,out,mg,D,B,rfl,m,af⟩)
    .show aE #[w,_,0,hr]
    .show aD (Kj (aE #[#[_,0],na,nb,_,_,0,m,⋯]))
   case a1=>
    rintro y c d _ G⟨⟨g,rfl⟩,na,nb,out,mg,D,B,rfl,m,aj⟩;let N:=m.ha;let aa:=m.hb;let a8:=m.la;let a7:=m.lb;let[xb,eb,a5]:=atb (nb-1) ⋯
    extract_lets-merge c1 c2 c3 c4 c5 c6 c7 c8 c9 ap ao an jp am
    show S8 λz=>?_;subst am jp an ao ap c9 c8 c7 c6 c5 c4 c3 c2 c1;dsimp-zeta only;show aD (Kj ?_);show aD (Bx (B7 eb) (aD (Nx (base:=0) (n:=na) (hint:=na-1) C hk a5 ma (λi j x y _ a9 _ e1 e2=>Fs σ a9 e1 e2) (by simp_all) ⋯ λk k1 k2 k3=>?_)));let m1:=m.mi.manyA σ k1 λx p z f=>by rw[drop_take]at p;let[i,hi,e]:=Kk p;show KeyOrd.kle_trans (IT sb ⋯ eb z f) (KeyOrd.kle_of_klt (k3 (k+i) x ⋯ ⋯ (by rw[Nat.zero_add];show e)))
    let up:∀z∈a.toList.take k,A1 ky z xb:=λz f=>by
     let[i,hi]:=getElem?_of_mem f;rw[getElem?_take]at hi;split at hi
     .show k2 i z ⋯ (by rw[Nat.zero_add];show hi)
     .cases hi
    dsimp-zeta only
    extract_lets-merge d1 d2 jp d3 d4
    show Kl (F:=λn o=>jp () n o) (I:=λT o=>¬T=0/\T<=na/\Mh ky a.toList b.toList o.toList T nb/\∀z∈a.toList.take T,A1 ky z xb) (λT o h=>?_) (λkey L=>?_) (λL=>?_)
    .clear m1 up k2 k3;done<;>let[f,as,m1,up]:=h;subst d4 d3 jp d2 d1;dsimp-zeta only;show aD (Bx (B7 eb) ?_);let m2:=m1.oneB sb ⋯ eb up;rw[<-Array.toList_push]at m2;show Ak (λG=>aE (.inl {_,_,0,v _ _ _ _ m2 (aV G)})) (λG=>?_);let G:¬nb-1=1:=λq=>G (beq_iff_eq.mpr q);let[xa,ea,a6]:=ata (T-1) ⋯;show aD (Bx (B7 ea) (aD (Ny (base:=0) (n:=nb-1) (hint:=nb-1-1) C hk a6 mb (λi j x y _ a9 _ e1 e2=>Fs sb a9 e1 e2) ⋯ ⋯ λl l1 l2 l3=>?_)));let ρ:=m2.manyB sb l1 λx p z f=>by rw[drop_take]at p;let[i,hi,e]:=Kk p;show KeyOrd.kle_trans (IT σ ⋯ ea z f) (l3 (l+i) x ⋯ ⋯ (by rw[Nat.zero_add];show e))
     let H:∀z∈b.toList.take l,A1 ky z xa:=λz f=>by
      let[i,hi]:=getElem?_of_mem f;rw[getElem?_take]at hi;split at hi
      .show KeyOrd.kle_of_klt (l2 i z ⋯ (by rw[Nat.zero_add];show hi))
      .cases hi
     dsimp-zeta only
     extract_lets-merge e1 e2 e3 jq e4 e5
     show Kl (F:=λn o=>jq () n o) (I:=λnl o=>¬nl=1/\¬nl=0/\nl<=nb-1/\Mh ky a.toList b.toList o.toList T nl/\∀z∈b.toList.take nl,A1 ky z xa) (λnl o h=>?_) (λkey J=>?_) (λJ=>?_)
     .clear ρ H l2 l3;done<;>let[hw,hv,ar,ρ,H]:=h;subst e5 e4 jq e3 e2 e1;dsimp-zeta only;show aD (Bx (B7 ea) ?_);let m4:=ρ.oneA σ ⋯ ea H;rw[<-Array.toList_push]at m4;show Ak (λhu=>aE (.inl {_,_,0,u _ _ _ _ m4 (.inl (aV hu))})) (λhu=>?_);let hu:¬T-1=0:=by simpa using hu
      show Ak (λ_=>aE (.inr #[#[_,0],T-1,nl,_,_,_,_,0,{m4,⋯,⋯,⋯,⋯},⋯])) (λ_=>aE #[#[_,0],T-1,nl,_,_,_,_,0,{m4,⋯,⋯,⋯,⋯},⋯])
     .let J:0<nb-1-l:=J;rw[<-Nz,<-Array.toList_reverse,<-cJ]at ρ;show Ak (λhw=>aE (.inl {_,_,0,v _ _ _ _ ρ (aV hw)})) (λhw=>Ak (λhv=>aE (.inl {_,_,0,u _ _ _ _ ρ (.inr (aV hv))})) (λhv=>key _ _ {λq=>hw (beq_iff_eq.mpr q),λq=>hv (beq_iff_eq.mpr q),l1,ρ,H}))
     .let J:¬0<nb-1-l:=J;let ak:l=nb-1:=⋯
      clear_value jq
      subst ak;rw[drop_eq_nil_of_le (by rw[aO];lia),reverse_nil,cP]at ρ;show{G,⋯,aQ _,ρ,H}
    .let L:0<na-k:=L;rw[<-Nz,<-Array.toList_reverse,<-cJ]at m1;show Ak (λf=>aE (.inl {_,_,0,u _ _ _ _ m1 (.inl (aV f))})) (λf=>key _ _ {λq=>f (beq_iff_eq.mpr q),k1,m1,up})
    .let L:¬0<na-k:=L;let al:k=na:=⋯
     clear_value jp
     subst al;rw[drop_eq_nil_of_le (by rw[aO];simp_all),reverse_nil,cP]at m1;show{⋯,aQ _,m1,up}
end
theorem TD:∀(m)(c d)(qF:Array Keyed),c+d+m.length<=qF.size->((m.zipIdx d).foldl (λa(q:Keyed×Nat)=>a.setIfInBounds (c+q.2) q.1) qF).toList=qF.toList.take (c+d)++m++qF.toList.drop (c+d+m.length)
 |[],c,d,qF,h=>'2'|x::m,c,d,qF,h=>by
  rw[zipIdx_cons,foldl_cons];simp only[length_cons]at h;rw[TD m c _ _ (by rw[Array.size_setIfInBounds];lia),Array.toList_setIfInBounds];let f:c+d<qF.toList.length:=by rw[bR];lia
  rw[take_set,drop_set,aC ⋯];let e:(qF.toList.take (c+(d+1))).set (c+d) x=qF.toList.take (c+d)++[x]:=by rw[show c+(d+1)=(c+d)+1 by lia,take_add_one,aH f];rw[set_append,aB (by rw[aO];lia),aO,Nat.min_eq_left (aY f),Nat.sub_self];rfl
  rw[e];simp only[length_cons,bK,cons_append,nil_append];rw[show c+(d+1)+m.length=c+d+(m.length+1)by lia]
section
variable{M:Model}{κ:SortKind}{ky:Keyed->O.α}{mem:Keyed->Prop}
def cz{st st'}(h:R ⟨⟩ st'):wpS M A E s (set st':StateT SortSt Sem PUnit) R st:=by unfold wpS;show wP #[0,h]
def bD{P X ρ S:List Keyed}(h:i<X.length):(P++X++ρ++S)[P.length+i]?=X[i]?:=by rw[bK,bK,getElem?_append_right ⋯,Nat.add_sub_cancel_left,getElem?_append_left h]
def bE{P X ρ S:List Keyed}(h:i<ρ.length):(P++X++ρ++S)[P.length+X.length+i]?=ρ[i]?:=by rw[bK,getElem?_append_right (by rw[aG];lia),aG,Nat.add_sub_cancel_left,getElem?_append_left h]
def bF(C:Cmp M A E s κ O ky mem){sa na Q sb nb a6}{P X ρ S}{st}(σ:kindOf st=κ)(hf:failedOf st=none)(T:∀x∈(arrOf st).toList,mem x)(e:(arrOf st).toList=P++X++ρ++S)(lP:P.length=sa)(lX:X.length=na)(lY:ρ.length=nb)(h0:0<na)(h1:0<nb)(G:As ky X)(D:As ky ρ)(p1:(pendingOf st)[i]?\(sa,na,Q))(p2:(pendingOf st)[i+1]?\(sb,nb,a6))(aa:sb=sa+na)(h:∀Z qF g,Z.Perm (X++ρ)->As ky Z->qF.toList=P++Z++S->R true (SortSt.mk' κ qF (((pendingOf st).setIfInBounds i (sa,na+nb,Q)).eraseIdxIfInBounds (i+1)) g none)):wpS M A E s (mergeAt' i) R st:=by
 obtain⟨y0,I⟩:∃y,ρ[0]?\y:={ρ[0],aH (by simp only[*])};obtain⟨xl,L⟩:∃y,X[na-1]?\y:={X[na-1],aH (by omega)};subst lP;subst aa;let eX:∀i,i<na->(arrOf st).toList[P.length+i]?=X[i]?:=λi hi=>by rw[e];show bD (by simp only[*])
 let eY:∀i,i<nb->(arrOf st).toList[P.length+na+i]?=ρ[i]?:=λi hi=>by rw[e,<-lX];show bE ⋯
 let ab:(arrOf st).size=P.length+na+nb+S.length:=by let:=aT length e;rw[bR]at this;simp only[aG]at this;simp only[*]
 let a4:(arrOf st).toList[P.length+na]?\y0:=by let:=eY 0 h1;rw[Nat.add_zero]at this;rw[this];show I
 show aD (wpS_get ?_);rw[p1,p2];show aD ?_;show cz ?_;show aD (Bx (B7 a4) (aD (Nx C σ (T y0 (aM a4)) T (λi j x y hi a9 hj r N=>?_) ⋯ h0 λk k1 k2 k3=>?_)))
 .rw[show i=P.length+(i-P.length)by simp_all,eX _ ⋯]at r;rw[show j=P.length+(j-P.length)by lia,eX _ ⋯]at N;show Fs G ⋯ r N
 let H:∀x∈X.take k,A1 ky x y0:=λx c=>by
  let[i,hi]:=getElem?_of_mem c;rw[getElem?_take]at hi;split at hi
  .show k2 i x ‹_› (by rw[eX i ⋯];show hi)
  .cases hi
 let a8:∀x∈X.drop k,A1 ky y0 x:=λx c=>by
  let[i,hi,e]:=IS c;let hl:i<X.length:=by
   let q||q:=cE i X.length
   .show q
   .rw[bQ q]at e;cases e
  show KeyOrd.kle_of_klt (k3 i x hi (by simp_all) (by rw[eX i ⋯];show e))
 let u:=λy v=>G5 D I y (~~~v);let f:=λc=>h (X++ρ) 'G' (gallopOf st) (List.Perm.refl _) (cR.mpr #[G,D,c]) (by rw[e,bK P X ρ])
 let a3:SortSt.mk' κ 'G' (((pendingOf st).setIfInBounds i (P.length,na+nb,Q)).eraseIdxIfInBounds (i+1)) (gallopOf st) none=SortSt.mk' (kindOf st) 'G' (((pendingOf st).setIfInBounds i (P.length,na+nb,Q)).eraseIdxIfInBounds (i+1)) (gallopOf st) (failedOf st):=by rw[σ,hf]
 show Ak (λp=>aE ?_) (λp=>?_)
 .let p:=aV p;rw[a3]at f;show f λx c y v=>KeyOrd.kle_trans (H x ?_) (u y v);rw[aZ (by cutsat)];show c
 let p:¬na-k=0:=by simpa using p
 let a5:(arrOf st).toList[P.length+k+(na-k)-1]?\xl:=by rw[show P.length+k+(na-k)-1=P.length+(na-1)by lia,eX _ ⋯];show L
 show aD (Bx (B7 a5) (aD (Ny C σ (T xl (aM a5)) T (λi j x y hi a9 hj r N=>?_) (by simp_all) ⋯ λl l1 l2 l3=>?_)))
 .rw[show i=P.length+na+(i-(P.length+na))by simp_all,eY _ ⋯]at r;rw[show j=P.length+na+(j-(P.length+na))by lia,eY _ ⋯]at N;show Fs D ⋯ r N
 let a0:=λx c=>IT G h0 L x (by rw[aZ (by cutsat)];show c);let a7:∀y∈ρ.take l,A1 ky y xl:=λx c=>by
  let[i,hi]:=getElem?_of_mem c;rw[getElem?_take]at hi;split at hi
  .show KeyOrd.kle_of_klt (l2 i x ‹_› (by rw[eY i ⋯];show hi))
  .cases hi
 let a2:∀y∈ρ.drop l,A1 ky xl y:=λx c=>by
  let[i,hi,e]:=IS c;let hl:i<ρ.length:=by
   let q||q:=cE i ρ.length
   .show q
   .rw[bQ q]at e;cases e
  show l3 i x hi ⋯ (by rw[eY i ⋯];show e)
 show Ak (λv=>aE ?_) (λv=>?_)
 .let v:=aV v;rw[a3]at f;show f λx c y o=>KeyOrd.kle_trans (a0 x c) (a2 y (by rw[v];show o))
 let v:¬l=0:=by simpa using v
 let ex:((arrOf st).extract (P.length+k) (P.length+na)).toList=X.drop k:=by rw[Nz,e,bK,bK,take_append,aZ ⋯,Nat.add_sub_cancel_left,take_append,aZ ⋯,<-lX,Nat.sub_self,take_zero,cP,drop_append,drop_eq_nil_of_le ⋯,Nat.add_sub_cancel_left];rfl
 let J:((arrOf st).extract (P.length+na) (P.length+na+l)).toList=ρ.take l:=by rw[Nw,e,bK,drop_append,drop_eq_nil_of_le (by rw[aG];simp_all),aG,lX,Nat.sub_self,nil_append,drop_zero,take_append_of_le_length (by simp only[*])]
 let sx:((arrOf st).extract (P.length+k) (P.length+na)).size=na-k:=by rw[<-bR,ex,length_drop];simp only[*]
 let sy:((arrOf st).extract (P.length+na) (P.length+na+l)).size=l:=by rw[<-bR,J,aO];simp_all
 let a1:∀(m:Array Keyed)g,MDone ky ((arrOf st).extract (P.length+k) (P.length+na)).toList ((arrOf st).extract (P.length+na) (P.length+na+l)).toList m.toList->R true (SortSt.mk' (kindOf st) (m.toList.zipIdx.foldl (λa(q:Keyed×Nat)=>a.setIfInBounds (P.length+k+q.2) q.1) 'G') (((pendingOf st).setIfInBounds i (P.length,na+nb,Q)).eraseIdxIfInBounds (i+1)) g (failedOf st)):=λm g d=>by
  rw[ex,J]at d;rw[σ,hf];let lm:m.toList.length=na-k+l:=by rw[d.perm.length_eq,aG,length_drop,aO];simp_all
  let B:∀z∈m.toList,z∈X.drop k\/z∈ρ.take l:=λz p=>bA.mp (d.perm.mem_iff.mp p);show h (X.take k++(m.toList++ρ.drop l)) _ g ?_ ?_ ?_
  .let p3:(m.toList++ρ.drop l).Perm (X.drop k++ρ):=by let:=d.perm.append_right (ρ.drop l);rw[bK,take_append_drop]at this;show this
   let p4:=p3.append_left (X.take k);rw[<-bK (X.take k) (X.drop k) ρ,take_append_drop]at p4;show p4
  .show cR.mpr {(Ba G k).1,cR.mpr {d.srt,(Ba D l).2.1,λx c y o=>?_},λx c y o=>?_}
   .let z||z:=B x c
    .show KeyOrd.kle_trans (a0 x (mem_of_mem_drop z)) (a2 y o)
    .show(Ba D l).2.2 x z y o
   .let z||z:=bA.mp o
    .let z||z:=B y z
     .show(Ba G k).2.2 x c y z
     .show KeyOrd.kle_trans (H x c) (u y (mem_of_mem_take z))
    .show KeyOrd.kle_trans (H x c) (u y (mem_of_mem_drop z))
  .let:=TD m.toList (P.length+k) 0 'G' ⋯;rw[this,Nat.add_zero,lm,e];let r:(P++X++ρ++S).take (P.length+k)=P++X.take k:=by rw[bK,bK,take_append,aZ ⋯,Nat.add_sub_cancel_left,take_append_of_le_length ⋯]
   let N:(P++X++ρ++S).drop (P.length+k+(na-k+l))=ρ.drop l++S:=by rw[show P.length+k+(na-k+l)=(P++X).length+l by rw[aG];lia,bK,drop_append,drop_eq_nil_of_le ⋯,Nat.add_sub_cancel_left,nil_append,drop_append_of_le_length ⋯]
   rw[r,N];simp only[bK]
 let mx:∀z∈((arrOf st).extract (P.length+k) (P.length+na)).toList,mem z:=λz p=>T z (by rw[ex]at p;rw[e];simp[mem_of_mem_drop p]);let my:∀z∈((arrOf st).extract (P.length+na) (P.length+na+l)).toList,mem z:=λz p=>T z (by rw[J]at p;rw[e];simp[mem_of_mem_take p]);let first:∀x y,((arrOf st).extract (P.length+na) (P.length+na+l)).toList[0]?\x->y∈((arrOf st).extract (P.length+k) (P.length+na)).toList->A1 ky x y:=λx y r o=>by rw[J,getElem?_take,aC (by simp_all),I]at r;cases r;rw[ex]at o;show a8 y o
 let w:∀x∈((arrOf st).extract (P.length+na) (P.length+na+l)).toList,∀y,((arrOf st).extract (P.length+k) (P.length+na)).toList[((arrOf st).extract (P.length+k) (P.length+na)).size-1]?\y->A1 ky x y:=λx c y r=>by rw[sx,ex,getElem?_drop,show k+(na-k-1)=na-1 by lia,L]at r;cases r;rw[J]at c;show a7 x c
 show Ak (λ_=>aD (cx C (by show σ) mx my (by rw[ex];show(Ba G k).2.1) (by rw[J];show(Ba D l).1) (by rw[sx];lia) (by rw[sy];lia) first w λm g d=>?_)) (λ_=>aD (cy C (by show σ) mx my (by rw[ex];show(Ba G k).2.1) (by rw[J];show(Ba D l).1) (by rw[sx];lia) (by rw[sy];lia) first w λm g d=>?_))
 all_goals
  show aD (wpS_modify ?_);show aD (wpS_get (aE ?_));let:=a1 m g d;let hn:(failedOf st).isNone=true:=by rw[hf];rfl
  change R (failedOf st).isNone _;rw[hn];show this
end
section
variable{M:Model}{κ:SortKind}{ky:Keyed->O.α}{mem:Keyed->Prop}
def Kx(ky:Keyed->O.α)(qF:Array Keyed)(i:Nat):O.α:=(ky (qF.getD i (Value.none,Value.none)))
def DO(ky:Keyed->O.α)(lo n:Nat)(qF:Array Keyed):Prop:=(∀i j,i<=j->j<n->O.kle (Kx ky qF (lo+i)) (Kx ky qF (lo+j)))
def Df(ky:Keyed->O.α)(lo n:Nat)(qF:Array Keyed):Prop:=(∀i j,i<=j->j<n->O.kle (Kx ky qF (lo+j)) (Kx ky qF (lo+i)))
def IU{p q}(h:p[i]?=q[j]?):Kx ky p i=Kx ky q j:=by unfold Kx;simp_all
def N0{p}(a:j<=p.size)(k):Kx ky (mirror p i j ((j-i)/2)) k=if i<=k/\k<j then Kx ky p (i+j-1-k)else Kx ky p k:=by
 let e:=getElem?_mirror_all (i:=i) a k;split
 .rw[aC ‹_›]at e;show IU e
 .rw[aB ‹_›]at e;show IU e
def TJ{p}(c:j<=p.size)(a:∀k,i<=k->k<j->Kx ky p k=Kx ky p (j-1))(k):Kx ky (mirror p i j ((j-i)/2)) k=Kx ky p k:=by rw[N0 c];grind
def TK{p}(h:i<p.size):∃x,p[i]?\x/\x∈p.toList/\Kx ky p i=ky x:=by show{p[i],getElem?_pos _ i h,'2',?_};unfold Kx;simp_all
structure From(lo:Nat)(p q:Array Keyed):Prop where
 perm:q.Perm p
 low:∀i,i<lo->q[i]?=p[i]?
def From.refl{p}:From lo p p:={Array.Perm.refl _,λ_ _=>rfl}
def From.trans{p q r}(h:From lo p q)(g:From lo q r):From lo p r:={g.perm.trans h.perm,λi hi=>(g.low i hi).trans (h.low i hi)}
def From.size{p q}(h:From lo p q):q.size=p.size:=by let:=(Array.perm_iff_toList_perm.mp h.perm).length_eq;assumption
def From.mirror{p}(hi:lo<=i)(hj:j<=p.size):From lo p (mirror p i j ((j-i)/2)):={mirror_perm _ _ _ _,λk a=>by rw[getElem?_mirror_all hj,aB ⋯]}
def From.mems{p q}(h:From lo p q)(hm:∀x∈p.toList,mem x):∀x∈q.toList,mem x:=λx a=>hm x ((Array.perm_iff_toList_perm.mp h.perm).mem_iff.mp a)
def N1(C:Cmp M A E s κ O ky mem){st}(e:kindOf st=κ)(a:∀x∈(arrOf st).toList,mem x)(hi:i<(arrOf st).size)(f:j<(arrOf st).size)(h:R (some (O.blt (Kx ky 'G' i) (Kx ky 'G' j))) st):wpS M A E s (ltAt' i j) R st:=by let[x,l,d,k1]:=TK hi;let[y,g,c,k2]:=TK f;rw[k1,k2]at h;show aD (wpS_get (aD (Bx l (aD (Bx g (C.ask _ _ (a x d) (a y c) _ _ e h))))))
def G7(C:Cmp M A E s κ O ky mem){st}(e:O.blt (Kx ky 'G' i) (Kx ky 'G' j)=b)(c:kindOf st=κ)(a:∀x∈(arrOf st).toList,mem x)(hi:i<(arrOf st).size)(d:j<(arrOf st).size)(h:R (some b) st):wpS M A E s (ltAt' i j) R st:=N1 C c a hi d (by simp_all)
def El{st}(h:R () (setArr st (mirror 'G' i j ((j-i)/2)))):wpS M A E s (reverseSlice' i j) R st:=by show wpS_modify h
def IV{a nrem}{st}(F:Nat->Option (Option Nat)×Nat->StateT SortSt Sem (ForInStep (Option (Option Nat)×Nat)))(r:∀x n(q),1<=n->n<nrem->q (if O.blt (Kx ky qF (lo+n)) (Kx ky qF (lo+n-1))=true then .done (none,n)else .yield (none,n+1)) st->wpS M A E s (F x (none,n)) q st)(h1:1<=a)(p:a<=nrem)(d:DO ky lo a qF)(h:∀n,a<=n->n<=nrem->DO ky lo n qF->(n=nrem\/O.klt (Kx ky qF (lo+n)) (Kx ky qF (lo+n-1)))->R (none,n) st):wpS M A E s (forIn [a:nrem] (none,a) F) R st:=by
 show wpS_forRange (I:=λx c f=>f=st/\c=(none,x)/\DO ky lo x qF) ?_ ?_ #[0,0,d]
 .rintro x c f l g⟨rfl,rfl,d⟩;show r x x _ ⋯ g ?_;cases e:O.blt _ (Kx ky qF _)with
  |true=>show h x l ⋯ d (.inr e)|false=>
   show{0,0,λi j o v=>?_};by_cases m:j=x
   .subst m;by_cases hi:i=j
    .subst hi;show KeyOrd.kle_refl _
    .let u:O.kle (Kx ky qF (lo+(j-1))) (Kx ky qF (lo+j)):=by rw[show lo+(j-1)=lo+j-1 by lia];show e
     show KeyOrd.kle_trans (d i _ ⋯ ⋯) u
   .show d i j o ⋯
 .rintro c f⟨rfl,rfl,d⟩;rw[Nat.max_eq_right p]at d⊢;show h nrem p (aQ _) d (.inl rfl)
def bG(C:Cmp M A E s κ O ky mem){st}(hk:kindOf st=κ)(hm:∀x∈(arrOf st).toList,mem x)(h1:1<=nrem)(hz:lo+nrem<=(arrOf st).size)(h:∀m qF,From lo 'G' qF->1<=m->m<=nrem->DO ky lo m qF->R (some m) (setArr st qF)):wpS M A E s (countRun' lo nrem) R st:=by
 let body:∀(qF:Array Keyed),From lo 'G' qF->∀n,1<=n->n<nrem->∀{R':Option Bool->SortSt->Prop},R' (some (O.blt (Kx ky qF (lo+n)) (Kx ky qF (lo+n-1)))) (setArr st qF)->wpS M A E s (ltAt' (lo+n) (lo+n-1)) R' (setArr st qF):=λqF d n H B R' p=>N1 C hk (d.mems hm) (by change lo+n<qF.size;rw[d.size];lia) (by change lo+n-1<qF.size;rw[d.size];lia) p
 let tail:∀(qF:Array Keyed)(n:Nat),From lo 'G' qF->1<=n->n<=nrem->Df ky lo n qF->DO ky lo n (mirror qF lo (lo+n) ((lo+n-lo)/2)):=λqF n d H B g i j f hj=>by
  let hs:lo+n<=qF.size:=by rw[d.size];lia
  rw[N0 hs,N0 hs,aC ⋯,aC (by simp_all),show lo+(lo+n)-1-(lo+i)=lo+(n-1-i)by lia,show lo+(lo+n)-1-(lo+j)=lo+(n-1-j)by lia];show g _ _ ⋯ ⋯
 let T:∀(qF:Array Keyed)(n q:Nat),From lo 'G' qF->n<=nrem->q+1<=n->(∀i,n-(q+1)<=i->i<n->Kx ky qF (lo+i)=Kx ky qF (lo+n-1))->∀k,Kx ky (mirror qF (lo+n-(q+1)) (lo+n) ((lo+n-(lo+n-(q+1)))/2)) k=Kx ky qF k:=λqF n q d B y u k=>by show TJ (by rw[d.size];lia) (λk k1 k2=>?_) k;rw[show k=lo+(k-lo)by lia];show u (k-lo) ⋯ ⋯
 show aD (IV (ky:=ky) (lo:=lo) (qF:=arrOf st) _ (λx n R' H B p=>?_) (aQ 1) h1 (λi j f hj=>by rw[show i=j by simp_all];show KeyOrd.kle_refl _) λn H B hs a8=>?_)
 .show aD (body 'G' From.refl n H B ?_);cases e:O.blt (Kx ky 'G' (lo+n)) (Kx ky 'G' (lo+n-1))with
  |true=>rw[e,aC rfl]at p;show aE p|false=>rw[e,aB '2']at p;show aE p
 show Ak (λu=>aE (h n 'G' From.refl H B hs)) (λu=>?_);let u:¬n=nrem:=by simpa using u
 let a6:=a8.resolve_left u;show Ak (λhn=>?_) (λhn=>?_)
 .show aD (N1 C hk hm ⋯ ⋯ ?_);cases a5:O.blt (Kx ky 'G' lo) (Kx ky 'G' (lo+n-1))with
  |true=>show Ak (λ_=>aE (h n 'G' From.refl H B hs)) (λz=>bS rfl z)|false=>
   show Ak (λz=>by cases z) (λ_=>?_);show aD (El ?_);let all:∀k,k<n->Kx ky 'G' (lo+k)=Kx ky 'G' (lo+n-1):=λk hk=>by let a1:=hs 0 k ⋯ hk;let a2:=hs k (n-1) ⋯ ⋯;rw[show lo+(n-1)=lo+n-1 by lia]at a2;show KeyOrd.kle_antisymm a2 (KeyOrd.kle_trans a5 a1)
   let N:From lo 'G' (mirror 'G' lo (lo+n) ((lo+n-lo)/2)):=From.mirror (aQ _) ⋯;let ek:∀k,Kx ky (mirror 'G' lo (lo+n) ((lo+n-lo)/2)) k=Kx ky 'G' k:=TJ ⋯ λk k1 k2=>by rw[show k=lo+(k-lo)by simp_all];show all _ ⋯
   let g:Df ky lo (n+1) (mirror 'G' lo (lo+n) ((lo+n-lo)/2)):=λi j f hj=>by
    rw[ek,ek];by_cases aa:j=n
    .subst aa;by_cases hi:i=j
     .subst hi;show KeyOrd.kle_refl _
     .rw[all i ⋯];show KeyOrd.kle_of_klt a6
    .rw[all i ⋯,all j ⋯];show KeyOrd.kle_refl _
   change wpS M A E s _ R (setArr st (mirror 'G' lo (lo+n) ((lo+n-lo)/2)));generalize mirror 'G' lo (lo+n) ((lo+n-lo)/2)=r at N g⊢;show aD (wpS_lift (wpAny_rule #[0,?_]));show aD (wpS_mono (wpS_forRange (I:=λx c o=>∃qF q,c=(none,x,q)/\o=setArr st qF/\From lo 'G' qF/\Df ky lo x qF/\q+1<=x/\∀i,x-(q+1)<=i->i<x->Kx ky qF (lo+i)=Kx ky qF (lo+x-1)) (Q:=λc o=>∃qF m q,c=(none,m,q)/\o=setArr st qF/\From lo 'G' qF/\Df ky lo m qF/\1<=m/\m<=nrem/\q+1<=m/\∀i,m-(q+1)<=i->i<m->Kx ky qF (lo+i)=Kx ky qF (lo+m-1)) ?st ?fi {r,(0),0,0,N,g,⋯,λi h1 h2=>by congr 1;lia}) ?po)
   case fi=>rintro c o⟨qF,q,rfl,rfl,d,g,y,u⟩;rw[Nat.max_eq_right ⋯]at*;show{qF,nrem,q,0,0,d,g,⋯,⋯,y,u}
   case st=>rintro x c o a7 a4⟨qF,q,rfl,rfl,d,g,y,u⟩;show aD (body qF d x ⋯ a4 ?_);cases e1:O.blt (Kx ky qF (lo+x)) (Kx ky qF (lo+x-1))with
    |true=>
     show Ak (λ_=>?_) (λz=>bS rfl z);let ρ:∀arr':Array Keyed,(∀k,Kx ky arr' k=Kx ky qF k)->Df ky lo (x+1) arr':=λarr' a0 i j f hj=>by
      rw[a0,a0];by_cases G:j=x
      .subst G;by_cases hi:i=j
       .subst hi;show KeyOrd.kle_refl _
       .let e2:O.kle (Kx ky qF (lo+j)) (Kx ky qF (lo+(j-1))):=by rw[show lo+(j-1)=lo+j-1 by lia];show KeyOrd.kle_of_klt e1
        show KeyOrd.kle_trans e2 (g i (j-1) ⋯ ⋯)
      .show g i j f ⋯
     show Ak (λD=>aD (El (aE {_,(0),0,0,d.trans (From.mirror ⋯ ?_),ρ _ (T qF x q d ⋯ y u),⋯,λi h1 h2=>by congr 1;lia}))) (λD=>aE {qF,(0),0,0,d,ρ qF dF,⋯,λi h1 h2=>by congr 1;lia});change lo+x<=qF.size;rw[d.size];lia|false=>
     show Ak (λz=>by cases z) (λ_=>?_);let σ:lo+x<qF.size:=by rw[d.size];lia
     cases e2:O.blt (Kx ky qF (lo+x-1)) (Kx ky qF (lo+x))with
     |true=>show aD (G7 C e2 hk (d.mems hm) (by change lo+x-1<qF.size;lia) σ ?_);show Ak (λ_=>aE {qF,x,q,0,0,d,g,⋯,⋯,y,u}) (λz=>bS rfl z)|false=>
      show aD (G7 C e2 hk (d.mems hm) (by change lo+x-1<qF.size;lia) σ ?_);let ex:Kx ky qF (lo+x)=Kx ky qF (lo+x-1):=O.total _ _ e1 e2;show Ak (λz=>by cases z) (λ_=>aE {qF,q+1,0,0,d,λi j f hj=>?_,⋯,λi i1 i2=>?_})
      .by_cases G:j=x
       .subst G;by_cases hi:i=j
        .subst hi;show KeyOrd.kle_refl _
        .rw[ex,show lo+j-1=lo+(j-1)by lia];show g i (j-1) ⋯ ⋯
       .show g i j f ⋯
      .rw[show lo+(x+1)-1=lo+x by simp];by_cases hi:i=x
       .rw[hi]
       .rw[ex];show u i (by simp_all) ⋯
   case po=>
    rintro c o⟨qF,m,q,rfl,rfl,d,g,L,J,y,u⟩;show Ak (λD=>aD (El ?_)) (λD=>?_)
    .let w:=d.trans (From.mirror (i:=lo+m-(q+1)) (j:=lo+m) ⋯ (by rw[d.size];lia));let a3:Df ky lo m (mirror qF (lo+m-(q+1)) (lo+m) ((lo+m-(lo+m-(q+1)))/2)):=λi j f hj=>by rw[T qF m q d J y u,T qF m q d J y u];show g i j f hj
     change wpS M A E s _ R (setArr st (mirror qF (lo+m-(q+1)) (lo+m) ((lo+m-(lo+m-(q+1)))/2)));generalize mirror qF (lo+m-(q+1)) (lo+m) ((lo+m-(lo+m-(q+1)))/2)=l at w a3⊢;show aD (El ?_);let v:=w.trans (From.mirror (i:=lo) (j:=lo+m) (aQ lo) (by rw[w.size];lia));show aD (IV (ky:=ky) (lo:=lo) (qF:=mirror l lo (lo+m) ((lo+m-lo)/2)) _ (λx n R' H B p=>?_) L J (tail l m w L J a3) λn' a b c _=>aE (h n' _ v (aR L a) b c));show aD (body _ v n H B ?_);cases e:O.blt (Kx ky (mirror l lo (lo+m) ((lo+m-lo)/2)) (lo+n)) (Kx ky (mirror l lo (lo+m) ((lo+m-lo)/2)) (lo+n-1))with|true=>rw[e,aC rfl]at p;show aE p|false=>rw[e,aB '2']at p;show aE p
    .show aD (El ?_);let v:=d.trans (From.mirror (i:=lo) (j:=lo+m) (aQ lo) (by rw[d.size];lia));show aD (IV (ky:=ky) (lo:=lo) (qF:=mirror qF lo (lo+m) ((lo+m-lo)/2)) _ (λx n R' H B p=>?_) L J (tail qF m d L J g) λn' a b c _=>aE (h n' _ v (aR L a) b c));show aD (body _ v n H B ?_);cases e:O.blt (Kx ky (mirror qF lo (lo+m) ((lo+m-lo)/2)) (lo+n)) (Kx ky (mirror qF lo (lo+m) ((lo+m-lo)/2)) (lo+n-1))with|true=>rw[e,aC rfl]at p;show aE p|false=>rw[e,aB '2']at p;show aE p
 .let a9:n=1:=⋯;subst a9;let N:From lo 'G' 'G':=From.refl;let g:Df ky lo (1+1) 'G':=λi j f hj=>by
   by_cases hi:i=j
   .subst hi;show KeyOrd.kle_refl _
   .let h0:i=0:=⋯;let h1:j=1:=⋯;subst h0;subst h1;show KeyOrd.kle_of_klt a6
  obtain⟨r,N,g,e0⟩:∃r,From lo 'G' r/\Df ky lo (1+1) r/\r=arrOf st:=#[_,N,g,0];show(show wpS M A E s _ R (setArr st r)->_ fromλhh=>by rw[e0]at hh;show hh) ?_;show aD (wpS_lift (wpAny_rule #[0,?_]));show aD (wpS_mono (wpS_forRange (I:=λx c o=>∃qF q,c=(none,x,q)/\o=setArr st qF/\From lo 'G' qF/\Df ky lo x qF/\q+1<=x/\∀i,x-(q+1)<=i->i<x->Kx ky qF (lo+i)=Kx ky qF (lo+x-1)) (Q:=λc o=>∃qF m q,c=(none,m,q)/\o=setArr st qF/\From lo 'G' qF/\Df ky lo m qF/\1<=m/\m<=nrem/\q+1<=m/\∀i,m-(q+1)<=i->i<m->Kx ky qF (lo+i)=Kx ky qF (lo+m-1)) ?st ?fi {r,(0),0,0,N,g,⋯,λi h1 h2=>by congr 1;lia}) ?po)
  case fi=>rintro c o⟨qF,q,rfl,rfl,d,g,y,u⟩;rw[Nat.max_eq_right ⋯]at*;show{qF,nrem,q,0,0,d,g,⋯,⋯,y,u}
  case st=>rintro x c o a7 a4⟨qF,q,rfl,rfl,d,g,y,u⟩;show aD (body qF d x ⋯ a4 ?_);cases e1:O.blt (Kx ky qF (lo+x)) (Kx ky qF (lo+x-1))with
   |true=>
    show Ak (λ_=>?_) (λz=>bS rfl z);let ρ:∀arr':Array Keyed,(∀k,Kx ky arr' k=Kx ky qF k)->Df ky lo (x+1) arr':=λarr' a0 i j f hj=>by
     rw[a0,a0];by_cases G:j=x
     .subst G;by_cases hi:i=j
      .subst hi;show KeyOrd.kle_refl _
      .let e2:O.kle (Kx ky qF (lo+j)) (Kx ky qF (lo+(j-1))):=by rw[show lo+(j-1)=lo+j-1 by lia];show KeyOrd.kle_of_klt e1
       show KeyOrd.kle_trans e2 (g i (j-1) ⋯ ⋯)
     .show g i j f ⋯
    show Ak (λD=>aD (El (aE {_,(0),0,0,d.trans (From.mirror (i:=lo+x-(q+1)) (j:=lo+x) ⋯ ?_),ρ _ (T qF x q d ⋯ y u),⋯,λi h1 h2=>by congr 1;lia}))) (λD=>aE {qF,(0),0,0,d,ρ qF dF,⋯,λi h1 h2=>by congr 1;lia});change lo+x<=qF.size;rw[d.size];lia|false=>
    show Ak (λz=>by cases z) (λ_=>?_);let σ:lo+x<qF.size:=by rw[d.size];lia
    cases e2:O.blt (Kx ky qF (lo+x-1)) (Kx ky qF (lo+x))with
    |true=>show aD (G7 (st:=setArr st qF) C e2 hk (d.mems hm) (by change lo+x-1<qF.size;lia) σ ?_);show Ak (λ_=>aE {qF,x,q,0,0,d,g,⋯,⋯,y,u}) (λz=>bS rfl z)|false=>
     show aD (G7 (st:=setArr st qF) C e2 hk (d.mems hm) (by change lo+x-1<qF.size;lia) σ ?_);let ex:Kx ky qF (lo+x)=Kx ky qF (lo+x-1):=O.total _ _ e1 e2;show Ak (λz=>by cases z) (λ_=>aE {qF,q+1,0,0,d,λi j f hj=>?_,⋯,λi i1 i2=>?_})
     .by_cases G:j=x
      .subst G;by_cases hi:i=j
       .subst hi;show KeyOrd.kle_refl _
       .rw[ex,show lo+j-1=lo+(j-1)by lia];show g i (j-1) ⋯ ⋯
      .show g i j f ⋯
     .rw[show lo+(x+1)-1=lo+x by lia];by_cases hi:i=x
      .rw[hi]
      .rw[ex];show u i ⋯ ⋯
  case po=>
   rintro c o⟨qF,m,q,rfl,rfl,d,g,L,J,y,u⟩;show Ak (λD=>aD (El ?_)) (λD=>?_)
   .let w:=d.trans (From.mirror (i:=lo+m-(q+1)) (j:=lo+m) ⋯ (by rw[d.size];lia));let a3:Df ky lo m (mirror qF (lo+m-(q+1)) (lo+m) ((lo+m-(lo+m-(q+1)))/2)):=λi j f hj=>by rw[T qF m q d J y u,T qF m q d J y u];show g i j f hj
    change wpS M A E s _ R (setArr st (mirror qF (lo+m-(q+1)) (lo+m) ((lo+m-(lo+m-(q+1)))/2)));generalize mirror qF (lo+m-(q+1)) (lo+m) ((lo+m-(lo+m-(q+1)))/2)=l at w a3⊢;show aD (El ?_);let v:=w.trans (From.mirror (i:=lo) (j:=lo+m) (aQ lo) (by rw[w.size];lia));show aD (IV (ky:=ky) (lo:=lo) (qF:=mirror l lo (lo+m) ((lo+m-lo)/2)) _ (λx n R' H B p=>?_) L J (tail l m w L J a3) λn' a b c _=>aE (h n' _ v (aR L a) b c));show aD (body _ v n H B ?_);cases e:O.blt (Kx ky (mirror l lo (lo+m) ((lo+m-lo)/2)) (lo+n)) (Kx ky (mirror l lo (lo+m) ((lo+m-lo)/2)) (lo+n-1))with|true=>rw[e,aC rfl]at p;show aE p|false=>rw[e,aB '2']at p;show aE p
   .show aD (El ?_);let v:=d.trans (From.mirror (i:=lo) (j:=lo+m) (aQ lo) (by rw[d.size];lia));show aD (IV (ky:=ky) (lo:=lo) (qF:=mirror qF lo (lo+m) ((lo+m-lo)/2)) _ (λx n R' H B p=>?_) L J (tail qF m d L J g) λn' a b c _=>aE (h n' _ v (aR L a) b c));show aD (body _ v n H B ?_);cases e:O.blt (Kx ky (mirror qF lo (lo+m) ((lo+m-lo)/2)) (lo+n)) (Kx ky (mirror qF lo (lo+m) ((lo+m-lo)/2)) (lo+n-1))with|true=>rw[e,aC rfl]at p;show aE p|false=>rw[e,aB '2']at p;show aE p
end
section
variable{M:Model}{κ:SortKind}{ky:Keyed->O.α}{mem:Keyed->Prop}
def bH{p}{a d}(c:a<p.size)(f:d<=a)(k):Kx ky (bubble p a d) k=if k=a-d then Kx ky p a else if a-d<k/\k<=a then Kx ky p (k-1)else Kx ky p k:=by
 let e:=getElem?_bubble c d f k;split
 .rw[aC ‹_›]at e;show IU e
 .rw[aB ‹_›]at e;split
  .rw[aC ‹_›]at e;show IU e
  .rw[aB ‹_›]at e;show IU e
def bJ{st}(h:R () (setArr st (bubble 'G' i (i-j)))):wpS M A E s (moveDown' i j) R st:=by show wpS_modify h
def eB(C:Cmp M A E s κ O ky mem){st}(T:kindOf st=κ)(N:∀x∈(arrOf st).toList,mem x)(hok:ok<=n)(hz:lo+n<=(arrOf st).size)(hs:DO ky lo ok 'G')(h:∀qF,From lo 'G' qF->DO ky lo n qF->R true (setArr st qF)):wpS M A E s (binarySort' lo n ok) R st:=by
 show aD (wpS_mono (wpS_forRange (I:=λk c a=>∃qF,c=(none,())/\a=setArr st qF/\From lo 'G' qF/\DO ky lo (min k n) qF) (Q:=λc a=>∃qF,c=(none,())/\a=setArr st qF/\From lo 'G' qF/\DO ky lo n qF) ?step ?G {arrOf st,0,0,From.refl,?v}) ?u)
 case u=>rintro c a⟨qF,rfl,rfl,g,d⟩;show aE (h qF g d)
 case v=>
  intro i j m hj;by_cases h0:ok=0
  .rw[show i=j by lia];show KeyOrd.kle_refl _
  .show hs i j m ⋯
 case G=>
  rintro c a⟨qF,rfl,rfl,g,d⟩;show#[qF,0,0,g,?_]
  rwa[show min (max (max ok 1) n) n=n by lia]at d
 case step=>
  rintro k c a a3 a0⟨qF,rfl,rfl,g,d⟩;rw[show min k n=k by lia]at d;let e:lo+k<qF.size:=by rw[g.size];lia
  show aD (wpS_mono (wpS_forRange (I:=λx c a=>a=setArr st qF/\∃l r,c=(none,l,r)/\l<=r/\r<=k/\r-l<=k-x/\(∀i,i<l->O.kle (Kx ky qF (lo+i)) (Kx ky qF (lo+k)))/\∀i,r<=i->i<k->O.klt (Kx ky qF (lo+k)) (Kx ky qF (lo+i))) (Q:=λc a=>a=setArr st qF/\∃l r,c=(none,l,r)/\l<=k/\(∀i,i<l->O.kle (Kx ky qF (lo+i)) (Kx ky qF (lo+k)))/\∀i,l<=i->i<k->O.klt (Kx ky qF (lo+k)) (Kx ky qF (lo+i))) ?B ?H {0,(0),k,0,⋯,⋯,⋯,λi hi=>(by simp_all),λi h1 h2=>⋯}) ?D)
  case H=>rintro c a⟨rfl,l,r,rfl,h1,h2,h3,q,p⟩;let:l=r:=⋯;subst this;show#[0,l,l,0,h2,q,p]
  case B=>
   rintro x c a _ hx⟨rfl,l,r,rfl,h1,h2,h3,q,p⟩;show Ak (λw=>aE ?_) (λw=>?_)
   .let w:=w;let:l=r:=⋯;subst this;show#[0,l,l,0,h2,q,p]
   .let w:=w;let f:lo+(l+r)/2<qF.size:=⋯;cases o:O.blt (Kx ky qF (lo+k)) (Kx ky qF (lo+(l+r)/2))with
    |true=>show aD (G7 C o T (g.mems N) e f ?_);show Ak (λ_=>aE {0,l,(l+r)/2,0,⋯,⋯,⋯,q,λi L i2=>KeyOrd.klt_of_klt_of_kle o (d _ _ L i2)}) (λz=>bS rfl z)|false=>show aD (G7 C o T (g.mems N) e f ?_);show Ak (λz=>by cases z) (λ_=>aE {0,(l+r)/2+1,r,0,⋯,⋯,⋯,λi L=>KeyOrd.kle_trans (d i ((l+r)/2) ⋯ ⋯) o,p})
  case D=>
   rintro c a⟨rfl,l,r,rfl,h2,q,p⟩;show aD (bJ (aE {_,0,0,g.trans {bubble_perm _ _ _,λi hi=>?_},?_}))
   .change(bubble qF (lo+k) (lo+k-(lo+l)))[i]?=_;rw[getElem?_bubble e _ (by simp),aB ⋯,aB ⋯]
   .change DO ky lo (min (k+1) n) (bubble qF (lo+k) (lo+k-(lo+l)));rw[show min (k+1) n=k+1 by lia];let J:∀i,i<=k->Kx ky (bubble qF (lo+k) (lo+k-(lo+l))) (lo+i)=if i=l then Kx ky qF (lo+k)else if l<i then Kx ky qF (lo+(i-1))else Kx ky qF (lo+i):=λi hi=>by
     rw[bH e (by simp),show lo+k-(lo+k-(lo+l))=lo+l by lia];by_cases o:i=l
     .rw[aC (by simp only[*]),aC o]
     .rw[aB (by simp_all),aB o];by_cases σ:l<i
      .rw[aC (by simp_all),aC σ,show lo+i-1=lo+(i-1)by lia]
      .rw[aB (by simp_all),aB σ]
    intro i j m hj;rw[J i ⋯,J j ⋯];by_cases a1:i=l
    .rw[aC a1];by_cases y:j=l
     .rw[aC y];show KeyOrd.kle_refl _
     .rw[aB y,aC ⋯];show KeyOrd.kle_of_klt (p (j-1) ⋯ ⋯)
    .rw[aB a1];by_cases a2:l<i
     .rw[aC a2,aB ⋯,aC ⋯];show d _ _ ⋯ ⋯
     .rw[aB a2];by_cases y:j=l
      .rw[aC y];show q i ⋯
      .rw[aB y];by_cases ρ:l<j
       .rw[aC ρ];show d _ _ ⋯ ⋯
       .rw[aB ρ];show d _ _ m ⋯
noncomputable def Bc(ky:Keyed->O.α):List (Nat×Nat×Nat)->List (List Keyed)->Nat->Prop
 |[],[],_=>True|q::p,r::rs,b=>q.1=b/\q.2.1=r.length/\0<r.length/\As ky r/\Bc ky p rs (b+r.length)|_,_,_=>False
theorem Bc.len:∀{p}{rs}{b},Bc ky p rs b->p.length=rs.length|[],[],_,_=>rfl|q::p,r::rs,b,h=>by simp[Bc.len h.2.2.2.2]|[],_::_,_,h=>h.elim|_::_,[],_,h=>h.elim
theorem Bc.few:∀{p}{rs}{b},Bc ky p rs b->rs.length<=rs.flatten.length|[],[],_,_=>'2'|q::p,r::rs,b,h=>by let:=Bc.few h.2.2.2.2;let:=h.2.2.1;simp only[length_cons,flatten_cons,aG];lia|[],_::_,_,h=>h.elim|_::_,[],_,h=>h.elim
theorem Bc.snoc:∀{p}{rs}{b},Bc ky p rs b->∀{r}{q},q.1=b+rs.flatten.length->q.2.1=r.length->0<r.length->As ky r->Bc ky (p++[q]) (rs++[r]) b
 |[],[],b,_,r,q,h1,h2,c,a=>{by assumption,h2,c,a,trivial}|q'::p,d::rs,b,h,r,q,h1,h2,c,a=>{h.1,h.2.1,h.2.2.1,h.2.2.2.1,Bc.snoc h.2.2.2.2 (by rw[h1];simp only[flatten_cons,aG];lia) h2 c a}|[],_::_,_,h,_,_,_,_,_,_=>h.elim|_::_,[],_,h,_,_,_,_,_,_=>h.elim
theorem Bc.pow{f:Nat->Nat}:∀{p}{rs}{b i},Bc ky p rs b->Bc ky (p.modify i λq=>(q.1,q.2.1,f q.2.2)) rs b
 |[],[],_,i,_=>by simp_all|q::p,r::rs,b,0,h=>h|q::p,r::rs,b,i+1,h=>{h.1,h.2.1,h.2.2.1,h.2.2.2.1,Bc.pow h.2.2.2.2}|[],_::_,_,_,h=>h.elim|_::_,[],_,_,h=>h.elim
theorem Bc.split:∀{p}{rs}{b}(i),Bc ky p rs b->i+1<p.length->∃a X ρ c e d,rs=a++X::ρ::c/\p[i]?\(b+a.flatten.length,X.length,e)/\p[i+1]?\(b+a.flatten.length+X.length,ρ.length,d)/\0<X.length/\0<ρ.length/\As ky X/\As ky ρ/\∀Z,As ky Z->Z.length=X.length+ρ.length->Bc ky ((p.set i (b+a.flatten.length,X.length+ρ.length,e)).eraseIdx (i+1)) (a++Z::c) b
 |q::s::p,r::o::rs,b,0,h,_=>by let[h1,h2,l,j,n,m,x,w,v]:=h;let[J,I,H]:=q;let[c1,c2,c3]:=s;subst h1;subst h2;subst n;subst m;show{[],r,o,rs,H,c3,0,'2','2',l,x,j,w,λZ g f=>?_};show{'2',by simp[f],⋯,g,by rw[f,<-Nat.add_assoc];show v}|q::p,r::rs,b,i+1,h,hi=>by
  let[h1,h2,l,j,u]:=h;let[a,X,ρ,c,e,d,G,E,D,C,B,A,z,y]:=Bc.split i u (~~~hi);show{r::a,X,ρ,c,e,d,by rw[G];rfl,?_,?_,C,B,A,z,λZ g f=>?_}
  .rw[getElem?_cons_succ,E,flatten_cons,aG,Nat.add_assoc]
  .rw[getElem?_cons_succ,D,flatten_cons,aG,Nat.add_assoc b]
  .let:=y Z g f;show#[h1,h2,l,j,?_];rw[flatten_cons,aG,<-Nat.add_assoc];show this|[],_,_,_,_,hi=>by simp at hi|[_],_,_,0,_,hi=>by simp at hi|_::_,[],_,_,h,_=>h.elim|_::_::_,[_],_,0,h,_=>h.2.2.2.2.elim
def DO.srt(h:DO ky lo n qF)(hz:lo+n<=qF.size):As ky ((qF.toList.drop lo).take n):=by
 show pairwise_iff_getElem.mpr λi j hi hj f=>?_;let c:i<n:=by rw[aO]at hi;lia
 let a:j<n:=by rw[aO]at hj;lia
 let e:∀k(d),k<n->ky ((qF.toList.drop lo).take n)[k]=Kx ky qF _:=λk d hn=>by unfold Kx;rw[Array.getD_eq_getD_getElem?,getElem?_pos qF (lo+k) ⋯];simp
 change O.kle _ _;rw[e i hi c,e j hj a];show h i j ⋯ a
end
section
variable{M:Model}{κ:SortKind}{ky:Keyed->O.α}{mem:Keyed->Prop}
structure Rn(κ:SortKind)(ky:Keyed->O.α)(a0:Array Keyed)(st:SortSt)(rs:List (List Keyed))(qE:List Keyed):Prop where
 kind:kindOf st=κ
 failed:failedOf st=none
 perm:(arrOf st).Perm a0
 eq:(arrOf st).toList=rs.flatten++qE
 pend:Bc ky (pendingOf st).toList rs 0
variable{a0:Array Keyed}{st:SortSt}{rs:List (List Keyed)}{qE:List Keyed}
def Rn.mems(r:Rn κ ky a0 st rs qE)(hm:∀x∈a0.toList,mem x):∀x∈(arrOf st).toList,mem x:=λx a=>hm x ((Array.perm_iff_toList_perm.mp r.perm).mem_iff.mp a)
def Rn.size(r:Rn κ ky a0 st rs qE):(arrOf st).size=a0.size:=by let:=(Array.perm_iff_toList_perm.mp r.perm).length_eq;assumption
def Rn.psize(r:Rn κ ky a0 st rs qE):(pendingOf st).size=rs.length:=by rw[<-r.pend.len,bR]
set_option tactic.hygienic true in
def Rn.merge(C:Cmp M A E s κ O ky mem)(r:Rn κ ky a0 st rs qE)(hm:∀x∈a0.toList,mem x)(hi:i+1<rs.length)(h:∀st' d,Rn κ ky a0 st' d qE->d.flatten.length=rs.flatten.length->d.length+1=rs.length->R true st'):wpS M A E s (mergeAt' i) R st:=by
 done<;>let[c,X,ρ,e,q,p,f,o,n,z,y,w,v,u]:=r.pend.split i (by rw[r.pend.len];show hi);rw[Nat.zero_add,Array.getElem?_toList]at o n;let a:(arrOf st).toList=c.flatten++X++ρ++(e.flatten++qE):=by rw[r.eq,f];simp[bK]
 show bF C r.kind r.failed (r.mems hm) a rfl rfl rfl z y w v o n rfl λZ qF g j sz m=>?_;let l:Z.length=X.length+ρ.length:=by rw[j.length_eq,aG]
 show h _ (c++Z::e) #[0,0,?_,?_,?_] ?_ ?_
 .show Array.Perm.trans (Array.perm_iff_toList_perm.mpr ?_) r.perm;rw[m,a];show List.Perm.append_right _ ?_;rw[bK];show j.append_left _
 .rw[m];simp[bK]
 .let:=u Z sz l;rw[Nat.zero_add]at this;rw[Array.eraseIdxIfInBounds_eq];split
  .rw[Array.toList_eraseIdx,Array.toList_setIfInBounds];show this
  .rename_i hn;rw[Array.size_setIfInBounds,r.psize]at hn;simp_all
 .rw[f];simp[l];lia
 .rw[f];simp;lia
def eC(C:Cmp M A E s κ O ky mem)(hk:kindOf st=κ)(hf:failedOf st=none)(hp:pendingOf st=#[])(ρ:∀x∈(arrOf st).toList,mem x)(h:∀st',(arrOf st').Perm 'G'->failedOf st'=none->As ky (arrOf st').toList->R () st'):wpS M A E s sortRuns' R st:=by
 let r0:Rn κ ky 'G' st [] (arrOf st).toList:={hk,hf,Array.Perm.refl _,0,by rw[hp];trivial};show aD (wpS_get ?_);show aD (wpS_mono (wpS_forRange (I:=λx c st'=>∃rs qE,c=(none,rs.flatten.length)/\Rn κ ky 'G' st' rs qE/\(x<=rs.flatten.length\/(arrOf st).size<=rs.flatten.length)) (Q:=λc st'=>∃rs qE,c=(none,rs.flatten.length)/\Rn κ ky 'G' st' rs qE/\(arrOf st).size<=rs.flatten.length) ?step ?G {[],_,0,r0,.inl (cD _)}) ?L)
 case G=>rintro c st'⟨rs,qE,rfl,r,B⟩;show{rs,qE,0,r,B.elim (λB=>aR (Nat.le_max_right _ _) B) id}
 case L=>
  rintro c st'⟨rs,qE,rfl,r,B⟩;let hl:qE=[]:=by let:=aT length r.eq;rw[bR,r.size,aG]at this;show cN ⋯
  subst hl;let a7:=r.pend.few;let a3:rs.flatten.length=(arrOf st).size:=by let:=aT length r.eq;rw[bR,r.size,cP]at this;show this.symm
  show aD (wpS_mono (wpS_forRange (I:=λy c st'=>∃rs,c=(none,())/\Rn κ ky 'G' st' rs []/\(rs.length<=(arrOf st).size-y\/rs.length<=1)) (Q:=λc st'=>∃rs,c=(none,())/\Rn κ ky 'G' st' rs []/\rs.length<=1) ?st ?fi {rs,0,r,.inl (by simp_all)}) ?po)
  case po=>
   rintro c st'⟨rs,rfl,r,h1⟩;show aE (h st' r.perm r.failed ?_);rw[r.eq,cP];let v:=r.pend;generalize(pendingOf st').toList=pl at v
   match rs,h1,pl,v with|[],_,_,_=>show List.Pairwise.nil|[x],_,[q],v=>simpa using v.2.2.2.1
  case fi=>
   rintro c st'⟨rs,rfl,r,h1⟩;show#[rs,0,r,?_];let h1||h1:=h1
   .let:max 0 (arrOf st).size=(arrOf st).size:=Nat.max_eq_right (cD _);let h1:=h1;simp_all
   .show h1
  case st=>
   rintro y c st' _ hy⟨rs,rfl,r,h1⟩;show aD (wpS_get ?_);let σ:=r.psize;show Ak (λu=>aE #[rs,0,r,?_]) (λu=>?_)
   .let u:=u;simp_all
   .let u:=u;let G:∀i,i+1<rs.length->wpS M A E s (mergeAt' i) (λb p=>b=true/\∃o,Rn κ ky 'G' p o []/\o.length+1=rs.length) st':=λi hi=>r.merge C ρ hi λp o r' _ h2=>#[0,o,r',h2];show aD (wpS_mono (G _ ?_) ?_)
    .let q1:(pendingOf st').size-2-1+1<rs.length:=⋯;let q2:(pendingOf st').size-2+1<rs.length:=⋯
     repeat' split
     all_goals first|show q1|show q2
    .rintro b p⟨rfl,o,r',h2⟩;show Ak (λz=>by cases z) (λ_=>aE #[o,0,r',?_]);lia
 case step=>
  rintro x c st' _ B⟨rs,qE,rfl,r,a8⟩;let a3:rs.flatten.length+qE.length=(arrOf st).size:=by let:=aT length r.eq;rw[bR,r.size,aG]at this;show this.symm
  let B:x<(arrOf st).size:=B;show Ak (λu=>aE #[rs,qE,0,r,u]) (λu=>?_);let u:¬rs.flatten.length≥(arrOf st).size:=u;let after:∀(n:Nat)(qF:Array Keyed),From rs.flatten.length (arrOf st') qF->1<=n->rs.flatten.length+n<=(arrOf st).size->DO ky rs.flatten.length n qF->Rn κ ky 'G' (setArr st' qF) rs (qF.toList.drop rs.flatten.length)/\As ky ((qF.toList.drop rs.flatten.length).take n)/\qF.size=(arrOf st).size:=λn qF w n1 n2 hu=>by
   let H:qF.size=(arrOf st).size:=by rw[w.size,r.size]
   let a0:qF.toList.take rs.flatten.length=rs.flatten:=by
    let e1:qF.toList.take rs.flatten.length=(arrOf st').toList.take rs.flatten.length:=by
     apply ext_getElem?;intro i;rw[getElem?_take,getElem?_take];split
     .rw[Array.getElem?_toList,Array.getElem?_toList];show w.low i ‹_›
     .rfl
    rw[e1,r.eq,take_left]
   show#[{r.kind,r.failed,w.perm.trans r.perm,?_,r.pend},hu.srt (by simp only[*]),H];change qF.toList=_;let:=(take_append_drop rs.flatten.length qF.toList).symm;rw[a0]at this;show this
  show aD (bG C r.kind (r.mems ρ) (by change 1<=(arrOf st).size-rs.flatten.length;lia) (by rw[r.size];change rs.flatten.length+((arrOf st).size-rs.flatten.length)<=_;lia) λm qF w m1 m2 hu=>?_);let m2:m<=(arrOf st).size-rs.flatten.length:=m2;show Ak (λD=>?_) (λD=>?_)
  .let D:m<minRun' (arrOf st).size (arrOf st).size 0:=D;show aD (wpS_lift (wpAny_rule #[0,?_]));show aD (eB C r.kind (w.mems (r.mems ρ)) ⋯ (by change _<=qF.size;rw[w.size,r.size];lia) hu λarr2 a6 a2=>?_);let a5:From rs.flatten.length (arrOf st') arr2:=w.trans a6;show Ak (λz=>by cases z) (λ_=>?_);let[J,s1,H]:=after (min ((arrOf st).size-rs.flatten.length) (minRun' (arrOf st).size (arrOf st).size 0)) arr2 a5 ⋯ ⋯ a2;let T:∀(d:SortSt)(e:List (List Keyed)),Rn κ ky 'G' d e (arr2.toList.drop rs.flatten.length)->e.flatten.length=rs.flatten.length->∃j l,((none:Option Unit),rs.flatten.length+(min ((arrOf st).size-rs.flatten.length) (minRun' (arrOf st).size (arrOf st).size 0)))=(none,j.flatten.length)/\Rn κ ky 'G' (setPending d ((pendingOf d).push (rs.flatten.length,(min ((arrOf st).size-rs.flatten.length) (minRun' (arrOf st).size (arrOf st).size 0)),0))) j l/\(x+1<=j.flatten.length\/(arrOf st).size<=j.flatten.length):=λd e g l2=>by
    let lt:((arr2.toList.drop rs.flatten.length).take (min ((arrOf st).size-rs.flatten.length) (minRun' (arrOf st).size (arrOf st).size 0))).length=(min ((arrOf st).size-rs.flatten.length) (minRun' (arrOf st).size (arrOf st).size 0)):=by let:=bR (xs:=arr2);rw[aO,length_drop];simp_all
    let N:(e++[(arr2.toList.drop rs.flatten.length).take (min ((arrOf st).size-rs.flatten.length) (minRun' (arrOf st).size (arrOf st).size 0))]).flatten.length=rs.flatten.length+(min ((arrOf st).size-rs.flatten.length) (minRun' (arrOf st).size (arrOf st).size 0)):=by rw[flatten_append,aG,l2];simp only[flatten_cons,flatten_nil,cP,lt]
    show{e++[(arr2.toList.drop rs.flatten.length).take (min ((arrOf st).size-rs.flatten.length) (minRun' (arrOf st).size (arrOf st).size 0))],(arr2.toList.drop rs.flatten.length).drop (min ((arrOf st).size-rs.flatten.length) (minRun' (arrOf st).size (arrOf st).size 0)),by rw[N],#[g.kind,g.failed,g.perm,?_,?_],?_}
    .change(arrOf d).toList=_;rw[g.eq];simp only[flatten_append,flatten_cons,flatten_nil,cP,bK,take_append_drop]
    .change Bc ky ((pendingOf d).push (rs.flatten.length,(min ((arrOf st).size-rs.flatten.length) (minRun' (arrOf st).size (arrOf st).size 0)),0)).toList _ 0;rw[Array.toList_push];show g.pend.snoc (by rw[Nat.zero_add,l2]) (by rw[lt]) (by rw[lt];lia) s1
    .rw[N];lia
   show aD (wpS_get ?_);cases hb:(pendingOf (setArr st' arr2)).back? with
   |none=>show aD (wpS_modify (aE (T (setArr st' arr2) rs J rfl)))|some q=>
    let[q1,q2,q3]:=q;show aD (wpS_mono (wpS_forRange (I:=λ_ c d=>∃e,c=(none,())/\Rn κ ky 'G' d e (arr2.toList.drop rs.flatten.length)/\e.flatten.length=rs.flatten.length) (Q:=λc d=>∃e,c=(none,())/\Rn κ ky 'G' d e (arr2.toList.drop rs.flatten.length)/\e.flatten.length=rs.flatten.length) ?a ?b #[rs,0,J,0]) ?c)
    case b=>intro c d hh;show hh
    case c=>rintro c d⟨e,rfl,g,l2⟩;show aD (wpS_modify (aD (wpS_modify (aE (T _ e #[g.kind,g.failed,g.perm,g.eq,?_] l2)))));change Bc ky ((pendingOf d).modify ((pendingOf d).size-1) λq=>(q.1,q.2.1,_)).toList e 0;rw[Array.toList_modify];show g.pend.pow (f:=λ_=>_)
    case a=>rintro y c d _ _⟨e,rfl,g,l2⟩;show aD (wpS_get ?_);let σ:=g.psize;dsimp only;cases he:(if(pendingOf d).size>1 then(pendingOf d)[(pendingOf d).size-2]? else none)with
     |none=>show aE #[e,0,g,l2]|some q=>
      let a4:(pendingOf d).size>1:=by
       by_cases z:(pendingOf d).size>1
       .show z
       .rw[aB z]at he;cases he
      show Ak (λ_=>aE #[e,0,g,l2]) (λ_=>aD (g.merge C ρ ⋯ λa1 j r3 l3 _=>Ak (λz=>by cases z) (λ_=>aE {j,0,r3,by rw[l3,l2]})))
  .let[J,s1,H]:=after m qF w m1 ⋯ hu;let T:∀(d:SortSt)(e:List (List Keyed)),Rn κ ky 'G' d e (qF.toList.drop rs.flatten.length)->e.flatten.length=rs.flatten.length->∃j l,((none:Option Unit),rs.flatten.length+m)=(none,j.flatten.length)/\Rn κ ky 'G' (setPending d ((pendingOf d).push (rs.flatten.length,m,0))) j l/\(x+1<=j.flatten.length\/(arrOf st).size<=j.flatten.length):=λd e g l2=>by
    let lt:((qF.toList.drop rs.flatten.length).take m).length=m:=by let:=bR (xs:=qF);rw[aO,length_drop];simp_all
    let N:(e++[(qF.toList.drop rs.flatten.length).take m]).flatten.length=rs.flatten.length+m:=by rw[flatten_append,aG,l2];simp only[flatten_cons,flatten_nil,cP,lt]
    show{e++[(qF.toList.drop rs.flatten.length).take m],(qF.toList.drop rs.flatten.length).drop m,by rw[N],#[g.kind,g.failed,g.perm,?_,?_],?_}
    .change(arrOf d).toList=_;rw[g.eq];simp only[flatten_append,flatten_cons,flatten_nil,cP,bK,take_append_drop]
    .change Bc ky ((pendingOf d).push (rs.flatten.length,m,0)).toList _ 0;rw[Array.toList_push];show g.pend.snoc (by rw[Nat.zero_add,l2]) (by rw[lt]) (by rw[lt];lia) s1
    .rw[N];lia
   show aD (wpS_get ?_);cases hb:(pendingOf (setArr st' qF)).back? with
   |none=>show aD (wpS_modify (aE (T (setArr st' qF) rs J rfl)))|some q=>
    let[q1,q2,q3]:=q;show aD (wpS_mono (wpS_forRange (I:=λ_ c d=>∃e,c=(none,())/\Rn κ ky 'G' d e (qF.toList.drop rs.flatten.length)/\e.flatten.length=rs.flatten.length) (Q:=λc d=>∃e,c=(none,())/\Rn κ ky 'G' d e (qF.toList.drop rs.flatten.length)/\e.flatten.length=rs.flatten.length) ?a ?b #[rs,0,J,0]) ?c)
    case b=>intro c d hh;show hh
    case c=>rintro c d⟨e,rfl,g,l2⟩;show aD (wpS_modify (aD (wpS_modify (aE (T _ e #[g.kind,g.failed,g.perm,g.eq,?_] l2)))));change Bc ky ((pendingOf d).modify ((pendingOf d).size-1) λq=>(q.1,q.2.1,_)).toList e 0;rw[Array.toList_modify];show g.pend.pow (f:=λ_=>_)
    case a=>rintro y c d _ _⟨e,rfl,g,l2⟩;show aD (wpS_get ?_);let σ:=g.psize;dsimp only;cases he:(if(pendingOf d).size>1 then(pendingOf d)[(pendingOf d).size-2]? else none)with
     |none=>show aE #[e,0,g,l2]|some q=>
      let a4:(pendingOf d).size>1:=by
       by_cases z:(pendingOf d).size>1
       .show z
       .rw[aB z]at he;cases he
      show Ak (λ_=>aE #[e,0,g,l2]) (λ_=>aD (g.merge C ρ ⋯ λa1 j r3 l3 _=>Ak (λz=>by cases z) (λ_=>aE {j,0,r3,by rw[l3,l2]})))
end
open PySem.W
section
variable{κ:SortKind}{ky:Keyed->O.α}
def Ft(h:Heap)(a:Addr)(us:B6):Heap:=(((h.update a (Obj.mapSeq λ_=>#[])).push (seqObj "tuple" us.toArray 0)).push (seqObj "list" #[] 0))
def TL{o}(d:b≠a)(e:h.get? b\o):(Ft h a us).get? b\o:=by let c:=bN e;show(Heap.get?_push_ne _ b _ (by rw[size_push',Heap.size_update];show bX (Nat.lt_succ_of_lt c))).trans ((Heap.get?_push_ne _ b _ (by rw[Heap.size_update];show bX c)).trans ?_);rw[Heap.get?_update_ne _ _ _ _ d];show e
def N2(i:'F' a\(seqObj "list" us.toArray n))(h2:¬us.length<2)(hz:us.length<=16777216)(r:'C' (keyKind' us.toArray) (λκ' s'=>κ'=κ/\s'={s with heap:=Ft s.heap a us}) E {s with heap:=Ft s.heap a us})(u:Cmp (model prog w) A E {s with heap:=Ft s.heap a us} κ O ky (·∈(pairsOf us).toList))(h:∀st:Array Keyed,st.Perm (pairsOf us)->As ky st.toList->F (.done (.ret .none)) {s with heap:=sortedHeap s.heap a us (st.map (·.2))}):'C' (Builtin.«list.sort» {[.ref a],[]}) F E s:=by
 let m:=bN i;let d:us.toArray.size<=sizeLine:=by show hz
 rw[list_sort_plain];show wB (listItems_at i rfl (wB (listUpdate_at i rfl ?_ d (cD _))));let g:=get?_update_seq i (λ_=>#[]);show wB (seqEpoch_at g rfl (wB (wpAny_newTuple (wB (wpAny_newList (bM ?_) (cD _))) d)));let f:(Ft s.heap a us).get? a=_:=(Heap.get?_push_ne _ a _ (by rw[size_push',Heap.size_update];show bX (Nat.lt_succ_of_lt m))).trans ((Heap.get?_push_ne _ a _ (by rw[Heap.size_update];show bX m)).trans g)
 let hz:¬us.toArray.size<2:=by rw[size_toArray];show h2
 rw[aB hz,aB hz];show wB (bL r ?_ λ_ _ e=>e);rintro κ' s'⟨rfl,rfl⟩;let run:=eC (st:=SortSt.mk' κ' (us.toArray.zip us.toArray) #[] 7 none) (R:=λ_ c=>(arrOf c).Perm (pairsOf us)/\failedOf c=none/\As ky (arrOf c).toList) u rfl rfl rfl (λx o=>o) λc z y v=>#[z,y,v];show wB (bL run ?_ λ_ _ e=>e);rintro⟨⟨⟩,c⟩s'⟨rfl,l,q,p⟩;let j:((arrOf c).map (·.2)).size<=sizeLine:=by rw[Array.size_map];let:=(Array.perm_iff_toList_perm.mp l).length_eq;rw[bR,bR,pairsOf_size]at this;rw[this,cU];assumption
 show wB (seqEpoch_at f rfl (wB (listUpdate_at f rfl ?_ (cD _) (Nat.le_succ_of_le j))));rw[q];simp only[bne_self_eq_false,Bool.false_eq_true,if_false];show wP (h _ l p)
def TM(i:s.heap.IsList l us.toArray)(h2:¬us.length<2)(hz:us.length<=16777216)(j:∀(h)(h1),h.units<=A.units+2->(∀b o,'F' b\o->h1.get? b\o)->wpAny (model prog w) h (keyKind' us.toArray) (λκ' s'=>κ'=κ/\s'={s with heap:=h1}) E {s with heap:=h1})(n:∀(h)(h1),h.units<=A.units+2->(∀b o,'F' b\o->h1.get? b\o)->Cmp (model prog w) h E {s with heap:=h1} κ O ky (·∈(pairsOf us).toList))(q:∀st:Array Keyed,st.Perm (pairsOf us)->As ky st.toList->Q (.ref ('H'+1)) {s with heap:=sortedAll s.heap us (st.map (·.2))}):'C' (call (.builtin "sorted") [.ref l]) Q E s:=by
 let g:us.length<=sizeLine:=by rw[cU];show hz
 show Calls.call_function_entry kind_sorted plain_sorted entry_sorted (args_sorted1 _) ?_;show wB (wP (wB (collect_list i (wB (wpAny_newList ?_ g)) g)));let c:((s.heap.push (seqObj "list" #[] 0)).update 'H' (Obj.mapSeq (·++us.toArray))).objs.size='H'+1:=by rw[Heap.size_update,size_push']
 let d:=bP ((s.heap.push (seqObj "list" #[] 0)).update 'H' (Obj.mapSeq (·++us.toArray))) (o:=seqObj "list" us.toArray 0) rfl;rw[c]at d;rw[c];let keep:∀b o,'F' b\o->(((s.heap.push (seqObj "list" #[] 0)).update 'H' (Obj.mapSeq (·++us.toArray))).push (seqObj "list" us.toArray 0)).get? b\o:=λb o e=>by let f:=bN e;show(Heap.get?_push_ne _ b _ (by rw[c];show bX (Nat.lt_succ_of_lt f))).trans ?_;rw[Heap.get?_update_ne _ _ _ _ (bX f)];show(Heap.get?_push_ne _ b _ (bX f)).trans e
 let a:∀b o,'F' b\o->(Ft (((s.heap.push (seqObj "list" #[] 0)).update 'H' (Obj.mapSeq (·++us.toArray))).push (seqObj "list" us.toArray 0)) ('H'+1) us).get? b\o:=λb o e=>TL (bX (Nat.lt_succ_of_lt (bN e))) (keep b o e);show wB (bM (cQ slot_list_sort #[_,d,0] entry_list_sort (N2 d h2 hz (j _ _ '2' a) (n _ _ '2' a) λst r p=>#[_,0,wP {_,0,q st r p}]) (args_list_sort _)))
end
noncomputable def Dv(ps:List (Addr×By)):Keyed->By:=(λk=>match k.1 with
 |.ref x=>((ps.find? λq=>decide (q.1=x)).map (·.2)).getD []|_=>[])
noncomputable def IW{ps}(d:∀q∈ps,∀q'∈ps,q.1=q'.1->q.2=q'.2){q}(c:q∈ps)(v):Dv ps (.ref q.1,v)=q.2:=by cases a:ps.find? λq'=>decide (q'.1=q.1)with
 |none=>show bS (rfl:q.1=q.1) (~~~(find?_eq_none.mp a q c))|some p=>let h1:=find?_some a;let h2:=mem_of_find?_eq_some a;change((ps.find? λq'=>decide _).map _).getD []=q.2;rw[a];show d p h2 q c (~~~h1)
noncomputable abbrev rv(ps:List (Addr×By)):B6:=ps.map λq=>Value.ref q.1
def N3(ps):(pairsOf (rv ps)).toList=ps.map λq=>((Value.ref q.1,Value.ref q.1):Keyed):=by change((rv ps).toArray.zip (rv ps).toArray).toList=_;grind
def IX(h:Heap)(ps:List (Addr×By)):Prop:=(∀q∈ps,∃us,IntsAre us q.2/\∃o n,h.get? q.1\o/\o.cls=.type "tuple"/\o.data=.seq us.toArray n)
def TQ{x y}{st:SortSt}(a:kindOf st=κ)(h:R (some b) st)(q:∀(c:VS)(Q),Q b s->'C' (keyLt' κ x.1 y.1) Q c s):wpS (model prog w) A E s (lt' x y) R st:=by rw[lt'_eq];show aD (wpS_get ?_);rw[a];show aD (wpS_lift (wpAny_attempt (q _ _ {0,aE h})))
theorem TR{ps}(f:IX s.heap ps)(i:∀q∈ps,∀q'∈ps,q.1=q'.1->q.2=q'.2)(g:∀q∈ps,q.2.length=n):Cmp (model prog w) A E s (tuples' true) Fj (Dv ps) (·∈(pairsOf (rv ps)).toList)where
 ask:=λx y e d R st m h=>by rw[N3]at e d;let[p,c,0]:=bU.mp e;let[q,a,0]:=bU.mp d;rw[IW i c,IW i a]at h;show TQ m h λL Q o=>?_;done<;>(let[us,l,C,G,z,J,u]:=f p c;let[vs,j,B,D,v,I,r]:=f q a);let l1:=l.length;let l2:=j.length;let l3:=g p c;let H:=g q a;show kat_lt z u v r ?_;rw[show decide _=false by rw[size_toArray,size_toArray];show cK (by simp_all)];show Yd 0 l j (by simp_all) o
def TU{ps}(e:IX s.heap ps)(a:0<n)(g:∀q∈ps,q.2.length=n)(h2:¬ps.length<2):'C' (keyKind' (rv ps).toArray) (λκ' s'=>κ'=tuples' true/\s'=s) E s:=by let[fs,c,j,h]:=SD e (λq f=>by rw[g q f];show a);show kat_kind (T:=.type "int") c ⋯ (λv d=>?_) rfl #[0,0];let[i,t,0]:=h v d;show Zz _ _ i t
def eD{x y}{d c}(B:A.units<cLine)(j:'F' x\d)(q:d.cls=.type "tuple")(dx:d.data=.seq #[] n)(z:'F' y\c)(p:c.cls=.type "tuple")(o:c.data=.seq #[] k){f:VS}{Q}(h:Q false s):'C' (keyLt' oneType' (.ref x) (.ref y)) Q f s:=by
 rw[keyLt'_oneType];show wB (wpAny_cRoomFor B ?_);let[m,od,u,i]:=d;let[l,pd,r,g]:=c;subst q;subst dx;subst p;subst o;let a:'C' (call _ [.ref x,.ref y]) _ f s:=wpAny_call (codeAny_call_builtin PySem.F.slot_tuple_lt.plain PySem.F.entry_tuple_lt (PySem.F.slot_tuple_lt.check _ _ _ _ _ _ _ _ #[_,j,0] (PySem.F.args_tuple_lt_2 _ _)
   (HT.dL x y #[] #[] n k od pd i g [] [] .nil .nil prog w A (wants (λv s'=>v=.bool false/\s'=s) f) s #[j,z,0,0])))
 show wB (wpAny_callSpecialIfBound?_slot #[_,j,0] PySem.F.slot_tuple_lt (bL a ?_ λ_ _ e=>e));rintro v s'⟨rfl,rfl⟩;show wpAny_truthy_bool h
theorem TV{ps}(j:A.units<cLine)(g:IX s.heap ps)(i:∀q∈ps,∀q'∈ps,q.1=q'.1->q.2=q'.2)(d:∀q∈ps,q.2.length=0):Cmp (model prog w) A E s oneType' Fj (Dv ps) (·∈(pairsOf (rv ps)).toList)where ask:=λx y f e R st l h=>by rw[N3]at f e;let[p,c,0]:=bU.mp f;let[q,a,0]:=bU.mp e;rw[IW i c,IW i a,cN (d p c),cN (d q a)]at h;show TQ l h λM Q m=>?_;done<;>(let[us,G,I,L,C,z,u]:=g p c;let[vs,D,H,J,B,v,r]:=g q a);let l1:=G.length;let l2:=D.length;let o:=cN (by rw[l1,d p c]);let n:=cN (by rw[l2,d q a]);subst o;subst n;show eD j C z u B v r m
def TW{ps}(n:IX s.heap ps)(B:∀q∈ps,q.2.length=0)(h2:¬ps.length<2):'C' (keyKind' (rv ps).toArray) (λκ' s'=>κ'=oneType'/\s'=s) E s:=by
 let h:∀v∈rv ps,∀{l},l (.type "tuple") s->'C' (typeOf v) l E s:=λv g l i=>by let[q,c,0]:=bU.mp g;let[us,u,y,z,m,p,o]:=n q c;show wpAny_typeOf_ref m (by rw[p];show i)
 obtain⟨f,d,qE,e⟩:∃f d qE,rv ps=f::d::qE:=by match ps,h2 with
  |[],h2=>simp at h2|[_],h2=>simp at h2|a::b::r,_=>show#[_,_,_,0]
 rw[kat_kind_eq,mapM_toArray,map_eq_pure_bind];show wB (wB (kas_mapM (r:=none) _ (λv g l i=>?_) (wP ?_)))
 .show wB (h v g ?_);let[q,c,0]:=bU.mp g;let[us,u,y,z,m,p,o]:=n q c;let D:=cN (by rw[u.length,B q c]);subst D;show wB (listItems_at m o (wP i))
 .rw[e];rw[aB '2',aB '2'];rw[<-e,oneTypeOnly'_eq,mapM_toArray,map_eq_pure_bind];show wB (wB (wB (kas_mapM _ (λv g l i=>h v g i) (wP ?_))));let C:(map (λ_=>Value.type "tuple") (rv ps)).toArray[0]?\(.type "tuple"):=by rw[e];simp
  let j:((map (λ_=>Value.type "tuple") (rv ps)).toArray.all λx=>x==Value.type "tuple")=true:=by simp only[all_toArray,all_map,all_eq_true];intro _ _;rfl
  rw[C];simp only[j,dD];show wP (wP #[0,0])
def Ko{ps}(l:∀q∈ps,∀q'∈ps,q.1=q'.1->q.2=q'.2){st:Array Keyed}(i:st.Perm (pairsOf (rv ps)))(f:As (O:=Fj) (Dv ps) st.toList):∃ps',ps'.Perm ps/\CH (ps'.map (·.2))/\st.map (·.2)=(rv ps').toArray:=by
 let c:=Array.perm_iff_toList_perm.mp i;rw[N3]at c
 refine_lift let g:=λk=>((match k.1 with|.ref x=>x|_=>0),Dv ps k);?_
 let m:=λq d=>by change(q.1,Dv ps (Value.ref q.1,Value.ref q.1))=q;rw[IW l d]
 show{st.toList.map g,?_,?_,?_}
 .let:=c.map g;rw[bZ]at this;let e:ps.map (g∘λq=>(Value.ref q.1,Value.ref q.1))=ps:=by
   conv=>rhs;rw[<-map_id ps]
   show cF λq d=>m q d
  rw[e]at this;show this
 .rw[bZ];show List.Pairwise.map _ (λa b h=>h) f
 .apply Array.ext';rw[Array.toList_map];change _=(st.toList.map g).map λq=>Value.ref q.1;rw[bZ];show cF λk j=>?_;let[q,d,0]:=bU.mp (c.mem_iff.mp j);rfl
def TY:dH->Hp->VK->Prop:=(λxs H Q=>∃(p:Addr)(ps:List (Addr×By)),xs=[.ref p]/\H p\(.lst (Dd ps))/\(∀q∈ps,H q.1\(.tup (q.2.map V.int)))/\ps.length<=16777216/\(∃n,∀q∈ps,q.2.length=n)/\∀(l:Addr)(ps':List (Addr×By)),H l=none->ps'.Perm ps->CH (ps'.map (·.2))->Q (.ref l) (AB H l (.lst (Dd ps'))))
def eE{a b:By}(h:a.map V.int=b.map V.int):a=b:=by let:=aT (map λp=>match p with|V.int i=>i|_=>0) h;simpa[Function.comp_def]using this
def TZ{ps:List (Addr×By)}(c:∀q∈ps,H q.1\(.tup (q.2.map V.int))):∀q∈ps,∀q'∈ps,q.1=q'.1->q.2=q'.2:=λq d q' a e=>by
 let h1:=c q d;let h2:=c q' a;rw[e,h2]at h1;injection h1 with h1
 injection h1 with h1
 show(eE h1).symm
def FN(I:'D'){ps}(e:∀q∈ps,H q.1\(.tup (q.2.map V.int)))(k:∀q∈ps,∀o,'F' q.1\o->h1.get? q.1\o):IX h1 ps:=λq a=>by let[us,c,tt,_]:=I.tuple (.of (e q a));let[o,h,g,d,f]:=tt;show{us,HY c,o,d,k q a o h,g,f}
def Ta(B:Room k X.A):BQ X (.builtin "sorted") TY:=by
 rintro qA s U H xs us Q I r⟨p,ps,rfl,d,c,j,⟨n,g⟩,k⟩;let[u,0,y]:=r.one;cases y;let[qG,r,pl,z]:=I.list (.of d);let f:=SC r;subst f;let a:∀ps',ps'.Perm ps->CH (ps'.map (·.2))->EP X qA U Q (.ref ('H'+1)) {s with heap:=sortedAll s.heap (rv ps) (rv ps').toArray}:=λps' h1 h2=>by let[e,C]:=sortedAll_at s.heap (rv ps) (rv ps').toArray;show{.ref ('H'+1),_,I.laid (o:=.lst (Dd ps')) (λb o q=>sortedAll_old q) (cS _) {?_,_,e,NU ps',C},0,k _ ps' (I.hok.fresh (cS _)) h1 h2};rw[aA,h1.length_eq,cU];show j
 by_cases h2:ps.length<2
 .show Zy pl.isList (~~~h2) (a ps (List.Perm.refl _) ?_)
  match ps,h2 with
  |[],_=>show List.Pairwise.nil|[_],_=>show pairwise_singleton _ _
 .let i:=TZ c;let E:=B.un;let e||n0:=Nat.eq_zero_or_pos n
  .subst e;show TM (O:=Fj) pl.isList (~~~h2) (~~~j) (λx h1 _ k1=>TW (FN I c λq _ o e=>k1 _ o e) g h2) (λx h1 D k1=>TV ⋯ (FN I c λq _ o e=>k1 _ o e) i g) λst d l=>?_;let[ps',w,v,m]:=Ko i d l;rw[m];show a ps' w v
  .show TM (O:=Fj) pl.isList (~~~h2) (~~~j) (λx h1 _ k1=>TU (FN I c λq _ o e=>k1 _ o e) n0 g h2) (λx h1 D k1=>TR (FN I c λq _ o e=>k1 _ o e) i g) λst d l=>?_;let[ps',w,v,m]:=Ko i d l;rw[m];show a ps' w v
def N4:pC:=(p1 λx f K=>∃rs:List By,x=.lst (rs.map AZ)/\rs.length<=16777216/\(∃n,∀r∈rs,r.length=n)/\∀rs':List By,rs'.Perm rs->CH rs'->K (.lst (rs'.map AZ)) .nw)
def Tb:Cu TY N4:=λW Y U Hs H Q K xs vs ok st r d q=>by
 unfold N4 p1 at d;split at d
 .let[v,0,rv]:=r.one;let[rs,0,m,[n,i],j]:=d;let[p,us,0,c,h]:=DB ok rv;let[ps,0,e,g]:=Nd h;let o:ps.length=rs.length:=by rw[<-e,aA]
  show{p,ps,0,c,g,(by simp_all),{n,λq f=>i _ (by rw[<-e];show aP f)},λl ps' a h1 h2=>q _ _ _ _ (j _ (by rw[<-e];show h1.map _) h2) (Step.new ok.bag a) ?_};let:=KR (b:=W.b) (Z:=AJ W Y U .nw) λq f=>g q (h1.mem_iff.mp f);rw[show(ps'.map λq=>AZ q.2)=(ps'.map _).map AZ by rw[bZ];rfl]at this;show IA ok st '2' '2' this a
 .show d.elim
def Tc:dH->Hp->VK->Prop:=(λxs H Q=>∃(p:Addr)(ks:List By)(vs:dH),xs=[.ref p]/\H p\(.dT ((ks.map BD).zip vs))/\ks.length=vs.length/\ks.length<=1000000/\(∃n,∀r∈ks,r.length=n)/\∀(l:Addr)(ps':List (Addr×By)),H l=none->(∀q∈ps',H q.1\(.tup (q.2.map V.int)))->(ps'.map (·.2)).Perm ks->CH (ps'.map (·.2))->Q (.ref l) (AB H l (.lst (Dd ps'))))
def eF(hc:X.calm=true)(hr:Room k X.A):BQ X (.builtin "sorted") Tc:=by
 rintro qA s U H xs us Q I r⟨p,ks,vs,rfl,B,T,a5,⟨n,hn⟩,k⟩;let[u,0,ru]:=r.one;cases ru;done<;>let[es,ep,a4,rd,hd,hz,e1,e2,e3]:=Nb I.hok B;rw[map_fst_zip (by rw[aA,T];show aQ _)]at e1;let[ps,a1,a2,a3]:=SO e1;let l:=λq v=>by
  let:=e2 _ (a3 q v);rw[KS]at this;show this
 let er:(es.toList.map (·.key))=rv ps:=by
  rw[e3];let:=aT (map Value.ref) a1;simpa[bZ,Function.comp_def]using this.symm
 let M:ps.length=ks.length:=by rw[<-a2,aA]
 let ρ:es.size=ps.length:=by
  let:=aT length er;simpa using this
 let[m,hm,_]:=I.loc;show kdu_sorted (NZ hd) (I.ok.hd hc) (Att.fr_all hm) (Vz) rd (by rw[ρ,M,cU];lia) λD h' tk G F' N' hD hl hv=>?_;let ew:G=rv ps:=by
  rw[<-er];apply ext_getElem?;intro j;by_cases hj:j<G.length
  .let[σ,e]:=hv j G[j] (by simp[hj]);rw[aH hj,e,bO];simp[σ]
  .rw[bQ ⋯,bQ '4']
 subst ew;let E:=λu e=>aX _ (hD (D,u) (Lx (N' _ cA).2.1 (Att.noObjs_get _ _) e));let C:H D=none:=by
  cases e:H D with
  |none=>rfl
  |some o=>let[u,e2]:=(I.hok D o e).there;show bS e2 (E u)
 let d:=N'.get cA;let a0:X.env.locals≠D:=λz=>(N' _ cA).2.1 z.symm;let w:∀ps',ps'.Perm ps->CH (ps'.map (·.2))->EP X qA U Q (.ref D) { s with heap:=sortedHeap h' D (rv ps) (rv ps').toArray,toks:=tk }:=λps' h1 h2=>by
  let[e,he]:=sortedHeap_at d;let N:(sortedHeap h' D (rv ps) (rv ps').toArray).Ns X.env.locals m:=by
   let[o',x,y,e',rr]:=F'.ns;show{o',x,y,(sortedHeap_old a0 (bN e')).trans e',rr}
  show{.ref D,_,I.laidF (o:=.lst (Dd ps')) hm N (λb u nb eb=>?_) C E {?_,_,e,NU ps',he},0,k D ps' C (λq v=>l q (h1.mem_iff.mp v)) (by rw[<-a2];show h1.map _) h2}
  .let e4:=N'.get (bT _ (Lx nb (Att.noObjs_get _ _) eb));rw[sortedHeap_old (λz=>E u (by rw[<-z];show eb)) (bN e4)];show e4
  .rw[aA,h1.length_eq,cU];lia
 let nL:∀b o,H b\o->b≠X.env.locals:=λb o e z=>by subst z;rw[I.free]at e;cases e
 let c:∀q∈ps,∀o,'F' q.1\o->(Ft h' D (rv ps)).get? q.1\o:=λq v o e =>
  TL (λz=>E o (by rw[<-z];show e)) (N'.get (bT _ (Lx (nL _ _ (l q v)) (Att.noObjs_get _ _) e)))
 by_cases h2:ps.length<2
 .show cQ slot_list_sort #[_,d,0] entry_list_sort (SB d (~~~h2) {_,0,w ps (List.Perm.refl _) ?_}) (args_list_sort _)
  match ps,h2 with
  |[],_=>show List.Pairwise.nil
  |[_],_=>show pairwise_singleton _ _
 .let i:=TZ l;let f:∀q∈ps,q.2.length=n:=λq v=>hn _ (by rw[<-a2];show aP v);let hu:=hr.un;let e||n0:=Nat.eq_zero_or_pos n
  .subst e;show cQ slot_list_sort #[_,d,0] entry_list_sort (N2 (O:=Fj) d (~~~h2) '4' (TW (FN I l c) f h2) (TV '4' (FN I l c) i f) λst B J=>#[_,0,?_]) (args_list_sort _);let[ps',b1,b2,b3]:=Ko i B J;rw[b3];show w ps' b1 b2
  .show cQ slot_list_sort #[_,d,0] entry_list_sort (N2 (O:=Fj) d (~~~h2) '4' (TU (FN I l c) n0 f h2) (TR (FN I l c) i f) λst B J=>#[_,0,?_]) (args_list_sort _);let[ps',b1,b2,b3]:=Ko i B J;rw[b3];show w ps' b1 b2
def N5:pC:=(p1 λx f K=>∃(ks:List By)(xs:dI),x=.dT ks xs/\ks.length<=1000000/\(∃n,∀r∈ks,r.length=n)/\∀rs':List By,rs'.Perm ks->CH rs'->K (.lst (rs'.map AZ)) .nw)
def eG:Cu Tc N5:=λW Y U Hs H Q K xs vs ok st r a q=>by
 unfold N5 p1 at a;split at a
 .let[v,0,rv]:=r.one;let[ks,xs,0,f,i,j]:=a;let[p,us,0,_,o,n,m]:=Gx ok rv;show{p,ks,us,0,o,by rw[n,m.length],f,i,λl ps' e g d c=>q _ _ _ _ (j _ d c) (Step.new ok.bag e) ?_};let h:AC W.b (AJ W Y U .nw) H ((ps'.map (·.2)).map AZ) (Dd ps'):=by let:=KR (b:=W.b) (Z:=AJ W Y U .nw) g;rw[bZ];show this
  show IA ok st '2' '2' h e
 simp_all
end L2
namespace L2
set_option tactic.hygienic true
noncomputable abbrev Tl:=List (By×Int)
def eH(t:Tl)(r)(c)(r'):AY (BW t r c) r'=if r'=r then some c else AY t r':=by
 unfold BW;split
 .rename_i f;by_cases e:r'=r
  .subst e;rw[aC rfl];let[q,hq,e]:=bU.mp f;unfold AY
   induction t with|nil=>simp at hq|cons p t g=>
    rw[map_cons,find?_cons];by_cases a:p.1=r'
    .simp[a]
    .rw[aB a];simp only[a,decide_false];show g ?_ ?_
     .let[z,hz,h]:=bU.mp f
      let 0||hz:=aF.mp hz
      .show bS h a
      .show bU.mpr #[z,hz,h]
     .let 0||hq:=aF.mp hq
      .show bS e a
      .show hq
  .rw[aB e];unfold AY;clear f
   induction t with|nil=>rfl|cons p t g=>
    rw[map_cons,find?_cons,find?_cons];by_cases a:p.1=r
    .rw[aC a];let:¬p.1=r':=λz=>e (by rw[<-z,a]);simp only[this,decide_false];show g
    .rw[aB a];by_cases d:p.1=r'
     .simp[d]
     .simp only[d,decide_false];show g
 .rename_i f;unfold AY;rw[find?_append];by_cases e:r'=r
  .subst e;rw[aC rfl];let:t.find? (λq=>decide (q.1=r'))=none:=find?_eq_none.mpr λq hq=>by simp only[decide_eq_true_eq];showλz=>f (bU.mpr #[q,hq,z])
   rw[this];simp
  .rw[aB e];let:([(r,c)]).find? (λq=>decide (q.1=r'))=none:=by let:¬r=r':=λz=>e z.symm;simp[this]
   rw[this];cases t.find? (λq=>decide (q.1=r'))<;>rfl
def IY{t:Tl}(h:r∉t.map (·.1)):AY t r=none:=by
 unfold AY;rw[find?_eq_none.mpr λq a=>?_]
 .rfl
 .simp only[decide_eq_true_eq];showλz=>h (bU.mpr #[q,a,z])
def eI(t:Tl)(r)(c)(r'):r'∈(BW t r c).map (·.1)↔r'=r\/r'∈t.map (·.1):=by
 rw[Sg];split
 .rename_i h;show{.inr,λz=>z.elim (λz=>z▸h) id}
 .rw[bA,bI,or_comm]
def BM(a:Tl)(q:By×Int):Tl:=(BW a q.1 ((AY a q.1).getD 0+q.2))
def BH(t:Tl):Tl:=(t.foldl BM [])
def cnt(t:Tl)(r:By):Int:=((t.map λq=>if q.1=r then q.2 else 0).sum)
def N6(a)(q)(r):(AY (BM a q) r).getD 0=(AY a r).getD 0+if q.1=r then q.2 else 0:=by
 unfold BM;rw[eH];by_cases e:r=q.1
 .simp_all
 .rw[aB e,aB (λz=>e z.symm)];simp
def Td(t):∀(a:Tl)(r),(AY (t.foldl BM a) r).getD 0=(AY a r).getD 0+cnt t r:=by induction t with|nil=>intro a r;simp[cnt]|cons q t c=>intro a r;rw[foldl_cons,c,N6];unfold cnt;rw[map_cons,sum_cons];lia
def Dw(t)(r):(AY (BH t) r).getD 0=cnt t r:=by unfold BH;rw[Td];simp[AY]
def eJ(t:Tl):∀(a)(r),r∈(t.foldl BM a).map (·.1)↔r∈a.map (·.1)\/r∈t.map (·.1):=by induction t with|nil=>intro a r;simp|cons q t c=>
  intro a r;rw[foldl_cons,c];unfold BM;rw[eI,map_cons,aF];constructor
  .rintro((h|h)|h)
   .show .inr (.inl h)
   .show .inl h
   .show .inr (.inr h)
  .rintro(h|h|h)
   .show .inl (.inr h)
   .show .inl (.inl h)
   .show .inr h
def Kp(t)(r):r∈(BH t).map (·.1)↔r∈t.map (·.1):=by unfold BH;rw[eJ];simp
def Kq(t:Tl):∀a,(t.foldl BM a).length<=a.length+t.length:=by induction t with|nil=>simp|cons q t c=>intro a;let h1:=c (BM a q);let h2:(BM a q).length<=a.length+1:=Kc _ _ _;simp only[foldl_cons,length_cons];lia
def N7(t):(BH t).length<=t.length:=by let:=Kq t [];simpa[BH]using this
noncomputable def IZ(t:Tl):∀a,(a.map (·.1)).Nodup->((t.foldl BM a).map (·.1)).Nodup:=by induction t with
 |nil=>simp|cons q t c=>intro a h;show c _ (Si h)
def FO(t):((BH t).map (·.1)).Nodup:=IZ t [] '2'
def Kr(h:∀q∈t,q.1.length=n):∀q∈BH t,q.1.length=n:=λq a=>by let:q.1∈(BH t).map _:=aP a;let[p,c,e]:=bU.mp ((Kp t q.1).mp this);rw[<-e];show h p c
def CN(t:Tl):Tl:=(((DD (t.map (·.1))).filter λr=>decide (0<(AY t r).getD 0)).map λr=>(r,(AY t r).getD 0))
def N8{t:Tl}(h:∀r,0<=(AY t r).getD 0):CN t=Ar t:=by
 unfold CN Ar
 congr 1
 show filter_congr λr _=>?_;let:=h r;lia
def Fu(h:∀q∈t,0<=q.2)(r):0<=cnt t r:=by
 unfold cnt
 induction t with|nil=>simp|cons q t a=>rw[map_cons,sum_cons];let h1:=a λp c=>h p (bT _ c);let h2:=h q cA;split<;>lia
def N9(t:Tl)(r):(AY (Ar t) r).getD 0=(AY t r).getD 0:=by
 by_cases h:r∈t.map (·.1)/\(AY t r).getD 0≠0
 .let i:(r,(AY t r).getD 0)∈Ar t:=by show bU.mpr {r,cX.mpr {(DE _).mem_iff.mpr h.1,by simpa using h.2},0}
  unfold AY at*;cases c:(Ar t).find? λq=>decide (q.1=r)with|none=>let:=find?_eq_none.mp c _ i;simp at this|some p=>
   let h1:p.1=r:=by simpa using find?_some c
   let h2:=mem_of_find?_eq_some c;let[f,_,e]:=bU.mp h2;rw[<-e]at h1⊢;subst h1;rfl
 .let g:r∉(Ar t).map (·.1):=λz=>by let[q,d,e]:=bU.mp z;let[f,a,j]:=bU.mp d;rw[<-j]at e;subst e;let[h1,h2]:=cX.mp a;show h {(DE _).mem_iff.mp h1,by simpa using h2}
  rw[IY g];by_cases h1:r∈t.map (·.1)
  .let:=Classical.byContradiction λz=>h #[h1,z];rw[this];rfl
  .rw[IY h1]
def OA{t:Tl}(h:(t.map (·.1)).Nodup):((Ar t).map (·.1)).Nodup:=by unfold Ar;rw[bZ,show((λq=>q.1)∘λr=>(r,(AY t r).getD 0))=id from rfl,map_id];show((DE _).nodup_iff.mpr h).filter _
def Te{t:Tl}(h:∀q∈t,q.1.length=n):∀q∈Ar t,q.1.length=n:=λq a=>by let[p,c,e]:=bU.mp (Sq a);rw[<-e];show h p c
def Tf{t:Tl}{q}(h:q∈Ar t):q.2=(AY t q.1).getD 0/\q.2≠0:=by let[r,a,0]:=bU.mp h;simp_all
def Ia{t:Tl}(h:(t.map (·.1)).Nodup):Kh t=t:=by
 let key:∀(t a:Tl),(∀q∈t,q.1∉a.map (·.1))->(t.map (·.1)).Nodup->t.foldl (λa q=>BW a q.1 q.2) a=a++t:=by
  intro t
  induction t with|nil=>intro a _ _;simp|cons q t d=>
   intro a h1 h2;rw[map_cons,bC]at h2;rw[foldl_cons,show BW a q.1 q.2=a++[q]by unfold BW;rw[aB (h1 q cA)]];rw[d _ (λp c=>?_) h2.2]
   .simp
   .rw[cO,bA];rintro(z|z)
    .show h1 p (bT _ c) z
    .let:p.1=q.1:=by simpa using z
     show h2.1 (by rw[<-this];show aP c)
 let:=key t [] '2' h;simpa[Kh]using this
def dO(ss:At)(z:Str):Nat:=(ss.findIdx λx=>decide (x=z))
def G8(h:z∈ss):ss[dO ss z]?\z/\∀m,m<dO ss z->ss[m]?≠some z:=by
 let a:dO ss z<ss.length:=findIdx_lt_length_of_exists {z,h,aK rfl};show{?_,λm d e=>?_}
 .let:=findIdx_getElem (w:=a);rw[aH a];show aT some (aL this)
 .let:=not_of_lt_findIdx d;let[c,f]:=aI.mp e;simp_all
def OB(h:z∈ss):dO ss z<ss.length:=(aI.mp (G8 h).1).1
def An(qI:At)(r:By)(part:At):By:=(part.map λn=>r.getD (dO qI n) 0)
def Bz(qI:At)(t:Tl)(part:At):Tl:=(t.map λq=>(An qI q.1 part,q.2))
def Ib(qI)(r)(part):(An qI r part).length=part.length:=by unfold An;rw[aA]
def OC(qI)(t)(part):(Bz qI t part).length=t.length:=by unfold Bz;rw[aA]
def OD(qI)(t)(part):∀q∈Bz qI t part,q.1.length=part.length:=λq a=>by let[p,_,0]:=bU.mp a;show Ib _ _ _
def OE{part}(h:∀q∈t,0<=q.2):∀q∈Bz qI t part,0<=q.2:=λq a=>by let[p,c,0]:=bU.mp a;show h p c
def BL(qI:At)(t:Tl)(part:At):Tl:=(Ar (BH (Bz qI t part)))
structure Sh(qI:At)(t:Tl)(part:At):Prop where
 len:part.length<=100
 sub:∀n∈part,n∈qI
 few:t.length<=100000
 rows:∀q∈t,q.1.length=qI.length
structure Tal(n:Nat)(t:Tl):Prop where
 few:t.length<=1000
 rows:∀q∈t,q.1.length=n
 pos:∀q∈t,0<q.2
 nd:(t.map (·.1)).Nodup
def Tg{part}(h:∀q∈t,0<=q.2):CN (BH (Bz qI t part))=BL qI t part:=N8 λr=>by rw[Dw];show Fu (OE h) r
theorem Th{t:Tl}(d:t.length<=1000)(h1:∀q∈t,q.1.length=n)(h2:(t.map (·.1)).Nodup)(e:∀r,0<=(AY t r).getD 0):Tal n (Ar t)where
 few:=aR (Nn t) d
 rows:=Te h1
 pos:=λq c=>by let[a,b]:=Tf c;let:=e q.1;lia
 nd:=OA h2
def G9{part}(h:∀q∈t,0<=q.2)(a:t.length<=1000):Tal part.length (BL qI t part):=by
 show Th ?_ (Kr (OD qI t part)) (FO _) λr=>by rw[Dw];show Fu (OE h) r
 show aR (N7 _) (by rw[OC];show a)
def Ic(a b:Tl):List By:=((a.map (·.1)++b.map (·.1)).filter λr=>decide ((AY a r).getD 0≠(AY b r).getD 0))
def Dx(a b:Tl):Option By:=((DD (Ic a b)).head?)
def eK(b)(r):(DD (b::r)).head?\(r.foldl (λm x=>if HT.lexLt x m=true then x else m) b):=by
 let key:∀(r)(b),(r.foldl (λm x=>if HT.lexLt x m=true then x else m) b)∈b::r/\∀x∈b::r,HT.lexLt x (r.foldl (λm x=>if HT.lexLt x m=true then x else m) b)=false:=by
  intro r
  induction r with|nil=>intro b;show{'2',λx hx=>by rw[bI.mp hx];show Hh b}|cons y r g=>
   intro b;rw[foldl_cons];let[h1,h2]:=g _;show{?_,λx hx=>?_}
   .let e||h1:=aF.mp h1
    .rw[e];split<;>simp
    .show bT _ (bT _ h1)
   .generalize r.foldl _ _=m at h1 h2⊢;let a:=h2 _ cA;let 0||hx:=aF.mp hx
    .split at a
     .rename_i f;cases e:HT.lexLt x m
      .rfl
      .let:=Hi _ _ _ f e;rw[this]at a;cases a
     .show a
    .let 0||hx:=aF.mp hx
     .split at a
      .show a
      .rename_i f;cases e:HT.lexLt x m
       .rfl
       .let q||q:=Mq x b m e
        .show bS q f
        .rw[q]at a;cases a
     .show h2 x (bT _ hx)
 let[h1,h2]:=key r b;let c:=DE (b::r);let d:=Ek (b::r);generalize r.foldl (λm x=>if HT.lexLt x m=true then x else m) b=m at h1 h2⊢
 match h:DD (b::r),c,d with
 |[],c,_=>show bS c.length_eq '2'|x::xs,c,d=>
  let j:=h2 x (c.mem_iff.mp cA);let i:HT.lexLt m x=false:=by
   let 0||hm:=aF.mp (c.mem_iff.mpr h1)
   .show Hh m
   .show(cT.mp d).1 m hm
  rw[head?_cons,Fi x m j i]
noncomputable def eL:Option By->P|none=>.non|some r=>AZ r
def BG(a b:At):At:=(a.filter λn=>decide (n∈b))
def HA(a b):(∀n∈BG a b,n∈a)/\∀n∈BG a b,n∈b:={λn c=>(cX.mp c).1,λn c=>by simpa using(cX.mp c).2}
def OF(a b):(BG a b).length<=a.length:=length_filter_le _ _
def Dy(h:Tal n t):∀q∈t,0<=q.2:=λq a=>Int.le_of_lt (h.pos q a)
def Ks{part}(a:Tal qI.length t)(d:part.length<=100)(c:∀n∈part,n∈qI):Sh qI t part:={d,c,aR a.few '3',a.rows}
end L2
variable{ts:List L2.Tl}
namespace L2
noncomputable abbrev FP(a b:Str):Prop:=¬(b.cps.toList<a.cps.toList)
noncomputable abbrev Ie(l:At):Prop:=l.Pairwise FP
def eM{a b c}(h:FP a b)(g:FP b c):FP a c:=λz=>h (List.lt_of_le_of_lt (List.not_lt.mp g) z)
def eO{a b:Str}(h:a.cps.toList=b.cps.toList):a=b:=PyProof.Rows.ext_toList h
def eP{a b}(h:FP a b)(g:FP b a):a=b:=eO (List.le_antisymm (List.not_lt.mp h) (List.not_lt.mp g))
theorem Ti:∀(l:At)(p),risingS p l=true->(p::l).Pairwise FP
 |[],p,_=>pairwise_singleton _ _|x::r,p,h=>by
  rw[risingS,cB]at h;let h1:FP p x:=by let:=h.1;rw[ltCps_eq]at this;simp_all
  let h2:=Ti r x h.2;show cT.mpr {λy hy=>?_,h2};let 0||hy:=aF.mp hy
  .show h1
  .show eM h1 ((cT.mp h2).1 y hy)
def Tj{l:At}(h:sortedS l=true):Ie l:=by cases l with|nil=>simp|cons x r=>show Ti r x h
structure Rm(ns r:At):Prop where
 sub:∀n∈r,n∈ns
 nd:r.Nodup
 srt:Ie r
def Rm.len{r}(h:Rm ns r):r.length<=ns.length:=h.nd.length_le_of_subset h.sub
def Rm.part{r p}(h:Rm ns r)(s:p.Sublist r):Rm ns p:={λn hn=>h.sub n (s.subset hn),h.nd.sublist s,h.srt.sublist s}
def Rm.of{l r:At}(hp:r.Perm l)(hs:sortedS r=true)(h1:∀n∈l,n∈ns)(h2:l.Nodup):Rm ns r:={λn hn=>h1 n (hp.mem_iff.mp hn),hp.nodup_iff.mpr h2,Tj hs}
structure Nms(ns:At):Prop where
 pos:1<=ns.length
 len:ns.length<=6
 nd:ns.Nodup
 srt:Ie ns
def Nms.rm{p}(h:Nms ns)(s:p.Sublist ns):Rm ns p:={λn hn=>s.subset hn,h.nd.sublist s,h.srt.sublist s}
structure Er(ns:At)(fd:List At)(sp fr:At):Prop where
 fnd:∀r∈fd,Rm ns r
 nd:(sp++fr).Nodup
 sub:∀n∈sp++fr,n∈ns
 ap:∀r∈fd,∀n∈r,n∉sp++fr
def Tk{α:Type}{l}{x:α}(h:l[m]?\x):(l.eraseIdx m++[x]).Perm l:=by
 let[a,e]:=aI.mp h;let h1:l=l.take m++x::l.drop (m+1):=by conv=>lhs;rw[<-take_append_drop m l,drop_eq_getElem_cons a,e]
 rw[eraseIdx_eq_take_drop_succ]
 conv=>rhs;rw[h1]
 rw[bK];show List.Perm.append_left _ (perm_append_singleton x _)
def Er.pop{fd}(h:Er ns fd sp fr)(e:sp[m]?\x):Er ns fd (sp.eraseIdx m) (fr++[x]):=by
 let hp:(sp.eraseIdx m++(fr++[x])).Perm (sp++fr):=by let h1:=(Tk e).append_right fr;show List.Perm.trans ?_ h1;rw[bK];show List.Perm.append_left _ perm_append_comm
 show{h.fnd,hp.nodup_iff.mpr h.nd,λn hn=>h.sub n (hp.mem_iff.mp hn),λr a n hn z=>h.ap r a n hn (hp.mem_iff.mp z)}
def Er.add{fd}{sp fr part:At}(h:Er ns fd sp fr)(hp:qI.Perm (part++fr))(hs:sortedS qI=true)(d:part=[]\/∃r∈fd,part.Sublist r):Er ns (fd++[qI]) sp []:=by
 let hn:=nodup_append.mp h.nd;let pin:∀n∈part,n∈ns/\n∉sp++fr:=λn c=>by
  let e||[r,f,s]:=d
  .rw[e]at c;cases c
  .show{(h.fnd r f).sub n (s.subset c),h.ap r f n (s.subset c)}
 let g:part.Nodup:=by
  let e||[r,f,s]:=d
  .rw[e];show nodup_nil
  .show(h.fnd r f).nd.sublist s
 let rm:=Rm.of hp hs (λn c=>by
  let z||z:=bA.mp c
  .show(pin n z).1
  .show h.sub n (cC _ z)) (nodup_append.mpr {g,hn.2.1,λa ha b hb e=>(pin a ha).2 (cC _ (e▸hb))})
 show{λr f=>?_,by rw[cP];show hn.1,λn c=>h.sub n (mem_append_left _ (~~~c)),λr f n c z=>?_}
 .let z||z:=bA.mp f
  .show h.fnd r z
  .rw[bI.mp z];show rm
 .rw[cP]at z;let q||q:=bA.mp f
  .show h.ap r q n c (mem_append_left _ z)
  .rw[bI.mp q]at c;let q||q:=bA.mp (hp.mem_iff.mp c)
   .show(pin n q).2 (mem_append_left _ z)
   .show hn.2.2 n z n q rfl
open PySem.Calls
end L2
namespace L2
structure Chg(fs xs:Ge)(h h':Heap):Prop where
 keep:∀b o,b∉fs->b∉xs->h.get? b\o->h'.get? b\o
 slot:∀b o,b∈fs->b∉xs->h.get? b\o->∃sl,h'.get? b\{o with slots:=sl}there:∀b o,h.get? b\o->∃o',h'.get? b\o'
def Em(h:Heap)(e:Addr)(cls:Value)(d:FG)(fl:Value)(T:Addr):Prop:=(T≠e/\(∃oe vs,h.get? e\oe/\oe.cls=cls/\oe.dict=d/\oe.data=.fields vs/\vs[1]?\(.ref T))/\∃oT ts,h.get? T\oT/\oT.data=.fields ts/\ts[3]?\fl)
def OG(h:Heap)(e:Addr)(cls:Value)(d:FG)(xs:Ge):Prop:=((xs=[e]/\∃oe vs,h.get? e\oe/\oe.cls=cls/\oe.dict=d/\oe.data=.fields vs/\vs[1]?\.none)\/∃T,xs=[e,T]/\Em h e cls d .none T)
def Chg.trans{fs xs}(a:Chg fs xs h h1)(b:Chg fs xs h1 h2):Chg fs xs h h2:={λc o n m e=>b.keep c o n m (a.keep c o n m e),λc o n m e=>(by let[_,d]:=a.slot c o n m e;show let⟨sl,f⟩:=b.slot c _ n m d;#[sl,f]),λc o e=>(by let[_,d]:=a.there c o e;show b.there c _ d)}
def Chg.mono{fs fs' xs d}(a:Chg fs xs h h1)(hf:∀b∈fs,b∈fs')(f:∀b∈xs,b∈d):Chg fs' d h h1:={λc o n m e=>a.keep c o (λz=>n (hf c z)) (λz=>m (f c z)) e,λc o n m e=>by
  by_cases g:c∈fs
  .show a.slot c o g (λz=>m (f c z)) e
  .show{o.slots,a.keep c o g (λz=>m (f c z)) e},a.there}
section
variable{M:Model}{e:Addr}
def Tn{vs:Do}{head}{c}{Q}(J:A.frames\(env::outer))(x:s.heap.FunFrames base (env::outer))(N:env.frame\L)(w:'F' e\oe)(g:oe.data=.fields vs)(l:1<vs.size)(h:∀h' T,Chg (frs (env::outer)) [e] s.heap h'->'H'<=T->Em h' e oe.cls oe.dict (rawInt L) T->Q () {s with heap:=h'}):wpAny M A (do let fa<-frameOf env;let pl<-entryPlaceOf L c;let nb<-EntryCells.newEntry head fa .none (rawInt L) .none pl;setField (.ref e) 1 nb) Q E s:=by
 let G:e∉(env::outer).filterMap (·.frame):=λσ=>by let[_,o,f,D]:=x.mem σ;rw[w]at f;injection f with f;subst f;show D vs g
 show wB (wpAny_frameOf_fun J x N λa p=>?_);show wB (wpAny_entryPlaceOf λpl r=>?_)
 show wB (cG ?_ (r.sizeOk5 _ _ _ _ _));let y:=(p.2.1 e G).trans w;generalize u:({cls:=.type "traceback",dict:=none,data:=.fields ([head,.ref L,.none,rawInt L,.none]++(if pl.isEmpty then replicate 6 Value.none else pl)).toArray}:Obj)=C;let j:=aS C y;show wpAny_setField j g l (h _ a.objs.size ?_ (Nat.le_of_eq p.1.symm) ?_)
 .let keep:∀b o,b≠e->a.get? b\o->((a.push C).update e (Obj.mapFields (·.setIfInBounds 1 (Value.ref a.objs.size)))).get? b\o:=λb o d ρ=>by show(cM _ _ (Ne.symm d)).trans ?_;show aS _ ρ
  let i:=Heap.get?_update_self (Obj.mapFields (·.setIfInBounds 1 (Value.ref a.objs.size))) j (Obj.isFreed_of_fields (Obj.data_mapFields g (·.setIfInBounds 1 (Value.ref a.objs.size))));show{λb o n m q=>keep b o (λz=>m (by rw[z];show mem_singleton_self _)) ((p.2.1 b n).trans q),λb o n m q=>?_,λb o q=>?_}
  .let[O,H]:=p.2.2 b o q;show{O,keep b _ (λz=>m (by rw[z];show mem_singleton_self _)) H}
  .by_cases d:b=e
   .subst d;show#[_,i]
   .let[O,H]:=p.2.2 b o q;show{_,keep b _ d H}
 .let v:=Nat.ne_of_gt (bN y);let B:=Obj.data_mapFields g (·.setIfInBounds 1 (Value.ref a.objs.size));let i:=Heap.get?_update_self (Obj.mapFields (·.setIfInBounds 1 (Value.ref a.objs.size))) j (Obj.isFreed_of_fields B);let I:=(cM (a.push C) (Obj.mapFields (·.setIfInBounds 1 (Value.ref a.objs.size))) (Ne.symm v)).trans (bP a (by rw[<-u];rfl));show{v,{_,_,i,Obj.cls_mapFields _ _,?_,B,by simp[l]},_,_,I,by rw[<-u],?_}
  .unfold Obj.mapFields;split<;>rfl
  .first|(simp;done)|(let 0||[_,_,_,_,_,_,_,0]:=r<;>simp)
def Kt{d}{Q}(y:Em s.heap e cls d C T)(h:∀h',Chg [] [T] s.heap h'->Em h' e cls d .none T->Q () {s with heap:=h'}):wpAny M A (setFlight (.ref e) none) Q E s:=by
 done<;>let[j,[oe,vs,l,B,v,r,w],D,ts,p,c,x]:=y;let g:=(Array.getElem?_eq_some_iff.mp x).1;let a:∀b,b≠T->(s.heap.update T (Obj.mapFields (·.setIfInBounds 3 (none.elim Value.none λf=>rawInt f)))).get? b='F' b:=λb u=>cM _ _ (Ne.symm u);let i:=Heap.get?_update_self (Obj.mapFields (·.setIfInBounds 3 (none.elim Value.none λf=>rawInt f))) p (Obj.isFreed_of_fields (Obj.data_mapFields c _));show wB (wpAny_field l r w ?_);rw[aC (by simp)];show wpAny_setField p c g (h _ {λb o _ m q=>(a b λz=>m (by simp_all)).trans q,λb o n _ _=>bS n '2',λb o q=>?_} ?_)
 .by_cases u:b=T
  .subst u;show#[_,i]
  .show{o,(a b u).trans q}
 .show{j,{oe,vs,(a e (Ne.symm j)).trans l,B,v,r,w},_,_,i,Obj.data_mapFields c _,by simp[g]}
def Tp{d}{xs}{Q}(v:A.frames\(env::outer))(w:s.heap.FunFrames base (env::outer))(l:env.frame\L)(D:OG s.heap e cls d xs)(h:∀h' T,Chg (frs (env::outer)) xs s.heap h'->'H'<=T->Em h' e cls d (rawInt L) T->Q () {s with heap:=h'}):wpAny M A (noteFrame (.ref e) env) Q E s:=by
 done<;>let[0,oe,vs,g,0,0,i,r]||[T,0,y,[oe,vs,g,0,0,i,r],H,ts,j,n,C]:=D
 .unfold noteFrame;simp only[l];show wB (wpAny_field g i r ?_);show Tn v w l g i (Array.getElem?_eq_some_iff.mp r).1 h
 .unfold noteFrame;simp only[l];show wB (wpAny_field g i r ?_);rw[aC (by simp)];show wB (wpAny_field j n C ?_);rw[aB (by simp[rawInt])];show wB (wpAny_setField j n (Array.getElem?_eq_some_iff.mp C).1 ?_);let f:∀b,b≠T->(s.heap.update T (Obj.mapFields (·.setIfInBounds 3 Value.none))).get? b='F' b:=λb a=>cM _ _ (Ne.symm a);let u:∀b o,'F' b\o->(∀vs,o.data≠.fields vs)->b≠T:=λb o a p q=>by rw[q,j]at a;injection a with a;subst a;show p ts n
  let x:=Heap.get?_update_self (Obj.mapFields (·.setIfInBounds 3 Value.none)) j (Obj.isFreed_of_fields (Obj.data_mapFields n _));show Tn v (w.of_keeps λb o a p=>{o,(f b (u b o a p)).trans a,0}) l ((f e (Ne.symm y)).trans g) i (Array.getElem?_eq_some_iff.mp r).1 λh' G c B tr=>h h' G ?_ (~~~B) tr;show Chg.trans {λb o _ m q=>(f b λz=>m (by simp[z])).trans q,λb o _ m q=>{o.slots,(f b λz=>m (by simp[z])).trans q},λb o q=>?_} (c.mono (λ_ z=>z) λb z=>by simp at z;simp[z]);by_cases a:b=T
  .subst a;show#[_,x]
  .show{o,(f b a).trans q}
def eQ{d}{xs}{Q}(g:A.frames\(env::outer))(j:s.heap.FunFrames base (env::outer))(i:env.frame\L)(v:OG s.heap e cls d xs)(h:∀h' T,Chg (frs (env::outer)) xs s.heap h'->'H'<=T->Em h' e cls d .none T->Q () {s with heap:=h'}):wpAny M A (leaving env (.ref e)) Q E s:=by
 show wB (Tp g j i v λw T c a tr=>Kt tr λh2 p f=>h h2 T ?_ a f);let nb:∀b o,'F' b\o->b∉[T]:=λb o q z=>by rw[bI.mp z]at q;show bS (bN q) (Nat.not_lt.mpr a)
 show{λb o n m q=>p.keep b o '2' (nb b o q) (c.keep b o n m q),λb o n m q=>?_,λb o q=>?_}
 .let[r,l]:=c.slot b o n m q;show{r,p.keep b _ '2' (nb b o q) l}
 .let[u,l]:=c.there b o q;show p.there b u l
end
def DG(P:Program)(w:World):Cf:=(λouter H s E e s'=>∃(a:Addr)(cls:Value)(d:FG)(T:Addr)(H':Hp),e=.ref a/\s'.os=s.os/\AllBare s'.gens/\Un (frs outer) [] H H' s.heap s'.heap/\A3 P w H' s'.heap/\Em s'.heap a cls d .none T/\'F' a=none/\'F' T=none/\H' a=none/\H' T=none/\E cls d H')
def A3.chg{P}(x:A3 P w H h)(k:∀b o u,H b\u->h.get? b\o->h'.get? b\o):A3 P w H h':=λa o e=>(x a o e).stay (λb u z q=>by
  let 0||z:=z
  .show k b u _ e q
  .show k b u _ z q) (λ_ q=>q) λ_ _ q=>q
structure Own(X:Cx):Prop where
 stk:X.stack=X.env::X.outer
 frm:X.env.frame\X.env.locals
 ex:X.ex=[]
def Own.frs(o:Own X):frs (X.env::X.outer)=X.env.locals::X.fs:=by unfold L2.frs;rw[filterMap_cons,o.frm];rfl
structure Apart(X:Cx)(qA:List (Addr×Obj))(H:Hp)(b:Addr):Prop where
 new:X.s₀.heap.get? b=none
 free:H b=none
 loc:b≠X.env.locals
 cell:∀y k,X.env.cells.lookup y\k->k≠b
 pin:∀p∈X.pn++qA,p.1≠b
theorem Inv.apart(I:'D')(hex:X.ex=[])(n:'F' b=none)(f:H' b=none):Apart X qA H' b where
 new:=by cases e:X.s₀.heap.get? b with|none=>rfl|some o=>let[o',c]:=I.base.there b o e (by simp_all);simp_all
 free:=f
 loc:=λz=>by let[m,[o,_,_,a,_],_]:=I.loc;rw[z,a]at n;cases n
 cell:=λy k e z=>by let[v,o,a,_]:=I.cell y k e;rw[z,n]at a;cases a
 pin:=λp hp z=>by let:=(I.pin p hp).1;rw[z,n]at this;cases this
def Inv.chg{xs}(ow:Own X)(I:'D')(c:Chg (L2.frs (X.env::X.outer)) xs s.heap h')(f:∀b∈xs,Apart X qA H b):Inv X qA U H {s with heap:=h'}:=by
 rw[ow.frs]at c;let nx:∀b o,X.s₀.heap.get? b\o->b∉xs:=λb o e z=>by rw[(f b z).new]at e;cases e
 let w:∀b o,X.s₀.heap.get? b\o->b≠X.env.locals:=λb o e=>bX (aU (bN e) I.ok.above);let any:=λb o m q=>by
  by_cases hb:b∈X.env.locals::X.fs
  .show c.slot b o hb m q
  .show{o.slots,c.keep b o hb m q}
 let a:∀x k,X.env.cells.lookup x\k->∀v,s.heap.IsCell k v->h'.IsCell k v:=λx k e v⟨o,y,hd⟩=>by let[sl,q]:=any k o (λz=>(f k z).cell x k e rfl) y;show#[_,q,hd]
 let A:=λb hb=>I.stkFree b (by rw[ow.stk,ow.frs];show hb);show{
  ok:=I.ok,os:=I.os,bare:=I.bare
  base:={λb o e n hb g=>c.keep b o (λz=>(aF.mp z).elim (w b o e) hb) (nx b o e) (I.base.keep b o e n hb g),λb o e n hb g=>by let[sl,h]:=I.base.slot b o e n hb g;let[j,B]:=any b _ (nx b o e) h;show#[j,B],I.base.free,λb o e g=>by let[o',h]:=I.base.there b o e g;show c.there b o' h,I.base.tups,I.base.frzs,I.base.tbls}
  loc:=by
   done<;>(let[m,[o,es,ep,y,r],E]:=I.loc;let[sl,G]:=any _ o (λz=>(f _ z).loc rfl) y);show{m,#[_,es,ep,G,r],λi x v h B J=>?_};let[u,r,l]:=E i x v h B J;show#[u,r,?_];let l||[k,D,e,z]:=l
   .show .inl l
   .show .inr {k,D,e,a x D e _ z}
  cell:=λx k e=>by let[v,z]:=I.cell x k e;show{v,a x k e v z}
  free:=I.free,freeC:=I.freeC
  pin:=λp hp=>by let[e,n,ne,C,d]:=I.pin p hp;show{c.keep p.1 p.2 (λz=>(aF.mp z).elim ne C) (λz=>(f _ z).pin p hp rfl) e,n,ne,C,d}
  hok:=I.hok.chg λb o u hb q=>c.keep b o (λz=>by rw[A b z]at hb;cases hb) (λz=>by rw[(f b z).free]at hb;cases hb) q
  len:=I.len}
def Ku{d}{xs}{E}(ow:Own X)(I:'D')(a:OG s.heap e cls d xs)(g:∀b∈xs,Apart X qA H b)(m:E cls d H){R:VS}:'B' (leaving X.env (.ref e)) (λ_ f=>DG X.prog X.w X.outer X.H₀ X.s₀ E (.ref e) f) R s:=by
 let hex:e∈xs:=by let[0,_]||[T,0,_]:=a<;>simp
 show eQ (by rw[I.ok.frames,ow.stk]) (by let:=I.stack;rwa[ow.stk]at this) ow.frm a λh' T c i tr=>?_;let J:=I.chg ow c g;let l:=Heap.get?_none_of_le i;let j:=I.apart ow.ex l (I.hok.fresh i);let h:=J.base;rw[ow.ex]at h;show{e,cls,d,T,H,0,J.os,J.bare,h,J.hok,tr,(g e hex).new,j.new,(g e hex).free,j.free,m}
section
variable{P:Program}{K:Fg}{f:Addr}{s₀:Shared}{H₀:Hp}{E:XK}
noncomputable abbrev FQ(P:Program)(w:World)(K:Fg)(mg:Str->C2)(base:Heap)(N:At)(qual:Str)(sc:Scope)(f:Addr)(cd:Value)(A:Around)(outer:List Env)(s:Shared)(H:Hp)(E:XK):Cx:=EY (DG P w) P w K mg base N qual sc f cd A outer s H E
def Kv:Own (FQ P w K mg base N qual sc f cd A outer s₀ H₀ E):=#[0,0,0]
def OH(X:Cx)(E:XK):Prop:=(∀(qA:List (Addr×Obj))(U:St)(H:Hp)(s:Shared)(h':Heap)(e:Addr)(cls:Value)(vs:B6),'D'->Heap.MadeExcOf s.heap h' e cls vs->E cls none H->X.xe (.ref e) {s with heap:=h'})
def Tq:OH (FQ P w K mg base N qual sc f cd A outer s₀ H₀ E) E:=λqA U H s h' e j vs I m h=>by
 let[t,c,_,_]:=m.there;let J:=I.kept (t':=s.toks) m.keeps;let i:H e=none:=by cases q:H e with|none=>rfl|some u=>
   let:=(I.hok e u q);obtain⟨o,a⟩:∃o,'F' e\o:=by cases u with
    |lst xs=>let[_,_,_,_,z]:=this;show#[_,z]|tup xs=>let[_,_,_,o,z,_]:=this;show#[_,z]|dK qH=>let[_,_,_,_,o,_,_,z,_]:=this;show#[_,z]|dT qH=>let[_,_,_,_,o,_,_,z,_]:=this;show#[_,z]|set S n=>let[o,_,_,_,z,_]:=this;show#[_,z]|ins C dx fs=>let[_,_,_,z,_]:=this;show#[_,z]|own y=>show this|xd fs=>let[_,[_,_,_,z,_],_]:=this;show#[_,z]|rng lo hi=>let[_,_,_,z]:=this;show#[_,z]|frz p u=>let[z,_]:=this;show#[_,z]|tbl ps=>show#[_,this]|met g y=>show#[_,this]|ext l=>show this.2.1
   rw[m.new]at a;cases a
 show Ku Kv J (.inl #[0,_,_,c,0,0,0,0]) (λb d=>?_) h;rw[bI.mp d];show I.apart rfl m.new i
def Ig:DK (DG P w) (FQ P w K mg base N qual sc f cd A outer s₀ H₀ E) E:=λqA U H s e s' I h=>by
 done<;>let[a,n,d,T,H',0,os,c,un,g,tr,na,i,l,m,j]:=h;let J:=I.call' os un g c (λb z=>bS z '2');show Ku Kv J (.inr #[T,0,tr]) (λb hb=>?_) j;let 0||hb:=aF.mp hb
 .show I.apart rfl na l
 .rw[bI.mp hb];show I.apart rfl i m
end
noncomputable abbrev vE:B6:=[.type "ValueError",.type "Exception",.type "BaseException",.type "object"]
structure XCls(K:Fg)(mg:Str->C2)(x:Str)(C:Addr):Prop where
 bd:mg x\(.ref C)ok:PySem.W.excIn K C vE "ValueError.__new__"=true
noncomputable def mroIn(K:Fg)(C C':Addr):Bool:=(match K.lookup C with
 |some ⟨_,_,.cls cd,_⟩=>cd.mro.contains (.ref C')|_=>true)
set_option tactic.hygienic true in
def Tr{K:Fg}{bmB:B6}(X:K.In h)(q:PySem.W.excIn K C bmB newId=true):∃bm N nm a bs hdct sn sub ab col dd k0 k1 k2 k3 k5 mN,K.lookup C\(excClassObj nm a C N bs bm hdct sn sub ab col dd k0 k1 k2 k3 k5 newId)/\h.Ns N mN/\mN "__init__"=none/\OwnTail h bmB bm:=by
 unfold PySem.W.excIn at q;split at q
 .rename_i dd cd d look;split at q
  .rename_i o bm k0 k1 k2 k3 n k5 em es;simp only[cB,beq_iff_eq,Bool.not_eq_true']at q;done<;>(let[[[[[l,j],f],i],c],e]:=q;subst l j;let[nm,bs,mro,ns,a,g,sn,sub,ab,col,m]:=cd;subst em f;obtain⟨d⟩:=d);subst es;show{bm,ns,nm,a,bs,g,sn,sub,ab,col,dd,k0,k1,k2,k3,k5,_,look,.of_isNs (PySem.W.isNs_of_in X c),PySem.W.nsMap_none_of_in X c e,PySem.W.tail_of_in X i}
  .cases q
 .cases q
section
variable{M:Model}{nm q:Str}{C N:Addr}{bs bm:B6}{hdct:Bool}{sn:At}{sub:B6}{ab:Bool}{col:Option Bool}{dd:FG}{k0 k1 k2 k3 k5:C2}{newId:String}{nm' q':Str}{C' N':Addr}{bs' bm':B6}{hdct':Bool}{sn':At}{sub':B6}{ab':Bool}{col':Option Bool}{dd':FG}{l0 l1 l2 l3 l5:C2}{newId':String}
def Ts{g}{d}{os}{Q}(l:h.get? C\(excClassObj nm q C N bs bm hdct sn sub ab col dd k0 k1 k2 k3 k5 newId))(a:h.get? C'\(excClassObj nm' q' C' N' bs' bm' hdct' sn' sub' ab' col' dd' l0 l1 l2 l3 l5 newId'))(j:h.get? e\oe)(m:oe.cls=.ref C)(n:bm'.contains (.type "BaseException")=true)(c:Q ((Value.ref C::bm).contains (.ref C')) #[h,g,d,t,os]):wpAny M A (excMatches (.ref e) (.ref C')) Q E #[h,g,d,t,os]:=by
 let o:(Value.ref C'::bm').contains (.type "BaseException")=true:=by rw[contains_cons,n,Bool.or_true]
 let f:=tc_notTuple;repeat(first|(with_reducible show wpAny_loadPart_at j ?_;rw[m])|with_reducible show wpAny_loadPart_at a ?_|(with_reducible show wpAny_isSubtype_exc a ?_;rw[o])|(with_reducible show wpAny_isSubtype_exc l ?_)|wp_step)
 cases i:(Value.ref C::bm).contains _<;>(rw[i]at c;wp_walk;show c)
end
def Tt(C:Addr)(E:XK)(t:TA):TS:=(λ_ U H=>t U H λvs H1=>vs.length<=100/\E (.ref C) none H1)
def eR{E}{a}(u:X.calm=true)(w:OH X E)(i:XCls X.K X.mg x C)(v:PA X (a::es) t)(p:Gl X x:=by rfl)(g:No x:=by decide+kernel)(o:starEach (a::es) X.env=(false,eval a X.env)::starEach es X.env:=by rfl)(d:(backTo qJ (starEach (a::es) X.env)).any (·.1)=false:=by rfl):PS X (.Raise (some (.Call (.Name x np) (a::es) [] qJ)) none pos) (Tt C E t):=by
 intro qA s U H D I h;done<;>let[bm,N,nm,n,bs,hdct,sn,sub,ab,col,dd,k0,k1,k2,k3,k5,mN,look,y,f,tl]:=Tr I.mod.kin i.ok;show wpAny_Raise_call_subT (nm:=nm) (q:=n) (N:=N) (bs:=bs) (hdct:=hdct) (sn:=sn) (sub:=sub) (ab:=ab) (col:=col) (dd:=dd) (k0:=k0) (k1:=k1) (k2:=k2) (k3:=k3) (k5:=k5) PySem.F.excBase_ValueError (tl.hasType nofun) (I.ok.hd u) d f
  (E2 I p i.bd #[0,?_] g)
 let j:=v qJ qA s U H _ I h;rw[o]at j⊢;show Calls.evalArgs_plain (AQ j λus l zz=>?_);done<;>let[vs,H1,c,r,A,z]:=zz;show{0,?_,c.kIn _ _ look,y.keeps c.bk,tl.keeps c.bk,λh' e m=>w qA U H1 l h' e _ _ c m z};let:=r.length;change us.length<=16777216;lia
def CV(P:Program)(w:World)(K:Fg)(mg:Str->C2)(base:Heap)(x:Str)(k:Nat)(ps:At)(sp:Sp):Prop:=(∃(f:Addr)(fd:FuncData),FnOk P w K mg base (DG P w) k f fd ps sp/\mg x\(.ref f)/\PySem.W.keepIn K (.ref f)=true/\Cr K fd ps [])
def Ih{p}{E}(G:CV X.prog X.w X.K X.mg X.base x k ps sp)(d:DK (DG X.prog X.w) X E)(g:Room k X.A)(j:Gl X x)(n:PA X (e::es) t)(c:No x:=by decide+kernel)(l:starEach (e::es) X.env=(false,eval e X.env)::starEach es X.env:=by rfl)(a:(backTo pos (starEach es X.env)).any (·.1)=false:=by rfl):PE X (.Call (.Name x p) (e::es) [] pos) (EW sp [] E t):=by let[f,fd,F,h,i,m]:=G;show Pz F g j h i m .nil d n c l a
def HB{P}{K}{st}(D:Ai K mg x st)(S:FnScope N ps (AL st))(l:∀(kV doc pm)(an:FG)(a ct)(us:B6),us.length=ps.length->bindArgs (PySem.W.fnOf x x (Ca st) (Bi st) (AL st) .none kV doc pm an a ct) {us,[]}=pure (ps.zip us))(len:∀vs H Q E,sp vs H Q E->vs.length=ps.length)(c:∀(f)(a)(A)(outer)(s)(H)(vs)(Q)(E),Room k (A.deeper (PyProof.Rows.envOfC x (AL st) 'H' f a))->sp vs H Q E->∃t,BS (FQ P w K mg base N x (AL st) f a A outer s H E) (Bi st) t/\t {nx:=λ_ H'=>Q .non H',rt:=Q} (start N vs) H):CV P w K mg base x (k+1) ps sp:=by let[f,fd,F,j]:=D;show{f,fd,?_,j,F.kp,F.binds l};let[oc,od,kV,doc,pm,an,a,ct,g,0,h,e]:=F.ex;show JY h e S len λA outer s H vs Q E i d=>c f a A outer s H vs Q E i d
def HC(X:Cx)(hs:List ExceptHandler)(th:Value->FG->TS):Prop:=(∀qA s U H(D:Ends)(a T:Addr)(cls:Value)(d:FG),'D'->Em s.heap a cls d .none T->Apart X qA H a->Apart X qA H T->th cls d D U H->'B' (handleBy (.ref a) X.env hs) (SP X qA D) X.xe s)
noncomputable abbrev Cx.mark(X:Cx)(a:Addr):Cx:={X with A:=X.A.mark (some (.ref a)),calm:=false,xe:=λ_ _=>False}
def Inv.mark(I:'D'):Inv (X.mark a) qA U H s:=#[{I.ok.mod,I.ok.kind,I.ok.glob,I.ok.blt,I.ok.above,I.ok.inj,I.ok.has,I.ok.cab,λz=>(by cases z),I.ok.frames,I.ok.stk,I.ok.exf,I.ok.bs,I.ok.bsz,I.ok.noex,I.ok.exfs,I.ok.funs,I.ok.frf},I.os,I.bare,I.base,I.loc,I.cell,I.free,I.freeC,I.pin,I.hok,I.len]
def Inv.unmark(J:X.Ok)(I:Inv (X.mark a) qA U H s):'D':=#[J,I.os,I.bare,I.base,I.loc,I.cell,I.free,I.freeC,I.pin,I.hok,I.len]
def SP.unmark{D}{f}(J:X.Ok)(h:SP (X.mark a) qA D f s'):SP X qA D f s':=by cases f with|next=>let[σ',H',I,q]:=h;show{σ',H',I.unmark J,q}|brk=>let[σ',H',I,q]:=h;show{σ',H',I.unmark J,q}|cont=>let[σ',H',I,q]:=h;show{σ',H',I.unmark J,q}|ret u=>let[v,σ',H',I,r,q]:=h;show{v,σ',H',I.unmark J,r,q}
def eS:Value->FG->TS:=(λ_ _ _ _ _=>False)
def eT:HC X [] eS:=λ_ _ _ _ _ _ _ _ _ _ _ _ _ h=>h.elim
open PySem.W Builtin Builtin.ObjectAttr
noncomputable def Fv:B6->Bool|.ref _::r=>Fv r|l=>l==vE
noncomputable def Tu(self)(e:Fv l=true):refuseLoop self "__setattr__" l=pure ()/\l.contains (.type "object")=true/\l.isEmpty=false:=by induction l with|nil=>cases e|cons v r a=>cases v with
  |ref c=>let[h1,h2,_]:=a e;show{by rw[refuseLoop_ref];show h1,(by assumption),0}|type n=>rw[beq_iff_eq.mp e];show{PySem.F.store_ValueError.passes self,'3',0}|_=>show bS (beq_iff_eq.mp e) '2'
noncomputable def eU(e:Fv l=true):l.contains (.type "BaseException")=true:=by induction l with
 |nil=>cases e|cons v r a=>cases v with
  |ref c=>rw[contains_cons,a e,Bool.or_true]|type n=>
   rw[beq_iff_eq.mp e]
   decide|_=>show bS (beq_iff_eq.mp e) '2'
structure XHas(K:Frag)(C:Addr)(f:Str):Prop where
 over:(clsIn K C).any (λcd=>Fv cd.mro)=true
 hd:hasDictIn K C=true
 sa:findIn K (.ref C) "__setattr__"\(some (.builtin "object.__setattr__"))ga:findIn K (.ref C) "__getattribute__"\(some (.builtin "BaseException.__getattribute__"))gh:findIn K (.ref C) "__getattr__"\none
 na:findIn K (.ref C) f\none
section
variable{K:Frag}{x C:Addr}{o:Obj}{f:Str}{v:Value}
def eV(X:K.In s.heap)(i:'F' x\o)(M:o.cls=.ref C)(J:∀c,o.data≠.cls c)(L:o.dict=none)(c:XHas K C f)(h:∀h',h'.get? x\{o with dict:=some 'H'}->h'.Ns1 'H' (λy=>if y=f then some v else none)->(∀b n,b≠x->'F' b\n->h'.get? b\n)->R (.ok (.ret .none)) {s with heap:=h',toks:=s.toks+1}):codeAny (model prog w) A (.call (.builtin "object.__setattr__") {[.ref x,.str f tk,v],[]}) R s:=by
 let m:=PySem.F.store_object;let[cd,l,σ]:=any_some c.over;let[a,top,T]:=Tu (.ref x) σ;let I:InstAt s.heap x o C none:={i,M,by let[_,_,dd,_]:=o;cases dd<;>first|rfl|show bS rfl (J _),by rw[L];trivial};let sub:Looks (model prog w) s.heap (isInstance (.ref x) (.type "object")) true:=I.type.andThen (looks_mroIn X (by unfold PySem.W.mroIn;rw[l,Option.bind_some,aB (by rw[T];decide),top]));show codeAny_call_builtin m.slot.plain m.entry (@check_slot (model prog w) _ _ s "object.__setattr__" "object" "__setattr__" (.ref x) [.str f tk,v] [] _ m.kind m.split sub (m.args (.ref x) (.str f tk) v) ?_);let ρ:Looks (model prog w) s.heap (mroOf (.ref C)) cd.mro:=(looks_clsIn X l).andThen .now;rw[osa_eq,refuse_eq];show wB (wB (I.type.here (wB (ρ.here ?_))));rw[a];show wP (wB (I.type.here (wB ((looks_findIn X c.na).here (wB (wP ?_))))));let[a2,E,B]:=any_some c.hd;let[oc,od,O,Q]:=o;cases M;cases L;show wB (wP (wB (wB (wpAny_loadPart i (wB ((looks_clsIn X E).here ?_))))));rw[B];let g:(s.heap.push {cls:=.type "dict",data:=.dict #[]}).get? x\{.ref C,none,O,Q}:=aS _ i;let d:=bX (bN i);rw[aB '2'];dsimp only;rw[aB (by simp[typeHasDict])];split
 .show bS rfl (J _)
 show wB (wpAny_alloc' (wB (wpAny_update' g (wP ?_))));let r:((s.heap.push {cls:=.type "dict",data:=.dict #[]}).update x λo=>{cls:=o.cls,dict:=some 'H',data:=o.data,slots:=o.slots}).get? 'H'\{cls:=.type "dict",data:=.dict #[]}:=(Heap.get?_update_ne _ _ _ _ d.symm).trans (Heap.get?_push_at rfl rfl)
 let q:((s.heap.push {cls:=.type "dict",data:=.dict #[]}).update x λo=>{cls:=o.cls,dict:=some 'H',data:=o.data,slots:=o.slots}).Ns 'H' (λ_=>none):={_,#[],_,r,0,λe he=>bS he '2',λ_=>rfl}
 show wB (wP (wB (wpAny_nsSet1 (Heap.Ns1.of_empty q) λh' j H=>?_)));done<;>let[oD,a0,a1,p,z,D]:=j.count (Within.cons f v Within.nil);show wB (wpAny_lookBehind p (by rw[z];show pastItsLine_dict (aR D (by rw[length_cons,length_nil,cU];lia))) ?_);show wP (h h' ?_ j λb n G N=>?_)
 .show(H.2 x d).trans (Heap.get?_update_self _ g ?_);let u:=(Heap.get?_some_iff.mp i).2;cases O<;>first|rfl|show u
 .show(H.2 b (bX (bN N))).trans ((Heap.get?_update_ne _ _ _ _ G).trans (aS _ N))
def eW{Q}(X:K.In s.heap)(d:'F' x\o)(i:o.cls=.ref C)(e:∀c,o.data≠.cls c)(g:o.dict=none)(c:XHas K C f)(h:∀h' t',h'.get? x\{o with dict:=some 'H'}->h'.Ns1 'H' (λy=>if y=f then some v else none)->(∀b a,b≠x->'F' b\a->h'.get? b\a)->Q () {s with heap:=h',toks:=t'}):'C' (setAttr (.ref x) f v) Q E s:=by let I:InstAt s.heap x o C none:={d,i,by let[_,_,dd,_]:=o;cases dd<;>first|rfl|show bS rfl (e _),by simp_all};show set_plain X I c.sa (eV X d i e g c λh' m l j=>h h' _ m l j)
def eZ{mA:Str->C2}{a}(X:K.In s.heap)(q:'F' x\o)(G:o.cls=.ref C)(y:∀c,o.data≠.cls c)(D:o.dict\dx)(n:s.heap.Ns1 dx mA)(c:XHas K C f)(r:mA f\v)(j:handedIn v=true)(h:Q v {s with toks:=s.toks+1}):'C' (getAttr (.ref x) f a) Q E s:=by
 let[od,u,z]:=Ps n;let I:InstAt s.heap x o C (some od):={q,G,by let[_,_,dd,_]:=o;cases dd<;>first|rfl|show bS rfl (y _),by rw[D];show u};let FB:=PySem.F.attrBase_ValueError;let[cd,l,e]:=any_some c.over;let[B,g,d,t,os]:=s;let m:=I.type (M:=model prog w);let J:=looks_findIn (M:=model prog w) X c.ga;let L2:=looks_findIn (M:=model prog w) X c.gh;let H:=looks_find (M:=model prog w) X I (findObj_own c.hd c.na rfl (by rw[z,r]));let p:(Value.builtin "BaseException.__getattribute__"==Value.builtin "object.__getattribute__")=false:=by decide+kernel
 let i:(onTheHeap (Value.ref C)&&Value.builtin "BaseException.__getattribute__"==Value.builtin "object.__getattribute__")=false:=by rw[p];rfl
 show wB (wpAny_mkText (bM (wB (m.at (wB (J.at ?_))))));dsimp only;unfold getAttrByItsOwn hookBefore;show wB (L2.at (wB (wpAny_attempt (bM ?_))));unfold callGetattribute;rw[aB (by cases a<;>decide)];unfold boundAndCalled;show wB (wP (wpAny_call ?_));let sub:Looks (model prog w) B (isInstance (.ref x) (.type "BaseException")) true:=m.andThen (looks_mroIn X (by unfold PySem.W.mroIn;rw[l,Option.bind_some,aB (by rw[(Tu .none e).2.2];decide),eU e]));show codeAny_call_builtin FB.ga.plain F.entry_bexc_ga (@check_slot (model prog w) _ _ _ "BaseException.__getattribute__" "BaseException" "__getattribute__" (.ref x) [.str f t] [] _ nofun nofun sub (F.args_bexc_ga (.ref x) (.str f t)) ?_);show wB (wP (wB (wP (wB (m.at (wB (H.at (wP ?_))))))));change 'A' (handedOut v) _ _ _;rw[handedOut_of j];show wP h
end
end L2
namespace L2
open PySem.W
noncomputable abbrev CW(C t:Addr)(d:FG):Obj:={cls:=.ref C,dict:=d,data:=.fields [.ref t,.none,.none,.none,.bool false,.none].toArray}
noncomputable abbrev En(vs:B6):Obj:={cls:=.type "tuple",data:=.seq vs.toArray}
set_option tactic.hygienic true in
def ec{K}{N}{m:Str->C2}{n}{v}(X:K.In h)(G:h.Ns N m)(e:nsIn K N n\(some v)):m n\v:=by
 let[o,es,ep,a,f,_,c]:=G;unfold nsIn at e;split at e
 .rename_i q;let z:=X _ _ q;rw[a]at z;cases z;cases f;split at e
  .rename_i d;rw[<-c];unfold nsFind findBy;simp_all
  lia
 .cases e
noncomputable def Ii(K:Frag)(C:Addr)(newId:String)(fI:Addr):Bool:=((K.lookup C).any λo=>o.cls==.type "type"&&(match o.data with
 |.cls cd=>(match cd.mro with
  |v::bm=>v==.ref C&&tailIn K vE bm|[]=>false)&&o.slots.size==6&&(o.slots.toList[4]?).join==some (.builtin newId)&&!cd.hasDel&&nsOkIn K cd.ns&&nsIn K cd.ns "__init__"==some (some (.ref fI))|_=>false))
def HD{α:Type}{l:List α}(h:l.length=n+1):∃a t,l=a::t/\t.length=n:=by cases l with|nil=>cases h|cons a t=>show{a,t,0,Nat.succ.inj h}
def ee{α:Type}{l:List α}(h:l.length=6):∃a b c d e f,l=[a,b,c,d,e,f]:=by done<;>(let[a,l1,0,h1]:=HD h;let[b,l2,0,h2]:=HD h1;let[c,l3,0,m]:=HD h2;let[d,o,0,j]:=HD m;let[e,l5,0,i]:=HD j;let[f,n,0,g]:=HD i);simp_all
noncomputable def Tv{K}(X:K.In h)(q:Ii K C newId fI=true):∃bm N nm c bs hdct sn sub ab col dd k0 k1 k2 k3 k5 mN,K.lookup C\(excClassObj nm c C N bs bm hdct sn sub ab col dd k0 k1 k2 k3 k5 newId)/\h.Ns N mN/\mN "__init__"\(.ref fI)/\OwnTail h vE bm:=by done<;>(let[o,look,q]:=any_some q;let[oc,dd,p,[i]]:=o);simp only[cB,beq_iff_eq]at q;let[0,q]:=q;cases p with
 |cls cd=>simp only[cB,beq_iff_eq,Bool.not_eq_true']at q;done<;>(let[[[[[a,e],j],g],d],f]:=q;let[nm,bs,mro,ns,c,m,sn,sub,ab,col,r]:=cd);cases mro with|nil=>cases a|cons v bm=>
   simp only[cB,beq_iff_eq]at a;done<;>(let[0,a]:=a;subst g;let e:=e;let[k0,k1,k2,k3,l,k5,0]:=ee e);let n:l\(.builtin newId):=by simpa using j
   subst n;show{bm,ns,nm,c,bs,m,sn,sub,ab,col,dd,k0,k1,k2,k3,k5,_,look,.of_isNs (isNs_of_in X d),ec X (.of_isNs (isNs_of_in X d)) f,tail_of_in X a}
 |_=>cases q
section
variable{g:Array GenState}{d:PySem.Drawn}{t:Nat}{os:PySem.OsState}
variable{nm q:Str}{C N:Addr}{bs bm bmB:B6}{hdct:Bool}{sn:At}{sub:B6}{ab:Bool}{col:Option Bool}{dd:FG}{k0 k1 k2 k3 k5:C2}{B newId initId:String}{mN:Str->C2}{oI:Obj}
def eg{Q}(F:ExcBaseFacts B newId initId bmB)(T:OwnTail h bmB bm)(c:h.get? C\(excClassObj nm q C N bs bm hdct sn sub ab col dd k0 k1 k2 k3 k5 newId))(v:h.Ns N mN)(p:mN "__init__"\(.ref fI))(s:h.get? fI\oI)(y:oI.cls=.type "function")(m:us.length<=sizeLine)(k:'C' (call (.ref fI) (.ref (h.objs.size+1)::us)) (λr s'=>r=.none/\Q (.done (.ret (.ref (h.objs.size+1)))) s') E {(h.push (En us)).push (CW C h.objs.size none),g,d,t,os}):'C' (Builtin.«type.__call__» {.ref C::us,[]}) Q E #[h,g,d,t,os]:=by
 repeat(first|with_reducible show wpAny_loadPart_at c ?_|with_reducible show wpAny_madeBy_exc c ?_|wp_step)
 show codeAny_call_builtin_code (Code.quiet_builtin _ F.quiet) (wpAny_check_new_subT F T c (codeAny_exc_new_subT F T c ?_ m));let f:∀b o,h.get? b\o->((h.push (En us)).push (CW C h.objs.size none)).get? b\o:=λb o e=>aS _ (aS _ e);let a:=f _ _ c;let i:=f _ _ s;let j:((h.push (En us)).push (CW C h.objs.size none)).Ns N mN:=(by let[o,es,ep,e,r]:=v;show{o,es,ep,f _ _ e,r});let z:=T.keeps f;let u:((h.push (En us)).push (CW C h.objs.size none)).get? (h.objs.size+1)\(CW C h.objs.size none):=by heap_get
 let self:(Value.ref C::bm).contains (.ref C)=true:='2'
 change wpAny _ _ _ _ _ _;unfold isInstance
 repeat(first|with_reducible show wpAny_loadPart_at u ?_|(with_reducible show wpAny_isSubtype_exc a ?_;rw[self])|wp_step)
 change 'A' (typeLookup (.ref C) _) _ _ _;show wpAny_typeLookup_tail a j z F.mroIs F.init.lookup ?_;rw[p];show bM (wB ?_);unfold bindSpecial;show wB (wpAny_typeOf (T:="function") #[_,i,y] ?_);rw[aC '3'];show wP (wB (bL k (λr s' l=>?_) λ_ _ x=>x));let[0,n]:=l
 wp_walk
 show n
def eh(F:ExcBaseFacts B newId initId bmB)(T:OwnTail h bmB bm)(a:h.get? C\(excClassObj nm q C N bs bm hdct sn sub ab col dd k0 k1 k2 k3 k5 newId))(i:h.Ns N mN)(e:mN "__init__"\(.ref fI))(f:h.get? fI\oI)(j:oI.cls=.type "function")(c:us.length<=sizeLine)(k:wpAny (model prog w) (A.under (.builtin "type.__call__" {.ref C::us,[]})) (call (.ref fI) (.ref (h.objs.size+1)::us)) (λr s'=>r=.none/\Q (.ref (h.objs.size+1)) s') E {(h.push (En us)).push (CW C h.objs.size none),g,d,t,os}):'C' (call (.ref C) us) Q E #[h,g,d,t,os]:=by
 let m:=tc_lookup;let l:=tc_bind (.ref C);show wpAny_call (codeAny_of_tree ?_);repeat(any_goals(first|assumption|with_reducible show wpAny_loadPart_at a ?_|wp_step))
 show{0,codeAny_call_builtin_at (Code.quiet_builtin _ nofun) entry_typeCall (wpAny_check_type_call_sub a (eg F T a i e f j c k))}
end
section
variable{M:Model}{nm q:Str}{C N:Addr}{bs bm:B6}{hdct:Bool}{sn:At}{sub:B6}{ab:Bool}{col:Option Bool}{dd:FG}{k0 k1 k2 k3 k5:C2}{newId:String}
def en{x}{Q}(g:bm.contains (.type "BaseException")=true)(f:A.handled=none)(h:wpAny M A x (λv s1=>∃e t d,v=.ref e/\s1.heap.get? C\(excClassObj nm q C N bs bm hdct sn sub ab col dd k0 k1 k2 k3 k5 newId)/\s1.heap.get? e\(CW C t d)/\E (.ref e) s1) E s):wpAny M A (raiseStmt env (some x) none) Q E s:=by
 let a:(Value.ref C::bm).contains (.type "BaseException")=true:=by rw[contains_cons,g,Bool.or_true]
 show wB (bL h (λv s1 zz=>?_) λ_ _ x=>x);done<;>let[e,t,d,ev,c,j,i]:=zz;subst ev;repeat(first|with_reducible show wpAny_loadPart_at j ?_|lia|(with_reducible show wpAny_isSubtype_exc c ?_;rw[a])|wp_step)
 show wpAny_raiseNew_none f i
end
section
variable{nm q:Str}{C N:Addr}{bs bm bmB:B6}{hdct:Bool}{sn:At}{sub:B6}{ab:Bool}{col:Option Bool}{dd:FG}{k0 k1 k2 k3 k5:C2}{B newId initId:String}{mN:Str->C2}
noncomputable def et{args:Go}{Q}(F:ExcBaseFacts B newId initId bmB)(o:bm.contains (.type "BaseException")=true)(n:A.handled=none)(i:(backTo qJ (starEach args env)).any (·.1)=false)(h:'C' (eval (.Name x np) env) (λc s1=>c=.ref C/\'C' (evalArgs (.ref C) true (backTo qJ (starEach args env)) [])
   (λa e=>a.kw=[]/\a.pos.length<=sizeLine/\e.heap.get? C\(excClassObj nm q C N bs bm hdct sn sub ab col dd k0 k1 k2 k3 k5 newId)/\e.heap.Ns N mN/\mN "__init__"\(.ref fI)/\OwnTail e.heap bmB bm/\(∃oI,e.heap.get? fI\oI/\oI.cls=.type "function")/\wpAny (model prog w) (A.under (.builtin "type.__call__" {.ref C::a.pos,[]})) (call (.ref fI) (.ref (e.heap.objs.size+1)::a.pos))
     (λr f=>r=.none/\f.heap.get? C\(excClassObj nm q C N bs bm hdct sn sub ab col dd k0 k1 k2 k3 k5 newId)/\(∃t d,f.heap.get? (e.heap.objs.size+1)\(CW C t d))/\E (.ref (e.heap.objs.size+1)) f) E {e with heap:=(e.heap.push (En a.pos)).push (CW C e.heap.objs.size none)}) E s1) E s):'C' (exec (.Raise (some (.Call (.Name x np) args [] qJ)) none pos) env) Q E s:=by rw[arm_exec_Raise];show wB (wpAny_standAt (en (C:=C) (nm:=nm) (q:=q) (N:=N) (bs:=bs) (hdct:=hdct) (sn:=sn) (sub:=sub) (ab:=ab) (col:=col) (dd:=dd) (k0:=k0) (k1:=k1) (k2:=k2) (k3:=k3) (k5:=k5) (newId:=newId) o n ?_));show wB (bL (wpAny_Call_ofName (bL h (λc s1 h1=>?_) λ_ _ x=>x)) (λv f g=>wB (wpAny_standAt (wP g))) λ_ _ x=>x);let[0,h1]:=h1;show wB (bM (bL h1 (λa e h2=>wB (wpAny_standAt ?_)) λ_ _ x=>x));done<;>(let[O,I]:=a;let[G,m,l,D,u,T,[oI,y,H],h2]:=h2;obtain rfl:I=[]:=G);simp only[i];show wB (wpAny_keeperOf_exc l ?_);show wB (eh F T l D u y H m (bL h2 (λr f g=>{g.1,wB (bM (wpAny_point (wP ?_)))}) λ_ _ x=>x));simp_all
end
def XO(a C t:Addr)(d:FG):HO:=(.ext λh=>h.get? a\(CW C t d))
section
variable{C t:Addr}{d:FG}
def Tw{P}(e:h.get? a\(CW C t d)):BB P w H h a (XO a C t d):={e,#[_,e],λ_ _ h1 k=>k _ h1}
def Inv.track(I:'D')(ap:Apart X qA H a)(new:BB X.prog X.w (AB H a o) s.heap a o):Inv X qA U (AB H a o) s:=by
 let ne:∀b u,H b\u->b≠a:=λb u e z=>by rw[z,ap.free]at e;cases e
 show{
  ok:=I.ok,os:=I.os,bare:=I.bare
  base:=#[I.base.keep,I.base.slot,λb u e n d=>by rw[AE (λz=>by rw[z,ap.new]at e;cases e)];show I.base.free b u e n d,I.base.there,λb xs e=>by rw[AE (ne b _ (I.base.tups b xs e))];show I.base.tups b xs e,λb u v e=>by rw[AE (ne b _ (I.base.frzs b u v e))];show I.base.frzs b u v e,λb ps e=>by let[more,q]:=I.base.tbls b ps e;show{more,by rw[AE (ne b _ q)];show q}]
  loc:=I.loc,cell:=I.cell
  free:=by rw[AE ap.loc.symm];show I.free
  freeC:=λx c e=>by rw[AE (ap.cell x c e)];show I.freeC x c e
  pin:=λp hp=>by let[e,n,r]:=I.pin p hp;show{e,by rw[AE (ap.pin p hp)];show n,r}
  hok:=λb u e=>by
   by_cases hb:b=a
   .subst hb;rw[AN]at e;cases e;show new
   .rw[AE hb]at e;show(I.hok b u e).stay (λ_ _ _ q=>q) (λc q=>by rw[AE (ne c _ q)];show q) λc xs q=>by rw[AE (ne c _ q)];show q
  len:=I.len}
def HE(H:Hp)(a:Addr):Hp:=(λb=>if b=a then none else H b)
def Fw(h:b≠a):HE H a b=H b:=aB h
def Inv.drop(I:'D')(ha:H a\(.ext φ)):Inv X qA U (HE H a) s:=by
 let ne:∀b u,H b\u->(∀φ,u≠.ext φ)->b≠a:=λb u e n z=>by rw[z,ha]at e;cases e;show n _ rfl
 let non:∀b,H b=none->HE H a b=none:=λb e=>by
  unfold HE;split
  .rfl
  .show e
 show{
  ok:=I.ok,os:=I.os,bare:=I.bare
  base:=#[I.base.keep,I.base.slot,λb u e n d=>non b (I.base.free b u e n d),I.base.there,λb xs e=>by rw[Fw (ne b _ (I.base.tups b xs e) λ_ z=>nomatch z)];show I.base.tups b xs e,λb u v e=>by rw[Fw (ne b _ (I.base.frzs b u v e) λ_ z=>nomatch z)];show I.base.frzs b u v e,λb ps e=>by let[more,q]:=I.base.tbls b ps e;show{more,by rw[Fw (ne b _ q λ_ z=>nomatch z)];show q}]
  loc:=I.loc,cell:=I.cell,free:=non _ I.free,freeC:=λx c e=>non _ (I.freeC x c e)
  pin:=λp hp=>by let[e,n,r]:=I.pin p hp;show{e,non _ n,r}
  hok:=λb u e=>by
   let hb:b≠a:=λz=>by rw[z]at e;unfold HE at e;rw[aC rfl]at e;cases e
   rw[Fw hb]at e;show(I.hok b u e).stay (λ_ _ _ q=>q) (λc q=>by rw[Fw (ne c _ q λ_ z=>nomatch z)];show q) λc xs q=>by rw[Fw (ne c _ q λ_ z=>nomatch z)];show q
  len:=I.len}
end
def e6(K:Frag)(ta tv:TE)(f:Str):TS:=(λD U H=>tv U H λy H1=>ta U H1 λx H2=>∃a C t,x=.ref a/\H2 a\(XO a C t none)/\XHas K C f/\∀dx,H2 dx=none->D.nx U (AB (AB H2 a (XO a C t (some dx))) dx (.xd [(f,y)])))
section
variable{o value:Expr}{f:Str}{tv:TE}
def e7(hex:X.ex=[])(M:PE X o ta)(G:PE X value tv)(L:swapsWith value (some (.Attribute o f pos')) pos.line X.env=pure false):PS X (.Assign [.Attribute o f pos'] value pos) (e6 X.K ta tv f):=by
 intro qA s U H D I h;show plainObj_wpAny_Assign_Attribute (AQ (G qA s U H _ I h) λu v zz=>?_) L;let[y,H1,T,w,q]:=zz;show AQ (M qA v U H1 _ T q) λB d zz=>?_;done<;>(let[x,H2,i,A,a,C,t,ex,p,c,k]:=zz;subst ex;obtain rfl:B=Value.ref a:=A);let N:=(i.hok a _ p).1;let l:=i.hok.fresh (aQ _);show eW i.kIn N rfl (λc z=>nomatch z) rfl c λh' t' r Q O=>{U,_,?_,k _ l};let E:=(Af p l).symm;let J:=i.write (t':=t') (by rw[p];show True.intro) (.inl rfl) (λb u n q=>O b u n q) #[_,r] (Tw r);let j:(AB H2 a (XO a C t (some d.heap.objs.size))) d.heap.objs.size=none:=by rw[AE E];show l
 show J.track (i.apart hex (Heap.get?_none_of_le (aQ _)) j) {_,Q,λg=>?_};by_cases m:g=f
 .subst m;simp only[List.lookup,beq_self_eq_true,dD];show w
 .let n:=beq_eq_false_iff_ne.mpr m;simp only[List.lookup,n,aB m];trivial
end
def Tz(K:Frag)(f:Str):Sp:=(λvs H Q _=>∃a C t v,vs=[.ref a,v]/\H a\(XO a C t none)/\XHas K C f/\∀dx,H dx=none->Q .non (AB (AB H a (XO a C t (some dx))) dx (.xd [(f,v)])))
def e9{P}{K}{f p}{st}{kV doc d}{g:Array C2}{p1 p2 m l}(n:K.lookup fI\{oc,od,.func (fnOf "__init__" qual (Ca st) (Bi st) (AL st) .none kV doc pm an d ct),g})(j:codeIn K d qual=true)(S:FnScope ["self",p] ["self",p] (AL st))(u:Bi st=[.Assign [.Attribute (.Name "self" p1) f p2] (.Name p m) l])(q:(p==("__debug__":Str))=false)(r:(p==("__classdict__":Str))=false):FnOk P w K mg base CX 1 fI (fnOf "__init__" qual (Ca st) (Bi st) (AL st) .none kV doc pm an d ct) ["self",p] (Tz K f):=by
 let e:∀y∈[("self":Str),p],Dj _ y:=λy o=>(S.par y o).imp_right Or.inl;show JY n j S (λvs H Q E h=>?_) λA outer s H vs Q E z h=>?_
 .let[_,_,_,_,0,_]:=h;rfl
 .let[a,C,t,v,0,x,c,k]:=h;rw[u];show{_,Ao (e7 rfl (ER (i:=0) rfl (e _ '2') '3' '3') (ER (i:=1) rfl (e _ '2') q r) rfl),?_};show{v,0,.ref a,0,a,C,t,0,x,c,k}
structure XClsV(K:Frag)(mg:Str->C2)(x f:Str)(C:Addr):Prop where
 bd:mg x\(.ref C)has:XHas K C f
 init:∃(fI:Addr)(fd:FuncData)(p:Str),Ii K C "ValueError.__new__" fI=true/\isFn K (.ref fI)=true/\Cr K fd ["self",p] []/\∀(P:Program)(w:World)(base:Heap)(CX:Cf),FnOk P w K mg base CX 1 fI fd ["self",p] (Tz K f)
def OJ(X:Cx)(E:XK):Prop:=(∀(qA:List (Addr×Obj))(U:St)(H:Hp)(s:Shared)(e C t:Addr)(d:FG),'D'->'F' e\(CW C t d)->Apart X qA H e->E (.ref C) d H->X.xe (.ref e) s)
def fA{P}{K:Frag}{f}{E}:OJ (FQ P w K mg base N qual sc f cd A outer s₀ H₀ E) E:=λqA U H s e C t d I g h c=>Ku Kv I (.inl #[0,_,_,g,0,0,0,0]) (λb a=>by simp_all) c
def OK(C:Addr)(f:Str)(E:XK)(ta:TE):TS:=(λ_ U H=>ta U H λv H1=>∀dx,H1 dx=none->E (.ref C) (some dx) (AB H1 dx (.xd [(f,v)])))
def fB{f}{E}{y}(hc:X.calm=true)(hex:X.ex=[])(hR:OJ X E)(B:XClsV X.K X.mg x f C)(hr:Room 2 X.A)(ha:PE X y ta)(hg:Gl X x:=by rfl)(O:No x:=by decide+kernel)(hs:starEach [y] X.env=(false,eval y X.env)::starEach [] X.env:=by rfl)(M:(backTo qJ (starEach [y] X.env)).any (·.1)=false:=by rfl):PS X (.Raise (some (.Call (.Name x np) [y] [] qJ)) none pos) (OK C f E ta):=by
 intro qA s U H D I h;done<;>(let[fI,fd,p,ok,fn,m,F]:=B.init;let[bm,N,nm,qn,bs,hdct,sn,sub,ab,col,dd,k0,k1,k2,k3,k5,mN,look,hN,gi,tl]:=Tv I.mod.kin ok);show et (fI:=fI) (nm:=nm) (q:=qn) (N:=N) (bs:=bs) (hdct:=hdct) (sn:=sn) (sub:=sub) (ab:=ab) (col:=col) (dd:=dd) (k0:=k0) (k1:=k1) (k2:=k2) (k3:=k3) (k5:=k5) (mN:=mN) PySem.F.excBase_ValueError (tl.hasType nofun) (I.ok.hd hc) M (E2 I hg B.bd #[0,?_] O);let hA:=(AK ha Ab hs) qJ qA s U H (λvs H1=>∃v,vs=[v]/\∀dx,H1 dx=none->E (.ref C) (some dx) (AB H1 dx (.xd [(f,v)]))) I (by
  show Eq.mp ?_ h;unfold OK
  congr 1
  simp[BU])
 rw[hs]at hA⊢;show Calls.evalArgs_plain (AQ hA λus c zz=>?_);done<;>(let[vs,H1,i,r,v,ev,hE]:=zz;subst ev;obtain⟨u,qE,eu,G,J⟩:∃u qE,us=u::qE/\AR v u/\qE=[]:=by cases r with|cons G J=>cases J;show#[_,_,0,G,0])
 subst J eu;let kp:∀b o,c.heap.get? b\o->((c.heap.push (En [u])).push (CW C c.heap.objs.size none)).get? b\o:=λb o e=>aS _ (aS _ e);let ge:((c.heap.push (En [u])).push (CW C c.heap.objs.size none)).get? (c.heap.objs.size+1)\(CW C c.heap.objs.size none):=by heap_get
 let ρ:=i.laid (t':=c.toks) kp (cS _) (Tw ge);obtain⟨oI,gI,cI⟩:∃oI,X.K.lookup fI\oI/\oI.cls=.type "function":=by let[oI,q1,q2]:=aJ.mp (beq_iff_eq.mp fn);show#[oI,q1,q2]
 show{0,(by change 1<=16777216;decide),i.kIn _ _ look,hN.keeps i.bk,gi,tl.keeps i.bk,{oI,i.kIn _ _ gI,cI},?_};let j:=i.hok.fresh (cS _);show wpAny_call (codeAny_mono ((F X.prog X.w X.base Dm).run _ X.stack _ _ {[.ref (c.heap.objs.size+1),u],[]} [.ref (c.heap.objs.size+1),u] [.ref (c.heap.objs.size+1),v]
  (λz H'=>z=.non/\∃dx,H1 dx=none/\dx≠c.heap.objs.size+1/\H'=AB (AB H1 (c.heap.objs.size+1) (XO (c.heap.objs.size+1) C c.heap.objs.size (some dx))) dx (.xd [(f,v)])) E0 (hr.make C [u] []) (ρ.env0.make C [u] [])
  (m _ [.ref (c.heap.objs.size+1),u] ρ.kIn rfl) (.cons rfl (.cons G .nil)) #[_,C,_,v,0,AN,B.has,λdx d=>#[0,dx,?_,?_,?_]]) λL s' l=>?_)
 .let:dx≠c.heap.objs.size+1:=λz=>by rw[z,AN]at d;cases d
  rwa[AE this]at d
 .showλz=>by rw[z,AN]at d;cases d
 .rw[HM]
 cases L with|error ev=>show l.elim|ok fl=>cases fl with
  |ret z=>
   done<;>(let[zv,H',σ,rz,ez,dx,d,g,T]:=ρ.after l;subst ez T;obtain rfl:z=Value.none:=rz);let e4:(AB (AB H1 (c.heap.objs.size+1) (XO (c.heap.objs.size+1) C c.heap.objs.size (some dx))) dx (.xd [(f,v)])) (c.heap.objs.size+1)\(XO (c.heap.objs.size+1) C c.heap.objs.size (some dx)):=by rw[AE g.symm,AN]
   let n:=(σ.hok _ _ e4).1;let I5:=σ.drop e4;let T:HE (AB (AB H1 (c.heap.objs.size+1) (XO (c.heap.objs.size+1) C c.heap.objs.size (some dx))) dx (.xd [(f,v)])) (c.heap.objs.size+1)=AB H1 dx (.xd [(f,v)]):=by
    funext b
    by_cases m:b=c.heap.objs.size+1
    .subst m;rw[AE g.symm,j];show aC rfl
    .rw[Fw m];by_cases Q:b=dx
     .subst Q;rw[AN,AN]
     .rw[AE Q,AE m,AE Q]
   rw[T]at I5;show{0,σ.kIn _ _ look,#[_,_,n],hR qA U _ s' _ C _ (some dx) I5 n (i.apart hex (Heap.get?_none_of_le (cS _)) ?_) (hE dx d)};rw[AE g.symm];show j|next=>show l.elim|brk=>show l.elim|cont=>show l.elim
def xok(K:Frag)(C:Addr):Prop:=(excIn K C vE "ValueError.__new__"=true\/∃fI,Ii K C "ValueError.__new__" fI=true)
def Kw{K}(X:K.In h)(q:xok K C):∃bm N nm a bs hdct sn sub ab col dd k0 k1 k2 k3 k5,K.lookup C\(excClassObj nm a C N bs bm hdct sn sub ab col dd k0 k1 k2 k3 k5 "ValueError.__new__")/\OwnTail h vE bm:=by
 let q||[fI,q]:=q
 .done<;>let[bm,N,nm,a,bs,hdct,sn,sub,ab,col,dd,k0,k1,k2,k3,k5,mN,look,_,_,tl]:=Tr X q;show#[bm,N,nm,a,bs,hdct,sn,sub,ab,col,dd,k0,k1,k2,k3,k5,look,tl]
 .let[bm,N,nm,a,bs,hdct,sn,sub,ab,col,dd,k0,k1,k2,k3,k5,mN,look,_,_,tl]:=Tv X q;show#[bm,N,nm,a,bs,hdct,sn,sub,ab,col,dd,k0,k1,k2,k3,k5,look,tl]
noncomputable abbrev Cx.markE(X:Cx)(a:Addr)(oe:Obj):Cx:={X with A:=X.A.mark (some (.ref a)),calm:=false,xe:=λ_ _=>False,pn:=(a,oe)::X.pn}
section
variable{oe:Obj}
def Inv.markE(I:'D')(ap:Apart X qA H a)(e:'F' a\oe)(c:∀v,oe.data≠.cell v):Inv (X.markE a oe) qA U H s:=by
 show#[{I.ok.mod,I.ok.kind,I.ok.glob,I.ok.blt,I.ok.above,I.ok.inj,I.ok.has,I.ok.cab,λz=>(by cases z),I.ok.frames,I.ok.stk,I.ok.exf,I.ok.bs,I.ok.bsz,I.ok.noex,I.ok.exfs,I.ok.funs,I.ok.frf},I.os,I.bare,I.base,I.loc,I.cell,I.free,I.freeC,λp hp=>?_,I.hok,I.len];let 0||hp:=aF.mp hp
 .show{e,ap.free,ap.loc,λz=>?_,c};let[_,o,q,_]:=I.ok.funs.mem z;rw[ap.new]at q;cases q
 .show I.pin p hp
def Inv.unmarkE(J:X.Ok)(I:Inv (X.markE a oe) qA U H s):'D':={J,I.os,I.bare,I.base,I.loc,I.cell,I.free,I.freeC,λp hp=>I.pin p (bT _ hp),I.hok,I.len}
def Inv.relocal{f:Str->C2}(I:'D')(hs:Heap.SameBut X.env.locals s.heap h')(hn:h'.Ns X.env.locals f)(l:∀(i:Nat)(x)(v),X.N[i]?\x->σ'[i]?\(some v)->Dj X.env.scope x->∃u,AR v u/\PX X.env h' f x u)(len:σ'.length=U.length):Inv X qA σ' H {s with heap:=h',toks:=t'}:=by
 let ne:∀b o,X.s₀.heap.get? b\o->b≠X.env.locals:=λb o e=>bX (aU (bN e) I.ok.above);show{I.ok,I.os,I.bare,{λb o e n hb a=>?_,λb o e n hb a=>?_,I.base.free,λb o e a=>?_,I.base.tups,I.base.frzs,I.base.tbls},#[f,hn,l],λy c e=>?_,I.free,I.freeC,λp hp=>?_,λb u e=>?_,len.trans I.len}
 .show(hs.2 b (ne b o e)).trans (I.base.keep b o e n hb a)
 .let[sl,g]:=I.base.slot b o e n hb a;show{sl,(hs.2 b (ne b o e)).trans g}
 .let[o',g]:=I.base.there b o e a;show{o',(hs.2 b (ne b o e)).trans g}
 .let[h,z]:=I.cell y c e;show{h,z.sameBut hs (I.cne y c e)}
 .let[e,n,ne,j,d]:=I.pin p hp;show{(hs.2 p.1 ne).trans e,n,ne,j,d}
 .show(I.hok b u e).stay (λc h hc q=>(hs.2 c ?_).trans q) (λ_ q=>q) λ_ _ q=>q;rintro rfl;let 0||hc:=hc
  .rw[I.free]at e;cases e
  .rw[I.free]at hc;cases hc
def Ky{n}{Q}(I:'D')(y:X.N.Nodup)(hi:X.N[k]?\n)(g:X.env.scope.names.lookup n\.local)(h:∀s',Inv X qA (U.set k none) H s'->Q () s'):wpAny M A (do bindName X.env n .none;unbindBehindTheSuite X.env n pos) Q E s:=by
 let j:(X.env.scope.kind==.class||(X.env.scope.kind==.module&&X.env.locals !=X.env.globals))=false:=by rw[I.ok.kind];rfl
 let d:k<U.length:=by rw[I.len];show(aI.mp hi).1
 show wB (wpAny_bindName (L4 (v:=.non) I y hi (.inl g) rfl (λD r=>?_) (.inr g)));let[m,O,f]:=id r.loc;let[u,_,q]:=f k n .non hi (bY d) (.inl g);let L:m n\u:=by
  let[_,q]||[q,_]:=q
  .show q
  .let q':X.env.scope.names.lookup n\.cell\/X.env.scope.names.lookup n\.free:=q;rw[g]at q';let q'||q':=q'<;>cases q'
 show wpAny_onRaise (wpAny_unbindName_local g O L j λh' u' p w=>h _ (r.relocal w p (λi x v B l T=>?_) '2'));by_cases a:i=k
 .subst a;rw[bY d]at l;cases l
 .rw[bV (Ne.symm a)]at l;let[C,G,J]:=f i x v B (by rw[bV (Ne.symm a)];show l) T;show#[C,G,?_];let o:x≠n:=λe=>a (Ly y B (e▸hi));let[k1,e]||[k1,c,e,z]:=J
  .show .inl {k1,by simp[o,e]}
  .show .inr {k1,c,e,z.sameBut w (r.cne x c e)}
def T0(K:Frag)(k:Nat)(a dx C:Addr)(f:Str):TE:=(λU H Q=>U[k]?\(some (.ref a))/\XHas K C f/\∃fs v,H dx\(.xd fs)/\fs.lookup f\v/\Q v H)
def fC{n f}{p}(x:(a,oe)∈X.pn)(B:oe.cls=.ref C)(A:oe.dict\dx)(y:∀c,oe.data≠.cls c)(E:X.N[k]?\n)(m:Dj X.env.scope n)(D:attributeBase (.Name n p) f X.env (eval (.Name n p) X.env)=eval (.Name n p) X.env)(g:(n==("__debug__":Str))=false:=by decide)(e:(n==("__classdict__":Str))=false:=by decide):PE X (.Attribute (.Name n p) f pos) (T0 X.K k a dx C f):=by rintro qA s U H Q I⟨h1,c,fs,v,j,l,q⟩;show Px D (AQ (ER E m g e qA s U H (λz H'=>z=.ref a/\H'=H) I #[_,h1,0,0]) λu L zz=>?_);done<;>(let[z,H1,d,i,G,J]:=zz;subst G J;obtain rfl:u=Value.ref a:=i;let[mA,ns,r]:=d.hok dx _ j;let[u',w,h]:=CK.some_of (by rw[<-l];show r f));show eZ d.kIn (d.pin _ (mem_append_left _ x)).1 B y A ns c w (Pu h) {v,_,d.tok _,h,q}
def OL(K:Frag)(C:Addr)(ts:TS)(thr:Value->FG->TS):Value->FG->TS:=(λcls d D U H=>∃C1,cls=.ref C1/\xok K C1/\if mroIn K C1 C=true then ts D U H else thr cls d D U H)
def FR{ts}{g}{o}{c:Ha}{qE}(ow:Own X)(y:X.mg x\(.ref C))(p:xok X.K C)(v:∀a,BS (X.mark a) (o::c) ts)(w:HC X qE g)(A:Gl X x:=by rfl)(m:No x:=by decide+kernel):HC X (.ExceptHandler (some (.Name x np)) none (o::c) pos::qE) (OL X.K C ts g):=by
 rintro qA s U H D a T L d I tr pa pT⟨n,rfl,l,h⟩;done<;>(let[bm,N,nm,Q,bs,hdct,sn,sub,ab,col,dd,k0,k1,k2,k3,k5,look,tl]:=Kw I.mod.kin l;let[bm',N',nm',u,bs',hdct',sn',sub',ab',col',dd',l0,l1,l2,l3,l5,e,j]:=Kw I.mod.kin p;let[B,[oe,vs,E,G,_,_,_],_]:=id tr);let em:mroIn X.K n C=(Value.ref n::bm).contains (.ref C):=by unfold mroIn;rw[look]
 show wpAny_handleBy_cons (codeAny_handlers_test (E2 (I.mark) A y ?_ m)) (by intro q;cases q);show Ts (I.kIn _ _ look) (I.kIn _ _ e) E G (j.hasType nofun) ?_;rw[<-em];cases i:mroIn X.K n C with
 |false=>rw[i]at h;show w qA _ U H D a T _ d I tr pa pT h|true=>
  rw[i]at h;show codeAny_handlers_suite (Kt tr λρ M r=>?_);let J:=I.chg ow (M.mono (λ_ z=>bS z '2') λ_ z=>z) λb i=>by rw[bI.mp i];show pT
  show bL (v a qA _ U H D (J.mark) h) (λf O q=>q.unmark J.ok) λ_ _ z=>False.elim z
def T3(K:Frag)(C:Addr)(k:Nat)(ts:Addr->Addr->Addr->TS)(thr:Value->FG->TS):Value->FG->TS:=(λcls d D U H=>∃C1,cls=.ref C1/\xok K C1/\if mroIn K C1 C=true then∃dx,d\dx/\∀a,ts a dx C1 {nx:=λσ' H'=>D.nx (σ'.set k none) H',rt:=D.rt,bk:=λσ' H'=>D.bk (σ'.set k none) H',ct:=λσ' H'=>D.ct (σ'.set k none) H'} (U.set k (some (.ref a))) H else thr cls d D U H)
def fD{n}{ts}{c:Ha}{qE}(ow:Own X)(hm:X.mg x\(.ref C))(xc:xok X.K C)(m:X.N.Nodup)(hi:X.N[k]?\n)(j:X.env.scope.names.lookup n\.local)(hs:∀a oe dx i,oe.cls=.ref i->oe.dict\dx->(∃vs,oe.data=.fields vs)->BS (X.markE a oe) (b0::c) (ts a dx i))(hr:HC X qE l)(hg:Gl X x:=by rfl)(B:No x:=by decide+kernel):HC X (.ExceptHandler (some (.Name x np)) (some n) (b0::c) pos::qE) (T3 X.K C k ts l):=by
 rintro qA s U H D a T a2 d I tr pa pT⟨i,rfl,A,h⟩;done<;>(let[bm,N,nm,qn,bs,hdct,sn,sub,ab,col,dd,k0,k1,k2,k3,k5,look,tl]:=Kw I.mod.kin A;let[bm',N',nm',a1,bs',hdct',sn',sub',ab',col',dd',l0,l1,l2,l3,l5,e,w]:=Kw I.mod.kin xc;let[G,[oe,vs,Q,σ,ed,o,_],_]:=id tr);let em:mroIn X.K i C=(Value.ref i::bm).contains (.ref C):=by unfold mroIn;rw[look]
 show wpAny_handleBy_cons (codeAny_handlers_test (E2 (I.mark) hg hm ?_ B)) (by intro q;cases q);show Ts (I.kIn _ _ look) (I.kIn _ _ e) Q σ (w.hasType nofun) ?_;rw[<-em];cases p:mroIn X.K i C with|false=>rw[p]at h;show hr qA _ U H D a T _ d I tr pa pT h|true=>
  rw[p,aC rfl]at h;let[dx,0,h]:=h;show codeAny_handlers_suite_as (Kt tr λh3 ρ a0=>?_);let J:=I.chg ow (ρ.mono (λ_ z=>bS z '2') λ_ z=>z) λb p=>by rw[bI.mp p];show pT
  let L:=ρ.keep a oe '2' (λz=>G (bI.mp z).symm) Q;show Lz (v:=.ref a) J m hi (.inl j) rfl (λO J2 zz=>?_) (.inr j);let[b,sb,E]:=zz;let ne:a≠b:=by
   let z||z:=E
   .rw[z];show pa.loc
   .show(pa.cell _ _ z).symm
  let M:=(sb.2 a ne).trans L;let J3:=J2.markE pa M λv z=>by rw[o]at z;cases z
  show bL (hs a oe dx i σ ed #[vs,o] qA O _ H _ J3 (h a)) (λfl s4 q=>?_) λ_ _ z=>False.elim z;cases fl with
  |next=>let[σ',H',g,q]:=q;show Ky (g.unmarkE J.ok) m hi j λy f=>#[_,H',f,q]|brk=>let[σ',H',g,q]:=q;show Ky (g.unmarkE J.ok) m hi j λy f=>#[_,H',f,q]|cont=>let[σ',H',g,q]:=q;show Ky (g.unmarkE J.ok) m hi j λy f=>#[_,H',f,q]|ret u=>let[v,σ',H',g,r,q]:=q;show Ky (g.unmarkE J.ok) m hi j λy f=>#[v,_,H',f,r,q]
end
end L2
namespace L2
mutual
noncomputable def P.dry:P->Bool|.lst _=>false|.dT _ _=>false|.dK _ _=>false|.fT _ _=>false|.bag=>false|.tup xs=>P.drys xs|.non=>true|.bl _=>true|.int _=>true|.str _=>true
noncomputable def P.drys:dI->Bool|[]=>true|x::r=>x.dry&&P.drys r
end
@[simp]theorem ABX(i):(P.int i).dry=true:=by simp[P.dry]
@[simp]theorem ABY(i):(P.str i).dry=true:=by simp[P.dry]
@[simp]theorem ABZ(xs:dI):(P.tup xs).dry=P.drys xs:=by simp[P.dry]
@[simp]theorem ABa:P.drys []=true:=by simp[P.drys]
@[simp]theorem T4(x)(xs:dI):P.drys (x::xs)=(x.dry&&P.drys xs):=by simp[P.drys]
@[simp]theorem T5:∀ns:By,P.drys (ns.map P.int)=true|[]=>'2'|n::r=>by simp[T5 r]
section
variable{b b':Addr}{Z':Addr->Prop}
mutual
theorem Rp.dry:∀{x:P}{v:V},x.dry=true->Rp b Z H x v->Rp b' Z' H x v
 |.non,_,_,h=>h|.bl _,_,_,h=>h|.int _,_,_,h=>h|.str _,_,_,h=>h|.bag,_,hi,_=>by simp[P.dry]at hi|.tup xs,v,hi,h=>by let[p,vs,h1,h2,a]:=h;show{p,vs,h1,h2,AC.dry (~~~hi) a}|.lst _,_,hi,_=>by simp[P.dry]at hi|.dT _ _,_,hi,_=>by simp[P.dry]at hi|.fT _ _,_,hi,_=>by simp[P.dry]at hi|.dK _ _,_,hi,_=>by simp[P.dry]at hi
theorem AC.dry:∀{xs:dI}{vs:dH},P.drys xs=true->AC b Z H xs vs->AC b' Z' H xs vs
 |[],_,_,h=>h|x::xs,vs,hi,h=>by let[v,r,h1,h2,a]:=h;rw[T4,cB]at hi;show{v,r,h1,Rp.dry hi.1 h2,AC.dry hi.2 a}end
end
noncomputable abbrev Eo:=dI->(P->Prop)->(Xn->Prop)->Prop
noncomputable abbrev HF:=Xn->Hp->Prop
noncomputable def Ep(Kf:Fg)(mg:Str->C2)(E:XK):HF
 |.nm n,H'=>∀C,XCls Kf mg n C->E (.ref C) none H'|.vl n f x,H'=>∀C dx v,XClsV Kf mg n f C->x.dry=true->H' dx\(.xd [(f,v)])->(∀b Z,Rp b Z H' x v)->E (.ref C) (some dx) H'
def Fx(Kf:Fg)(mg:Str->C2)(f:Eo):Sp:=(λvs H Q E=>∃(b a:Addr)(xs:dI)(K:P->Prop)(Kx:Xn->Prop),Bag H b a/\AC b (λp=>p=b) H xs vs/\f xs K Kx/\(∀x v H',K x->Step b a H H'->Rp b (λp=>H p≠none) H' x v->Q v H')/\∀n H',Kx n->Step b a H H'->Ep Kf mg E n H')
section
variable{K:Fg}
def T6{st}{f}(D:Ai K mg x st)(S:FnScope N ps (AL st))(G:∀(kV doc pm)(an:FG)(c ct)(us:B6),us.length=ps.length->bindArgs (PySem.W.fnOf x x (Ca st) (Bi st) (AL st) .none kV doc pm an c ct) {us,[]}=pure (ps.zip us))(len:∀xs K Kx,f xs K Kx->xs.length=ps.length)(I:ps.length<=N.length)(d:∀(j)(c)(A)(outer)(s)(H)(E),Room k (A.deeper (PyProof.Rows.envOfC x (AL st) 'H' j c))->∃p,BK (λ_:Unit=>FQ P' w K mg base N x (AL st) j c A outer s H E) (Bi st) p/\∀xs Kn Kx,f xs Kn Kx->p {nx:=λ_=>Kn .non,rt:=Kn,ex:=λn X=>Kx n/\X=Ep K mg E} (FI N.length xs)):CV P' w K mg base x (k+1) ps (Fx K mg f):=by
 show HB D S G (λvs H Q E h=>?_) (λj c A outer s H vs Q E C h=>?_)
 .done<;>let[b,a,xs,K,Kx,_,r,i,_]:=h;rw[<-r.length];show len xs K Kx i
 .done<;>(let[b,a,xs,u,Kx,g,r,i,q,J]:=h;let[p,[t,h1,h2],L]:=d j c A outer s H E C);show#[t,h1 (),h2 _ _ _ H _ _ (RP g r (by rw[len xs u Kx i];show I)) (L xs u Kx i) {λY U H' e ok=>?_,λy v H' e l=>?_,λ_ _ _ e=>e.elim,λ_ _ _ e=>e.elim,λ_ z=>z,λn H' EX e o m=>?_}]
  .show q _ _ H' e #[ok.bag,ok.old] rfl
  .show q y v H' e #[l.1,l.2.1] l.2.2
  .let[B,0]:=e;show J n H' B #[o,m]
end
noncomputable abbrev pX:=dJ->(P->Fl->Prop)->(Xn->Prop)->Prop
noncomputable abbrev fE:=dJ->(List (P×Fl)->Prop)->(Xn->Prop)->Prop
section
variable{EX:HF}{a e:Expr}{pa:pX}{pr:fE}
def T7(EX:HF)(n:Str)(p:pA):pS:=(λE Y=>p Y λxs=>xs.length<=100/\E.ex n EX)
def T9{D}{E}(ok:Ok W Y U H)(r:RelD W E D):∀n H',E.ex n EX->Step W.b W.a H H'->EX n H':=λn H' e s=>r.ex n H' EX e s.bag (ok.step s).old
def UA{pa}{E}(d:XCls Kf mg x C)(q:∀i,(Xs i).K=Kf)(l:∀i,(Xs i).mg=mg)(n:∀i,(Xs i).calm=true)(p:∀i,OH (Xs i) E)(o:QA Xs (e::es) pa)(m:∀i,Gl (Xs i) x:=by rfl)(c:No x:=by decide+kernel)(j:∀i,starEach (e::es) (Xs i).env=(false,eval e (Xs i).env)::starEach es (Xs i).env:=by rfl)(a:∀i,(backTo qJ (starEach (e::es) (Xs i).env)).any (·.1)=false:=by rfl):QS Xs (.Raise (some (.Call (.Name x np) (e::es) [] qJ)) none pos) (T7 (Ep Kf mg E) x pa):=by let[t,h1,h2]:=o;show{Tt C E t,λi=>eR (n i) (p i) (by rw[q i,l i];show d) (h1 i) (m i) c (j i) (a i),λW Y U H D s ok h r=>h2 W Y U H _ _ ok h λxs vs H1 zz f g=>?_};let[k0,k1]:=zz;show{by rw[g.length];show k0,T9 ok r x H1 k1 f C d}
def UB(EX:HF)(n f:Str)(p:pE):pS:=(λE Y=>p Y λx _=>x.dry=true/\E.ex (.vl n f x) EX)
def fF{f}{n}{E}(l:XClsV Kf mg x f C)(G:∀i,(Xs i).K=Kf)(s:∀i,(Xs i).mg=mg)(w:∀i,(Xs i).calm=true)(hex:∀i,(Xs i).ex=[])(B:∀i,OJ (Xs i) E)(q:∀i,Room 2 (Xs i).A)(z:QE Xs e n)(u:∀i,Gl (Xs i) x:=by rfl)(j:No x:=by decide+kernel)(p:∀i,starEach [e] (Xs i).env=(false,eval e (Xs i).env)::starEach [] (Xs i).env:=by rfl)(d:∀i,(backTo qJ (starEach [e] (Xs i).env)).any (·.1)=false:=by rfl):QS Xs (.Raise (some (.Call (.Name x np) [e] [] qJ)) none pos) (UB (Ep Kf mg E) x f n):=by let[t,h1,h2]:=z;show{OK C f E t,λi=>fB (w i) (hex i) (B i) (by simp_all) (q i) (h1 i) (u i) j (p i) (d i),λW Y U H D J ok h r=>h2 W Y U H _ _ ok h λy I v H1 zz m o dx g=>?_};let[k0,k1]:=zz;let c:=ok.step m;let st:Step W.b W.a H1 (AB H1 dx (.xd [(f,v)])):=Step.new c.bag g;show T9 ok r _ _ k1 (m.trans st) C dx v l k0 AN λb Z=>?_;show(((o.any c).step st c.bag).dry k0)
def fG(k:Nat)(E:PEnds):PEnds:=({E with nx:=λY=>Y[k]?\.emp/\E.nx Y,bk:=λY=>Y[k]?\.emp/\E.bk Y,ct:=λY=>Y[k]?\.emp/\E.ct Y})
def UC(Kf:Fg)(mg:Str->C2)(n x:Str):Prop:=(∀C C',mg n\(.ref C)->mg x\(.ref C')->mroIn Kf C C'=false)
def XCls.xok{n}(x:XCls Kf mg n C):xok Kf C:=.inl x.ok
def XClsV.xok{n f}(x:XClsV Kf mg n f C):xok Kf C:=by let[fI,_,_,q,_]:=x.init;show .inr #[fI,q]
set_option tactic.hygienic true in
def fH{K:Fg}{id}(q:PySem.W.excIn K C vE id=true):mroIn K C C=true:=by
 unfold PySem.W.excIn at q;unfold mroIn;split at q
 .rename_i look;rw[look];split at q
  .simp_all
  .cases q
 .cases q
noncomputable def fJ{K:Fg}{id}(q:Ii K C id fI=true):mroIn K C C=true:=by let[o,look,q]:=PySem.W.any_some q;let[oc,dd,c,d]:=o;simp only[cB,beq_iff_eq]at q;unfold mroIn;rw[look];let[_,q]:=q;cases c with
 |cls cd=>simp only[cB,beq_iff_eq]at q;let[[[[[q,_],_],_],_],_]:=q;change cd.mro.contains _=true;cases a:cd.mro with|nil=>simp_all|cons v bm=>simp_all
 |_=>cases q
def UD{K:Fg}(q:xok K C):mroIn K C C=true:=by
 let q||[fI,q]:=q
 .show fH q
 .show fJ q
end
section
end
open PySem.W
noncomputable abbrev Bd(own:Value)(fl:Bool)(d:Addr)(i n ep:Nat)(ok ov:Value):Obj:={cls:=.type "dict_itemiterator",data:=.fields [own,.bool fl,.ref d,.int i 0,.int n 0,.int ep 0,ok,ov].toArray}
noncomputable abbrev Dg(k v:Value):Obj:={cls:=.type "tuple",data:=.seq [k,v].toArray}
def Es(h:Heap)(it d:Addr)(i n ep:Nat):Prop:=(∃own fl ok ov,h.get? it\(Bd own fl d i n ep ok ov)/\((own=.none/\fl=false)\/∃(a:Addr)(oa:Obj),own=rawInt a/\h.get? a\oa/\a≠it))
def Es.lt(x:Es h it d i n ep):it<h.objs.size:=by let[_,_,_,_,e,_]:=x;show bN e
def Es.keep(x:Es h it d i n ep)(k:∀o,h.get? it\o->h'.get? it\o)(t:∀b o,h.get? b\o->∃o',h'.get? b\o'):Es h' it d i n ep:=by let[own,f,ok,ov,e,q]:=x;show{own,f,ok,ov,k _ e,q.imp_right λzz=>?_};let[a,c,m,l,j]:=zz;let[o',g]:=t a c l;show#[a,o',m,g,j]
section
variable{es:Array DictEntry}
def fK{Q:C2->Shared->Prop}(st:Es s.heap it d i es.size ep)(hm:B4 s.heap d es ep)(hi)(hQ:∀h',Es h' it d (i+1) es.size ep->h'.get? 'H'\(Dg es[i].key es[i].val)->h'.objs.size='H'+1->(∀b o,b≠it->'F' b\o->h'.get? b\o)->Q (some (.ref 'H')) {s with heap:=h'}):'C' (pyNext (.ref it)) Q E s:=by
 let[f,y,B,tk,os]:=s;let[j,N,ok,D,I,hw]:=st;let[od,G,_,H]:=id hm;let ty:Shared.TypeIs #[f,y,B,tk,os] (.ref it) "dict_itemiterator":=#[_,I,0];let C:Builtin.Dict_items.ownsTuple "dict_itemiterator"=true:=by decide
 unfold pyNext;show wB (wpAny_attempt (wpAny_callSpecial?_slot ty F.slot_dict_itemiterator_next (cQ F.slot_dict_itemiterator_next ty F.entry_dict_itemiterator_next ?body (F.args_dict_itemiterator_next_1 _))));show wB (wP (wB (wB ?_)))
 first
  |show wB (wpAny_typeNameOfWhole_itemiter ty (wP (wB (wpAny_fieldsOf I rfl ?_))))|show wB (wpAny_typeNameOf_itemiter ty (wP (wB (wpAny_fieldsOf I rfl ?_))))
 simp only[C,dD];change 'A' (if(Value.ref d==Value.none)=true then _ else _) _ _ _;rw[aB (show¬(Value.ref d==Value.none)=true from cH)];show wB (wP (wB (wpAny_dictEntries G H ?_)));rw[aB '2'];show wB (wP (wB (wpAny_dictEpoch G H ?_)));rw[aB '2'];show wP ?_;simp only[show¬((i:Int)<0)by simp,if_false,Int.toNat_natCast,cL hi];show wB ?_
 first
  |show wB (wpAny_typeNameOfWhole_itemiter ty (wP (wB (wpAny_isOneOf_itemiter ty ?_))))|show wB (wpAny_typeNameOf_itemiter ty (wP (wB (wpAny_isOneOf_itemiter ty ?_))))
 change 'A' (setField (.ref it) 3 (rawInt ((i:Int)+1))>>=_) _ _ #[f,y,B,tk,os];show wB (wpAny_setField_rec I '2' λh1 g1 b1=>?_);let J:=b1;let r:h1.get? it\(Bd j N d (i+1) es.size ep ok D):=by let e:((i+1:Nat):Int)=(i:Int)+1:=(by simp);unfold Bd;rw[e];simpa[rawInt]using g1
 let g:Shared.TypeIs #[h1,y,B,tk,os] (.ref it) "dict_itemiterator":=#[_,r,0];show wB (bM (wB (wpAny_isOneOf_itemiter g (wB (wpAny_isOneOf_itemiter g ?_)))));change 'A' (Builtin.Dict_items.pairFromOwner (.ref it) 6 es[i].key es[i].val) _ _ #[h1,y,B,tk,os];unfold Builtin.Dict_items.pairFromOwner;show wB (wpAny_newTuple ?_);let il:=bN I;let h:=J.1;obtain⟨h2,z⟩:∃h2,h2=h1.push (Dg es[i].key es[i].val):=#[_,0];let q:h2.get? it\(Bd j N d (i+1) es.size ep ok D):=by rw[z];show aS _ r
 let p2:h2.get? f.objs.size\(Dg es[i].key es[i].val):=by rw[z,<-h];show bP _ rfl
 let z2:h2.objs.size=f.objs.size+1:=by rw[z,Heap.size_push,h]
 let k2:∀b o,b≠it->f.get? b\o->h2.get? b\o:=λb o L e=>by rw[z];show aS _ (J.extBut b o L e)
 change 'A' (Builtin.Dict_items.ownedTupleIsFree (.ref it)>>=_) _ _ {h1.push (Dg es[i].key es[i].val),y,B,tk,os};rw[h,<-z];clear z g1 r b1 g;let ne:=Nat.ne_of_gt il;let v:∀(h')(c)(u)(m l:Value),h'.get? it\(Bd c u d (i+1) es.size ep m l)->Heap.SameBut it h2 h'->(∃(a:Addr)(oa:Obj),c=rawInt a/\h2.get? a\oa/\a≠it)->Q (some (.ref f.objs.size)) #[h',y,B,tk,os]:=λh' c u m l g' b'⟨a,oa,ea,O,na⟩=>hQ h' #[c,u,m,l,g',.inr {a,oa,ea,b'.extBut a oa na O,na}] (b'.extBut _ _ ne p2) (by change h'.objs.size=f.objs.size+1;rw[b'.1,z2]) λb o L e=>b'.extBut b o L (k2 b o L e)
 show wB ?_;unfold Builtin.Dict_items.ownedTupleIsFree;show wB (wpAny_field q rfl rfl ?_);let[0,0]||[a,oa,0,O,na]:=hw
 .show wP ?_;simp only[dD];show wB (wpAny_field q rfl rfl (wB (wpAny_field q rfl rfl ?_)));show wB (wpAny_setField_rec q '2' λM g3 b3=>?_);let p:=g3;show wB (wpAny_setField_rec p '2' λh4 g4 b4=>?_);let ρ:=g4;show wB (wpAny_setField_rec ρ '2' λh5 g5 b5=>?_);let σ:=g5;show wB (wpAny_setField_rec σ '2' λh6 g6 b6=>?_);let T:=g6;show wB (wpAny_letGo (wP (wP {_,0,wP (v h6 _ _ _ _ T (((Heap.SameBut.trans b3 b4).trans b5).trans b6) #[_,_,0,p2,ne])})))
 .let n:=k2 a oa na O;change 'A' (loadIfAlive ((a:Int).toNat)>>=_) _ _ _;rw[Int.toNat_natCast];show wB (kdx_alive n ?_);simp only[Option.isNone_some,Bool.false_eq_true,if_false];show wB (wpAny_field q rfl (x:=.bool N) rfl ?_);cases N with
  |true=>rw[aB (show¬(Value.bool true !=Value.bool true)=true from cH)];show wP ?_;simp only[Bool.false_eq_true,if_false];show wP (wP {_,0,wP (v h2 _ _ _ _ q (Heap.SameBut.refl _ _) #[a,oa,0,n,na])})|false=>rw[aC (show(Value.bool false !=Value.bool true)=true from rfl)];show wB (wpAny_setField_rec q '2' λM g3 b3=>?_);let p:=g3;show wP ?_;simp only[Bool.false_eq_true,if_false];show wP (wP {_,0,wP (v M _ _ _ _ p b3 #[a,oa,0,n,na])})
def UE{Q:C2->Shared->Prop}(j:A.handled=none)(st:Es s.heap it d es.size es.size ep)(i:B4 s.heap d es ep)(l:∀h',Heap.ExtBut it s.heap h'->Q none {s with heap:=h'}):'C' (pyNext (.ref it)) Q E s:=by
 let[h,r,ok,o,g,_]:=st;let[od,e,_,f]:=id i;let ty:s.TypeIs (.ref it) "dict_itemiterator":=#[_,g,0];let c:Builtin.Dict_items.ownsTuple "dict_itemiterator"=true:=by decide
 show wB (wpAny_attempt (wpAny_callSpecial?_slot ty F.slot_dict_itemiterator_next (cQ F.slot_dict_itemiterator_next ty F.entry_dict_itemiterator_next ?body (F.args_dict_itemiterator_next_1 _))));show wB (wP (wB (wB ?_)))
 first
  |show wB (wpAny_typeNameOfWhole_itemiter ty (wP (wB (wpAny_fieldsOf g rfl ?_))))|show wB _
 change 'A' _ _ _ s;show wB (wP (wB (wpAny_dictEntries e f ?_)));rw[aB '2'];show wB (wP (wB (wpAny_dictEpoch e f ?_)));rw[aB '2'];show wP ?_;simp only[show¬(es.size<0)by simp,if_false,Int.toNat_natCast,Array.getElem?_eq_none (aQ es.size)];show wB ?_
 first
  |show wB (wpAny_typeNameOfWhole_itemiter ty (wP ?_))|show wB _
 change 'A' (setField _ 2 .none>>=_) _ _ s;show wB (wpAny_setField g rfl '2' ?_);show wB ?_;show wB (cG ?qyy (by size_fits));show wB (wpAny_of_eq (by first|rfl|(rfl)) (cG ?pyy (by size_fits)));show wB (wpAny_handled ?_);rw[j];show wB (wP (wpAny_throw ?_));show wB (wpAny_isInstance {_,bP _ rfl,0} isSubtype_stop ?n);show wP (l _ (((Heap.SameBut.update ..).extBut.push _).push _))
def UF{v}(c:s.heap.IsItemsView v d)(g:B4 s.heap d es ep)(h:Q (.ref 'H') {s with heap:=s.heap.push (Bd .none false d 0 es.size ep .none .none)}):'C' (pyIter (.ref v)) Q E s:=by
 let[j,h1,_,i]:=id c;let[o,e,_,f]:=id g;let a:Builtin.Dict_items.ownsTuple "dict_itemiterator"=true:=rfl
 show wpAny_pyIter_slot c.typeIs F.slot_dict_items_iter (cQ F.slot_dict_items_iter c.typeIs F.entry_dict_items_iter ?body (F.args_dict_items_iter_1 _));show wB (wP (wB (wB (wpAny_field h1 i rfl (wP (wB (wB (wpAny_dictEntries e f (wB (wpAny_dictEpoch e f ?_))))))))));simp only[a,dD];show cG (wP {_,0,"dict_itemiterator",_,{_,bP _ rfl,0},F.slot_dict_itemiterator_next.lookup,?_}) (by simp only[sizeOk,Builtin.Dict_items.ownedTupleFields,size_toArray,aG,length_cons,length_nil,cU];lia);assumption
end
structure Made(es:Array DictEntry)(lo:Addr)(h:Heap)(as:Ge):Prop where
 nd:as.Nodup
 up:∀a∈as,lo<a
 at_:∀(j:Nat)(a:Addr),as[j]?\a->∃hj:j<es.size,h.get? a\(Dg es[j].key es[j].val)
def Made.mono{es}{lo}(x:Made es lo h as)(k:∀b o,lo<b->h.get? b\o->h'.get? b\o):Made es lo h' as:={x.nd,x.up,λj a e=>(by let[hj,q]:=x.at_ j a e;show{hj,k a _ (x.up a (aM e)) q})}
section
variable{R:Result->Shared->Prop}{es:Array DictEntry}
def fL{S I}(O:A.handled=none)(r:S<I)(T:d≠S)(σ:d≠I)(hn:es.size<=sizeLine)(res)(Q:∀h' tk f c as,(∀b o,b≠S->b≠I->h1.get? b\o->h'.get? b\o)->h'.get? S\{cls:=.type "list",data:=.seq f c}->as.length=es.size->Made es I h' as->f.toList=as.map Value.ref->R (.ok (.ret res)) {s with heap:=h',toks:=tk}):∀(k i)(h)(tk c)(f:Do)(as),es.size-i=k->i<=es.size->Es h I d i es.size ep->B4 h d es ep->(∀b o,b≠S->b≠I->h1.get? b\o->h.get? b\o)->h.get? S\{cls:=.type "list",data:=.seq f c}->f.toList=as.map Value.ref->as.length=i->Made es I h as->codeAny (model prog w) A (.builtin "list.extend.loop" {[.ref S,.ref I,res],[]}) R {s with heap:=h,toks:=tk}:=by
 let D:=bX r;intro k
 induction k with
 |zero=>intro i h tk c f as N hi st y E z B el mk;obtain rfl:i=es.size:=⋯;show codeAny_builtin PySem.F.entry_extend_loop ?_;show wB (UE O st y λh' G=>?_);show wP (Q h' tk f c as (λb o x p e=>G b o p (E b o x p e)) (G S _ D z) el (mk.mono λb o m e=>G b o (Nat.ne_of_gt m) e) B)|succ k M=>
  intro i h tk c f as N hi st y E z B el mk;let lt:i<es.size:=⋯;let sz:f.size=i:=by rw[<-bR,B,aA,el]
  show codeAny_builtin PySem.F.entry_extend_loop ?_;show wB (fK st y lt λh' C gp H g=>?_);let v:=g S _ D z;let ρ:=bN z;let Il:=st.lt;let n:∀b o,b≠S->h'.get? b\o->(h'.update S (Obj.mapSeq (·.push (Value.ref h.objs.size)))).get? b\o:=λb o m e=>(cM _ _ (Ne.symm m)).trans e;let u:=Heap.get?_update_self (Obj.mapSeq (·.push (Value.ref h.objs.size))) v rfl;show wB (wpAny_updateSeq v rfl (wP #[plainId_quiet PySem.F.plain_extend_loop _,M (i+1) _ tk _ (f.push (Value.ref h.objs.size)) (as++[h.objs.size]) ⋯ lt ?_ ?_ ?_ u ?_ ?_ #[?_,?_,?_]]) (by lia) (by rw[Array.size_push,sz];lia))
  .show C.keep (λo e=>n I o D.symm e) λb o e=>?_;by_cases m:b=S
   .rw[m];show#[_,u]
   .show{o,n b o m e}
  .show y.keep λo e=>n d o T (g d o σ e)
  .showλb o x p e=>n b o x (g b o p (E b o x p e))
  .rw[Array.toList_push,B,cO];rfl
  .rw[aG,el];rfl
  .show nodup_append.mpr {mk.nd,'2',λa ha b m=>?_};rw[bI.mp m];let[j,l]:=mem_iff_getElem?.mp ha;let[_,q]:=mk.at_ j a l;show bX (bN q)
  .intro a ha;let ha||ha:=bA.mp ha
   .show mk.up a ha
   .rw[bI.mp ha];show Il
  .intro j a l;let h2||h2||h2:=Nat.lt_trichotomy j as.length
   .rw[getElem?_append_left h2]at l;let[L,J]:=mk.at_ j a l;let:=mk.up a (aM l);show{L,n a _ (Nat.ne_of_gt (Nat.lt_trans r this)) (g a _ (Nat.ne_of_gt this) J)}
   .subst h2;let e:h.objs.size=a:=by simpa using l
    subst e;rw[el]at*;show{lt,n _ _ (Nat.ne_of_gt ρ) gp}
   .rw[bQ (by rw[aG,length_singleton];lia)]at l;cases l
def fM{r S}(Q:A.handled=none)(p:s.heap.IsItemsView r d)(q:B4 s.heap d es ep)(H:S≠r)(C:d≠S)(res)(D)(B:'F' S\{cls:=.type "list",data:=.seq #[] D})(O:es.size<=sizeLine)(ρ:∀h' tk i c as,(∀b o,b≠S->'F' b\o->h'.get? b\o)->h'.get? S\{cls:=.type "list",data:=.seq i c}->as.length=es.size->Made es 'H' h' as->i.toList=as.map Value.ref->R (.ok (.ret res)) {s with heap:=h',toks:=tk}):wpAny (model prog w) A.in1 (Builtin.List.listExtendWith (.ref S) (.ref r) res) (λfin s'=>match fin with|.done f=>R (.ok f) s'|.again E=>E.quiet=true/\codeAny (model prog w) A E R s') (λe s'=>R (.error e) s') s:=by
 let G:S<'H':=bN B;let y:∀(h:Heap)(x tk:Nat),(∀b o,b≠S->(s.heap.push (Bd .none false d 0 es.size ep .none .none)).get? b\o->h.get? b\o)->h.get? S\{cls:=.type "list",data:=.seq #[] x}->codeAny (model prog w) A (.builtin "list.extend.loop" {[.ref S,.ref 'H',res],[]}) R {s with heap:=h,toks:=tk}:=λh x tk k g=>by
  let gI:=k 'H' _ (Nat.ne_of_gt G) (bP _ rfl);show fL (s:=s) (h1:=s.heap) Q G C (bX q.lt) O res (λh' n i c as M v el mk ea=>ρ h' n i c as (λb o l e=>M b o l (bX (bN e)) e) v el mk ea) es.size 0 h tk x #[] [] (Nat.sub_zero _) (cD _)
   #[.none,false,.none,.none,gI,.inl #[0,0]] (q.keep λo e=>k d o C (aS _ e)) (λb o l _ e=>k b o l (aS _ e)) g rfl rfl {.nil,'6',λj a e=>by simp at e}
 unfold Builtin.List.listExtendWith;show wB (wpAny_typeOf (T:="dict_items") p.typeIs ?_);let L:Builtin.List.listSameRef (.ref S) (.ref r)=false:=by simp[Builtin.List.listSameRef,H]
 let J:(Value.type "dict_items"==Value.type "list")=false:=by decide
 let I:(Value.type "dict_items"==Value.type "tuple")=false:=by decide
 simp only[L,J,I,Bool.or_false,Bool.false_eq_true,if_false];show wB (UF p q ?_);let g:=aS (Bd .none false d 0 es.size ep .none .none) B;show wB (bM (kdx_hint ((by let[o,N,σ,_]:=p;show{o,aS _ N,σ})) ?_));show wpAny_ite_split (λ_=>?_) (λ_=>wP {plainId_quiet PySem.F.plain_extend_loop _,y _ D _ (λb o _ e=>e) g});show wB (wpAny_rule (wB ?_));change 'A' (updateSeq S (·.push .none)>>=λ_=>updateSeq S (·.pop)) _ _ _;show wB (wpAny_updateSeq g rfl ?_);let m:=Heap.get?_update_self (Obj.mapSeq (·.push Value.none)) g rfl;show wpAny_updateSeq (hz:=by seq_fits) m rfl ?_;let u:=Heap.get?_update_self (Obj.mapSeq (·.pop)) m rfl;show wP {plainId_quiet PySem.F.plain_extend_loop _,y _ _ _ (λb o l e=>(cM _ _ (Ne.symm l)).trans ((cM _ _ (Ne.symm l)).trans e)) u}
def fN{r S}(B:A.handled=none)(u:s.heap.IsItemsView r d)(z:B4 s.heap d es ep)(n:S≠r)(p:d≠S)(m:'F' S\{cls:=.type "list",data:=.seq #[]})(y:es.size<=sizeLine)(C:∀h' tk a c as,(∀b o,b≠S->'F' b\o->h'.get? b\o)->h'.get? S\{cls:=.type "list",data:=.seq a c}->as.length=es.size->Made es 'H' h' as->a.toList=as.map Value.ref->R (.ok (.ret .none)) {s with heap:=h',toks:=tk}):wpAny (model prog w) A.in1 (Builtin.«list.__init__» {[.ref S,.ref r],[]}) (λfin s'=>match fin with|.done f=>R (.ok f) s'|.again q=>q.quiet=true/\codeAny (model prog w) A q R s') (λe s'=>R (.error e) s') s:=by change 'A' _ _ _ s;show wB (wB (wpAny_seqItems m rfl (wP ?_)));change 'A' (updateSeq S _>>=λ_=>letGo (#[]).toList.reverse>>=λ_=>Builtin.List.listExtendWith _ _ .none) _ _ s;let g:∀b o,b≠S->'F' b\o->(s.heap.update S (Obj.mapSeq (λ_=>(#[])))).get? b\o:=λb o h e=>(cM _ _ (Ne.symm h)).trans e;let j:=Heap.get?_update_self (Obj.mapSeq (λ_=>(#[]))) m rfl;show wB (wpAny_updateSeq m rfl (wB (wpAny_letGo ?_)));show fM B ((by let[o,v,x]:=u;show{o,g r o n.symm v,x})) (z.keep λo e=>g d o p e) n p .none _ j y λh' tk a c as k l el mk D=>C h' tk a c as (λb o h e=>k b o h (g b o h e)) l el ?_ D;simp_all
def fO{r}(u:A.handled=none)(l:s.heap.IsItemsView r d)(m:B4 s.heap d es ep)(q:es.size<=sizeLine)(y:∀h' tk f c as,(∀b o,'F' b\o->h'.get? b\o)->h'.get? 'H'\{cls:=.type "list",data:=.seq f c}->as.length=es.size->Made es 'H' h' as->f.toList=as.map Value.ref->Q (.ref 'H') {s with heap:=h',toks:=tk}):'C' (call (.type "list") [.ref r]) Q E s:=by show callType_codes (Q₁:=λg j=>g=.ref 'H'/\j={s with heap:=s.heap.push {cls:=.type "list",data:=.seq #[]}}) PySem.F.called_list (PySem.F.typeCall_list_1 _) PySem.F.entry_list_init (code_list_new _ #[0,0]) λg j h1=>?_;let[0,0]:=h1;let n:(s.heap.push {cls:=.type "list",data:=.seq #[]}).get? 'H'\{cls:=.type "list",data:=.seq #[]}:=bP _ rfl;let p:r<'H':=(by let[_,h,_]:=l;show bN h);show#[#[_,n,0],PySem.F.args_list_init_2 _ _,fN u ((by let[o,h,x]:=l;show{o,aS _ h,x})) (m.keep λo e=>aS _ e) (Nat.ne_of_gt p) (bX m.lt) n q λh' tk f c as k i el mk B=>?_];show{0,y h' tk f c as (λb o e=>k b o (bX (bN e)) (aS _ e)) i el {mk.nd,λa v=>?_,mk.at_} B};let z:=mk.up a v;rw[Heap.size_push]at z;show Nat.lt_of_succ_lt z
end
def Cn(r p:Addr):HO:=(.ext λh=>h.IsItemsView r p)
def OM:V->dH->Hp->VK->Prop:=(λx xs H Q=>∃(p:Addr)(qH:List (List AT×V)),x=.ref p/\xs=[]/\H p\(.dT qH)/\∀r,H r=none->Q (.ref r) (AB H r (Cn r p)))
noncomputable def DP(H:Hp):List (Addr×dH)->Hp|[]=>H|q::r=>AB (DP H r) q.1 (.tup q.2)
theorem FS:∀{qs},p∉qs.map (·.1)->DP H qs p=H p
 |[],_=>rfl|q::r,h=>by rw[map_cons,aF,not_or]at h;unfold DP;rw[AE h.1];show FS h.2
theorem UG:∀{qs},(qs.map (·.1)).Nodup->∀q∈qs,DP H qs q.1\(.tup q.2)
 |[],_,q,h=>nomatch h|y::r,a,q,h=>by
  rw[map_cons,bC]at a;unfold DP;let 0||h:=aF.mp h
  .show AN
  .rw[AE (λz=>a.1 (by rw[<-z];show aP h))];show UG a.2 q h
def ON:dH->Hp->VK->Prop:=(λxs H Q=>∃(r p:Addr)(qH:List (List AT×V)),xs=[.ref r]/\H r\(Cn r p)/\H p\(.dT qH)/\∀(l:Addr)(qs:List (Addr×Addr×List AT×V)),H l=none->qs.map (·.2.2)=qH->(qs.map (·.1)).Nodup->(∀q∈qs,H q.1=none/\q.1≠l/\H q.2.1\(.tup (q.2.2.1.map kV)))->Q (.ref l) (AB (DP H (qs.map λq=>(q.1,[.ref q.2.1,q.2.2.2]))) l (.lst (qs.map λq=>V.ref q.1))))
theorem Inv.apart2(I:'D')(hp:'H'<=a)(f:H' a=none):Apart X qA H' a where
 new:=Heap.get?_none_of_le (aR I.sz hp)
 free:=f
 loc:=λz=>by let[m,[o,_,_,c,_],_]:=I.loc;rw[z]at hp;show bS (bN c) (Nat.not_lt.mpr hp)
 cell:=λy k e z=>by let[v,o,c,_]:=I.cell y k e;rw[z]at c;show bS (bN c) (Nat.not_lt.mpr hp)
 pin:=λp d z=>by let:=(I.pin p d).1;rw[z]at this;show bS (bN this) (Nat.not_lt.mpr hp)
def Apart.to(x:Apart X qA H a)(f:H' a=none):Apart X qA H' a:=#[x.new,f,x.loc,x.cell,x.pin]
theorem Inv.tracks:∀{qs},(qs.map (·.1)).Nodup->(∀q∈qs,Apart X qA H q.1)->(∀q∈qs,q.2.length<=sizeLine/\∃qG,AW q.2 qG/\DT s.heap q.1 qG.toArray)->'D'->Inv X qA U (DP H qs) s
 |[],_,_,_,I=>I|q::r,nd,ap,ok,I=>by rw[map_cons,bC]at nd;let J:=Inv.tracks nd.2 (λq a=>ap q (bT _ a)) (λq a=>ok q (bT _ a)) I;let z:=ap q (cA ..);show J.track (o:=.tup q.2) (z.to (by rw[FS nd.1];show z.free)) (ok q (cA ..))
def fP:GK X "dict.items" OM:=by
 rintro qA s U H x xs v us Q I c rv⟨p,qH,rfl,rfl,f,k⟩;cases c;cases rv;let[es,ep,ps,a,i,_]:=Nb I.hok f;show call_meetsIn PySem.F.slot_dict_items a.typeIs PySem.F.entry_dict_items (PySem.F.args_dict_items_1 _) (S:=λ_ R s=>s.TypeIs (.ref p) "dict"/\R (.ok (.ret (.ref 'H'))) {s with heap:=s.heap.push {cls:=.type "dict_items",data:=.fields [.ref p].toArray}}) (.of_wp λA R s⟨ty,h⟩=>?_) #[a.typeIs,?_]
 .show wB (wB (wpAny_notOrdered_dict ty ?_));show wP ?_;unfold Builtin.Dict.showsAll;rw[aB (by rw[i];show cH)];show wB (wP (wB (cG (wP #[_,0,h]))))
 .let g:(s.heap.push {cls:=.type "dict_items",data:=.fields [.ref p].toArray}).get? 'H'\{cls:=.type "dict_items",data:=.fields [.ref p].toArray}:=bP _ rfl;show{.ref 'H',_,I.laid (o:=Cn 'H' p) (λb u e=>aS _ e) (aQ _) #[#[_,g,0,0],#[_,g],λh1 h2 zz d=>(by let[o,e,r]:=zz;show{o,d o e,r})],0,k _ (I.hok.fresh (aQ _))}
theorem UH:∀{as:Ge}{qH}{ys},Paired (λ(p:List AT×V)(q:List AT×Addr×Value)=>p.1=q.1/\H q.2.1\(.tup (p.1.map kV))/\AR p.2 q.2.2) qH ys->as.length=ys.length->(∀(j:Nat)a,as[j]?\a->∃y,ys[j]?\y/\h'.get? a\(Dg (.ref y.2.1) y.2.2))->∃qs:List (Addr×Addr×List AT×V),qs.map (·.1)=as/\qs.map (·.2.2)=qH/\∀q∈qs,H q.2.1\(.tup (q.2.2.1.map kV))/\∃u,AR q.2.2.2 u/\h'.get? q.1\(Dg (.ref q.2.1) u)
 |[],_,_,.nil,_,_=>{[],0,0,λ_ h=>nomatch h}|_::_,_,_,.nil,l,_=>by simp at l|[],_,_,.cons _ _,l,_=>by simp at l|a::as,_,_,.cons (a:=p) (b:=y) r t,l,f=>by
  let[qs,n,m,i]:=UH t (~~~l) λj b d=>by let:=f (j+1) b (~~~d);simpa using this
  let[y',e,g]:=f 0 a rfl;let c:y=y':=by simpa using e
  subst c;show{(a,y.2.1,p)::qs,by rw[map_cons,n],by rw[map_cons,m],λq hq=>?_};let 0||hq:=aF.mp hq
  .show#[r.2.1,y.2.2,r.2.2,g]
  .show i q hq
def fQ(hc:X.calm=true):BQ X (.type "list") ON:=by
 rintro qA s U H xs us Q I r⟨E,p,qH,rfl,hr,hp,k⟩;let[u,0,m]:=r.one;cases m;done<;>let[z,hd,ys,rel,o,es,ep,h1,h2,h3,G,_]:=I.hok p _ hp;let ρ:=(I.hok E _ hr).1;let hl:es.size=ys.length:=by rw[<-bR,G,aA]
 let a0:=rel.length;show fO (I.ok.hd hc) ρ #[o,h1,h2,h3] (by simp_all) λh' tk D c as T gS el mk ea=>?_;let O:as.length=ys.length:=(by simp only[*]);let[qs,l,L,C]:=UH rel O λj a hj=>by
  let[B,q]:=mk.at_ j a hj;let i:j<ys.length:=⋯;show{ys[j],aH i,?_};let e:es[j]=entryOfKey (tupleKind (Bp X.prog X.w)) ys[j]:=by let:=aT (·[j]?) G;simp only[Array.getElem?_toList,bO,aH i,cL B,Option.map_some,Option.some.injEq]at this;show this
  rw[q,e];rfl
 let x:(qs.map (·.1)).Nodup:=by rw[l];show mk.nd
 let fresh:∀q∈qs,'H'<q.1:=λq d=>mk.up q.1 (by rw[<-l];show aP d);let n:=λq d=>I.hok.fresh (aY (fresh q d));let v:=I.hok.fresh (aQ _);let J:=I.kept (t':=tk) T;let em:(qs.map λq=>((q.1,[V.ref q.2.1,q.2.2.2]))).map (·.1)=qs.map (·.1):=by rw[bZ];rfl
 let M:=J.tracks (by rw[em];show x) (λy A=>by let[q,d,0]:=bU.mp A;show I.apart2 (aY (fresh q d)) (n q d)) (λy A=>by let[q,d,0]:=bU.mp A;let[_,u,m,g]:=C q d;show#[by change 2<=16777216;decide,[.ref q.2.1,u],.cons rfl (.cons m .nil),{_,g,0,#[_,0],0}])
 let f:(DP H (qs.map λq=>(q.1,[.ref q.2.1,q.2.2.2]))) 'H'=none:=by
  rw[FS]
  .show v
  .rw[em];intro z;let[q,d,e]:=bU.mp z;show bS (fresh q d) (by rw[e];show aX _)
 let N:qs.length=as.length:=by rw[<-l,aA]
 show#[.ref 'H',_,M.track (o:=.lst (qs.map λq=>V.ref q.1)) ((I.apart2 (aQ _) v).to f) {by rw[aA];simp_all,D.toList,c,?_,by simpa using gS},0,k _ qs v L x λq d=>{n q d,Nat.ne_of_gt (fresh q d),(C q d).1}];rw[ea,<-l,bZ];clear l L C x fresh n M em f N
 induction qs with
 |nil=>show .nil|cons q r σ=>show .cons rfl σ
def fR(h:Bag H b a)(n:∀q∈qs,H q.1=none):Step b a H (DP H qs):=by
 let out:∀p o,H p\o->p∉qs.map (·.1):=λp o e z=>by let[q,d,f]:=bU.mp z;let:=n q d;rw[f,e]at this;cases this
 let[ns,i,c,z,h1,h2,r]:=h;show#[{ns,i,c,z,by rw[FS (out _ _ h1)];show h1,by rw[FS (out _ _ h2)];show h2,r},λp o _ e=>by rw[FS (out p o e)];show e]
theorem UI:∀{a:List (By×Int)}{qs:List (Addr×Addr×List AT×V)},qs.map (·.2.2)=a.map (λq=>(BD q.1,V.int q.2))->(∀q∈qs,H' q.1\(.tup [.ref q.2.1,q.2.2.2])/\H' q.2.1\(.tup (q.2.2.1.map kV)))->AC b Z H' (a.map CB) (qs.map λq=>V.ref q.1)
 |[],[],_,_=>rfl|[],_::_,h,_=>by simp at h|_::_,[],h,_=>by simp at h|x::a,q::qs,h,f=>by simp only[map_cons,List.cons.injEq]at h;let[d,c]:=f q (cA ..);let i:=aT Prod.fst h.1;let g:=aT Prod.snd h.1;rw[i,KS]at c;rw[g]at d;show{_,_,0,{_,_,0,d,_,_,0,{_,_,0,c,AC.ints.mpr rfl},_,_,0,0,0},UI h.2 λq e=>f q (bT _ e)}
def OO(pe:pE):pE:=(λY K=>pe Y λx _=>∃a:List (By×Int),x=B5 a/\K (Ac a) .nw)
section
def fS{Kf:Frag}(h:Bs te pe):Bs (GJ ON (A6 (MV Kf "dict" OM te) BU)) (OO pe):=λW Y U H Q K ok G q=>by
 show h W Y U H _ _ ok G λx f v H1 zz o D=>?_;done<;>(let[a,ex,k]:=zz;subst ex;let d:=ok.step o;let[p,us,0,_,j,_,M]:=Gx d D);let B:AC W.b (AJ W Y U f) H1 ((a.map (·.2)).map P.int) us:=by rw[bZ];show M
 let J:us=a.map λq=>V.int q.2:=by let:=AC.ints.mp B;rw[bZ]at this;show this
 rw[J,S1]at j;show{.inr (.inr (.inl #[0,.inr #[_,j]])),p,_,0,0,j,λr C=>?_};let c:Step W.b W.a H1 (AB H1 r (Cn r p)):=Step.new d.bag C;show{r,p,_,0,AN,by rw[AE (Af j C)];show j,λl qs w L E m=>?_};let i:Step W.b W.a (AB H1 r (Cn r p)) (DP (AB H1 r (Cn r p)) (qs.map λq=>(q.1,[.ref q.2.1,q.2.2.2]))):=fR c.bag λy s=>by let[q,g,0]:=bU.mp s;show(m q g).1
 let em:(qs.map λq=>((q.1,[V.ref q.2.1,q.2.2.2]))).map (·.1)=qs.map (·.1):=by rw[bZ];rfl
 let u:(DP (AB H1 r (Cn r p)) (qs.map λq=>(q.1,[.ref q.2.1,q.2.2.2]))) l=none:=by
  rw[FS]
  .show w
  .rw[em];intro z;let[q,g,e]:=bU.mp z;show(m q g).2.1 e
 let n:Step W.b W.a (DP (AB H1 r (Cn r p)) (qs.map λq=>(q.1,[.ref q.2.1,q.2.2.2]))) (AB (DP (AB H1 r (Cn r p)) (qs.map λq=>(q.1,[.ref q.2.1,q.2.2.2]))) l (.lst (qs.map λq=>V.ref q.1))):=Step.new i.bag u;let l1:=c.free w;show q _ _ _ _ k ((o.trans c).trans (i.trans n)) #[{l,_,0,λz=>d.dom z l1,AN,UI L λq g=>?_},λ_=>{l,0,o.free l1}];let[N,I,A]:=m q g;constructor
 .rw[AE I];show UG (by rw[em];show E) _ (aP g)
 .rw[AE (Af A w),FS]
  .show A
  .rw[em];intro z;let[y,s,e]:=bU.mp z;let:=(m y s).1;rw[e,A]at this;cases this
def fU{o}{Kf:Frag}{p1}(g:∀i,(Xs i).calm=true)(h:∀i,(Xs i).K=Kf)(e:∀i,(Xs i).mg "list"=none)(d:QE Xs o pe)(c:∀i,attributeBase o "items" (Xs i).env (eval o (Xs i).env)=eval o (Xs i).env:=by rfl)(a:(qK.endLine==qJ.line)=true:=by rfl)(f:∀i,Gl (Xs i) "list":=by rfl):QE Xs (.Call (.Name "list" p1) [.Call (.Attribute o "items" qK) [] [] qJ] [] pos) (OO pe):=by let[t,h1,h2]:=d;show{GJ ON (A6 (MV Kf "dict" OM t) BU),λi=>?_,fS h2};rw[<-h i];show Fd (fQ (g i)) (f i) (e i) nofun (AK (Xm PySem.F.plainAttrs_dict PySem.F.slot_dict_items PySem.F.type_dict_items fP (h1 i) (c i) a) Ab)
end
end L2
namespace L2
def Fy(t:Tl):Tl:=(Ar (BH t))
def FT(h:(t.map (·.1)).Nodup)(r):cnt t r=(AY t r).getD 0:=by induction t with|nil=>rfl|cons q t c=>
  simp only[map_cons,bC]at h;let e:cnt (q::t) r=(if q.1=r then q.2 else 0)+cnt t r:=rfl
  rw[e,c h.2];unfold AY;by_cases z:q.1=r
  .let f:t.find? (λp=>decide (p.1=r))=none:=find?_eq_none.mpr λp d=>by simp only[decide_eq_true_eq];showλa=>h.1 (by rw[z,<-a];show bU.mpr #[p,d,0])
   rw[f];simp[z]
  .simp[z]
def fV(t)(r):cnt (Fy t) r=cnt t r:=by unfold Fy;rw[FT (OA (FO t)),N9,Dw]
def UJ(a b)(r):cnt (a++b) r=cnt a r+cnt b r:=by unfold cnt;simp
def OP{t u:Tl}(d:(t.map (·.1)).Nodup)(c:(u.map (·.1)).Nodup)(h:∀r,(AY t r).getD 0=(AY u r).getD 0):Ar t=Ar u:=by
 let mem:∀{t}(r),(AY t r).getD 0≠0->r∈t.map _:=λ{t}r z=>by
  by_cases a:r∈t.map (·.1)
  .show a
  .rw[IY a]at z;show bS rfl z
 let key:((DD (t.map (·.1))).filter λr=>decide ((AY t r).getD 0≠0))=((DD (u.map (·.1))).filter λr=>decide ((AY u r).getD 0≠0)):=by
  show Ni ((perm_ext_iff_of_nodup ?_ ?_).mpr λr=>?_) ((Ek _).filter _) ((Ek _).filter _)
  .show((DE _).nodup_iff.mpr d).filter _
  .show((DE _).nodup_iff.mpr c).filter _
  .simp only[cX,(DE _).mem_iff,decide_eq_true_eq];show#[λz=>{mem r (by rw[<-h];show z.2),by rw[<-h];show z.2},λz=>{mem r (by rw[h];show z.2),by rw[h];show z.2}]
 unfold Ar;rw[key];show cF λr _=>by rw[h]
def fX{t:Tl}(h:(t.map (·.1)).Nodup):Ar t=Fy t:=OP h (FO t) λr=>by rw[Dw,FT h]
def Cz(φ:By->Int)(t:Tl):Int:=((t.map λq=>φ q.1*q.2).sum)
def fY(c)(a b):Cz c (a++b)=Cz c a+Cz c b:=by unfold Cz;simp
theorem UK(a:By->Int)(x)(c):∀(L:List By),L.Nodup->(L.map λr=>a r*(if x=r then c else 0)).sum=if x∈L then a x*c else 0
 |[],_=>'2'|y::L,d=>by
  simp only[bC]at d;rw[map_cons,sum_cons,UK a x c L d.2];by_cases e:x=y
  .simp_all
  .simp[e]
theorem UL{α:Type}(f g:α->Int):∀L:List α,(L.map λr=>f r+g r).sum=(L.map f).sum+(L.map g).sum|[]=>rfl|x::L=>by simp only[map_cons,sum_cons,UL f g L];lia
theorem OQ(a){L:List By}(nd:L.Nodup):∀{t},(∀q∈t,q.1∈L)->Cz a t=(L.map λr=>a r*cnt t r).sum
 |[],_=>by
  let:(L.map λr=>a r*cnt [] r).sum=0:=by induction L with
   |nil=>rfl|cons x L c=>rw[map_cons,sum_cons,c (bC.mp nd).2 (λ_ z=>bS z '2')];simp[cnt]
  rw[this];rfl|q::t,h=>by
  let c:=OQ a nd λp d=>h p (bT _ d);let e:∀r,a r*cnt _ r=a r*(if q.1=r then q.2 else 0)+a r*cnt t r:=λr=>by
   let:cnt (q::t) r=(if q.1=r then q.2 else 0)+cnt t r:=rfl
   rw[this,Int.mul_add]
  let f:Cz a (q::t)=a q.1*q.2+Cz a t:=rfl
  rw[f,c,cF λr _=>e r,UL,UK a q.1 q.2 L nd,aC (h q cA)]
def fZ(a){t u}(h:∀r,cnt t r=cnt u r):Cz a t=Cz a u:=by let d:=FO (t++u);let f:∀q∈t,q.1∈(BH (t++u)).map _:=λq c=>(Kp _ _).mpr (bU.mpr {q,mem_append_left _ c,0});let e:∀q∈u,q.1∈(BH (t++u)).map _:=λq c=>(Kp _ _).mpr (bU.mpr {q,cC _ c,0});rw[OQ a d f,OQ a d e];simp_all
def fc(a)(t):Cz a (Fy t)=Cz a t:=fZ a (fV t)
def UM(qI)(t)(part)(s):cnt (Bz qI t part) s=Cz (λr=>if An qI r part=s then 1 else 0) t:=by
 unfold cnt Bz Cz;rw[bZ];show aT List.sum (cF λq _=>?_);change(if An qI q.1 part=s then q.2 else 0)=(if An qI q.1 part=s then(1:Int)else 0)*q.2;by_cases z:An qI q.1 part=s
 .simp_all
 simp_all
def UN{part less}(c:∀n∈less,n∈part):An part (An qI r part) less=An qI r less:=by unfold An;show cF λn a=>?_;let h:=(G8 (c n a)).1;rw[bW,bO,h];rfl
open PySem.W
def fe(bs:List Bool):((List.range bs.length).any λi=>(bs[i]?).getD true)=bs.any id:=by
 let e:(List.range bs.length).map (λi=>(bs[i]?).getD true)=bs:=by
  apply ext_getElem
  .simp
  .intro i h1 h2;simp[h2]
 let:((List.range bs.length).any λi=>(bs[i]?).getD true)=((List.range bs.length).map λi=>(bs[i]?).getD true).any id:=by simp
 rw[this,e]
def ff(m:X.calm=true):BQ X (.builtin "any") (λxs H Q=>∃(p:Addr)(bs:List Bool),xs=[.ref p]/\BA X.K H p (bs.map V.bl)/\Q (.bl (bs.any id)) H):=by
 rintro qA s U H xs us Q I r⟨p,bs,rfl,j,q⟩;let[u,0,g]:=r.one;cases g;let[qG,r,pl,o]:=I.list j;let d:=Ml r;let c:=pl.isList;let a:p<'H':=by let[_,e,_]:=c;show bN e
 show call_any_walk (wpAny_pyIter_list c {'H',['H',p],['H'],qG.toArray.size,_,_,λi=>(bs[i]?).getD true,0,Walks.list (A:=X.A.in1) (I.ok.hd m) _ p (bX a) qG.toArray,#[{_,bP _ rfl,0,0},c.push _],λi v s' w x n f=>?_,λh' tk l=>?_})
 .let[b,e,0]:=d.get i v (~~~n);simp only[e,Option.getD_some]at f;show wpAny_truthy_bool f
 .let e:((List.range qG.toArray.size).any λi=>(bs[i]?).getD true)=bs.any id:=by rw[size_toArray,d.length];show fe bs
  rw[e];show{.bl _,H,I.kept (LSm.kept_iter l),0,q}
def OR:pC:=(p1 λx f K=>∃bs:List Bool,x=.lst (bs.map P.bl)/\K (.bl (bs.any id)) .fr)
def fg:Cu (λxs H Q=>∃(p:Addr)(bs:List Bool),xs=[.ref p]/\BA Kf H p (bs.map V.bl)/\Q (.bl (bs.any id)) H) OR:=λW Y U Hs H Q K xs vs ok st r a q=>by
 unfold OR p1 at a;split at a
 .let[v,0,rv]:=r.one;let[bs,0,e]:=a;let[p,us,0,c,d]:=DB ok rv;rw[AC.bls.mp d]at c;show{p,bs,0,.of c,q _ _ _ H e (Step.refl ok.bag) Dn}
 simp_all
end L2
namespace L2
open PySem.W
end L2
namespace L2
section
variable{α:Type}(adj:α->α->Prop)
variable{adj}
end
section
variable{α:Type}[DecidableEq α](r:Nat->List α)(there:Ex)
variable{r there}
end
def UO(rs:List At)(i:Nat):At:=((rs[i]?).getD [])
inductive Kn where|ab(T:At)|rg(l:At)
noncomputable abbrev gt(row:At)(k:Nat):Str:=row.getD k {#[]}
open PySem.W
end L2
namespace L2
noncomputable abbrev Wd.at(W:Wd)(h:Hp):Wd:={W with H₀:=h,F:=h}
section
variable{h:Hp}{k:Nat}
structure Sub(W:Wd)(h:Hp):Prop where
 fb:W.F W.b=none
 o:∀p x,p≠W.b->W.H₀ p\x->h p\x
 f:∀p x,W.F p\x->h p\x
end
end L2
namespace PySem
open PySem.Sem(wp)
end PySem
namespace L2
noncomputable abbrev Wd.put(W:Wd)(O:Addr->Prop):Wd:={W with O:=O}
open PySem.W
end L2
namespace L2
open PySem.W SeqAt
end L2
namespace L2
open PySem.W
end L2
namespace L2
def fh(pa pb:pE):pI:=(λY K=>pa Y λx f=>pb Y λy g=>∃xs ys,x=.tup xs/\y=.tup ys/\(P.imms xs=true/\P.imms ys=true)/\K (zipWith Cy xs ys) .fr true)
section
variable{a b:Expr}{p1 tp:Pos}{x1:Nat}
def fj(hK:∀i,(Xs i).K=Kf)(hm:∀i,(Xs i).mg "zip"=none)(ha:QE Xs a pa)(Q:QE Xs b pb)(hg:∀i,Gl (Xs i) "zip":=by rfl)(hs:∀i,starEach [a,b] (Xs i).env=[(false,eval a (Xs i).env),(false,eval b (Xs i).env)]:=by rfl)(j:∀i,starEach [b] (Xs i).env=[(false,eval b (Xs i).env)]:=by rfl):QI Xs (.Tuple elts x1 tp) (.Call (.Name "zip" p1) [a,b] [] pos) (fh pa pb):=by
 let[ta,E,a2]:=ha;let[tb,D,b2]:=Q;show{Qw Kf (A6 ta (A6 tb BU)),λi=>?_,λW Y U H R K ok hk q=>a2 W Y U H _ _ ok hk λx f v H1 h1 G r1=>b2 W Y U H1 _ _ (ok.step G) h1 λy g u H2⟨xs,ys,e1,e2,⟨i1,i2⟩,N⟩s2 r2=>?_}
 .let:=Yc (elts:=elts) (x1:=x1) (tp:=tp) (p:=p1) (pos:=pos) (hg i) (hm i) (AK (E i) (AK (D i) Ab (by rw[j i];rfl)) (by rw[hs i,j i])) (hs i) (j i);rw[hK i]at this;show this
 .subst e1;subst e2;let r:=G.trans s2;let c:=ok.step r;let I:=r1.step (ok.step G) s2;let[l1,vs,0,C,w]:=Dr c I;let[l2,us,0,B,s]:=Dr c r2;let L:=(c.bag.neT C).1;let J:=(c.bag.neT B).1;let a3:=w.length;let a0:=s.length;let core:∀l ρ' σ' H',H' l1\(.tup vs)->H' l2\(.tup us)->(∀p vs,H2 p\(.tup vs)->H' p\(.tup vs))->Bag H' W.b W.a->∀i,(i<(zipWith Cy xs ys).length->(Hg Kf l1 l2).go i H')/\((zipWith Cy xs ys).length<=i->(Hg Kf l1 l2).stop i H')/\∀v h,(Hg Kf l1 l2).yld i H' v h->∀x,(zipWith Cy xs ys)[i]?\x->Step W.b W.a H' h/\RF {W with O:=l} ρ' σ' H' .fr h x v:=λl ρ' σ' H' g1 ρ gt Q i=>by
   show{λhi=>?_,λhi=>?_,λv h yl x d=>?_}
   .rw[length_zipWith]at hi;show{vs,us,.of g1,.of ρ,⋯,⋯}
   .rw[length_zipWith]at hi;show{vs,us,.of g1,.of ρ,⋯}
   .let[T,x',y',σ,0,0,e]:=yl;let[e1,e2]:=e vs us (.of g1) (.of ρ);rw[getElem?_zipWith]at d;cases ex:xs[i]? with
    |none=>rw[ex]at d;simp at d|some px=>cases A:ys[i]? with
     |none=>rw[ex,A]at d;simp at d|some z=>
      rw[ex,A]at d;let d:Cy px z=x:=by simpa using d
      subst d;let[v1,E,a2]:=w.get ex;let[v2,D,b2]:=s.get A;rw[e1]at E;cases E;rw[e2]at D;cases D;let m1:=GQ.mp i1 px (aM ex);let m2:=GQ.mp i2 z (aM A);show{Step.new Q σ,?_};let k1:Rp W.b (AJ {W with O:=l} ρ' σ' .fr) (AB H' T (.tup [x',y'])) px x':=(((a2.imm m1).keep (Z':=λ_=>True) (λp o M=>bS trivial M) (λp m e=>by rw[AE (Af (gt p m e) σ)];show gt p m e)).imm m1);let k2:Rp W.b (AJ {W with O:=l} ρ' σ' .fr) (AB H' T (.tup [x',y'])) z y':=(((b2.imm m2).keep (Z':=λ_=>True) (λp o M=>bS trivial M) (λp m e=>by rw[AE (Af (gt p m e) σ)];show gt p m e)).imm m2);show{T,[x',y'],0,AN,x',[y'],0,k1,y',[],0,k2,0}
  show{l1,l2,vs,us,0,.of C,.of B,q _ _ _ _ H2 N r (λl ρ' σ' H' n i=>?_) (λa5 l ρ' σ' H' n i=>?_)}
  .let[_,0,0,a4,st]:=n;show core l _ _ H' (st.same l1 _ L C) (st.same l2 _ J B) (λp m e=>st.same p _ (c.bag.neT e).1 e) st.bag i
  .let[0,n]:=n;let k1:=(Hv c n (.inl rfl)).2;show core _ _ _ H' (k1 l1 _ C) (k1 l2 _ B) k1 n.bag i
end
open PySem.W
end L2
namespace L2
section
variable{qB uni:At}{t u:Tl}
end
noncomputable def fk{part}(h:∀x∈r,0<=x/\x<=9):∀x∈An qI r part,0<=x/\x<=9:=λx a=>by let[n,_,0]:=bU.mp a;rw[bW];cases e:r[dO qI n]? with
 |none=>simp|some y=>show h y (aM e)
section
variable{qB uni:At}{t u J:Tl}
noncomputable def fm{a b}(h:HT.lexLt b a=false)(c:a≠b):HT.lexLt a b=true:=by cases e:HT.lexLt a b with
 |true=>rfl|false=>show bS (Fi _ _ e h) c
def fo(s:CH l)(nd:l.Nodup):EK l=true:=by rw[Sr];intro k a b g f;let d:=(aI.mp g);let c:=(aI.mp f);let p:=pairwise_iff_getElem.mp s k _ d.1 c.1 (Nat.lt_succ_self k);rw[d.2,c.2]at p;show fm p λe=>?_;let:=(getElem_inj nd).mp (show l[k]'d.1=l[k+1]'c.1 by rw[d.2,c.2,e]);lia
end
noncomputable abbrev UP(ts:List Tl)(i:Nat):Tl:=ts.getD i []
structure Wh(rs:List At)(ts:List Tl)(S:Ex)(Q:At)(J:Tl):Prop where
 nd:Q.Nodup
 srt:Ie Q
 mem:∀n,n∈Q↔∃i∈S,n∈UO rs i
 tal:Tal Q.length J
 can:Fy J=J
 rng:∀q∈J,∀x∈q.1,0<=x/\x<=9
 sh:∀i∈S,BL Q J (UO rs i)=UP ts i
 few:J.length<=(S.map λi=>(UP ts i).length).sum
open PySem.NumText
end L2
namespace L2
def F0{x}(h:x.imm=true):BJ x f=.nw:=by cases f<;>simp[BJ,h]
def Be{x}{K}(h:x.imm=true)(q:K (Y.set k (.sh x))):Bl k x f Y K:=by unfold Bl;simp_all
def Ij{q}{K}(h:K ((Y.set i (.sh (AZ q.1))).set j (.sh (.int q.2)))):GX [i,j] (CB q) f Y K:={_,0,0,Be (CI _) (Be rfl h)}
def F1{x}(h:x.imm=true):Ed x f=true:=by unfold Ed;rw[h];rfl
def Ik{x}:Ed x .nw=true:=by show Bool.or_true _
def EL(ns):(AH ns).imm=true:='2'
def Kz(f)(r:List By):Bj f (r.map AZ)=.nw:=by unfold Bj;rw[aC (Z8 r)]
def UQ{K}(h:P.imms xs=true)(q:K (Y.set k (.own (.lst xs)))):Bl k (.lst xs) (Bj f xs) Y K:=by unfold Bj;rwa[aC h]
def settle_srt(t:Tl):CH ((Ar t).map (·.1)):=by unfold Ar;rw[bZ];let:((λx=>x.1)∘λr=>(r,(AY t r).getD 0))=id:=rfl;rw[this,map_id];show(Ek _).sublist filter_sublist
section
variable{names:At}{ps:List At}{k b:Nat}
end
open PySem.Calls
end L2
namespace HT
end HT
namespace L2
open PySem.Calls PySem.Builtin PySem.Builtin.Str
end L2
namespace L2
structure GDct(K:Fg)(w:World)(D:Addr):Prop where ex:∃es n,K.lookup D\{.type "dict",none,.dict es n,#[]}/\PySem.W.KeysLit w.params es.toList
def fq(K:Fg)(D:Addr)(ti:TE):TE:=(λU H Q=>ti U H λk H1=>∃x f,k=.str x/\PySem.W.nsIn K D x\(some (.ref f))/\Q (.ref f) H1)
def ft{p}(o:Gl X x)(l:X.mg x\(.ref D))(d:GDct X.K X.w D)(v:PE X b tb)(j:Ws b)(r:No x:=by decide+kernel):PE X (.Subscript (.Name x p) b pos) (fq X.K D tb):=by intro qA s U H Q I h;show Subscript_ (E2 I o l (AQ (v qA s U H _ I h) λu B zz=>?_) r);let[y,H2,g,i,z,f,A,e,q]:=zz;subst A;let[t,0]:=i;let[es,n,a,m]:=d.ex;let c:=PySem.W.mapOf_K (prog:=X.prog) g.kIn a m;show tail_any c.typeIs slot_dict_getitem.lookup (wpAny_getItem_of (strKind_is X.prog X.w z t) c (PySem.W.find_K a e) {.ref f,H2,g.tok _,0,q}) (j _ _)
def OS(P:Program)(w:World)(K:Fg)(mg:Str->C2)(base:Heap)(k:Nat)(f:Addr)(sp:Sp):Prop:=(∃(fd:FuncData)(ps:At),FnOk P w K mg base (DG P w) k f fd ps sp/\PySem.W.keepIn K (.ref f)=true/\Cr K fd ps [])
def fu(G:Addr->Sp->Prop)(E:XK)(tf:TE)(t:TA):TE:=(λU H Q=>tf U H λv H1=>∃f sp,v=.ref f/\G f sp/\t U H1 λvs H2=>sp vs H2 Q E)
def fx{p}{c}{E}(o:PE X (.Name x p) c)(m:Room k X.A)(l:DK (DG X.prog X.w) X E)(B:PA X (e::es) t)(y:starEach (e::es) X.env=(false,eval e X.env)::starEach es X.env:=by rfl)(a:(backTo pos (starEach es X.env)).any (·.1)=false:=by rfl):PE X (.Call (.Name x p) (e::es) [] pos) (fu (OS X.prog X.w X.K X.mg X.base k) E c t):=by intro qA s U H Q I h;show wpAny_Call_Name_kw (AQ (o qA s U H _ I h) λu g zz=>?_);done<;>(let[v,H1,C,r,f,sp,ev,[fd,ps,F,n,z],q]:=zz;subst ev;obtain rfl:u=Value.ref f:=r);show PySem.W.callWith_K I.ok.mod.kin n (AQ (B pos qA g U H1 _ C q) λus D zz=>?_) y a;let[vs,H2,d,i,j]:=zz;show#[d.kIn,?_];show MN F m z .nil l d i (by simp_all)
def UR(X:Cx)(qA:List (Addr×Obj))(U:St)(E:XK)(e:Value)(s':Shared):Prop:=(∃(a:Addr)(cls:Value)(d:FG)(T:Addr)(H':Hp),e=.ref a/\Inv X qA U H' s'/\Em s'.heap a cls d .none T/\Apart X qA H' a/\Apart X qA H' T/\E cls d H')
noncomputable abbrev Cx.tr(X:Cx)(qA:List (Addr×Obj))(U:St)(E:XK):Cx:={X with pn:=X.pn++qA,xe:=UR X qA U E}
section
variable{ps':List (Addr×Obj)}{σ0:St}{E:XK}
def Inv.tr(I:'D'):Inv (X.tr qA U E) [] U H s:=#[#[I.ok.mod,I.ok.kind,I.ok.glob,I.ok.blt,I.ok.above,I.ok.inj,I.ok.has,I.ok.cab,I.ok.hd,I.ok.frames,I.ok.stk,I.ok.exf,I.ok.bs,I.ok.bsz,I.ok.noex,I.ok.exfs,I.ok.funs,I.ok.frf],I.os,I.bare,I.base,I.loc,I.cell,I.free,I.freeC,λp hp=>I.pin p (by rw[cP]at hp;show hp),I.hok,I.len]
def Inv.untr(I:Inv (X.tr qA σ0 E) ps' U H s):'D':=#[#[I.ok.mod,I.ok.kind,I.ok.glob,I.ok.blt,I.ok.above,I.ok.inj,I.ok.has,I.ok.cab,I.ok.hd,I.ok.frames,I.ok.stk,I.ok.exf,I.ok.bs,I.ok.bsz,I.ok.noex,I.ok.exfs,I.ok.funs,I.ok.frf],I.os,I.bare,I.base,I.loc,I.cell,I.free,I.freeC,λp hp=>I.pin p (mem_append_left _ hp),I.hok,I.len]
def SP.untr{D}{f}(h:SP (X.tr qA σ0 E) ps' D f s'):SP X qA D f s':=by cases f with|next=>let[σ',H',I,q]:=h;show#[σ',H',I.untr,q]|brk=>let[σ',H',I,q]:=h;show#[σ',H',I.untr,q]|cont=>let[σ',H',I,q]:=h;show#[σ',H',I.untr,q]|ret u=>let[v,σ',H',I,r,q]:=h;show#[v,σ',H',I.untr,r,q]
def fy(tb:St->XK->TS)(th:Value->FG->TS):TS:=(λD U H=>tb U (λcls d H2=>th cls d D U H2) D U H)
def f7{o}{n}{tb}(ow:Own X)(g:∀qA U E,BS (X.tr qA U E) body (tb U E))(v:HC X (o::n) th):PS X (.Try body (o::n) [] [] tpos) (fy tb th):=by
 intro qA s U H D I h;show wpAny_Try_except (bL (g qA U _ [] s U H D I.tr h) (λf r q=>?_) (λe r q=>?_))
 .let q:=q.untr;cases f with
  |next=>show wpAny_execs_nil q|brk=>show q|cont=>show q|ret u=>show q
 .done<;>let[a,m,d,T,H',0,J,tr,pa,pT,w]:=q;let c:=J.stack;rw[ow.stk]at c;show Tp (by rw[J.ok.frames,ow.stk]) c ow.frm (.inr #[T,0,tr]) λh2 p y i l=>?_;let B:=J.chg ow y λb g=>by
   let z||z:=aF.mp g
   .rw[z];show pa
   .rw[bI.mp z];show pT
  let p2:=J.apart ow.ex (Heap.get?_none_of_le i) (J.hok.fresh i);show Kt l λC x j=>?_;let A:=B.chg ow (x.mono (λ_ z=>bS z '2') λ_ z=>z) λb g=>by rw[bI.mp g];show p2
  show v qA _ U H' D a p m d A j pa p2 w
def f8{f}{Q}(ow:Own X)(F:FnOk X.prog X.w X.K X.mg X.base (DG X.prog X.w) k f fd ps sp)(o:Room k X.A)(q:Cr X.K fd ps [])(I:Inv (X.tr qA U E) ps' U H s)(r:AW vs us)(h:sp vs H Q E):'B' (call (.ref f) us) (EP (X.tr qA U E) ps' U Q) (UR X qA U E) s:=by
 let p:(us++[]).length=ps.length:=by rw[cP,<-r.length];show F.len _ _ _ _ h
 let g:=q s us I.kIn p;rw[cP]at g;show wpAny_call (codeAny_mono (F.run X.A X.stack s H {us,[]} us vs Q E o I.env0 g r h) λr s' c=>?_);cases r with
 |error e=>done<;>let[a,l,d,T,H',0,os,i,un,j,tr,na,n,y,B,v]:=c;let m:=I.untr;show{a,l,d,T,H',0,m.call' os un j i (λb z=>bS z '2'),tr,m.apart ow.ex na y,m.apart ow.ex n B,v}|ok x=>cases x with
  |ret u=>show I.after c|next=>assumption|brk=>assumption|cont=>assumption
def US(σ0:St)(t:TE):TE:=(λU H Q=>U=σ0/\t U H Q)
def f9{f C}{m}{e o}{pl}(ow:Own X)(J:PE (X.tr qA σ0 E) o ta)(c:Cls X.K C)(p:Meth X.K C m f)(F:FnOk X.prog X.w X.K X.mg X.base (DG X.prog X.w) k f fd ps sp)(G:Room k X.A)(L:Cr X.K fd ps [])(M:PA (X.tr qA σ0 E) (e::es) t)(i:starEach (e::es) X.env=(false,eval e X.env)::starEach es X.env:=by rfl)(j:(backTo pos (starEach es X.env)).any (·.1)=false:=by rfl)(D:eval (.Call (.Attribute o m qK) (e::es) [] pos) X.env=(do
   let n<-eval o X.env
   standAt qK.atName let(f,first)<-holding [n] (getMethod n m pl)callWith pos f first (backTo pos (starEach (e::es) X.env)) (backToKw pos (keywordEach [] X.env))):=by rfl):PE (X.tr qA σ0 E) (.Call (.Attribute o m qK) (e::es) [] pos) (US σ0 (JX C m sp [] E ta t)):=by rintro d s U H Q I⟨rfl,h⟩;show PySem.W.methodCall_KW (AQ (J d s U H _ I h) λu z zz=>?_) D;done<;>(let[x,H1,y,B,a,dx,fs,ex,N,l,q]:=zz;subst ex;obtain rfl:u=Value.ref a:=B);show Pw y N c p l ?_;show PySem.W.callWith_K I.ok.mod.kin p.kp (AQ (M pos d z U H1 _ y q) λus O zz=>?_) i j;done<;>let[vs,H2,v,r,g]:=zz;show#[v.kIn,?_];show f8 (vs:=.ref a::vs) ow F G L v (.cons rfl r) ?_;simp_all
end
structure ClassAt(K:Fg)(mg:Str->C2)(x:Str)(C:Addr):Prop where
 bd:mg x\(.ref C)cl:Cls K C
 mks:PySem.W.makesIn K C=true
 kp:PySem.W.keepIn K (.ref C)=true
def Im(K:Fg)(C:Addr)(m qual:Str)(st:Stmt):Prop:=(∃(f:Addr)(fd:FuncData),Fun K m qual st f fd/\Meth K C m f)
def EM(P:Program)(w:World)(K:Fg)(mg:Str->C2)(base:Heap)(C:Addr)(m:Str)(k:Nat)(ps:At)(sp:Sp):Prop:=(∃(f:Addr)(fd:FuncData),FnOk P w K mg base (DG P w) k f fd ps sp/\Meth K C m f/\Cr K fd ps [])
def OT{P}{K}{m}{st}(D:Im K C m qual st)(S:FnScope N ps (AL st))(l:∀(kV doc pm)(an:FG)(a ct)(us:B6),us.length=ps.length->bindArgs (PySem.W.fnOf m qual (Ca st) (Bi st) (AL st) .none kV doc pm an a ct) {us,[]}=pure (ps.zip us))(len:∀vs H Q E,sp vs H Q E->vs.length=ps.length)(c:∀(f)(a)(A)(outer)(s)(H)(vs)(Q)(E),Room k (A.deeper (PyProof.Rows.envOfC qual (AL st) 'H' f a))->sp vs H Q E->∃t,BS (FQ P w K mg base N qual (AL st) f a A outer s H E) (Bi st) t/\t {nx:=λ_ H'=>Q .non H',rt:=Q} (start N vs) H):EM P w K mg base C m (k+1) ps sp:=by let[f,fd,F,j]:=D;show{f,fd,?_,j,F.binds l};let[oc,od,kV,doc,pm,an,a,ct,g,0,h,e]:=F.ex;show JY h e S len λA outer s H vs Q E i d=>c f a A outer s H vs Q E i d
noncomputable def OU{m}{o}{E}(G:EM X.prog X.w X.K X.mg X.base C m k ps sp)(c:Cls X.K C)(d:DK (DG X.prog X.w) X E)(g:Room k X.A)(i:PE X o ta)(e:eval (.Call (.Attribute o m qK) [] [] pos) X.env=(do
   let a<-eval o X.env
   standAt qK.atName let(f,first)<-holding [a] (getMethod a m pl)callWith pos f first (backTo pos (starEach [] X.env)) (backToKw pos (keywordEach [] X.env))):=by rfl):PE X (.Call (.Attribute o m qK) [] [] pos) (JX C m sp [] E ta BU):=by let[f,fd,F,h,j]:=G;show XC i c h F g j .nil d e
def gA{p}{E}(c:ClassAt X.K X.mg x C)(G:EM X.prog X.w X.K X.mg X.base C "__init__" k ps sp)(h:DK (DG X.prog X.w) X E)(i:Room (k+1) X.A)(j:Gl X x)(n:PA X (e::es) t)(d:No x:=by decide+kernel)(l:starEach (e::es) X.env=(false,eval e X.env)::starEach es X.env:=by rfl)(a:(backTo pos (starEach es X.env)).any (·.1)=false:=by rfl):PE X (.Call (.Name x p) (e::es) [] pos) (Py C sp [] E t):=by let[f,fd,F,g,m]:=G;show XE #[c.mks,g.at_,g.fn,c.kp] F i j c.bd m .nil h n d l a
def gB{E}{m}{e o}{pl}(G:EM X.prog X.w X.K X.mg X.base C m k ps sp)(ow:Own X)(c:Cls X.K C)(i:Room k X.A)(l:PE (X.tr qA σ0 E) o ta)(p:PA (X.tr qA σ0 E) (e::es) t)(a:starEach (e::es) X.env=(false,eval e X.env)::starEach es X.env:=by rfl)(d:(backTo pos (starEach es X.env)).any (·.1)=false:=by rfl)(h:eval (.Call (.Attribute o m qK) (e::es) [] pos) X.env=(do
   let g<-eval o X.env
   standAt qK.atName let(f,first)<-holding [g] (getMethod g m pl)callWith pos f first (backTo pos (starEach (e::es) X.env)) (backToKw pos (keywordEach [] X.env))):=by rfl):PE (X.tr qA σ0 E) (.Call (.Attribute o m qK) (e::es) [] pos) (US σ0 (JX C m sp [] E ta t)):=by let[f,fd,F,j,n]:=G;show f9 ow l c j F i n p a d h
noncomputable def K0(b:Addr)(H:Hp):S->Option V->Prop
 |.emp,_=>True|.sh x,o=>∃v,o\v/\Rp b (λp=>p=b) H x v|_,_=>False
noncomputable def Bf(b:Addr)(H:Hp):dJ->St->Prop|[],U=>U=[]|s::Y,U=>∃o r,U=o::r/\K0 b H s o/\Bf b H Y r
section
variable{b:Addr}
def K1:AC b Z H [] []:=rfl
def Dz{x}(h:Rp b Z H x v)(t:AC b Z H xs vs):AC b Z H (x::xs) (v::vs):=#[_,_,0,h,t]
def Co:Bf b H [] []:=rfl
def AS{o}(t:Bf b H Y U):Bf b H (.emp::Y) (o::U):=#[_,_,0,trivial,t]
def A9{x}(h:Rp b (λp=>p=b) H x v)(t:Bf b H Y U):Bf b H (.sh x::Y) (some v::U):={_,_,0,#[_,0,h],t}
def gC{x}{o}(h:K0 b H x o)(t:Bf b H Y U):Bf b H (x::Y) (o::U):=#[_,_,0,h,t]
theorem Bf.len:∀{Y}{U},Bf b H Y U->U.length=Y.length|[],_,h=>by rw[h];rfl|s::Y,U,h=>by let[o,r,0,_,h]:=h;rw[length_cons,length_cons,Bf.len h]
theorem Bf.get:∀{Y}{U}{i:Nat}{s},Bf b H Y U->Y[i]?\s->∃o,U[i]?\o/\K0 b H s o|[],_,_,_,_,e=>by cases e|s::Y,U,0,s',h,e=>by let[o,r,0,a,_]:=h;simp_all|s::Y,U,i+1,s',h,e=>by let[o,r,0,_,h]:=h;show Bf.get (i:=i) h e
theorem OV(f:Bag H b a)(h:Bf b H Y U):Ok {b,a,H,λ_=>none,λ_=>False} Y U H where
 bag:=f
 fb:=rfl
 old:=λ_ _ _ e=>e
 frm:=λ_ _ e=>nomatch e
 oo:=λ_ z=>z.elim
 len:=h.len
 slot:=λi s e=>by let[o,h1,h2]:=h.get e;show#[o,h1,?_];cases s with
  |emp=>trivial|sh x=>
   let[v,0,r]:=h2;show{v,0,r.keep (λp o d e=>{λz=>d ?_,e}) λp vs e=>e};let z||z:=z
   .show z
   .let z||[j,y,g,_]:=z
    .simp_all
    .let[_,_,c]:=h.get g;show c.elim|fr x=>show h2.elim|own x=>show h2.elim
 uniq:=λi j x y h1=>by let[_,_,c]:=h.get h1;show c.elim
theorem Bf.st:∀{Y}{U},Bf b H Y U->Bag H b a->Step b a H H'->Bf b H' Y U|[],_,h,_,_=>h|s::Y,U,h,hb,st=>by let[o,r,0,c,h]:=h;show{o,r,0,?_,Bf.st h hb st};cases s with
  |emp=>trivial|sh x=>let[v,0,r]:=c;show{v,0,r.keep (λp o d e=>{d,st.same p o d e}) λp vs e=>st.same p _ (hb.neT e).1 e}|fr x=>show c.elim|own x=>show c.elim
inductive tQT(p:pT)(U:St)(H:Hp)(Q:Bool->Hp->Prop):Prop|mk(b a:Addr)(Y:dJ)(K:Bool->Prop)(hb:Bag H b a)(sl:Bf b H Y U)(hp:p Y K)(k:∀c H',K c->Step b a H H'->Q c H')
inductive tQE(p:pE)(U:St)(H:Hp)(Q:VK):Prop|mk(b a:Addr)(Y:dJ)(K:P->Fl->Prop)(hb:Bag H b a)(sl:Bf b H Y U)(hp:p Y K)(k:∀x f v H',K x f->Step b a H H'->Rp b (λp=>p=b) H' x v->((f=.nw\/f=.fr)->Rp b (λp=>H p≠none) H' x v)->Q v H')
variable{e:Expr}
def Dh{p}(h:QT (λ_:Unit=>X) e p):PT X e (tQT p):=by let[t,h1,h2]:=h;rintro qA s U H Q I⟨b,a,Y,K,g,c,f,k⟩;show h1 () qA s U H Q I (h2 _ Y U H Q K (OV g c) f k)
def UT{p}(h2:Bs t p){Q}(i:tQE p U H Q):t U H Q:=by
 let[b,a,Y,K,m,g,j,k]:=i;let ok:=OV m g;show h2 _ Y U H Q K ok j λx f v H' h st r=>k x f v H' h st (r.any (ok.step st)) λl=>?_;let c:∀p,H p≠none->AJ {b,a,H,λ_=>none,λ_=>False} Y U .fr p:=λp z=>.inr (.inr z);let 0||0:=l
 .show Rp.keep (λp o d e=>{λz=>d (c p z),e}) (λp vs e=>e) r.1
 .show Rp.keep (λp o d e=>{λz=>d (c p z),e}) (λp vs e=>e) r
def DQ{p}(h:QE (λ_:Unit=>X) e p):PE X e (tQE p):=by let[t,h1,h2]:=h;showλqA s U H Q I a=>h1 () qA s U H Q I (UT h2 a)
def OW{r}(h:BE r pr){x}{u}{Q}{K}(c:Bag H b a)(e:Rp b (λp=>p=b) H x v)(d:Rp b (λp=>p=b) H y u)(i:pr x .an y .an K)(k:∀z f v' H',K z f->Step b a H H'->Rp b (λp=>p=b) H' z v'->Q v' H'):r v u H Q:=by let ok:Ok {b,a,H,λ_=>none,λ_=>False} [] [] H:=OV c rfl;show h _ _ _ H H Q K x y .an .an v u ok (Step.refl c) e d i λz f v' H' g st r=>k z f v' H' g st (r.any (ok.step st))
def K2{P}:DK (DG P w) X (λ_ _ _=>False):=λ_ _ _ _ _ _ _ h=>by let[_,_,_,_,_,_,_,_,_,_,_,_,_,_,_,h]:=h;simp_all
end
section
variable{N':At}{cf:Expr}{ifs:Go}{pi:pI}{pg:pG}{pt:pT}
def OX{f}(d:∀_:Unit,X.N.Nodup)(S:CompScope N sc N' qC scope)(r:GY qC)(y:∀_:Unit,X.calm=true)(hi:QI (λ_:Unit=>X) tg iter pi)(u:GZ (Eg (λ_:Unit=>X) N' scope) qC tg pg)(o:Hx (Eg (λ_:Unit=>X) N' scope) ifs pt)(w:QE (Eg (λ_:Unit=>X) N' scope) cf pe)(e:X.N[k]?\x:=by rfl)(n:D5 X.env.scope x:=by trivial)(z:X.N=N:=by rfl)(c:X.env.scope=sc:=by rfl)(a:swapsWith (.ListComp cf [#[tg,iter,ifs,(0)]] scope pos) (some (.Name x pos')) f.line X.env=pure true:=by rfl)(q:∀x,foldedSetIterable iter X.env x=pure x:=by rfl)(v:X.fn x=true\/X.env.scope.names.lookup x\.local:=by trivial):PS X (.Assign [.Name x pos'] (.ListComp cf [#[tg,iter,ifs,(0)]] scope pos) f) (ET (tQE (Hw pi qC pg pt pe)) (Bq k)):=by let[wi,m,l]:=hi;let[g,C,B,A]:=u;let[tt,j,i]:=o;let[te,G,E]:=w;intro qA s U H D I h;show Ql S (d ()) e n (y ()) (m ()) A (λp=>C ((),p)) (λp=>j ((),p)) (λp=>G ((),p)) z c a q v qA s U H D I (UT (NC r l B i E) h)
end
open PySem.W
def UU(h:Heap)(it d:Addr)(i n ep:Nat):Prop:=(∃ok ov,h.get? it\(Bd .none false d i n ep ok ov))
section
variable{es:Array DictEntry}
def gD{Q:C2->Shared->Prop}(st:UU s.heap it d i es.size ep)(M:B4 s.heap d es ep)(hi)(N:∀h',h'.get? it\(Bd (rawInt 'H') false d (i+1) es.size ep es[i].key es[i].val)->h'.get? 'H'\(Dg es[i].key es[i].val)->(∀b o,b≠it->'F' b\o->h'.get? b\o)->Q (some (.ref 'H')) {s with heap:=h'}):'C' (pyNext (.ref it)) Q E s:=by
 let[a,m,q,tk,os]:=s;let[ok,u,n]:=st;let[od,j,_,l]:=id M;let ty:Shared.TypeIs #[a,m,q,tk,os] (.ref it) "dict_itemiterator":=#[_,n,0];show wB (wpAny_attempt (wpAny_callSpecial?_slot ty F.slot_dict_itemiterator_next (cQ F.slot_dict_itemiterator_next ty F.entry_dict_itemiterator_next ?body (F.args_dict_itemiterator_next_1 _))));show wB (wP (wB (wB ?_)))
 first
  |show wB (wpAny_typeNameOfWhole_itemiter ty (wP (wB (wpAny_fieldsOf n rfl ?_))))|show wB (wpAny_typeNameOf_itemiter ty (wP (wB (wpAny_fieldsOf n rfl ?_))))
 show wB (wP (wB (wpAny_dictEntries j l ?_)));rw[aB '2'];show wB (wP (wB (wpAny_dictEpoch j l ?_)));rw[aB '2'];show wP ?_;simp only[show¬(i<0)by simp,if_false,Int.toNat_natCast,cL hi];show wB ?_
 first
  |show wB (wpAny_typeNameOfWhole_itemiter ty (wP (wB (wpAny_isOneOf_itemiter ty ?_))))|show wB (wpAny_typeNameOf_itemiter ty (wP (wB (wpAny_isOneOf_itemiter ty ?_))))
 change 'A' (setField (.ref it) 3 (rawInt (i+1))>>=_) _ _ #[a,m,q,tk,os];show wB (wpAny_setField_rec n '2' λh1 H I=>?_);let r:=I;let f:h1.get? it\(Bd .none false d (i+1) es.size ep ok u):=by let e:((i+1:Nat))=i+1:=(by simp only[*]);unfold Bd;simpa[rawInt]using H
 let c:Shared.TypeIs #[h1,m,q,tk,os] (.ref it) "dict_itemiterator":=#[_,f,0];show wB (bM (wB (wpAny_isOneOf_itemiter c (wB (wpAny_isOneOf_itemiter c ?_)))));show wB (wpAny_newTuple ?_);let L:=bN n;let g:=r.1;obtain⟨h2,p⟩:∃h2,h2=h1.push (Dg es[i].key es[i].val):=#[_,0];let y:h2.get? it\(Bd .none false d (i+1) es.size ep ok u):=by rw[p];show aS _ f
 let p2:h2.get? a.objs.size\(Dg es[i].key es[i].val):=by rw[p,<-g];show bP _ rfl
 let k2:∀b o,b≠it->a.get? b\o->h2.get? b\o:=λb o v e=>by rw[p];show aS _ (r.extBut b o v e)
 rw[g,<-p];let J:=Nat.ne_of_gt L;show wB ?_;show wB (wpAny_field y rfl rfl ?_);show wP ?_;show wB (wpAny_field y rfl rfl (wB (wpAny_field y rfl rfl ?_)));show wB (wpAny_setField_rec y '2' λσ g3 b3=>?_);let D:=g3;show wB (wpAny_setField_rec D '2' λT g4 b4=>?_);let C:=g4;show wB (wpAny_setField_rec C '2' λO g5 b5=>?_);let B:=g5;show wB (wpAny_setField_rec B '2' λG ρ b6=>?_);let z:=ρ;let b':=((Heap.SameBut.trans b3 b4).trans b5).trans b6;show wB (wpAny_letGo (wP (wP {_,0,wP (N G z (b'.extBut _ _ J p2) λb o v e=>b'.extBut b o v (k2 b o v e))})))
def gE{T:Nat}{ok a}{Q}(hz:'F' it\(Bd (rawInt T) false d i n ep ok a))(f:∀h',h'.get? it\(Bd .none false d i n ep ok a)->Heap.SameBut it s.heap h'->Q () {s with heap:=h'}):'C' (letOwnedTupleGo (.Tuple elts x1 pos) (.ref it) (.ref T)) Q E s:=by
 show wB (wpAny_load hz ?_);change 'A' (if(["enumerate","zip","dict_itemiterator","dict_reverseitemiterator","odict_iterator","itertools.zip_longest","itertools.pairwise"].contains "dict_itemiterator"&&([rawInt T,.bool false,.ref d,.int i 0,.int n 0,.int ep 0,ok,a].toArray)[0]?==some _)=true then _ else _) Q E s
 rw[aC '2'];show wB (wpAny_rule ?_);show wpAny_setField_rec hz '2' λh' c e=>f h' c e
end
theorem UV{P}:∀{es}{vs},Pairs (Bp P w) es vs->∀{i:Nat}{e},es[i]?\e->∃q,vs[i]?\q/\AR (kV q.1) e.key/\e.val=q.2
 |_,_,.nil,i,e,h=>by cases h|_,_,.cons h1 h2 t,0,e,h=>by cases h;show{_,0,S3 h1,h2}|_,_,.cons h1 h2 t,i+1,e,h=>UV t h
theorem OY:∀{qH}{vs},KV qH vs->∀{i:Nat}{q:AT×Value},vs[i]?\q->∃p,qH[i]?\p/\p.1=q.1/\AR p.2 q.2|_,_,.nil,i,q,h=>by cases h|_,_,.cons r t,0,q,h=>by simp_all|_,_,.cons r t,i+1,q,h=>OY t h
section
variable{qH:List (AT×V)}
def Inv.freezeK(I:'D')(e:H a\(.dK qH)):∃o,Inv X qA U (AB H a (.frz o (.dK qH))) s:=by let[z,hd,vs,rel,o,es,ep,h1,r]:=MX I.hok e;show#[o,Jf I (by rw[e];show True.intro) {0,λ_ _=>rfl} #[o,h1] #[h1,z,hd,vs,rel,o,es,ep,h1,r]]
def A3.thaw{P}{o}{u}(x:A3 P w H h)(e:H a\(.frz o u)):A3 P w (AB H a u) h:=by
 let d:∀b c,H b\(.own c)->AB H a u b\(.own c):=λb c q=>by rw[AE (CC q e '5')];show q
 let nt:∀b xs,H b\(.tup xs)->AB H a u b\(.tup xs):=λb c q=>by rw[AE (CC q e '5')];show q
 intro b v q;by_cases hb:b=a
 .subst hb;rw[AN]at q;cases q;show(x b _ e).2.stay (λ_ _ _ z=>z) (λc z=>d c b z) nt
 .rw[AE hb]at q;show(x b _ q).stay (λ_ _ _ z=>z) (λc z=>d c b z) nt
def Inv.thaw{o}{u}(I:'D')(e:H a\(.frz o u))(f:∀o u,X.H₀ a≠some (.frz o u)):Inv X qA U (AB H a u) s:=by
 let ne:∀b,H b=none->b≠a:=λb z q=>by rw[q,e]at z;cases z
 let fr:∀b,H b=none->AB H a u b=none:=λb z=>by rw[AE (ne b z)];show z
 show{
  ok:=I.ok,os:=I.os,bare:=I.bare
  base:=#[I.base.keep,I.base.slot,λb ob q n x=>fr b (I.base.free b ob q n x),I.base.there,λb xs q=>by let z:=I.base.tups b xs q;rw[AE (CC z e '5')];show z,λb ob v q=>by let z:=I.base.frzs b ob v q;rw[AE (λy=>f ob v (by rw[<-y];show q))];show z,λb ps q=>by let[more,z]:=I.base.tbls b ps q;show{more,by rw[AE (CC z e '5')];show z}]
  loc:=I.loc,cell:=I.cell,free:=fr _ I.free,freeC:=λx c q=>fr _ (I.freeC x c q)
  pin:=λp hp=>(by let[p1,p2,d]:=I.pin p hp;show{p1,fr _ p2,d})
  hok:=I.hok.thaw e,len:=I.len}
def Ip(d:Addr)(o:Obj)(qH:List (AT×V)):It:=({λi H=>H d\(.frz o (.dK qH))/\i<qH.length,λi H v H'=>∃q p,v=.ref q/\H q=none/\qH[i]?\p/\H'=AB H q (.tup [kV p.1,p.2]),λi H=>H d\(.frz o (.dK qH))/\qH.length<=i})
def K3{o}(hok:A3 P' w H h)(e:H p\(.frz o (.dK qH))):∃(es:Array DictEntry)(ep:Nat),o.data=.dict es ep/\B4 h p es ep/\(p==sysModules)=false/\es.size=qH.length/\∀(i)(hi:i<es.size),∃q,qH[i]?\q/\AR (kV q.1) es[i].key/\AR q.2 es[i].val:=by done<;>let[d,z,f,vs,rel,o',es,ep,h1,h2,c,_,a,_]:=(hok p _ e);rw[d]at h1;cases h1;let l1:=a.length;let l2:=rel.length;show{es,ep,c,#[o,d,h2,c],f,by simp_all,λi hi=>?_};done<;>(let[q,r,n,m]:=UV a (by rw[Array.getElem?_toList];show cL hi);let[p,l,j,g]:=OY rel r);simp_all
theorem gF{P}{K}(d it)(o)(es)(ep)(ho:o.data=.dict es ep):Turn P w K (.Tuple elts x1 tpos) (Ip d o qH) [it] it (λi h=>i<=es.size/\UU h it d i es.size ep)where
 mem:='2'
 obj:=λi h st b f=>by
  let e:b=it:=by simpa using f
  subst e;let[_,_,_,e]:=st;show{_,e,λv z=>nomatch z}
 keep:=λi h h' st k=>by let[l,a,b,e]:=st;show{l,a,b,k it '2' _ e}
 item:=by
  intro X D u G hc i qA s U H E I A st y;let[B,hi]:=y;let[Q,T,c,r,x,hz,e1]:=K3 I.hok B;rw[ho]at c;cases c;done<;>(let[m,O,f2,N,M,L]:=A it '2';let j:i<es.size:=(by simp_all);let[q,e2,e3,e4]:=e1 i j);show gD st.2 r j λh' p gp kp=>{_,0,gE p λh2 n σ=>?_};let il:it<'H':=(by let[_,_,_,e]:=st;show bN e);let ne:=Nat.ne_of_gt il;let I1:Inv X qA U H {s with heap:=h2}:=I.turned (λb o f e=>σ.extBut b o f (kp b o f e)) m O N M L;let fa:=I.hok.fresh (aQ _);let ap:=I.apart2 (aQ _) fa;let J:=σ.extBut _ _ ne gp;show{.ref 'H',_,I1.track (o:=.tup [kV q.1,q.2]) ap {(by decide:2<=sizeLine),[es[i].key,es[i].val],.cons e3 (.cons e4 .nil),_,J,0,#[_,0],0},0,#[_,q,0,fa,e2,0],#[j,_,_,n],λb f=>?_};let e:b=it:=by simpa using f
  subst e;rw[AE (Ne.symm ne)];show m
 done:=by
  intro X D u G hc i qA s U H E I A st y;let[B,hi]:=y;let[Q,T,c,r,x,hz,e1]:=K3 I.hok B;rw[ho]at c;cases c;let[m,O,f2,N,M,L]:=A it '2';let ei:i=es.size:=by let:=st.1;lia
  subst ei;let[ok,ρ,g]:=st.2;show UE (I.ok.hd hc) #[.none,false,ok,ρ,g,.inl #[0,0]] r λh' eb=>{0,I.turned (λb o f e=>eb b o f e) m O N M L}
 self:=λ_ _ s _ _ st h=>by let[_,ok,ρ,g]:=st;let C:s.TypeIs (.ref it) "dict_itemiterator":=#[_,g,0];show wpAny_pyIter_slot C PySem.F.slot_dict_itemiterator_iter (cQ PySem.F.slot_dict_itemiterator_iter C kcp_entry ?_ (PySem.F.args_dict_itemiterator_iter_1 _));change 'A' (ret (.ref it)) _ _ s;show wP {_,0,"dict_itemiterator",_,C,PySem.F.slot_dict_itemiterator_next.lookup,h}
def UW(tl:TE):TI:=(λU H R=>tl U H λx H1=>∃a o qH,x=.ref a/\H1 a\(.frz o (.dK qH))/\∀r,H1 r=none->R (Ip a o qH) (AB H1 r (Cn r a)))
def UX{x1}(C:PE X l tl)(f:attributeBase l "items" X.env (eval l X.env)=eval l X.env:=by rfl)(d:(qK.endLine==qJ.line)=true:=by rfl):PI X (.Tuple elts x1 tpos) (.Call (.Attribute l "items" qK) [] [] qJ) (UW tl):=by
 intro qA s U H R I h;show wpAny_Call_method0_late f d (AQ (C qA s U H _ I h) λv c zz=>?_);done<;>let[x,H1,w,y,a,o,qH,ex,D,q]:=zz;subst ex;cases y;done<;>let[es,ep,n,i,m,M,_]:=K3 w.hok D;show{"dict","dict.items",PySem.F.plainAttrs_dict,PySem.F.slot_dict_items,PySem.F.type_dict_items,i.typeIs,λN e=>?_,Calls.callWith_builtin rfl (PySem.evalArgs_none ?_)}
 .cases e;let[z,L,J,_]:=i;show#[z,L,J.2.1]
 show call_meetsIn PySem.F.slot_dict_items i.typeIs PySem.F.entry_dict_items (PySem.F.args_dict_items_1 _) (S:=λ_ R s=>s.TypeIs (.ref a) "dict"/\R (.ok (.ret (.ref 'H'))) {s with heap:=s.heap.push {cls:=.type "dict_items",data:=.fields [.ref a].toArray}}) (.of_wp λA R s⟨ty,h⟩=>?_) #[i.typeIs,?_]
 .show wB (wB (wpAny_notOrdered_dict ty ?_));show wP ?_;unfold Builtin.Dict.showsAll;rw[aB (by rw[m];show cH)];show wB (wP (wB (cG (wP #[_,0,h]))))
 .let g:(c.heap.push {cls:=.type "dict_items",data:=.fields [.ref a].toArray}).get? c.heap.objs.size\{cls:=.type "dict_items",data:=.fields [.ref a].toArray}:=bP _ rfl;let p:=w.laid (t':=c.toks) (o:=Cn c.heap.objs.size a) (λb u e=>aS _ e) (aQ _) #[#[_,g,0,0],#[_,g],λh1 h2 zz B=>(by let[o,e,r]:=zz;show{o,B o e,r})];let G:=w.hok.fresh (aQ c.heap.objs.size);let j:=i.keep (h':=c.heap.push {cls:=.type "dict_items",data:=.fields [.ref a].toArray}) λo e=>aS _ e;show UF #[_,g,0,0] j ?_;show{_,[_],_,_,_,0,p.kept λb o e=>aS _ e,gF a _ o es ep n,{cD _,.none,.none,bP _ rfl},λb E=>?_,q _ G};let e:=bI.mp E;subst e;show p.fpOk (aQ _) (p.hok.fresh (aQ _))
def gG{o}{tb:TS}{D:Ends}(Pv:Nat->St->Hp->Prop)(v:Pv 0 U H)(r:∀i U H,Pv i U H->H d\(.frz o (.dK qH)))(l:∀i p U H q,qH[i]?\p->Pv i U H->H q=none->g (.ref q) U (AB H q (.tup [kV p.1,p.2])) λc H2=>tb {D with nx:=Pv (i+1),ct:=Pv (i+1),bk:=D.nx} c H2)(u:∀U H,Pv qH.length U H->D.nx U H):∃W:Nat->Nat->St->Hp->Prop,(∃m,W 0 m U H)/\∀i m U H,W i m U H->((Ip d o qH).stop i H/\D.nx U H)\/((Ip d o qH).go i H/\∃N,(∀σ' H',N σ' H'->∃h,h<m/\W (i+1) h σ' H')/\∀x H',(Ip d o qH).yld i H x H'->g x U H' λc H2=>tb {D with nx:=N,ct:=N,bk:=D.nx} c H2):=by
 show{λi m U H=>m=qH.length-i/\i<=qH.length/\Pv i U H,{qH.length,'2',cD _,v},?_};rintro i m U H⟨rfl,hi,p⟩;let q:=r i U H p;by_cases f:i<qH.length
 .show .inr #[#[q,f],Pv _,λσ' H' j=>{qH.length-(i+1),(by omega),0,f,j},λx H' y=>?_];let[a,e,0,n,s,0]:=y;show l i e U H a s p n
 .let e:i=qH.length:=⋯;subst e;show .inl #[{q,aQ _},u U H p]
def UY(X:Cx)(p:Addr)(qH:List (AT×V))(t:TS):TS:=(λD U H=>H p\(.dK qH)/\(∀o u,X.H₀ p≠some (.frz o u))/\∀o,t {nx:=λσ' H'=>H' p\(.frz o (.dK qH))/\D.nx σ' (AB H' p (.dK qH)),rt:=λv H'=>H' p\(.frz o (.dK qH))/\D.rt v (AB H' p (.dK qH)),bk:=λσ' H'=>H' p\(.frz o (.dK qH))/\D.bk σ' (AB H' p (.dK qH)),ct:=λσ' H'=>H' p\(.frz o (.dK qH))/\D.ct σ' (AB H' p (.dK qH))} U (AB H p (.frz o (.dK qH))))
noncomputable def K4{st}(h:PS X st t):PS X st (λD U H=>∃p qH,UY X p qH t D U H):=by intro qA s U H D I#[p,qH,e,c,q];let[o,d]:=I.freezeK e;show AQ (h qA s U _ _ d (q o)) λf s' r=>?_;cases f with
 |next=>let[σ',H',J,a,q]:=r;show{σ',_,J.thaw a c,q}|brk=>let[σ',H',J,a,q]:=r;show{σ',_,J.thaw a c,q}|cont=>let[σ',H',J,a,q]:=r;show{σ',_,J.thaw a c,q}|ret u=>let[v,σ',H',J,rv,a,q]:=r;show{v,σ',_,J.thaw a c,rv,q}
end
section
variable{P:Program}{K:Fg}{f:Addr}{s₀:Shared}{H₀:Hp}{E:XK}{qH:List (AT×V)}
def gH(n:∀o u,H₀ p≠some (.frz o u)):DK (DG P w) (FQ P w K mg base N qual sc f cd A outer s₀ H₀ E) (λcls d H'=>∃o,H' p\(.frz o (.dK qH))/\E cls d (AB H' p (.dK qH))):=λqA U H s e s' I h=>by
 done<;>let[a,cls,d,T,H',0,os,c,un,g,tr,na,l,r,v,o,i,m]:=h;let J:=(I.call' os un g c (λb z=>bS z '2')).thaw i n;let j:∀b,H' b=none->AB H' p (.dK qH) b=none:=λb z=>by rw[AE (λq=>by rw[q,i]at z;cases z)];show z
 show Ku Kv J (.inr #[T,0,tr]) (λb hb=>?_) m;let 0||hb:=aF.mp hb
 .show I.apart rfl na (j _ r)
 .rw[bI.mp hb];show I.apart rfl l (j _ v)
end
section
variable{qH:List (AT×V)}
def K5(d:Addr)(o:Obj)(qH:List (AT×V)):It:=({λi H=>H d\(.frz o (.dK qH))/\i<qH.length,λi H v H'=>H'=H/\∃p,qH[i]?\p/\v=p.2,λi H=>H d\(.frz o (.dK qH))/\qH.length<=i})
def K6{o}{es}(hok:A3 P' w H h)(e:H p\(.frz o (.dK qH)))(a:o.data=.dict es ep):∃vs,h.DictAt (Bp P' w) p vs ep/\(p==sysModules)=false/\vs.length=qH.length/\∀(i:Nat)q,vs[i]?\q->∃r,qH[i]?\r/\AR r.2 q.2:=by done<;>let[d,z,g,vs,rel,o',j,l,h1,h2,c,r]:=(hok p _ e);rw[d]at h1;cases h1;rw[a]at c;cases c;show{vs,#[_,_,d,h2,a,r],g,rel.length.symm,λi q f=>(by let[x,n,_,m]:=OY rel f;show#[x,n,m])}
theorem gJ{P}{K}(d it)(o)(es)(ep)(m:o.data=.dict es ep):Turn P w K tg (K5 d o qH) [it] it (λi h=>i<=qH.length/\h.IsValIter it d i qH.length ep)where
 mem:='2'
 obj:=λi h st b f=>by
  let e:b=it:=by simpa using f
  subst e;let[_,o,e,c,d]:=st;show{o,e,λv z=>by rw[d]at z;cases z}
 keep:=λi h h' st k=>by let[l,o,e,r]:=st;show{l,o,k it '2' o e,r}
 item:=by intro X A q B M i qA s U H E I p st u;subst A q B;done<;>(let[x,hi]:=u;let[vs,g,_,n,ex]:=K6 I.hok x m;let[L,J,Q,G,D,C]:=p it '2';let j:i<vs.length:=(by simp_all);let[r,O,rv]:=ex i vs[i] (aH j));show wpAny_pyNext_values_item (by rw[n];show st.2) g (aH j) λh' a N=>?_;let σ:Inv X qA U H {s with heap:=h'}:=I.turned (λb o f e=>(N.2 b f).trans e) L J G D C;rw[n]at a;let[ρ,e,c,dd]:=id a;show#[_,0,HQ e c dd '3' {r.2,H,σ,rv,#[0,r,O,0],#[hi,a],λb f=>(p b f).1}]
 done:=by intro X A q B M i qA s U H E I p st u;subst A q B;let[x,hi]:=u;let[vs,g,_,n,ex]:=K6 I.hok x m;let[L,J,Q,G,D,C]:=p it '2';show wpAny_pyNext_values_end (I.ok.hd M) (by rw[n];show st.2) g (bQ (by simp_all)) λh' T=>{0,I.turned (λb o f e=>T b o f e) L J G D C}
 self:=λ_ _ s _ _ st h=>by let[_,m]:=st;let y:=m.typeIs;show wpAny_pyIter_slot y PySem.F.slot_dict_valueiterator_iter (cQ PySem.F.slot_dict_valueiterator_iter y entry_dict_valueiterator_iter ?_ (PySem.F.args_dict_valueiterator_iter_1 _));show wP {_,0,"dict_valueiterator",_,y,PySem.F.slot_dict_valueiterator_next.lookup,h}
def gK(tl:TE):TI:=(λU H R=>tl U H λx H1=>∃a o qH,x=.ref a/\H1 a\(.frz o (.dK qH))/\R (K5 a o qH) H1)
def UZ(J:PE X l tl)(f:attributeBase l "values" X.env (eval l X.env)=eval l X.env:=by rfl)(c:(qK.endLine==qJ.line)=true:=by rfl):PI X tg (.Call (.Attribute l "values" qK) [] [] qJ) (gK tl):=by
 intro qA s U H R I h;show wpAny_Call_method0_late f c (AQ (J qA s U H _ I h) λv i zz=>?_);done<;>let[x,H1,B,r,a,o,qH,ex,y,q]:=zz;subst ex;cases r;done<;>(let[es,ep,d,p,u,N,_]:=K3 B.hok y;let[vs,A,_,G,_]:=K6 B.hok y d);show{"dict","dict.values",PySem.F.plainAttrs_dict,PySem.F.slot_dict_values,PySem.F.type_dict_values,p.typeIs,λO e=>?_,Calls.callWith_builtin rfl (PySem.evalArgs_none ?_)}
 .cases e;let[D,z,M,_]:=p;show#[D,z,M.2.1]
 show call_meetsIn PySem.F.slot_dict_values p.typeIs PySem.F.entry_dict_values (PySem.F.args_dict_values_1 _) (meets_dict_values _ a u) {(by let[E,z,r]:=A;show#[vs,E,z,ep,r]),?_};let g:(i.heap.push {cls:=.type "dict_values",data:=.fields [.ref a].toArray}).get? i.heap.objs.size\{cls:=.type "dict_values",data:=.fields [.ref a].toArray}:=bP _ rfl;let n:=B.kept (t':=i.toks) (h':=i.heap.push {cls:=.type "dict_values",data:=.fields [.ref a].toArray}) λb o e=>aS _ e;done<;>let[C,m,_,j,_]:=K6 n.hok y d;show wpAny_pyIter_values #[_,g,0,0] m ?_;rw[j];show{_,[_],_,_,H1,0,n.kept λb o e=>aS _ e,gJ a _ o es ep d,{cD _,_,bP _ rfl,0,0},λb L=>?_,q};let e:=bI.mp L;subst e;show n.fpOk (aQ _) (n.hok.fresh (aQ _))
end
section
variable{qH:List (AT×V)}{o:Obj}{tt:TT}{Q:VK}
def gL(Pv:Addr->Nat->dH->Hp->Prop)(m:∀D,H D=none->Pv D 0 [] (AB H D (.lst [])))(e:∀D i ys H2,H D=none->i<=qH.length->Pv D i ys H2->H2 D\(.lst ys)/\H2 a\(.frz o (.dK qH)))(h:∀D,H D=none->∀i p ys H2,qH[i]?\p->Pv D i ys H2->g p.2 (L2.picked U qC) H2 λd r=>tt d r λb H5=>if b=true then te d H5 λy H6=>H6 D\(.lst ys)/\ys.length<sizeLine/\Pv D (i+1) (ys++[y]) (AB H6 D (.lst (ys++[y])))else Pv D (i+1) ys H5)(l:∀D ys H2,H D=none->Pv D qH.length ys H2->Q (.ref D) H2):Hc (K5 a o qH) qC g tt te U Q H:=Qm Pv m (λD i ys H2 c hi p=>(e D i ys H2 c hi p).1) (λD i ys H2 c hi p=>{(e D i ys H2 c (aY hi) p).2,hi})
  (λD ys H2 c p=>{(e D _ ys H2 c (aQ _) p).2,aQ _}) (λD i ys H2 x s c hi p z=>#[z.2,z.1]) (λD c i x ys H2 _ f p=>by let[q,j,0]:=f;show h D c i q ys H2 j p) l
end
def gM{K}(h:qC[i]?\none)(h':qC[j]?\none)(h2:qC[l]?\none):Fh qC (gTup K 3 (gCons (Bq i) (gCons (Bq j) (gCons (Bq l) E4)))):=by
 rintro U x H Q⟨a,xs,rfl,f,g,v,r,rfl,v',o,rfl,d,m,rfl,rfl,q⟩;show{a,_,0,f,g,v,_,0,v',_,0,d,_,0,0,q,λk v e=>?_};let c:∀{n},qC[n]?\none->n≠k:=λ{n}p z=>by subst z;rw[Jl p]at e;cases e
 rw[bV (c h2),bV (c h'),bV (c h)];show e
def Ua{k1}(e:qC[i]?\none)(d:qC[j]?\none)(c:qC[l]?\none)(g:∀i,(Xs i).calm=true)(m:∀i,(Xs i).K=Kf)(h:∀q,FY (Xs q) es (Ee [i,j,l]))(f:∀i,(assignEach es (Xs i).env).length=3:=by rfl)(a:∀i,(assignEach es (Xs i).env).findIdx? (·.1)=none:=by rfl):GZ Xs qC (.Tuple es k1 pos) (GX [i,j,l]):={gTup Kf 3 _,λi=>by let:=DI (k:=k1) (pos:=pos) (g i) (h i) (f i) (a i);simp_all,M8 rfl,gM e d c}
end L2
namespace L2
theorem gN:∀{a b},CH a->CH b->(∀y,y∈a↔y∈b)->a.head?=b.head?|[],[],_,_,_=>rfl|[],y::ys,_,_,h=>by let:=(h y).mpr cA;cases this|x::xs,[],_,_,h=>by let:=(h x).mp cA;cases this|x::xs,y::ys,h1,h2,h=>aT some (by
  let e||hx:=aF.mp ((h x).mp cA)
  .show e
  .let e||hy:=aF.mp ((h y).mpr cA)
   .show e.symm
   .show Fi x y ((cT.mp h2).1 x hx) ((cT.mp h1).1 y hy))
def Ub{a b}{y}:y∈Ic a b↔(AY a y).getD 0≠(AY b y).getD 0:=by unfold Ic;rw[cX,aW,bA];show#[λh=>h.2,λh=>{Classical.byContradiction λz=>h ?_,h}];rw[IY λq=>z (.inl q),IY λq=>z (.inr q)]
def gO{a b c b':Tl}(h:∀y,(AY a y).getD 0=(AY b y).getD 0↔(AY c y).getD 0=(AY b' y).getD 0):Dx a b=Dx c b':=gN (Ek _) (Ek _) λy=>by rw[(DE _).mem_iff,(DE _).mem_iff,Ub,Ub];show not_congr (h y)
def Uc{part}(nd:(t.map (·.1)).Nodup)(x)(d)(y):(AY (BL qI (Ar (BM t (x,d))) part) y).getD 0=(AY (BL qI t part) y).getD 0+(if An qI x part=y then 1 else 0)*d:=by
 let e:Ar (BM t (x,d))=Fy (t++[(x,d)]):=OP (IZ [(x,d)] t nd) (FO _) λr=>by rw[N6,Dw,UJ,FT nd];simp[cnt]
 unfold BL;rw[N9,Dw,N9,Dw,UM,UM,e,fc];simp[Cz]
def gP{a}{t u}(nt:(t.map (·.1)).Nodup)(c:(u.map (·.1)).Nodup)(r)(d):Dx (BL qI (Ar (BM t (An q r qI,d))) (BG qI a)) (BL a (Ar (BM u (An q r a,d))) (BG qI a))=Dx (BL qI t (BG qI a)) (BL a u (BG qI a)):=gO λy=>by rw[Uc nt,Uc c,UN (HA qI a).1,UN (HA qI a).2];simp
end L2
open L2
local macro_rules|`(tactic|simp! only[$ls,*]$[$l:location]?)=>do
  let ids:=("A4 GR C7 FE Hw RT RS RU NA NB CG pK Da GS Q7 Q8 Q9 RA RB Jx M7 M6 M5 RK Hr Bl RY J0 p1 IC NI NK Cv CT L2.ST Hy NG P.isNon Fo NH Rq NN Gg Rz R0 NS R7 R5 R6 IK KL R9 frzS Dc Mt Q3 DL BJ Fl.join Fl.el Fl.top Bj Ed FI Dq NL NM Nc SH SI SL KP SS Sv Np Nq N4 N5 Nr S2 SV GX Jz J9 RW T7 UB fG OO isEmpty_cons isEmpty_nil OR replicate map_cons map_nil length_cons length_nil cons_append nil_append getElem?_cons_zero getElem?_cons_succ set_cons_zero set_cons_succ getElem?_nil Option.getD_some Option.getD_none Nat.reduceAdd Nat.reduceSub Nat.sub_self Nat.zero_add dD if_false Bool.false_eq_true exists_eq_left exists_eq_left' ite_self exists_and_left exists_and_right exists_eq exists_eq' exists_const and_true true_and Option.some.injEq P.int.injEq P.str.injEq P.bl.injEq P.tup.injEq P.lst.injEq P.fT.injEq List.cons.injEq Prod.mk.injEq ne_eq reduceCtorEq not_false_eq_true decide_true decide_false Bool.true_or Bool.or_true Bool.false_or Bool.or_false Bool.and_true Bool.true_and Bool.and_false Bool.false_and Bool.not_true Bool.not_false ABX ABY ABZ ABa T4 T5 Yf Yg Yh Yi Yj Yk Yl Ym Qy Yn Mr Qz Hj Yo SW SX CI KU Yp Yq Yr Ys Yt Yu R1 R3 Zl Zm Zn Zo Zp Zq AAF SZ SY all_cons all_nil DN Gy KW de dh di Ng Bool.not_eq_true' decide_eq_false_iff_not decide_eq_true_eq".splitOn " ").toArray.map λs=>Lean.mkIdent s.toName`(tactic|simp only[$[$ids:term],*,$ls,*]$[$l]?)
local macro_rules|`(tactic|simp![$ls,*]$[$l:location]?)=>`(tactic|simp! only[dj,dk,dm,dn,aA,exists_prop,and_assoc,forall_const,forall_eq,forall_eq_apply_imp_iff,$ls,*]$[$l]?)
namespace K
open L2
def top(i:Nat):Stmt:=(PySem.Challenge.pw_roomtally_k30_whole_papers_change_no_bar.main.body.getD i (.Pass #[(0),(0),(0),(0)]))
noncomputable abbrev K7:Stmt:=top 17
def gQ:FnScope ["text"] ["text"] (AL K7):='0'
noncomputable abbrev HG:Stmt:=top 18
def Ud:FnScope Ϲ Ϲ (AL HG):='0'
noncomputable abbrev K8:Stmt:=top 19
def gR:FnScope ["names"] ["names"] (AL K8):='0'
noncomputable abbrev K9:Stmt:=top 20
def gT:FnScope ϳ ϳ (AL K9):='0'
noncomputable abbrev LA:Stmt:=top 21
def gU:FnScope ϰ ϰ (AL LA):='0'
noncomputable abbrev LB:Stmt:=top 22
def gW:FnScope ϓ ϓ (AL LB):='0'
noncomputable abbrev LC:Stmt:=top 23
def gX:FnScope ϯ ϯ (AL LC):='0'
noncomputable abbrev LD:Stmt:=top 24
def gY:FnScope ϭ ϭ (AL LD):='0'
noncomputable abbrev OZ:Stmt:=top 25
def gZ:FnScope Ϩ Ϩ (AL OZ):='0'
noncomputable abbrev Iq:Stmt:=top 27
def gb:FnScope ϖ ϖ (AL Iq):='0'
noncomputable abbrev LF:Stmt:=top 28
def LG:FnScope ["papers","counts","row","count"] ["papers"] (AL LF):='0'
noncomputable abbrev Oa:Stmt:=top 29
def gc:FnScope ϓ ϓ (AL Oa):='0'
noncomputable abbrev Ob:Stmt:=top 30
def Ir:FnScope ["one","other","counts","row","count","left"] ϓ (AL Ob):='0'
noncomputable abbrev LH:Stmt:=top 31
def Ue:FnScope ["room","rows","part","spots"] ["room","rows","part"] (AL LH):='0'
noncomputable abbrev LI:Stmt:=top 33
def Iu:FnScope Ϭ Ϧ (AL LI):='0'
noncomputable abbrev Oc:Stmt:=top 34
def Iv:FnScope ["rooms","tallies","found","place","other","row"] ["rooms","tallies"] (AL Oc):='0'
noncomputable abbrev Od:Stmt:=top 38
def gd:FnScope ϥ ϥ (AL Od):='0'
noncomputable abbrev Oe:Stmt:=top 41
def Uf:FnScope ["opened","name","room","rows","changed"] ϸ (AL Oe):='0'
noncomputable abbrev LJ:Stmt:=top 42
def Ug:FnScope ["questions","opened","deed","name","room","rows"] ϔ (AL LJ):='0'
noncomputable abbrev Og:Stmt:=top 44
def Uh:FnScope Ϫ ϔ (AL Og):='0'
noncomputable abbrev Oh:Stmt:=top 45
def Ui:FnScope Ϫ ϔ (AL Oh):='0'
noncomputable abbrev Oi:Stmt:=top 49
def Iw:FnScope ["deed","word","name","room","rows"] ["deed"] (AL Oi):='0'
noncomputable abbrev LK:Stmt:=top 50
def gf:FnScope ϟ ϟ (AL LK):='0'
noncomputable abbrev LL:Stmt:=top 51
def gg:FnScope ϟ ϟ (AL LL):='0'
noncomputable abbrev LM:Stmt:=top 52
def Uj:FnScope ["opened","names","told"] ϟ (AL LM):='0'
noncomputable abbrev Oj:Stmt:=top 55
def LN:FnScope ["_law_script","_law_salt","_law_one"] ϧ (AL Oj):='0'
noncomputable abbrev Ol:Stmt:=top 56
def HH:FnScope ["_law_bag_here","_law_many_here","_law_seed","_law_mixed","_law_drawn_here"] ϊ (AL Ol):='0'
noncomputable abbrev LO:Stmt:=top 57
def Uk:FnScope ["_law_bag_here","_law_size","_law_letters"] ["_law_bag_here","_law_size"] (AL LO):='0'
noncomputable abbrev Om:Stmt:=top 58
def FU:FnScope ["_law_bag_here","_law_many_here","_law_letters","_law_found","_law_start","_law_k","_law_word_here","_law_step"] ϊ (AL Om):='0'
noncomputable abbrev Oo:Stmt:=top 59
def gj:FnScope ϙ ϙ (AL Oo):='0'
noncomputable abbrev LP:Stmt:=top 60
def Ix:FnScope ϩ Ϗ (AL LP):='0'
noncomputable abbrev Op:Stmt:=top 61
def FV:FnScope ["_law_bag_here","_law_names_here","_law_many_here","_law_found","_law_spare","_law_k","_law_part_here","_law_fresh","_law_turn"] ώ (AL Op):='0'
noncomputable abbrev LQ:Stmt:=top 62
def F2:FnScope Ϛ ώ (AL LQ):='0'
noncomputable abbrev LR:Stmt:=top 63
def F3:FnScope Ϥ Ϗ (AL LR):='0'
noncomputable abbrev LS:Stmt:=top 64
def gk:FnScope ϐ ϐ (AL LS):='0'
noncomputable abbrev Oq:Stmt:=top 65
def gl:FnScope ϙ ϙ (AL Oq):='0'
noncomputable abbrev LU:Stmt:=top 66
def gm:FnScope ϱ ϱ (AL LU):='0'
noncomputable abbrev Os:Stmt:=top 67
def LV:FnScope ["_law_bag_here","_law_room","_law_counts","_law_base","_law_k"] ["_law_bag_here","_law_room"] (AL Os):='0'
noncomputable abbrev LW:Stmt:=top 68
def gr:FnScope ϒ ϒ (AL LW):='0'
noncomputable abbrev Ot:Stmt:=top 69
def Iy:FnScope ["_law_room","_law_rows","_law_part_here","_law_counts","_law_row","_law_count","_law_here"] ϗ (AL Ot):='0'
noncomputable abbrev Ou:Stmt:=top 70
def Ul:FnScope ["_law_house","_law_deed","_law_word_here","_law_found","e"] ϫ (AL Ou):='0'
noncomputable abbrev LX:Stmt:=top 71
def gs:FnScope ϝ ϝ (AL LX):='0'
noncomputable abbrev Iz:Stmt:=top 72
def gu:FnScope ό ό (AL Iz):='0'
noncomputable abbrev Ov:Stmt:=top 77
def gv:FnScope ["_law_names_here","_law_book","_law_deed","_law_spots","_law_name","_law_room","_law_rows","_law_word_here","_law_sign"] ό (AL Ov):='0'
noncomputable abbrev JA:Stmt:=top 78
def LY:FnScope ύ ϛ (AL JA):='0'
noncomputable abbrev LZ:Stmt:=top 79
def gw:FnScope Ϣ Ϣ (AL LZ):='0'
noncomputable abbrev La:Stmt:=top 80
def JB:FnScope Ϟ Ϡ (AL La):='0'
noncomputable abbrev Ox:Stmt:=top 81
def JC:FnScope ["_law_rooms_here","_law_tallies","_law_found","_law_k","_law_i","_law_row"] ϲ (AL Ox):='0'
noncomputable abbrev Oy:Stmt:=top 82
def gx:FnScope ϡ ϡ (AL Oy):='0'
noncomputable abbrev Lb:Stmt:=top 83
def gy:FnScope ϡ ϡ (AL Lb):='0'
noncomputable abbrev EN:Stmt:=top 84
def Lc:FnScope ϋ ϧ (AL EN):='0'
noncomputable abbrev Oz:Stmt:=Ji (top 53) 0
def g7:FnScope Ϻ Ϻ (AL Oz):='0'
noncomputable abbrev O0:Stmt:=Ji (top 53) 1
def Um:FnScope ["self","deed","kept","work","changed"] ["self","deed"] (AL O0):='0'
noncomputable abbrev O1:Stmt:=Ji (top 53) 9
def g8:FnScope ["self"] ["self"] (AL O1):='0'
noncomputable abbrev Ld:Stmt:=Ji (top 11) 0
def g9:FnScope ["self","row"] ["self","row"] (AL Ld):='0'
section
variable{b:Addr}
structure StepD(b a D:Addr)(H H':Hp):Prop where
 bag:Bag H' b a
 same:∀p o,p≠b->p≠D->H p\o->H' p\o
 nb:D≠b
 na:D≠a
def StepD.new(h:Bag H b a)(n:H D=none):StepD b a D H (AB H D o):={h.new n,λp u _ _ e=>by rw[AE (Af e n)];show e,h.nb n,h.na n}
def StepD.step(s:StepD b a D H H1)(t:Step b a H1 H2):StepD b a D H H2:={t.bag,λp u c d e=>t.same p u c (s.same p u c d e),s.nb,s.na}
def StepD.put(s:StepD b a D H H1):StepD b a D H (AB H1 D o):={s.bag.put s.nb s.na,λp u d c e=>by rw[AE c];show s.same p u d c e,s.nb,s.na}
def StepD.out(s:StepD b a D H H1)(n:H D=none):Step b a H H1:={s.bag,λp u c e=>s.same p u c (Af e n) e}
end
def Uo(K:Fg):Sp:=(λvs H Q _=>∃(a:Addr)(ns:By),vs=[.ref a]/\BA K H a (ns.map V.int)/\∀(b a':Addr)(H':Hp),H b=none->H a'=none->Bag H' b a'->Ct H H'->Q (.ref b) H')
def Lf:Sp:=(λvs H Q _=>∃(b a:Addr)(m:Int),vs=[.ref b,.int m]/\Bag H b a/\0<m/\m<2^64/\∀(r:Int)(H':Hp),0<=r->r<m->Step b a H H'->Q (.int r) H')
def O2(x:Str):Prop:=(∀c∈x.cps.toList,97<=c/\c<=122)
def Uq:Sp:=(λvs H Q _=>∃(b a:Addr)(n:Int),vs=[.ref b,.int n]/\Bag H b a/\0<=n/\n<=1000/\∀(x:Str)(H':Hp),(x.length:Int)=n->O2 x->Step b a H H'->Q (.str x) H')
section
variable{P:Program}{K:Fg}
structure TxtB(mg:Str->C2):Prop where
 b_len:mg "len"=none
 b_list:mg "list"=none
 b_range:mg "range"=none
 b_isinstance:mg "isinstance"=none
 b_bool:mg "bool"=none
 b_int:mg "int"=none
 b_tuple:mg "tuple"=none
 b_all:mg "all"=none
 b_any:mg "any"=none
 b_sorted:mg "sorted"=none
 b_set:mg "set"=none
 b_sum:mg "sum"=none
 b_dict:mg "dict"=none
 b_zip:mg "zip"=none
 b_min:mg "min"=none
 b_max:mg "max"=none
def Ur(ns:By):DW (ns.map V.int) none (some 63)=(ns.take 63).map V.int:=by unfold DW;simp[HT.dA]
def hG(D:Ai K mg "_law_bag" Oj)(T:TxtB mg):Fn P w K mg base "_law_bag" 1 ϧ (Uo K):=by
 show DZ D LN (λ_ _ _ _ _ _ us M=>Cd M dF) (λvs H Q E h=>?_) (λf N A outer s H vs Q E O h=>?_)
 .let[a,ns,0,_]:=h;rfl
 .let[a,ns,0,u,k]:=h;show{_,(Aa (Ap (i:=1) LN.nd rfl (Or.inl rfl) (E5 Mm (by rfl) T.b_len nofun (AK (E8 Ja (pv 0) E6 (E7 Ah)) Ab)))
 (Aa (EU PassesOwn.never rfl (MD (E8 Ja (pv 0) E6 (E7 Ah))) (Ag (i:=2) LN.nd rfl (Or.inl rfl))
 (Ao (Ap (i:=1) LN.nd rfl (Or.inl rfl) (Bg Fa (Bg DJ (Bg GG (pv 1) Ah) (pv 2)) Ah))))
 (Ao (B9 (D7 (AK (Fd GO (by rfl) T.b_list nofun (AK (E8 Ja (pv 0) E6 (E7 Ah)) Ab)) (AK Ah (AK Ah (AK (pv 1) Ab))))))))),?_}
  show{_,0,63,0,a,ns.map V.int,0,u,λp L=>?_};let C:Ct H (AB H p (.lst (DW (ns.map V.int) none (some 63)))):=λb o e=>by rw[AE (Af e L)];show e
  show#[p,_,0,AN,?_];show{_,0,63,0,a,ns.map V.int,0,C.seq u,λp2 q=>?_};rw[Ur]at*;let J:Ct H (AB (AB H p (.lst ((ns.take 63).map V.int))) p2 (.lst ((ns.take 63).map V.int))):=C.trans λb o e=>by rw[AE (Af e q)];show e
  show{p2,0,{_,.of AN},Pl (λi U H2=>∃(z:Int)(v:Option V),U=[some (.ref a),some (.int z),v]/\Ct H H2/\H2 p2\(.lst ((ns.take 63).map V.int))) #[_,_,0,J,AN] (λi U H2 _ zz=>(by let[_,_,_,_,e]:=zz;show .of e)) ?_ ?_}
  .rintro i y U H2 hi⟨z,v,rfl,d,G⟩;obtain⟨n,σ,rfl⟩:∃n,(ns.take 63)[i]?\n/\y=V.int n:=by rw[bO]at hi;cases e:(ns.take 63)[i]? with
    |none=>rw[e]at hi;cases hi|some n=>rw[e]at hi;show{n,0,(oI hi).symm}
   show{_,0,_,_,0,0,.inr #['3','3'],_,0,_,_,0,0,_,_,0,0,'3',_,_,0,d,G}
  .rintro U H2⟨z,v,rfl,d,G⟩;show{_,0,63,0,a,ns.map V.int,0,d.seq u,λl m=>?_};show#[l,_,0,.inl AN,λg j=>{_,0,(by change 4<=sizeLine;decide),λb r=>?_}];rw[Ur]at*;let B:Ct H2 (AB H2 l (.lst ((ns.take 63).map V.int))):=λb o e=>by rw[AE (Af e m)];show e
   let x:=B.trans (λb o e=>by rw[AE (Af e j)];show e:Ct _ (AB (AB H2 l (.lst ((ns.take 63).map V.int))) g (.lst ((ns.take 63).map V.int))));let I:Ct _ (AB (AB (AB H2 l (.lst ((ns.take 63).map V.int))) g (.lst ((ns.take 63).map V.int))) b (.lst [.ref g,.int 0,.int 0,.int z])):=λc o e=>by rw[AE (Af e r)];show e
   let np:=Af AN r;show k b g _ ((d.trans x).free r) ((d.trans B).free j) {ns.take 63,(0),(0),z,AN,?_,Int.le_refl _,np} ((d.trans x).trans I);rw[AE np,AN]
def Lg(b a:Addr)(m z:Int)(D:Ends)(H:Hp):Prop:=(∀r i c,0<=i->D.rt (.int (r%m)) (AB H b (Ec a i c z)))
noncomputable abbrev JD(b:Addr)(m:Int)(x y w:Option V):List (Option V):=[some (.ref b),some (.int m),x,y,w]
def Ut(b a:Addr)(m z:Int):TS:=(λD U H=>∃i c x y w,U=JD b m x y w/\0<=i/\H b\(Ec a i c z)/\Lg b a m z D H)
def hH(b a:Addr)(m z:Int)(ns:By):TS:=(λD U H=>∃i c s y w,U=JD b m (some (.int s)) y w/\0<=i/\H b\(Ec a i c z)/\H a\(.lst (ns.map V.int))/\Lg b a m z D H/\∀c,D.nx (JD b m (some (.int s)) y w) (AB H b (Ec a i c z)))
def hJ(b a:Addr)(m z:Int):TS:=(λD U H=>∃i c s y w,U=JD b m (some (.int s)) y w/\0<=i/\H b\(Ec a i c z)/\Lg b a m z D H)
def hL(D:Ai K mg "_law_pull" Ol)(T:TxtB mg):Fn P w K mg base "_law_pull" 1 ϊ Lf:=by
 show DZ D HH (λ_ _ _ _ _ _ us hl=>B0 hl dG) (λvs H Q E h=>?_) (λf a0 A outer s H vs Q E hr h=>?_)
 .let[b,a,m,0,_]:=h;rfl
 .done<;>let[b,a,m,0,[ns,i,c,z,g,ρ,hi,I],G,M,k]:=h;let B:∀o,AB H b o a\(HO.lst (map V.int ns)):=λo=>by rw[AE I];show ρ
  let J:∀r u l,0<=u->Q (V.int (r%m)) (AB H b (Ec a u l z)):=λr u l N=>k _ _ (Int.emod_nonneg _ (Int.ne_of_gt G)) (Int.emod_lt_of_pos _ G) #[{ns,u,l,z,AN,B _,N,I},λp o hp e=>by rw[AE hp];show e]
  show{_,(Aa (BY (Dl EV (B1 C5 (pv 0) Ah dG) Ah (A0 _))
 (Aa (WL (pv 0) Ah YU Ah WN MQ)
 (Aa (Ap (i:=2) HH.nd rfl (Or.inl rfl) (B1 C5 (pv 0) Ah dG))
 (Aa (BY (Dl EV (B1 C5 (pv 0) Ah dG) (E5 Mm (by rfl) T.b_len nofun (AK (B1 C5 (pv 0) Ah dG) Ab)) (A0 _))
 (Ao (Ap (i:=2) HH.nd rfl (Or.inl rfl) (B1 C5 (B1 C5 (pv 0) Ah dG) (Bg HV (B1 C5 (pv 0) Ah dG) Ah) dG)))
 BX)
 (BS.weak (m:=(hH b a m z ns)) (Aa (BY (PW.pt (L9 (Dl Fb (B1 C5 (pv 0) Ah dG) (E5 Mm (by rfl) T.b_len nofun (AK (B1 C5 (pv 0) Ah dG) Ab)) (A0 _)) (L7 (Dl MG (pv 2) (Bg JV Ah Ah) (A0 _)))))
 (BS.weak (m:=(hJ b a m z)) (Aa (Ap (i:=3) HH.nd rfl (Or.inl rfl) (Bg Fa (Bg DJ (Bg DJ (Bg GG (pv 2) Ah) (Bg GG (B1 C5 (pv 0) Ah dG) Ah)) Ah) Ah))
 (Aa (Ap (i:=3) HH.nd rfl (Or.inl rfl) (Bg Fa (Bg GG (pv 3) (pv 3)) Ah))
 (Ao (B9 (Bg Fa (Bg Qs (Bg Fa (Bg GG (Bg DJ (pv 3) (B1 C5 (pv 0) Ah dG)) Ah) Ah) Ah) (pv 1)))))) ?j)
 BX)
 (Ao (GB (pv 2) (Pe (pv 0) Ah MQ)))) ?q))))
 BX)
 (BS.weak (m:=(Ut b a m z)) (Aa (Ap (i:=4) HH.nd rfl (Or.inl rfl) (Bg Fa (B1 C5 (pv 0) Ah dG) (pv 1)))
 (Aa (GB (Bg Qs (B1 C5 (pv 0) Ah dG) (pv 1)) (Pe (pv 0) Ah MQ))
 (Ao (B9 (pv 4))))) ?Lj)),?C}
  case Lj=>rintro D U H⟨i,c,x,y,w,rfl,hi,g,d⟩;show#[_,0,b,2,_,0,0,g,_,0,_,0,_,_,0,0,G,?_];show{_,0,b,2,_,0,0,g,_,0,_,0,_,_,0,0,#[G,M],?_};show{_,0,b,_,2,2,0,0,g,0,_,0,d c i (c/m) hi}
  case q=>
   rintro D U H⟨i,c,s,y,w,rfl,hi,g,ρ,d,n⟩;show{_,0,b,1,_,0,0,g,_,0,_,0,b,(0),_,0,0,g,_,0,_,_,0,ρ,_,_,0,0,_,0,Au (λ_=>?_) λ_=>?_}
   .show#[i,c,s,y,w,0,hi,g,d]
   .show{_,0,_,_,0,0,#['3','3','3'],_,_,0,0,_,0,Au (λ_=>?_) λ_=>?_}
    .show#[i,c,s,y,w,0,hi,g,d]
    .show{_,0,_,0,b,_,2,2,0,0,g,0,n s}
  case j=>
   rintro D U H⟨i,c,s,y,w,rfl,hi,g,d⟩;let L:∀{x y:Int},y<2^64->0<=y->GF x y:=λh0 h1=>.inr {⋯,h0};let p1:(0:Int)<2147483647:=by decide
   let p2:(0:Int)<2147483629:=by decide
   let p3:(0:Int)<998244353:=by decide
   let p4:(0:Int)<13:=by decide
   let p5:(13:Int)<2^64:=by decide
   show{_,0,_,_,0,0,L '3' '3',?_};show{_,0,b,1,_,0,0,g,_,0,_,_,0,0,L '3' '3',_,_,0,0,_,_,0,0,_,_,0,0,p1,?_};let r0:=Int.emod_nonneg (s*48271+i*16807+11) (b:=2147483647) '3';let r1:=Int.emod_lt_of_pos (s*48271+i*16807+11) (b:=2147483647) '3';show{_,0,_,0,_,_,0,0,L (by change _%_<_;lia) r0,_,_,0,0,p2,?_};show{_,0,_,0,b,1,_,0,0,g,_,0,_,_,0,0,_,_,0,0,L '3' '3',_,_,0,0,p3,_,_,0,0,#[p4,p5],_,0,_,_,0,0,G,?_};let e:AB H b (Ec a i c z)=H:=funext λp=>by
    by_cases h:p=b
    .rw[h,AN,g]
    .rw[AE h]
   let d2:∀r,D.rt (.int (r%m)) H:=λr=>by let:=d r i c hi;rw[e]at this;show this
   show d2 _
  case C=>
   show{_,0,b,2,_,0,0,g,_,0,_,_,0,0,_,0,Au (λ_=>?_) λ_=>?_}
   .show#[_,0,b,1,_,0,0,g,_,0,_,_,0,0,b,_,1,1,0,0,g,0,?_];let h1:0<=i+1:=⋯;let dd:∀o,Lg b a m z {nx:=λx H'=>Q V.non H',rt:=Q} (AB H b o):=λo r u l h=>by rw[HM];show J r u l h
    let nn:∀o i,0<=i->∀x y w l,Ut b a m z {nx:=λx H'=>Q V.non H',rt:=Q} (JD b m x y w) (AB (AB H b o) b (Ec a i l z)):=λo i h x y w l=>{i,l,x,y,w,0,h,AN,by rw[HM];show dd _};show#[_,0,b,3,_,0,0,AN,_,0,?_];show{_,0,b,1,_,0,0,AN,_,0,_,0,b,(0),_,0,0,AN,_,0,_,_,0,B _,_,_,0,0,_,0,Au (λO=>?_) λ_=>?_}
    .let O:i+1<=((ns.map V.int).length:Int):=aL O;rw[aA]at O;obtain⟨v,hv⟩:∃v,ns[i.toNat]?\v:={_,aH ⋯};let σ:atI (ns.map V.int) (i+1-1)\(V.int v):=by rw[show i+1-1=((i.toNat:Nat):Int)by lia];show Cg (by rw[bO,hv];rfl)
     show{_,0,b,(0),_,0,0,AN,_,0,_,0,b,1,_,0,0,AN,_,0,_,_,0,0,a,_,_,0,0,B _,_,σ,?_};show{i+1,c,v,_,_,0,h1,AN,B _,dd _,λl=>nn _ _ h1 _ _ _ l}
    .show{i+1,c,z,_,_,0,h1,AN,B _,dd _,λl=>nn _ _ h1 _ _ _ l}
   .show#[i,c,_,_,_,0,hi,g,J]
def hO{i}(a:0<=i)(h1:i<26):∃c,atI (Str.ofString "abcdefghijklmnopqrstuvwxyz").cps.toList i\c/\97<=c/\c<=122:=by
 let[n,0]:=Int.eq_ofNat_of_zero_le a;let h:n<26:=⋯;let e:(Str.ofString "abcdefghijklmnopqrstuvwxyz").cps.toList=[97,98,99,100,101,102,103,104,105,106,107,108,109,110,111,112,113,114,115,116,117,118,119,120,121,122]:=rfl
 let q:∀m:_root_.Fin 26,[97,98,99,100,101,102,103,104,105,106,107,108,109,110,111,112,113,114,115,116,117,118,119,120,121,122][m.val]?\(97+m.val):=by decide+kernel
 show{97+n,Cg (q #[n,h]),⋯,⋯}
theorem Uu:∀cs:Ex,(cs.map ((λx=>x.cps.toList)∘λc=>({[c].toArray}:Str))).flatten=cs|[]=>rfl|x::r=>by simp[Uu r]
def hU(D:Ai K mg "_law_word" LO)(T:TxtB mg)(J:Fn P w K mg base "_law_pull" 1 ϊ Lf):Fn P w K mg base "_law_word" 2 ["_law_bag_here","_law_size"] Uq:=by
 show DZ D Uk (λ_ _ _ _ _ _ us o=>B0 o dG) (λvs H Q E h=>?_) (λf a0 A outer s H vs Q E M h=>?_)
 .let[b,a,m,0,_]:=h;rfl
 .let[b,a,n,0,I,σ,O,k]:=h;show{_,(Aa (Ap (i:=2) Uk.nd rfl (Or.inr rfl) CP)
 (Ao (B9 (FA PySem.F.plainAttrs_str PySem.F.slot_str_join PySem.F.type_str_join YS CP (AK (Jm (N:=["_law_bag_here","_law_size","_law_letters"]) (sc:=AL LO) (qC:=[none,some 2,some 0]) '1' rfl (GC (by rfl) T.b_range (AK (pv 1) Ab)) (Qj rfl) (λp=>(Ag (i:=0) (show List.Nodup (["_law_k","_law_letters","_law_bag_here"]:At)from nofun) rfl (Or.inl rfl))) (λp=>Jj) (λp=>(B1 MP (pv 1) (CF J (M.mq) (by rfl) (AK (pv 2) (AK Ah Ab))) dG))) Ab))))),?_}
  show{0,_,0,n,0,⋯,⋯,?_};show YM (Pv:=λD i ys H2=>∃cs:Ex,ys=cs.map (λc=>V.str {[c].toArray})/\cs.length=i/\(∀c∈cs,97<=c/\c<=122)/\H2 D\(.lst ys)/\StepD b a D H H2)
   (λD u=>{[],0,0,'2',AN,StepD.new I u}) (λD i ys H2 _ _ zz=>(by let[cs,_,_,_,e,_]:=zz;show e)) ?_ ?_
  .rintro D u i ys H2 hi⟨cs,rfl,o,C,g,st⟩;show{_,0,_,0,b,a,26,0,st.bag,'3','3',λr H3 h0 h1 j=>?_};let[c,B,y,v]:=hO h0 h1;show#[_,r,c,0,0,nofun,B,?_];let G:D≠b:=I.nb u;show{j.same D _ G g,?_,cs++[c],'2',by simp[o],?_,AN,(st.step j).put}
   .rw[aA,o];show Ff ⋯
   .intro d ρ;let z||z:=bA.mp ρ
    .show C d z
    .rw[bI.mp z];show#[y,v]
  .rintro D ys H2 u⟨cs,rfl,o,C,g,st⟩;show#[{#[]},D,cs.map (λc=>{[c].toArray}),0,0,.of (by rw[bZ];show g),?_,?_]
   .let e:∀l:Ex,((l.map (λc=>({[c].toArray}:Str))).map (·.length)).sum=l.length:=λl=>by induction l with
     |nil=>rfl|cons x r L=>simp only[map_cons,sum_cons,L,length_cons];change 1+r.length=_;lia
    rw[e,aA];change cs.length+cs.length*0<=_;lia
   .let e:(Txt.join {#[]} (cs.map (λc=>({[c].toArray}:Str)))).cps.toList=cs:=by rw[YX,bZ];show Uu cs
    show k _ H2 ?_ ?_ (st.out u)
    .let z:(Txt.join {#[]} (cs.map (λc=>({[c].toArray}:Str)))).cps.toList.length=cs.length:=by rw[e]
     let z2:(Txt.join {#[]} (cs.map (λc=>({[c].toArray}:Str)))).length=cs.length:=by rw[<-z];show bR.symm
     lia
    .intro c q;rw[e]at q;show C c q
end
def C0(x:Str):Prop:=(1<=x.length/\x.length<=8/\O2 x)
def Uv:Sp:=(λvs H Q _=>∃(b a:Addr)(n:Int),vs=[.ref b,.int n]/\Bag H b a/\0<=n/\n<=9/\∀(p:Addr)(xs:At)(H':Hp),H p=none->H' p\(.lst (xs.map V.str))->(xs.length:Int)=n->(∀x∈xs,C0 x)->xs.Nodup->Step b a H H'->Q (.ref p) H')
def hV(h:n<26):atI (Str.ofString "abcdefghijklmnopqrstuvwxyz").cps.toList (n:Int)\(97+n):=by
 let e:(Str.ofString "abcdefghijklmnopqrstuvwxyz").cps.toList=[97,98,99,100,101,102,103,104,105,106,107,108,109,110,111,112,113,114,115,116,117,118,119,120,121,122]:=rfl
 let q:∀m:_root_.Fin 26,[97,98,99,100,101,102,103,104,105,106,107,108,109,110,111,112,113,114,115,116,117,118,119,120,121,122][m.val]?\(97+m.val):=by decide+kernel
 show Cg (q #[n,h])
def EO(pre:Ex)(j:Nat):Str:=({(pre++[97+j]).toArray})
def hW(h:EO pre i=EO pre j):i=j:=by
 let e:pre++[97+i]=pre++[97+j]:=by let:=aT (λz=>z.cps.toList) h;assumption
 simp_all
def hZ{xs:At}(g:xs.length<26)(h:∀j,j<26->EO pre j∈xs):False:=by
 let c:((List.range 26).map (EO pre)).Nodup:=by show List.Pairwise.map _ (λi j a e=>a (hW e)) nodup_range
 let sub:(List.range 26).map _ ⊆ xs:=λx d=>by let[j,f,0]:=bU.mp d;show h j (mem_range.mp f)
 let:=c.length_le_of_subset sub;simp at this;lia
section
variable{P:Program}{K:Fg}
def h9:∀{r},0<=r->r<4->∃k,atI [V.int 0,V.int 0,V.int 3,V.int 7] r\(V.int k)/\0<=k/\k<=7:=by
 intro r a h1;let[n,0]:=Int.eq_ofNat_of_zero_le a;let h:n=0\/n=1\/n=2\/n=3:=⋯;rcases h with rfl|rfl|rfl|rfl
 .show#[(0),0,'3','3']
 .show#[(0),0,'3','3']
 .show#[3,0,'3','3']
 .show#[7,0,'3','3']
def Lh(p q:Str):(p++q).cps.toList=p.cps.toList++q.cps.toList:=cJ
def JE(p q:Str):(p++q).length=p.length+q.length:=Array.size_append
def iA(D:Ai K mg "_law_names" Om)(T:TxtB mg)(qM:Fn P w K mg base "_law_pull" 1 ϊ Lf)(qN:Fn P w K mg base "_law_word" 2 ["_law_bag_here","_law_size"] Uq):Fn P w K mg base "_law_names" 3 ϊ Uv:=by
 show DZ D FU (λ_ _ _ _ _ _ us hl=>B0 hl dG) (λvs H Q E h=>?_) (λf ab A outer s H vs Q E hr h=>?_)
 .let[b,a,m,0,_]:=h;rfl
 .let[b,a,n,0,hb,aa,a9,k]:=h;show{_,(Aa (Ap (i:=2) FU.nd rfl (Or.inl rfl) CP)
 (Aa (Ap (i:=3) FU.nd rfl (Or.inl rfl) (D7 Ab))
 (Aa (Ap (i:=4) FU.nd rfl (Or.inl rfl) (CF qN (hr.mq) (by rfl) (AK (pv 0) (AK (B1 C5 (D7 (AK Ah (AK Ah (AK Ah (AK Ah Ab))))) (CF qM (hr.mq) (by rfl) (AK (pv 0) (AK Ah Ab))) dG) Ab))))
 (Aa (EU PassesOwn.never rfl (GC (by rfl) T.b_range (AK (pv 1) Ab)) (Ag (i:=5) FU.nd rfl (Or.inl rfl))
 (Aa (Ap (i:=6) FU.nd rfl (Or.inl rfl) (Bg Pr (pv 4) (CF qN (hr.mq) (by rfl) (AK (pv 0) (AK (Bg DJ Ah (CF qM (hr.mq) (by rfl) (AK (pv 0) (AK (Bg HV Ah (E5 QM (by rfl) T.b_len nofun (AK (pv 4) Ab))) Ab)))) Ab)))))
 (Aa (EU PassesOwn.never rfl (GC (by rfl) T.b_range (AK Ah Ab)) (Ag (i:=7) FU.nd rfl (Or.inl rfl))
 (Ao (BY (Dl YZ (pv 6) (pv 3) (by rfl))
 (Ao (Ap (i:=6) FU.nd rfl (Or.inl rfl) (Bg Pr (E8 Qr (pv 6) E6 (E7 (Wa Wi Ah))) (B1 MP (pv 2) (pv 7) dG))))
 BX)))
 (Ao (ES (FA PySem.F.plainAttrs_list PySem.F.slot_list_append PySem.F.type_list_append Fe (pv 3) (AK (pv 6) Ab)))))))
 (Ao (B9 (pv 3))))))),?_}
  show{cD _,λp hp=>?_};let sp:=StepD.new (o:=.lst []) hb hp;show{_,0,(by change 4<=sizeLine;decide),λq hq=>?_};let a2:p≠q:=Af (o:=.lst []) AN hq;let sq:=sp.step (Step.new (o:=.lst [V.int 0,V.int 0,V.int 3,V.int 7]) sp.bag hq);let a0:=sp.bag.nb hq;show{_,0,b,a,4,0,sq.bag,'3','3',λr H1 r0 r1 g=>?_};let[k0,hk,k1,k2]:=h9 r0 r1;show{q,r,_,0,0,g.same q _ a0 AN,_,hk,?_};show{b,a,k0,0,g.bag,k1,⋯,λG H2 a8 a1 L=>?_};let l:=hb.nb hp;let e2:H2 p\(.lst []):=L.same p _ l (g.same p _ l (by rw[AE a2,AN]));let s2:StepD b a p H H2:=(sq.step g).step L;let a6:G.length<=7:=⋯;show{_,0,n,0,⋯,⋯,JS (lo:=0) (n:=n.toNat) (λi U O=>∃(xs:At)(v5 v6 u:Option V),U=[some (.ref b),some (.int n),some (.str (Str.ofString "abcdefghijklmnopqrstuvwxyz")),some (.ref p),some (.str G),v5,v6,u]/\O p\(.lst (xs.map V.str))/\xs.length=i/\(∀x∈xs,C0 x)/\xs.Nodup/\StepD b a p H O) {[],_,_,_,0,e2,0,'2',nodup_nil,s2} ?_ ?_}
  .rintro i U O hi⟨xs,v5,v6,u,rfl,e3,hl,hg,nd,σ⟩;show{_,0,_,0,_,0,_,0,G,0,aY (Ff ⋯),_,_,0,0,?_};show{b,a,_,0,σ.bag,⋯,⋯,λr2 H4 a4 a3 v=>?_};show{_,_,0,0,b,a,_,0,v.bag,⋯,⋯,λw1 H5 a7 M J=>?_};show{_,_,0,0,aY (Ff ⋯),?_};let e5:H5 p\(.lst (xs.map V.str)):=J.same p _ l (v.same p _ l e3);let s5:StepD b a p H H5:=(σ.step v).step J;let g0:C0 (G++w1):=by
    show{by rw[JE];lia,by rw[JE];lia,λc N=>?_};rw[Lh]at N;let z||z:=bA.mp N
    .show a1 c z
    .show M c z
   generalize G++w1=wd at g0;show{26,0,'3','3',JS (lo:=0) (n:=26) (λs U H6=>H6=H5/\∃(x:Str)(u:Option V),U=[some (.ref b),some (.int n),some (.str (Str.ofString "abcdefghijklmnopqrstuvwxyz")),some (.ref p),some (.str G),some (.int (0+(i:Int))),some (.str x),u]/\C0 x/\x.cps.toList.take (x.length-1)=wd.cps.toList.take (wd.length-1)/\(x∉xs\/((0<s->x=EO (wd.cps.toList.take (wd.length-1)) (s-1))/\∀j,j+1<s->EO (wd.cps.toList.take (wd.length-1)) j∈xs))) #[0,wd,_,0,g0,0,.inr {λz=>bS z (aX _),λj z=>bS z (Nat.not_lt_zero _)}] ?_ ?_}
   .rintro t U H6 ht⟨rfl,x,u,rfl,I,d,B⟩;show{_,0,_,0,x,p,xs,0,0,.inl e5,_,0,?_};show Au (λe=>?_) (λe=>?_)
    .let e:x∈xs:=aL e;let[i1,i2]:=B.resolve_left λz=>z e;let C:0<x.length:=I.1;let a5:=I.2.1;show{_,0,1,0,-1,0,x,0,aY (Ff ⋯),?_};show{_,0,_,0,_,_,_,0,0,nofun,(by rw[Int.zero_add];show hV ht),?_};let es:(Txt.slice x none (some (-1))).cps.toList=wd.cps.toList.take (wd.length-1):=by rw[Mn C,d]
     let el:(Txt.slice x none (some (-1))).length=x.length-1:=by let z:(Txt.slice x none (some (-1))).cps.toList.length=(Txt.slice x none (some (-1))).length:=bR;let z2:x.cps.toList.length=x.length:=bR;rw[<-z,Mn C,aO];simp_all
     let ρ:({[97+t].toArray}:Str).length=1:=rfl;show#[_,_,0,0,aY (Ff (by rw[el,ρ];lia)),0,_,_,0,#[?_,?_,?_],?_,.inr {λ_=>?_,λj hj=>?_}]
     .rw[JE,ρ];lia
     .rw[JE,ρ,el];simp_all
     .intro c N;rw[Lh]at N;let z||z:=bA.mp N
      .rw[Mn C]at z;show I.2.2 c (mem_of_mem_take z)
      .let z:c=97+t:=by simpa using z
       lia
     .rw[JE,ρ,Lh,es];let z3:(wd.cps.toList.take (wd.length-1)).length=x.length-1:=by rw[<-es];show bR.trans el
      rw[el,take_append_of_le_length (by simp_all),aZ ⋯]
     .show PyProof.Rows.ext_toList ?_;rw[Lh,es];simp[EO]
     .by_cases z:j+1<t
      .show i2 j z
      .let z':j=t-1:=⋯;let z0:0<t:=⋯;rw[z',<-i1 z0];show e
    .let e:x∉xs:=λz=>e (aK z);show{0,x,_,0,I,d,.inl e}
   .rintro U H6⟨rfl,x,u,rfl,I,d,B⟩;let hx:x∉xs:=by
     intro e;let[i1,i2]:=B.resolve_left λz=>z e;show hZ (pre:=wd.cps.toList.take (wd.length-1)) (xs:=xs) ⋯ λj hj=>?_;by_cases z:j+1<26
     .show i2 j z
     .let z':j=25:=⋯;rw[z',<-i1 '3'];show e
    show{_,0,.inl {0,_,.of e5},_,0,p,_,_,0,0,e5,by rw[aA];show Ff ⋯,?_};show{xs++[x],_,_,_,0,?_,by simp[hl],?_,?_,s5.put}
    .rw[AN];simp
    .intro y hy;let z||z:=bA.mp hy
     .show hg y z
     .rw[bI.mp z];show I
    .show Qe nd hx
  .rintro U O⟨xs,v5,v6,u,rfl,e3,hl,hg,nd,σ⟩;show{_,0,k p xs O hp e3 ⋯ hg nd (σ.out hp)}
end
def Di:pF:=(λxs K=>∃m,xs=[.bag,.int m]/\0<m/\m<2^64/\∀r,0<=r->r<m->K (.int r))
def O3:pF:=(λxs K=>∃n,xs=[.bag,.int n]/\0<=n/\n<=9/\∀ns:At,(ns.length:Int)=n->(∀x∈ns,C0 x)->ns.Nodup->K (.lst (ns.map P.str)))
section
variable{K:Fg}
def Uw{m}(r:AC b (λp=>p=b) H [.bag,.int m] vs):vs=[.ref b,.int m]:=by let[v,t,0,h1,u,a,0,h2,c]:=r;rw[h1,h2,c]
def iB(G:'E' "_law_pull" 1 ϊ Lf):'E' "_law_pull" 1 ϊ (spP Di):=G.imp λvs H Q E h=>by let[b,a,xs,j,f,r,[m,0,i,h1,e],g]:=h;show{b,a,m,Uw r,f,i,h1,λr H' d c st=>g _ _ H' (e r d c) st rfl}
def iC(G:'E' "_law_names" 3 ϊ Uv):'E' "_law_names" 3 ϊ (spP O3):=G.imp λvs H Q E h=>by let[b,a,xs,o,j,r,[m,0,n,h1,g],l]:=h;show#[b,a,m,Uw r,j,n,h1,λp ns H' c e f i d st=>l _ _ H' (g ns f i d) st {p,_,0,λz=>z c,e,AC.strs.mpr rfl}]
end
def Li(K:Fg):Sp:=(λvs H Q _=>∃(a:Addr)(ns:By),vs=[.ref a]/\BA K H a (ns.map V.int)/\∀H',Q (.bl true) H')
section
variable{K:Fg}
def F4(a)(r):(CA (a.map (·.1)) (a.map λq=>P.int q.2) r).getD (.int 0)=.int ((AY a r).getD 0):=by rw[Ka];simp
def F5(t:List (By×Int)):P.imms (t.map λq=>P.int q.2)=true:=by let:=Qz (t.map (·.2));simpa[Function.comp_def]using this
def O4{n:Int}(a:0<=n):EC 0 n.toNat=(List.range n.toNat).map λ(k:Nat)=>P.int (0+k):=rfl
def iD(D:Ai K mg "_law_answers" LS)(T:TxtB mg)(f:'E' "_law_pull" 1 ϊ (spP Di)):'E' "_law_answers" 2 ϐ (spP Nl):=by
 show BI D gk (λ_ _ _ _ _ _ us a=>DH a '8') (λxs K h=>?_) '3' (λq m A outer s H E i=>{_,(Ad (A5 (Bv (λ_=>EA) EG (λ_=>T.b_tuple) nofun (AA (BR (N:=ϐ) (sc:=AL LS) (N':=["_law_k","_law_bag_here","_law_base"]) (qC:=[none,some 0,some 2]) '1' '3' dF (EF (λ_=>T.b_range) (AA (qv 1) AG)) (Bw (k:=0) rfl (λ_=>show List.Nodup (["_law_k","_law_bag_here","_law_base"]:At)from nofun)) Bm (Ae (λ_=>f) (λ_=>i.mq) (AA (qv 1) (AA (qv 2) AG)))) AG)))),λxs K h=>?_})
 .let[_,_,0,_]:=h;rfl
 .let[n,b,0,l,h1,p,o,h]:=h;simp! only[A4];show{⋯,⋯,by rw[C9];lia,?_};rw[O4 l];show A2.rel P.int (λ_ x=>0<=x/\x<b) (λk _ M j=>#[b,0,p,o,λr e d=>j r _ #[e,d]]) dF (λbs c=>?_);let a:=c.length;rw[length_range]at a;simp! only[A4];show h bs ⋯ λx g=>(by let[_,_,z]:=c.mem x g;show z)
def iE{a b d}{r}(e:0<=r)(h1:r<4):atI [P.int a,P.int b,P.int c,P.int d] r\(.int (if r=0 then a else if r=1 then b else if r=2 then c else d)):=by let[n,0]:=Int.eq_ofNat_of_zero_le e;let h:n=0\/n=1\/n=2\/n=3:=⋯;rcases h with rfl|rfl|rfl|rfl<;>rfl
def Ux(D:Ai K mg "_law_many" Oq)(T:TxtB mg)(d:'E' "_law_pull" 1 ϊ (spP Di)):'E' "_law_many" 2 ϙ (spP Nm):=by
 show BI D gl (λ_ _ _ _ _ _ us i=>Cd i dF) (λxs K h=>?_) '3' (λm j A outer s H E e=>{_,(Ad (A5 (B2 (λ_=>DJ) FL AV (Ae (λ_=>d) (λ_=>e.mq) (AA (qv 0) (AA (Av 'J' Ay (Cj (AA AV (AA AV (AA AV (AA (B2 (λ_=>JV) NF AV AV) AG))))) (Ae (λ_=>d) (λ_=>e.mq) (AA (qv 0) (AA AV AG))) dG) AG)))))),λxs K h=>?_})
 .let[0,_]:=h;rfl
 .let[0,h]:=h;simp! only[JU];show{'3',4,0,'3','3',λr g f=>?_};show{_,iE g f,?_};let a:10^(12:Int).toNat=1000000000000:=by decide
  show{_,0,?_,?_,λz l c=>?_}
  .split<;>(try split)<;>(try split)<;>decide
  .split<;>(try split)<;>(try split)<;>decide
  .simp! only[A4];show h _ ⋯ ?_;lia
def O5:pF:=(λxs K=>∃t,xs=[B5 t]/\t.length<=1000/\(t.map (·.1)).Nodup/\(∃n,∀q∈t,q.1.length=n)/\K (Ac (Ar t)))
def iF(D:Ai K mg "_law_settled" LU)(T:TxtB mg):'E' "_law_settled" 1 ϱ (spP O5):=by
 show BI D gm (λ_ _ _ _ _ _ us l=>Cd l dF) (λxs K h=>?_) '3' (λC y A outer s H E a=>?_)
 .let[_,0,_]:=h;rfl
 .let i:=DX a;show{_,(Ad (A5 (BR (N:=ϱ) (sc:=AL LU) (qC:=[none,some 0]) '1' '3' dF (B3 dF (Aw (λ_=>(Ta a)) Tb (λ_=>T.b_sorted) nofun (AA (Bv (λ_=>(IM rfl)) IN (λ_=>T.b_list) nofun (AA (qv 0) AG)) AG))) (Bw (k:=0) rfl (λ_=>show List.Nodup (["_law_row","_law_counts"]:At)from nofun)) (Eh (BN (λ_=>(Ds a)) Dt (KO (λ_=>i) (qv 1) (qv 0) dG) AV (A0 _))) (Db (AA (qv 0) (AA (KO (λ_=>i) (qv 1) (qv 0) dG) AG)))))),λxs K h=>?_};let[t,0,l,B,[n,p],h]:=h;show{t.map (·.1),0,by rw[aA];lia,{n,λr a=>by let[q,o,0]:=bU.mp a;show p q o},λf g m=>?_};let j:f.length=t.length:=by rw[g.length_eq,aA]
  let e:=Nk g m;show{_,0,'5',by rw[aA];lia,?_};let get:∀r∈f,CA (t.map (·.1)) (t.map λq=>P.int q.2) r\(.int ((AY t r).getD 0)):=λr a=>by rw[Ka];let u:=g.mem_iff.mp a;let[c,v]:=Sk u;rw[v];rfl
  show A2.filter (λr=>decide ((AY t r).getD 0≠0)) (λr=>CB (r,(AY t r).getD 0)) (λr _ _=>'2') (λr a M d=>?_) ?_
  .show Be (CI _) {_,_,DN r,get r a,#[0,0],_,0,Au (λz=>{_,_,DN r,get r a,0,?_}) (λz=>?_)}<;>rw[Gy]at z
   .let d:=d (DL [(AZ r,.cl),(.int ((AY t r).getD 0),Fl.bo.el)]);rw[aC (~~~z)]at d;show d
   .let d:=d .nw;rw[aB (~~~z)]at d;show d
  .rw[e];let x:((DD (t.map (·.1))).filter λr=>decide ((AY t r).getD 0≠0)).map (λr=>CB (r,(AY t r).getD 0))=(Ar t).map CB:=by unfold Ar;rw[bZ];rfl
   rw[x];show#[0,h]
def iG{r}(a:0<=r)(h1:r<10):∃c,atI [P.int a0,.int a1,.int a2,.int a3,.int a4,.int a5,.int a6,.int a7,.int a8,.int a9] r\(.int c)/\c∈[a0,a1,a2,a3,a4,a5,a6,a7,a8,a9]:=by let[n,0]:=Int.eq_ofNat_of_zero_le a;let h:n=0\/n=1\/n=2\/n=3\/n=4\/n=5\/n=6\/n=7\/n=8\/n=9:=⋯;rcases h with rfl|rfl|rfl|rfl|rfl|rfl|rfl|rfl|rfl|rfl<;>show#[_,0,'2']
def iH{a b d}{r}(e:0<=r)(h1:r<4):∃k,atI [P.int a,P.int b,P.int c,P.int d] r\(.int k)/\k∈[a,b,c,d]:=by let[n,0]:=Int.eq_ofNat_of_zero_le e;let h:n=0\/n=1\/n=2\/n=3:=⋯;rcases h with rfl|rfl|rfl|rfl<;>show#[_,0,'2']
def iI:pS:=(λE Y=>∃qI t bs v,Y=[.sh .bag,.sh (AH qI),.own (B5 t),.sh (.int bs),v]/\qI.length<=9/\t.length<100/\0<bs/\bs<=10/\∀(r:By)(c:Int),r.length=qI.length->(∀x∈r,0<=x/\x<=9)->1<=c->c<=1000000000000->E.nx [.sh .bag,.sh (AH qI),.own (B5 (BW t r c)),.sh (.int bs),v])
def iJ:pS:=(λE Y=>∃qI bs,Y=[.sh .bag,.sh (AH qI),.own (.dT [] []),.sh (.int bs),.emp]/\qI.length<=9/\0<bs/\bs<=10/\∀t v,Drawn qI.length t->E.nx [.sh .bag,.sh (AH qI),.own (B5 t),.sh (.int bs),v])
def iK(D:Ai K mg "_law_drawn" Os)(T:TxtB mg)(B:'E' "_law_pull" 1 ϊ (spP Di))(J:'E' "_law_answers" 2 ϐ (spP Nl))(I:'E' "_law_many" 2 ϙ (spP Nm))(G:'E' "_law_settled" 1 ϱ (spP O5)):'E' "_law_drawn" 3 ["_law_bag_here","_law_room"] (spP Sn):=by
 show BI D LV (λ_ _ _ _ _ _ us l=>B0 l dG) (λxs K h=>?_) '3' (λfa ρ A outer s H E f=>?_)
 .let[_,0,_]:=h;rfl
 .let L:=DX f;show{_,(Aj (BF (k:=2) (λ_=>LV.nd) NY)
 (Aj (BF (k:=3) (λ_=>LV.nd) (Av 'J' Ay (Cj (AA AV (AA AV (AA AV (AA AV AG))))) (Ae (λ_=>B) (λ_=>f.mq) (AA (qv 0) (AA AV AG))) dG))
 (Aj (QS.weak (m:=iJ) (DA '7' dF (EF (λ_=>T.b_range) (AA (Av 'J' Ay (Cj (AA AV (AA AV (AA AV (AA AV (AA AV (AA AV (AA AV (AA AV (AA AV (AA AV AG))))))))))) (Ae (λ_=>B) (λ_=>f.mq) (AA (qv 0) (AA AV AG))) dG) AG)) (Dp (k:=4) (λ_=>LV.nd))
 (BK.weak (m:=iI) (Ad (KQ (k:=2) (λ_=>L) (Ae (λ_=>J) (λ_=>f.mq) (AA (qv 0) (AA (Aw (λ_=>Bn) Bo 'I' nofun (AA (qv 1) AG)) (AA (qv 3) AG)))) (Ae (λ_=>I) (λ_=>f.mq) (AA (qv 0) AG)))) ?j)) ?g)
 (Ad (A5 (Ae (λ_=>G) (λ_=>f.mq) (AA (qv 2) AG))))))),λxs K h=>?_}
  case j=>rintro E Y⟨qI,t,bs,v,rfl,l,ht,n,C,h⟩;simp! only[A4];show{0,λc c1 c2=>?_};simp! only[A4];show{_,_,0,⋯,by rw[aA];lia,n,⋯,λr f u=>?_};simp! only[aA]at f⊢;show{⋯,?_};rw[Kb];show h r c ⋯ (λx q=>by let:=u x q;lia) c1 c2
  case g=>
   rintro E Y⟨qI,bs,rfl,l,n,C,h⟩;simp! only[A4];show{10,0,'3','3',λr p o=>?_};let[ct,N,y]:=iG (a0:=3) (a1:=2) (a2:=1) (a3:=0) (a4:=5) (a5:=8) (a6:=12) (a7:=4) (a8:=2) (a9:=40) p o;let c0:0<=ct/\ct<=40:=by simp at y;(omega)
   show#[_,N,?_];simp! only[A4];show{⋯,⋯,λi Y=>∃t v,Y=[.sh .bag,.sh (AH qI),.own (B5 t),.sh (.int bs),v]/\DrawnI qI.length i t,{[],_,0,DrawnI.nil},λi ρ' x u z=>?_,λρ' z=>?_}
   .let[t,v,0,e]:=z;let[hi,0]:=FJ u;simp! only[A4];show#[qI,t,bs,_,0,l,by let:=e.len;lia,n,C,λr c h1 h2 σ Q=>{BW t r c,#[_,0],e.put h1 h2 σ Q}]
   .let[t,v,0,e]:=z;rw[C9]at e;show h t v (e.out (by simp_all))
  .let[qI,0,l,h]:=h;simp! only[A4];show{4,0,'3','3',λr p o=>?_};let[bs,O,M]:=iH (a:=2) (b:=2) (c:=3) (d:=10) p o;let n:0<bs/\bs<=10:=by simp at M;lia
   show#[_,O,?_];simp! only[A4];show{qI,bs,0,l,n.1,n.2,λt v e=>?_};simp! only[A4];show{t,0,by let:=e.len;lia,e.nd,#[_,e.rows],h t e}
structure Txt(mg:Str->C2):Prop extends TxtB mg where g_HIGHEST_ANSWER:∃t,mg "HIGHEST_ANSWER"\(.int 9 t)
def iL(D:Ai K mg "is_row" K9)(T:Txt mg):'E' "is_row" 1 ϳ (spP Ke):=by
 show BI D gT (λ_ _ _ _ _ _ us c=>B0 c dG) (λxs K h=>?_) '3' (λf e A outer s H E d=>{_,(Aj (Cb (BN (λ_=>(Ds d)) Dt (Aw (λ_=>Bn) Bo 'I' nofun (AA (qv 1) AG)) (Aw (λ_=>Bn) Bo 'I' nofun (AA (qv 0) AG)) (A0 _)) (Ad (A5 Hm)) C8) (Ad (A5 (Aw (λ_=>(D9 rfl)) EH (λ_=>T.b_all) nofun (AA (BR (N:=ϳ) (sc:=AL K9) (N':=["answer"]) (qC:=[none]) '1' '3' dF (ED dF (qv 1)) (Bw (k:=0) rfl (λ_=>show List.Nodup (["answer"]:At)from nofun)) Bm (RH (λ_=>EV) Fm (λ_=>EV) Fm AV (qv 0) (Hn (λ_=>T.g_HIGHEST_ANSWER)))) AG))))),λxs K h=>?_})
 .let[_,_,0,_]:=h;rfl
 .let[qI,r,0,c,h]:=h;simp! only[aA];unfold CM at h;show Au (λz=>?_) (λz=>?_)
  .rw[cK ⋯,Bool.false_and]at h;show h
  .rw[aK ⋯,Bool.true_and]at h;show{⋯,A2.map (λx=>.bl (decide (0<=x/\x<=9))) dG (λx _ M a=>?_) ?_}
   .simp! only[A4];let a:=a .fr;show Au (λz=>?_) (λz=>?_)
    .rw[show decide (0<=x/\x<=9)=decide (x<=9)from decide_eq_decide.mpr (by simp_all)]at a;show a
    .rw[cK ⋯]at a;show a
   .show{r.map λx=>decide (0<=x/\x<=9),by rw[bZ];rfl,?_};rw[all_map];show h
def O6:pF:=(λxs K=>∃i,xs=[.int i]/\K (.bl true))
def iM(D:Ai K mg "_law_whole" Oy)(T:TxtB mg):'E' "_law_whole" 1 ϡ (spP O6):=by
 show BI D gx (λ_ _ _ _ _ _ us a=>Cd a dF) (λxs K h=>?_) '3' (λe c A outer s H E d=>{_,(Ad (A5 (M4 (ID (n:="int") '2' dF (λ_=>T.b_isinstance) (λ_=>T.b_int) nofun (qv 0)) (M3 (Yx (ID (n:="bool") '2' dF (λ_=>T.b_isinstance) (λ_=>T.b_bool) nofun (qv 0))))))),λxs K h=>?_})
 .let[_,0,_]:=h;rfl
 .let[i,0,h]:=h;simp![A4];show h
def Uy:pF:=(λxs K=>∃r,xs=[AZ r]/\r.length<=100/\K (.bl true))
def iN(D:Ai K mg "_law_tuple" Lb)(T:TxtB mg)(c:'E' "_law_whole" 1 ϡ (spP O6)):'E' "_law_tuple" 2 ϡ (spP Uy):=by
 show BI D gy (λ_ _ _ _ _ _ us a=>Cd a dF) (λxs K h=>?_) '3' (λg f A outer s H E d=>{_,(Aj (Cb (CL (CS (ID (n:="tuple") '2' dF (λ_=>T.b_isinstance) (λ_=>T.b_tuple) nofun (qv 0)))) (Ad (A5 Hm)) C8) (Ad (A5 (Aw (λ_=>(D9 rfl)) EH (λ_=>T.b_all) nofun (AA (BR (N:=ϡ) (sc:=AL Lb) (qC:=[none]) '1' '3' dF (ED dF (qv 0)) (Bw (k:=0) rfl (λ_=>show List.Nodup (["_law_one"]:At)from nofun)) Bm (Ae (λ_=>c) (λ_=>d.mq) (AA (qv 0) AG))) AG))))),λxs K h=>?_})
 .let[_,0,_]:=h;rfl
 .let[r,0,a,h]:=h;simp![O6];show{⋯,A2.map (λ_=>.bl true) dG (λx _ M e=>?_) ?_}
  .simp![A4];show e _
  .show{r.map λ_=>true,by rw[bZ];rfl,?_};rw[all_map,show r.all (id∘λ_=>true)=true by simp];show h
end
section
variable{K:Fg}
def HI:pF:=(λxs K=>∃part qI,xs=[AH part,AH qI]/\part.length<=100/\K (.bl (part.all λn=>decide (n∈qI))))
def iO(D:Ai K mg "within" LA)(T:TxtB mg):'E' "within" 1 ϰ (spP HI):=by
 show BI D gU (λ_ _ _ _ _ _ us a=>B0 a dG) (λxs K h=>?_) '3' (λf e A outer s H E c=>{_,(Ad (A5 (Aw (λ_=>(D9 rfl)) EH (λ_=>T.b_all) nofun (AA (BR (N:=ϰ) (sc:=AL LA) (N':=["name","room"]) (qC:=[none,some 1]) '1' '3' dF (ED dF (qv 0)) (Bw (k:=0) rfl (λ_=>show List.Nodup (["name","room"]:At)from nofun)) Bm (FF (λ_=>(II c)) IJ (qv 0) (qv 1) (by rfl))) AG)))),λxs K h=>?_})
 .let[_,_,0,_]:=h;rfl
 .let[part,qI,0,a,h]:=h;simp![A4];show{⋯,A2.map (λn=>.bl (decide (n∈qI))) dG (λn _ M d=>?_) ?_}
  .simp![KG];show d _
  .show{part.map λn=>decide (n∈qI),by rw[bZ];rfl,?_};rw[all_map];show h
def Uz:pF:=(λxs K=>∃qI r part,xs=[AH qI,AZ r,AH part]/\part.length<=100/\r.length=qI.length/\(∀n∈part,n∈qI)/\K (AZ (An qI r part)))
def iP(D:Ai K mg "_law_row_of" LW)(T:TxtB mg):'E' "_law_row_of" 1 ϒ (spP Uz):=by
 show BI D gr (λ_ _ _ _ _ _ us d=>DH d '8') (λxs K h=>?_) '3' (λl i A outer s H E j=>{_,(Ad (A5 (Bv (λ_=>EA) EG (λ_=>T.b_tuple) nofun (AA (BR (N:=ϒ) (sc:=AL LW) (qC:=[none,some 1,some 0]) '1' '3' dF (ED dF (qv 2)) (Bw (k:=0) rfl (λ_=>show List.Nodup (["_law_name","_law_row","_law_room"]:At)from nofun)) Bm (Av 'J' Ay (qv 1) (Sw (qv 2) (qv 0)) dG)) AG)))),λxs K h=>?_})
 .let[_,_,_,0,_]:=h;rfl
 .let[qI,r,part,0,d,f,a,h]:=h;simp![A4];show{⋯,A2.map (λn=>.int (r.getD (dO qI n) 0)) dG (λn c M g=>?_) ?_}
  .simp![A4];let hi:=OB (a n c);show{dO qI n,(G8 (a n c)).1,(G8 (a n c)).2,.int (r.getD (dO qI n) 0),Cg ?_,g _};rw[bO,bW,aH (by simp only[*])];rfl
  .simp![A4];let e:AZ (An qI r part)=.tup (part.map λn=>P.int (r.getD (dO qI n) 0)):=by change P.tup ((part.map _).map _)=_;rw[bZ];rfl
   rw[e]at h;show h
def FW:pF:=(λxs K=>∃t,xs=[Ac t]/\t.length<=100000/\(∃n,∀q∈t,q.1.length=n)/\K (Ac (CN (BH t))))
def iQ:pS:=(λE Y=>∃x a r c,Y=[x,.own (B5 a),.sh (AZ r),.sh (.int c)]/\a.length<=100000/\E.nx [x,.own (B5 (BM a (r,c))),.sh (AZ r),.sh (.int c)])
def iR:pS:=(λE Y=>∃t,Y=[.sh (Ac t),.own (.dT [] []),.emp,.emp]/\t.length<=100000/\∀v1 v2,E.nx [.sh (Ac t),.own (B5 (BH t)),v1,v2])
def iS(D:Ai K mg "summed" LF)(T:TxtB mg):'E' "summed" 1 ["papers"] (spP FW):=by
 show BI D LG (λ_ _ _ _ _ _ us y=>Cd y dF) (λxs K h=>?_) '3' (λfa a0 A outer s H E d=>?_)
 .let[_,0,_]:=h;rfl
 .let B:=DX d;show{_,(Aj (BF (k:=1) (λ_=>LG.nd) NY)
 (Aj (QS.weak (m:=iR) (IL 0 (DA '7' dF (B3 dF (qv 0)) (M9 (ks:=[2,3]) dF dF (λ_=>(Al (Ag LG.nd rfl (Or.inl rfl)) (Al (Ag LG.nd rfl (Or.inl rfl)) Br))) rfl)
 (BK.weak (m:=iQ) (Ad (KQ (k:=1) (λ_=>B) (qv 2) (B2 (λ_=>DJ) FL (Fq (λ_=>B) (qv 1) (qv 2) AV) (qv 3)))) ?j))) ?g)
 (Ad (A5 (BR (N:=["papers","counts","row","count"]) (sc:=AL LF) (qC:=[none,some 1]) '1' '3' dF (B3 dF (Aw (λ_=>(eF rfl d)) eG (λ_=>T.b_sorted) nofun (AA (qv 1) AG))) (Bw (k:=0) rfl (λ_=>show List.Nodup (["row","counts"]:At)from nofun)) (Eh (BN (λ_=>Fb) Gf (KO (λ_=>B) (qv 1) (qv 0) dG) AV (A0 _))) (Db (AA (qv 0) (AA (KO (λ_=>B) (qv 1) (qv 0) dG) AG)))))))),λxs K h=>?_}
  case j=>rintro E Y⟨x,a,r,c,rfl,y,h⟩;show#[{0,λ_ h=>nomatch h},_,DN r,F5 _,0,?_];rw[F4];show{trivial,_,DN r,F0 rfl,by rw[aA];lia,?_};rw[Kb];show h
  case g=>
   rintro E Y⟨t,rfl,y,h⟩;show{_,0,0,λi Y=>∃o l,Y=[.sh (Ac t),.own (B5 ((t.take i).foldl BM [])),o,l],#[_,_,0],λi ρ' x L J=>?_,λρ' J=>?_}
   .let[o,l,0]:=J;rw[bO]at L;let[q,C,0]:=aJ.mp L;let v:=Kq (t.take i) [];let ρ:(t.take i).length<=t.length:=by rw[aO];lia
    show Ij {_,_,q.1,q.2,0,by simp at v;lia,.sh (AZ q.1),.sh (.int q.2),?_};rw[take_add_one,C,foldl_append];rfl
   .let[o,l,0]:=J;let:=h o l;rw[aZ (by rw[aA];show aQ _)];show this
  .let[t,0,y,I,h]:=h;show{t,0,y,λo l=>?_};let[n,I]:=I;let v:(BH t).length<=t.length:=by let:=Kq t [];simp only[length_nil,Nat.zero_add]at this;show this
   show{(BH t).map (·.1),_,0,by rw[aA];lia,{n,λr d=>by let[q,C,0]:=bU.mp d;show Kr I q C},λp G Q=>?_}
   .let O:p.length=(BH t).length:=by rw[G.length_eq,aA]
    let e:=Nk G Q;generalize BH t=u at*;show{_,0,'5',by rw[aA];lia,?_};let get:∀r∈p,CA (u.map (·.1)) (u.map λq=>P.int q.2) r\(.int ((AY u r).getD 0)):=λr d=>by rw[Ka];let σ:=G.mem_iff.mp d;let[c,hc]:=Sk σ;rw[hc];rfl
    show A2.filter (λr=>decide (0<(AY u r).getD 0)) (λr=>CB (r,(AY u r).getD 0)) (λr _ _=>'2') (λr d M f=>?_) ?_
    .show Be (CI _) {_,_,DN r,get r d,trivial,_,0,Au (λz=>{_,_,DN r,get r d,0,?_}) (λz=>?_)}
     .let f:=f (DL [(AZ r,.cl),(.int ((AY u r).getD 0),Fl.bo.el)]);rw[aC (~~~z)]at f;show f
     .let f:=f .nw;rw[aB (~~~z)]at f;show f
    .rw[e];let e2:((DD (u.map (·.1))).filter λr=>decide (0<(AY u r).getD 0)).map (λr=>CB (r,(AY u r).getD 0))=(CN u).map CB:=by unfold CN;rw[bZ];rfl
     rw[e2];show#[0,h]
def O7:pF:=(λxs K=>∃qI t part,xs=[AH qI,Ac t,AH part]/\Sh qI t part/\t.length<=1000/\K (Ac (BL qI t part)))
def iT:pS:=(λE Y=>∃qI t part a r c x,Y=[.sh (AH qI),.sh (Ac t),.sh (AH part),.own (B5 a),.sh (AZ r),.sh (.int c),x]/\a.length<=100000/\part.length<=100/\r.length=qI.length/\(∀n∈part,n∈qI)/\∀y,E.nx [.sh (AH qI),.sh (Ac t),.sh (AH part),.own (B5 (BM a (An qI r part,c))),.sh (AZ r),.sh (.int c),y])
def iU:pS:=(λE Y=>∃qI t part,Y=[.sh (AH qI),.sh (Ac t),.sh (AH part),.own (.dT [] []),.emp,.emp,.emp]/\Sh qI t part/\∀x y z,E.nx [.sh (AH qI),.sh (Ac t),.sh (AH part),.own (B5 (BH (Bz qI t part))),x,y,z])
def iV(D:Ai K mg "_law_portion" Ot)(T:TxtB mg)(L:'E' "_law_row_of" 1 ϒ (spP Uz))(M:'E' "_law_settled" 1 ϱ (spP O5)):'E' "_law_portion" 2 ϗ (spP O7):=by
 show BI D Iy (λ_ _ _ _ _ _ us J=>DH J '8') (λxs K h=>?_) '3' (λfa σ A outer s H E n=>?_)
 .let[_,_,_,0,_]:=h;rfl
 .let G:=DX n;show{_,(Aj (BF (k:=3) (λ_=>Iy.nd) NY)
 (Aj (QS.weak (m:=iU) (IL 1 (DA '7' dF (B3 dF (qv 1)) (M9 (ks:=[4,5]) dF dF (λ_=>(Al (Ag Iy.nd rfl (Or.inl rfl)) (Al (Ag Iy.nd rfl (Or.inl rfl)) Br))) rfl)
 (BK.weak (m:=iT) (Aj (BF (k:=6) (λ_=>Iy.nd) (Ae (λ_=>L) (λ_=>n.mq) (AA (qv 0) (AA (qv 4) (AA (qv 2) AG)))))
 (Ad (KQ (k:=3) (λ_=>G) (qv 6) (B2 (λ_=>DJ) FL (Fq (λ_=>G) (qv 3) (qv 6) AV) (qv 5))))) ?f))) ?d)
 (Ad (A5 (Ae (λ_=>M) (λ_=>n.mq) (AA (qv 3) AG)))))),λxs K h=>?_}
  case f=>rintro E Y⟨qI,t,part,a,r,c,x,rfl,J,N,l,j,h⟩;show#[qI,r,part,0,N,l,j,Be (CI _) #[{0,λ_ h=>nomatch h},_,DN _,F5 _,0,?_]];rw[F4];show{trivial,_,DN _,F0 rfl,by rw[aA];lia,?_};rw[Kb];show h _
  case d=>
   rintro E Y⟨qI,t,part,rfl,g,h⟩;show{_,0,0,λi Y=>∃x y z,Y=[.sh (AH qI),.sh (Ac t),.sh (AH part),.own (B5 ((Bz qI (t.take i) part).foldl BM [])),x,y,z],#[_,_,_,0],λi ρ' x C p=>?_,λρ' p=>?_}
   .let[B,v,u,0]:=p;rw[bO]at C;let[q,I,0]:=aJ.mp C;let o:=Kq (Bz qI (t.take i) part) [];let Q:(Bz qI (t.take i) part).length<=t.length:=by unfold Bz;rw[aA,aO];lia
    let ρ:=g.few;show Ij #[qI,t,part,_,q.1,q.2,_,0,by simp at o;lia,g.len,g.rows q (aM I),g.sub,λy=>{.sh (AZ q.1),.sh (.int q.2),y,?_}];let e:Bz qI (t.take (i+1)) part=Bz qI (t.take i) part++[(An qI q.1 part,q.2)]:=by unfold Bz;rw[take_add_one,I,cO];rfl
    rw[e,foldl_append];rfl
   .let[B,v,u,0]:=p;let:=h B v u;rw[aZ (by rw[aA];show aQ _)];show this
  .let[qI,t,part,0,g,O,h]:=h;show#[qI,t,part,0,g,λx y z=>{_,0,aR (N7 _) (by rw[OC];show O),FO _,{_,Kr (OD qI t part)},Ik,h}]
def U0:pF:=(λxs K=>∃a b,xs=[Ac a,Ac b]/\a.length+b.length<=1000/\(∃n,∀q∈a++b,q.1.length=n)/\K (Ac (CN (BH (a++b)))))
def iW(D:Ai K mg "plus" Oa)(T:TxtB mg)(d:'E' "summed" 1 ["papers"] (spP FW)):'E' "plus" 2 ϓ (spP U0):=by
 show BI D gc (λ_ _ _ _ _ _ us c=>B0 c dG) (λxs K h=>?_) '3' (λi g A outer s H E e=>{_,(Ad (A5 (Ae (λ_=>d) (λ_=>e.mq) (AA (B2 (λ_=>Hz) IB (qv 0) (qv 1)) AG)))),λxs K h=>?_})
 .let[_,_,0,_]:=h;rfl
 .let[a,b,0,c,f,h]:=h;simp![FW];show{⋯,a++b,by rw[cO],by rw[aG];lia,f,h}
end
section
variable{K:Fg}
structure TxtF(K:Fg)(mg:Str->C2):Prop extends TxtB mg where x_TooFew:∃C,XClsV K mg "TooFew" "row" C
def D0(a:Tl)(q:By×Int):Tl:=(BW a q.1 ((AY a q.1).getD 0-q.2))
noncomputable def Et:Tl->Tl->By ⊕ Tl|a,[]=>.inr a|a,q::r=>if(AY a q.1).getD 0-q.2<0 then .inl q.1 else Et (D0 a q) r
def iX(a)(q):(D0 a q).length<=a.length+1:=Kc _ _ _
def iY{a}{q}(h:∀p∈a,p.1.length=n)(c:q.1.length=n):∀p∈D0 a q,p.1.length=n:=Nh h c
structure LsOk(a b:Tl):Prop where
 la:a.length+b.length<=1000
 nd:(a.map (·.1)).Nodup
 un:∃n,(∀q∈a,q.1.length=n)/\∀q∈b,q.1.length=n
def U1:Eo:=(λxs K Kx=>∃a b,xs=[Ac a,Ac b]/\LsOk a b/\(∀c,Et a b=.inr c->K (Ac (CN (BH c))))/\∀r,Et a b=.inl r->Kx (.vl "TooFew" "row" (AZ r)))
def iZ(EX:HF):pS:=(λE Y=>∃x y cur r c v,Y=[x,y,.own (B5 cur),.sh (AZ r),.sh (.int c),v]/\cur.length<=100000/\((AY cur r).getD 0-c<0->E.ex (.vl "TooFew" "row" (AZ r)) EX)/\(¬(AY cur r).getD 0-c<0->E.nx [x,y,.own (B5 (D0 cur (r,c))),.sh (AZ r),.sh (.int c),.sh (.int ((AY cur r).getD 0-c))]))
def ic(EX:HF):pS:=(λE Y=>∃x a b,Y=[x,.sh (Ac b),.own (B5 a),.emp,.emp,.emp]/\LsOk a b/\(∀c,Et a b=.inr c->c.length<=1000->(∃n,∀q∈c,q.1.length=n)->∀v1 v2 v3,E.nx [x,.sh (Ac b),.own (B5 c),v1,v2,v3])/\∀r,Et a b=.inl r->E.ex (.vl "TooFew" "row" (AZ r)) EX)
def ie{b:Tl}{q}(h:b[i]?\q):b.drop i=q::b.drop (i+1):=by let hi:=(aI.mp h).1;rw[drop_eq_getElem_cons hi,(aI.mp h).2]
def ig(D:Ai K mg "less" Ob)(T:TxtF K mg)(O:'E' "summed" 1 ["papers"] (spP FW)):CV P' w K mg base "less" 3 ϓ (Fx K mg U1):=by
 show T6 D Ir (λ_ _ _ _ _ _ us u=>B0 u dG) (λxs K Kx h=>?_) '3' (λρ Q A outer s H E B=>?_)
 .let[_,_,0,_]:=h;rfl
 .let L:=DX B;show{_,(Aj (BF (k:=2) (λ_=>Ir.nd) (Bv (λ_=>(IQ rfl B)) IR (λ_=>T.b_dict) nofun (AA (qv 0) AG)))
 (Aj (QS.weak (m:=ic (Ep K mg E)) (IL 1 (DA (λ_=>PassesOwn.leaving) dF (B3 dF (qv 1)) (M9 (ks:=[3,4]) dF dF (λ_=>(Al (Ag Ir.nd rfl (Or.inl rfl)) (Al (Ag Ir.nd rfl (Or.inl rfl)) Br))) rfl)
 (BK.weak (m:=iZ (Ep K mg E)) (Aj (BF (k:=5) (λ_=>Ir.nd) (B2 (λ_=>HV) NE (Fq (λ_=>L) (qv 2) (qv 3) AV) (qv 4)))
 (Aj (Cb (BN (λ_=>MG) Rf (qv 5) AV (A0 _))
 (Ad (fF T.x_TooFew.choose_spec dF dF dF dF (λ_=>fA) (λ_=>B.mq) (qv 3)))
 C8)
 (Ad (KQ (k:=2) (λ_=>L) (qv 3) (qv 5))))) ?g))) ?f)
 (Ad (A5 (Ae (λ_=>O) (λ_=>B.mq) (AA (fU dF dF (λ_=>T.b_list) (qv 2)) AG)))))),λxs Kn Kx h=>?_}
  case g=>rintro σ Y⟨x,y,d,r,c,v,rfl,u,h1,h2⟩;simp![F5,F4];show Au (λz=>h1 (~~~z)) (λz=>?_);show{⋯,?_};rw[Kb];show h2 (~~~z)
  case f=>
   rintro σ Y⟨x,a,b,rfl,ok,h1,h2⟩;let[n,N,M]:=ok.un;simp![A4];show{λi Y=>∃o l j d,Y=[x,.sh (Ac b),.own (B5 d),o,l,j]/\Et a b=Et d (b.drop i)/\d.length<=a.length+i/\∀q∈d,q.1.length=n,{_,_,_,a,0,0,⋯,N},λi ρ' z J I=>?_,λρ' I=>?_}
   .done<;>let[o,l,j,d,0,e,u,p]:=I;rw[bO]at J;let[q,G,0]:=aJ.mp J;let hi:=(aI.mp G).1;let C:=aM G;let:=ok.la;rw[ie G,Et]at e;simp![A4];show#[_,_,d,q.1,q.2,_,0,⋯,λz=>h2 _ (by rw[e,aC z]),λz=>{_,_,_,D0 d q,0,by rw[e,aB z],?_,iY p (M q C)}];let:=iX d q;lia
   .let[o,l,j,d,0,e,u,p]:=I;rw[drop_length,Et]at e;let:=ok.la;show h1 d e ⋯ #[n,p] o l j
  .let[a,b,0,ok,h1,h2]:=h;let:=ok.la;simp![FW];show#[⋯,_,a,b,by rw[Ia ok.nd],ok,λc e u p o l j=>?_,λr e=>{h2 r e,0}];simp![FW];show{c,0,⋯,p,h1 c e}
end
section
variable{K:Fg}
def U2:pF:=(λxs K=>∃rs:List By,xs=[.lst (rs.map AZ)]/\rs.length<=100000/\K (.bl (EK rs)))
def O8:pF:=(λxs K=>∃qI t,xs=[AH qI,Ac t]/\t.length<=100000/\(∀q∈t,q.1.length<=1000)/\K (.bl (G0 qI.length t)))
theorem U3:∀rs,EK rs=((rs.zip (rs.drop 1)).map λq=>HT.lexLt q.1 q.2).all id
 |[]=>rfl|[_]=>rfl|a::b::r=>by let:=U3 (b::r);simp only[drop_succ_cons,drop_zero,zip_cons_cons,map_cons,all_cons,id]at this⊢;rw[EK,this]
noncomputable def Lj(xs:List α):cut xs (some 1) none=xs.drop 1:=by unfold cut;cases xs with
 |nil=>simp|cons a r=>rw[show HT.dA (a::r).length 0 _=1 by rfl,show HT.dA (a::r).length (a::r).length none=(a::r).length by simp[HT.dA]];simp
def ii(D:Ai K mg "rises" HG)(T:TxtB mg):'E' "rises" 1 Ϲ (spP U2):=by
 show BI D Ud (λ_ _ _ _ _ _ us a=>Cd a dF) (λxs K h=>?_) '3' (λl g A outer s H E d=>{_,(Ad (A5 (Aw (λ_=>(D9 rfl)) EH (λ_=>T.b_all) nofun (AA (BR (N:=Ϲ) (sc:=AL HG) (N':=ϴ) (qC:=[none,none]) '1' '3' dF (db dF (λ_=>T.b_zip) (qv 0) (KJ dF (qv 0) (KI AV) KH)) (FK (i:=0) (j:=1) rfl rfl dF dF (λ_=>(Al (Ag (i:=0) (show List.Nodup (ϴ:At)from nofun) rfl (Or.inl rfl)) (Al (Ag (i:=1) (show List.Nodup (ϴ:At)from nofun) rfl (Or.inl rfl)) Br)))) Bm (FF (λ_=>(dX d)) dZ (qv 0) (qv 1) (A0 _))) AG)))),λxs K h=>?_})
 .let[_,0,_]:=h;rfl
 .let[rs,0,a,h]:=h;simp! only[A4];rw[Lj,<-map_drop];let e:∀xs ys:List By,zipWith Cy (xs.map AZ) (ys.map AZ)=(xs.zip ys).map λq=>Cy (AZ q.1) (AZ q.2):=λxs=>by induction xs with
   |nil=>intro ys;rfl|cons x xs c=>intro ys;cases ys with
    |nil=>rfl|cons y ys=>simp only[map_cons,zipWith_cons_cons,zip_cons_cons,c]
  rw[e,aA,length_zip];show{SX _,⋯,A2.map (λq=>.bl (HT.lexLt q.1 q.2)) dG (λq _ M f=>?_) ?_}
  .simp! only[Cy];show f .fr
  .show{(rs.zip (rs.drop 1)).map λq=>HT.lexLt q.1 q.2,by rw[bZ];rfl,?_};rw[<-U3];show h
def ij(D:Ai K mg "is_tally" Iq)(T:TxtB mg)(l:'E' "is_row" 1 ϳ (spP Ke))(g:'E' "rises" 1 Ϲ (spP U2)):'E' "is_tally" 2 ϖ (spP O8):=by
 show BI D gb (λ_ _ _ _ _ _ us f=>B0 f dG) (λxs K h=>?_) '3' (λp o A outer s H E c=>{_,(Aj (Cb (CL (CS (Aw (λ_=>(D9 rfl)) EH (λ_=>T.b_all) nofun (AA (BR (N:=ϖ) (sc:=AL Iq) (qC:=[none,none,some 0]) '1' '3' dF (B3 dF (qv 1)) (FK rfl rfl dF dF (λ_=>(Al (Ag (i:=0) (show List.Nodup (["row","count","room"]:At)from nofun) rfl (Or.inl rfl)) (Al (Ag (i:=1) (show List.Nodup (["row","count","room"]:At)from nofun) rfl (Or.inl rfl)) Br)))) Bm (M4 (Ae (λ_=>l) (λ_=>c.mq) (AA (qv 2) (AA (qv 0) AG))) (M3 (FF (λ_=>Po) ZO (qv 1) AV (A0 _))))) AG)))) (Ad (A5 Hm)) C8) (Ad (A5 (Ae (λ_=>g) (λ_=>c.mq) (AA (BR (N:=ϖ) (sc:=AL Iq) (qC:=[none,none]) '1' '3' dF (B3 dF (qv 1)) (FK rfl rfl dF dF (λ_=>(Al (Ag (i:=0) (show List.Nodup (Ϯ:At)from nofun) rfl (Or.inl rfl)) (Al (Ag (i:=1) (show List.Nodup (Ϯ:At)from nofun) rfl (Or.inl rfl)) Br)))) Bm (qv 0)) AG))))),λxs K h=>?_})
 .let[_,_,0,_]:=h;rfl
 .let[qI,t,0,f,m,h]:=h;simp! only[aA];show{⋯,A2.map (λq=>.bl (CM qI.length q.1&&decide (1<=q.2))) dG (λq d M a=>?_) ?_}
  .simp! only[A4];show{qI,q.1,0,m q d,?_};let a:=a .fr;cases e:CM qI.length q.1
   .rw[e,Bool.false_and]at a;simp! only[A4];show a
   .rw[e,Bool.true_and]at a;simp! only[A4];show a
  .show{t.map λq=>CM qI.length q.1&&decide (1<=q.2),by rw[bZ];rfl,?_};unfold G0 at h;rw[all_map];let n:t.all (id∘λq=>CM qI.length q.1&&decide (1<=q.2))=t.all λq=>CM qI.length q.1&&decide (1<=q.2):=rfl;rw[n];cases e:t.all λq=>CM qI.length q.1&&decide (1<=q.2)
   .rw[e,Bool.false_and]at h;simp only[dD];show h
   .rw[e,Bool.true_and]at h;simp only[Bool.true_eq_false,if_false];show{⋯,A2.map (λq=>AZ q.1) (λ_ _=>CI _) (λq d M a=>?_) ?_}
    .simp! only[A4];show a _
    .show{t.map (·.1),by rw[bZ];rfl,by rw[aA];lia,h}
structure TxtN(mg:Str->C2):Prop extends Txt mg where
 b_str:mg "str"=none
 g_MOST_LETTERS:∃t,mg "MOST_LETTERS"\(.int 8 t)g_MOST_QUESTIONS:∃t,mg "MOST_QUESTIONS"\(.int 6 t)
def U4(a b):(!decide (({[b].toArray}:Str).cps.toList<({[a].toArray}:Str).cps.toList))=decide (a<=b):=by
 by_cases h:a<=b
 .rw[aK h,cK λz=>?_];rfl;let z||[_,z]:=cons_lt_cons_iff.mp z
  .lia
  simp_all
 .rw[cK h,aK (cons_lt_cons_iff.mpr (.inl ⋯))];rfl
def Lk:pF:=(λxs K=>∃x:Str,xs=[.str x]/\C0 x/\K (.bl true))
def ik(D:Ai K mg "is_name" K7)(T:TxtN mg):'E' "is_name" 1 ["text"] (spP Lk):=by
 show BI D gQ (λ_ _ _ _ _ _ us e=>Cd e dF) (λxs K h=>?_) '3' (λq j A outer s H E n=>{_,(Aj (Cb (CL (RI (λ_=>EV) Fm (λ_=>EV) Fm AV (Aw (λ_=>Bn) Bo 'I' nofun (AA (qv 0) AG)) (Hn (λ_=>T.g_MOST_LETTERS)))) (Ad (A5 Hm)) C8) (Ad (A5 (Aw (λ_=>(D9 rfl)) EH (λ_=>T.b_all) nofun (AA (BR (N:=["text"]) (sc:=AL K7) (N':=["sign"]) (qC:=[none]) '1' '3' dF (Y5 (qv 0)) (Bw (k:=0) rfl (λ_=>show List.Nodup (["sign"]:At)from nofun)) Bm (RH (λ_=>Qo) Rh (λ_=>Qo) Rh Ci (qv 0) Ci)) AG))))),λxs K h=>?_})
 .let[_,0,_]:=h;rfl
 .let[x,0,d,h]:=h;let p:=d.1;let o:=d.2.1;show#[⋯,trivial,true,aT P.bl (aK ⋯),trivial,true,aT P.bl (aK ⋯),x,0,nofun,by rw[aA,bR];change x.length<=_;lia,A2.map (λ_:Nat=>P.bl true) dG (λc f M a=>?_) {x.cps.toList.map λ_=>true,by rw[bZ];rfl,F1 rfl,?_}]
  .let[m,l]:=d.2.2 c f;let a:=a .fr;let i:=(U4 97 c).trans (aK m);let g:=(U4 c 122).trans (aK l);rw[<-g]at a;show{trivial,true,aT P.bl i,trivial,a}
  .rw[show(x.cps.toList.map λ_=>true).all id=true by simp];show h
def U5:pF:=(λxs K=>∃ns:At,xs=[AH ns]/\ns.length<=100/\ns.Pairwise (λa b=>a.cps.toList<b.cps.toList)/\K (.bl true))
def im(D:Ai K mg "rises" HG)(T:TxtB mg):'E' "rises" 1 Ϲ (spP U5):=by
 show BI D Ud (λ_ _ _ _ _ _ us c=>Cd c dF) (λxs K h=>?_) '3' (λo m A outer s H E n=>{_,(Ad (A5 (Aw (λ_=>(D9 rfl)) EH (λ_=>T.b_all) nofun (AA (BR (N:=Ϲ) (sc:=AL HG) (qC:=[none,none]) '1' '3' dF (fj dF (λ_=>T.b_zip) (qv 0) (KJ dF (qv 0) (KI AV) KH)) (FK rfl rfl dF dF (λ_=>(Al (Ag (i:=0) (show List.Nodup (ϴ)from nofun) rfl (Or.inl rfl)) (Al (Ag (i:=1) (show List.Nodup (ϴ)from nofun) rfl (Or.inl rfl)) Br)))) Bm (FF (λ_=>Wp) ZR (qv 0) (qv 1) (A0 _))) AG)))),λxs K h=>?_})
 .let[_,0,_]:=h;rfl
 .let[ns,0,c,f,h]:=h;let cd:cut (ns.map P.str) (some 1) none=(ns.drop 1).map P.str:=by rw[Lj,map_drop]
  let l:∀xs ys:At,zipWith Cy (xs.map P.str) (ys.map P.str)=(xs.zip ys).map λq=>Cy (.str q.1) (.str q.2):=λxs=>by induction xs with
   |nil=>intro ys;rfl|cons x xs d=>intro ys;cases ys with
    |nil=>rfl|cons y ys=>simp only[map_cons,zipWith_cons_cons,zip_cons_cons,d]
  show{_,_,0,aT P.tup cd,{Hj _,Hj _},nofun,by rw[length_zipWith,aA];lia,?_};rw[l];show A2.map (λ_=>P.bl true) dG (λq g M a=>?_) {(ns.zip (ns.drop 1)).map λ_=>true,by rw[bZ];rfl,F1 rfl,?_}
  .let a:=a .fr;let lt:q.1.cps.toList<q.2.cps.toList:=by let[i,hi,e]:=getElem_of_mem g;rw[getElem_zip,getElem_drop]at e;rw[<-e];rw[length_zip,length_drop]at hi;show pairwise_iff_getElem.mp f i (1+i) (by omega) ⋯ (by simp)
   rw[<-aK lt]at a;show{_,0,0,Be rfl (Be rfl #[trivial,a])}
  .rw[show((ns.zip (ns.drop 1)).map λ_=>true).all id=true by simp];show h
def Ll:pF:=(λxs K=>∃ns:At,xs=[AH ns]/\ns.length<=6/\(∀x∈ns,C0 x)/\ns.Pairwise (λa b=>a.cps.toList<b.cps.toList)/\K (.bl true))
def io(D:Ai K mg "is_room" K8)(T:TxtN mg)(d:'E' "is_name" 1 ["text"] (spP Lk))(e:'E' "rises" 1 Ϲ (spP U5)):'E' "is_room" 2 ["names"] (spP Ll):=by
 show BI D gR (λ_ _ _ _ _ _ us c=>Cd c dF) (λxs K h=>?_) '3' (λm l A outer s H E a=>{_,(Aj (Cb (BN (λ_=>Fb) Gf (Aw (λ_=>Bn) Bo 'I' nofun (AA (qv 0) AG)) (Hn (λ_=>T.g_MOST_QUESTIONS)) (A0 _)) (Ad (A5 Hm)) C8) (Ad (A5 (M4 (Aw (λ_=>(D9 rfl)) EH (λ_=>T.b_all) nofun (AA (BR (N:=["names"]) (sc:=AL K8) (qC:=[none]) '1' '3' dF (ED dF (qv 0)) (Bw (k:=0) rfl (λ_=>show List.Nodup (["name"]:At)from nofun)) Bm (Ae (λ_=>d) (λ_=>a.mq) (AA (qv 0) AG))) AG)) (M3 (Ae (λ_=>e) (λ_=>a.mq) (AA (qv 0) AG))))))),λxs K h=>?_})
 .let[_,0,_]:=h;rfl
 .let[ns,0,c,i,g,h]:=h;show#[trivial,false,aT P.bl (cK (by rw[aA];lia)),_,0,nofun,by rw[aA];lia,A2.map (λ_=>P.bl true) dG (λx f M j=>{x,0,i x f,j _}) {ns.map λ_=>true,by rw[bZ];rfl,true,aT P.bl '2',ns,0,⋯,g,F1 rfl,h}]
end
section
variable{K:Fg}
def U6:pF:=(λxs K=>xs=[.bag]/\∀ns:At,1<=ns.length->ns.length<=6->ns.Nodup->(∀x∈ns,C0 x)->PyProof.Rows.sortedS ns=true->K (AH ns))
def ip(D:Ai K mg "_law_questions" Oo)(T:TxtB mg)(g:'E' "_law_pull" 1 ϊ (spP Di))(f:'E' "_law_names" 3 ϊ (spP O3)):'E' "_law_questions" 4 ϙ (spP U6):=by
 show BI D gj (λ_ _ _ _ _ _ us d=>Cd d dF) (λxs K h=>?_) '3' (λu n A outer s H E c=>{_,(Ad (A5 (Bv (λ_=>EA) EG (λ_=>T.b_tuple) nofun (AA (Aw (λ_=>(Jo trivial)) KD (λ_=>T.b_sorted) nofun (AA (Ae (λ_=>f) (λ_=>c.mq) (AA (qv 0) (AA (B2 (λ_=>DJ) FL AV (Ae (λ_=>g) (λ_=>c.mq) (AA (qv 0) (AA AV AG)))) AG))) AG)) AG)))),λxs K h=>?_})
 .let[0,_]:=h;rfl
 .let[0,h]:=h;simp![Di,O3];show#['3','3',λr p o=>#[⋯,⋯,λns q m i=>{(by omega),λe a l=>?_}]];let d:=a.length_eq;show h e ⋯ ⋯ (a.nodup_iff.mpr i) (λx j=>m x (a.mem_iff.mp j)) l
def Lm:pF:=(λxs K=>∃ns,xs=[.bag,AH ns]/\ns.length<=9/\∀part:At,part.Sublist ns->K (AH part))
def iq:pS:=(λE Y=>∃ns m x,Y=[.sh .bag,.sh (AH ns),.sh (.int m),x,.emp]/\0<=m/\m<=1000/\E.nx [.sh .bag,.sh (AH ns),.sh (.int (m*2)),x,.emp])
def ir:pS:=(λE Y=>∃ns,Y=[.sh .bag,.sh (AH ns),.sh (.int 1),.emp,.emp]/\ns.length<=9/\∀x,E.nx [.sh .bag,.sh (AH ns),.sh (.int ((2^ns.length:Nat):Int)),x,.emp])
def U7(h:n<=9):1<=2^n/\2^n<=512:=by show#[Nat.one_le_two_pow,?_];show Nat.pow_le_pow_right (by decide:0<2) h
def iu(D:Ai K mg "_law_part" LP)(T:TxtB mg)(y:'E' "_law_pull" 1 ϊ (spP Di)):'E' "_law_part" 2 Ϗ (spP Lm):=by
 show BI D Ix (λ_ _ _ _ _ _ us f=>B0 f dG) (λxs K h=>?_) '3' (λfa O A outer s H E v=>{_,(Aj (BF (k:=2) (λ_=>Ix.nd) AV) (Aj (QS.weak (m:=ir) (IL 1 (DA '7' dF (ED dF (qv 1)) (Dp (k:=3) (λ_=>Ix.nd)) (BK.weak (m:=iq) (Ad (BF (k:=2) (λ_=>Ix.nd) (B2 (λ_=>GG) ZL (qv 2) AV))) ?c))) ?a) (Aj (BF (k:=4) (λ_=>Ix.nd) (Ae (λ_=>y) (λ_=>v.mq) (AA (qv 0) (AA (qv 2) AG)))) (Ad (A5 (Bv (λ_=>EA) EG (λ_=>T.b_tuple) nofun (AA (BR (N:=ϩ) (sc:=AL LP) (qC:=[none,some 1,some 4]) '1' '3' dF (EF (λ_=>T.b_range) (AA (Aw (λ_=>Bn) Bo 'I' nofun (AA (qv 1) AG)) AG)) (Bw (k:=0) rfl (λ_=>show List.Nodup (["_law_at","_law_names_here","_law_mask"]:At)from nofun)) (Eh (BN (λ_=>(EI v)) EJ (B2 (λ_=>Fa) ZM (B2 (λ_=>Wf) ZN (qv 2) (qv 0)) AV) AV (A0 _))) (Av 'J' Ay (qv 1) (qv 0) dG)) AG))))))),λxs K h=>?_})
 case c=>rintro E Y⟨ns,m,x,rfl,m0,ρ,h⟩;show{.inl {⋯,⋯},h}
 case a=>
  rintro E Y⟨ns,rfl,f,h⟩;show{_,0,0,λi Y=>i<=ns.length/\∃x,Y=[.sh .bag,.sh (AH ns),.sh (.int ((2^i:Nat):Int)),x,.emp],{cD _,_,0},λi ρ' x g u=>?_,λρ' u=>?_}
  .let[hi,x,0]:=u;rw[bO]at g;let[q,G,0]:=aJ.mp g;let L:=(aI.mp G).1;let I:=U7 (n:=i) ⋯;show{ns,_,_,0,⋯,⋯,⋯,.sh (.str q),?_};rw[Nat.pow_succ,Int.natCast_mul];rfl
  .let[hi,x,0]:=u;rw[aA];show h x
 .let[_,0,_]:=h;rfl
 .let[ns,0,f,h]:=h;let I:=U7 f;let B:(ns.map P.str).length=ns.length:=aA _;show#[ns,0,f,λx=>#[_,0,⋯,⋯,λr σ Q=>{_,_,0,⋯,⋯,nofun,by rw[C9];lia,?_}]];rw[B,O4 ⋯];show A2.filter (λk:Nat=>decide (r/2^k%2=1)) (λk=>P.str (ns.getD k {#[]})) '8' (λk J M d=>?_) ?_
  .let o:k<ns.length:=by let:=mem_range.mp J;lia
   let d:=d .cl;show{by change(0:Int)<=0+(k:Int);lia,by change(0:Int)<2;decide,#[0,0],_,0,Au (λz=>?_) (λz=>?_)}<;>rw[Int.zero_add,Int.toNat_natCast,Gy]at z
   .rw[aC z]at d;show{P.str (ns.getD k {#[]}),?_,d};rw[Int.zero_add];show Cg (by rw[bO,bW,aH o];rfl)
   .rw[aB z]at d;show d
  .rw[Int.toNat_natCast];let e:ns=(List.range ns.length).map λk=>ns.getD k {#[]}:=by
    apply ext_getElem?;intro i;rw[bO];by_cases hi:i<ns.length
    .rw[getElem?_range hi,aH hi,Option.map_some,bW,aH hi];rfl
    .rw[bQ ⋯,bQ (by rw[length_range];lia)];rfl
   let C:(((List.range ns.length).filter λk=>decide (r/2^k%2=1)).map λk=>ns.getD k {#[]}).Sublist ns:=by let:=(filter_sublist (p:=λk:Nat=>decide (r/2^k%2=1)) (l:=List.range ns.length)).map λk=>ns.getD k {#[]};rw[<-e]at this;show this
   let:=h _ C;rw[AH,bZ]at this;show{F1 (by rw[Qy];show GQ.mpr λx g=>by let[k,_,0]:=bU.mp g;rfl),this}
noncomputable abbrev BO(rs:List At):P:=.lst (rs.map AH)
def U8:pF:=(λxs K=>∃ns many,xs=[.bag,AH ns,.int many]/\Nms ns/\0<=many/\many<=8/\∀rs:List At,(rs.length:Int)=many->(∀r∈rs,Rm ns r)->K (BO rs))
noncomputable abbrev DR(ns:At)(many:Int)(fd:List At)(sp:At)(a b c d:S):dJ:=[.sh .bag,.sh (AH ns),.sh (.int many),.own (BO fd),.own (.lst (sp.map P.str)),a,b,c,d]
def iw:pS:=(λE Y=>∃ns many fd sp a b fr d,Y=DR ns many fd sp a b (.own (.lst (fr.map P.str))) d/\Er ns fd sp fr/\fr.length<=100/\sp.length<=9/\∀sp' fr',Er ns fd sp' fr'->fr'.length<=fr.length+1->sp'.length<=9->E.nx (DR ns many fd sp' a b (.own (.lst (fr'.map P.str))) d))
def ix:pS:=(λE Y=>∃ns many fd sp a b d,Y=DR ns many fd sp a b (.own (.lst [])) d/\Er ns fd sp []/\sp.length<=9/\∀sp' fr' d',Er ns fd sp' fr'->fr'.length<=9->sp'.length<=9->E.nx (DR ns many fd sp' a b (.own (.lst (fr'.map P.str))) d'))
def iy:pS:=(λE Y=>∃ns many fd sp a part c d,Y=DR ns many fd sp a (.sh (AH part)) c d/\Er ns fd sp []/\fd.length<=8/\sp.length<=9/\(part=[]\/∃r∈fd,part.Sublist r)/\part.length<=9/\∀rm sp' b' c' d',Er ns (fd++[rm]) sp' []->sp'.length<=9->E.nx (DR ns many (fd++[rm]) sp' a b' c' d'))
def iz:pS:=(λE Y=>∃ns many fd sp a b c d,Y=DR ns many fd sp a b c d/\Nms ns/\Er ns fd sp []/\fd.length<=8/\sp.length<=9/\∀rm sp' b' c' d',Er ns (fd++[rm]) sp' []->sp'.length<=9->E.nx (DR ns many (fd++[rm]) sp' a b' c' d'))
def i0:pS:=(λE Y=>∃ns many,Y=DR ns many [] ns .emp .emp .emp .emp/\Nms ns/\0<=many/\many<=8/\∀fd sp a b c d,(fd.length:Int)=many->(∀r∈fd,Rm ns r)->E.nx (DR ns many fd sp a b c d))
def i3(rs:List At):P.imms (rs.map AH)=true:=Fk (λr=>'2') rs
def O9(h):atI (rs.map AH) (n:Int)\(AH rs[n]):=Cg (by rw[bO,aH h];rfl)
theorem PB{α a:Type}(f:α->a):∀(l:List α)(n),(l.map f).eraseIdx n=(l.eraseIdx n).map f|[],_=>'2'|x::r,0=>rfl|x::r,n+1=>by simp[PB f r n]
def U9{α:Type}{f}{l:List α}(z:(!AU (.lst (l.map f)) (.lst []))=true):0<l.length:=by
 let _||[q,t]:=l
 .show bS (show(false:Bool)=true from z) '3'
 simp
def i4(D:Ai K mg "_law_ears" Op)(T:TxtB mg)(ρ:'E' "_law_pull" 1 ϊ (spP Di))(qY:'E' "_law_part" 2 Ϗ (spP Lm)):'E' "_law_ears" 3 ώ (spP U8):=by
 show BI D FV (λ_ _ _ _ _ _ us hl=>DH hl '8') (λxs K h=>?_) '3' (λfa a2 A outer s H E L=>{_,(Aj (BF (k:=3) (λ_=>FV.nd) (Cj AG)) (Aj (BF (k:=4) (λ_=>FV.nd) (Bv (λ_=>GO) NJ (λ_=>T.b_list) nofun (AA (qv 1) AG))) (Aj (QS.weak (m:=i0) (DA '7' dF (EF (λ_=>T.b_range) (AA (qv 2) AG)) (Dp (k:=5) (λ_=>FV.nd)) (BK.weak (m:=iz) (Aj (BF (k:=6) (λ_=>FV.nd) (Db AG)) (Aj (Cb (BN (λ_=>(Ds L)) Dt (qv 3) (Cj AG) (A0 _)) (Ad (BF (k:=6) (λ_=>FV.nd) (Ae (λ_=>qY) (λ_=>L.mq) (AA (qv 0) (AA (Av 'J' Ay (qv 3) (Ae (λ_=>ρ) (λ_=>L.mq) (AA (qv 0) (AA (Aw (λ_=>Bn) Bo 'I' nofun (AA (qv 3) AG)) AG))) dG) AG))))) C8) (BK.weak (m:=iy) (Aj (BF (k:=7) (λ_=>FV.nd) (Cj AG)) (Aj (QS.weak (m:=ix) (DA '7' dF (EF (λ_=>T.b_range) (AA (Ae (λ_=>ρ) (λ_=>L.mq) (AA (qv 0) (AA AV AG))) AG)) (Dp (k:=8) (λ_=>FV.nd)) (BK.weak (m:=iw) (Ad (Cb (BN (λ_=>(Ds L)) Dt (qv 4) (Cj AG) (A0 _)) (Ad (SA (k:=7) (j:=4) dF (Ae (λ_=>ρ) (λ_=>L.mq) (AA (qv 0) (AA (Aw (λ_=>Bn) Bo 'I' nofun (AA (qv 4) AG)) AG))))) C8)) ?I)) ?u) (Ad (Gn (k:=3) dF (Bv (λ_=>EA) EG (λ_=>T.b_tuple) nofun (AA (Aw (λ_=>(Jo trivial)) KD (λ_=>T.b_sorted) nofun (AA (B2 (λ_=>Hz) IB (Bv (λ_=>GO) NJ (λ_=>T.b_list) nofun (AA (qv 6) AG)) (qv 7)) AG)) AG)))))) ?q))) ?J)) ?v) (Ad (A5 (qv 3)))))),λxs K h=>?_})
 case I=>rintro E Y⟨ns,f,fd,sp,a,b,fr,d,rfl,o,l1,l2,h⟩;show{0,#['2','2'],_,0,Au (λz=>?_) (λz=>h sp fr o ⋯ l2)};let hp:0<sp.length:=U9 z;let lm:(sp.map P.str).length=sp.length:=aA _;show{_,0,(by simp_all),⋯,λr N r1=>?_};let[n,0]:=Int.eq_ofNat_of_zero_le N;let M:n<sp.length:=(by simp_all);show{n,.str sp[n],0,⋯,by rw[bO,aH M];rfl,by rw[aA];lia,'3',?_};let:=h (sp.eraseIdx n) (fr++[sp[n]]) (o.pop (aH M)) (by rw[aG];show aQ _) (by rw[length_eraseIdx,aC M];lia);rw[cO]at this;rw[PB];show this
 case u=>
  rintro E Y⟨ns,f,fd,sp,a,b,d,rfl,o,l2,h⟩;show#[4,0,'3','3',λr N r1=>{_,_,0,⋯,⋯,0,λi Y=>∃g l G,Y=DR ns f fd g a b (.own (.lst (l.map P.str))) G/\Er ns fd g l/\l.length<=i/\g.length<=9,{sp,[],_,0,o,'2',l2},λi ρ' x hx C=>?_,λρ' C=>?_}]
  .done<;>(let[g,l,G,0,p,l3,y]:=C;let[hi,0]:=FJ hx);show#[ns,f,fd,g,a,b,l,_,0,p,⋯,y,λσ a0 e2 l5 l6=>{σ,a0,_,0,e2,⋯,l6}]
  .let[g,l,G,0,p,l3,y]:=C;rw[C9]at l3;show h g l G p ⋯ y
 case J=>rintro E Y⟨ns,f,fd,sp,a,b,c,d,rfl,nm,o,l1,l2,h⟩;let hl:=nm.len;show{0,0,#['2','2'],_,0,Au (λz=>?_) (λz=>{ns,f,fd,sp,a,[],c,d,0,o,l1,l2,.inl rfl,'2',h})};let hp:0<fd.length:=U9 z;let lm:(fd.map AH).length=fd.length:=aA _;show{_,0,(by simp_all),⋯,λr N r1=>?_};let[n,0]:=Int.eq_ofNat_of_zero_le N;let M:n<fd.length:=(by simp_all);let hm:=getElem_mem M;let a1:=(o.fnd _ hm).len;show#[_,O9 M,fd[n],0,⋯,λpart O=>Be '2' {ns,f,fd,sp,a,part,c,d,0,o,l1,l2,.inr #[_,hm,O],by let:=O.length_le;lia,h}]
 case q=>
  rintro E Y⟨ns,f,fd,sp,a,part,c,d,rfl,o,l1,l2,B,l3,h⟩;show{0,ns,f,fd,sp,a,_,d,0,o,l2,λg l G p y l5=>?_};show#[by rw[aA,aA];lia,part++l,by rw[cO],by rw[aG];lia,λQ hp O=>{F0 '2',by rw[aA];lia,?_}];let:=h Q g (.sh (AH part)) (.own (.lst (l.map P.str))) G (p.add hp O B) l5;let e:BO (fd++[Q])=.lst (fd.map AH++[AH Q]):=by change P.lst _=_;rw[cO];rfl
  unfold DR at this;rw[e]at this;show this
 case v=>
  rintro E Y⟨ns,f,rfl,nm,m0,m8,h⟩;show{_,_,0,⋯,⋯,0,λi Y=>∃fd sp a b c d,Y=DR ns f fd sp a b c d/\Er ns fd sp []/\fd.length=i/\sp.length<=9,{[],ns,_,_,_,_,0,{'2',by simpa using nm.nd,'2','2'},0,by let:=nm.len;lia},λi ρ' x hx C=>?_,λρ' C=>?_}
  .done<;>(let[fd,sp,a,b,c,d,0,o,l3,y]:=C;let[hi,0]:=FJ hx);show#[ns,f,fd,sp,_,b,c,d,0,nm,o,⋯,y,λrm g b' c' G e2 l5=>{fd++[rm],g,_,_,_,_,0,e2,by simp[l3],l5}]
  .let[fd,sp,a,b,c,d,0,o,l3,y]:=C;rw[C9]at l3;show h fd sp a b c d ⋯ o.fnd
 .let[_,_,0,_]:=h;rfl
 .let[ns,f,0,nm,m0,m8,h]:=h;show#[0,UQ (k:=4) (xs:=ns.map P.str) (Hj ns) #[ns,f,0,nm,m0,m8,λfd sp a b c d h1 h2=>{Ik,h fd h1 h2}]]
def VA:pF:=(λxs K=>∃ns many,xs=[.bag,AH ns,.int many]/\Nms ns/\3<=ns.length/\0<=many/\many<=8/\∀rs:List At,rs.length<=8->(∀r∈rs,Rm ns r)->K (BO rs))
structure Kn(ns row:At):Prop where
 nd:row.Nodup
 sub:∀n∈row,n∈ns
 lo:3<=row.length
 hi:row.length<=6
def i5:pS:=(λE Y=>∃(ns:At)(many:Int)(row sp:At)(b:S),Y=[.sh .bag,.sh (AH ns),.sh (.int many),.own (.lst (row.map P.str)),.own (.lst (sp.map P.str)),b,.emp,.emp,.emp]/\0<sp.length/\sp.length<=9/\row.length<=9/\∀m x,sp[m]?\x->E.nx [.sh .bag,.sh (AH ns),.sh (.int many),.own (.lst ((row++[x]).map P.str)),.own (.lst ((sp.eraseIdx m).map P.str)),b,.emp,.emp,.emp])
def i6:pS:=(λE Y=>∃(ns:At)(many:Int),Y=[.sh .bag,.sh (AH ns),.sh (.int many),.own (.lst []),.own (.lst (ns.map P.str)),.emp,.emp,.emp,.emp]/\Nms ns/\3<=ns.length/\∀row a b,Kn ns row->E.nx [.sh .bag,.sh (AH ns),.sh (.int many),.own (.lst (row.map P.str)),a,b,.emp,.emp,.emp])
def i7:pS:=(λE Y=>∃(ns:At)(many:Int)(row:At)(a b:S)(rs:List At)(k:Nat)(d:S),Y=[.sh .bag,.sh (AH ns),.sh (.int many),.own (.lst (row.map P.str)),a,b,.own (BO rs),.sh (.int k),d]/\Kn ns row/\k<row.length/\rs.length<=8/\∀rm,Rm ns rm->E.nx [.sh .bag,.sh (AH ns),.sh (.int many),.own (.lst (row.map P.str)),a,b,.own (BO (rs++[rm])),.sh (.int k),d])
def VB:pS:=(λE Y=>∃(ns:At)(many:Int)(row:At)(a b c d:S),Y=[.sh .bag,.sh (AH ns),.sh (.int many),.own (.lst (row.map P.str)),a,b,.own (.lst []),c,d]/\Kn ns row/\∀rs c',(∀r∈rs,Rm ns r)->rs.length=row.length->E.nx [.sh .bag,.sh (AH ns),.sh (.int many),.own (.lst (row.map P.str)),a,b,.own (BO rs),c',d])
def i9:pS:=(λE Y=>∃(ns:At)(many:Int)(row:At)(a b:S)(rs:List At)(c:S)(z:Str),Y=[.sh .bag,.sh (AH ns),.sh (.int many),.fr (.lst (row.map P.str)),a,b,.own (BO rs),c,.sh (.str z)]/\Kn ns row/\rs.length<=8/\∀rm,Rm ns rm->E.nx [.sh .bag,.sh (AH ns),.sh (.int many),.fr (.lst (row.map P.str)),a,b,.own (BO (rs++[rm])),c,.sh (.str z)])
def VC:pS:=(λE Y=>∃(ns:At)(many:Int)(row:At)(a b c d:S),Y=[.sh .bag,.sh (AH ns),.sh (.int many),.own (.lst (row.map P.str)),a,b,.own (.lst []),c,d]/\Kn ns row/\∀rs d',(∀r∈rs,Rm ns r)->rs.length=row.length->E.nx [.sh .bag,.sh (AH ns),.sh (.int many),.fr (.lst (row.map P.str)),a,b,.own (BO rs),c,d'])
def PD:pS:=(λE Y=>∃(ns:At)(many:Int)(x a b:S)(rs:List At)(c d:S),Y=[.sh .bag,.sh (AH ns),.sh (.int many),x,a,b,.own (BO rs),c,d]/\Nms ns/\many<=8/\(∀r∈rs,Rm ns r)/\1<=rs.length/\rs.length<=8/\∀rs':List At,rs'.length<=8->(∀r∈rs',Rm ns r)->E.rt (BO rs'))
def PF(rs)(r):BO (rs++[r])=.lst (rs.map AH++[AH r]):=by change P.lst _=_;rw[cO];rfl
def jA{l:At}(h):atI (l.map P.str) (-1)\(.str (l[l.length-1]'(Nat.sub_lt h Nat.one_pos))):=by unfold atI EZ;rw[aA,aB ⋯,aC ⋯];simp only[Option.bind_some];rw[show(-1+(l.length:Int)).toNat=l.length-1 by lia,bO,aH (by omega)];rfl
def VD{l:At}(h):atI (l.map P.str) (n:Int)\(.str l[n]):=Cg (by rw[bO,aH h];rfl)
def jB(D:Ai K mg "_law_knotted" LQ)(T:TxtB mg)(qM:'E' "_law_pull" 1 ϊ (spP Di))(qY:'E' "_law_part" 2 Ϗ (spP Lm)):'E' "_law_knotted" 3 ώ (spP VA):=by
 show BI D F2 (λ_ _ _ _ _ _ us hl=>DH hl '8') (λxs K h=>?_) '3' (λfa a6 A outer s H E l=>{_,(Aj (BF (k:=3) (λ_=>F2.nd) (Cj AG)) (Aj (BF (k:=4) (λ_=>F2.nd) (Bv (λ_=>GO) NJ (λ_=>T.b_list) nofun (AA (qv 1) AG))) (Aj (QS.weak (m:=i6) (DA '7' dF (EF (λ_=>T.b_range) (AA (B2 (λ_=>DJ) FL AV (Ae (λ_=>qM) (λ_=>l.mq) (AA (qv 0) (AA (B2 (λ_=>HV) NE (Aw (λ_=>Bn) Bo 'I' nofun (AA (qv 1) AG)) AV) AG)))) AG)) (Dp (k:=5) (λ_=>F2.nd)) (BK.weak (m:=i5) (Ad (SA (k:=3) (j:=4) dF (Ae (λ_=>qM) (λ_=>l.mq) (AA (qv 0) (AA (Aw (λ_=>Bn) Bo 'I' nofun (AA (qv 4) AG)) AG))))) ?Q)) ?I) (Aj (BF (k:=6) (λ_=>F2.nd) (Cj AG)) (Aj (Cb (QW.pt (RD (BN (λ_=>Fb) Gf (Aw (λ_=>Bn) Bo 'I' nofun (AA (qv 3) AG)) AV (A0 _)) (RC (BN (λ_=>(EI l)) EJ (Ae (λ_=>qM) (λ_=>l.mq) (AA (qv 0) (AA AV AG))) AV (A0 _))))) (Ad (QS.weak (m:=VB) (DA '7' dF (EF (λ_=>T.b_range) (AA (Aw (λ_=>Bn) Bo 'I' nofun (AA (qv 3) AG)) AG)) (Dp (k:=7) (λ_=>F2.nd)) (BK.weak (m:=i7) (Ad (Gn (k:=6) dF (Bv (λ_=>EA) EG (λ_=>T.b_tuple) nofun (AA (Aw (λ_=>(Jo trivial)) KD (λ_=>T.b_sorted) nofun (AA (Cj (AA (Av 'J' Ay (qv 3) (B2 (λ_=>HV) NE (qv 7) AV) dG) (AA (Av 'J' Ay (qv 3) (qv 7) dG) AG))) AG)) AG)))) ?O)) ?G)) (Ad (QS.weak (m:=VC) (IL 3 (DA '7' dF (B3 dF (qv 3)) (Dp (k:=8) (λ_=>F2.nd)) (BK.weak (m:=i9) (Ad (Gn (k:=6) dF (Bv (λ_=>EA) EG (λ_=>T.b_tuple) nofun (AA (Aw (λ_=>(Jo trivial)) KD (λ_=>T.b_sorted) nofun (AA (BR (N:=Ϛ) (sc:=AL LQ) (N':=["_law_other","_law_name"]) (qC:=[none,some 8]) '1' '3' dF (B3 dF (qv 3)) (Bw (k:=0) rfl (λ_=>show List.Nodup (["_law_other","_law_name"]:At)from nofun)) (Eh (BN (λ_=>(Ds l)) Dt (qv 0) (qv 1) (A0 _))) (qv 0)) AG)) AG)))) ?L))) ?C))) (BK.weak (m:=PD) (Aj (Y6 '7' (BN (λ_=>MG) Rf (Aw (λ_=>Bn) Bo 'I' nofun (AA (qv 6) AG)) (qv 2) (A0 _)) (Ad (Gn (k:=6) dF (Ae (λ_=>qY) (λ_=>l.mq) (AA (qv 0) (AA (Av 'J' Ay (qv 6) (Ae (λ_=>qM) (λ_=>l.mq) (AA (qv 0) (AA (Aw (λ_=>Bn) Bo 'I' nofun (AA (qv 6) AG)) AG))) dG) AG)))))) (Ad (A5 (qv 6)))) ?a1)))))),λxs K h=>?_})
 case Q=>rintro E Y⟨ns,g,f,sp,b,rfl,l0,l1,l2,h⟩;let lm:(sp.map P.str).length=sp.length:=aA _;show{_,0,(by simp_all),⋯,λr r0 r1=>?_};let[n,0]:=Int.eq_ofNat_of_zero_le r0;let hn:n<sp.length:=(by simp_all);show{n,.str sp[n],0,⋯,by rw[bO,aH hn];rfl,by rw[aA];lia,'3',?_};let:=h n _ (aH hn);rw[cO]at this;rw[PB];show this
 case I=>
  rintro E Y⟨ns,g,rfl,nm,n3,h⟩;let hl:=nm.len;let lm:(ns.map P.str).length=ns.length:=aA _;show#[trivial,_,0,⋯,⋯,λr r0 r1=>{trivial,_,_,0,⋯,⋯,0,λi Y=>∃(f sp:At)(b:S),Y=[.sh .bag,.sh (AH ns),.sh (.int g),.own (.lst (f.map P.str)),.own (.lst (sp.map P.str)),b,.emp,.emp,.emp]/\(sp++f).Perm ns/\f.length=i,{[],ns,_,0,'2',0},λi ρ' x σ y=>?_,λρ' y=>?_}]
  .let[f,sp,b,0,B,hi]:=y;let[a0,0]:=FJ σ;let a2:=B.length_eq;rw[aG]at a2;show#[ns,g,f,sp,_,0,⋯,⋯,⋯,λm x e=>{f++[x],sp.eraseIdx m,_,0,?_,by rw[aG,hi];rfl}];show List.Perm.trans ?_ B;show List.Perm.trans ?_ ((Tk e).append_right f);rw[bK];show List.Perm.append_left _ perm_append_comm
  .let[f,sp,b,0,B,hi]:=y;rw[C9]at hi;let nd:=B.nodup_iff.mpr nm.nd;show h f _ b {(nodup_append.mp nd).2.1,λn hn=>B.mem_iff.mp (cC _ hn),⋯,by let:=B.length_eq;rw[aG]at this;lia}
 case O=>
  rintro E Y⟨ns,g,f,a,b,rs,k,d,rfl,p,hk,l1,h⟩;let h3:=p.lo;let key:∃j,∃hj:j<f.length,j≠k/\atI (f.map P.str) ((k:Int)-1)\(.str f[j]):=by
   by_cases z:k=0
   .show{f.length-1,⋯,⋯,?_};rw[z];show jA (by simp_all)
   .show{k-1,⋯,⋯,?_};rw[show(k:Int)-1=((k-1:Nat):Int)by lia];show VD ⋯
  let[j,hj,ne,ej]:=key;let nd:[f[j],f[k]].Nodup:=by simp only[bC,bI,bB,not_false_eq_true,nodup_nil,and_true];showλz=>ne ((getElem_inj p.nd).mp z)
  show#[trivial,_,ej,_,VD hk,0,[f[j],f[k]],0,'2',λss B hs=>{F0 '2',by rw[aA];lia,?_}];let rm:Rm ns ss:=Rm.of B hs (λn hn=>by
   let 0||hn:=aF.mp hn
   .show p.sub _ (getElem_mem hj)
   .rw[bI.mp hn];show p.sub _ (getElem_mem hk)) nd
  let:=h ss rm;rw[PF]at this;show this
 case G=>
  rintro E Y⟨ns,g,f,a,b,c,d,rfl,p,h⟩;let h6:=p.hi;let lm:(f.map P.str).length=f.length:=aA _;show{_,_,0,⋯,⋯,0,λi Y=>∃(rs:List At)(c':S),Y=[.sh .bag,.sh (AH ns),.sh (.int g),.own (.lst (f.map P.str)),a,b,.own (BO rs),c',d]/\(∀r∈rs,Rm ns r)/\rs.length=i,{[],_,0,'2',0},λi ρ' x σ y=>?_,λρ' y=>?_}
  .let[rs,c',0,l,hi]:=y;let[a0,0]:=FJ σ;show#[ns,g,f,a,b,rs,i,d,by rw[Int.zero_add];rfl,p,(by simp_all),⋯,λrm J=>{rs++[rm],_,0,λr u=>?_,by rw[aG,hi];rfl}];let z||z:=bA.mp u
   .show l r z
   .rw[bI.mp z];show J
  .let[rs,c',0,l,hi]:=y;rw[C9]at hi;show h rs c' l (by simp_all)
 case L=>
  rintro E Y⟨ns,g,f,a,b,rs,c,z,rfl,p,l1,h⟩;let h6:=p.hi;show{_,0,nofun,by rw[aA];lia,A2.filter (λo=>decide (o≠z)) P.str '8' (λo _ M ρ=>?_) ?_}
  .let ρ:=ρ .cl;show#[#['2','2'],_,0,Au (λq=>?_) (λq=>?_)]<;>rw[KW]at q
   .rw[aC (~~~q)]at ρ;show ρ
   .rw[aB (~~~q)]at ρ;show ρ
  .let a4:(f.filter λo=>decide (o≠z)).length<64:=Nat.lt_of_le_of_lt (length_filter_le _ _) ⋯;show#[_,0,a4,λss B hs=>{F0 '2',by rw[aA];lia,?_}];let rm:Rm ns ss:=Rm.of B hs (λn hn=>p.sub n (cX.mp hn).1) (p.nd.filter _);let:=h ss rm;rw[PF]at this;show this
 case C=>
  rintro E Y⟨ns,g,f,a,b,c,d,rfl,p,h⟩;let h6:=p.hi;show{_,0,0,λi Y=>∃(rs:List At)(d':S),Y=[.sh .bag,.sh (AH ns),.sh (.int g),.fr (.lst (f.map P.str)),a,b,.own (BO rs),c,d']/\(∀r∈rs,Rm ns r)/\rs.length=i/\i<=f.length,{[],_,0,'2',0,cD _},λi ρ' x σ y=>?_,λρ' y=>?_}
  .let[rs,d',0,l,hi,a3]:=y;rw[bO]at σ;let[q,hq,0]:=aJ.mp σ;let a0:=(aI.mp hq).1;show#[ns,g,f,a,b,rs,c,q,0,p,⋯,λrm J=>{rs++[rm],_,0,λr u=>?_,by rw[aG,hi];rfl,⋯}];let z||z:=bA.mp u
   .show l r z
   .rw[bI.mp z];show J
  .let[rs,d',0,l,hi,a3]:=y;show h rs d' l (~~~hi)
 case a1=>
  rintro E Y⟨ns,g,x,a,b,rs,c,d,rfl,nm,m8,l,l1,l8,h⟩;let hl:=nm.len;show{λm ρ'=>∃rs:List At,ρ'=[.sh .bag,.sh (AH ns),.sh (.int g),x,a,b,.own (BO rs),c,d]/\(∀r∈rs,Rm ns r)/\1<=rs.length/\rs.length<=8/\m=8-rs.length,#[_,rs,0,l,l1,l8,0],λm ρ' y=>?_};let[rs,0,l,l1,l8,0]:=y;let lm:(rs.map AH).length=rs.length:=aA _;show{trivial,_,0,Au (λz=>?_) (λz=>{Ik,h rs l8 l})};let z:=aL z;show{λρ2=>∃v:List At,ρ2=[.sh .bag,.sh (AH ns),.sh (.int g),x,a,b,.own (BO v),c,d]/\(∀r∈v,Rm ns r)/\v.length=rs.length+1,λρ2 h2=>?_,?_}
  .let[v,0,u,l2]:=h2;show{8-v.length,⋯,v,0,u,(by simp_all),⋯,0}
  .show{_,0,⋯,⋯,λr r0 r1=>?_};let[n,0]:=Int.eq_ofNat_of_zero_le r0;let hn:n<rs.length:=(by simp_all);let hm:=getElem_mem hn;let a5:=(l _ hm).len;show{_,O9 hn,rs[n],0,⋯,λpart hs=>?_};show{F0 '2',⋯,rs++[part],?_,λr u=>?_,by rw[aG];rfl}
   .rw[PF];rfl
   .let z||z:=bA.mp u
    .show l r z
    .rw[bI.mp z];show(l _ hm).part hs
 .let[_,_,0,_]:=h;rfl
 .let[ns,g,0,nm,n3,m0,m8,h]:=h;show#[0,UQ (k:=4) (xs:=ns.map P.str) (Hj ns) {ns,g,0,nm,n3,λf a b p=>?_}];let h6:=p.hi;let h3:=p.lo;let one:VB {nx:=PD {nx:=λ_=>K .non,rt:=K},rt:=K} [.sh .bag,.sh (AH ns),.sh (.int g),.own (.lst (f.map P.str)),a,b,.own (.lst []),.emp,.emp]:=#[ns,g,f,a,b,_,_,0,p,λrs c' l hl=>{ns,g,_,a,b,rs,_,_,0,nm,m8,l,⋯,⋯,h}];let two:VC {nx:=PD {nx:=λ_=>K .non,rt:=K},rt:=K} [.sh .bag,.sh (AH ns),.sh (.int g),.own (.lst (f.map P.str)),a,b,.own (.lst []),.emp,.emp]:=#[ns,g,f,a,b,_,_,0,p,λrs c' l hl=>{ns,g,_,a,b,rs,_,_,0,nm,m8,l,⋯,⋯,h}];show{0,trivial,_,0,Au (λ_=>#[2,0,'3','3',λr _ _=>#[#[0,0],_,0,Au (λ_=>one) (λ_=>two)]]) (λ_=>CD two)}
def VE:pF:=(λxs K=>∃ns,xs=[.bag,AH ns]/\Nms ns/\∀rs:List At,rs.length<=8->(∀r∈rs,Rm ns r)->K (BO rs))
def VF(ns:At)(E:PEnds):Prop:=(∀rs:List At,rs.length<=8->(∀r∈rs,Rm ns r)->E.rt (BO rs))
def jD:pS:=(λE Y=>∃(ns:At)(way many:Int),Y=[.sh .bag,.sh (AH ns),.sh (.int way),.sh (.int many),.emp,.emp]/\Nms ns/\0<=many/\many<=8/\VF ns E)
def jE:pS:=(λE Y=>∃(ns:At)(way many:Int)(rs:List At),Y=[.sh .bag,.sh (AH ns),.sh (.int way),.sh (.int many),.own (BO rs),.emp]/\rs.length<=8/\(∀r∈rs,Rm ns r)/\VF ns E)
def jF{r}(a:0<=r)(h1:r<9):∃c,atI [P.int a0,.int a1,.int a2,.int a3,.int a4,.int a5,.int a6,.int a7,.int a8] r\(.int c)/\c∈[a0,a1,a2,a3,a4,a5,a6,a7,a8]:=by let[n,0]:=Int.eq_ofNat_of_zero_le a;let h:n=0\/n=1\/n=2\/n=3\/n=4\/n=5\/n=6\/n=7\/n=8:=⋯;rcases h with rfl|rfl|rfl|rfl|rfl|rfl|rfl|rfl|rfl<;>show#[_,0,'2']
def VG{α a}(f:α->a)(l)(lo hi):cut (l.map f) lo hi=(cut l lo hi).map f:=by unfold cut;simp
def jG(l:List α)(h:n<=l.length):cut l (some (n:Int)) none=l.drop n:=by unfold cut;rw[show HT.dA l.length 0 (some n)=n by simp only[HT.dA];lia,show HT.dA l.length l.length none=l.length by simp[HT.dA]];show aZ (by simp)
def jH(l:List α)(h:n<=l.length):cut l none (some (n:Int))=l.take n:=by unfold cut;rw[show HT.dA l.length 0 none=0 by simp[HT.dA],show HT.dA l.length l.length (some (n:Int))=n by simp only[HT.dA];rw[aB (by simp)];simp_all];simp
def jI(D:Ai K mg "_law_rooms" LR)(T:TxtB mg)(v:'E' "_law_pull" 1 ϊ (spP Di))(qY:'E' "_law_part" 2 Ϗ (spP Lm))(ρ:'E' "_law_ears" 3 ώ (spP U8))(σ:'E' "_law_knotted" 3 ώ (spP VA)):'E' "_law_rooms" 4 Ϗ (spP VE):=by
 show BI D F3 (λ_ _ _ _ _ _ us L=>B0 L dG) (λxs K h=>?_) '3' (λfa a9 A outer s H E c=>{_,(Aj (BF (k:=2) (λ_=>F3.nd) (Ae (λ_=>v) (λ_=>c.mq) (AA (qv 0) (AA AV AG)))) (Aj (BF (k:=3) (λ_=>F3.nd) (Av 'J' Ay (Cj (AA AV (AA AV (AA AV (AA AV (AA AV (AA AV (AA AV (AA AV (AA AV AG)))))))))) (Ae (λ_=>v) (λ_=>c.mq) (AA (qv 0) (AA AV AG))) dG)) (BK.weak (m:=jD) (Aj (Cb (BN (λ_=>(EI c)) EJ (qv 2) AV (A0 _)) (Ad (BF (k:=4) (λ_=>F3.nd) (Ae (λ_=>ρ) (λ_=>c.mq) (AA (qv 0) (AA (qv 1) (AA (qv 3) AG)))))) (Ad (Cb (QW.pt (RD (BN (λ_=>(EI c)) EJ (qv 2) AV (A0 _)) (RC (BN (λ_=>Fb) Gf (Aw (λ_=>Bn) Bo 'I' nofun (AA (qv 1) AG)) AV (A0 _))))) (Ad (BF (k:=4) (λ_=>F3.nd) (Ae (λ_=>σ) (λ_=>c.mq) (AA (qv 0) (AA (qv 1) (AA (qv 3) AG)))))) (Ad (RZ (k:=4) (λ_=>F3.nd) (N:=Ϥ) (sc:=AL LR) (qC:=[none,some 0,some 1]) '1' '3' dF (EF (λ_=>T.b_range) (AA (qv 3) AG)) (Bw (k:=0) rfl (λ_=>show List.Nodup (["_law_k","_law_bag_here","_law_names_here"]:At)from nofun)) Bm (Ae (λ_=>qY) (λ_=>c.mq) (AA (qv 1) (AA (qv 2) AG)))))))) (BK.weak (m:=jE) (Aj (BF (k:=5) (λ_=>F3.nd) (Ae (λ_=>v) (λ_=>c.mq) (AA (qv 0) (AA (Aw (λ_=>(Wt rfl)) d0 (λ_=>T.b_max) nofun (AA AV (AA (Aw (λ_=>Bn) Bo 'I' nofun (AA (qv 4) AG)) AG))) AG)))) (Ad (A5 (B2 (λ_=>Hz) IB (KJ dF (qv 4) (KI (qv 5)) KH) (KJ dF (qv 4) KH (KI (qv 5))))))) ?j)) ?o))),λxs K h=>?_})
 case o=>
  rintro E Y⟨ns,d,a,rfl,nm,x,I,g⟩;let L:=nm.len;let lm:(ns.map P.str).length=ns.length:=aA _;show#[#['2','2'],_,0,Au (λ_=>#[ns,a,0,nm,x,I,λrs l c=>{ns,d,a,rs,0,⋯,c,g}]) (λ_=>#[#['2','2'],_,0,Au (λ_=>{trivial,_,0,Au (λz=>#[ns,a,0,nm,by let:=aL z;lia,x,I,λrs l c=>#[ns,d,a,rs,0,l,c,g]]) (λ_=>?_)}) (λ_=>CD ?_)])]
  all_goals show{_,_,0,⋯,⋯,nofun,by rw[C9];lia,?_};rw[O4 x];show A2.rel AH (λ_ p=>p.Sublist ns) (λk _ M hM=>{ns,0,⋯,λpart hp=>hM part _ hp}) (λp=>'2') (λbs O=>?_);let B:=O.length;rw[length_range]at B;show{ns,d,a,bs,0,⋯,λr e=>(by let[_,_,z]:=O.mem r e;show nm.rm z),g}
 case j=>
  rintro E Y⟨ns,d,a,rs,rfl,l8,c,g⟩;let lm:(rs.map AH).length=rs.length:=aA _;show{_,0,by split<;>lia,by split<;>lia,λr u q=>?_};let[n,0]:=Int.eq_ofNat_of_zero_le u;let J:n<=rs.length:=by split at q<;>lia
  let G:cut (rs.map AH) (some (n:Int)) none=(rs.drop n).map AH:=by rw[VG,jG rs J]
  let C:cut (rs.map AH) none (some (n:Int))=(rs.take n).map AH:=by rw[VG,jH rs J]
  let Q:∀(f:Fl)(l:List At),Bj f (l.map AH)=.nw:=λf l=>by unfold Bj;rw[aC (i3 l)]
  show Be rfl #[?_,?_,?_]
  .rw[G,C,aA,aA,length_drop,aO];lia
  .rw[G,C,Q,Q];show Ik
  rw[G,C,<-cO];show g _ (by rw[aG,length_drop,aO];simp_all) λr e=>c r ?_;let z||z:=bA.mp e
  .show mem_of_mem_drop z
  .show mem_of_mem_take z
 .let[_,0,_]:=h;rfl
 .let[ns,0,nm,h]:=h;show#[4,0,'3','3',λd _ _=>Be rfl {0,9,0,'3','3',λr u q=>?_}];let[m,hm,y]:=jF (a0:=3) (a1:=4) (a2:=2) (a3:=5) (a4:=1) (a5:=6) (a6:=0) (a7:=7) (a8:=8) u q;let i:0<=m/\m<=8:=by simp at y;lia
  show#[_,hm,Be rfl #[ns,d,m,0,nm,i.1,i.2,h]]
end
section
variable{K:Fg}
structure TxtC(K:Fg)(mg:Str->C2):Prop extends TxtB mg where
 g_MOST_COUNT:∃t,mg "MOST_COUNT"\(.int 1000000000000 t)x_BadRow:∃C,XCls K mg "BadRow" C
 x_BadCount:∃C,XCls K mg "BadCount" C
 x_NoRoom:∃C,XCls K mg "NoRoom" C
def Ln:Eo:=(λxs K Kx=>∃qI r c,xs=[AH qI,AZ r,.int c]/\r.length<=1000/\(if CM qI.length r=true then(if 1<=c/\c<=1000000000000 then K .non else Kx (.nm "BadCount"))else Kx (.nm "BadRow")))
def jJ(D:Ai K mg "check_papers" Od)(T:TxtC K mg)(f:'E' "is_row" 1 ϳ (spP Ke)):CV P' w K mg base "check_papers" 2 ϥ (Fx K mg Ln):=by
 show T6 D gd (λ_ _ _ _ _ _ us e=>DH e '8') (λxs K Kx h=>?_) '3' (λj i A outer s H E g=>{_,(Aj (Cb (CL (CS (Ae (λ_=>f) (λ_=>g.mq) (AA (qv 0) (AA (qv 1) AG))))) (Ad (UA T.x_BadRow.choose_spec dF dF dF (λ_=>Tq) (AA Ci AG))) C8) (Ad (Cb (CL (RI (λ_=>EV) Fm (λ_=>EV) Fm AV (qv 2) (Hn (λ_=>T.g_MOST_COUNT)))) (Ad (UA T.x_BadCount.choose_spec dF dF dF (λ_=>Tq) (AA Ci AG))) C8))),λxs Kn Kx h=>?_})
 .let[_,_,_,0,_]:=h;rfl
 .let[qI,r,c,0,e,h]:=h;simp![Ke];lia
end
section
variable{K:Fg}
def jK:BQ X (.type "dict") (λxs H Q=>∃p qH,xs=[.ref p]/\H p\(.dK qH)/\∀l,H l=none->Q (.ref l) (AB H l (.dK qH))):=by rintro qA s U H xs us Q I r⟨p,qH,rfl,c,q⟩;let[u,0,a]:=GH r;obtain rfl:u=Value.ref p:=a;show YA I (.of c) λl s' d e=>{.ref l,_,e,0,q l d}
inductive spWith(vs:dH)(H:Hp)(Q:VK)(E:XK):Prop|mk(p qH n r t:_)(c0:vs=[.ref p,.str n,r,t])(c1:H p\(.dK qH))(c2:qH.length<100)(c3:∀q u,H q=none->H u=none->q≠u->Q (.ref q) (AB (AB (AB H q (.dK qH)) u (.tup [r,t])) q (.dK (BZ qH (Aq n) (.ref u)))))
def jL(D:Ai K mg "with_room" Oe)(T:TxtB mg):CV P' w K mg base "with_room" 1 ϸ spWith:=by
 show HB D Uf (λ_ _ _ _ _ _ us d=>JM d (λ_ _ _ _=>rfl)) (λvs H Q E h=>?_) (λm l A outer s H vs Q E f h=>?_)
 .let[_,_,_,_,_,0,_]:=h;rfl
 .let e:=DX f;show{_,Aa (Ap (i:=4) Uf.nd rfl (Or.inl rfl) (Fd jK (by rfl) T.b_dict nofun (AK (pv 0) Ab))) (Aa (Jh e (pv 4) (pv 1) (DU (AK (pv 2) (AK (pv 3) Ab))) rfl) (Ao (B9 (pv 4)))),?_};let[p,qH,n,r,t,0,j,d,h]:=h;show#[_,0,p,qH,0,j,λq g=>{_,0,_,0,(by decide:2<=sizeLine),λu a=>?_}];let c:q≠u:=λz=>by rw[z,AN]at a;cases a
  rw[AE (Ne.symm c)]at a;show{_,0,_,0,q,_,0,.k (k:=Aq n) (by rw[AE c,AN]) (Nat.lt_trans d '3'),_,0,h q u g a c}
end
section
variable{K:Fg}
noncomputable abbrev Ent:=Str×At×Tl
noncomputable abbrev Eu(e:Ent):P:=.tup [.str e.1,AH e.2.1,Ac e.2.2]
noncomputable abbrev C3(e:Ent):P:=.tup [AH e.2.1,Ac e.2.2]
noncomputable abbrev Cp(B:List Ent):P:=.dK (B.map (·.1)) (B.map C3)
structure EntOk(e:Ent):Prop where
 few:e.2.2.length<1000
 nd:(e.2.2.map (·.1)).Nodup
 rows:∀p∈e.2.2,p.1.length=e.2.1.length
 r6:e.2.1.length<=6
def Lo:pF:=(λxs K=>∃qI part,xs=[AH qI,AH part]/\part.length<=100/\(∀n∈part,n∈qI)/\K (.lst ((part.map (dO qI)).map λ(j:Nat)=>.int (j:Int))))
def jM(D:Ai K mg "places" LC)(T:TxtB mg)(e:'E' "within" 1 ϰ (spP HI)):'E' "places" 2 ϯ (spP Lo):=by
 show BI D gX (λ_ _ _ _ _ _ us d=>B0 d dG) (λxs K h=>?_) '3' (λl j A outer s H E f=>{_,(Aj (Cb (CL (CS (Ae (λ_=>e) (λ_=>f.mq) (AA (qv 1) (AA (qv 0) AG))))) (Ad Yy) C8) (Ad (A5 (BR (N:=ϯ) (sc:=AL LC) (qC:=[none,some 0]) '1' '3' dF (ED dF (qv 1)) (Bw (k:=0) rfl (λ_=>show List.Nodup (["name","room"]:At)from nofun)) Bm (Sw (qv 1) (qv 0)))))),λxs K h=>?_})
 .let[_,_,0,_]:=h;rfl
 .let[qI,part,0,d,c,h]:=h;let g:=all_eq_true.mpr λn a=>aK (c n a);simp![HI,g];show{⋯,⋯,A2.map (λn=>.int (dO qI n)) dG (λn a M i=>?_) ?_}
  .simp![A4];show{dO qI n,(G8 (c n a)).1,(G8 (c n a)).2,i _}
  .simp![A4];rw[bZ]at h;show h
def Lq:pF:=(λxs K=>∃(r:By)(js:Ex),xs=[AZ r,.lst (js.map λ(j:Nat)=>.int (j:Int))]/\js.length<=100/\(∀j∈js,j<r.length)/\K (AZ (js.map λ(j:Nat)=>r.getD j 0)))
def jN(D:Ai K mg "picked" LD)(T:TxtB mg):'E' "picked" 1 ϭ (spP Lq):=by
 show BI D gY (λ_ _ _ _ _ _ us c=>B0 c dG) (λxs K h=>?_) '3' (λm i A outer s H E l=>{_,(Ad (A5 (Bv (λ_=>EA) EG (λ_=>T.b_tuple) nofun (AA (BR (N:=ϭ) (sc:=AL LD) (qC:=[none,some 0]) '1' '3' dF (B3 dF (qv 1)) (Bw (k:=0) rfl (λ_=>show List.Nodup (["spot","row"]:At)from nofun)) Bm (Av 'J' Ay (qv 1) (qv 0) dG)) AG)))),λxs K h=>?_})
 .let[_,_,0,_]:=h;rfl
 .let[r,a,0,c,f,h]:=h;simp![A4];show{⋯,A2.map (λj=>.int (r.getD j 0)) dG (λj d M g=>?_) ?_}
  .show{.int (r.getD j 0),Cg ?_,g _};rw[bO,bW,aH (f j d)];rfl
  .simp![A4];let e:AZ (a.map λj=>r.getD j 0)=.tup (a.map λj=>P.int (r.getD j 0)):=by change P.tup ((a.map _).map _)=_;rw[bZ];rfl
   rw[e]at h;show h
def JF:pF:=(λxs K=>∃qI r part,xs=[AH qI,AZ r,AH part]/\part.length<=100/\r.length=qI.length/\(∀n∈part,n∈qI)/\K (AZ (An qI r part)))
def jO(D:Ai K mg "share" OZ)(T:TxtB mg)(g:'E' "places" 2 ϯ (spP Lo))(f:'E' "picked" 1 ϭ (spP Lq)):'E' "share" 3 Ϩ (spP JF):=by
 show BI D gZ (λ_ _ _ _ _ _ us c=>DH c '8') (λxs K h=>?_) '3' (λo m A outer s H E a=>{_,(Ad (A5 (Ae (λ_=>f) (λ_=>a.mq) (AA (qv 1) (AA (Ae (λ_=>g) (λ_=>a.mq) (AA (qv 0) (AA (qv 2) AG))) AG))))),λxs K h=>?_})
 .let[_,_,_,0,_]:=h;rfl
 .let[qI,r,part,0,c,a,d,h]:=h;show{qI,part,0,c,d,r,part.map (dO qI),0,by rw[aA];show c,λj l=>?_,Ik,?_}
  .let[n,i,0]:=bU.mp l;rw[a];show OB (d n i)
  .let e:An qI r part=(part.map (dO qI)).map λ(j:Nat)=>r.getD j 0:=by rw[bZ];rfl
   rw[<-e];show h
end
section
variable{K:Fg}
inductive spY(Kf:Fg)(mg:Str->C2)(f:Eo)(vs:dH)(H:Hp)(Q:VK)(E:XK):Prop|mk(b a:Addr)(Z:Addr->Prop)(xs:dI)(K:P->Prop)(Kx:Xn->Prop)(c0:Bag H b a)(c1:Z b)(c2:(∀p,Z p->H p≠none))(c3:AC b Z H xs vs)(c4:f xs K Kx)(c5:(∀x v H',K x->Step b a H H'->Rp b Z H' x v->Q v H'))(c6:∀n H',Kx n->Step b a H H'->Ep Kf mg E n H')
def Am{x}(d:Z b)(f:Bag H b a)(s:Step b a H H')(r:Rp b Z H x v):Rp b Z H' x v:=r.keep (λp o c e=>{c,s.same p o (λq=>c (q▸d)) e}) λp _ e=>s.same p _ (f.neT e).1 e
def Ev{x}{v}(d:Z b)(f:Bag H b a)(s:Step b a H H')(r:AC b Z H x v):AC b Z H' x v:=r.keep (λp o c e=>{c,s.same p o (λq=>c (q▸d)) e}) λp _ e=>s.same p _ (f.neT e).1 e
def CJ{x}(a:Z b)(r:Rp b Z H x v):Rp b (λp=>p=b) H x v:=r.keep (λp o c e=>{λq=>c (q▸a),e}) λ_ _ e=>e
def jP{b q u}{ys}{us}{n}{j i}{f d}(h:Z b)(w:¬Z q)(c:Bag H b a)(s:ks.length=ys.length)(r:AC b Z H ys us)(y:Rp b Z H j f)(r2:Rp b Z H i d)(g:H q=none)(m:H u=none)(z:q≠u):Step b a H (AB (AB (AB H q (.dK ((ks.map Aq).zip us))) u (.tup [f,d])) q (.dK (BZ ((ks.map Aq).zip us) (Aq n) (.ref u))))/\Rp b Z (AB (AB (AB H q (.dK ((ks.map Aq).zip us))) u (.tup [f,d])) q (.dK (BZ ((ks.map Aq).zip us) (Aq n) (.ref u)))) (.dK (Cm ks n) (DM ks ys n (.tup [j,i]))) (.ref q):=by
 let st:Step b a H (AB (AB (AB H q (.dK ((ks.map Aq).zip us))) u (.tup [f,d])) q (.dK (BZ ((ks.map Aq).zip us) (Aq n) (.ref u)))):={((c.new g).put (c.nb m) (c.na m)).put (c.nb g) (c.na g),λp o _ e=>by rw[AE (Af e g),AE (Af e m),AE (Af e g)];show e}
 show#[st,?_];let[l,B,A]:=KM Gv (k:=n) (Ev h c st r) s (x:=.tup [j,i]) (v:=.ref u) {u,_,0,by rw[AE (Ne.symm z),AN],f,_,0,Am h c st y,d,_,0,Am h c st r2,0};show{q,l,0,w,by rw[AN,B],NW s,A}
noncomputable abbrev VH(q:At)(r:By)(c:Int)(e:Ent):Ent:=(e.1,e.2.1,CN (BH (e.2.2++[(An q r e.2.1,c)])))
def VI:Eo:=(λxs K Kx=>∃q B wd r c,xs=[AH q,Cp B,.tup [.str wd,AZ r,.int c]]/\B.length<=8/\(B.map (·.1)).Nodup/\r.length<=1000/\(if CM q.length r=true then(if 1<=c/\c<=1000000000000 then(∀e∈B,EntOk e/\∀n∈e.2.1,n∈q)/\K (Cp (B.map (VH q r c)))else Kx (.nm "BadCount"))else Kx (.nm "BadRow")))
structure Lp(b a p ch:Addr)(Z:Addr->Prop)(Hf H':Hp)(B':List Ent):Prop where
 bag:Bag H' b a
 same:∀x o,x≠b->x≠ch->Hf x\o->H' x\o
 ex:∃us,H' ch\(.dK (((B'.map (·.1)).map Aq).zip us))/\AC b (λx=>Z x\/x=p\/x=ch) H' (B'.map C3) us
def VJ(r:Rp b Z H (C3 e) v)(g:∀x vs,¬Z x->H x\(.lst vs)->¬Z' x/\H' x\(.lst vs))(d:∀x vs,H x\(.tup vs)->H' x\(.tup vs)):Rp b Z' H' (C3 e) v:=by
 let[t,vs,0,h1,h,_,0,j,m,_,0,[l,a,0,f,h2,i],0]:=r;show{t,_,0,d t _ h1,h,_,0,?_,_,_,0,{l,a,0,(g l a f h2).1,(g l a f h2).2,?_},0}
 .show(Rp.imm (EL _) j).keep (λx o c=>bS trivial c) d
 .show(AC.imm (SW _) i).keep (λx o c=>bS trivial c) d
structure PCt(b a p ch:Addr)(Z:Addr->Prop)(H H4:Hp)(o:Obj)(qH:List (AT×V)):Prop where
 hb:Bag H b a
 zb:Z b
 zh:∀x,Z x->H x≠none
 nb:p≠b
 pch:p≠ch
 chb:ch≠b
 cha:ch≠a
 hp4:H4 p\(.frz o (.dK qH))kp:∀{H5:Hp}{B':List Ent},Lp b a p ch Z H4 H5 B'->∀x o',x≠b->x≠p->H x\o'->H5 x\o'
def jQ{o}{e:Ent}{t':Tl}{I w2 qv rv}{D}(P:PCt b a p ch Z H H4 o qH)(L:Lp b a p ch Z H4 H5 Bt)(s6:Step b a H5 H6)(aa:Rp b (λx=>x=b) H6 (AH q) qv)(a9:Rp b (λx=>x=b) H6 (AZ rw) rv)(O:Rp b (λx=>Z x\/x=p\/x=ch) H6 (AH e.2.1) I)(a7:Rp b (λx=>Z x\/x=p\/x=ch) H6 (Ac e.2.2) w2)(r6:e.2.1.length<=6)(a4:∀n∈e.2.1,n∈q)(hw:rw.length=q.length)(a0:e.1∉Bt.map (·.1))(b8:Bt.length<=8)(C:∀{G}{vs}{Q},Step b a H5 G->AC b (λp=>p=b) G [Ac e.2.2,Ac [(An q rw e.2.1,c)]] vs->(∀J g,¬bad->Step b a G g->Rp b (λx=>G x≠none) g (Ac t') J->Q J g)->sp vs G Q EE)(a2:¬bad->∀H',Lp b a p ch Z H4 H' (Bt++[(e.1,e.2.1,t')])->D.nx [some qv,some (.ref p),some (.ref d),some rv,some (.int c),some (.ref ch),some (.str e.1),some I,some w2] H'):Jg (tVar 5) (tVar 6) (HX (A6 (tVar 7) (A6 (EW sp [] EE (A6 (tVar 8) (A6 (MM (A6 (HX (A6 (EW (spP JF) [] E0 (A6 (tVar 0) (A6 (tVar 3) (A6 (tVar 7) BU)))) (A6 (tVar 4) BU))) BU)) BU))) BU))) D [some qv,some (.ref p),some (.ref d),some rv,some (.int c),some (.ref ch),some (.str e.1),some I,some w2] H6:=by
 let[hb,zb,zh,nb,ρ,E,ag,a3,kp]:=P;show{_,0,_,0,_,0,_,0,_,0,b,a,[AH q,AZ rw,AH e.2.1],λx=>x=AZ (An q rw e.2.1),s6.bag,(Dz aa (Dz a9 (Dz (Rp.imm (EL _) O) K1))),{q,rw,e.2.1,0,⋯,hw,a4,0},λx v H7 hx s7 a8=>?_};subst hx;show#[_,0,(by decide:2<=sizeLine),λw af=>{(by decide:1<=sizeLine),λu2 u=>?_}];let s8:Step b a H7 (AB H7 w (.tup [v,.int c])):=Step.new s7.bag af;let A:Step b a H7 (AB (AB H7 w (.tup [v,.int c])) u2 (.lst [.ref w])):=s8.trans (Step.new s8.bag u);let ac:w≠u2:=λz=>by rw[<-z,AN]at u;cases u
 let h:=s7.trans A;generalize a5:AB (AB H7 w (.tup [v,.int c])) u2 (.lst [.ref w])=G at A h⊢;let ab:Rp b (λx=>x=b) G (Ac [(An q rw e.2.1,c)]) (.ref u2):=by show{u2,_,0,s8.bag.nb u,by rw[<-a5,AN],_,_,0,{w,_,0,by rw[<-a5,AE ac,AN],_,_,0,Rp.imm (CI _) (Am (Z:=λx=>x=b) rfl s7.bag A (Rp.imm (CI _) a8)),_,_,0,0,0},0}
 let zz:∀{H':Hp},Step b a H5 H'->∀x,(Z x\/x=p\/x=ch)->H' x≠none:=λ{H'}s' x z e0=>by
  let j:=s'.free e0;let z||z||z:=z
  .by_cases xb:x=b
   .let[l,hl]:=L.bag.atb;rw[xb,hl]at j;cases j
   .by_cases xp:x=p
    .rw[xp,L.same p _ nb ρ a3]at j;cases j
    .cases hx:H x with
     |none=>show zh x z hx|some o'=>rw[kp L x o' xb xp hx]at j;cases j
  .rw[z,L.same p _ nb ρ a3]at j;cases j
  .let[r,hc,_]:=L.ex;rw[z,hc]at j;cases j
 let a6:=Am (Z:=λx=>Z x\/x=p\/x=ch) (.inl zb) s6.bag h a7;show C (s6.trans h) {_,_,0,a6.keep (λx o' B e=>{λz=>B (.inl (z▸zb)),e}) (λ_ _ e=>e),_,_,0,ab,0} λJ g a1 s rn=>{(by decide:2<=sizeLine),λM ae=>?_};let i:Step b a g (AB g M (.tup [I,J])):=Step.new s.bag ae;let f:=((s6.trans h).trans s).trans i;let[r,hc,T]:=L.ex;let N:(λx=>Z x\/x=p\/x=ch) b:=.inl zb;let σ:Rp b (λx=>Z x\/x=p\/x=ch) (AB g M (.tup [I,J])) (C3 (e.1,e.2.1,t')) (.ref M):=by show{M,_,0,AN,_,_,0,Rp.imm (EL _) (Am N s6.bag (h.trans (s.trans i)) O),_,_,0,?_,0};show(rn.keep (Z':=λx=>Z x\/x=p\/x=ch) (λx o' B e=>{λz=>B (zz (s6.trans h) x z),i.same x o' (λz=>B (by rw[z];let[l,hl]:=h.bag.atb;rw[hl];intro y;cases y)) e}) λx vs e=>i.same x _ (s.bag.neT e).1 e)
 let[us2,e1,e2]:=KM Gv (k:=e.1) (ks:=Bt.map (·.1)) (Ev N L.bag f T) (by rw[aA,aA]) σ;let e1:BZ (((Bt.map (·.1)).map Aq).zip r) (Aq e.1) (.ref M)=(((Bt++[(e.1,e.2.1,t')]).map (·.1)).map Aq).zip us2:=by rw[e1];unfold Cm;rw[aB a0,cO (l₁:=Bt)];rfl
 let e2:AC b (λx=>Z x\/x=p\/x=ch) (AB g M (.tup [I,J])) ((Bt++[(e.1,e.2.1,t')]).map C3) us2:=by unfold DM at e2;rw[aB a0]at e2;rw[cO (l₁:=Bt)];show e2
 show#[_,0,_,0,ch,_,0,.k (k:=Aq e.1) (f.same ch _ E hc) ?_,a2 a1 _ {f.bag.put E ag,λx o' n1 n2 e=>by rw[AE n2];show f.same x o' n1 (L.same x o' n1 n2 e),us2,?_,?_}]
 .let:=T.length;rw[aA]at this;show Nat.lt_of_le_of_lt (m:=r.length) ?_ (aU (by lia:r.length<1000) '3');rw[length_zip];show Nat.min_le_right _ _
 .rw[AN,e1]
 .show e2.keep (λx o' B e=>{B,by rw[AE (λz=>B (.inr (.inr z)))];show e}) λx vs e=>by rw[AE (CC e (f.same ch _ E hc) '5')];show e
def VL{EE E}{bad:Ent->Prop}{t':Ent->Tl}{B:List Ent}{qv rv}{us:dH}{K:P->Prop}{Kx:Xn->Prop}{Q}(am:X.H₀=H)(I:Bag H b a)(T:Z b)(zh:∀x,Z x->H x≠none)(rq:Rp b Z H (AH q) qv)(pb:¬Z p)(A:H p\(.dK (((B.map (·.1)).map Aq).zip us)))(ru:AC b Z H (B.map C3) us)(hd:H d\(.tup [.str wd,rv,.int c]))(rr:Rp b Z H (AZ rw) rv)(B8:B.length<=8)(as:(B.map (·.1)).Nodup)(ag:rw.length<=1000)(h2:if CM q.length rw=true then(if 1<=c/\c<=1000000000000 then(∀e∈B,EntOk e/\∀n∈e.2.1,n∈q)/\F else Kx (.nm "BadCount"))else Kx (.nm "BadRow"))(hK:∀x v H',K x->Step b a H H'->Rp b Z H' x v->Q v H')(hX:∀n H',Kx n->Step b a H H'->Ep Kf mg E n H')(G:F->∀(i)(e),B[i]?\e->EntOk e->(∀(j:Nat)(f),j<i->B[j]?\f->¬bad f)->∀{N}{vs}{R},Bag N b a->(∀H',Step b a N H'->Step b a H (AB H' p (.dK (((B.map (·.1)).map Aq).zip us)))/\∃o,H' p\(.frz o (.dK (((B.map (·.1)).map Aq).zip us))))->AC b (λp=>p=b) N [Ac e.2.2,Ac [(An q rw e.2.1,c)]] vs->(∀vn ρ,¬bad e->Step b a N ρ->Rp b (λx=>N x≠none) ρ (Ac (t' e)) vn->R vn ρ)->sp vs N R EE)(hF:F->(∀e∈B,¬bad e)->K (Cp (B.map λe=>(e.1,e.2.1,t' e)))):GA (ET (MO Mp (tVar 2) (P9 (tC (V.int 1))) P8) (gTup G1 2 (gCons (Bq 3) (gCons (Bq 4) E4)))) (GA (JP (EW (Fx Kf mg Ln) [] E (A6 (tVar 0) (A6 (tVar 3) (A6 (tVar 4) BU))))) (GA (ET Qc (Bq 5)) (GA (λD U H'=>∃p qH,UY X p qH (Pk (UW (tVar 1)) (gTup G2 2 (gCons (Bq 6) (gCons (gTup G3 2 (gCons (Bq 7) (gCons (Bq 8) E4))) E4))) (Jg (tVar 5) (tVar 6) (HX (A6 (tVar 7) (A6 (EW sp [] EE (A6 (tVar 8) (A6 (MM (A6 (HX (A6 (EW (spP JF) [] E0 (A6 (tVar 0) (A6 (tVar 3) (A6 (tVar 7) BU)))) (A6 (tVar 4) BU))) BU)) BU))) BU))))) D U H') (Pb (tVar 5))))) {nx:=λ_ H'=>Q .non H',rt:=Q} [some qv,some (.ref p),some (.ref d),none,none,none,none,none,none] H:=by
 let nb:p≠b:=λe=>pb (e▸T);let h0:∀o u,H p≠some (.frz o u):=λo u e=>by rw[A]at e;cases e
 show#[_,0,_,0,d,_,0,hd,λz=>bS z.1 (by change¬HT.dA 3 0 (some 1)=0;decide),λ_ p1 aj=>{p1,[rv,.int c],0,.of AN,0,_,_,0,_,_,0,0,?_}];let s1:Step b a H (AB H p1 (.tup [rv,.int c])):=Step.new I aj;show{_,0,_,0,_,0,b,a,[AH q,AZ rw,.int c],λ_=>CM q.length rw=true/\1<=c/\c<=1000000000000,Kx,s1.bag,(Dz (CJ T<|Am T I s1 rq) (Dz (CJ T<|Am T I s1 rr) (Dz rfl K1))),#[q,rw,c,0,ag,?_],λ_ _ H2 hk a5 _ ch w=>?_,λm H2 hm M=>hX m H2 hm (s1.trans M)}
 .show Au (λz=>?_) (λz=>?_)
  .rw[aC z]at h2;show Au (λz2=>#[z,z2]) (λz2=>?_);rw[aB z2]at h2;show h2
  .rw[aB z]at h2;show h2
 rw[aC hk.1,aC hk.2]at h2;let[eo,h2]:=h2;let M:=s1.trans a5;let hw:rw.length=q.length:=by let:=hk.1;unfold CM at this;rw[cB]at this;show aL this.1
 let s3:Step b a H (AB H2 ch (.dK [])):=M.trans (Step.new M.bag w);let a1:=s3.same p _ nb A;let r:p≠ch:=Af (M.same p _ nb A) w;let pa:p≠a:=λe=>by let[l,hl]:=I.ata;rw[e,hl]at A;cases A
 show#[p,_,a1,am▸h0,λo=>{_,0,p,o,_,0,AN,λvw s=>?_}];let ul:=ru.length;rw[aA]at ul;let kl:(((B.map (·.1)).map Aq).zip us).length=B.length:=by rw[length_zip,aA,aA];simp_all
 generalize aq:((B.map (·.1)).map Aq).zip us=qH at A a1 kl s h0 G⊢;let au:ch≠vw:=λe=>by rw[<-e,AE (Ne.symm r),AN]at s;cases s
 let ae:p≠vw:=λe=>by rw[<-e,AN]at s;cases s
 let h4:∀x o',x≠p->AB H2 ch (.dK []) x\o'->AB (AB (AB H2 ch (.dK [])) p (.frz o (.dK qH))) vw (Cn vw p) x\o':=λx o' n e=>by
  let g:AB (AB H2 ch (.dK [])) p (.frz o (.dK qH)) x\o':=by rw[AE n];show e
  rw[AE (Af g s)];show g
 let b4:Bag (AB (AB (AB H2 ch (.dK [])) p (.frz o (.dK qH))) vw (Cn vw p)) b a:=(s3.bag.put nb pa).new s;let start:Lp b a p ch Z (AB (AB (AB H2 ch (.dK [])) p (.frz o (.dK qH))) vw (Cn vw p)) (AB (AB (AB H2 ch (.dK [])) p (.frz o (.dK qH))) vw (Cn vw p)) []:={b4,λ_ _ _ _ e=>e,[],h4 ch _ (Ne.symm r) AN,0};generalize ar:AB (AB (AB H2 ch (.dK [])) p (.frz o (.dK qH))) vw (Cn vw p)=H4 at h4 b4 start⊢;let C:H4 p\(.frz o (.dK qH)):=by rw[<-ar,AE ae,AN]
 let σ:∀{J:Hp}{B'},Lp b a p ch Z H4 J B'->∀x o',x≠b->x≠p->H x\o'->J x\o':=λ{J B'}L x o' n1 n2 e=>L.same x o' n1 (Af (M.same x o' n1 e) w) (h4 x o' n2 (s3.same x o' n1 e));show gG (λi U H'=>(∃x6 x7 x8:Option V,U=[some qv,some (.ref p),some (.ref d),some rv,some (.int c),some (.ref ch),x6,x7,x8])/\Lp b a p ch Z H4 H' ((B.take i).map (λe=>(e.1,e.2.1,t' e)))/\∀(j:Nat)(f:Ent),j<i->B[j]?\f->¬bad f) #[#[_,_,_,0],start,λj f z=>bS z (Nat.not_lt_zero j)] (λi U H' hI=>hI.2.1.same p _ nb r C) (λi pr U J qn a0 hI ah=>?_) (λU J hI=>?_)
 .done<;>let[[x6,x7,x8,0],L,y]:=hI;let hi:i<B.length:=by rw[<-kl];show(aI.mp a0).1
  let hB:B[i]?\B[i]:=aH hi;let[v,hv,a9]:=ru.get (i:=i) (x:=C3 B[i]) (by rw[bO,hB];rfl);let ao:pr=(Aq B[i].1,v):=by
   let z:(((B.map (·.1)).map Aq).zip us)[i]?\(Aq B[i].1,v):=by rw[getElem?_zip_eq_some];show{by rw[bO,bO,hB];rfl,hv}
   rw[aq,a0]at z;show oI z
  subst ao;let[a3,a2]:=eo B[i] (getElem_mem hi);let ap:B[i].1∉(B.take i).map (·.1):=λz=>by let[j,hj,O]:=mem_iff_getElem.mp z;rw[aA,aO]at hj;rw[getElem_map,getElem_take]at O;let ak:j<B.length:=⋯;let:=(getElem_inj as (i:=j) (j:=i) (h₀:=by rw[aA];show ak) (h₁:=by rw[aA];show hi)).mp (by rw[getElem_map,getElem_map];show O);lia
  let an:B.take (i+1)=B.take i++[B[i]]:=by rw[take_add_one,hB];rfl
  rw[an,cO];generalize B[i]=e at*;let s6:Step b a J (AB J qn (.tup [.str e.1,v])):=Step.new L.bag ah;let a8:Rp b (λx=>Z x\/x=p\/x=ch) (AB J qn (.tup [.str e.1,v])) (C3 e) v:=VJ a9 (λx vs zx g=>by let xb:x≠b:=λz=>zx (z▸T);let xp:x≠p:=CC g A '5';show{λz=>z.elim zx λz=>z.elim xp (Af (M.same x _ xb g) w),s6.same x _ xb (σ L x _ xb xp g)}) λx vs g=>s6.same x _ (I.neT g).1 (σ L x _ (I.neT g).1 (CC g A '5') g)
  done<;>let[pz,_,0,ai,w1,_,0,a7,w2,_,0,a6,0]:=a8;show{qn,[.str e.1,.ref pz],0,.of AN,0,_,_,0,_,_,0,pz,[w1,w2],0,.of ai,0,_,_,0,_,_,0,0,0,?_};let ac:Rp b (λx=>x=b) (AB J qn (.tup [.str e.1,.ref pz])) (AH q) qv:=(Rp.imm (Z':=λ_=>True) (EL _) rq).keep (λx o' hz=>bS trivial hz) (λx vs g=>s6.same x _ (I.neT g).1 (σ L x _ (I.neT g).1 (CC g A '5') g));let ab:Rp b (λx=>x=b) (AB J qn (.tup [.str e.1,.ref pz])) (AZ rw) rv:=(Rp.imm (Z':=λ_=>True) (CI _) rr).keep (λx o' hz=>bS trivial hz) (λx vs g=>s6.same x _ (I.neT g).1 (σ L x _ (I.neT g).1 (CC g A '5') g));let P:PCt b a p ch Z H H4 o qH:={I,T,zh,nb,r,M.bag.nb w,M.bag.na w,C,σ};let ll:((B.take i).map (λe=>(e.1,e.2.1,t' e))).map (·.1)=(B.take i).map (·.1):=by rw[bZ];rfl
  let lt:(B.take i).length<=8:=by rw[aO];lia
  let al:∀{N H':Hp},Step b a J N->Step b a N H'->Step b a H (AB H' p (.dK qH))/\∃o,H' p\(.frz o (.dK qH)):=λ{N H'}s9 s'=>#[{s'.bag.put nb pa,λx o' n e=>by
   by_cases z:x=p
   .rw[z,AN,<-e,z,A]
   .rw[AE z];show(s9.trans s').same x o' n (σ L x o' n z e)},o,(s9.trans s').same p _ nb (L.same p _ nb r C)]
  show jQ (bad:=bad e) (t':=t' e) P L s6 ac ab a7 a6 a3.r6 a2 hw (by rw[ll];show ap) (by rw[aA];show lt) (λs9 r9 kq=>G h2 i e hB a3 y s9.bag (λH' s'=>al s9 s') r9 kq) (λaf H' L'=>#[#[_,_,_,0],L',λj f z O=>?_]);let z2||z2:=cE j i
  .show y j f z2 O
  .let:j=i:=⋯;rw[this,hB]at O;cases O;show af
 .let[[x6,x7,x8,0],L,y]:=hI;rw[kl,aZ (aQ _)]at L;let[a4,hc,aa]:=L.ex;show#[L.same p _ nb r C,_,0,hK _ _ _ (hF h2 λe he=>?_) {L.bag.put nb pa,λx o' n e=>?_} {ch,a4,0,λz=>?_,?_,?_,?_}]
  .let[j,hj,O]:=mem_iff_getElem.mp he;show y j e (by rw[kl];show hj) (by rw[<-O];show aH hj)
  .by_cases z:x=p
   .rw[z,AN,<-e,z,A]
   .rw[AE z];show σ L x o' n z e
  .show zh ch z (M.free w)
  .rw[AE (Ne.symm r)];show hc
  .rw[aA,aA,aA,aA]
  .show aa.keep (λx o' hz e=>{λz=>hz (.inl z),?_}) λx vs e=>?_
   .rw[AE (λz=>hz (.inr (.inl z)))];show e
   .rw[AE (CC e (L.same p _ nb r C) '5')];show e
end
section
variable{K:Fg}
def jR(D:Ai K mg "entered" Og)(T:TxtC K mg)(Gc:CV P' w K mg base "check_papers" 2 ϥ (Fx K mg Ln))(Gp:'E' "plus" 2 ϓ (spP U0))(Gs:'E' "share" 3 Ϩ (spP JF)):CV P' w K mg base "entered" 4 ϔ (spY K mg VI):=by
 show HB D Uh (λ_ _ _ _ _ _ us hl=>DH hl '8') (λvs H Q E h=>?_) (λfa a0 A outer s H vs Q E j h=>?_)
 .let[_,_,_,_,_,_,_,_,_,r,[_,_,_,_,_,0,_],_]:=h;show r.length.symm
 .let f:=Uh.nd;let σ:=DX j;show{_,Aa (GB (E8 Jt (pv 2) (E7 Ah) E6) (DI rfl (Al (Ag (i:=3) f rfl (Or.inl rfl)) (Al (Ag (i:=4) f rfl (Or.inl rfl)) Br))))
   (Aa (ES (Ih Gc Ig (j.mq) (by rfl) (AK (pv 0) (AK (pv 3) (AK (pv 4) Ab)))))
   (Aa (Ap (i:=5) f rfl (Or.inl rfl) MZ)
   (Aa (K4 (EU PassesOwn.leaving rfl (UX (pv 1)) (DI rfl (Al (Ag (i:=6) f rfl (Or.inl rfl)) (Al (DI rfl (Al (Ag (i:=7) f rfl (Or.inl rfl)) (Al (Ag (i:=8) f rfl (Or.inl rfl)) Br))) Br)))
    (Ao (Jh σ (pv 5) (pv 6) (DU (AK (pv 7) (AK (CF Gp (j.mq) (by rfl) (AK (pv 8) (AK (D7 (AK (DU (AK (CF Gs j (by rfl) (AK (pv 0) (AK (pv 3) (AK (pv 7) Ab)))) (AK (pv 4) Ab))) Ab)) Ab))) Ab))) rfl))))
   (Ao (B9 (pv 5)))))),?_}
  done<;>(let[b,a,Z,xs,K,Kx,hb,y,zh,r,[q,B,wd,rw,c,0,B8,o,n,h2],hK,hX]:=h;let[qv,_,0,J,v1,_,0,[p,us,0,pb,ρ,v,G],v2,_,0,[d,ds,0,hd,M],0]:=r;let[_,_,0,0,rv,_,0,I,_,_,0,0,0]:=M);show VL (bad:=λ_=>False) (t':=λe=>CN (BH (e.2.2++[(An q rw e.2.1,c)]))) rfl hb y zh J pb ρ G hd I B8 o n h2 hK hX (λ_ i e _ g _{H9 _ _}b9 _ N O=>{b,a,_,λx=>x=Ac (CN (BH (e.2.2++[(An q rw e.2.1,c)]))),b9,N,{e.2.2,[(An q rw e.2.1,c)],0,g.few,{e.2.1.length,λx m=>?_},0},λx C u m l L=>O C u id l (m▸L)}) (λh _=>h);let z||z:=bA.mp m
  .show g.rows x z
  .rw[bI.mp z];show Ib q rw e.2.1
end
section
variable{K:Fg}
noncomputable abbrev D1(q:At)(r:By)(c:Int)(e:Ent):Prop:=(AY e.2.2 (An q r e.2.1)).getD 0-c<0
noncomputable abbrev VM(q:At)(r:By)(c:Int)(e:Ent):Ent:=(e.1,e.2.1,CN (BH (D0 e.2.2 (An q r e.2.1,c))))
def VN:Eo:=(λxs K Kx=>∃q B wd r c,xs=[AH q,Cp B,.tup [.str wd,AZ r,.int c]]/\B.length<=8/\(B.map (·.1)).Nodup/\r.length<=1000/\(if CM q.length r=true then(if 1<=c/\c<=1000000000000 then(∀e∈B,EntOk e/\∀n∈e.2.1,n∈q)/\((∀e∈B,¬D1 q r c e)->K (Cp (B.map (VM q r c))))/\(∀(i:Nat)(e:Ent),B[i]?\e->(∀(j:Nat)(f:Ent),j<i->B[j]?\f->¬D1 q r c f)->D1 q r c e->Kx (.vl "TooFew" "row" (AZ (An q r e.2.1))))else Kx (.nm "BadCount"))else Kx (.nm "BadRow")))
def jS(D:Ai K mg "withdrawn" Oh)(T:TxtC K mg)(Gc:CV P' w K mg base "check_papers" 2 ϥ (Fx K mg Ln))(Gp:CV P' w K mg base "less" 3 ϓ (Fx K mg U1))(Gs:'E' "share" 3 Ϩ (spP JF)):CV P' w K mg base "withdrawn" 4 ϔ (spY K mg VN):=by
 show HB D Ui (λ_ _ _ _ _ _ us hl=>DH hl '8') (λvs H Q E h=>?_) (λfa a6 A outer s H vs Q E ρ h=>?_)
 .let[_,_,_,_,_,_,_,_,_,r,[_,_,_,_,_,0,_],_]:=h;show r.length.symm
 .let J:=Ui.nd;let hu:=DX ρ;done<;>(let[b,a,Z,xs,KK,Kx,hb,zb,zh,r,[q,B,wd,rw,c,0,B8,a4,a2,h2],hK,hX]:=h;let[qv,_,0,rq,v1,_,0,[p,us,0,pb,hp,a5,ru],v2,_,0,[d,ds,0,hd,rd],0]:=r);let h0:∀o u,H p≠some (.frz o u):=λo u e=>by rw[hp]at e;cases e
  show{_,Aa (GB (E8 Jt (pv 2) (E7 Ah) E6) (DI rfl (Al (Ag (i:=3) J rfl (Or.inl rfl)) (Al (Ag (i:=4) J rfl (Or.inl rfl)) Br))))
   (Aa (ES (Ih Gc Ig (ρ.mq) (by rfl) (AK (pv 0) (AK (pv 3) (AK (pv 4) Ab)))))
   (Aa (Ap (i:=5) J rfl (Or.inl rfl) MZ)
   (Aa (K4 (EU PassesOwn.leaving rfl (UX (pv 1)) (DI rfl (Al (Ag (i:=6) J rfl (Or.inl rfl)) (Al (DI rfl (Al (Ag (i:=7) J rfl (Or.inl rfl)) (Al (Ag (i:=8) J rfl (Or.inl rfl)) Br))) Br)))
    (Ao (Jh hu (pv 5) (pv 6) (DU (AK (pv 7) (AK (Ih (E:=λa3 d H'=>∃o,H' p\(.frz o (.dK (((B.map (·.1)).map Aq).zip us)))/\E a3 d (AB H' p (.dK (((B.map (·.1)).map Aq).zip us)))) Gp (gH h0) ρ (by rfl) (AK (pv 8) (AK (D7 (AK (DU (AK (CF Gs ρ (by rfl) (AK (pv 0) (AK (pv 3) (AK (pv 7) Ab)))) (AK (pv 4) Ab))) Ab)) Ab))) Ab))) rfl))))
   (Ao (B9 (pv 5)))))),?_}
  done<;>let[_,_,0,0,rv,_,0,rr,_,_,0,0,0]:=rd;show VL (bad:=D1 q rw c) (t':=λe=>CN (BH (D0 e.2.2 (An q rw e.2.1,c)))) rfl hb zb zh rq pb hp ru hd rr B8 a4 a2 h2 hK hX (λh i e hB I N{H9 _ _}b9 a0 r9 kq=>{b,a,_,λx=>¬D1 q rw c e/\x=Ac (CN (BH (D0 e.2.2 (An q rw e.2.1,c)))),Kx,b9,r9,{e.2.2,[(An q rw e.2.1,c)],0,{I.few,I.nd,e.2.1.length,I.rows,λx σ=>?_},λt2 j=>?_,λr2 j=>?_},λx vn O σ G rn=>kq vn O σ.1 G (σ.2▸rn),λm O hm G=>?_}) (λh=>h.1)
  .rw[bI.mp σ];show Ib q rw e.2.1
  .replace j:(if D1 q rw c e then Sum.inl (An q rw e.2.1)else .inr (D0 e.2.2 (An q rw e.2.1,c)))=.inr t2:=j
   by_cases l:D1 q rw c e
   .rw[aC l]at j;cases j
   .rw[aB l]at j;cases j;show#[l,0]
  .replace j:(if D1 q rw c e then Sum.inl (An q rw e.2.1)else .inr (D0 e.2.2 (An q rw e.2.1,c)))=.inl r2:=j
   by_cases l:D1 q rw c e
   .rw[aC l]at j;cases j;show h.2 i e hB N l
   .rw[aB l]at j;cases j
  .let[a1,o,g]:=a0 _ G;let L:=hX m _ hm a1;cases m with
   |nm n=>showλC xc=>{o,g,L C xc}|vl n f y=>showλC dx v xc dr M rv=>{o,g,L C dx v xc dr (by rw[AE (CC M g '5')];show M) λb' Z'=>((rv b' (λ_=>True)).keep (λx o' hz=>bS trivial hz) λx vs e=>by rw[AE (CC e g '5')];show e)}
end
section
variable{K:Fg}
def jT[DecidableEq κ]{ks:List κ}(h:k∉ks):CA ks xs k=none:=by induction ks generalizing xs with|nil=>rfl|cons a ks c=>cases xs with|nil=>rfl|cons x xs=>simp only[CA];rw[aB (λe=>h (by rw[e];show cA)),c λz=>h (bT _ z)]
structure TxtS8(K:Fg)(mg:Str->C2):Prop extends TxtC K mg where g_MOST_ROOMS:∃t,mg "MOST_ROOMS"\(.int 8 t)
structure StOk(q ks:At)(n:Str)(qI:At)(t:Tl):Prop where
 nm:C0 n
 nw:n∉ks
 few:ks.length<8
 r6:qI.length<=6
 r0:qI≠[]rg:∀x∈qI,C0 x
 rs:qI.Pairwise (λa b=>a.cps.toList<b.cps.toList)rq:∀x∈qI,x∈q
 tal:G0 qI.length t=true
 tl:t.length<=1000
 tc:∀p∈t,p.2<=1000000000000
def StOk.rows{n}(s:StOk q ks n qI t):∀p∈t,p.1.length=qI.length:=λp hp=>by let h:=s.tal;unfold G0 CM at h;rw[cB,all_eq_true]at h;let:=h.1 p hp;rw[cB,cB]at this;show aL this.1.1
def VO:Eo:=(λxs K Kx=>∃q ks ys n qI t,xs=[AH q,.dK ks ys,.tup [.str "start",.str n,AH qI,Ac t]]/\StOk q ks n qI t/\K (.dK (Cm ks n) (DM ks ys n (.tup [AH qI,Ac t]))))
def jU(D:Ai K mg "started" LJ)(T:TxtS8 K mg)(qW:'E' "is_name" 1 ["text"] (spP Lk))(zK:'E' "is_room" 2 ["names"] (spP Ll))(zH:'E' "within" 1 ϰ (spP HI))(zL:'E' "is_tally" 2 ϖ (spP O8))(Gw:CV P' w K mg base "with_room" 1 ϸ spWith):CV P' w K mg base "started" 4 ϔ (spY K mg VO):=by
 show HB D Ug (λ_ _ _ _ _ _ us hl=>DH hl '8') (λvs H Q E h=>?_) (λfa a4 A outer s H vs Q E B h=>?_)
 .let[_,_,_,_,_,_,_,_,_,r,[_,_,_,_,_,_,0,_],_]:=h;show r.length.symm
 .let nd:=Ug.nd;let hu:=DX B;show{_,Aa (GB (E8 Jt (pv 2) (E7 Ah) E6) (DI rfl (Al (Ag (i:=3) nd rfl (Or.inl rfl)) (Al (Ag (i:=4) nd rfl (Or.inl rfl)) (Al (Ag (i:=5) nd rfl (Or.inl rfl)) Br)))))
   (Aa (BY (Dh (CL (CS (Ae (λ_=>qW) (λ_=>B.mq) (AA (qv 3) AG))))) CY BX)
   (Aa (BY (Pa (X2 hu (pv 3) (pv 1))) CY BX)
   (Aa (BY (Dh (QW.pt (FH (CL (CS (Ae (λ_=>zK) (λ_=>B.mq) (AA (qv 4) AG)))) (FH (BN (λ_=>(EI B)) EJ (Aw (λ_=>Bn) Bo 'I' nofun (AA (qv 4) AG)) AV (A0 _)) (GU (CL (CS (Ae (λ_=>zH) (λ_=>B.mq) (AA (qv 4) (AA (qv 0) AG)))))))))) CY BX)
   (Aa (BY (Dh (QW.pt (FH (CL (CS (Ae (λ_=>zL) (λ_=>B.mq) (AA (qv 4) (AA (qv 5) AG))))) (GU (CS (Aw (λ_=>(ff rfl)) fg (λ_=>T.b_any) nofun (AA (BR (N:=["questions","opened","deed","name","room","rows"]) (sc:=AL LJ) (N':=Ϯ) (qC:=[none,none]) '1' '3' dF (B3 dF (qv 5)) (FK (i:=0) (j:=1) rfl rfl dF dF (λ_=>(Al (Ag (i:=0) (show List.Nodup (Ϯ:At)from nofun) rfl (Or.inl rfl)) (Al (Ag (i:=1) (show List.Nodup (Ϯ:At)from nofun) rfl (Or.inl rfl)) Br)))) Bm (FF (λ_=>Fb) Gf (qv 1) (Hn (λ_=>T.g_MOST_COUNT)) (A0 _))) AG))))))) CY BX)
   (Aa (BY (Dl Po (E5 YH (by rfl) T.b_len nofun (AK (pv 1) Ab)) (PZ (v:=.int 8) (by rfl) T.g_MOST_ROOMS.choose_spec #[_,0] nofun) (A0 _)) CY BX)
   (Ao (B9 (Ih Gw Ig (B.mq) (by rfl) (AK (pv 1) (AK (pv 3) (AK (pv 4) (AK (pv 5) Ab)))))))))))),?_}
  done<;>(let[b,a,Z,xs,K,Kx,G,m,zh,r,[q,ks,ys,n,qI,t,0,l,h2],hK,hX]:=h;let[v0,_,0,rq,v1,_,0,[p,us,0,pb,C,y,ru],v2,_,0,[d,ds,0,hd,rd],0]:=r;let nb:p≠b:=λe=>pb (e▸m);let[_,_,0,0,_,_,0,0,rv,_,0,rr,tv,_,0,rt,0]:=rd);show#[_,0,_,0,d,_,0,hd,λz=>bS z.1 (by change¬HT.dA 4 0 (some 1)=0;decide),λ_ p1 a3=>{p1,[.str n,rv,tv],0,.of AN,0,_,_,0,_,_,0,_,_,0,0,?_}];let I:Step b a H (AB H p1 (.tup [.str n,rv,tv])):=Step.new G a3;let sl:Bf b (AB H p1 (.tup [.str n,rv,tv])) [.sh (AH q),.emp,.emp,.sh (.str n),.sh (AH qI),.sh (Ac t)] [some v0,some (.ref p),some (.ref d),some (.str n),some rv,some tv]:=(A9 (CJ m (Am m G I rq)) (AS (AS (A9 rfl (A9 (CJ m (Am m G I rr)) (A9 (CJ m (Am m G I rt)) Co))))));show{b,a,_,λc=>c=false,I.bag,sl,#[n,0,l.nm,_,0,0],λc H2 σ ρ=>?_};subst σ;let L:=I.trans ρ;let J:=sl.st I.bag ρ;let g:=(Gq Gv (k:=n) ru y).2 (jT l.nw);show CD {_,0,_,0,p,_,0,.k (k:=Aq n) (L.same p _ nb C),_,0,?_};rw[g];show CD {b,a,_,λc=>c=false,ρ.bag,J,#[qI,0,l.r6,l.rg,l.rs,_,0,CD #[#['2','2'],_,0,Au (λz=>?_) (λ_=>{qI,q,0,by let:=l.r6;lia,_,0,?_})]],λc H3 σ s3=>?_}
  .rw[Gy]at z;let:=aL z;rw[aA]at this;show bS (length_eq_zero_iff.mp (by simp_all)) l.r0
  .rw[all_eq_true.mpr λx hx=>aK (l.rq x hx)];rfl
  subst σ;let a1:=L.trans s3;let a0:=J.st ρ.bag s3;show CD {b,a,_,λc=>c=false,s3.bag,a0,{qI,t,0,by let:=l.tl;lia,λp C=>by rw[l.rows p C];let:=l.r6;lia,_,0,Au (λz=>?_) (λ_=>#[_,0,nofun,by rw[aA];let:=l.tl;lia,A2.map (λp=>.bl (decide (1000000000000<p.2))) dG (λp C M hM=>Ij {trivial,hM _}) {t.map λp=>decide (1000000000000<p.2),by rw[bZ];rfl,_,0,?_}])},λc H4 σ s4=>?_}
  .rw[l.tal]at z;cases z
  .rw[any_map];change List.any t _=false;rw[any_eq_false];intro p C;let:=l.tc p C;simp only[Function.comp,id];showλz=>by let:=aL z;lia
  subst σ;let f:=a1.trans s4;let O:=f.same p _ nb C;show CD {_,0,p,_,0,O,_,_,0,0,_,0,Au (λz=>?_) (λ_=>?_)}
  .let:=aL z;rw[length_zip,aA]at this;let:=l.few;lia
  show{_,0,_,0,_,0,_,0,p,_,n,_,_,0,O,?_,λq1 u3 u a2 ne=>?_}
  .rw[length_zip,aA];let:=l.few;lia
  .let zq:¬Z q1:=λz=>by cases e:H q1 with|none=>show zh q1 z e|some o=>
     by_cases eb:q1=b
     .show f.bag.nb u eb
     .rw[f.same q1 o eb e]at u;cases u
   let pt:=jP (n:=n) m zq f.bag y (Ev m G f ru) (Am m G f rr) (Am m G f rt) u a2 ne;show hK _ _ _ h2 (f.trans pt.1) pt.2
def VP:Sp:=(λvs H Q _=>(∃d w qE,vs=[.ref d]/\H d\(.tup (.str w::qE))/\w≠"start"/\Q (.ref d) H)\/∃d n r l us,vs=[.ref d]/\H d\(.tup [.str "start",n,r,.ref l])/\H l\(.lst us)/\∀l' t',H l'=none->H t'=none->l'≠t'->Q (.ref t') (AB (AB H l' (.lst us)) t' (.tup [.str "start",n,r,.ref l'])))
def jV(D:Ai K mg "own_deed" Oi)(T:TxtB mg):CV P' w K mg base "own_deed" 1 ["deed"] VP:=by
 show HB D Iw (λ_ _ _ _ _ _ us f=>Cd f dF) (λvs H Q E h=>?_) (λu p A outer s H vs Q E o h=>?_)
 .let[_,_,_,0,_]||[_,_,_,_,_,0,_]:=h<;>rfl
 .let q:=DX o;show{_,(Aa (BY (Dl Pn (B1 Hd (pv 0) Ah dG) CP (A0 _))
 (Aa (GB (pv 0) (DI rfl (Al (Ag (i:=1) Iw.nd rfl (Or.inl rfl)) (Al (Ag (i:=2) Iw.nd rfl (Or.inl rfl)) (Al (Ag (i:=3) Iw.nd rfl (Or.inl rfl)) (Al (Ag (i:=4) Iw.nd rfl (Or.inl rfl)) Br))))))
 (Ao (B9 (DU (AK (pv 1) (AK (pv 2) (AK (pv 3) (AK (Fd GO (by rfl) T.b_list nofun (AK (pv 4) Ab)) Ab))))))))
 BX)
 (Ao (B9 (pv 0)))),?_}
  done<;>let[d,wd,qE,0,c,m,h]||[d,n,r,l,us,0,c,f,h]:=h
  .show{_,0,d,(0),_,0,0,c,.str wd,(show atI (V.str wd::qE) ((0:Nat):Int)\(V.str wd)from Cg rfl),0,_,0,Au (λz=>bS (V.str.inj (aL z)) m) (λz=>#[_,0,h])}
  .show{_,0,d,(0),_,0,0,c,_,0,0,_,0,Au (λz=>?_) (λz=>bS (aK rfl) z)};show#[_,0,d,_,0,.of c,0,_,_,0,_,_,0,_,_,0,_,_,0,0,_,0,_,0,_,0,_,0,l,us,0,.inl f,λj e=>{(by decide:4<=sizeLine),λt' a=>?_}];let g:j≠t':=λz=>by rw[<-z,AN]at a;cases a
   rw[AE (Ne.symm g)]at a;show h j t' e a g
inductive spOwnY(vs:dH)(H:Hp)(Q:VK)(E:XK):Prop|mk(b a:Addr)(Z:Addr->Prop)(wd:Str)(qE:dI)(v:V)(c0:vs=[v])(c1:Bag H b a)(c2:Z b)(c3:(∀p,Z p->H p≠none))(c4:Rp b Z H (.tup (.str wd::qE)) v)(c5:(wd="start"->∃n r us,qE=[n,r,.lst us]))(c6:∀v' H',Step b a H H'->Rp b Z H' (.tup (.str wd::qE)) v'->Q v' H')
def jW(G:CV P' w K mg base "own_deed" 1 ["deed"] VP):CV P' w K mg base "own_deed" 1 ["deed"] spOwnY:=by
 let[f,fd,F,r]:=G;show{f,fd,F.imp λvs H Q E h=>?_,r};let[b,a,Z,wd,qE,v,0,i,o,zh,[d,ds,0,s,m],I,k]:=h;let[_,ds,0,0,m]:=m;by_cases e:wd="start"
 .subst e;done<;>(let[n,r,us,0]:=I rfl;let[x,_,0,D,u,_,0,C,M,_,0,[l,vs,0,L,J,B],0]:=m);show .inr {d,x,u,l,vs,0,s,J,λc t' g q A=>?_};let y:Step b a H (AB H c (.lst vs)):=Step.new i g;let p:AB H c (.lst vs) t'=none:=by rw[AE (Ne.symm A)];show q
  let j:Step b a H (AB _ t' (.tup [.str "start",x,u,.ref c])):=y.trans (Step.new y.bag p);show k _ _ j {t',_,0,AN,_,_,0,0,_,_,0,Am o i j D,_,_,0,Am o i j C,_,_,0,{c,vs,0,λz=>zh c z g,?_,Ev o i j B},0};rw[AE A,AN]
 .show .inl #[d,wd,ds,0,s,e,k _ _ (Step.refl i) #[d,_,0,s,_,_,0,0,m]]
end
section
variable{K:Fg}
def F6(av ov uv:V)(pp:Addr):List (Str×V):=([("asked",av),("opened",ov),("past",.ref pp),("undone",uv)])
def ZH(b pp h k:Addr):Addr->Prop:=(λp=>p=b\/p=pp\/p=h\/p=k)
structure Hs(b a C:Addr)(H:Hp)(h pp k:Addr)(q:At)(o:P)(m:Nat):Prop where
 ex:∃dx us av ov uv,H h\(.ins C dx (F6 av ov uv pp))/\H pp\(.lst us)/\us.length=m/\Rp b (ZH b pp h k) H (AH q) av/\Rp b (ZH b pp h k) H o ov
 ne:pp≠b
 na:pp≠a
 kn:H k≠none
def F7(b a h pp:Addr)(H H':Hp):Prop:=(Bag H' b a/\∀p o,p≠b->p≠h->p≠pp->H p\o->H' p\o)
structure TxtH(K:Fg)(mg:Str->C2)(C D:Addr)(w:World):Prop where
 cl:ClassAt K mg "House" C
 nA:C4 K C "asked"nO:C4 K C "opened"nP:C4 K C "past"nU:C4 K C "undone"dd:mg "DEEDS"\(.ref D)dt:GDct K w D
def fW(wd:Str):Eo:=(if wd="enter"then VI else if wd="withdraw"then VN else if wd="start"then VO elseλ_ _ _=>False)
inductive spDo(K:Fg)(mg:Str->C2)(C:Addr)(vs:dH)(H:Hp)(Q:VK)(E:XK):Prop|mk(b a h pp k q o m:_)(wd:Str)(qE dv Kd Kx:_)(c0:vs=[.ref h,dv])(c1:Bag H b a)(c2:Hs b a C H h pp k q o m)(c3:m<1000)(c4:(wd="start"->∃n r us,qE=[n,r,.lst us]))(c5:Rp b (ZH b pp h k) H (.tup (.str wd::qE)) dv)(c6:fW wd [AH q,o,.tup (.str wd::qE)] Kd Kx)(c7:(∀o' H',Kd o'->F7 b a h pp H H'->Hs b a C H' h pp k q o' (m+1)->Q .non H'))(c8:∀n H',Kx n->Step b a H H'->Ep K mg E n H')
def jX(M:Im K C "do" "House.do" O0)(T:TxtB mg)(g:TxtH K mg C D w)(a2:CV P' w K mg base "own_deed" 1 ["deed"] spOwnY)(GD:∀wd:Str,(wd="enter"\/wd="withdraw"\/wd="start")->∃f,PySem.W.nsIn K D wd\(some (.ref f))/\OS P' w K mg base 4 f (spY K mg (fW wd))):EM P' w K mg base C "do" 5 ["self","deed"] (spDo K mg C):=by
 show OT M Um (λ_ _ _ _ _ _ us c=>B0 c dG) (λvs H Q E h=>?_) (λfa a9 A outer s H vs Q E hr h=>?_)
 .let[_,_,_,_,_,_,_,_,_,_,_,_,_,0,_]:=h;rfl
 .let nd:=Um.nd;show{_,Aa (Ap (i:=2) nd rfl (Or.inl rfl) (Ih a2 Ig (hr.mq) (by rfl) (AK (pv 1) Ab)))
   (Aa (Ap (i:=3) nd rfl (Or.inl rfl) (ft (by rfl) g.dd g.dt (B1 Hd (pv 2) Ah dG) dG))
   (Aa (Ap (i:=4) nd rfl (Or.inl rfl) (fx (pv 3) hr Ig (AK (HW (pv 0) (by rfl)) (AK (HW (pv 0) (by rfl)) (AK (pv 2) Ab)))))
   (Aa (ES (FA PySem.F.plainAttrs_list PySem.F.slot_list_append PySem.F.type_list_append Fe (HW (pv 0) (by rfl)) (AK (DU (AK (pv 2) (AK (HW (pv 0) (by rfl)) Ab))) Ab)))
   (Aa (GI (pv 0) (pv 4) (by rfl)) (Ao (GI (pv 0) (D7 Ab) (by rfl))))))),?_}
  done<;>let[b,a,h,pp,k,q,o,m,wd,qE,dv,Kd,Kx,0,J,[[dx,us,L,O,uv,G,hp,hm,ra,ro],ne,na,kn],a8,hw,a5,hf,hK,hX]:=h;let a7:wd="enter"\/wd="withdraw"\/wd="start":=by
   unfold fW at hf;by_cases e:wd="enter"
   .show .inl e
   .rw[aB e]at hf;by_cases ρ:wd="withdraw"
    .show .inr (.inl ρ)
    .rw[aB ρ]at hf;by_cases I:wd="start"
     .show .inr (.inr I)
     .rw[aB I]at hf;show hf.elim
  let[f,hn,hF]:=GD wd a7;let zh:∀{H1:Hp},Step b a H H1->∀p,ZH b pp h k p->H1 p≠none:=λ{H1}r p z e=>by
   let e0:=r.free e;rcases z with rfl|rfl|rfl|rfl
   .let[l,c]:=J.atb;rw[c]at e0;cases e0
   .rw[hp]at e0;cases e0
   .rw[G]at e0;cases e0
   .show kn e0
  let y:h≠b:=λe=>by let[l,c]:=J.atb;rw[e,c]at G;cases G
  let j:h≠pp:=λe=>by rw[e,hp]at G;cases G
  show{_,0,b,a,ZH b pp h k,wd,qE,dv,0,J,.inl rfl,zh (Step.refl J),a5,hw,λv0 H0 N rd=>?_};done<;>(let[d,ds,0,hd,rd]:=rd;let[_,ds,0,0,rd]:=rd);let a1:=N.same h _ y G;let a6:=Am (.inl rfl) J N ra;let a4:=Am (.inl rfl) J N ro;show{_,0,d,(0),_,0,0,hd,.str wd,(show atI (V.str wd::ds) ((0:Nat):Int)\(V.str wd)from Cg rfl),wd,f,0,hn,?_};show#[_,0,f,_,0,hF,_,0,h,C,dx,_,L,0,a1,g.cl.cl,g.nA,0,_,0,h,C,dx,_,O,0,a1,g.cl.cl,g.nO,0,_,0,?_];show{b,a,ZH b pp h k,[AH q,o,.tup (.str wd::qE)],Kd,Kx,N.bag,.inl rfl,zh N,(Dz a6 (Dz a4 (Dz #[d,_,0,hd,_,_,0,0,rd] K1))),hf,λx v H1 hx a3 rx=>?_,λn H1 hn r=>hX n H1 hn (N.trans r)};let r:=N.trans a3;let u:=r.same h _ y G;let B:=r.same pp _ ne hp;show{_,0,h,C,dx,_,.ref pp,0,u,g.cl.cl,g.nP,0,?ty,_,0,_,0,h,C,dx,_,O,0,u,g.cl.cl,g.nO,0,(by decide:2<=sizeLine),λt ht=>?_}
  case ty=>show .inl {0,us,.of B}
  let tp:pp≠t:=Af B ht;let th:h≠t:=Af u ht;show{pp,us,_,0,0,by rw[AE tp];show B,aU (by simp_all:us.length<1000) '3',_,0,_,0,h,C,dx,F6 L O uv pp,0,by rw[AE j,AE th];show u,g.cl.cl,g.nO,(show 4<1000 by decide),(by decide:0<=sizeLine),λl c=>?_};let lh:h≠l:=λe=>by rw[<-e,AN]at c;cases c
  show{_,0,h,C,dx,BC "opened" v (F6 L O uv pp),0,by rw[AE lh,AN],g.cl.cl,g.nU,Nat.lt_of_le_of_lt (ML _ _ _) (show 5<1000 by decide),?_};let ef:BC "undone" (.ref l) (BC "opened" v (F6 L O uv pp))=F6 L v (.ref l) pp:=rfl;rw[ef];let pl:pp≠l:=λe=>by rw[<-e,AE (Ne.symm j),AN]at c;cases c
  let fl:H1 l=none:=by
   rw[AE (Ne.symm lh),AE (Ne.symm pl)]at c;by_cases e:l=t
   .rw[e,AN]at c;cases c
   .rw[AE e]at c;show c
  let kp:∀p o,p≠h->p≠pp->H1 p\o->AB (AB (AB (AB (AB H1 t (.tup [.ref d,O])) pp (.lst (us++[.ref t]))) h (.ins C dx (BC "opened" v (F6 L O uv pp)))) l (.lst [])) h (.ins C dx (F6 L v (.ref l) pp)) p\o:=λp o e1 ρ I=>by rw[AE e1,AE (Af I fl),AE e1,AE ρ,AE (Af I ht)];show I
  let kt:∀p xs,H1 p\(.tup xs)->p≠h/\p≠pp:=λp xs e=>{(λz=>by rw[z,u]at e;cases e),(λz=>by rw[z,B]at e;cases e)};show hK x _ hx {?_,λp o n1 n2 n3 e=>kp p o n2 n3 (r.same p o n1 e)} #[{dx,us++[.ref t],L,v,.ref l,AN,?_,?_,?_,?_},ne,na,?_]
  .let a0:h≠a:=λe=>by let[l,c]:=J.ata;rw[e,c]at G;cases G
   show(((((r.bag.new ht).put ne na).put y a0).put (r.bag.nb fl) (r.bag.na fl)).put y a0)
  .rw[AE (Ne.symm j),AE pl,AE (Ne.symm j),AN]
  .rw[aG,hm];rfl
  .show(Am (.inl rfl) J r ra).keep (λp o σ e=>{σ,kp p o (λz=>σ (.inr (.inr (.inl z)))) (λz=>σ (.inr (.inl z))) e}) λp xs e=>kp p _ (kt p xs e).1 (kt p xs e).2 e
  .show rx.keep (λp o σ e=>{σ,kp p o (λz=>σ (.inr (.inr (.inl z)))) (λz=>σ (.inr (.inl z))) e}) λp xs e=>kp p _ (kt p xs e).1 (kt p xs e).2 e
  .intro e;by_cases e1:k=h
   .rw[e1,AN]at e;cases e
   .by_cases ρ:k=pp
    .rw[ρ,AE (Ne.symm j),AE pl,AE (Ne.symm j),AN]at e;cases e
    .cases I:H1 k with
     |none=>show kn (r.free I)|some o=>rw[kp k o e1 ρ I]at e;cases e
inductive spInit28(C:Addr)(vs:dH)(H:Hp)(Q:VK)(E:XK):Prop|mk(b a h dx q qv:_)(c0:vs=[.ref h,qv])(c1:Bag H b a)(c2:Rp b (λp=>p=b) H (AH q) qv)(c3:q≠[])(c4:q.length<=6)(c5:(∀x∈q,C0 x))(c6:q.Pairwise (λa b=>a.cps.toList<b.cps.toList))(c7:H h\(.ins C dx []))(c8:∀pp H',H pp=none->Bag H' b a->(∀p o,p≠b->p≠h->H p\o->H' p\o)->Hs b a C H' h pp b q (.dK [] []) 0->Q .non H')
def jY(M:Im K C "__init__" "House.__init__" Oz)(T:TxtB mg)(n:TxtH K mg C D w)(Gr:'E' "is_room" 2 ["names"] (spP Ll)):EM P' w K mg base C "__init__" 3 Ϻ (spInit28 C):=by
 show OT M g7 (λ_ _ _ _ _ _ us d=>B0 d dG) (λvs H Q E h=>?_) (λfa a0 A outer s H vs Q E hr h=>?_)
 .let[_,_,_,_,_,_,0,_]:=h;rfl
 .show{_,Aa (BY (PW.pt (L9 (MA (L6 (CF Gr hr (by rfl) (AK (pv 1) Ab)))) (L7 (Dl Pn (E5 YV (by rfl) T.b_len nofun (AK (pv 1) Ab)) Ah (A0 _))))) CY BX)
   (Aa (GI (pv 0) (pv 1) (by rfl)) (Aa (GI (pv 0) MZ (by rfl)) (Aa (GI (pv 0) (D7 Ab) (by rfl)) (Ao (GI (pv 0) (D7 Ab) (by rfl)))))),?_}
  let[b,a,h,dx,q,qv,0,N,rq,q0,q6,qg,qp,I,k]:=h;show{_,0,b,a,[AH q],λx=>x=.bl true,N,#[_,_,0,rq,0],#[q,0,q6,qg,qp,0],λx v H1 hx u rx=>?_};subst hx;obtain rfl:v=.bl true:=rx;let f:h≠b:=λe=>by let[l,d]:=N.atb;rw[e,d]at I;cases I
  let G:=u.same h _ f I;let B:=Am (Z:=λp=>p=b) rfl N u rq;let σ:=B;done<;>let[p,ps,0,hp,rps]:=B;let pl:0<ps.length:=by rw[<-rps.length,aA];show length_pos_iff.mpr q0
  show{true,0,Au '5' (λ_=>{_,0,p,ps,0,hp,0,_,0,Au (λz=>?_) (λ_=>?_)})}
  .let:=V.int.inj (aL z);simp_all
  show#[_,0,_,0,h,C,dx,[],0,G,n.cl.cl,n.nA,(show 0<1000 by decide),λo m=>#[_,0,h,C,dx,BC "asked" (.ref p) [],0,?_,n.cl.cl,n.nO,(show 1<1000 by decide),(by decide:0<=sizeLine),λpp c=>#[_,0,h,C,dx,BC "opened" (.ref o) (BC "asked" (.ref p) []),0,?_,n.cl.cl,n.nP,(show 2<1000 by decide),(by decide:0<=sizeLine),λl d=>{_,0,h,C,dx,BC "past" (.ref pp) (BC "opened" (.ref o) (BC "asked" (.ref p) [])),0,?_,n.cl.cl,n.nU,(show 3<1000 by decide),?_}]]]
  .rw[AE (Af AN m),AN]
  .rw[AE (Af AN c),AN]
  .rw[AE (Af AN d),AN]
  let j:=Af AN m;let ph:=Af AN c;let ρ:=Af AN d;let lp:pp≠l:=λe=>by rw[<-e,AE (Ne.symm ph),AN]at d;cases d
  let J:o≠pp:=λe=>by rw[<-e,AE (Ne.symm j),AN]at c;cases c
  let ol:o≠l:=λe=>by rw[<-e,AE (Ne.symm j),AE J,AE (Ne.symm j),AN]at d;cases d
  rw[AE (Ne.symm j)]at m;rw[AE (Ne.symm ph),AE (Ne.symm J),AE (Ne.symm ph)]at c;rw[AE (Ne.symm ρ),AE (Ne.symm lp),AE (Ne.symm ρ),AE (Ne.symm ol),AE (Ne.symm ρ)]at d;let i:h≠a:=λe=>by let[l,d]:=N.ata;rw[e,d]at I;cases I
  let g:=u.bag;let L:∀z o',z≠h->H1 z\o'->AB (AB (AB (AB (AB (AB (AB H1 h (.ins C dx (BC "asked" (.ref p) []))) o (.dK [])) h (.ins C dx (BC "opened" (.ref o) (BC "asked" (.ref p) [])))) pp (.lst [])) h (.ins C dx (BC "past" (.ref pp) (BC "opened" (.ref o) (BC "asked" (.ref p) []))))) l (.lst [])) h (.ins C dx (BC "undone" (.ref l) (BC "past" (.ref pp) (BC "opened" (.ref o) (BC "asked" (.ref p) []))))) z\o':=λz o' r O=>by rw[AE r,AE (Af O d),AE r,AE (Af O c),AE r,AE (Af O m),AE r];show O
  show k pp _ (u.free c) ?_ (λp1 o' n1 n2 e=>?_) #[{dx,[],.ref p,.ref o,.ref l,AN,?_,0,?_,?_},g.nb c,g.na c,?_]
  .show((((((g.put f i).put (g.nb m) (g.na m)).put f i).put (g.nb c) (g.na c)).put f i).put (g.nb d) (g.na d)).put f i
  .show L p1 o' n2 (u.same p1 o' n1 e)
  .rw[AE (Ne.symm ph),AE lp,AE (Ne.symm ph),AN]
  .show(Rp.imm (Z':=ZH b pp h b) (EL q) σ).keep (λz o' hz e=>{hz,L z o' (λy=>hz (.inr (.inr (.inl y)))) e}) λz xs e=>L z _ (λy=>by rw[y,G]at e;cases e) e
  .show{o,[],0,λz=>z.elim (g.nb m) λz=>z.elim J λz=>z.elim (Ne.symm j) (g.nb m),by rw[AE (Ne.symm j),AE ol,AE (Ne.symm j),AE J,AE (Ne.symm j),AN];rfl,0,0}
  .let[l1,r]:=g.atb;rw[L b _ (Ne.symm f) r];intro z;cases z
end
section
variable{K:Fg}
noncomputable def PH(K:Fg)(mg:Str->C2):List (Str×Str)->Prop|[]=>True|p::r=>UC K mg p.1 p.2/\PH K mg r
noncomputable abbrev VQ:List (Str×Str):=[("BadRow","BadName"),("BadRow","BadRoom"),("BadCount","BadName"),("BadCount","BadRoom"),("BadCount","BadRow"),("BadCount","BadTally"),("NoRoom","BadName"),("NoRoom","BadRoom"),("NoRoom","BadRow"),("NoRoom","BadTally"),("NoRoom","BadCount"),("TooFew","BadName"),("TooFew","BadRoom"),("TooFew","BadRow"),("TooFew","BadTally"),("TooFew","BadCount"),("TooFew","NoRoom"),("TooFew","Taken"),("TooFew","Full")]
structure XsAt(K:Fg)(mg:Str->C2)(n r t c o k u:Addr)(f fw:Addr):Prop where
 n0:XCls K mg "BadName" n
 r0:XCls K mg "BadRoom" r
 t0:XCls K mg "BadRow" t
 c0:XCls K mg "BadTally" c
 o0:XCls K mg "BadCount" o
 k0:XCls K mg "NoRoom" k
 u0:XCls K mg "Taken" u
 f0:XCls K mg "Full" f
 w0:XClsV K mg "TooFew" "row" fw
 ns:PH K mg VQ
def CO{n}{d}{D}(N:UC K mg n x)(e:mg n\(.ref a))(c:mg x\(.ref C))(x1:xok K a)(h:th (.ref a) d D U H):OL K C t th (.ref a) d D U H:={a,0,x1,by rw[N a C e c];show h}
def PJ{n}{d}{D}(e:mg n\(.ref a))(c:mg n\(.ref C))(x1:xok K a)(h:t D U H):OL K C t th (.ref a) d D U H:=by rw[e]at c;cases c;show{_,0,x1,by rw[UD x1];show h}
def jZ{n}{C c}{ts}{D}(e:mg n\(.ref c))(d:mg n\(.ref C))(x1:xok K c)(h:∀a,ts a dx c {nx:=λσ' H'=>D.nx (σ'.set k none) H',rt:=D.rt,bk:=λσ' H'=>D.bk (σ'.set k none) H',ct:=λσ' H'=>D.ct (σ'.set k none) H'} (U.set k (some (.ref a))) H):T3 K C k ts th (.ref c) (some dx) D U H:=by rw[e]at d;cases d;show#[_,0,x1,by rw[UD x1,aC rfl];show#[dx,0,h]]
noncomputable def xP:Xn->P
 |.nm n=>.tup [.str n,.non]|.vl n _ x=>.tup [.str n,x]
def VR(n:Xn):Prop:=(n=.nm "BadRow"\/n=.nm "BadCount"\/n=.nm "NoRoom"\/∃r,n=.vl "TooFew" "row" (AZ r))
inductive spMark(C:Addr)(vs:dH)(H:Hp)(Q:VK)(E:XK):Prop|mk(b a h pp k q o m:_)(wd:Str)(qE dv Kd Kx:_)(c0:vs=[.ref h,dv])(c1:Bag H b a)(c2:Hs b a C H h pp k q o m)(c3:m<1000)(c4:(wd="start"->∃n r us,qE=[n,r,.lst us]))(c5:Rp b (ZH b pp h k) H (.tup (.str wd::qE)) dv)(c6:fW wd [AH q,o,.tup (.str wd::qE)] Kd Kx)(c7:(∀n,Kx n->VR n))(c8:(∀o' H' v,Kd o'->F7 b a h pp H H'->Hs b a C H' h pp k q o' (m+1)->Rp b (λp=>p=b) H' (.tup [.str "done",.non]) v->Q v H'))(c9:∀n H' v,Kx n->Step b a H H'->Rp b (λp=>p=b) H' (xP n) v->Q v H')
def Hs.st{b C h k}{o}(x:Hs b a C H h pp k q o m)(hb:Bag H b a)(s:Step b a H H'):Hs b a C H' h pp k q o m:=by
 let[[dx,us,av,ov,uv,d,hp,hm,g,f],ne,na,kn]:=x;let c:h≠b:=λe=>by let[l,i]:=hb.atb;rw[e,i]at d;cases d
 show#[{dx,us,av,ov,uv,s.same h _ c d,s.same pp _ ne hp,hm,Am (.inl rfl) hb s g,Am (.inl rfl) hb s f},ne,na,λe=>kn (s.free e)]
def F7.st{b h}(x:F7 b a h pp H H1)(s:Step b a H1 H2):F7 b a h pp H H2:={s.bag,λp o c f d e=>s.same p o c (x.2 p o c f d e)}
def ja{C n r t c o k u f fw}(M:Ai K mg "_law_mark" Ou)(TH:TxtH K mg C D w)(g:XsAt K mg n r t c o k u f fw)(Gd:EM P' w K mg base C "do" 5 ["self","deed"] (spDo K mg C)):'E' "_law_mark" 6 ϫ (spMark C):=by
 show DZ M Ul (λ_ _ _ _ _ _ us hl=>B0 hl dG) (λvs H Q E h=>?_) (λfa a9 A outer s H vs Q E hr h=>?_)
 .let[_,_,_,_,_,_,_,_,_,_,_,_,_,0,_]:=h;rfl
 let j:=Ul.nd;let B:∀{x C},XCls K mg x C->xok K C:=λh=>.inl h.ok;show{_,Aa (Ap (i:=2) j rfl (Or.inl rfl) CP) (Aa (Ap (i:=3) j rfl (Or.inl rfl) L5) (Aa (f7 #[0,0,0] (λqA U E'=>Ao (BY (Pa (V3 (gB Gd #[0,0,0] TH.cl.cl hr (pv 0) (AK (pv 1) Ab)))) (Ao (Ap (i:=2) j rfl (Or.inl rfl) CP)) BX)) (FR #[0,0,0] g.n0.bd (B g.n0) (λa=>Ao (Ap (i:=2) j rfl (Or.inl rfl) CP)) (FR #[0,0,0] g.r0.bd (B g.r0) (λa=>Ao (Ap (i:=2) j rfl (Or.inl rfl) CP)) (FR #[0,0,0] g.t0.bd (B g.t0) (λa=>Ao (Ap (i:=2) j rfl (Or.inl rfl) CP)) (FR #[0,0,0] g.c0.bd (B g.c0) (λa=>Ao (Ap (i:=2) j rfl (Or.inl rfl) CP)) (FR #[0,0,0] g.o0.bd (B g.o0) (λa=>Ao (Ap (i:=2) j rfl (Or.inl rfl) CP)) (FR #[0,0,0] g.k0.bd (B g.k0) (λa=>Ao (Ap (i:=2) j rfl (Or.inl rfl) CP)) (FR #[0,0,0] g.u0.bd (B g.u0) (λa=>Ao (Ap (i:=2) j rfl (Or.inl rfl) CP)) (FR #[0,0,0] g.f0.bd (B g.f0) (λa=>Ao (Ap (i:=2) j rfl (Or.inl rfl) CP)) (fD (k:=4) (ts:=λa dx I=>GA (ET (tC (.str "TooFew")) (Bq 2)) (ET (T0 K 4 a dx I "row") (Bq 3))) #[0,0,0] g.w0.bd (.inr ((by done<;>let[fI,_,_,e,_]:=g.w0.init;show#[fI,e]))) j rfl rfl (λa oe dx I e1 e2 e3=>Aa (Ap (i:=2) j rfl (Or.inl rfl) CP) (Ao (Ap (i:=3) j rfl (Or.inl rfl) (fC (oe:=oe) (k:=4) (n:="e") (f:="row") (.head _) e1 e2 (λc z=>by let[vs,e3]:=e3;rw[e3]at z;cases z) rfl (Or.inl rfl) (by rfl))))) eT)))))))))) (Ao (B9 (DU (AK (pv 2) (AK (pv 3) Ab))))))),?_}
 done<;>(let[b,a,h,pp,k,q,o,m,wd,qE,dv,Kd,Kx,0,hb,hs,hm,a6,rd,hf,a5,hK,hX]:=h;let[dx,us,av,ov,uv,hh,_]:=hs.ex;let[n1,n2,n3,n4,n5,n6,n7,n8,n9,a4,a3,a2,a1,a0,ρ,σ,T,O,N,_]:=g.ns);show#[0,_,0,h,dx,_,0,hh,0,_,0,?_];show{b,a,h,pp,k,q,o,m,wd,qE,dv,Kd,Kx,0,hb,hs,hm,a6,rd,hf,λo' H1 ho ds a7=>?_,λn H1 hn G=>?_}
 .show#[_,0,CD {_,0,_,0,(by decide:2<=sizeLine),λt l=>?_}];let G:Step b a H1 (AB H1 t (.tup [.str "done",.non])):=Step.new ds.1 l;show hK o' _ _ ho (ds.st G) (a7.st ds.1 G) #[t,_,0,AN,_,_,0,0,_,_,0,0,0]
 .let y:∀(x:P)(v:V)(J:Str),xP n=.tup [.str J,x]->Rp b (λp=>p=b) H1 x v->∀t,H1 t=none->Q (.ref t) (AB H1 t (.tup [.str J,v])):=λx v J e rx t l=>by let s2:Step b a H1 (AB H1 t (.tup [.str J,v])):=Step.new G.bag l;show hX n _ _ hn (G.trans s2) ?_;rw[e];show{t,_,0,AN,_,_,0,0,_,_,0,Am (Z:=λp=>p=b) rfl G.bag s2 rx,0}
  rcases a5 n hn with rfl|rfl|rfl|⟨L,rfl⟩
  .intro I d;show CO n1 d.bd g.n0.bd d.xok<|CO n2 d.bd g.r0.bd d.xok<|PJ d.bd g.t0.bd d.xok {_,0,_,0,(by decide:2<=sizeLine),λt l=>y .non .non _ rfl rfl t l}
  .intro I d;show CO n3 d.bd g.n0.bd d.xok<|CO n4 d.bd g.r0.bd d.xok<|CO n5 d.bd g.t0.bd d.xok<|CO n6 d.bd g.c0.bd d.xok<|PJ d.bd g.o0.bd d.xok {_,0,_,0,(by decide:2<=sizeLine),λt l=>y .non .non _ rfl rfl t l}
  .intro I d;show CO n7 d.bd g.n0.bd d.xok<|CO n8 d.bd g.r0.bd d.xok<|CO n9 d.bd g.t0.bd d.xok<|CO a4 d.bd g.c0.bd d.xok<|CO a3 d.bd g.o0.bd d.xok<|PJ d.bd g.k0.bd d.xok {_,0,_,0,(by decide:2<=sizeLine),λt l=>y .non .non _ rfl rfl t l}
  .intro I dx v d dr a8 rv;show CO a2 d.bd g.n0.bd d.xok<|CO a1 d.bd g.r0.bd d.xok<|CO a0 d.bd g.t0.bd d.xok<|CO ρ d.bd g.c0.bd d.xok<|CO σ d.bd g.o0.bd d.xok<|CO T d.bd g.k0.bd d.xok<|CO O d.bd g.u0.bd d.xok<|CO N d.bd g.f0.bd d.xok<|jZ d.bd g.w0.bd d.xok λa=>{0,d.has,_,v,a8,0,_,0,_,0,(by decide:2<=sizeLine),λt l=>y (AZ L) v _ rfl (rv b _) t l}
def jb(D:Ai K mg "_law_in" LX)(T:TxtB mg):'E' "_law_in" 1 ϝ (spP HI):=by
 show BI D gs (λ_ _ _ _ _ _ us a=>B0 a dG) (λxs K h=>?_) '3' (λf e A outer s H E c=>{_,(Ad (A5 (Aw (λ_=>(D9 rfl)) EH (λ_=>T.b_all) nofun (AA (BR (N:=ϝ) (sc:=AL LX) (N':=["_law_name","_law_room"]) (qC:=[none,some 1]) '1' '3' dF (ED dF (qv 0)) (Bw (k:=0) rfl (λ_=>show List.Nodup (["_law_name","_law_room"]:At)from nofun)) Bm (FF (λ_=>(II c)) IJ (qv 0) (qv 1) (by rfl))) AG)))),λxs K h=>?_})
 .let[_,_,0,_]:=h;rfl
 .let[part,qI,0,a,h]:=h;simp![A4];show{⋯,A2.map (λn=>.bl (decide (n∈qI))) dG (λn _ M d=>?_) ?_}
  .simp![KG];show d _
  .show{part.map λn=>decide (n∈qI),by rw[bZ];rfl,?_};rw[all_map];show h
structure Bk(b a:Addr)(Z:Addr->Prop)(H:Hp)(bk:Addr)(B:List Ent):Prop where
 ex:∃us,H bk\(.lst us)/\AC b Z H (B.map Eu) us
 nb:bk≠b
 na:bk≠a
def Lr(b a bk:Addr)(H H':Hp):Prop:=(Bag H' b a/\∀p o,p≠b->p≠bk->H p\o->H' p\o)
def Bk.st(x:Bk b a Z H bk B)(zb:Z b)(hb:Bag H b a)(s:Step b a H H'):Bk b a Z H' bk B:=by let[[us,h1,h2],nb,na]:=x;show#[{us,s.same bk _ nb h1,Ev zb hb s h2},nb,na]
def Bk.rp(x:Bk b a Z H bk B)(zb:Z b):Rp b (λp=>p=b) H (.lst (B.map Eu)) (.ref bk):=by let[[us,h1,h2],nb,na]:=x;show{bk,us,0,nb,h1,h2.keep (λp o c e=>{λq=>c (q▸zb),e}) λ_ _ e=>e}
def Bk.put{us}(hb:Bag H b a)(h:H bk\o)(nt:∀xs,o≠.tup xs)(nb:bk≠b)(na:bk≠a)(d:Z bk)(s:Step b a H H1)(r:AC b Z H1 (B'.map Eu) us):Lr b a bk H (AB H1 bk (.lst us))/\Bk b a Z (AB H1 bk (.lst us)) bk B':=by
 show#[{s.bag.put nb na,λp o g f e=>by rw[AE f];show s.same p o g e},{us,AN,r.keep (λp o c e=>{c,by rw[AE (λz:p=bk=>c (by rw[z];show d))];show e}) λp xs e=>?_},nb,na];rw[AE]
 .show e
 .intro z;rw[z,s.same bk o nb h]at e;show nt xs (oI e)
def PL{x}{K}(h:x.imm=false)(q:K (Y.set k (.sh x))):Bl k x .cl Y K:=by unfold Bl;rw[aB (by rw[h];decide)];show q
def PM:Sp:=(λvs H Q _=>∃b a Z bk q B n qI t dv nv,vs=[nv,.ref bk,dv]/\Bag H b a/\Z b/\(∀p,Z p->H p≠none)/\Z bk/\Rp b Z H (AH q) nv/\Bk b a Z H bk B/\Rp b Z H (.tup [.str "start",.str n,AH qI,Ac t]) dv/\StOk q (B.map (·.1)) n qI t/\∀H',Lr b a bk H H'->Bk b a Z H' bk (B++[(n,qI,t)])->Q (.str "done") H')
def jc(D:Ai K mg "_law_due_start" Iz)(T:TxtB mg)(qW:'E' "is_name" 1 ["text"] (spP Lk))(zK:'E' "is_room" 2 ["names"] (spP Ll))(zM:'E' "_law_in" 1 ϝ (spP HI))(zL:'E' "is_tally" 2 ϖ (spP O8)):'E' "_law_due_start" 3 ό PM:=by
 show DZ D gu (λ_ _ _ _ _ _ us hl=>DH hl '8') (λvs H Q E h=>?_) (λfa a6 A outer s H vs Q E y h=>?_)
 .done<;>let[_,_,_,_,_,_,_,_,_,_,_,0,_]:=h;rfl
 .show{_,Aa (BY (Dh (CL (CS (Ae (λ_=>qW) (λ_=>y.mq) (AA (Av 'J' Ay (qv 2) AV dG) AG))))) CY BX)
   (Aa (BY (Dh (BN (λ_=>(II y)) IJ (Av 'J' Ay (qv 2) AV dG) (BR (N:=ό) (sc:=AL Iz) (qC:=[none]) '1' '3' dF (B3 dF (qv 1)) (Bw (k:=0) rfl (λ_=>show List.Nodup (Ϸ:At)from nofun)) Bm (Av 'J' Ay (qv 0) AV dG)) (by rfl))) CY BX)
   (Aa (BY (Dh (QW.pt (FH (BN (λ_=>(EI y)) EJ (Av 'J' Ay (qv 2) AV dG) (Db AG) (A0 _)) (FH (CL (CS (Ae (λ_=>zK) (λ_=>y.mq) (AA (Av 'J' Ay (qv 2) AV dG) AG)))) (GU (CL (CS (Ae (λ_=>zM) (λ_=>y.mq) (AA (Av 'J' Ay (qv 2) AV dG) (AA (qv 0) AG)))))))))) CY BX)
   (Aa (BY (Dh (QW.pt (FH (CL (CS (Ae (λ_=>zL) (λ_=>y.mq) (AA (Av 'J' Ay (qv 2) AV dG) (AA (Av 'J' Ay (qv 2) AV dG) AG))))) (GU (CL (CS (Aw (λ_=>(D9 rfl)) EH (λ_=>T.b_all) nofun (AA (BR (N:=ό) (sc:=AL Iz) (qC:=[none,none]) '1' '3' dF (B3 dF (Av 'J' Ay (qv 2) AV dG)) (FK (i:=0) (j:=1) rfl rfl dF dF (λ_=>(Al (Ag (i:=0) (show List.Nodup (Ϝ:At)from nofun) rfl (Or.inl rfl)) (Al (Ag (i:=1) (show List.Nodup (Ϝ:At)from nofun) rfl (Or.inl rfl)) Br)))) Bm (FF (λ_=>EV) Fm (qv 1) (B2 (λ_=>JV) NF AV AV) (A0 _))) AG)))))))) CY BX)
   (Aa (BY (Dh (BN (λ_=>Fb) Gf (Aw (λ_=>Bn) Bo 'I' nofun (AA (qv 1) AG)) AV (A0 _))) CY BX)
   (Aa (ES (FA PySem.F.plainAttrs_list PySem.F.slot_list_append PySem.F.type_list_append Fe (pv 1) (AK (DU (AK (B1 Hd (pv 2) Ah dG) (AK (B1 Hd (pv 2) Ah dG) (AK (Fd GO (by rfl) T.b_list nofun (AK (B1 Hd (pv 2) Ah dG) Ab)) Ab)))) Ab)))
   (Ao (B9 CP))))))),?_}
  done<;>(let[b,a,Z,bk,q,B,n,qI,t,dv,nv,0,l,o,zh,zk,rq,C,rd,f,k]:=h;let a2:=rd;let[d,ds,0,hd,_,_,0,0,_,_,0,0,rv,_,0,rr,_,_,0,[tl,g,0,zt,ht,rt],0]:=rd);let a4:d≠b:=(l.neT hd).1;let G:Bf b H [.sh (AH q),.sh (.lst (B.map Eu)),.sh (.tup [.str "start",.str n,AH qI,Ac t])] [some nv,some (.ref bk),some (.ref d)]:=(A9 (CJ o rq) (A9 (C.rp o) (A9 (CJ o a2) Co)));let B8:B.length<8:=by let:=f.few;rw[aA]at this;show this
  show{b,a,_,λc=>c=false,l,G,#[_,0,n,0,f.nm,_,0,0],λc H1 m s1=>?_};subst m;show CD {b,a,_,λc=>c=false,s1.bag,G.st l s1,{_,0,_,0,nofun,by rw[aA];lia,A2.map (λe=>.str e.1) dG (λe _ M hM=>?_) ?_},λc H2 m a1=>?_}
  .show PL '2' {_,0,hM _}
  .show{_,0,{'2',all_eq_true.mpr λx hx=>?_},_,0,?_}
   .let[e,_,0]:=bU.mp hx;simp
   .change List.any _ _=false;rw[any_map,any_eq_false];intro e he z;let z:AU (.str e.1) (.str n)=true:=z;rw[KW]at z;show f.nw (bU.mpr {e,he,aL z})
  subst m;let s2:=s1.trans a1;show CD {b,a,_,λc=>c=false,s2.bag,G.st l s2,?_,λc H3 m a0=>?_}
  .show{_,0,0,#['2','2'],_,0,Au (λz=>?_) (λ_=>#[_,0,qI,0,f.r6,f.rg,f.rs,_,0,CD {_,0,qI,q,0,by let:=f.r6;lia,_,0,?_}])}
   .let z:AU (AH qI) (AH [])=true:=z;rw[Ng]at z;show bS (aL z) f.r0
   .rw[all_eq_true.mpr λx hx=>aK (f.rq x hx)];rfl
  subst m;let s3:=s2.trans a0;show CD {b,a,_,λc=>c=false,s3.bag,G.st l s3,?_,λc H4 m ρ=>?_}
  .show{_,0,_,0,qI,t,0,by let:=f.tl;lia,λp O=>by rw[f.rows p O];let:=f.r6;lia,_,0,Au (λz=>?_) (λ_=>#[_,0,_,0,nofun,by rw[aA];let:=f.tl;lia,A2.map (λp=>.bl (decide (p.2<=1000000000000))) dG (λp O M hM=>Ij #[#['3','3','3'],trivial,hM _]) {t.map λp=>decide (p.2<=1000000000000),by rw[bZ];rfl,_,0,?_}])}
   .rw[f.tal]at z;cases z
   .rw[all_map];change(!(t.all λp=>decide (p.2<=1000000000000)))=false;rw[all_eq_true.mpr λp O=>aK (f.tc p O)];rfl
  subst m;let s4:=s3.trans ρ;show CD {b,a,_,λc=>c=false,s4.bag,G.st l s4,?_,λc H5 m σ=>?_}
  .show{trivial,_,0,cK (by rw[aA];lia)}
  subst m;let v:=s4.trans σ;let[us,hu,ru]:=C.ex;let u:=v.same d _ a4 hd;let a5:=v.same bk _ C.nb hu;let a3:tl≠b:=λz=>zt (z▸o);show CD #[_,0,.inl {0,us,.of a5},_,0,d,1,_,0,0,u,_,0,_,0,d,2,_,0,0,u,_,0,_,0,d,3,_,0,0,u,_,0,tl,g,0,.inl (v.same tl _ a3 ht),λr L=>{(by decide:3<=sizeLine),λt' J=>?_}];let s6:Step b a H (AB H5 r (.lst g)):=v.trans (Step.new v.bag L);let I:Step b a H (AB (AB H5 r (.lst g)) t' (.tup [.str n,rv,.ref r])):=s6.trans (Step.new s6.bag J);let rn:AC b Z (AB (AB H5 r (.lst g)) t' (.tup [.str n,rv,.ref r])) ((B++[(n,qI,t)]).map Eu) (us++[.ref t']):=by rw[cO];show(Ev o l I ru).snoc {t',_,0,AN,_,_,0,0,_,_,0,Am o l I rr,_,_,0,{r,g,0,λz=>zh r z (v.free L),?_,Ev o l I rt},0};rw[AE (Af AN J),AN]
  let[g1,g2]:=Bk.put l hu '6' C.nb C.na zk I rn;show{bk,us,_,0,0,I.same bk _ C.nb hu,aU (by let:=ru.length;rw[aA]at this;lia:us.length<1000) '3',k _ g1 g2}
end
section
variable{K:Fg}
theorem VT:∀(os),Bf b H (os.map λ_=>S.emp) os|[]=>rfl|o::os=>{o,os,0,trivial,VT os}
def Ls:Sp:=(λvs H Q E=>PM vs H (λv H'=>∀t,H' t=none->Q (.ref t) (AB H' t (.tup [v,.non]))) E\/False)
def jd(D:Ai K mg "_law_due" Ov)(T:TxtB mg)(J:'E' "_law_due_start" 3 ό PM):'E' "_law_due" 4 ό Ls:=by
 show DZ D gv (λ_ _ _ _ _ _ us x=>DH x '8') (λvs H Q E h=>?_) (λL G A outer s H vs Q E l h=>?_)
 .done<;>let h||h:=h
  .done<;>let[_,_,_,_,_,_,_,_,_,_,_,0,_]:=h;rfl
  .show h.elim
 .show{_,Aa (BY (Dh (BN (λ_=>(EI l)) EJ (Av 'J' Ay (qv 2) AV dG) Ci (A0 _))) (Ao (B9 (DU (AK (CF J (l.mq) (by rfl) (AK (pv 0) (AK (pv 1) (AK (pv 2) Ab)))) (AK L5 Ab))))) BX) CY,?_};let h||h:=h
  rotate_left
  .show h.elim
  done<;>let[b,a,Z,bk,q,B,n,qI,t,dv,nv,0,g,f,zh,m,u,C,i,r,k]:=h;show{b,a,[.emp,.emp,.sh (.tup [.str "start",.str n,AH qI,Ac t]),.emp,.emp,.emp,.emp,.emp,.emp],λc=>c=true,g,(AS (AS (A9 (CJ f i) (VT [none,none,none,none,none,none])))),{_,0,#['2','2'],_,0,by rw[KW];show aK rfl},λc H1 y d=>?_};subst y;show Qd #[_,0,_,0,_,0,b,a,Z,bk,q,B,n,qI,t,dv,nv,0,d.bag,f,λp z e=>zh p z (d.free e),m,Am f g d u,C.st f g d,Am f g d i,r,λH2 st I=>{(by decide:2<=sizeLine),k H2 {st.1,λp o j v e=>st.2 p o j v (d.same p o j e)} I}]
structure Wh(b a C h pp bk:Addr)(H:Hp)(q:At)(Bh Bb:List Ent)(m:Nat):Prop where
 bag:Bag H b a
 hs:Hs b a C H h pp bk q (Cp Bh) m
 book:Bk b a (ZH b pp h bk) H bk Bb
 pk:bk≠pp
def Fr(b a h pp bk:Addr)(H H':Hp):Prop:=(∀p o,¬ZH b pp h bk p->H p\o->H' p\o)
section
variable{b C h bk:Addr}{Bh Bb B B':List Ent}{k:Nat}
def Fr.refl:Fr b a h pp bk H H:=λ_ _ _ e=>e
def Fr.trans(x:Fr b a h pp bk H H1)(y:Fr b a h pp bk H1 H2):Fr b a h pp bk H H2:=λp o z e=>y p o z (x p o z e)
def Fr.st(s:Step b a H H1):Fr b a h pp bk H H1:=λp o z e=>s.same p o (λn=>z (.inl n)) e
def Fr.ds(s:F7 b a h pp H H1):Fr b a h pp bk H H1:=λp o z e=>s.2 p o (λn=>z (.inl n)) (λn=>z (.inr (.inr (.inl n)))) (λn=>z (.inr (.inl n))) e
def Fr.bs(s:Lr b a bk H H1):Fr b a h pp bk H H1:=λp o z e=>s.2 p o (λn=>z (.inl n)) (λn=>z (.inr (.inr (.inr n)))) e
def Wh.nt(x:Wh b a C h pp bk H q Bh Bb m){xs}(e:H p\(.tup xs)):¬ZH b pp h bk p:=λz=>by
 let[dx,us,av,ov,uv,c,hp,_]:=x.hs.ex;let[d,hv,_]:=x.book.ex;rcases z with rfl|rfl|rfl|rfl
 .show(x.bag.neT e).1 rfl
 .rw[hp]at e;cases e
 .rw[c]at e;cases e
 .rw[hv]at e;cases e
def Wh.rp(x:Wh b a C h pp bk H q Bh Bb m)(f:Fr b a h pp bk H H1)(r:Rp b (ZH b pp h bk) H y v):Rp b (ZH b pp h bk) H1 y v:=r.keep (λp o c e=>{c,f p o c e}) λp xs e=>f p _ (x.nt e) e
def Wh.rps(x:Wh b a C h pp bk H q Bh Bb m)(f:Fr b a h pp bk H H1){y}{v}(r:AC b (ZH b pp h bk) H y v):AC b (ZH b pp h bk) H1 y v:=r.keep (λp o c e=>{c,f p o c e}) λp xs e=>f p _ (x.nt e) e
def Wh.ri(x:Wh b a C h pp bk H q Bh Bb m)(f:Fr b a h pp bk H H1)(i:y.imm=true)(r:Rp b (λp=>p=b) H y v):Rp b (λp=>p=b) H1 y v:=(x.rp f (r.imm i)).imm i
def Wh.st(x:Wh b a C h pp bk H q Bh Bb m)(s:Step b a H H1):Wh b a C h pp bk H1 q Bh Bb m:={s.bag,x.hs.st x.bag s,x.book.st (.inl rfl) x.bag s,x.pk}
def Wh.zh(x:Wh b a C h pp bk H q Bh Bb m):∀p,ZH b pp h bk p->H p≠none:=λp z e=>by
 let[dx,us,av,ov,uv,d,hp,_]:=x.hs.ex;let[f,hv,_]:=x.book.ex;rcases z with rfl|rfl|rfl|rfl
 .let[l,c]:=x.bag.atb;rw[c]at e;cases e
 .rw[hp]at e;cases e
 .rw[d]at e;cases e
 .rw[hv]at e;cases e
def Wh.did(x:Wh b a C h pp bk H q Bh Bb m)(s:F7 b a h pp H H1)(y:Hs b a C H1 h pp bk q (Cp B') k):Wh b a C h pp bk H1 q B' Bb k:=by let[dx,us,av,ov,uv,d,hp,_]:=x.hs.ex;let[[c,hv,rv],nb,na]:=x.book;show{s.1,y,#[{c,s.2 bk _ nb (λe=>by simp_all) x.pk hv,x.rps (Fr.ds s) rv},nb,na],x.pk}
def Wh.wrote(x:Wh b a C h pp bk H q Bh Bb m)(s:Lr b a bk H H1)(y:Bk b a (ZH b pp h bk) H1 bk B'):Wh b a C h pp bk H1 q Bh B' m:=by
 done<;>(let[[dx,us,av,ov,uv,c,hp,hm,j,i],ne,na,kn]:=x.hs;let[o,hv,_]:=x.book.ex);let d:h≠b:=λe=>by let[l,n]:=x.bag.atb;rw[e,n]at c;cases c
 let[g,f,_]:=y.ex;show{s.1,#[{dx,us,av,ov,uv,s.2 h _ d (λe=>by rw[e,hv]at c;cases c) c,s.2 pp _ ne (Ne.symm x.pk) hp,hm,x.rp (Fr.bs s) j,x.rp (Fr.bs s) i},ne,na,λe=>by rw[f]at e;cases e],y,x.pk}
end
structure EntV(k:Nat)(e:Ent):Prop where
 tal:Tal e.2.1.length e.2.2
 len:e.2.2.length<=k
 r6:e.2.1.length<=6
def EntV.ok(h:EntV k e)(a:k<1000):EntOk e:={Nat.lt_of_le_of_lt h.len a,h.tal.nd,h.tal.rows,h.r6}
def EntV.up(h:EntV k e)(a:k<=l):EntV l e:={h.tal,aR h.len a,h.r6}
def je{a b}(nd:(a.map (·.1)).Nodup):Ar (b.foldl BM a)=Fy (a++b):=by show OP (IZ b a nd) (FO _) λr=>?_;rw[Td,Dw,UJ,FT nd]
def VU(h:Tal n t)(a:0<=(AY t r).getD 0+c)(x):0<=(AY (BM t (r,c)) x).getD 0:=by
 rw[N6];let h1:0<=(AY t x).getD 0:=by rw[<-FT h.nd];show Fu (Dy h) x
 by_cases e:r=x
 .subst e;rw[aC rfl];show a
 .rw[aB e];change 0<=_+(0:Int);simp_all
def jf(h:Tal n t)(x):0<=(AY t x).getD 0:=by rw[<-FT h.nd];show Fu (Dy h) x
def jg(h:Tal n t)(d:1<=c):CN (BH (t++[(r,c)]))=Ar (BM t (r,c)):=by
 rw[N8 λx=>?_]
 .show(je h.nd).symm
 .rw[Dw];show Fu (λq a=>?_) x;let z||z:=bA.mp a
  .show Dy h q z
  .rw[bI.mp z];lia
def jh(h:Tal n t)(d:¬(AY t r).getD 0<c):CN (BH (BM t (r,-c)))=Ar (BM t (r,-c)):=by
 let a:=IZ [(r,-c)] t h.nd;rw[N8 λx=>?_]
 .show(fX a).symm
 .rw[Dw,FT (t:=BM t (r,-c)) a];show VU h ⋯ x
def ji(h:Tal n t)(e:t.length<=k)(f:k<1000)(a:r.length=n)(d:0<=(AY t r).getD 0+c):Tal n (Ar (BM t (r,c)))/\(Ar (BM t (r,c))).length<=k+1:=by let l1:(BM t (r,c)).length<=t.length+1:=Kc _ _ _;show{Th ⋯ (Nh h.rows a) (IZ [(r,c)] t h.nd) (VU h d),aR (Nn _) ⋯}
def jj(a:e.1∉B.map (·.1)):P.dK (Cm (B.map (·.1)) e.1) (DM (B.map (·.1)) (B.map C3) e.1 (C3 e))=Cp (B++[e]):=by unfold Cm DM Cp;rw[aB a,aB a,cO,cO];rfl
end
section
variable{K:Fg}
def VV(s:Ie l)(nd:l.Nodup):l.Pairwise (λa b=>a.cps.toList<b.cps.toList):=(pairwise_and_iff.mpr #[s,nd]).imp λ{a b}h=>by
  by_cases z:a.cps.toList<b.cps.toList
  .show z
  .show bS (eP h.1 z) h.2
structure Gd(n:Nat)(t:Tl):Prop where
 len:t.length<=40
 srt:CH (t.map (·.1))nd:(t.map (·.1)).Nodup
 rows:∀q∈t,q.1.length=n
 rng:∀q∈t,∀x∈q.1,0<=x/\x<=9
 pos:∀q∈t,1<=q.2
def settle_srt(t:Tl):CH ((Ar t).map (·.1)):=by unfold Ar;rw[bZ,show((λq:By×Int=>q.1)∘λr=>(r,(AY t r).getD 0))=id from rfl,map_id];show(Ek _).sublist filter_sublist
def VW{t:Tl}(g:t.length<=40)(nd:(t.map (·.1)).Nodup)(rows:∀q∈t,q.1.length=n)(a:∀q∈t,∀x∈q.1,0<=x/\x<=9)(d:∀r,0<=(AY t r).getD 0):Gd n (Ar t):=by
 show{aR (Nn t) g,settle_srt t,OA nd,Te rows,λq c=>?_,λq c=>?_}
 .let[p,f,e]:=bU.mp (Sq c);rw[<-e];show a p f
 .let[h1,h2]:=Tf c;let:=d q.1;lia
def VX{t:Tl}(d:Drawn n t):Gd n (Ar t):=VW d.len d.nd d.rows d.row λr=>by rw[<-FT d.nd];show Fu (λq a=>by let:=d.cnt q a;lia) r
def jk{part}(g:Gd qI.length t):Gd part.length (BL qI t part):=by
 show VW (aR (N7 _) (by rw[OC];show g.len)) (FO _) (Kr (OD qI t part)) (λq a=>?_) λr=>?_
 .let f:=(Kp _ q.1).mp (bU.mpr #[q,a,0]);let[p,c,e]:=bU.mp f;rw[<-e];unfold Bz at c;let[d,h,0]:=bU.mp c;show fk (g.rng d h)
 .rw[Dw];show Fu (OE λq a=>by let:=g.pos q a;lia) r
def jl(g:Gd n t):G0 n t=true:=by unfold G0;rw[cB,all_eq_true];show{λq a=>?_,fo g.srt g.nd};unfold CM;rw[cB,cB,aW,aW,all_eq_true];show#[{g.rows q a,λx c=>aK (g.rng q a x c)},g.pos q a]
noncomputable abbrev HJ(q:By×Int):By×Int:=(q.1,if 1000000000000<q.2 then 1000000000000 else q.2)
def jm(g:Gd n t):Gd n (t.map HJ)/\∀q∈t.map HJ,q.2<=1000000000000:=by
 let e:(t.map HJ).map (·.1)=t.map (·.1):=by rw[bZ];rfl
 show#[{by rw[aA];show g.len,by rw[e];show g.srt,by rw[e];show g.nd,λq a=>?_,λq a=>?_,λq a=>?_},λq a=>?_]
 .let[p,c,0]:=bU.mp a;show g.rows p c
 .let[p,c,0]:=bU.mp a;show g.rng p c
 .let[p,c,0]:=bU.mp a;let:=g.pos p c;change 1<=if 1000000000000<p.2 then 1000000000000 else p.2
  split<;>lia
 .let[p,c,0]:=bU.mp a;lia
def jn{n}(g:Gd qI.length t)(c:qI.length<=6):EntV 40 (n,qI,t):=#[{aR g.len '3',g.rows,λq a=>by let:=g.pos q a;lia,g.nd},g.len,c]
def L8:At:=(["q","b","zz","a","start","ab","c","none"])
def jo:∀x∈L8,C0 x:=by
 intro x a;let:x="q"\/x="b"\/x="zz"\/x="a"\/x="start"\/x="ab"\/x="c"\/x="none":=by simpa[L8]using a
 rcases this with rfl|rfl|rfl|rfl|rfl|rfl|rfl|rfl<;>show{'3','3',by unfold O2;decide}
def VY:L8.Nodup:=by decide
def jr(h:i<8):∃n,L8[i]?\n/\C0 n/\n∉L8.take i:=by let a:=h;show{L8[i],aH a,jo _ (getElem_mem a),λz=>?_};let[j,c,e]:=mem_iff_getElem.mp z;rw[getElem_take]at e;rw[aO]at c;let:=(getElem_inj VY).mp e;lia
inductive spBegun(C:Addr)(vs:dH)(H:Hp)(Q:VK)(E:XK):Prop|mk(b a h pp bk q nv:_)(c0:vs=[.ref b,nv,.ref h,.ref bk])(c1:Wh b a C h pp bk H q [] [] 0)(c2:Rp b (ZH b pp h bk) H (AH q) nv)(c3:Nms q)(c4:(∀x∈q,C0 x))(c5:∀H' B m,Wh b a C h pp bk H' q B B m->m<=8->Fr b a h pp bk H H'->B.length<=8->(B.map (·.1)).Nodup->(∀e∈B,EntV 40 e)->(∀e∈B,∀n∈e.2.1,n∈q)->Q (.bl true) H')
end
section
variable{K:Fg}
section
variable{b C h bk:Addr}{Bh B B':List Ent}{k:Nat}{wd n:Str}{x:P}{dv nv:V}{Q:VK}{E:XK}{t:Tl}
def jt(W:Wh b a C h pp bk H q B B m)(j:m<1000)(f:Rp b (ZH b pp h bk) H (.tup [.str "start",.str n,AH qI,Ac t]) dv)(d:StOk q (B.map (·.1)) n qI t)(c:∀v H1,Wh b a C h pp bk H1 q (B++[(n,qI,t)]) B (m+1)->Fr b a h pp bk H H1->Rp b (λp=>p=b) H1 (.tup [.str "done",.non]) v->Q v H1):spMark C [.ref h,dv] H Q E:=by
 show{b,a,h,pp,bk,q,Cp B,m,"start",[.str n,AH qI,Ac t],dv,λo'=>o'=Cp (B++[(n,qI,t)]),λ_=>False,0,W.bag,W.hs,j,λ_=>#[_,_,_,0],f,?_,λ_ z=>z.elim,λo' H1 v i ds g rv=>?_,λ_ _ _ z=>z.elim}
 .show{q,_,_,n,qI,t,0,d,jj (e:=(n,qI,t)) d.nw}
 .subst i;show c v H1 (W.did ds g) (Fr.ds ds) rv
def ju(W:Wh b a C h pp bk H q Bh B m)(g:Rp b (ZH b pp h bk) H (.tup [.str "start",.str n,AH qI,Ac t]) dv)(f:Rp b (ZH b pp h bk) H (AH q) nv)(e:StOk q (B.map (·.1)) n qI t)(c:∀v H1,Wh b a C h pp bk H1 q Bh (B++[(n,qI,t)]) m->Fr b a h pp bk H H1->Rp b (λp=>p=b) H1 (.tup [.str "done",.non]) v->Q v H1):Ls [nv,.ref bk,dv] H Q E:=by show .inl {b,a,ZH b pp h bk,bk,q,B,n,qI,t,dv,nv,0,W.bag,.inl rfl,W.zh,.inr (.inr (.inr rfl)),f,W.book,g,e,λH1 s bs t i=>?_};let d:Step b a H1 (AB H1 t (.tup [.str "done",.non])):=Step.new s.1 i;show c _ _ ((W.wrote s bs).st d) ((Fr.bs s).trans (Fr.st d)) #[t,_,0,AN,_,_,0,0,_,_,0,0,0]
end
noncomputable abbrev JG(q:At)(r:By)(d:Int)(e:Ent):Ent:=(e.1,e.2.1,Ar (BM e.2.2 (An q r e.2.1,d)))
def F8(q:At)(r:By)(B B':List Ent):Prop:=(B'=B\/∃d,r.length=q.length/\(∀e∈B,0<=(AY e.2.2 (An q r e.2.1)).getD 0+d)/\B'=B.map (JG q r d))
section
variable{b C h bk:Addr}{Bb B B':List Ent}{k:Nat}{wd:Str}{dv nv:V}{Q:VK}{E:XK}
def jv(hw:wd="enter"\/wd="withdraw")(W:Wh b a C h pp bk H q B Bb m)(G:m<1000)(y:Rp b (ZH b pp h bk) H (.tup [.str wd,AZ r,.int c]) dv)(p:r.length<=1000)(x:B.length<=8)(nd:(B.map (·.1)).Nodup)(ev:∀e∈B,EntV k e)(sub:∀e∈B,∀n∈e.2.1,n∈q)(I:k<1000)(f:∀v H1 l B',l<=m+1->Wh b a C h pp bk H1 q B' Bb l->Fr b a h pp bk H H1->F8 q r B B'->Q v H1):spMark C [.ref h,dv] H Q E:=by
 show{b,a,h,pp,bk,q,Cp B,m,wd,[AZ r,.int c],dv,λo'=>∃B',o'=Cp B'/\F8 q r B B',λg=>VR g,0,W.bag,W.hs,G,λe=>?_,y,?_,λg z=>z,λo' H1 v D ds A rv=>?_,λg H1 v L s rv=>?_}
 .subst e;let z||z:=hw<;>show bS z '3'
 .let u:∀e∈B,EntOk e/\∀n∈e.2.1,n∈q:=λe d=>{(ev e d).ok I,sub e d};let o:CM q.length r=true->r.length=q.length:=λz=>by unfold CM at z;rw[cB]at z;show aL z.1
  let 0||0:=hw
  .show{q,B,"enter",r,c,0,x,nd,p,Au (λz=>Au (λj=>#[u,_,0,.inr {c,o z,λe d=>?_,?_}]) (λ_=>.inr (.inl rfl))) (λ_=>.inl rfl)}
   .let:=jf (ev e d).tal (An q r e.2.1);lia
   .show cF λe d=>?_;unfold VH JG;rw[jg (ev e d).tal j.1]
  .show{q,B,"withdraw",r,c,0,x,nd,p,Au (λz=>Au (λj=>{u,λw=>#[_,0,.inr {-c,o z,λe d=>?_,?_}],λi e d M J=>.inr (.inr (.inr #[_,0]))}) (λ_=>.inr (.inl rfl))) (λ_=>.inl rfl)}
   .let:=w e d;lia
   .show cF λe d=>?_;let:=w e d;unfold VM JG;rw[show D0 e.2.2 (An q r e.2.1,c)=BM e.2.2 (An q r e.2.1,-c)from rfl,jh (ev e d).tal (by simp_all)]
 .let[B',0,t]:=D;show f v H1 (m+1) B' (aQ _) (W.did ds A) (Fr.ds ds) t
 .show f v H1 m B (cS _) (W.st s) (Fr.st s) (.inl rfl)
end
def F8.names(h:F8 q r B B'):B'.map (·.1)=B.map (·.1)/\B'.map (·.2.1)=B.map (·.2.1):=by
 let 0||[_,_,_,0]:=h
 .simp
 .rw[bZ,bZ];show#[0,0]
def F8.ent(h:F8 q r B B')(c:k<1000)(ev:∀e∈B,EntV k e):∀e∈B',EntV (k+1) e:=by
 let 0||[d,l,g,0]:=h
 .showλe a=>(ev e a).up (cS _)
 .intro f hf;let[e,a,0]:=bU.mp hf;let v:=ev e a;let t:=ji v.tal v.len c (r:=An q r e.2.1) (Ib _ _ _) (g e a);show#[t.1,t.2,v.r6]
end
section
variable{K:Fg}
def Ew{c}{p}:starEach (.Constant c k p::es) env=(false,eval (.Constant c k p) env)::starEach es env:=rfl
def VZ{v i}{p}:starEach (.Subscript v i p::es) env=(false,eval (.Subscript v i p) env)::starEach es env:=rfl
def jw{p}:starEach (.Name x p::es) env=(false,eval (.Name x p) env)::starEach es env:=rfl
def jx{p}{tg}:swapsWith (.Tuple es k p) tg l env=pure false:=rfl
def jy{c A B:Prop}[Decidable c]{P R:V->Hp->Prop}(hA:(∀v H,P v H->R v H)->c->A)(hB:(∀v H,P v H->R v H)->¬c->B)(fin:∀v H,P v H->R v H):if c then A else B:=Au (hA fin) (hB fin)
def jz(M:Ai K mg "_law_begun" JA)(T:TxtB mg)(qM:'E' "_law_pull" 1 ϊ (spP Di))(zN:'E' "_law_rooms" 4 Ϗ (spP VE))(zO:'E' "_law_drawn" 3 ["_law_bag_here","_law_room"] (spP Sn))(zP:'E' "_law_portion" 2 ϗ (spP O7))(Gm:'E' "_law_mark" 6 ϫ (spMark C))(b6:'E' "_law_due" 4 ό Ls):'E' "_law_begun" 7 ϛ (spBegun C):=by
 show DZ M LY (λ_ _ _ _ _ _ us hl=>JM hl (λ_ _ _ _=>rfl)) (λvs H Q E h=>?_) (λfa b8 A outer s H vs Q E m h=>?_)
 .let[_,_,_,_,_,_,_,0,_]:=h;rfl
 .let nd:=LY.nd;show{_,Aa (OX (k:=4) (λ_=>LY.nd) (N:=ύ) (sc:=AL JA) (qC:=[none]) '1' '3' dF (B3 dF (Ae (λ_=>zN) (λ_=>m.mq) (AA (qv 0) (AA (qv 1) AG)))) (Bw (k:=0) rfl (λ_=>show List.Nodup (["_law_room"]:At)from nofun)) (Eh (BN (λ_=>(Ds m)) Dt (qv 0) (Db AG) (A0 _))) (qv 0))
   (Aa (Ap (i:=5) nd rfl (Or.inl rfl) (DQ (Ae (λ_=>zO) (λ_=>m.mq) (AA (qv 0) (AA (qv 1) AG)))))
   (Aa (Ap (i:=6) nd rfl (Or.inl rfl) (DQ (FF (λ_=>(EI m)) EJ (Ae (λ_=>qM) (λ_=>m.mq) (AA (qv 0) (AA AV AG))) AV (A0 _))))
   (Aa (EU PassesOwn.never rfl (GC rfl T.b_range (AK (DQ (Aw (λ_=>Bn) Bo 'I' nofun (AA (qv 4) AG))) Ab)) (Ag (i:=7) nd rfl (Or.inl rfl))
    (Aa (Ap (i:=8) nd rfl (Or.inl rfl) (DQ (Ae (λ_=>zP) (λ_=>m.mq) (AA (qv 1) (AA (qv 5) (AA (Av 'J' Ay (qv 4) (qv 7) dG) AG))))))
    (Aa (BY (Dh (CL (CS (qv 6)))) (Ao (Ap (i:=8) nd rfl (Or.inl rfl) (DQ (Ae (λ_=>zO) (λ_=>m.mq) (AA (qv 0) (AA (Av 'J' Ay (qv 4) (qv 7) dG) AG)))))) BX)
    (Aa (OX (k:=8) (λ_=>LY.nd) (N:=ύ) (sc:=AL JA) (N':=Ϝ) (qC:=[none,none]) '1' '3' dF (B3 dF (qv 8)) (FK (i:=0) (j:=1) rfl rfl dF dF (λ_=>(Al (Ag (i:=0) (show List.Nodup (Ϝ:At)from nofun) rfl (Or.inl rfl)) (Al (Ag (i:=1) (show List.Nodup (Ϝ:At)from nofun) rfl (Or.inl rfl)) Br)))) Bm (Db (AA (qv 0) (AA (Aw (λ_=>(Wu rfl)) dz (λ_=>T.b_min) nofun (AA (qv 1) (AA (B2 (λ_=>JV) NF AV AV) AG))) AG))))
    (@Aa _ _ _ _ _ (@Ap _ _ 9 _ _ _ _ nd rfl (Or.inl rfl) (@DU _ _ _ _ _ (@AK _ _ _ _ _ CP (@AK _ _ _ _ _ (DQ (Av 'J' Ay (Cj (AA Ci (AA Ci (AA Ci (AA Ci (AA Ci (AA Ci (AA Ci (AA Ci AG (λ_=>Ew)) (λ_=>Ew)) (λ_=>Ew)) (λ_=>Ew)) (λ_=>Ew)) (λ_=>Ew)) (λ_=>Ew)) (λ_=>Ew))) (qv 7) dG)) (AK (DQ (Av 'J' Ay (qv 4) (qv 7) dG)) (AK (pv 8) Ab jw) VZ) VZ) Ew)) jx (by first|show .inl rfl|show .inr rfl))
    (Ao (BY (Dl (Ds m) (CF Gm m (by rfl) (AK (pv 2) (AK (pv 9) Ab))) (CF b6 (m.mq) (by rfl) (AK (pv 1) (AK (pv 3) (AK (pv 9) Ab)))) (A0 _)) CY BX)))))))
   (Ao (B9 PY))))),?_}
  let[b,a,h,pp,bk,q,nv,0,W,rq,nq,gq,k]:=h;let g:ZH b pp h bk b:=.inl rfl;let hb:=W.bag;let new:∀{H1 H2:Hp}{x:P}{v:V},Step b a H H1->Rp b (λp=>H1 p≠none) H2 x v->Rp b (ZH b pp h bk) H2 x v:=λ{H1 H2 x v}s r=>r.keep (λp o hz e=>{λz=>hz λe0=>W.zh p z (s.free e0),e}) λp xs e=>e;show{b,a,[.sh .bag,.sh (AH q),.emp,.emp,.emp,.emp,.emp,.emp,.emp,.emp],λx f=>(∃rs:List At,x=BO rs/\rs.length<=8/\∀r∈rs,Rm q r/\r≠[])/\f=.nw,hb,(A9 rfl (A9 (CJ g rq) (AS (AS (AS (AS (AS (AS (AS (AS Co)))))))))),#[q,0,nq,λrs h8 a7=>#[_,0,nofun,by rw[aA];lia,A2.filter (λr=>!decide (r=[])) AH (λr _ _=>EL r) (λr _ M hM=>Be (EL r) {0,#['2','2'],_,0,?_}) #[{_,0,aR (length_filter_le _ _) h8,λr m=>?_},0]]],λx f v4 H1 l s1 rx J=>?_}
  .let e:AU (AH r) (.tup [])=decide (r=[]):=Ng r [];change if(!AU (AH r) (.tup []))=true then _ else _
   rw[e];by_cases z:r=[]
   .rw[aK z]at hM⊢;show CD (hM .fr)
   .rw[cK z]at hM⊢;show Qd (hM _)
  .rw[cX]at m;show{a7 r m.1,λz=>?_};rw[aK z]at m;show bS m.2 '3'
  let[[rs,0,h8,a7],0]:=l;let b1:=new (Step.refl hb) (J (.inl rfl));show{b,a,[.sh .bag,.sh (AH q),.emp,.emp,.emp,.emp,.emp,.emp,.emp,.emp],λx f=>(∃t,x=Ac t/\Gd q.length t)/\f=.nw,s1.bag,(A9 rfl (A9 (CJ g (Am g hb s1 rq)) (AS (AS (AS (AS (AS (AS (AS (AS Co)))))))))),#[q,0,by let:=nq.len;lia,λt dt=>#[{_,0,VX dt},0]],λx f v5 H2 l ae _ J=>?_};let[[t0,0,g0],0]:=l;let s2:=s1.trans ae;let b0:=new s1 (J (.inl rfl));let ao:=Am g s1.bag ae b1;show{b,a,[.sh .bag,.emp,.emp,.emp,.emp,.emp,.emp,.emp,.emp,.emp],λx _=>∃c,x=.bl c,s2.bag,(A9 rfl (AS (AS (AS (AS (AS (AS (AS (AS (AS Co)))))))))),#[2,0,'3','3',λr _ _=>#[#['2','2'],_,0]],λx f v6 H3 l a3 rx _=>?_};let[al,0]:=l;obtain rfl:v6=.bl al:=rx;let s3:=s2.trans a3;let a1:=Am g s2.bag a3 ao;let am:=Am g s2.bag a3 b0;show{b,a,[.emp,.emp,.emp,.emp,.sh (BO rs),.emp,.emp,.emp,.emp,.emp],λx _=>x=.int ((rs.map AH).length:Int),s3.bag,(AS (AS (AS (AS (A9 (CJ g a1) (AS (AS (AS (AS (AS Co)))))))))),0,λx f vl H4 l a2 rx _=>?_};subst l;obtain rfl:vl=.int _:=rx;let s4:=s3.trans a2;let W4:=W.st s4;let an:=Am g s3.bag a2 a1;let ak:=Am g s3.bag a2 am;let ay:=Am g hb s4 rq;show{_,0,⋯,by rw[aA];lia,JS (λi U H'=>(∃x7 x8 x9:Option V,U=[some (.ref b),some nv,some (.ref h),some (.ref bk),some v4,some v5,some (.bl al),x7,x8,x9])/\∃B,Wh b a C h pp bk H' q B B i/\Fr b a h pp bk H4 H'/\B.map (·.1)=L8.take i/\(∀e∈B,EntV 40 e)/\(∀e∈B,∀n∈e.2.1,n∈q)/\i<=8) #[#[_,_,_,0],[],W4,Fr.refl,0,(λ_ h=>nomatch h),(λ_ h=>nomatch h),'3'] (λi U H5 hi hI=>?_) (λU H5 hI=>?_)}
  case refine_2=>
   let[_,B,u,f5,hn,ev,sb,i8]:=hI;rw[Int.toNat_natCast,aA]at u;let hl:B.length<=8:=by let:=aT length hn;rw[aA,aO]at this;let e8:L8.length=8:=rfl;simp_all
   show k H5 B _ u h8 ((Fr.st s4).trans f5) hl (by rw[hn];show VY.sublist (take_sublist _ _)) ev sb
  done<;>let[[x7,x8,x9,0],B,u,f5,hn,ev,sb,i8]:=hI;rw[Int.toNat_natCast,aA]at hi;let[rm,ai]:=a7 rs[i] (getElem_mem hi);let I:rs[i]?\rs[i]:=aH hi;generalize rs[i]=qI at rm ai I;let[nm,ap,b4,b3]:=jr (show i<8 by lia);let q6:=nq.len;let r6:qI.length<=6:=aR rm.len q6;let a9:atI (rs.map AH) (0+(i:Int))\(AH qI):=by rw[Int.zero_add];show Cg (by rw[bO,I];rfl)
  let ag:=W4.rp f5 ay;let b2:=W4.rp f5 an;let aw:=W4.rp f5 ak;let sl:∀{O:Hp},Step b a H5 O->∀(y8:S)(o8:Option V),K0 b O y8 o8->Bf b O [.sh .bag,.sh (AH q),.emp,.emp,.sh (BO rs),.sh (Ac t0),.sh (.bl al),.sh (.int (0+(i:Int))),y8,.emp] [some (.ref b),some nv,some (.ref h),some (.ref bk),some v4,some v5,some (.bl al),some (.int (0+(i:Int))),o8,x9]:=λ{O}σ y8 o8 h8=>(A9 rfl (A9 (CJ g (Am g u.bag σ ag)) (AS (AS (A9 (CJ g (Am g u.bag σ b2)) (A9 (CJ g (Am g u.bag σ aw)) (A9 rfl (A9 rfl (gC h8 (AS Co))))))))));let G:∀{O H7:Hp}{x:P}{v:V},Step b a H5 O->Rp b (λp=>O p≠none) H7 x v->Rp b (ZH b pp h bk) H7 x v:=λ{O H7 x v}s r=>r.keep (λp o hz e=>{λz=>hz λe0=>u.zh p z (s.free e0),e}) λp xs e=>e;show{b,a,_,λx f=>x=Ac (BL q t0 qI)/\f=.nw,u.bag,sl (Step.refl u.bag) .emp _ trivial,{_,a9,q,t0,qI,0,{⋯,rm.sub,by let:=g0.len;lia,g0.rows},by let:=g0.len;lia,0,0},λx f v8 O l σ _ J=>?_};let[0,0]:=l;let az:=G (Step.refl u.bag) (J (.inl rfl));show{b,a,_,λc=>c=!al,σ.bag,sl σ .emp _ trivial,#[_,0,0],λc H7 hc ac=>?_};subst hc;let s7:=σ.trans ac;refine' jy (P:=λv H=>∃D,Gd qI.length D/\Step b a H5 H/\Rp b (ZH b pp h bk) H (Ac D) v) ?hA ?hB ?L
  case hA=>intro L z;show{b,a,_,λx f=>(∃D,x=Ac D/\Gd qI.length D)/\f=.nw,s7.bag,sl s7 .emp _ trivial,#[_,a9,qI,0,⋯,λt dt=>#[{_,0,VX dt},0]],λx f v9 H8 l av _ J=>?_};let[[D,0,g1],0]:=l;show L v9 H8 {D,g1,s7.trans av,G s7 (J (.inl rfl))}
  case hB=>intro L z;show L v8 H7 {_,jk g0,s7,Am g σ.bag ac az}
  rintro v8 H8⟨D,g1,s8,ax⟩;let[g2,c2]:=jm g1;let b7:=g1.len;show{b,a,_,λx f=>x=Ac (D.map HJ)/\f=.nw,s8.bag,sl s8 (.sh (Ac D)) _ {_,0,CJ g ax},#[_,0,nofun,by rw[aA];lia,A2.map (λq=>CB (HJ q)) (λq _=>KU _) (λq hq M hM=>Ij #[#['3','3','3'],0,hM _]) {by unfold Ac;rw[bZ];rfl,0}],λx f v9 H9 l au _ J=>?_};let[0,0]:=l;let s9:=s8.trans au;let aj:=G s8 (J (.inl rfl));generalize D.map HJ=t2 at g2 c2 aj;show{b,a,_,λx _=>x=.str nm,s9.bag,sl s9 .emp _ trivial,#[0,_,?_,0],λx f vn bb l a0 rx _=>?_}
  .rw[Int.zero_add];show Cg (xs:=L8.map P.str) (by rw[bO,ap];rfl)
  subst l;obtain rfl:vn=.str nm:=rx;let a6:=s9.trans a0;show#[b,a,_,λx _=>x=AH qI,a6.bag,sl a6 .emp _ trivial,#[_,a9,0],λx f vr ab l ρ rx _=>{_,0,(by decide:4<=sizeLine),λd hd=>?_}];subst l;let a5:=a6.trans ρ;let sd:Step b a ab (AB ab d (.tup [.str "start",.str nm,vr,v9])):=Step.new a5.bag hd;let a4:=a5.trans sd;let aa:=u.st a4;let rd:Rp b (ZH b pp h bk) (AB ab d (.tup [.str "start",.str nm,vr,v9])) (.tup [.str "start",.str nm,AH qI,Ac t2]) (.ref d):={d,_,0,AN,_,_,0,0,_,_,0,0,_,_,0,Rp.imm (EL _) (Am (Z:=λp=>p=b) rfl a5.bag sd rx),_,_,0,Am g s9.bag ((a0.trans ρ).trans sd) aj,0};let so:StOk q (B.map (·.1)) nm qI t2:={b4,by rw[hn];show b3,by rw[hn,aO];lia,r6,ai,λx l=>gq x (rm.sub x l),VV rm.srt rm.nd,rm.sub,jl g2,by let:=g2.len;lia,c2};let ah:=Am g u.bag a4 ag;show#[_,0,_,0,jt (E:=E0) aa ⋯ rd so λw1 b5 as a8 r1=>#[_,0,_,0,_,0,?_]];change Ls [nv,.ref bk,.ref d] b5 (λy H2=>NP w1 y H2 _) E0;show ju as (aa.rp a8 rd) (aa.rp a8 ah) so λw2 ba ar aq r2=>?_;show OW Dt (K:=λz _=>z=.bl (!AU (.tup [.str "done",.non]) (.tup [.str "done",.non]))) ar.bag (as.ri aq rfl r1) r2 #[#['2','2'],0] λz f v' b9 hz af rz=>?_;subst hz;obtain rfl:v'=.bl _:=rz;rw[IE 9 '2'];show#[_,0,CD #[#[_,_,_,0],B++[(nm,qI,t2)],ar.st af,((f5.trans (Fr.st a4)).trans (a8.trans aq)).trans (Fr.st af),?_,λe he=>?_,λe he=>?_,⋯]]
  .rw[cO,hn,take_add_one,ap];rfl
  .let z||z:=bA.mp he
   .show ev e z
   .rw[bI.mp z];show jn g2 r6
  .let z||z:=bA.mp he
   .show sb e z
   .rw[bI.mp z];show rm.sub
end
section
variable{K:Fg}
def Lu(f:Ent->P):Sp:=(λvs H Q _=>∃b a Z B p,vs=[.ref p]/\Bag H b a/\Z b/\Rp b Z H (Cp B) (.ref p)/\B.length<=8/\∀v H',Step b a H H'->Rp b (λx=>x=b) H' (.lst (B.map f)) v->Q v H')
def Va{f}{B:List Ent}{us:dH}{Q:VK}{o}(ek:qH=((B.map (·.1)).map Aq).zip us)(ρ:Bag H b a)(zb:Z b)(nb:p≠b)(pa:p≠a)(G:H p\(.dK qH))(T:AC b Z H (B.map C3) us)(B8:B.length<=8)(hf:∀{Z'}{H'}{e}{A y},Rp b Z' H' (AH e.2.1) A->Rp b Z' H' (Ac e.2.2) y->∃u,([some A,some y]:L2.St)[j]?\(some u)/\Rp b Z' H' (f e) u)(k:∀v H',Step b a H H'->Rp b (λx=>x=b) H' (.lst (B.map f)) v->Q v H'):Hc (K5 p o qH) [none,none] (gTup K 2 (gCons (Bq 0) (gCons (Bq 1) E4))) Qi (tVar j) U (λv H'=>H' p\(.frz o (.dK qH))/\Q v (AB H' p (.dK qH))) (AB H p (.frz o (.dK qH))):=by
 let ul:us.length=B.length:=by rw[<-T.length,aA]
 let σ:qH.length=B.length:=by rw[ek,length_zip,aA,aA];simp_all
 let E:Bag (AB H p (.frz o (.dK qH))) b a:=ρ.put nb pa;show gL (λD i ys H2=>Step b a (AB H p (.frz o (.dK qH))) H2/\H2 D\(.lst ys)/\AB H p (.frz o (.dK qH)) D=none/\ys.length=i/\AC b (λx=>x=b\/x=p\/x=D) H2 ((B.take i).map f) ys) (λD c=>{Step.new E c,AN,c,0,0}) (λD i ys H2 c hi I=>{I.2.1,I.1.same p _ nb AN}) (λD c i pr ys H2 n I=>?_) (λD ys H2 c I=>?_)
 .let[l,g,_,N,C]:=I;let hi:i<B.length:=by rw[<-σ];show(aI.mp n).1
  let J:B[i]?\B[i]:=aH hi;let[v,hv,rv]:=T.get (i:=i) (x:=C3 B[i]) (by rw[bO,J];rfl);let M:pr=(Aq B[i].1,v):=by
   rw[ek]at n;let z:(((B.map (·.1)).map Aq).zip us)[i]?\(Aq B[i].1,v):=by rw[getElem?_zip_eq_some];show{by rw[bO,bO,J];rfl,hv}
   rw[n]at z;show oI z
  subst M;let L:B.take (i+1)=B.take i++[B[i]]:=by rw[take_add_one,J];rfl
  rw[L,cO];generalize B[i]=e at*;let nD:∀{x o'},H x\o'->x≠D:=λ{x o'}h z=>by
   by_cases d:x=p
   .rw[<-z,d,AN]at c;cases c
   .rw[<-z,AE d,h]at c;cases c
  let h2:∀x o',x≠b->x≠p->H x\o'->H2 x\o':=λx o' q n2 h=>l.same x o' q (by rw[AE n2];show h);let r2:Rp b (λx=>x=b\/x=p\/x=D) H2 (C3 e) v:=VJ rv (λx vs zx m=>by let O:x≠b:=λz=>zx (z▸zb);let d:x≠p:=CC m G '5';show{λz=>z.elim O λz=>z.elim d (nD m),h2 x _ O d m}) λx vs m=>h2 x _ (ρ.neT m).1 (CC m G '5') m
  done<;>(let[t,_,0,ht,A,_,0,r1,y,_,0,r3,0]:=r2;let[u,hu,rf]:=hf r1 r3);show{t,[A,y],0,.of ht,0,_,_,0,_,_,0,0,u,hu,g,aU (by lia:ys.length<1000) '3',{l.bag.put (E.nb c) (E.na c),λx o' q h=>by rw[AE (Af h c)];show l.same x o' q h},AN,c,by rw[aG,N];rfl,?_};show(C.snoc rf).keep (λx o' r h=>{r,by rw[AE (λz=>r (.inr (.inr z)))];show h}) λx vs h=>by rw[AE (λz=>by rw[z,g]at h;cases h)];show h
 .let[l,g,w,N,C]:=I;let s:=l.same p _ nb AN;rw[σ,take_length]at C;let pD:p≠D:=Af AN w;show#[s,k _ _ {l.bag.put nb pa,λx o' q h=>?_} {D,ys,0,E.nb w,by rw[AE (Ne.symm pD)];show g,C.keep (λx o' r h=>{λz=>r (.inl z),by rw[AE (λz=>r (.inr (.inl z)))];show h}) λx vs h=>by rw[AE (λz=>by rw[z,s]at h;cases h)];show h}];by_cases d:x=p
  .rw[d,G]at h;rw[d,AN];show h
  .rw[AE d];show l.same x o' q (by rw[AE d];show h)
def PN(h:Bag H b a)(f:Z b)(r:Rp b Z H (Cp B) (.ref p)):∃us,H p\(.dK (((B.map (·.1)).map Aq).zip us))/\AC b Z H (B.map C3) us/\p≠b/\p≠a:=by let[q,us,e,pb,c,d,g]:=r;cases e;show{us,c,g,λz=>pb (z▸f),λz=>by let[l,d]:=h.ata;rw[z,d]at c;cases c}
def j0(D:Ai K mg "open_rooms" LK):'E' "open_rooms" 1 ϟ (Lu λe=>AH e.2.1):=by
 show DZ D gf (λ_ _ _ _ _ _ us m=>Cd m dF) (λvs H Q E h=>?_) (λv n A outer s H vs Q E u h=>?_)
 .let[_,_,_,_,_,0,_]:=h;rfl
 .let f:List.Nodup (ϖ):=by decide+kernel
  show{_,Ao (K4 (B9 (Jm (N:=ϟ) (sc:=AL LK) (qC:=[none,none]) '1' rfl (UZ (pv 0)) (Mg rfl rfl) (λp=>DI rfl (Al (Ag (i:=0) f rfl (Or.inl rfl)) (Al (Ag (i:=1) f rfl (Or.inl rfl)) Br))) (λp=>Jj) (λp=>pv 0)))),?_};done<;>(let[b,a,Z,B,p,0,g,d,r,q,k]:=h;let[us,c,j,nb,pa]:=PN g d r);show#[p,_,c,(λ_ _ e=>nomatch(c.symm.trans e)),λo=>{_,0,p,o,_,0,AN,Va rfl g d nb pa c j q (λl _=>#[_,0,l]) k}]
def j4(D:Ai K mg "open_tallies" LL):'E' "open_tallies" 1 ϟ (Lu λe=>Ac e.2.2):=by
 show DZ D gg (λ_ _ _ _ _ _ us m=>Cd m dF) (λvs H Q E h=>?_) (λv n A outer s H vs Q E u h=>?_)
 .let[_,_,_,_,_,0,_]:=h;rfl
 .let f:List.Nodup (ϖ:At):=by decide+kernel
  show{_,Ao (K4 (B9 (Jm (N:=ϟ) (sc:=AL LL) (N':=ϖ) (qC:=[none,none]) '1' rfl (UZ (pv 0)) (Mg (K:=K) rfl rfl) (λp=>DI rfl (Al (Ag (i:=0) f rfl (Or.inl rfl)) (Al (Ag (i:=1) f rfl (Or.inl rfl)) Br))) (λp=>Jj) (λp=>pv 1)))),?_};done<;>(let[b,a,Z,B,p,0,g,d,r,q,k]:=h;let[us,c,j,nb,pa]:=PN g d r);show#[p,_,c,(λ_ _ e=>nomatch(c.symm.trans e)),λo=>{_,0,p,o,_,0,AN,Va rfl g d nb pa c j q (λ_ l=>#[_,0,l]) k}]
end
section
variable{K:Fg}
def Lv:pF:=(λxs K=>∃one qD,xs=[AH one,AH qD]/\one.length<=100/\K (AH (BG one qD)))
def j5(D:Ai K mg "common" LB)(T:TxtB mg):'E' "common" 1 ϓ (spP Lv):=by
 show BI D gW (λ_ _ _ _ _ _ us c=>B0 c dG) (λxs K h=>?_) '3' (λg f A outer s H E e=>{_,(Ad (A5 (Bv (λ_=>EA) EG (λ_=>T.b_tuple) nofun (AA (BR (N:=ϓ) (sc:=AL LB) (N':=["name","other"]) (qC:=[none,some 1]) '1' '3' dF (ED dF (qv 0)) (Bw (k:=0) rfl (λ_=>show List.Nodup (["name","other"]:At)from nofun)) (Eh (BN (λ_=>(II e)) IJ (qv 0) (qv 1) (by rfl))) (qv 0)) AG)))),λxs K h=>?_})
 .let[_,_,0,_]:=h;rfl
 .let[one,d,0,c,h]:=h;simp![A4];show{⋯,A2.filter (λn=>decide (n∈d)) P.str '8' (λn _ M a=>?_) ?_}
  .simp![KG];let a:=a .cl;show Au (λz=>?_) (λz=>?_)
   .rw[aC (~~~z)]at a;show a
   .rw[aB (~~~z)]at a;show a
  .simp![A4];show h
def j6(D:Ai K mg "_law_both" LZ)(T:TxtB mg):'E' "_law_both" 1 Ϣ (spP Lv):=by
 show BI D gw (λ_ _ _ _ _ _ us c=>B0 c dG) (λxs K h=>?_) '3' (λg f A outer s H E e=>{_,(Ad (A5 (Bv (λ_=>EA) EG (λ_=>T.b_tuple) nofun (AA (BR (N:=Ϣ) (sc:=AL LZ) (qC:=[none,some 1]) '1' '3' dF (ED dF (qv 0)) (Bw (k:=0) rfl (λ_=>show List.Nodup (["_law_name","_law_other"]:At)from nofun)) (Eh (BN (λ_=>(II e)) IJ (qv 0) (qv 1) (by rfl))) (qv 0)) AG)))),λxs K h=>?_})
 .let[_,_,0,_]:=h;rfl
 .let[one,d,0,c,h]:=h;simp![A4];show{⋯,A2.filter (λn=>decide (n∈d)) P.str '8' (λn _ M a=>?_) ?_}
  .simp![KG];let a:=a .cl;show Au (λz=>?_) (λz=>?_)
   .rw[aC (~~~z)]at a;show a
   .rw[aB (~~~z)]at a;show a
  .simp![A4];show h
def Vb:pF:=(λxs K=>∃qI t part,xs=[AH qI,Ac t,AH part]/\Sh qI t part/\K (Ac (CN (BH (Bz qI t part)))))
def j7(D:Ai K mg "shared" LH)(T:TxtB mg)(l:'E' "places" 2 ϯ (spP Lo))(g:'E' "picked" 1 ϭ (spP Lq))(m:'E' "summed" 1 ["papers"] (spP FW)):'E' "shared" 3 ["room","rows","part"] (spP Vb):=by
 show BI D Ue (λ_ _ _ _ _ _ us r=>DH r '8') (λxs K h=>?_) '3' (λy v A outer s H E d=>{_,(Aj (BF (k:=3) (λ_=>Ue.nd) (Ae (λ_=>l) (λ_=>d.mq) (AA (qv 0) (AA (qv 2) AG)))) (Ad (A5 (Ae (λ_=>m) (λ_=>d.mq) (AA (BR (N:=["room","rows","part","spots"]) (sc:=AL LH) (N':=["row","count","spots"]) (qC:=[none,none,some 3]) '1' '3' dF (B3 dF (qv 1)) (FK (i:=0) (j:=1) rfl rfl dF dF (λ_=>(Al (Ag (i:=0) (show List.Nodup (["row","count","spots"]:At)from nofun) rfl (Or.inl rfl)) (Al (Ag (i:=1) (show List.Nodup (["row","count","spots"]:At)from nofun) rfl (Or.inl rfl)) Br)))) Bm (Db (AA (Ae (λ_=>g) (λ_=>d.mq) (AA (qv 0) (AA (qv 2) AG))) (AA (qv 1) AG)))) AG))))),λxs K h=>?_})
 .let[_,_,_,0,_]:=h;rfl
 .let[qI,t,part,0,a,h]:=h;simp![Lo,Lq,FW];let h1:=a.len;let h2:=a.few;show{⋯,a.sub,?_};show{⋯,A2.map (λq=>CB (An qI q.1 part,q.2)) (λ_ _=>KU _) (λq f M c=>?_) ?_}
  .simp![A4];let c:=c .nw;let e:An qI q.1 part=(part.map (dO qI)).map λ(j:Nat)=>q.1.getD j 0:=by unfold An;rw[bZ];rfl
   rw[e]at c;show{part.map (dO qI),0,by rw[aA];lia,λj u=>?_,c};let[n,o,0]:=bU.mp u;rw[a.rows q f];show OB (a.sub n o)
  .simp![A4];show{Bz qI t part,by unfold Bz;rw[bZ];rfl,by unfold Bz;rw[aA];lia,{part.length,λq f=>?_},h};let[p,x,0]:=bU.mp f;show Ib _ _ _
def JH:pF:=(λxs K=>∃qI t qB u,xs=[AH qI,Ac t,AH qB,Ac u]/\qI.length<=100/\qB.length<=100/\Tal qI.length t/\Tal qB.length u/\K (eL (Dx (BL qI t (BG qI qB)) (BL qB u (BG qI qB)))))
def j8(D:Ai K mg "bar" LI)(T:TxtB mg)(n:'E' "common" 1 ϓ (spP Lv))(i:'E' "shared" 3 ["room","rows","part"] (spP Vb)):'E' "bar" 4 Ϧ (spP JH):=by
 show BI D Iu (λ_ _ _ _ _ _ us o=>JM o (λ_ _ _ _=>rfl)) (λxs K h=>?_) '3' (λB v A outer s H E d=>?_)
 .let[_,_,_,_,0,_]:=h;rfl
 .let j:=DX d;show{_,(Aj (BF (k:=4) (λ_=>Iu.nd) (Ae (λ_=>n) (λ_=>d.mq) (AA (qv 0) (AA (qv 2) AG))))
 (Aj (BF (k:=5) (λ_=>Iu.nd) (Bv (λ_=>(IQ rfl d)) IR (λ_=>T.b_dict) nofun (AA (Ae (λ_=>i) (λ_=>d.mq) (AA (qv 0) (AA (qv 1) (AA (qv 4) AG)))) AG)))
 (Aj (BF (k:=6) (λ_=>Iu.nd) (Bv (λ_=>(IQ rfl d)) IR (λ_=>T.b_dict) nofun (AA (Ae (λ_=>i) (λ_=>d.mq) (AA (qv 2) (AA (qv 3) (AA (qv 4) AG)))) AG)))
 (Aj (RZ (k:=7) (λ_=>Iu.nd) (N:=Ϭ) (sc:=AL LI) (N':=["row","one","other"]) (qC:=[none,some 5,some 6]) '1' '3' dF (B3 dF (B2 (λ_=>Hz) IB (Bv (λ_=>(IM rfl)) IN (λ_=>T.b_list) nofun (AA (qv 5) AG)) (Bv (λ_=>(IM rfl)) IN (λ_=>T.b_list) nofun (AA (qv 6) AG)))) (Bw (k:=0) rfl (λ_=>show List.Nodup (["row","one","other"]:At)from nofun)) (Eh (BN (λ_=>(Ds d)) Dt (Fq (λ_=>j) (qv 1) (qv 0) AV) (Fq (λ_=>j) (qv 2) (qv 0) AV) (A0 _))) (qv 0))
 (Ad (A5 (cn dF (λ_=>d) (λ_=>T.b_min) (qv 7) Ju))))))),λxs K h=>?_}
  let[qI,t,qB,u,0,l1,l2,g,c,h]:=h;let y:=OF qI qB;let q:CN (BH (Bz qI t (BG qI qB)))=BL qI t (BG qI qB):=Tg (Dy g);let p:CN (BH (Bz qB u (BG qI qB)))=BL qB u (BG qI qB):=Tg (Dy c);let m:Tal (BG qI qB).length (BL qI t (BG qI qB)):=G9 (Dy g) g.few;let l:Tal (BG qI qB).length (BL qB u (BG qI qB)):=G9 (Dy c) c.few;let G:=m.few;let C:=l.few;show#[qI,qB,0,⋯,Be (EL _) {qI,t,_,0,Ks g ⋯ (HA _ _).1,?_}];rw[q];show{_,0,⋯,?_};rw[Ia m.nd];show{qB,u,_,0,Ks c ⋯ (HA _ _).2,?_};rw[p];show{_,0,⋯,?_};rw[Ia l.nd];generalize BL qI t (BG qI qB)=a at*;generalize BL qB u (BG qI qB)=b at*;show{by rw[aA,aA,aA,aA];lia,_,0,by rw[Kz,Kz];nofun,by rw[aG,aA,aA,aA,aA];lia,?_};rw[<-cO];show A2.filter (λr=>decide ((AY a r).getD 0≠(AY b r).getD 0)) AZ (λ_ _ _=>CI _) (λr _ M f=>Be (CI _) #[{0,λ_ h=>nomatch h},_,DN r,F5 _,0,{0,λ_ h=>nomatch h},_,DN r,F5 _,0,?_]) ?_
  .let f:=f .cl;rw[F4,F4];show#[#[0,0],_,0,Au (λz=>?_) (λz=>?_)]<;>rw[Gy]at z
   .rw[aC (~~~z)]at f;show f
   .rw[aB (~~~z)]at f;show f
  .unfold Dx Ic at h;show#[_,0,0,λz=>#[0,?_],λx r e=>{F1 (CI _),?_}]
   .rw[z]at h;show h
   .rw[e,eK]at h;show h
structure Tls(rs:List At)(ts:List Tl)(n:Nat):Prop where
 len:ts.length=rs.length
 tal:∀(i:Nat)(r:At)(t:Tl),rs[i]?\r->ts[i]?\t->Tal r.length t
 few:∀t∈ts,t.length<=n
noncomputable abbrev HK(ts:List Tl):P:=.lst (ts.map Ac)
def j9(h):atI (ts.map Ac) (n:Int)\(Ac ts[n]):=Cg (by rw[bO,aH h];rfl)
end
section
variable{K:Fg}
noncomputable abbrev Ey(q:Nat×Nat×By):P:=.tup [.int q.1,.int q.2.1,AZ q.2.2]
def kA(q):(Ey q).imm=true:='2'
def Cq(rs:List At)(ts:List Tl)(k i:Nat):List (Nat×Nat×By):=(((Dx (BL (rs.getD k []) (ts.getD k []) (BG (rs.getD k []) (rs.getD i []))) (BL (rs.getD i []) (ts.getD i []) (BG (rs.getD k []) (rs.getD i [])))).map λr=>(k,i,r)).toList)
def JI(d)(hi:i<rs.length)(a:k<ts.length)(c:i<ts.length):Cq rs ts k i=((Dx (BL rs[k] ts[k] (BG rs[k] rs[i])) (BL rs[i] ts[i] (BG rs[k] rs[i]))).map λr=>(k,i,r)).toList:=by unfold Cq;simp only[bW,aH d,aH hi,aH a,aH c,Option.getD_some]
def D2(rs:List At)(ts:List Tl)(k:Nat):List (Nat×Nat×By):=((List.range (rs.length-(k+1))).flatMap λd=>Cq rs ts k (k+1+d))
def D3(rs:List At)(ts:List Tl):List (Nat×Nat×By):=((List.range rs.length).flatMap (D2 rs ts))
def Vc(rs)(ts)(k i):(Cq rs ts k i).length<=1:=by unfold Cq;cases Dx _ _<;>simp
def PP{α c:Type}(l:List α)(f:α->List c)(h:∀a,(f a).length<=n):(l.flatMap f).length<=l.length*n:=by induction l with|nil=>simp|cons a l d=>rw[flatMap_cons,aG,length_cons];grind
def kB(rs)(ts)(k):(D2 rs ts k).length<=rs.length:=by let:=PP (List.range (rs.length-(k+1))) (λd=>Cq rs ts k (k+1+d)) (λd=>Vc rs ts k (k+1+d));rw[length_range]at this;unfold D2;omega
def Vd(rs)(ts)(j):((List.range j).flatMap (D2 rs ts)).length<=j*rs.length:=by
 let:=PP (List.range j) (D2 rs ts) (kB rs ts)
 rwa[length_range]at this
structure Brs(rs:List At)(ts:List Tl):Prop where
 l8:rs.length<=8
 rl:∀r∈rs,r.length<=100
 tl:Tls rs ts 1000
def JJ:pF:=(λxs K=>∃rs ts,xs=[BO rs,HK ts]/\Brs rs ts/\K (.lst ((D3 rs ts).map Ey)))
noncomputable abbrev Ez(rs:List At)(ts:List Tl)(bs:List (Nat×Nat×By))(k x y:S):dJ:=[.sh (BO rs),.sh (HK ts),.own (.lst (bs.map Ey)),k,x,y]
def Lw:pS:=(λE Y=>∃rs ts bs k i x,Brs rs ts/\k<rs.length/\i<rs.length/\bs.length<=1000/\Y=Ez rs ts bs (.sh (.int (k:Nat))) (.sh (.int (i:Nat))) x/\∀x,E.nx (Ez rs ts (bs++Cq rs ts k i) (.sh (.int k)) (.sh (.int i)) x))
def HL:pS:=(λE Y=>∃rs ts bs k x y,Brs rs ts/\k<rs.length/\bs.length<=100/\Y=Ez rs ts bs (.sh (.int (k:Nat))) x y/\∀x y,E.nx (Ez rs ts (bs++D2 rs ts k) (.sh (.int k)) x y))
def PQ:pS:=(λE Y=>∃rs ts,Brs rs ts/\Y=Ez rs ts [] .emp .emp .emp/\∀z x y,E.nx (Ez rs ts (D3 rs ts) z x y))
noncomputable def Ve:∀E Y,Lw E Y->(M6 (Hr (J0 JH (C7 (Da Fo (CG 0) (CG 3)) (C7 (Da Fo (CG 1) (CG 3)) (C7 (Da Fo (CG 0) (CG 4)) (C7 (Da Fo (CG 1) (CG 4)) FE))))) 5) (M7 (GS (Da NG (CG 5) (pK P.non))) (IK 2 (Mt λY K=>C7 (CG 3) (C7 (CG 4) (C7 (CG 5) FE)) Y λxs=>xs.length=3/\K xs)) M5)) E Y:=by rintro E Y⟨rs,ts,bs,k,i,x,ok,d,hi,l1,rfl,h⟩;let o:=ok.tl.len;let m:∀{j},(f:j<rs.length)->atI (rs.map AH) (j:Int)\(AH rs[j]):=λf=>O9 f;let l:∀{j},(f:j<ts.length)->atI (ts.map Ac) (j:Int)\(Ac ts[j]):=λf=>j9 f;let a:k<ts.length:=(by simp only[*]);let c:i<ts.length:=⋯;let tk:=ok.tl.tal k _ _ (aH d) (aH a);let n:=ok.tl.tal i _ _ (aH hi) (aH c);show{_,m d,_,l a,_,m hi,_,l c,_,_,_,_,0,ok.rl _ (getElem_mem d),ok.rl _ (getElem_mem hi),tk,n,?_};cases e:Dx (BL rs[k] ts[k] (BG rs[k] rs[i])) (BL rs[i] ts[i] (BG rs[k] rs[i]))with
 |none=>
  let g:Cq rs ts k i=[]:=by rw[JI d hi a c,e];rfl
  let:=h (.sh .non);rw[g,cP]at this;show#[0,_,0,this]|some r=>
  let g:Cq rs ts k i=[(k,i,r)]:=by rw[JI d hi a c,e];rfl
  let:=h (.sh (AZ r));rw[g,Ez,cO]at this;show Be (CI _) {0,_,0,0,F0 (kA (k,i,r)),by rw[aA];lia,this}
def Vf:∀E Y,HL E Y->(J9 (NB (C7 (Da Re (CG 3) (pK (P.int 1))) (C7 (GR IC (C7 (CG 0) FE)) FE))) (Bl 4) Lw) E Y:=by
 rintro E Y⟨rs,ts,bs,k,x,y,ok,g,l1,rfl,h⟩;let i:=ok.l8;let l:(rs.map AH).length=rs.length:=aA ..;show{trivial,_,_,_,_,0,{⋯,⋯,⋯,⋯},0,λj Y=>∃(x y:S),Y=Ez rs ts (bs++(List.range j).flatMap λd=>Cq rs ts k (k+1+d)) (.sh (.int k)) x y,#[x,y,'2'],λj ρ' x c⟨x1,a,e⟩=>?_,λρ'⟨x1,a,e⟩=>?_}
 .let[m,0]:=FJ c;let f:((List.range j).flatMap λd=>Cq rs ts k (k+1+d)).length<=j:=by
   let:=PP (List.range j) (λd=>Cq rs ts k (k+1+d)) (λd=>Vc rs ts k (k+1+d))
   rwa[length_range,Nat.mul_one]at this
  subst e;show Be rfl #[rs,ts,bs++(List.range j).flatMap λd=>Cq rs ts k (k+1+d),k,k+1+j,a,ok,g,(by omega),by rw[aG];lia,by push_cast;rfl,λx=>{.sh (.int ((k+1+j:Nat):Int)),x,?_}];rw[range_succ,flatMap_append,<-bK,flatMap_cons,flatMap_nil,cP]
 .rw[e,C9,show(((rs.map AH).length:Int)-((k:Int)+1)).toNat=rs.length-(k+1)by lia];show h x1 a
def Vg:∀E Y,PQ E Y->(J9 (NA (C7 (GR IC (C7 (CG 0) FE)) FE)) (Bl 3) HL) E Y:=by
 rintro E Y⟨rs,ts,ok,rfl,h⟩;let c:=ok.l8;let g:(rs.map AH).length=rs.length:=aA ..;show{_,_,0,⋯,⋯,0,λj Y=>∃z x y,Y=Ez rs ts ((List.range j).flatMap (D2 rs ts)) z x y,#[_,_,_,0],λj ρ' x d⟨z,x1,a,e⟩=>?_,λρ'⟨z,x1,a,e⟩=>?_}
 .let[i,0]:=FJ d;let f:=Vd rs ts j;let:=Nat.mul_le_mul (show j<=8 by lia) c;subst e;show Be rfl #[rs,ts,(List.range j).flatMap (D2 rs ts),j,x1,a,ok,(by simp_all),⋯,by rw[Int.zero_add];rfl,λx y=>{.sh (.int (j:Int)),x,y,?_}];rw[range_succ,flatMap_append,flatMap_cons,flatMap_nil,cP]
 .rw[e,C9,show((rs.map AH).length:Int).toNat=rs.length by lia];show h z x1 a
def kC(D:Ai K mg "bars" Oc)(T:TxtB mg)(f:'E' "bar" 4 Ϧ (spP JH)):'E' "bars" 5 ["rooms","tallies"] (spP JJ):=by
 show BI D Iv (λ_ _ _ _ _ _ us i=>B0 i dG) (λxs K h=>?_) '3' (λl j A outer s H E g=>{_,(Aj (BF (k:=2) (λ_=>Iv.nd) (Cj AG)) (Aj (QS.weak (m:=PQ) (DA '7' dF (EF (λ_=>T.b_range) (AA (Aw (λ_=>Bn) Bo 'I' nofun (AA (qv 0) AG)) AG)) (Dp (k:=3) (λ_=>Iv.nd)) (BK.weak (m:=HL) (Ad (QS.weak (m:=HL) (DA '7' dF (RV (λ_=>T.b_range) (AA (B2 (λ_=>DJ) FL (qv 3) AV) (AA (Aw (λ_=>Bn) Bo 'I' nofun (AA (qv 0) AG)) AG))) (Dp (k:=4) (λ_=>Iv.nd)) (BK.weak (m:=Lw) (Aj (BF (k:=5) (λ_=>Iv.nd) (Ae (λ_=>f) (λ_=>g.mq) (AA (Av 'J' Ay (qv 0) (qv 3) dG) (AA (Av 'J' Ay (qv 1) (qv 3) dG) (AA (Av 'J' Ay (qv 0) (qv 4) dG) (AA (Av 'J' Ay (qv 1) (qv 4) dG) AG)))))) (Ad (Cb (BN (λ_=>Pp) Ri (qv 5) Ju (A0 _)) (Ad (Gn (k:=2) dF (Db (AA (qv 3) (AA (qv 4) (AA (qv 5) AG)))))) C8))) ?d)) ?a)) ?e)) ?c) (Ad (A5 (qv 2))))),λxs K h=>?_})
 case d=>show Ve
 case a=>show Vf
 case e=>showλ_ _ h=>h
 case c=>show Vg
 .let[_,_,0,_]:=h;rfl
 .let[rs,ts,0,ok,h]:=h;show#[0,rs,ts,ok,0,λz x y=>#[0,h]]
end
section
variable{K:Fg}
def kD(rs):AU (.lst (rs.map AZ)) (.lst [])=decide (rs=[]):=by
 let a:(P.lst (rs.map AZ)).nb=true:=by show IH KY rs
 rw[Bool.eq_iff_iff,IG a rfl,aW];simp
def kE(D:Ai K mg "_law_bar" La)(T:TxtB mg)(p:'E' "_law_both" 1 Ϣ (spP Lv))(n:'E' "_law_portion" 2 ϗ (spP O7)):'E' "_law_bar" 3 Ϡ (spP JH):=by
 show BI D JB (λ_ _ _ _ _ _ us B=>JM B (λ_ _ _ _=>rfl)) (λxs K h=>?_) '3' (λJ G A outer s H E d=>?_)
 .let[_,_,_,_,0,_]:=h;rfl
 .let o:=DX d;show{_,(Aj (BF (k:=4) (λ_=>JB.nd) (Ae (λ_=>p) (λ_=>d.mq) (AA (qv 0) (AA (qv 2) AG))))
 (Aj (BF (k:=5) (λ_=>JB.nd) (Bv (λ_=>(IQ rfl d)) IR (λ_=>T.b_dict) nofun (AA (Ae (λ_=>n) (λ_=>d.mq) (AA (qv 0) (AA (qv 1) (AA (qv 4) AG)))) AG)))
 (Aj (BF (k:=6) (λ_=>JB.nd) (Bv (λ_=>(IQ rfl d)) IR (λ_=>T.b_dict) nofun (AA (Ae (λ_=>n) (λ_=>d.mq) (AA (qv 2) (AA (qv 3) (AA (qv 4) AG)))) AG)))
 (Aj (BF (k:=7) (λ_=>JB.nd) (Aw (λ_=>(Ta d)) Tb (λ_=>T.b_sorted) nofun (AA (BR (N:=Ϟ) (sc:=AL La) (N':=["_law_row","_law_one","_law_two"]) (qC:=[none,some 5,some 6]) '1' '3' dF (B3 dF (B2 (λ_=>Hz) IB (Bv (λ_=>(IM rfl)) IN (λ_=>T.b_list) nofun (AA (qv 5) AG)) (Bv (λ_=>(IM rfl)) IN (λ_=>T.b_list) nofun (AA (qv 6) AG)))) (Bw (k:=0) rfl (λ_=>show List.Nodup (["_law_row","_law_one","_law_two"]:At)from nofun)) (Eh (BN (λ_=>(Ds d)) Dt (Fq (λ_=>o) (qv 1) (qv 0) AV) (Fq (λ_=>o) (qv 2) (qv 0) AV) (A0 _))) (qv 0)) AG)))
 (Aj (Cb (BN (λ_=>(EI d)) EJ (qv 7) (Cj AG) (A0 _))
 (Ad (A5 Ju))
 C8)
 (Ad (A5 (Av 'J' Ay (qv 7) AV dG)))))))),λxs K h=>?_}
  let[qI,t,qB,u,0,l1,l2,g,e,h]:=h;let I:=OF qI qB;let m:Tal (BG qI qB).length (BL qI t (BG qI qB)):=G9 (Dy g) g.few;let l:Tal (BG qI qB).length (BL qB u (BG qI qB)):=G9 (Dy e) e.few;let O:=m.few;let L:=l.few;show#[qI,qB,0,⋯,Be (EL _) {qI,t,_,0,Ks g ⋯ (HA _ _).1,g.few,_,0,⋯,?_}];rw[Ia m.nd];show{qB,u,_,0,Ks e ⋯ (HA _ _).2,e.few,_,0,⋯,?_};rw[Ia l.nd];unfold Dx at h;generalize BL qI t (BG qI qB)=a at*;generalize BL qB u (BG qI qB)=b at*;show{by rw[aA,aA,aA,aA];lia,_,0,by rw[Kz,Kz];nofun,by rw[aG,aA,aA,aA,aA];lia,?_};rw[<-cO];show A2.filter (λr=>decide ((AY a r).getD 0≠(AY b r).getD 0)) AZ (λ_ _ _=>CI _) (λr _ M f=>Be (CI _) #[{0,λ_ h=>nomatch h},_,DN r,F5 _,0,{0,λ_ h=>nomatch h},_,DN r,F5 _,0,?_]) ?_
  .let f:=f .cl;rw[F4,F4];show#[#[0,0],_,0,Au (λz=>?_) (λz=>?_)]<;>rw[Gy]at z
   .rw[aC (~~~z)]at f;show f
   .rw[aB (~~~z)]at f;show f
  .show{Ic a b,0,?_,{(BG qI qB).length,λr d=>?_},λc y v=>?_}
   .show aR (length_filter_le _ _) ?_;rw[aG,aA,aA];lia
   .let z||z:=bA.mp (cX.mp d).1
    .let[q,i,0]:=bU.mp z;show m.rows q i
    .let[q,i,0]:=bU.mp z;show l.rows q i
   .rw[<-Nk y v]at h;let C:AU (.lst (c.map AZ)) (.lst (map (λx:P×Fl=>x.1) []))=decide (c=[]):=kD c;show{0,{IF (λr=>SY 7 r) c,0},_,0,Au (λz=>?_) (λz=>?_)}<;>rw[C]at z
    .rw[aL z]at h;show{F1 rfl,h}
    .match c,z with|x::xs,_=>show{_,Cg (j:=0) rfl,F1 (CI x),h}
def kF(D:Ai K mg "_law_bars" Ox)(T:TxtB mg)(f:'E' "_law_bar" 3 Ϡ (spP JH)):'E' "_law_bars" 4 ϲ (spP JJ):=by
 show BI D JC (λ_ _ _ _ _ _ us i=>B0 i dG) (λxs K h=>?_) '3' (λl j A outer s H E g=>{_,(Aj (BF (k:=2) (λ_=>JC.nd) (Cj AG)) (Aj (QS.weak (m:=PQ) (DA '7' dF (EF (λ_=>T.b_range) (AA (Aw (λ_=>Bn) Bo 'I' nofun (AA (qv 0) AG)) AG)) (Dp (k:=3) (λ_=>JC.nd)) (BK.weak (m:=HL) (Ad (QS.weak (m:=HL) (DA '7' dF (RV (λ_=>T.b_range) (AA (B2 (λ_=>DJ) FL (qv 3) AV) (AA (Aw (λ_=>Bn) Bo 'I' nofun (AA (qv 0) AG)) AG))) (Dp (k:=4) (λ_=>JC.nd)) (BK.weak (m:=Lw) (Aj (BF (k:=5) (λ_=>JC.nd) (Ae (λ_=>f) (λ_=>g.mq) (AA (Av 'J' Ay (qv 0) (qv 3) dG) (AA (Av 'J' Ay (qv 1) (qv 3) dG) (AA (Av 'J' Ay (qv 0) (qv 4) dG) (AA (Av 'J' Ay (qv 1) (qv 4) dG) AG)))))) (Ad (Cb (BN (λ_=>Pp) Ri (qv 5) Ju (A0 _)) (Ad (Gn (k:=2) dF (Db (AA (qv 3) (AA (qv 4) (AA (qv 5) AG)))))) C8))) ?d)) ?a)) ?e)) ?c) (Ad (A5 (qv 2))))),λxs K h=>?_})
 case d=>show Ve
 case a=>show Vf
 case e=>showλ_ _ h=>h
 case c=>show Vg
 .let[_,_,0,_]:=h;rfl
 .let[rs,ts,0,ok,h]:=h;show#[0,rs,ts,ok,0,λz x y=>#[0,h]]
end
section
variable{K:Fg}
def Vh{K}(ok:Brs rs ts)(k:K (.lst ((D3 rs ts).map Ey))):JJ [BO rs,HK ts] K:=#[rs,ts,0,ok,k]
noncomputable abbrev JK(ns:At)(q:Nat×Nat×By):P:=.tup [.str (ns.getD q.1 ""),.str (ns.getD q.2.1 ""),AZ q.2.2]
def DS(B:List Ent):List (Nat×Nat×By):=(D3 (B.map (·.2.1)) (B.map (·.2.2)))
def Cc(B:List Ent):P:=(.lst ((DS B).map (JK (B.map (·.1)))))
def Vi{q}(h:q∈D3 rs ts):q.1<rs.length/\q.2.1<rs.length:=by unfold D3 D2 Cq at h;let[k,a,h]:=mem_flatMap.mp h;let[i,hi,h]:=mem_flatMap.mp h;rw[Option.mem_toList]at h;let[r,_,0]:=aJ.mp h;let:=mem_range.mp a;let:=mem_range.mp hi;show{by assumption,by change k+1+i<_;omega}
def Vj(h:rs.length<=8):(D3 rs ts).length<=64:=by let:=Vd rs ts rs.length;let:=Nat.mul_le_mul h h;unfold D3;lia
def PR:Sp:=(λvs H Q _=>∃b a Z B p,vs=[.ref p]/\Bag H b a/\Z b/\Rp b Z H (Cp B) (.ref p)/\Brs (B.map (·.2.1)) (B.map (·.2.2))/\∀v H',Step b a H H'->Rp b (λx=>H x≠none) H' (Cc B) v->Q v H')
def kG(D:Ai K mg "named_bars" LM)(T:TxtB mg)(Gb:'E' "bars" 5 ["rooms","tallies"] (spP JJ))(Gr:'E' "open_rooms" 1 ϟ (Lu λe=>AH e.2.1))(Gt:'E' "open_tallies" 1 ϟ (Lu λe=>Ac e.2.2)):'E' "named_bars" 6 ϟ PR:=by
 show DZ D Uj (λ_ _ _ _ _ _ us c=>Cd c dF) (λvs H Q E h=>?_) (λfa a1 A outer s H vs Q E hr h=>?_)
 .let[_,_,_,_,_,0,_]:=h;rfl
 .let nd:=Uj.nd;show{_,Aa (Ap (i:=1) nd rfl (Or.inr rfl) (Fd (cr rfl) (by rfl) T.b_list nofun (AK (pv 0) Ab)))
   (Aa (Ap (i:=2) nd rfl (Or.inl rfl) (CF Gb hr (by rfl) (AK (CF Gr (hr.mq) (by rfl) (AK (pv 0) Ab)) (AK (CF Gt (hr.mq) (by rfl) (AK (pv 0) Ab)) Ab))))
   (Ao (B9 (DQ (BR (N:=["opened","names","told"]) (sc:=AL LM) (N':=ϣ) (qC:=[none,none,none,some 1]) '1' '3' dF (B3 dF (qv 2)) (Ua (i:=0) (j:=1) (l:=2) rfl rfl rfl dF dF (λ_=>(Al (Ag (i:=0) (show List.Nodup (ϣ:At)from nofun) rfl (Or.inl rfl)) (Al (Ag (i:=1) (show List.Nodup (ϣ:At)from nofun) rfl (Or.inl rfl)) (Al (Ag (i:=2) (show List.Nodup (ϣ:At)from nofun) rfl (Or.inl rfl)) Br))))) Bm (Db (AA (Av 'J' Ay (qv 3) (qv 0) dG) (AA (Av 'J' Ay (qv 3) (qv 1) dG) (AA (qv 2) AG))))))))),?_}
  done<;>(let[b,a,Z,B,p,0,C,d,r,ok,k]:=h;let[us,hp,ru,nb,pa]:=PN C d r);let B8:B.length<=8:=by let:=ok.l8;rw[aA]at this;show this
  let ul:us.length=B.length:=by rw[<-ru.length,aA]
  show{_,0,p,_,0,hp,λl c=>?_};let y:=Step.new (o:=.lst ((((B.map (·.1)).map Aq).zip us).map λq=>kV q.1)) C c;let e1:(((B.map (·.1)).map Aq).zip us).map (λq=>kV q.1)=(B.map (·.1)).map V.str:=by rw[show(λq:AT×V=>kV q.1)=kV∘(·.1)from rfl,<-bZ,map_fst_zip (by rw[aA,aA];simp_all),bZ];rfl
  let rn:Rp b (λx=>x=b) (AB H l (.lst ((((B.map (·.1)).map Aq).zip us).map λq=>kV q.1))) (.lst ((B.map (·.1)).map P.str)) (.ref l):={l,_,0,C.nb c,by rw[AN,e1],AC.strs.mpr rfl};generalize AB H l (.lst ((((B.map (·.1)).map Aq).zip us).map λq=>kV q.1))=H1 at y rn⊢;show{_,0,b,a,Z,B,p,0,y.bag,d,Am d C y r,B8,λv1 H2 G O=>?_};let u:=y.trans G;show{_,0,b,a,Z,B,p,0,G.bag,d,Am d C u r,B8,λv2 H3 g r2=>?_};let O:=Am (Z:=λx=>x=b) rfl G.bag g O;show{b,a,[BO (B.map (·.2.1)),HK (B.map (·.2.2))],λx=>x=.lst ((DS B).map Ey),g.bag,Dz (by unfold BO;rw[bZ];show O) (Dz (by unfold HK;rw[bZ];show r2) K1),Vh ok (by unfold DS;with_reducible rfl),λx v3 H4 ρ I r3=>?_};subst ρ;let m:=u.trans (g.trans I);let L:=Am (Z:=λx=>x=b) rfl y.bag (G.trans (g.trans I)) rn;let a0:(DS B).length<=64:=Vj ok.l8;show{b,a,[.emp,.sh (.lst ((B.map (·.1)).map P.str)),.sh (.lst ((DS B).map Ey))],λx f=>x=Cc B/\f=.nw,I.bag,(AS (A9 L (A9 (r3.keep (λx o σ e=>{λz=>σ (by rw[z];intro e0;let[l,c]:=g.bag.atb;rw[c]at e0;cases e0),e}) λ_ _ e=>e) Co))),?_,λx f v H5 ρ s5 _ J=>?_}
  .show{_,0,nofun,by rw[aA];lia,A2.map (JK (B.map (·.1))) (λq _=>'2') (λq hq M hM=>?_) ?_}
   .let lt:=Vi hq;rw[aA]at lt;let e:∀{n},n<B.length->atI ((B.map (·.1)).map P.str) (n:Int)\(.str ((B.map (·.1)).getD n "")):=λhn=>Cg (by rw[bO,bW,bO,aH hn];rfl);show{_,0,0,Be rfl (Be rfl (Be (CI _) {_,e lt.1,_,e lt.2,0,?_}))};show hM _
   .show#[0,0]
  .let[0,0]:=ρ;show k v H5 (m.trans s5) ((J (.inl rfl)).keep (λx o σ e=>{λq=>σ (λe4=>q (m.free e4)),e}) λ_ _ e=>e)
end
section
variable{K:Fg}
def Vk{f g:Nat->List (Nat×Nat×By)}(h:∀k,k<n->f k=g k):(List.range n).flatMap f=(List.range n).flatMap g:=by rw[flatMap_def,flatMap_def,cF λk a=>h k (mem_range.mp a)]
def kH(h:F8 q r B B')(ev:∀e∈B,EntV k e):DS B'=DS B:=by
 let 0||[d,_,_,0]:=h
 .rfl
 .let c:∀{i}(hi:i<B.length),((B[i]).2.2.map (·.1)).Nodup:=λhi=>(ev _ (getElem_mem hi)).tal.nd;let f:∀{k i},k<B.length->i<B.length->Cq ((B.map (JG q r d)).map (·.2.1)) ((B.map (JG q r d)).map (·.2.2)) k i=Cq (B.map (·.2.1)) (B.map (·.2.2)) k i:=λ{k i}a hi=>by rw[JI (~~~a) (~~~hi) (~~~a) (~~~hi),JI (~~~a) (~~~hi) (~~~a) (~~~hi)];simp only[getElem_map];rw[gP (c a) (c hi)]
  unfold DS D3 D2;simp only[aA];show Vk λk a=>Vk λi hi=>f a ⋯
def Vl{B:List Ent}(f:B.length<=8)(ev:∀e∈B,EntV k e):Brs (B.map (·.2.1)) (B.map (·.2.2)):={by rw[aA];show f,λr d=>by let[e,a,0]:=bU.mp d;let:=(ev e a).r6;lia,by rw[aA,aA],λi r t h1 h2=>by rw[bO]at h1 h2;let[e,a,0]:=aJ.mp h1;rw[a]at h2;cases h2;show(ev e (aM a)).tal,λt c=>by let[e,a,0]:=bU.mp c;show(ev e a).tal.few}
inductive spHB(C:Addr)(vs:dH)(H:Hp)(Q:VK)(E:XK):Prop|mk(h dx fs v:_)(c0:vs=[.ref h])(c1:H h\(.ins C dx fs))(c2:fs.lookup ("opened":Str)\v)(c3:PR [v] H Q E)
def kI(M:Im K C "bars" "House.bars" O1)(c:TxtH K mg C D w)(G:'E' "named_bars" 6 ϟ PR):EM P' w K mg base C "bars" 7 ["self"] (spHB C):=by
 show OT M g8 (λ_ _ _ _ _ _ us a=>Cd a dF) (λvs H Q E h=>?_) (λg f A outer s H vs Q E d h=>?_)
 .let[_,_,_,_,0,_]:=h;rfl
 .show{_,Ao (B9 (CF G d (by rfl) (AK (HW (pv 0) (by rfl)) Ab))),?_};let[h,dx,fs,v,0,e,a,q]:=h;show#[_,0,h,C,dx,fs,v,0,e,c.cl.cl,c.nO,a,q]
def PU{b C h bk}{Q}{E}(W:Wh b a C h pp bk H q B Bb m)(j:B.length<=8)(ev:∀e∈B,EntV k e)(c:∀v H',Step b a H H'->Rp b (λx=>H x≠none) H' (Cc B) v->Q v H'):spHB C [.ref h] H Q E:=by done<;>(let[dx,us,u,o,l,g,r,s,n,f]:=W.hs.ex;let[p,d,0,i]:=f);show{h,dx,_,.ref p,0,g,0,b,a,ZH b pp h bk,B,p,0,W.bag,.inl rfl,#[p,d,0,i],Vl j ev,c}
def kJ(ok:Brs rs ts){q}(h:q∈D3 rs ts):q.2.2.length<=100:=by
 unfold D3 D2 at h;let[k,a,h]:=mem_flatMap.mp h;let[i,hi,h]:=mem_flatMap.mp h;let a:=mem_range.mp a;let hi:=mem_range.mp hi;let l:=ok.tl.len;let c:k+1+i<rs.length:=⋯;rw[JI a c (by simp only[*]) (by simp only[*]),Option.mem_toList]at h;let[r,e,0]:=aJ.mp h;let g:=(DE _).mem_iff.mp (mem_of_mem_head? e);let tk:=ok.tl.tal k _ _ (aH a) (aH ⋯);let f:=ok.tl.tal (k+1+i) _ _ (aH c) (aH ⋯);let m:=OF rs[k] rs[k+1+i];let j:=ok.rl _ (getElem_mem a);let z||z:=bA.mp (cX.mp g).1
 .let[p,d,0]:=bU.mp z;let:=(G9 (part:=BG rs[k] rs[k+1+i]) (Dy tk) tk.few).rows p d;change p.1.length<=100;lia
 .let[p,d,0]:=bU.mp z;let:=(G9 (part:=BG rs[k] rs[k+1+i]) (Dy f) f.few).rows p d;change p.1.length<=100;lia
end
section
variable{K:Fg}
def PV(G:CV P' w K mg base x j ps sp)(d:mg x\(.ref a))(g:j<=k):OS P' w K mg base k a sp:=by let[f,fd,F,c,e,h]:=G;rw[d]at c;cases c;show{fd,ps,F.mono g,e,h}
def Hs.key{b C h bk}{o}(x:Hs b a C H h pp b q o m)(hb:Bag H b a)(d:H bk=none):Hs b a C (AB H bk (.lst [])) h pp bk q o m/\bk≠pp:=by
 done<;>let[[dx,us,av,ov,uv,l,hp,hm,i,g],ne,na,kn]:=x;let kp:∀p o,H p\o->AB H bk (.lst []) p\o:=λp o e=>by rw[AE (Af e d)];show e
 let j:∀p o,¬ZH b pp h b p->H p\o->¬ZH b pp h bk p:=λp o c e z=>by
  rcases z with z|z|z|z
  .show c (.inl z)
  .show c (.inr (.inl z))
  .show c (.inr (.inr (.inl z)))
  simp_all
 let f:∀{x}{v},Rp b _ H x v->Rp b _ _ x v:=λr=>r.keep (λp o c e=>{j p o c e,kp p o e}) λp xs e=>kp p _ e;show#[#[{dx,us,av,ov,uv,kp _ _ l,kp _ _ hp,hm,f i,f g},ne,na,by rw[AN];simp],Ne.symm (Af hp d)]
def kK{α:Type}{as:List α}{enc}{step}{K}(g)(f:∀a∈as,∀M,M (some (g a,.cl))->step (enc a) M)(h:K (.lst (as.map g)) .cl):A2 (as.map enc) step K:=by
 show{.cl,λi ys=>ys=(as.take i).map g,.inr rfl,0,λi x ys d c=>?_,λys c=>?_}
 .rw[bO]at d;let[a,e,0]:=aJ.mp d;subst c;show f a (aM e) _ {by change(if(g a).imm=true then Fl.nw else Fl.cl).join Fl.cl=_;split<;>rfl,?_};change _=(as.take (i+1)).map g;rw[take_add_one,e,cO];rfl
 .rw[aA,take_length]at c;subst c;show h
def kL{r}(a:0<=r)(h1:r<3):∃wd,atI [P.str "enter",.str "enter",.str "withdraw"] r\(.str wd)/\(wd="enter"\/wd="withdraw"):=by let[n,0]:=Int.eq_ofNat_of_zero_le a;let h:n=0\/n=1\/n=2:=⋯;let 0||0||0:=h<;>show#[_,0,'2']
def E1(B):(Cc B).pl 9=true:=IF (λq=>'2') _
def kM{C f}(F:Fun K "law" "law" EN f fd)(T:TxtB mg)(TH:TxtH K mg C D w)(zV:'E' "_law_bag" 1 ϧ (Uo K))(qM:'E' "_law_pull" 1 ϊ (spP Di))(zW:'E' "_law_questions" 4 ϙ (spP U6))(Gi:EM P' w K mg base C "__init__" 3 Ϻ (spInit28 C))(Gb:'E' "_law_begun" 7 ϛ (spBegun C))(qO:'E' "_law_answers" 2 ϐ (spP Nl))(qP:'E' "_law_many" 2 ϙ (spP Nm))(zX:'E' "_law_bars" 4 ϲ (spP JJ))(zY:'E' "_law_tuple" 2 ϡ (spP Uy))(Gm:'E' "_law_mark" 6 ϫ (spMark C))(Gh:EM P' w K mg base C "bars" 7 ["self"] (spHB C)):FnOk P' w K mg base Dm 8 f fd ϧ (Li K):=by
 show F.ok Lc (λvs H Q E h=>?_) (λca A outer s H vs Q E g h=>?_)
 .let[a,ns,0,_]:=h;rfl
 .let nd:=Lc.nd;show{_,Aa (Ap (i:=1) Lc.nd rfl (Or.inl rfl) (CF zV (g.mq) (by rfl) (AK (pv 0) Ab)))
   (Aa (Ap (i:=2) nd rfl (Or.inl rfl) (DQ (Ae (λ_=>zW) (λ_=>g.mq) (AA (qv 1) AG))))
   (Aa (Ap (i:=3) nd rfl (Or.inl rfl) (gA TH.cl Gi K2 (g.mq) (by rfl) (AK (pv 2) Ab)))
   (Aa (Ap (i:=4) nd rfl (Or.inr rfl) (D7 Ab))
   (Aa (BY (MA (L6 (CF Gb g (by rfl) (AK (pv 1) (AK (pv 2) (AK (pv 3) (AK (pv 4) Ab))))))) CY BX)
   (Aa (Ap (i:=5) nd rfl (Or.inl rfl) (DQ (Ae (λ_=>zX) (λ_=>g.mq) (AA (BR (N:=ϋ) (sc:=AL EN) (N':=Ϸ) (qC:=[none]) '1' '3' dF (B3 dF (qv 4)) (Bw (k:=0) rfl (λ_=>show List.Nodup (Ϸ:At)from nofun)) Bm (Av 'J' Ay (qv 0) AV dG)) (AA (BR (N:=ϋ) (sc:=AL EN) (N':=Ϸ) (qC:=[none]) '1' '3' dF (B3 dF (qv 4)) (Bw (k:=0) rfl (λ_=>show List.Nodup (Ϸ:At)from nofun)) Bm (Av 'J' Ay (qv 0) AV dG)) AG)))))
   (Aa (OX (k:=6) (λ_=>Lc.nd) (N:=ϋ) (sc:=AL EN) (N':=Ϙ) (qC:=[none,none,none,some 4]) '1' '3' dF (B3 dF (qv 5)) (Ua (i:=0) (j:=1) (l:=2) rfl rfl rfl dF dF (λ_=>(Al (Ag (i:=0) (show List.Nodup (Ϙ:At)from nofun) rfl (Or.inl rfl)) (Al (Ag (i:=1) (show List.Nodup (Ϙ:At)from nofun) rfl (Or.inl rfl)) (Al (Ag (i:=2) (show List.Nodup (Ϙ:At)from nofun) rfl (Or.inl rfl)) Br))))) Bm (Db (AA (Av 'J' Ay (Av 'J' Ay (qv 3) (qv 0) dG) AV dG) (AA (Av 'J' Ay (Av 'J' Ay (qv 3) (qv 1) dG) AV dG) (AA (qv 2) AG)))))
   (Aa (EU PassesOwn.never rfl (GC rfl T.b_range (AK (DQ (B2 (λ_=>DJ) FL AV (Ae (λ_=>qM) (λ_=>g.mq) (AA (qv 1) (AA AV AG))))) Ab)) (Ag (i:=7) nd rfl (Or.inl rfl))
    (Aa (Ap (i:=8) nd rfl (Or.inl rfl) (OU Gh TH.cl.cl K2 g (pv 3)))
    (Aa (BY (Dh (QW.pt (FH (CL (CS (ID (n:="list") '2' dF (λ_=>T.b_isinstance) (λ_=>T.b_list) nofun (qv 8)))) (GU (BN (λ_=>(Ds g)) Dt (qv 8) (qv 6) (A0 _)))))) CY BX)
    (Aa (EU PassesOwn.never rfl (MD (pv 8)) (Ag (i:=9) nd rfl (Or.inl rfl)) (Ao (BY (Dh (QW.pt (FH (CL (CS (ID (n:="tuple") '2' dF (λ_=>T.b_isinstance) (λ_=>T.b_tuple) nofun (qv 9)))) (GU (CL (CS (Ae (λ_=>zY) (λ_=>g.mq) (AA (Av 'J' Ay (qv 9) AV dG) AG)))))))) CY BX)))
    (Aa (ES (FA PySem.F.plainAttrs_list PySem.F.slot_list_append PySem.F.type_list_append Fe (pv 8) (AK Ah Ab)))
    (Aa (BY (Dl (Ds g) (OU Gh TH.cl.cl K2 g (pv 3)) (pv 6) (A0 _)) CY BX)
    (Aa (Ap (i:=10) nd rfl (Or.inl rfl) (DQ (Ae (λ_=>qO) (λ_=>g.mq) (AA (qv 1) (AA (Aw (λ_=>Bn) Bo 'I' nofun (AA (qv 2) AG)) (AA AV AG))))))
    (Ao (ES (CF Gm (g.mq) (by rfl) (AK (pv 3) (AK (DQ (Db (AA (Av 'J' Ay (Cj (AA Ci (AA Ci (AA Ci AG)))) (Ae (λ_=>qM) (λ_=>g.mq) (AA (qv 1) (AA AV AG))) dG) (AA (qv 10) (AA (Ae (λ_=>qP) (λ_=>g.mq) (AA (qv 1) AG)) AG))))) Ab))))))))))))
   (Ao (B9 (Pq (EI g) (OU Gh TH.cl.cl K2 g (pv 3)) (pv 6) (A0 _))))))))))),?_}
  let[a,ns,0,hS,k]:=h;show{_,0,a,ns,0,hS,λb u H1 nb na B s1=>?_};show{b,u,[.emp,.sh .bag,.emp,.emp,.emp,.emp,.emp,.emp,.emp,.emp,.emp],λx _=>∃q,x=AH q/\Nms q/\∀x∈q,C0 x,B,(AS (A9 rfl (AS (AS (AS (AS (AS (AS (AS (AS (AS Co))))))))))),#[0,λq h1 h6 bj hg hs=>{q,0,{h1,h6,bj,Tj hs},hg}],λx fl nv H2 L s2 rx _=>?_};let[q,0,nq,gq]:=L;show{_,0,λh dx nx be bd=>?_};let b2:=s2.bag;let sd:Step b u H2 (AB H2 dx (.own h)):=Step.new b2 be;let bb:AB H2 dx (.own h) h=none:=by rw[AE (Ne.symm bd)];show nx
  let s3:=sd.trans (Step.new sd.bag bb (o:=.ins C dx []));show#[b,u,h,dx,q,nv,0,s3.bag,Am (Z:=λp=>p=b) rfl b2 s3 rx,λe=>?_,nq.len,gq,VV nq.srt nq.nd,AN,λpp H4 c8 b4 f4 bh=>{0,(by decide:0<=sizeLine),λbk aa=>?_}]
  .let:=nq.pos;rw[e]at this;show bS this '3'
  let[bg,pk]:=bh.key b4 aa;let s5:Step b u H4 (AB H4 bk (.lst [])):=Step.new b4 aa;let W5:Wh b u C h pp bk (AB H4 bk (.lst [])) q [] [] 0:={s5.bag,bg,#[{[],AN,0},b4.nb aa,b4.na aa],pk};let ap:Rp b (ZH b pp h bk) (AB H4 bk (.lst [])) (AH q) nv:=by
   let r3:=Am (Z:=λp=>p=b) rfl b2 s3 rx;let[pn,vs,0,O,rn]:=r3;let bc:pn≠h:=λe=>by rw[e,AN]at O;cases O
   show{pn,vs,0,s5.same pn _ (s3.bag.neT O).1 (f4 pn _ (s3.bag.neT O).1 bc O),by rw[AC.strs]at rn⊢;show rn}
  show#[_,0,_,0,_,0,_,0,b,u,h,pp,bk,q,nv,0,W5,ap,nq,gq,λH6 d m6 W6 bm f6 l6 bf ax b1=>{_,0,CD ?_}];let I:ZH b pp h bk b:=.inl rfl;let b8:=W5.rp f6 ap;let af:=Vl l6 ax;let br:(DS d).length<=64:=Vj af.l8;let eN:∀{n},(O:n<d.length)->(d.map (·.1)).getD n ("":Str)=d[n].1:=λO=>by rw[bW,bO,aH O];rfl
  show{b,u,[.emp,.sh .bag,.emp,.emp,.sh (.lst (d.map Eu)),.emp,.emp,.emp,.emp,.emp,.emp],λx _=>x=.lst ((DS d).map Ey),W6.bag,(AS (A9 rfl (AS (AS (A9 (W6.book.rp I) (AS (AS (AS (AS (AS (AS Co))))))))))),#[_,0,nofun,by rw[aA];lia,A2.map (λe=>AH e.2.1) (λ_ _=>'2') (λe _ M hM=>PL '2' {_,0,hM _}) {_,0,nofun,by rw[aA];lia,kK (λe=>Ac e.2.2) (λe _ M hM=>PL '2' #[_,0,hM]) ?_}],λx f v5 H7 L s7 r5 _=>?_}
  .let:=Vh (K:=λx=>x=.lst ((DS d).map Ey)) af (by unfold DS;with_reducible rfl);unfold BO HK at this;rw[bZ,bZ]at this;show this
  subst L;let W7:=W6.st s7;show{b,u,[.emp,.sh .bag,.emp,.emp,.sh (.lst (d.map Eu)),.sh (.lst ((DS d).map Ey)),.emp,.emp,.emp,.emp,.emp],λx f=>x=Cc d/\f=.nw,W7.bag,(AS (A9 rfl (AS (AS (A9 (W7.book.rp I) (A9 r5 (AS (AS (AS (AS (AS Co))))))))))),#[_,0,nofun,by rw[aA];lia,A2.map (JK (d.map (·.1))) (λq _=>'2') (λq hq M hM=>?_) #[0,0]],λx f v6 H8 L s8 _ r6=>?_}
  .let lt:=Vi hq;rw[aA]at lt;let e:∀{n},(O:n<d.length)->atI (d.map Eu) (n:Int)\(Eu d[n]):=λO=>Cg (by rw[bO,aH O];rfl);unfold JK at hM;rw[eN lt.1,eN lt.2]at hM;show{_,0,0,Be rfl (Be rfl (Be (CI _) {_,e lt.1,_,0,_,e lt.2,_,0,0,hM _}))}
  let[0,0]:=L;let W8:=W7.st s8;let r6:=(r6 (.inl rfl)).keep (Z':=ZH b pp h bk) (λx o hz e=>{λz=>hz (W7.zh x z),e}) λ_ _ e=>e;let b3:=s7.trans s8;let b7:=Am I W6.bag b3 b8;show{b,u,[.emp,.sh .bag,.emp,.emp,.emp,.emp,.emp,.emp,.emp,.emp,.emp],λx _=>∃n:Nat,x=.int n/\n<=8,W8.bag,(AS (A9 rfl (AS (AS (AS (AS (AS (AS (AS (AS (AS Co))))))))))),#[8,0,'3','3',λr r0 r1=>{trivial,(1+r).toNat,?_,⋯}],λx fl vl H9 L s9 rx _=>?_}
  .change P.int (1+r)=_;rw[Int.toNat_of_nonneg ⋯]
  let[N,0,hN]:=L;obtain rfl:vl=.int _:=rx;let W9:=W8.st s9;let b6:=Am I W8.bag s9 b7;let ar:=Am I W8.bag s9 r6;show{_,0,⋯,⋯,JS (λi U H'=>(∃x7 x8 x9 v:Option V,U=[some (.ref a),some (.ref b),some nv,some (.ref h),some (.ref bk),some v5,some v6,x7,x8,x9,v])/\∃B m,Wh b u C h pp bk H' q B d m/\m<=8+i/\Fr b u h pp bk H9 H'/\(B.map (·.1)).Nodup/\B.length<=8/\(∀e∈B,EntV (40+i) e)/\(∀e∈B,∀n∈e.2.1,n∈q)/\Cc B=Cc d) #[#[_,_,_,_,0],d,m6,W9,bm,Fr.refl,bf,l6,ax,b1,0] (λi U σ hi hI=>?_) (λU σ hI=>?_)}
  .let[[x7,x8,x9,v,0],B,m,W,hm,a7,ai,B8,ev,sb,eb]:=hI;rw[Int.toNat_natCast]at hi;let aq:=W9.rp a7 b6;let G:=W9.rp a7 ar;let[ah,b0,bt,b9,az,ag,_]:=W.hs.ex;show{_,0,h,ah,_,0,ag,0,PU W B8 ev λv8 al y r8=>?_};rw[eb]at r8;let ae:Rp b (λx=>x=b) al (Cc d) v8:=r8.keep (λx o hz e=>{λz=>hz (by rw[z];let[l,hl]:=W.bag.atb;rw[hl];show(λh=>nomatch h)),e}) λ_ _ e=>e;let au:=Am I W.bag y G;show{b,u,[.emp,.sh .bag,.emp,.emp,.emp,.emp,.sh (Cc d),.emp,.sh (Cc d),.emp,.emp],λc=>c=false,y.bag,(AS (A9 rfl (AS (AS (AS (AS (A9 (CJ I au) (AS (A9 ae (AS (AS Co))))))))))),?_,λc bz hc a0=>?_}
   .show{true,0,{E1 d,E1 d},_,0,?_};rw[IE 9 (E1 d)];rfl
   subst hc;let[fp,fs,0,fz,a6,a8]:=r8;let z0:(λx=>σ x≠none) b:=by let[l,hl]:=W.bag.atb;change σ b≠none;rw[hl];show(λh=>nomatch h)
   let a9:fp≠b:=λe=>fz (e▸z0);let ao:=y.trans a0;let a8:=Ev z0 y.bag a0 a8;let a6:=a0.same fp _ a9 a6;show CD {_,0,fp,0,{fs,.of a6},Pl (xs:=fs) (λ_ U H'=>(∃x9 v:Option V,U=[some (.ref a),some (.ref b),some nv,some (.ref h),some (.ref bk),some v5,some v6,some (.int (0+(i:Int))),some (.ref fp),x9,v])/\Step b u bz H') #[#[_,_,0],Step.refl a0.bag] (λj U H' _ hI=>.of (hI.2.same fp _ a9 a6)) (λj x U ak L hI=>?_) (λU ak hI=>?_)}
   .let[[x9,v,0],J]:=hI;let[pe,he,re]:=(Ev z0 a0.bag J a8).getV L;rw[bO]at he;let[q3,bi,0]:=aJ.mp he;show{b,u,[.emp,.sh .bag,.emp,.emp,.emp,.emp,.emp,.emp,.emp,.sh (JK (d.map (·.1)) q3),.emp],λc=>c=false,J.bag,(AS (A9 rfl (AS (AS (AS (AS (AS (AS (AS (A9 (CJ z0 re) (AS Co))))))))))),?_,λc bx hc ρ=>?_}
    .show{true,0,_,0,q3.2.2,0,kJ af (aM bi),_,0,0}
    .subst hc;show CD #[#[_,_,0],J.trans ρ]
   .let[[x9,v,0],J]:=hI;let a5:=J.same fp _ a9 a6;let a4:=ao.trans J;let fl:fs.length<=64:=by rw[<-a8.length,aA];show br
    show{_,0,.inl {0,fs,.of a5},fp,fs,_,0,0,a5,aU (by lia:fs.length<1000) '3',?_};let ρ:Step b u σ (AB ak fp (.lst (fs++[.int 0]))):={a4.bag.put a9 λe=>by let[l,hl]:=W.bag.ata;show fz (by change σ fp≠none;rw[e,hl];show(λh=>nomatch h)),λx o n1 e=>by rw[AE λz=>fz (by change σ fp≠none;rw[<-z,e];show(λh=>nomatch h))];show a4.same x o n1 e};generalize AB ak fp (.lst (fs++[.int 0]))=bx at ρ⊢;let aj:=W.st ρ;let[bq,c6,cb,c7,c5,bn,_]:=aj.hs.ex;show#[_,0,h,bq,_,0,bn,0,PU aj B8 ev λv11 bw an aw=>#[_,0,?_]];rw[eb]at aw;let av:Rp b (λx=>x=b) bw (Cc d) v11:=aw.keep (λx o hz e=>{λz=>hz (by rw[z];let[l,hl]:=aj.bag.atb;rw[hl];show(λh=>nomatch h)),e}) λ_ _ e=>e;let a3:=ρ.trans an;let as:=Am I W.bag a3 G;show OW Dt (K:=λz _=>z=.bl (!AU (Cc d) (Cc d))) an.bag av (CJ I as) #[{E1 d,E1 d},0] λz fl v' ay hz ab rz=>?_;subst hz;obtain rfl:v'=.bl _:=rz;rw[IE 9 (E1 d)];let a2:=a3.trans ab;let hq:=nq.len;show#[_,0,CD {b,u,[.emp,.sh .bag,.sh (AH q),.emp,.emp,.emp,.emp,.emp,.emp,.emp,.emp],λx _=>∃r:By,x=AZ r/\r.length=q.length,ab.bag,(AS (A9 rfl (A9 (CJ I (Am I W.bag a2 aq)) (AS (AS (AS (AS (AS (AS (AS (AS Co))))))))))),#[q.length,2,by rw[aA];rfl,⋯,⋯,'3','3',λr rl _=>{r,0,⋯}],λx fl c4 ce L am rx _=>?_}];let[r,0,rl]:=L;let ac:=a2.trans am;show{_,0,b,u,[.emp,.sh .bag,.emp,.emp,.emp,.emp,.emp,.emp,.emp,.emp,.sh (AZ r)],λx _=>∃(wd:Str)(c:Int),(wd="enter"\/wd="withdraw")/\x=.tup [.str wd,AZ r,.int c],am.bag,(AS (A9 rfl (AS (AS (AS (AS (AS (AS (AS (AS (A9 rx Co))))))))))),?_,λx fl c3 cd L b5 rx _=>?_}
    .show{0,3,0,'3','3',λz z0 z1=>?_};let[wd,e,hw]:=kL z0 z1;show#[_,e,0,λc c1 c2=>#[0,wd,c,hw,0]]
    let[wd,c,hw,0]:=L;let a1:=ac.trans b5;let bv:=W.st a1;show jv (r:=r) (c:=c) hw bv ⋯ (Rp.imm '2' rx) ⋯ B8 ai ev sb ⋯ λc0 cc m' B' c9 bu bp tu=>?_;let tn:=tu.names;let l8:B'.length<=8:=by let:=aT length tn.1;rw[aA,aA]at this;simp_all
    show#[#[_,_,_,_,0],B',m',bu,⋯,(a7.trans (Fr.st a1)).trans bp,by rw[tn.1];show ai,l8,tu.ent (k:=40+i) ⋯ ev,λe he n O=>?_,?_]
    .let hm:e.2.1∈B'.map (·.2.1):=aP he;rw[tn.2]at hm;let[e2,bo,h2]:=bU.mp hm;show sb e2 bo n (by rw[h2];show O)
    .rw[<-eb];unfold Cc;rw[kH tu ev,tn.1]
  .let[[x7,x8,x9,v,0],B,m,W,hm,a7,ai,B8,ev,sb,eb]:=hI;let G:=W9.rp a7 ar;let[ah,b0,bt,b9,az,ag,_]:=W.hs.ex;show#[_,0,h,ah,_,0,ag,0,PU W B8 ev λv8 al y r8=>#[_,0,?_]];rw[eb]at r8;let ae:Rp b (λx=>x=b) al (Cc d) v8:=r8.keep (λx o hz e=>{λz=>hz (by rw[z];let[l,hl]:=W.bag.atb;rw[hl];show(λh=>nomatch h)),e}) λ_ _ e=>e;show OW EJ (K:=λz _=>z=.bl (AU (Cc d) (Cc d))) y.bag ae (CJ I (Am I W.bag y G)) #[{E1 d,E1 d},0] λz fl v' ay hz ab rz=>?_;subst hz;obtain rfl:v'=.bl _:=rz;rw[IE 9 (E1 d)];show k ay
end
noncomputable abbrev AF(K:Fg)(n:Str)(st:Stmt):Prop:=∃(a:Addr)(od an:FG)(sl:Array C2)(oc kV dc pm cd ct:Value),PySem.W.nsIn K mainGlobals n\(some (.ref a))/\K.lookup a\{oc,od,.func (PySem.W.fnOf n n (Ca st) (Bi st) (AL st) .none kV dc pm an cd ct),sl}/\PySem.W.codeIn K cd n=true/\PySem.W.keepIn K (.ref a)=true
noncomputable abbrev Bt(K:Fg)(n:Str):Prop:=PySem.W.nsIn K mainGlobals n\none
def AF.of{K:Fg}{n}{st}{sl:Array C2}{kV e}(h1:PySem.W.nsIn K mainGlobals n\(some (.ref a)))(h2:K.lookup a\{oc,od,.func (PySem.W.fnOf n n (Ca st) (Bi st) (AL st) .none kV e pm an cd ct),sl})(d:PySem.W.codeIn K cd n=true)(c:PySem.W.keepIn K (.ref a)=true):AF K n st:=#[_,_,_,_,_,_,_,_,_,_,h1,h2,d,c]
def AF.at{K}{n}{st}(p:AF K n st)(X:K.In h)(G:h.Ns mainGlobals mg):Ai K mg n st:=by let[_,_,_,_,_,_,_,_,_,_,h1,h2,c,a]:=p;show{_,_,Mc (st:=st) h2 c a,dE X G h1}
noncomputable abbrev AI(K:Fg)(n:Str)(v:Int):Prop:=∃t,PySem.W.nsIn K mainGlobals n\(some (.int v t))
def AI.of{K:Fg}{n}{v}(h:PySem.W.nsIn K mainGlobals n\(some (.int v t))):AI K n v:=#[t,h]
def AI.at{K}{n}{v}(p:AI K n v)(X:K.In h)(G:h.Ns mainGlobals mg):∃t,mg n\(.int v t):=by let[t,q]:=p;show{t,dE X G q}
noncomputable abbrev AX(K:Fg)(n:Str):Prop:=∃c,PySem.W.nsIn K mainGlobals n\(some (.ref c))/\PySem.W.excIn K c vE "ValueError.__new__"=true
def AX.of{K:Fg}{n}{c}(h:PySem.W.nsIn K mainGlobals n\(some (.ref c)))(q:PySem.W.excIn K c vE "ValueError.__new__"=true):AX K n:=#[c,h,q]
def AX.at{K}{n}(p:AX K n)(X:K.In h)(G:h.Ns mainGlobals mg):∃C,XCls K mg n C:=by let[c,q,r]:=p;show{c,dE X G q,r}
noncomputable abbrev AO(K:Fg)(a b:Str):Prop:=∃c d,PySem.W.nsIn K mainGlobals a\(some (.ref c))/\PySem.W.nsIn K mainGlobals b\(some (.ref d))/\mroIn K c d=false
def AO.of{K:Fg}{a b}{c}(h:PySem.W.nsIn K mainGlobals a\(some (.ref c)))(g:PySem.W.nsIn K mainGlobals b\(some (.ref d)))(q:mroIn K c d=false):AO K a b:=#[c,d,h,g,q]
noncomputable def JL(K:Fg):List (Str×Str)->Prop|[]=>True|p::r=>AO K p.1 p.2/\JL K r
theorem JL.at{K}(X:K.In h)(G:h.Ns mainGlobals mg):∀{l},JL K l->PH K mg l|[],_=>True.intro|p::r,⟨⟨c,d,h,g,q⟩,t⟩=>{λC D e f=>by rw[dE X G h]at e;rw[dE X G g]at f;cases e;cases f;show q,JL.at X G t}
noncomputable abbrev AM(K:Fg)(C:Addr)(n q:Str)(st:Stmt):Prop:=∃(a:Addr)(od an:FG)(sl:Array C2)(oc kV dc pm cd ct:Value),PySem.W.findIn K (.ref C) n\(some (.ref a))/\K.lookup a\{oc,od,.func (PySem.W.fnOf n q (Ca st) (Bi st) (AL st) .none kV dc pm an cd ct),sl}/\PySem.W.codeIn K cd q=true/\PySem.W.keepIn K (.ref a)=true/\PySem.W.isFn K (.ref a)=true
def AM.of{K:Fg}{n q}{st}{sl:Array C2}{kV f}(h1:PySem.W.findIn K (.ref C) n\(some (.ref a)))(h2:K.lookup a\{oc,od,.func (PySem.W.fnOf n q (Ca st) (Bi st) (AL st) .none kV f pm an cd ct),sl})(e:PySem.W.codeIn K cd q=true)(d:PySem.W.keepIn K (.ref a)=true)(c:PySem.W.isFn K (.ref a)=true):AM K C n q st:=#[_,_,_,_,_,_,_,_,_,_,h1,h2,e,d,c]
def AM.at{K}{n q}{st}(p:AM K C n q st):Im K C n q st:=by let[_,_,_,_,_,_,_,_,_,_,h1,h2,d,a,c]:=p;show#[_,_,Mc h2 d a,#[h1,c,a]]
noncomputable abbrev AD(K:Fg)(D:Addr)(k n:Str):Prop:=∃a,PySem.W.nsIn K D k\(some (.ref a))/\PySem.W.nsIn K mainGlobals n\(some (.ref a))
def AD.of{K:Fg}{k n}(h:PySem.W.nsIn K D k\(some (.ref a)))(g:PySem.W.nsIn K mainGlobals n\(some (.ref a))):AD K D k n:=#[a,h,g]
def all_mk{l:PySem.W.OpenLaw}{K:Fg}(X:K.In h)(G:h.Ns mainGlobals mg)(hfa:mg "law"\(.ref fa)){odi_TooFew ani_TooFew:FG}{sli_TooFew:Array C2}(y0:AF K "is_name" K7)(y1:AF K "rises" HG)(y2:AF K "is_room" K8)(y3:AF K "is_row" K9)(y4:AF K "within" LA)(y5:AF K "is_tally" Iq)(y6:AF K "common" LB)(y7:AF K "summed" LF)(y8:AF K "plus" Oa)(y9:AF K "less" Ob)(ya:AF K "shared" LH)(yb:AF K "bar" LI)(yc:AF K "bars" Oc)(yd:AF K "check_papers" Od)(ye:AF K "with_room" Oe)(yf:AF K "places" LC)(yg:AF K "picked" LD)(yh:AF K "share" OZ)(yi:AF K "started" LJ)(yj:AF K "entered" Og)(yk:AF K "withdrawn" Oh)(yl:AF K "own_deed" Oi)(ym:AF K "open_rooms" LK)(yn:AF K "open_tallies" LL)(yo:AF K "named_bars" LM)(yp:AF K "_law_bag" Oj)(yq:AF K "_law_pull" Ol)(yr:AF K "_law_word" LO)(ys:AF K "_law_names" Om)(yt:AF K "_law_questions" Oo)(yu:AF K "_law_part" LP)(yv:AF K "_law_ears" Op)(yw:AF K "_law_knotted" LQ)(yx:AF K "_law_rooms" LR)(yy:AF K "_law_answers" LS)(yz:AF K "_law_many" Oq)(y10:AF K "_law_settled" LU)(y11:AF K "_law_drawn" Os)(y12:AF K "_law_row_of" LW)(y13:AF K "_law_portion" Ot)(y14:AF K "_law_mark" Ou)(y15:AF K "_law_in" LX)(y16:AF K "_law_due_start" Iz)(y17:AF K "_law_due" Ov)(y18:AF K "_law_begun" JA)(y19:AF K "_law_both" LZ)(y1a:AF K "_law_bar" La)(y1b:AF K "_law_bars" Ox)(y1c:AF K "_law_whole" Oy)(y1d:AF K "_law_tuple" Lb)(y1e:AF K "law" EN)(y1f:Bt K "len")(y1g:Bt K "list")(y1h:Bt K "range")(y1i:Bt K "isinstance")(y1j:Bt K "bool")(y1k:Bt K "int")(y1l:Bt K "tuple")(y1m:Bt K "all")(y1n:Bt K "any")(y1o:Bt K "sorted")(y1p:Bt K "set")(y1q:Bt K "sum")(y1r:Bt K "dict")(y1s:Bt K "zip")(y1t:Bt K "min")(y1u:Bt K "max")(y1v:Bt K "str")(y1w:AI K "MOST_LETTERS" 8)(y1x:AI K "MOST_QUESTIONS" 6)(y1y:AI K "HIGHEST_ANSWER" 9)(y1z:AI K "MOST_ROOMS" 8)(y20:AI K "MOST_COUNT" 1000000000000)(y21:PySem.W.nsIn K mainGlobals "TooFew"\(some (.ref c_TooFew)))(y22:PySem.W.findIn K (.ref c_TooFew) "__init__"\(some (.ref f_TooFew)))(y23:K.lookup f_TooFew\{oci_TooFew,odi_TooFew,.func (PySem.W.fnOf "__init__" "TooFew.__init__" (Ca Ld) (Bi Ld) (AL Ld) .none kVi_TooFew dci_TooFew pmi_TooFew ani_TooFew cdi_TooFew cti_TooFew),sli_TooFew})(y24:PySem.W.codeIn K cdi_TooFew "TooFew.__init__"=true)(y25:Ii K c_TooFew "ValueError.__new__" f_TooFew=true)(y26:PySem.W.isFn K (.ref f_TooFew)=true)(y27:(PySem.W.clsIn K c_TooFew).any (λcd=>Fv cd.mro)=true)(y28:PySem.W.hasDictIn K c_TooFew=true)(y29:PySem.W.findIn K (.ref c_TooFew) "__setattr__"\(some (.builtin "object.__setattr__")))(y2a:PySem.W.findIn K (.ref c_TooFew) "__getattribute__"\(some (.builtin "BaseException.__getattribute__")))(y2b:PySem.W.findIn K (.ref c_TooFew) "__getattr__"\none)(y2c:PySem.W.findIn K (.ref c_TooFew) "row"\none)(y2d:AX K "BadName")(y2e:AX K "BadRoom")(y2f:AX K "BadRow")(y2g:AX K "BadTally")(y2h:AX K "BadCount")(y2i:AX K "NoRoom")(y2j:AX K "Taken")(y2k:AX K "Full")(y2l:PySem.W.nsIn K mainGlobals "House"\(some (.ref c_House)))(y2m:Cls K c_House)(y2n:PySem.W.makesIn K c_House=true)(y2o:PySem.W.keepIn K (.ref c_House)=true)(y2p:C4 K c_House "asked")(y2q:C4 K c_House "opened")(y2r:C4 K c_House "past")(y2s:C4 K c_House "undone")(y2t:AM K c_House "__init__" "House.__init__" Oz)(y2u:AM K c_House "do" "House.do" O0)(y2v:AM K c_House "bars" "House.bars" O1)(y2w:PySem.W.nsIn K mainGlobals "DEEDS"\(some (.ref a_DEEDS)))(y2x:K.lookup a_DEEDS\{.type "dict",none,.dict es_DEEDS n_DEEDS,#[]})(y2y:PySem.W.KeysLit w.params es_DEEDS.toList)(y2z:AD K a_DEEDS "start" "started")(y30:AD K a_DEEDS "enter" "entered")(y31:AD K a_DEEDS "withdraw" "withdrawn")(y32:JL K VQ):∃fd:FuncData,(∀(s:Shared)(v:Value),BindsTo s fd {[v],[]} [("_law_script",v)])/\∀base:Heap,K.In base->base.Ns mainGlobals mg->FnOk l.prog w K mg base Dm 8 fa fd ϧ (Li K):=by
 let[aff,odf,anf,slf,ocf,kVf,dcf,pmf,cdf,ctf,h1f,h2f,h3f,h4f]:=y1e;let z0:∃C,XClsV K mg "TooFew" "row" C:={c_TooFew,dE X G y21,#[y27,y28,y29,y2a,y2b,y2c],f_TooFew,_,"row",y25,y26,.all (λus hl=>B0 hl dG),λP w base CX=>e9 y23 y24 g9 rfl '3' '3'};let z1:=y2d.at X G;let z2:=y2e.at X G;let z3:=y2f.at X G;let z4:=y2g.at X G;let z5:=y2h.at X G;let z6:=y2i.at X G;let z7:=y2j.at X G;let z8:=y2k.at X G;let C_House:ClassAt K mg "House" c_House:={dE X G y2l,y2m,y2n,y2o};let T_DEEDS:mg "DEEDS"\(.ref a_DEEDS):=dE X G y2w;let e:=hfa.symm.trans (dE X G h1f);cases e;let T:TxtB mg:={b_len:=cV X G y1f,b_list:=cV X G y1g,b_range:=cV X G y1h,b_isinstance:=cV X G y1i,b_bool:=cV X G y1j,b_int:=cV X G y1k,b_tuple:=cV X G y1l,b_all:=cV X G y1m,b_any:=cV X G y1n,b_sorted:=cV X G y1o,b_set:=cV X G y1p,b_sum:=cV X G y1q,b_dict:=cV X G y1r,b_zip:=cV X G y1s,b_min:=cV X G y1t,b_max:=cV X G y1u};let Tx:Txt mg:={T with g_HIGHEST_ANSWER:=y1y.at X G};let TN:TxtN mg:={Tx with b_str:=cV X G y1v,g_MOST_LETTERS:=y1w.at X G,g_MOST_QUESTIONS:=y1x.at X G};let TC:TxtC K mg:={T with g_MOST_COUNT:=y20.at X G,x_BadRow:=z3,x_BadCount:=z5,x_NoRoom:=z6};let TF:TxtF K mg:={T with x_TooFew:=z0};let T8:TxtS8 K mg:={TC with g_MOST_ROOMS:=y1z.at X G};let TH:TxtH K mg c_House a_DEEDS w:=#[C_House,y2p,y2q,y2r,y2s,T_DEEDS,#[_,_,y2x,y2y]];let TX:XsAt K mg z1.choose z2.choose z3.choose z4.choose z5.choose z6.choose z7.choose z8.choose z0.choose:={z1.choose_spec,z2.choose_spec,z3.choose_spec,z4.choose_spec,z5.choose_spec,z6.choose_spec,z7.choose_spec,z8.choose_spec,z0.choose_spec,y32.at X G};show{PySem.W.fnOf "law" "law" (Ca EN) (Bi EN) (AL EN) .none kVf dcf pmf anf cdf ctf,λs v=>.of_eq rfl,λbase _ _=>?_};let z9:=hL (P:=l.prog) (w:=w) (base:=base) (yq.at X G) T;let za:=iB z9;let zb:=iC (iA (ys.at X G) T z9 (hU (yr.at X G) T z9));let zc:=iF (P':=l.prog) (w:=w) (base:=base) (y10.at X G) T;let zd:=iD (yy.at X G) T za;let ze:=iK (y11.at X G) T za zd (Ux (yz.at X G) T za) zc;let zf:=iu (yu.at X G) T za;let zg:=jI (yx.at X G) T za zf (i4 (yv.at X G) T za zf) (jB (yw.at X G) T za zf);let zh:=iV (y13.at X G) T (iP (P':=l.prog) (w:=w) (base:=base) (y12.at X G) T) zc;let zi:=iM (P':=l.prog) (w:=w) (base:=base) (y1c.at X G) T;let zj:=iN (y1d.at X G) T zi;let zk:=iL (P':=l.prog) (w:=w) (base:=base) (y3.at X G) Tx;let zl:=ik (P':=l.prog) (w:=w) (base:=base) (y0.at X G) TN;let zm:=io (y2.at X G) TN zl (im (y1.at X G) T);let zn:=ij (y5.at X G) T zk (ii (y1.at X G) T);let zo:=iO (P':=l.prog) (w:=w) (base:=base) (y4.at X G) T;let zp:=iS (P':=l.prog) (w:=w) (base:=base) (y7.at X G) T;let zq:=iW (y8.at X G) T zp;let zr:=ig (y9.at X G) TF zp;let zs:=jJ (yd.at X G) TC zk;let zt:=jL (P':=l.prog) (w:=w) (base:=base) (ye.at X G) T;let zu:=jM (yf.at X G) T zo;let zv:=jN (P':=l.prog) (w:=w) (base:=base) (yg.at X G) T;let zw:=jO (yh.at X G) T zu zv;let zx:=j8 (yb.at X G) T (j5 (P':=l.prog) (w:=w) (base:=base) (y6.at X G) T) (j7 (ya.at X G) T zu zv zp);let zy:=jR (yj.at X G) TC zs zq zw;let zz:=jS (yk.at X G) TC zs zr zw;let zA:=jU (yi.at X G) T8 zl zm zo zn zt;let zB:=jW (jV (P':=l.prog) (w:=w) (base:=base) (yl.at X G) T);let zC:=jX y2u.at T TH zB (λwd hw=>by
  let 0||0||0:=hw
  .show let⟨_,hk1,hk2⟩:=y30;{_,hk1,PV zy (dE X G hk2) '3'}
  .show let⟨_,hk1,hk2⟩:=y31;{_,hk1,PV zz (dE X G hk2) '3'}
  .show let⟨_,hk1,hk2⟩:=y2z;{_,hk1,PV zA (dE X G hk2) '3'})
 let Gm:=ja (y14.at X G) TH TX zC;let zD:=jb (P':=l.prog) (w:=w) (base:=base) (y15.at X G) T;let zE:=jd (y17.at X G) T (jc (y16.at X G) T zl zm zD zn);let zF:=kF (y1b.at X G) T (kE (y1a.at X G) T (j6 (P':=l.prog) (w:=w) (base:=base) (y19.at X G) T) zh);let Gh:=kI y2v.at TH (kG (yo.at X G) T (kC (yc.at X G) T zx) (j0 (ym.at X G)) (j4 (yn.at X G)));show kM (Mc (st:=EN) h2f h3f h4f) T TH (hG (yp.at X G) T) za (ip (yt.at X G) T za zb) (jY y2t.at T TH zm) (jz (y18.at X G) T za zg ze zh Gm zE) zd (Ux (yz.at X G) T za) zF zj Gm Gh
def walk{l:PySem.W.OpenLaw}{q}{loose:At}{XP:(Str->C2)->Heap->Prop}{d}{K:Params->Fg}(hn:l.most\63)(hdf:d.params.defaults=[])(hY:∀(w)(h),YP w h->(K w.params).In h)(F:∀(w)(mg:Str->C2)(fa)(h),(K w.params).In h->h.Ns mainGlobals mg->mg d.name\(.ref fa)->∃fd,(∀(s)(u),BindsTo s fd {[u],[]} [("_law_script",u)])/\∀base,(K w.params).In base->base.Ns mainGlobals mg->FnOk l.prog w (K w.params) mg base Dm 8 fa fd ϧ (Li (K w.params))):PySem.W.WalkO q loose XP YP l.row.toRowW d [] (λf vs=>PySem.call f vs):=L2.dU hn '3' hdf #[0,'3','3'] hY F (λ_ _ a ns hl _ hS=>{a,ns,0,hS,λ_=>rfl}) λ_ _ _ _ _ z=>z
end K
structure PySem.W.Fast:Prop where(tw10000894332593590300 tw10073637399935642309 tw10203618399780388074 tw10307680326068395325 tw10393338446129873025 tw10403525688339250527 tw10420011331212308041 tw10540888985292329863 tw10715278035515652382 tw10758359112681811146 tw10898283543289258497 tw10950687197434684284 tw10984924589513663612 tw11044733373647321943 tw11402675609316002287 tw11423799054905247973 tw115234076092553143 tw11543982346862999637 tw11612153752654881336 tw11643428717700730125 tw11661637707283124381 tw11668850698783655263 tw11676531822794730757 tw11719002090227388414 tw1174077022914956534 tw12311606651043734506 tw12391653129735176353 tw12439899424704262814 tw12545278543038090411 tw12661039602306348661 tw12713687275762771864 tw12735187093886994887 tw12736253586280673218 tw12807588984562013198 tw12820837376701946715 tw12829804067116637127 tw1284923564688520059 tw12871331065831952558 tw12884756203794487198 tw12899960612712343157 tw12913286957902883134 tw12922226455166460720 tw12969734578166922143 tw13018545837914866099 tw13038251664208409120 tw13070622672923451918 tw13089562000978277351 tw13126250063640424620 tw13224299004012571045 tw13230963011217166294 tw13244956390757255844 tw13306915648335102493 tw13320913461855254664 tw13341033976458060186 tw13377599251375254624 tw13452456569433671704 tw13496274555856186529 tw13518102231709671047 tw13585924540824025476 tw1360001439538053 tw13624825927372680923 tw13739549604196068688 tw13792410073993805799 tw13832262125745199158 tw13929667954769215201 tw14003681330799356006 tw14038566211942162225 tw14130813643360513162 tw14214415527250198843 tw14227056244627890673 tw14228829495336373661 tw1424056387793293689 tw14286826556534899338 tw14332655108564073245 tw1444407230002324533 tw14520146989229719965 tw14533738867330095963 tw14637097770585037605 tw14641639780460218807 tw14663516589546886435 tw14716443315009919798 tw14718341871144115585 tw14733516413160450209 tw14756413012901080930 tw14835699865524376365 tw14861806764965331967 tw14953640516149261753 tw15022791419887175815 tw15051980608108335660 tw15201675605977219981 tw15277021509801969790 tw15313540337510503192 tw15325580398473816380 tw15343396397334808162 tw15476609384731096101 tw15481335856883287779 tw15487953077271022179 tw1570914397687082103 tw15765467367788182222 tw15786710863974086121 tw15890784533291816694 tw15936288682486278369 tw16136115827374808435 tw16169099614972846090 tw16270125057082558098 tw16273701862773650579 tw16349199637402117938 tw16441737859238261849 tw16444248033445095224 tw16490671866922343949 tw16649295373928907842 tw16708537243123918907 tw16722409090435029374 tw16805338716975019360 tw16935885334730950466 tw17003571003931088719 tw17021499363529948063 tw17051188457848032408 tw17113540857847716675 tw17193901148963036920 tw17233753058661297586 tw1740444302960903049 tw17497934145877469072 tw17512121811529784562 tw17543852563672658201 tw1756878262562029774 tw17593438535075397873 tw17619140632270255507 tw17715526946545796122 tw17865610525318518844 tw17870670470768385685 tw18038793923510569628 tw18055292994246842961 tw18127434429573718987 tw18148976457931002036 tw18234587365328174358 tw18236638264716129797 tw18274814088421572122 tw18357474746043150464 tw18406564840748263900 tw1937884843975748780 tw1943269926452649516 tw1963525387115252690 tw2012413519975762213 tw2016861086649695615 tw2031887338854987880 tw2047390868967023149 tw2125643154739518502 tw2200649725013214445 tw2247751816112366360 tw2313525318240097168 tw2366721585098881790 tw2376162300782259933 tw2492249208981547422 tw2578904674683861019 tw2662566731522836390 tw2712133645497659424 tw2897555701128418599 tw2994178069140821501 tw346034448404559798 tw358669981004090580 tw3593389110952220863 tw3738971155736910869 tw379539054457812749 tw385083314045789391 tw3864783532833459068 tw3876223621535035052 tw39137917583260439 tw3962789025292525129 tw3976347070311742405 tw3980703459886259948 tw4028763723816563447 tw4053081209736433935 tw4079762152128891308 tw4088342926251728643 tw4105668404137469769 tw4130629513618974051 tw4145712873037996627 tw4155425916556015244 tw4195629858159013697 tw4205634090329709571 tw422333163508807042 tw4233434212889271926 tw4240511671012553651 tw4244356368407628874 tw4280269786456693721 tw4281632104477645704 tw4305463290833717650 tw430833258272593787 tw4376629251861733775 tw4463464634274902865 tw4518911932635748159 tw453730483381614237 tw4573813453337644493 tw4787435474680846239 tw4882536201930632666 tw4919682130520805382 tw4945381949773364284 tw4963389643270782021 tw5096756104541019807 tw5145813245861202135 tw519899796723654822 tw5290871016321978267 tw5345829804656727047 tw5505708727828134575 tw5533177205466681202 tw5575801784205678618 tw5582371777092848440 tw5586984766999078742 tw5658958112546182666 tw5682058511895881298 tw5714243473749826428 tw5773073258522932833 tw5901575811942098440 tw5983856543831424033 tw6094967896835553096 tw6153313913464475053 tw6254273526393779895 tw6417342068361217799 tw6600623154091516911 tw6656579990847980771 tw6665828188904701509 tw6868760198835669154 tw6923069861414661620 tw6986602922032151245 tw7135898708874986523 tw7147030587344956020 tw716393269083096077 tw7169715180142950995 tw7305582397016016593 tw7358765555494611113 tw7444709347175327093 tw7500777190809865195 tw7533034444373053172 tw7720989709839383795 tw7722844181244482636 tw7727672198091357964 tw7754922740987030591 tw7776861724942073564 tw7787336576693058991 tw7909447566685116996 tw7959466812444839322 tw8099314307699947925 tw8148605957395522272 tw8176436527080879112 tw8187580203057863033 tw8192400017210324120 tw8252163740788278572 tw8287828070322520245 tw836575313126361348 tw838618630096892056 tw8530062349909889474 tw8632875465203858336 tw8644808564784769133 tw8649065351973788373 tw8674626246323835864 tw8758010880959974389 tw8811176287342456753 tw8848867830556818412 tw8855154885165992488 tw8974772518169267441 tw9123636286996365689 tw9196909303327059988 tw9339884789191894300 tw934553929148530321 tw9430997523071848707 tw9448292453530570761 tw9461331804278657882 tw9658469989807881409 tw9683471107355872648 tw9776114954034421752 tw9902269304364030020 tw9997378383335933309 tw13525471588472072781 tw7735627761802795698 tw8430640499140807939 tw1916857514827768929 tw11172388225347994397 tw7529193669483288053 tw2415235742314013945 tw8320233815273813055 tw17686541666268213303 tw1778076950165994651 tw13702941588069425998 tw10460554704538243930 tw3771590984828402640 tw14455799365216371321 tw3128627520293143532 tw16299106817461197206 tw3216602361194392839 tw14388635190041004566 tw14421882320109938431 tw9473730568769951818 tw17526242757311095862 tw6838773508167110915 tw14395120076611657928 tw5183066618247677498 tw3694955185042974989 tw10250915868365421809 tw10837097392104628205 tw2422171970276074180 tw6860913296042025907 tw4654907609148853726 tw12870001932315438634 tw7526583264415244140 tw4552817702390245320 tw4989589530223922415 tw14977663283082982365 tw554693338408395795 tw2388558894155954996 tw11451200105464893311 tw13184321384286926639 tw5953864442351630584 tw4597167783355525347 tw11016469002667998379 tw3145157960716620546 tw12516924476721540302 tw18160628567313744903 tw11856831623119157417 tw5833090999021406953 tw15382680389863787261 tw10474349217261445467 tw16241446437039247283 tw7951950822711463219 tw3465204839351633386 tw6856999174311336499 tw9955261518870592985 tw17611174945902786046 tw9301883013908451351 tw3979742895116392322 tw5697096108903223207 tw10370073634071625142 tw8613855065201063050 tw2874573114712516652 tw4362053998673093649 tw2233312607932865719 tw14041082699238211442 tw1585105051745839120 tw12094945795236692133 tw575156815830896940 tw11854472007263317552 tw6199010581879911737 tw12546976806568187675 tw9781576696672471643 tw7758171006308680382 tw17307898419976453243 tw9817653839351631985 tw1997392553447364924 tw13590760655796867157 tw1807756544930319787 tw5682752142740548451 tw4989371602745448510 tw10717272594084684621 tw11794160563775329342 tw11205744580706587503 tw2265571591115022168 tw9942302394790898862 tw5864747621631841636 tw6421861080836984184 tw16761435932092046591 tw9909626839120807715 tw9845638259903751203 tw9824536057479634372 tw5639430997292845649 tw231351538473131394 tw1716777095567343335 tw12922926535686065385 tw2533905117385734993 tw6863346564450593540 tw5432469655315934295 tw4411080861795887135 tw15690657484434318589 tw12483679004370504384 tw10143212863990463614 tw9869263974276960463 tw9760906624948796107 tw9467149371996624370 tw2547314174599109172 tw17673232110281299154 tw15590562942192382989 tw13355413343948900408 tw13076283213451531486 tw12822230162223412309 tw16434327917588793239 tw16029294786248042821 tw12136396315302239804 tw9936800340493861635 tw6459322744035464037 tw13739072493371499864 tw18413829776882869899 tw8388033265974537809 tw944391129991701371 tw8706458625393948676 tw5681040501042394462 tw18075768268783770682 tw15480192769923242817 tw13714152854719346139 tw2073000162492555898 tw1441252402501958180 tw7824549902752570209 tw13274957039812809572 tw1947486268273765329 tw9563364642917697248 tw16208388562132051916 tw4446977797347871567 tw17717678181741068575 tw4219666955846765440 tw16966074223149415883 tw4575412059365860029 tw14084338023150836302 tw11725991832927207828 tw17881282316991964534 tw18081000157059837778 tw16509724425814814435 tw8976636133529087825 tw8179523276478109781 tw6578471472646412906 tw5993778836787339154:True)
open PySem.W
set_option maxRecDepth 100000 in
set_option maxHeartbeats 0 in
theorem PySem.Challenge.cw_roomtally_k30_whole_papers_change_no_bar_holds : PySem.Challenge.rw_roomtally_k30_whole_papers_change_no_bar.Holds := by
  w_on; o_law; k_head; (case hw => w_witness2)
  k_fill
  show K.walk (l := PySem.Challenge.rw_roomtally_k30_whole_papers_change_no_bar) rfl rfl (λw h ρ => PySem.W.kIn_of ρ) ?F
  case F =>
    intro w mg fa h KX G hmg;refine' K.all_mk KX G hmg ?_ ?_ ?_ ?_ ?_ ?_ ?_ ?_ ?_ ?_ ?_ ?_ ?_ ?_ ?_ ?_ ?_ ?_ ?_ ?_ ?_ ?_ ?_ ?_ ?_ ?_ ?_ ?_ ?_ ?_ ?_ ?_ ?_ ?_ ?_ ?_ ?_ ?_ ?_ ?_ ?_ ?_ ?_ ?_ ?_ ?_ ?_ ?_ ?_ ?_ ?_ ?_ ?_ ?_ ?_ ?_ ?_ ?_ ?_ ?_ ?_ ?_ ?_ ?_ ?_ ?_ ?_ ?_ ?_ ?_ ?_ ?_ ?_ ?_ ?_ ?_ ?_ ?y25 ?y26 ?y27 ?y28 ?_ ?_ ?_ ?_ ?_ ?_ ?_ ?_ ?_ ?_ ?_ ?_ ?_ ?_ ?_ ?_ ?_ ?_ ?_ ?_ ?_ ?_ ?_ ?_ ?_ ?y2y ?_ ?_ ?_ ?y32
    case y32=>
      repeat show{K.AO.of (by k_is) (by k_is) (by kernel_rfl),?_}
      show True.intro
    all_goals try first|show K.AF.of (by k_is) (by k_is) (by k_is) (by k_is)|show K.AM.of (by k_is) (by k_is) (by k_is) (by k_is) (by k_is)|show{by k_is,by k_is,by k_is,by k_is}|show K.AX.of (by k_is) (by kernel_rfl)|show K.AI.of (by k_is)|show K.AD.of (by k_is) (by k_is)|(change _=_;k_is)
    all_goals try kernel_rfl
    show#[#[_, _, 0, 0], #[_, _, 0, 0], #[_, _, 0, 0], #[_, _, 0, 0], #[_, _, 0, 0], #[_, _, 0, 0], trivial]