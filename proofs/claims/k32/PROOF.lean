import PyProof.Rows.All
import Wide.All
import OpenK.AllK
import Wide.FinOn
import Lean
import PyProof.EqAt
import PyProof.EqKinds
import PyProof.TupleCall
import PyProof.NeKinds
import PyProof.Draws
import PyProof.ZipIter
import KE.KSortTup
import PyProof.DictWalks
import KE.KDictList
import KE.KDictSum
import PyProof.AttrMissSeq
import PyProof.MinMaxWalk
import PyProof.AttrMissHeap
import PyProof.FactsAll.zip
import PyProof.Rows.SortRuns
import PyProof.Rows.SortKey
import PyProof.ExcBaseAll.ValueError
import OpenK.KOwn
import PyProof.InstStoreFacts
import PyProof.ExcInit
import PyProof.RulesDel
import PyProof.RulesAs
import KE.KItemsList
import PyProof.SetRoads
import PyProof.WalksMore
import PyProof.Rows.SetFrom
import PyProof.IsRules
import PyProof.Cells
import PyProof.ListRange
import PyProof.ListTruth
import KE.KEqDict
import KE.KRevIter
import PyProof.StrLawsIn
import KE.KTupSum
import PyProof.MeetsStr3
import PyProof.StrCalls6
import OpenK.KTop
import PyProof.DictCompW
import PyProof.DictValues
import PySem.Challenge.RW_roomtally_k32_whole_deeds_make_the_house
set_option Elab.async false
set_option linter.all false
set_option tactic.hygienic false
set_option bootstrap.genMatcherCode false
set_option compiler.extract_closed false
set_option maxRecDepth 100000
set_option maxHeartbeats 4000000
noncomputable section
open PySem List PySem.Spec PyProof.Rows
abbrev No(x:PySem.Str):Prop:=(x==("__debug__":PySem.Str))=false
abbrev N_(x:PySem.Str):Prop:=(x==("__classdict__":PySem.Str))=false
abbrev At:=List PySem.Str
abbrev By:=List Int
abbrev C2:=List PySem.Value
abbrev Do:=Option PySem.Value
abbrev Ex:=Array PySem.Value
abbrev FG:=List Nat
abbrev Ge:=Option PySem.Addr
abbrev Gn:=List PySem.Addr
abbrev He:=List PySem.Expr
abbrev Hq:=List PySem.Stmt
abbrev dF{α:Sort u}{β:Sort v}{a:α->β}(i:α):a i=a i:=rfl
abbrev dG{α:Sort u}{γ:α->Sort w}{β:Sort v}{a:∀i,γ i->β}(i:α)(j:γ i):a i j=a i j:=rfl
abbrev aA:=@length_map
abbrev aB:=@if_neg
abbrev aC:=@if_pos
abbrev aF:=@mem_cons
abbrev aG:=@length_append
abbrev aH:=@getElem?_eq_getElem
abbrev aI:=@List.getElem?_eq_some_iff
abbrev aJ:=@Option.map_eq_some_iff
abbrev aK:=@decide_eq_true
abbrev aL:=@of_decide_eq_true
abbrev aM:=@mem_of_getElem?
abbrev aO:=@length_take
abbrev aP:=@mem_map_of_mem
abbrev aQ:=@Nat.le_refl
abbrev aR:=@Nat.le_trans
abbrev aS:=@Heap.get?_push_of_some
abbrev aT:=@congrArg
abbrev aU:=@Nat.lt_of_lt_of_le
abbrev aW:=@decide_eq_true_iff
abbrev aX:=@Nat.lt_irrefl
abbrev aY:=@Nat.le_of_lt
abbrev bA:=@mem_append
abbrev bB:=@not_mem_nil
abbrev bC:=@nodup_cons
abbrev bG:=@length_range
abbrev bH:=@mem_range
abbrev bI:=@mem_singleton
abbrev bL:=@wpAny_mono
abbrev bM:=@wpAny_holding
abbrev bN:=@Heap.lt_size
abbrev bO:=@getElem?_map
abbrev bP:=@Heap.get?_push_size
abbrev bQ:=@getElem?_eq_none
abbrev bR:=@Array.length_toList
abbrev bS:=@absurd
abbrev bT:=@mem_cons_of_mem
abbrev bU:=@mem_map
abbrev bV:=@getElem?_set_ne
abbrev bW:=@getD_eq_getElem?_getD
abbrev bX:=@Nat.ne_of_lt
abbrev bY:=@getElem?_set_self
abbrev bZ:=@map_map
abbrev cA:=@mem_cons_self
abbrev cB:=@Bool.and_eq_true
abbrev cC:=@mem_append_right
abbrev cD:=@Nat.zero_le
abbrev cE:=@Nat.lt_or_ge
abbrev cF:=@map_congr_left
abbrev cG:=@wpAny_newObj_type
abbrev cH:=@Bool.false_ne_true
abbrev cK:=@decide_eq_false
abbrev cL:=@Array.getElem?_eq_getElem
abbrev cM:=@Heap.get?_update_other
abbrev cO:=@map_append
abbrev cP:=@append_nil
abbrev cQ:=@wpAny_call_entry
abbrev cS:=@Nat.le_succ
abbrev cT:=@pairwise_cons
abbrev cV:=@PySem.W.mg_none_of
abbrev cX:=@mem_filter
abbrev dD:=@if_true
abbrev dE:=@PySem.W.mg_of
abbrev VS:=Value->Shared->Prop
abbrev oI:=@Option.some.inj
abbrev Fg:=PySem.W.Frag
local macro_rules|`(nofun)=>`(by decide+kernel)
theorem sl0{p:Prop}(h:∀q:Prop,q=p->q):p:=h p rfl
local macro_rules|`(tactic|done<;>$t)=>`(tactic|(refine sl0 fun G e=>?_;($t<;>subst e)))
variable{fd:FuncData}{ps N ks q qI qC:At}{us:C2}{x m qual wd:Str}{u cd pm ct oc v' u':Value}{a L p it dx sl d l1 l2 D fI pp:Addr}{h h' base:Heap}{w:World}{qA:List (Addr×Obj)}{s s':Shared}{t' i j n nrem ep:Nat}{A:Around}{E Q:VS}{pos pos' tpos qK qJ np:Pos}{c lo:Int}{es ifs elts:He}{tg iter:Expr}{r:By}{prog P':Program}{env:Env}{mg:Str->Do}{outer:List Env}{sc scope:Scope}{an od:Ge}{qG:Ex}{qD:List (Option Nat)}{O:KeyOrd}{Z Z':Addr->Prop}{Kf:Fg}{rs:List At}
abbrev wB:=@PySem.wpAny_bind
abbrev wP:=@PySem.wpAny_pure
local macro_rules|`(tactic|trivial)=>`(tactic|first|exact .inl rfl|exact .inr rfl|exact .inr (.inl rfl)|exact .inr (.inr rfl)|assumption)
local macro_rules|`('0')=>`(⟨rfl,rfl,rfl,by decide+kernel,rfl,by decide+kernel,by decide+kernel⟩)
local macro_rules|`('1')=>`(⟨rfl,by decide+kernel,by decide+kernel,by decide+kernel,by decide+kernel,rfl,by decide+kernel⟩)
local macro_rules|`('2')=>`(by simp)
local macro_rules|`('3')=>`(by decide)
local macro_rules|`('4')=>`(by simp;lia)
local macro_rules|`('5')=>`(λz=>nomatch z)
local macro_rules|`('6')=>`(λ_ z=>nomatch z)
local macro_rules|`('7')=>`(λ_=>PassesOwn.never)
local macro_rules|`('8')=>`(λ_ _ _=>rfl)
local macro_rules|`('9')=>`(λ_ _=>False)
local macro_rules|`('A')=>`(wpAny _ _)
local macro_rules|`(~~~$a)=>`(by simpa using$a)
local macro_rules|`(tactic|rfl)=>`(tactic|(intro _;eq_refl))
local macro_rules|`($a\$b)=>`($a=some $b)
local macro_rules|`('B')=>return Lean.Syntax.mkApp (Lean.mkIdent `wpAny) #[Lean.Syntax.mkApp (Lean.mkIdent `model) #[(Lean.mkIdent `X.prog),(Lean.mkIdent `X.w)],(Lean.mkIdent `X.A)]
local macro_rules|`('C')=>return Lean.Syntax.mkApp (Lean.mkIdent `wpAny) #[Lean.Syntax.mkApp (Lean.mkIdent `model) #[(Lean.mkIdent `prog),(Lean.mkIdent `w)],(Lean.mkIdent `A)]
local macro_rules|`('E')=>return Lean.Syntax.mkApp (Lean.mkIdent `Fn) #[(Lean.mkIdent `P'),(Lean.mkIdent `w),(Lean.mkIdent `K),(Lean.mkIdent `mg),(Lean.mkIdent `base)]
local macro_rules|`('F')=>return(Lean.mkIdent `s.heap.get?)
local macro_rules|`('H')=>return(Lean.mkIdent `s.heap.objs.size)
local macro_rules|`('I')=>`(λ_=>$(Lean.mkIdent `Am))
local macro_rules|`('J')=>`(λ_=>$(Lean.mkIdent `T.b_len))
local macro_rules|`(tactic|lia)=>`(tactic|first|with_reducible(first|assumption|exact Nat.le_of_lt ‹_›|exact Int.le_of_lt ‹_›|exact Nat.le_of_not_lt ‹_›|exact Int.natCast_nonneg _|exact Nat.le_add_right _ _|exact Nat.lt_succ_of_le ‹_›|exact Nat.le_of_eq ‹_›|exact Nat.sub_succ_lt_self _ _ ‹_›|exact Nat.le_antisymm ‹_› (Nat.le_of_not_lt ‹_›)|exact Nat.le_trans ‹_› ‹_›|exact Nat.lt_of_le_of_lt ‹_› ‹_›|exact Nat.lt_trans ‹_› ‹_›|exact Nat.le_trans ‹_› (by decide))|cutsat)
local macro_rules|`(⋯)=>`(by lia)
abbrev ϊ:List Str:=["_law_bag_here","_law_many_here"]
abbrev ϋ:List Str:=["_law_names_here","_law_book","_law_deed_here"]
abbrev ό:List Str:=["_law_rows","_law_row_here","_law_count_here"]
abbrev ύ:List Str:=["questions","opened","deed"]
abbrev ώ:List Str:=["_law_bag_here","_law_size","_law_base"]
abbrev Ϗ:List Str:=["_law_room","_law_row_here","_law_count_here"]
abbrev ϐ:List Str:=["_law_bag_here","_law_names_here","_law_book"]
abbrev ϒ:List Str:=["_law_room","_law_row_here","_law_part_here"]
abbrev ϓ:List Str:=["one","other"]
abbrev ϔ:List Str:=["opened","name"]
abbrev ϖ:List Str:=["self"]
abbrev ϗ:List Str:=["_law_part_here","_law_room"]
abbrev Ϙ:List Str:=["room","rows"]
abbrev ϙ:List Str:=["_law_names_here","_law_book","_law_deed_here","_law_spots","_law_name","_law_room","_law_rows","_law_word_here","_law_sign"]
abbrev Ϛ:List Str:=["room","row","count"]
abbrev ϛ:List Str:=["opened","name","room","rows"]
abbrev Ϝ:List Str:=["_law_bag_here"]
abbrev ϝ:List Str:=["a","b","back","northern","zz","start","northend","none","count","whole","q","norther","aorthern"]
abbrev Ϟ:List Str:=["opened"]
abbrev ϟ:List Str:=["self","name"]
abbrev Ϡ:List Str:=["place","other","row","names"]
abbrev ϡ:List Str:=["_law_room","_law_rows","_law_part_here"]
abbrev Ϣ:List Str:=["room","rows","other_room","other_rows"]
abbrev ϣ:List Str:=["_law_script"]
abbrev Ϥ:List Str:=["_law_counts"]
abbrev ϥ:List Str:=["_law_bag_here","_law_room","_law_rows"]
abbrev Ϧ:List Str:=["room","row","part"]
abbrev ϧ:List Str:=["_law_bag_here","_law_names_here","_law_many_here","_law_name","_law_mask"]
abbrev Ϩ:List Str:=["BadName","BadRoom","BadRow","BadTally","BadCount","NoRoom","Taken","Full"]
abbrev ϩ:List Str:=["questions","opened","deed","row","count","changed","name","room","rows"]
abbrev Ϫ:List Str:=["room","rows","other_room","other_rows","part","one","other","apart"]
abbrev ϫ:List Str:=["_law_row_here","_law_count_here"]
abbrev Ϭ:List Str:=["_law_bag_here","_law_names_here"]
abbrev ϭ:List Str:=["row","spots"]
abbrev Ϯ:List Str:=["row","count"]
abbrev ϯ:List Str:=["room","part"]
abbrev ϰ:List Str:=["part","room"]
abbrev ϱ:List Str:=["questions","opened","deed","name","row","count","room","rows"]
abbrev ϲ:List Str:=["room","row"]
abbrev ϳ:List Str:=["low","high"]
abbrev ϴ:List Str:=["_law_house","_law_word_here"]
abbrev Ϸ:List Str:=["_law_house","_law_deed_here"]
abbrev ϸ:List Str:=["things"]
abbrev Ϲ:List Str:=["self","questions"]
abbrev Ϻ:List Str:=["_law_bag_here","_law_size"]
def rcp:Nat->Lean.Syntax->Lean.MacroM (Lean.TSyntax `rcasesPat)
|0,_=>Lean.Macro.throwUnsupported
|n+1,s=>match s with
 |`([$x,*])=>do `(rcasesPat|⟨$[$(<-x.getElems.mapM λy=>do `(Lean.Parser.Tactic.rcasesPatLo|$(<-rcp n y):rcasesPat))],*⟩)
 |`($a||$b||$c)=>do `(rcasesPat|($(<-rcp n a):rcasesPat|$(<-rcp n b):rcasesPat|$(<-rcp n c):rcasesPat))
 |`($a||$b)=>do `(rcasesPat|($(<-rcp n a):rcasesPat|$(<-rcp n b):rcasesPat))
 |`(_)=>`(rcasesPat|_)
 |`($i:ident)=>`(rcasesPat|$i:ident)
 |`(0)=>`(rcasesPat|$(Lean.mkIdent `rfl):ident)
 |_=>Lean.Macro.throwUnsupported
local macro_rules(kind:=Lean.Parser.Tactic.tacticLet__)|s=>do let d:=s[2];if d[0].isOfKind ``Lean.Parser.Term.letPatDecl then `(tactic|obtain $(<-rcp 99 d[0][0]):rcasesPat:=$(⟨d[0][4]⟩)) else return .node .none ``Lean.Parser.Tactic.tacticHave__ #[Lean.mkAtom "have",s[1],d]
local macro_rules|`(tactic|show $t)=>`(tactic|refine $t)
def ccp(s:Lean.Syntax):Lean.MacroM Lean.Syntax:=let a:=(s[1].getSepArgs.map λx=>⟨if x.isNatLit?==some 0 then Lean.mkIdent `rfl else x⟩:Array Lean.Term);`(⟨$a,*⟩)
local macro_rules(kind:=«term{_}»)|s=>ccp s
local macro_rules(kind:=Lean.Parser.Command.declaration)|s=>do let d:=s[1];let v:=d[3];let p:=d.isOfKind ``Lean.Parser.Command.definition;if s.getPos?.isSome&&(d[1][0].getId.toString.splitOn "cw_").length<2 then return s.rewriteBottomUp (·.setInfo .none)else if s[0].getArgs.any (!·.isNone)||!p||d[2][1].isNone||!v.isOfKind ``Lean.Parser.Command.declValSimple then Lean.Macro.throwUnsupported else if v[1].isOfKind ``Lean.Parser.Term.paren then return s.setArg 0 (<-`(noncomputable def x:=0)).raw[0] else return s.setArg 1 (.node .none ``Lean.Parser.Command.theorem #[Lean.mkAtom "theorem",d[1],.node .none ``Lean.Parser.Command.declSig #[d[2][0],d[2][1][0]],v])
local macro_rules(kind:=«term#[_,]»)|s=>if s[1].getNumArgs==0 then Lean.Macro.throwUnsupported else ccp s
namespace L2
def CY(h:us.length=1)(k:∀a,bindArgs fd {[a],[]}=pure (ps.zip [a])):bindArgs fd {us,[]}=pure (ps.zip us):=by cases us with|nil=>cases h|cons a l=>simp_all
def Bz(h:us.length=2)(k:∀a b,bindArgs fd {[a,b],[]}=pure (ps.zip [a,b])):bindArgs fd {us,[]}=pure (ps.zip us):=by let _||[a,_||[b,_||[_,_]]]:=us<;>first|show k _ _|cases h
def CV(h:us.length=3)(k:∀a b c,bindArgs fd {[a,b,c],[]}=pure (ps.zip [a,b,c])):bindArgs fd {us,[]}=pure (ps.zip us):=by let _||[a,_||[b,_||[c,_||[_,_]]]]:=us<;>first|simp_all|cases h
def QL(h:us.length=4)(k:∀a b c d,bindArgs fd {[a,b,c,d],[]}=pure (ps.zip [a,b,c,d])):bindArgs fd {us,[]}=pure (ps.zip us):=by let _||[a,_||[b,_||[c,_||[d,_||[_,_]]]]]:=us<;>first|simp_all|cases h
noncomputable abbrev AT:=Sum Int Str
noncomputable def G7:AT->Value->Bool|.inl k,v=>Value.isInt k v|.inr x,v=>Value.isStrOf x v
def W2(w:World):AT->Int|.inl k=>hashInt k|.inr x=>hashStr w x
theorem Ec:∀{k}{v},G7 k v=true->(∃i t,k=Sum.inl i/\v=Value.int i t)\/(∃x t,k=Sum.inr x/\v=Value.str x t)|.inl i,v,h=>by let[t,e]:=Value.isInt_shape h;show .inl #[i,t,0,e]|.inr x,v,h=>by let[t,e]:=Value.isStrOf_shape h;show .inr #[x,t,0,e]
def W4(i)(t):G7 (.inl i) (.int i t)=true:=by simp[G7,Value.isInt]
def W7(x)(t):G7 (.inr x) (.str x t)=true:=by simp[G7,Value.isStrOf]
def W8(a b):decide ((Sum.inl a:AT)=Sum.inl b)=(a==b):=by lia
def XA(a b):decide ((Sum.inr a:AT)=Sum.inr b)=decide (a=b):=by simp_all
def XB(a)(b):decide ((Sum.inl a:AT)=Sum.inr b)=false:=cK (λq=>nomatch q)
def XC(a)(b):decide ((Sum.inr a:AT)=Sum.inl b)=false:=cK (λq=>nomatch q)
def CF(prog)(w):PySem.KeyKind prog w AT where
 is:=G7
 hash:=W2 w
 inj:=λv a b ha hb=>by
  let[i,t,0,0]||[x,t,0,0]:=Ec ha
  .let[j,u,0,e]||[y,u,0,e]:=Ec hb
   .injection e with e1 _;rw[e1]
   .show nomatch e
  .let[j,u,0,e]||[y,u,0,e]:=Ec hb
   .show nomatch e
   .injection e with e1 _;rw[e1]
 byValue:=λk v h=>by let[i,t,0,0]||[x,t,0,0]:=Ec h<;>rfl
 pyHash:=λhv h=>by
  let[i,t,0,0]||[x,t,0,0]:=Ec hv
  .show wpAny_pyHash_int h
  .show wpAny_pyHash_str h
 eqBool:=λhu hv h=>by
  let[i,t,0,0]||[x,t,0,0]:=Ec hu
  .let[j,u,0,0]||[y,u,0,0]:=Ec hv
   .rw[W8]at h;show wpAny_eqBool_int h
   .rw[XB]at h;show SeqAt.EqAt.int_str i t y u _ _ _ _ h
  .let[j,u,0,0]||[y,u,0,0]:=Ec hv
   .rw[XC]at h;show SeqAt.EqAt.str_int x t j u _ _ _ _ h
   .rw[XA]at h;show wpAny_eqBool_str h
 «strs»:=λk x t v h=>by
  let[i,u,0,e]||[y,u,0,e]:=Ec h
  .show nomatch e
  .injection e with e1 _
   subst e1;cases v<;>rfl
def XD(prog)(w)(i)(t):(CF prog w).is (.inl i) (.int i t)=true:=W4 i t
def XE(prog)(w)(x)(t):(CF prog w).is (.inr x) (.str x t)=true:=W7 x t
inductive V where|non|bl(b:Bool)|int(i:Int)|str(x:Str)|byt(b:Array UInt8)|flt(b:UInt64)|ref(a:Addr)|ty(n:String)deriving DecidableEq
abbrev dH:=List V
def AV:V->Value->Prop|.non,u=>u=Value.none|.bl b,u=>u=Value.bool b|.int i,u=>∃t,u=Value.int i t|.str x,u=>∃t,u=Value.str x t|.byt b,u=>∃t,u=Value.bytes b t|.flt b,u=>∃t,u=Value.float b t|.ref a,u=>u=Value.ref a|.ty n,u=>u=Value.type n
abbrev AZ:dH->C2->Prop:=Paired AV
def AZ.length(r:AZ xs us):xs.length=us.length:=Paired.length r
theorem AZ.get:∀{xs}{us}{i:Nat}{x},AZ xs us->xs[i]?\x->∃u,us[i]?\u/\AV x u|_,_,_,_,.nil,e=>by simp at e|_,_,0,_,.cons r _,e=>by simp_all|_,_,i+1,x,.cons _ t,e=>by let[u,h1,h2]:=AZ.get t (~~~e);simp_all
theorem AZ.set{x}(r:AV x u):∀{xs}{us}(i),AZ xs us->AZ (xs.set i x) (us.set i u)|_,_,_,.nil=>.nil|_,_,0,.cons _ t=>.cons r t|_,_,i+1,.cons q t=>.cons q (AZ.set r i t)
def AZ.append{a}(h:AZ xs us)(s:AZ ys a):AZ (xs++ys) (us++a):=by induction h with|nil=>show s|cons r t c=>show .cons r c
theorem AZ.take:∀{xs}{us}(n),AZ xs us->AZ (xs.take n) (us.take n)|_,_,0,_=>.nil|_,_,_+1,.nil=>.nil|_,_,n+1,.cons r t=>.cons r (AZ.take n t)
theorem AZ.drop:∀{xs}{us}(n),AZ xs us->AZ (xs.drop n) (us.drop n)|_,_,0,r=>r|_,_,_+1,.nil=>.nil|_,_,n+1,.cons _ t=>AZ.drop n t
def Ce:Option V->Do->Prop|some v,some u=>AV v u|none,none=>True|_,_=>False
def KV:List (κ×V)->List (κ×Value)->Prop:=(Paired λ(p:κ×V)(q:κ×Value)=>p.1=q.1/\AV p.2 q.2)
def kV:AT->V|.inl i=>.int i|.inr x=>.str x
inductive HO where|lst(xs:dH)|tup(xs:dH)|dK(qH:List (AT×V))|dT(qH:List (List AT×V))|set(S:Int->Bool)(n:Nat)|ins(C dx:Addr)(fs:List (Str×V))|own(x:Addr)|xd(fs:List (Str×V))|met(f x:Addr)|rng(lo hi:Int)|frz(o:Obj)(u:HO)|tbl(ps:Ex)|ext(φ:Heap->Prop)
abbrev Hp:=Addr->Option HO
def AA(H:Hp)(a:Addr)(o:HO):Hp:=(λb=>if b=a then some o else H b)
def AJ:AA H a o a\o:=by unfold AA;rw[aC rfl]
def AE(h:b≠a):AA H a o b=H b:=by unfold AA;rw[aB h]
def IK{o u}:AA (AA H a o) a u=AA H a u:=by funext b;unfold AA;split<;>rfl
def CW{H:Hp}{o u}(h:H a\o)(h':H b\u)(d:o≠u):a≠b:=by lia
def Ak{H:Hp}(h:H a\o)(h':H b=none):a≠b:=by lia
def Dm(h:Heap)(a:Addr)(items:Ex):Prop:=(∃o,h.get? a\o/\o.cls=.type "tuple"/\(∃n,o.data=.seq items n)/\o.dict=none)
def Dm.tup(x:Dm h a items):IsTup h a items:=by let[o,e,c,d,_]:=x;show#[o,e,c,d]
def Dm.new(h:Heap)(items:Ex):Dm (h.push {cls:=.type "tuple",data:=.seq items}) h.objs.size items:={_,bP _ rfl,0,#[_,0],0}
section
variable(P:Program)(w:World)
def Bg(H:Hp)(h:Heap)(a:Addr):HO->Prop|.lst xs=>xs.length<=sizeLine/\∃(qG:C2)(n:Nat),AZ xs qG/\h.get? a\{cls:=.type "list",data:=.seq qG.toArray n}|.tup xs=>xs.length<=sizeLine/\∃qG:C2,AZ xs qG/\Dm h a qG.toArray|.dK qH=>qH.length<=sizeLine/\(a==sysModules)=false/\∃vs,KV qH vs/\h.DictOf (CF P w) a vs|.dT qH=>qH.length<=sizeLine/\(a==sysModules)=false/\∃xs:List (List AT×Addr×Value),Paired (λ(p:List AT×V)(q:List AT×Addr×Value)=>p.1=q.1/\H q.2.1\(.tup (p.1.map kV))/\AV p.2 q.2.2) qH xs/\∃o es ep,h.get? a\o/\o.ExactDict/\o.data=.dict es ep/\es.toList=xs.map (entryOfKey (tupleKind (CF P w)))/\(xs.map (·.1)).Nodup|.set S n=>h.SetOf (intKind P w) a S n|.ins C dx fs=>H dx\(.own a)/\fs.length<=1000/\dx≠a/\h.get? a\(PySem.W.instObj C dx)/\∃mA,h.Ns1 dx mA/\(∀f,Ce (fs.lookup f) (mA f))/\PySem.Within mA (fs.map (·.1))|.own _=>∃o,h.get? a\o|.xd fs=>∃mA,h.Ns1 a mA/\∀f,Ce (fs.lookup f) (mA f)|.rng lo hi=>∃t u v,h.get? a\{cls:=.type "range",data:=.fields [.int lo t,.int hi u,.int 1 v].toArray}|.frz o u=>h.get? a\o/\Bg H h a u|.tbl ps=>h.get? a\{cls:=.none,data:=.fields ps}|.met f x=>h.get? a\(PySem.W.methodObj (.ref f) (.ref x))|.ext φ=>φ h/\(∃o,h.get? a\o)/\∀h1 h2:Heap,φ h1->(∀o,h1.get? a\o->h2.get? a\o)->φ h2
def A3(H:Hp)(h:Heap):Prop:=(∀a o,H a\o->Bg P w H h a o)
end
section
variable{P:Program}{H H':Hp}{o:HO}
def Bg.lt(x:Bg P w H h a o):a<h.objs.size:=by cases o with|lst xs=>let[_,_,_,_,e]:=x;show bN e|tup xs=>let[_,_,_,p]:=x;show p.tup.lt|dK qH=>let[_,_,_,_,o,_,_,e,_]:=x;show bN e|dT qH=>let[_,_,_,_,o,_,_,e,_]:=x;show bN e|set S n=>let[o,_,_,_,e,_]:=x;show bN e|ins C dx fs=>let[_,_,_,e,_]:=x;show bN e|own y=>let[_,e]:=x;show bN e|xd fs=>let[_,[_,_,_,e,_],_]:=x;show bN e|rng lo hi=>let[_,_,_,e]:=x;show bN e|frz ob u=>let[e,_]:=x;show bN e|tbl ps=>show bN (x)|met f y=>show bN (x)|ext φ=>let[_,[_,e],_]:=x;show bN e
def Paired.mapP{l₂:List β}(h:Paired F l₁ l₂)(f:∀a b,F a b->G a b):Paired G l₁ l₂:=by induction h with|nil=>show .nil|cons r t c=>show .cons (f _ _ r) c
def Bg.stay(x:Bg P w H h a o)(k:∀b u,(b=a\/H b\(.own a))->h.get? b\u->h'.get? b\u)(ho:∀b,H b\(.own a)->H' b\(.own a))(i:∀b xs,H b\(.tup xs)->H' b\(.tup xs)):Bg P w H' h' a o:=by induction o with|lst xs=>let[z,qG,n,r,e]:=x;show{z,qG,n,r,k _ _ (.inl rfl) e}|tup xs=>let[z,qG,r,ob,e,c]:=x;show{z,qG,r,ob,k _ _ (.inl rfl) e,c}|dK qH=>let[z,y,vs,r,ob,es,ep,e,c]:=x;show{z,y,vs,r,ob,es,ep,k _ _ (.inl rfl) e,c}|dT qH=>let[z,y,xs,r,ob,es,ep,e,c]:=x;show{z,y,xs,Paired.mapP r λp q z=>{z.1,i _ _ z.2.1,z.2.2},ob,es,ep,k _ _ (.inl rfl) e,c}|set S n=>let[ob,es,ep,t,e,c]:=x;show{ob,es,ep,t,k _ _ (.inl rfl) e,c}|ins C dx fs=>let[d,z,ne,e,mA,[od,es,ep,j,c],r]:=x;show{ho _ d,z,ne,k _ _ (.inl rfl) e,mA,{od,es,ep,k _ _ (.inr d) j,c},r}|own y=>let[ob,e]:=x;show{ob,k _ _ (.inl rfl) e}|xd fs=>let[mA,[od,es,ep,e,c],r]:=x;show{mA,{od,es,ep,k _ _ (.inl rfl) e,c},r}|rng lo hi=>let[t,u,v,e]:=x;show{t,u,v,k _ _ (.inl rfl) e}|frz ob u g=>let[e,q]:=x;show{k _ _ (.inl rfl) e,g q}|tbl ps=>let e:=x;show k a _ (.inl rfl) e|met f y=>let e:=x;show k a _ (.inl rfl) e|ext φ=>let[p,[o,e],st]:=x;show{st _ _ p λo q=>k _ _ (.inl rfl) q,{o,k _ _ (.inl rfl) e},st}
def A3.lt(x:A3 P w H h)(e:H a\o):a<h.objs.size:=(x a o e).lt
def A3.fresh(x:A3 P w H h)(e:h.objs.size<=a):H a=none:=by cases q:H a with|none=>rfl|some u=>show bS (aU (x.lt q) e) (aX _)
def A3.kept(x:A3 P w H h)(k:∀b u,h.get? b\u->h'.get? b\u):A3 P w H h':=λa o e=>(x a o e).stay (λb u _ q=>k b u q) (λ_ q=>q) λ_ _ q=>q
def A3.laid(x:A3 P w H h)(k:∀b u,h.get? b\u->h'.get? b\u)(hp:h.objs.size<=a)(new:Bg P w (AA H a o) h' a o):A3 P w (AA H a o) h':=λb u e=>by
 let d:=x.fresh hp;by_cases hb:b=a
 .subst hb;rw[AJ]at e;simp_all
 .rw[AE hb]at e;show(x b u e).stay (λc v _ q=>k c v q) (λc q=>by rw[AE (Ak q d)];show q) λc xs q=>by rw[AE (Ak q d)];show q
end
def Rd(H:Hp)(a:Addr)(u:HO):Prop:=(H a\u\/∃o,H a\(.frz o u))
def Rd.of{u}(h:H a\u):Rd H a u:=.inl h
def Rd.ok{u}(r:Rd H a u)(x:A3 P w H h):Bg P w H h a u:=by
 let r||[o,r]:=r
 .show x a u r
 .let[_,q]:=x a _ r;show q
def IL:Option HO->Prop|some (.lst _)=>True|some (.dK _)=>True|some (.dT _)=>True|some (.set _ _)=>True|some (.ins _ _ _)=>True|some (.ext _)=>True|_=>False
section
variable{P:Program}{H:Hp}{x e:Addr}{o':HO}
def A3.write(ok:A3 P w H h)(g:IL (H x))(j:e=x\/H e\(.own x))(k:∀b u,b≠e->h.get? b\u->h'.get? b\u)(i:∃u,h'.get? e\u)(new:Bg P w (AA H x o') h' x o'):A3 P w (AA H x o') h':=λb u q=>by
 let d:∀c y,H c\(.own y)->c≠x:=λc y r z=>by subst z;rw[r]at g;show g
 let f:∀c xs,H c\(.tup xs)->c≠x:=λc xs r z=>by subst z;rw[r]at g;show g
 by_cases hb:b=x
 .subst hb;rw[AJ]at q;cases q;show new
 .rw[AE hb]at q;by_cases a:b=e
  .let q':H b\(.own x):=by lia
   rw[q]at q';cases q';let[v,hv]:=i;show{v,by rw[a];show hv}
  .show(ok b u q).stay (λc v hc r=>k c v ?_ r) (λc r=>by rw[AE (d c b r)];show r) λc xs r=>by rw[AE (f c xs r)];show r
   grind
end
structure Un(fs ex:Gn)(H H':Hp)(h h':Heap):Prop where
 keep:∀b o,h.get? b\o->H b=none->b∉fs->b∉ex->h'.get? b\o
 slot:∀b o,h.get? b\o->H b=none->b∈fs->b∉ex->∃sl,h'.get? b\{o with slots:=sl}free:∀b o,h.get? b\o->H b=none->b∉ex->H' b=none
 there:∀b o,h.get? b\o->b∉ex->∃o',h'.get? b\o'
 tups:∀b xs,H b\(.tup xs)->H' b\(.tup xs)frzs:∀b o u,H b\(.frz o u)->H' b\(.frz o u)tbls:∀b ps,H b\(.tbl ps)->∃more,H' b\(.tbl (ps++more))
section
variable{fs fs' ex ex':Gn}{H H1 H2:Hp}{h1 h2:Heap}{x e:Addr}{o:HO}
def Un.any(u:Un fs ex H H1 h h1)(q:h.get? b\ob)(n:H b=none)(a:b∉ex):∃sl,h1.get? b\{ob with slots:=sl}:=by
 by_cases hb:b∈fs
 .show u.slot b ob q n hb a
 .show{ob.slots,u.keep b ob q n hb a}
theorem Un.trans(a:Un fs ex H H1 h h1)(b:Un fs ex H1 H2 h1 h2):Un fs ex H H2 h h2 where
 keep:=λc ob q n f d=>b.keep c ob (a.keep c ob q n f d) (a.free c ob q n d) f d
 slot:=λc ob q n f d=>by let[sl,e]:=a.slot c ob q n f d;let[g,i]:=b.slot c _ e (a.free c ob q n d) f d;show#[g,i]
 free:=λc ob q n d=>by let[o',e]:=a.there c ob q d;show b.free c o' e (a.free c ob q n d) d
 there:=λc ob q d=>by let[o',e]:=a.there c ob q d;show b.there c o' e d
 tups:=λc xs q=>b.tups c xs (a.tups c xs q)
 frzs:=λc ob xs q=>b.frzs c ob xs (a.frzs c ob xs q)
 tbls:=λc ps q=>by let[l,e]:=a.tbls c ps q;let[j,i]:=b.tbls c _ e;show{l++j,by simp_all}
def Un.kept(k:∀b u,h.get? b\u->h'.get? b\u):Un fs ex H H h h':=#[λb ob q _ _ _=>k b ob q,λb ob q _ _ _=>{ob.slots,k b ob q},λ_ _ _ n _=>n,λb ob q _=>{ob,k b ob q},λ_ _ q=>q,λ_ _ _ q=>q,λ_ ps q=>{#[],by rw[q];simp}]
def Un.refl:Un fs ex H H h h:=Un.kept λ_ _ q=>q
theorem Un.laid(k:∀b u,h.get? b\u->h'.get? b\u)(hp:h.objs.size<=a)(c:H a=none):Un fs ex H (AA H a o) h h' where
 keep:=λb u q _ _ _=>k b u q
 slot:=λb u q _ _ _=>{u.slots,k b u q}
 free:=λb u q n _=>by rw[AE (bX (aU (bN q) hp))];show n
 there:=λb u q _=>{u,k b u q}
 tups:=λb xs q=>by rw[AE (Ak q c)];show q
 frzs:=λb u xs q=>by rw[AE (Ak q c)];show q
 tbls:=λb ps q=>{#[],by rw[AE (Ak q c),q];simp}
def Un.write(c:IL (H x))(i:e=x\/H e\(.own x))(k:∀b u,b≠e->h.get? b\u->h'.get? b\u)(f:∃u,h'.get? e\u):Un fs ex H (AA H x o) h h':=by
 let g:∀b,H b=none->b≠x:=λb n z=>by subst z;rw[n]at c;show c
 let hb:∀b,H b=none->b≠e:=λb n z=>by
  subst z;let r||r:=i
  .show g b n r
  .rw[n]at r;cases r
 let d:∀b u,H b\u->¬IL (some u)->b≠x:=λb u q nm z=>by subst z;rw[q]at c;show nm c
 show#[λb u q n _ _=>k b u (hb b n) q,λb u q n _ _=>{u.slots,k b u (hb b n) q},λb u q n _=>by rw[AE (g b n)];show n,λb u q _=>?_,λb xs q=>by rw[AE (d b _ q λz=>z)];show q,λb u xs q=>by rw[AE (d b _ q λz=>z)];show q,λb ps q=>{#[],by rw[AE (d b _ q λz=>z),q];simp}]
 by_cases a:b=e
 .simp_all
 .show{u,k b u a q}
end
def Jr(h:Heap)(H:Hp):Gn:=((List.range h.objs.size).filter λa=>(H a).isSome)
def E3(h:Heap)(H:Hp):Heap:=(PySem.W.hideAll h (Jr h H))
def XF(h)(H):(E3 h H).objs.size=h.objs.size:=PySem.W.hideAll_size _ _
def XG(e:h.get? b\o)(n:H b=none):(E3 h H).get? b\o:=PySem.W.hideAll_get _ e λa=>by let q:(H b).isSome=true:=(cX.mp a).2;rw[n]at q;simp at q
def XH(e:(E3 h H).get? b\o):h.get? b\o/\H b=none:=by let a:=PySem.W.of_hideAll _ e;show#[a,?_];cases q:H b with|none=>rfl|some x=>let c:b∈Jr h H:=cX.mpr {bH.mpr (bN a),by simp[q]};let z:(E3 h H).get? b=none:=PySem.W.hideAll_none _ c;simp_all
def E4(g h:Heap)(L:Addr):List (Addr×Obj):=((List.range h.objs.size).filterMap λa=>if a=L\/(g.get? a).isSome=true then none else(h.get? a).map λo=>(a,o))
def FX(h1:a≠L)(h2:g.get? a=none)(c:h.get? a\o):(a,o)∈E4 g h L:=mem_filterMap.mpr {a,bH.mpr (bN c),by simp_all}
set_option tactic.hygienic true in
def XI{p}(c:p∈E4 g h L):p.1≠L/\g.get? p.1=none/\h.get? p.1\p.2:=by
 let[b,_,e]:=mem_filterMap.mp c;split at e
 .cases e
 .rename_i a;cases q:h.get? b with|none=>simp_all|some u=>rw[q]at e;simp only[Option.map_some,Option.some.injEq]at e;subst e;simp_all
def qF(g h:Heap)(L d:Addr):List (Addr×Obj):=((E4 g h L).filter λp=>decide (p.1≠d))
def QM:News g L h (E4 g h L):=λp d=>by let[a,b,c]:=XI d;show#[c,a,b]
structure Mod(K:Fg)(mg:Str->Do)(base:Heap):Prop where
 kin:K.In base
 glob:base.Ns mainGlobals mg
 blt:∃mb,base.Ns builtinsNs mb/\∀x:Str,x≠"__name__"->mb x=bootBuiltins x
 nolimit:base.NoLimit
structure Cx where
 prog:Program
 w:World
 K:Fg
 mg:Str->Do
 base:Heap
 A:Around
 N:At
 s₀:Shared
 H₀:Hp
 env:Env
 outer:List Env
 stack:List Env
 ex:Gn
 fn:Str->Bool
 calm:Bool
 pn:List (Addr×Obj)xe:VS
end L2
variable{H H' H1 H2:L2.Hp}{o:L2.HO}{X:L2.Cx}{v:L2.V}{vs:List L2.V}
namespace L2
def frs(l:List Env):Gn:=(l.filterMap (·.frame))
abbrev Cx.fs(X:Cx):Gn:=frs X.outer
def Ed(sc:Scope)(x:Str):Prop:=(sc.names.lookup x\.local\/sc.names.lookup x\.cell\/sc.names.lookup x\.free)
def Ee(sc:Scope)(x:Str):Prop:=(sc.names.lookup x\.local\/sc.names.lookup x\.cell)
def QN(env:Env)(h:Heap)(m:Str->Do)(x:Str)(u:Value):Prop:=((env.kindOf x\.local/\m x\u)\/((env.kindOf x\.cell\/env.kindOf x\.free)/\∃c,env.cells.lookup x\c/\h.IsCell c (some u)))
structure Cx.Ok(X:Cx):Prop where
 mod:Mod X.K X.mg X.base
 kind:X.env.scope.kind=.function
 glob:X.env.globals=mainGlobals
 blt:X.env.builtins=builtinsNs
 above:X.s₀.heap.objs.size<=X.env.locals
 inj:∀x y c,X.env.cells.lookup x\c->X.env.cells.lookup y\c->x=y
 has:∀x,(X.env.kindOf x\.cell\/X.env.kindOf x\.free)->∃c,X.env.cells.lookup x\c
 cab:∀x c,X.fn x=true->X.env.cells.lookup x\c->X.s₀.heap.objs.size<=c
 hd:X.calm=true->X.A.handled=none
 frames:X.A.frames\X.stack
 stk:X.stack=X.outer\/(X.stack=X.env::X.outer/\X.env.frame\X.env.locals)exf:∀b∈X.ex,b≠X.env.locals/\∀x c,X.env.cells.lookup x\c->c≠b
 bs:∀b o,X.base.get? b\o->X.s₀.heap.get? b\o/\X.H₀ b=none
 bsz:X.base.objs.size<=X.s₀.heap.objs.size
 noex:∀b o,X.base.get? b\o->b∉X.ex
 exfs:∀b∈X.ex,b∉X.fs
 funs:X.s₀.heap.FunFrames X.base X.outer
 frf:∀b∈X.fs,X.H₀ b=none
structure Inv(X:Cx)(qA:List (Addr×Obj))(Y:List (Option V))(H:Hp)(s:Shared):Prop where
 ok:X.Ok
 os:s.os=X.s₀.os
 bare:AllBare s.gens
 base:Un X.fs X.ex X.H₀ H X.s₀.heap s.heap
 loc:∃m,s.heap.Ns X.env.locals m/\∀(i:Nat)(x:Str)(v:V),X.N[i]?\x->Y[i]?\(some v)->Ed X.env.scope x->∃u,AV v u/\QN X.env s.heap m x u
 cell:∀x c,X.env.cells.lookup x\c->∃v,s.heap.IsCell c v
 free:H X.env.locals=none
 freeC:∀x c,X.env.cells.lookup x\c->H c=none
 pin:∀p∈X.pn++qA,'F' p.1\p.2/\H p.1=none/\p.1≠X.env.locals/\p.1∉X.fs/\∀v,p.2.data≠.cell v
 hok:A3 X.prog X.w H s.heap
 len:Y.length=X.N.length
section
variable{Y:List (Option V)}
def Cx.Ok.nofr(ok:X.Ok){o}(e:X.base.get? b\o):b∉X.fs:=λhb=>by let:=(ok.funs.mem hb).1;rw[e]at this;cases this
def Inv.bs(I:Inv X qA Y H s):∀b o,X.base.get? b\o->'F' b\o/\H b=none:=λb o e=>{I.base.keep b o (I.ok.bs b o e).1 (I.ok.bs b o e).2 (I.ok.nofr e) (I.ok.noex b o e),I.base.free b o (I.ok.bs b o e).1 (I.ok.bs b o e).2 (I.ok.noex b o e)}
def Inv.bk(I:Inv X qA Y H s):∀b o,X.base.get? b\o->'F' b\o:=λb o e=>(I.bs b o e).1
def Inv.mod(I:Inv X qA Y H s):Mod X.K X.mg X.base:=I.ok.mod
def Inv.kIn(I:Inv X qA Y H s):X.K.In s.heap:=I.ok.mod.kin.keeps I.bk
def Inv.nolimit(I:Inv X qA Y H s):s.heap.NoLimit:=I.ok.mod.nolimit.keeps I.bk
def Inv.lt(I:Inv X qA Y H s):X.env.locals<'H':=by let[_,a,_]:=I.loc;show a.lt
def Inv.sz(I:Inv X qA Y H s):X.s₀.heap.objs.size<='H':=aR I.ok.above (aY I.lt)
def Inv.nofs(I:Inv X qA Y H s)(h:'H'<=a):a∉X.fs:=λhb=>by let[_,o,ho,_]:=I.ok.funs.mem hb;show bS (aU (bN ho) (aR I.sz h)) (aX _)
def Inv.cne(I:Inv X qA Y H s):∀x c,X.env.cells.lookup x\c->c≠X.env.locals:=λx c e z=>by let[v,o,ho,hd]:=I.cell x c e;let[m,[o',es,ep,a,d,_],_]:=I.loc;rw[z,a]at ho;cases ho;rw[d]at hd;cases hd
def Inv.funs(I:Inv X qA Y H s):s.heap.FunFrames X.base X.outer:=by
 let all:∀(l),(∀b∈frs l,b∈X.fs)->X.s₀.heap.FunFrames X.base l->s.heap.FunFrames X.base l:=by
  intro l
  induction l with|nil=>intro _ _;trivial|cons env r c=>rintro hs⟨h,⟨L,o,hf,f,ho,hd⟩,d⟩;let a:=hs L (by unfold frs;rw[filterMap_cons,hf];show cA);let[sl,e]:=I.base.slot L o ho (I.ok.frf L a) a λz=>I.ok.exfs L z a;show{h,#[L,_,hf,f,e,hd],c (λb hb=>hs b (by unfold frs;rw[filterMap_cons,hf];show bT _ hb)) d}
 show all X.outer (λ_ hb=>hb) I.ok.funs
def Inv.stack(I:Inv X qA Y H s):s.heap.FunFrames X.base X.stack:=by
 let e||[e,hf]:=I.ok.stk
 .rw[e];show I.funs
 .rw[e];let[m,a,_]:=I.loc;show .cons (by rw[I.ok.kind];decide) hf a ?_ I.funs;show Heap.get?_none_of_le (aR I.ok.bsz I.ok.above)
def Inv.stkSub(I:Inv X qA Y H s):∀b∈frs X.stack,b∈X.env.locals::X.fs:=λb hb=>by
 let e||[e,hf]:=I.ok.stk
 .rw[e]at hb;show bT _ hb
 .rw[e]at hb;unfold frs at hb;rw[filterMap_cons,hf]at hb;show hb
def Inv.stkFree(I:Inv X qA Y H s):∀b∈frs X.stack,H b=none:=λb hb=>by
 let e||hb:=aF.mp (I.stkSub b hb)
 .rw[e];show I.free
 .let[_,o,ho,_]:=I.ok.funs.mem hb;show I.base.free b o ho (I.ok.frf b hb) λz=>I.ok.exfs b z hb
def Inv.step{ch:Gn}(I:Inv X qA Y H s)(g:∀b∈ch,(b∈X.ex\/X.s₀.heap.objs.size<=b)/\b≠X.env.locals/\(∀x c,X.env.cells.lookup x\c->c≠b)/\∀p∈X.pn++qA,p.1≠b)(keep:∀b o,b≠X.env.locals->b∉X.fs->b∉ch->'F' b\o->H b=none->h'.get? b\o)(slot:∀b o,b≠X.env.locals->b∈X.fs->b∉ch->'F' b\o->H b=none->∃sl,h'.get? b\{o with slots:=sl})(free:∀b o,b∉ch->'F' b\o->H b=none->H' b=none)(there:∀b o,b∉ch->'F' b\o->∃o',h'.get? b\o')(tups:∀b xs,H b\(.tup xs)->H' b\(.tup xs))(frzs:∀b o u,H b\(.frz o u)->H' b\(.frz o u))(tbls:∀b ps,H b\(.tbl ps)->∃more,H' b\(.tbl (ps++more)))(ns:∀m,s.heap.Ns X.env.locals m->h'.Ns X.env.locals m)(hok:A3 X.prog X.w H' h')(N:AllBare g'):Inv X qA Y H' {s with heap:=h',gens:=g',drawn:=d',toks:=t'}:=by
 let A:∀b o,X.s₀.heap.get? b\o->b≠X.env.locals:=λb o e=>bX (aU (bN e) I.ok.above);let j:∀b o,X.s₀.heap.get? b\o->b∉X.ex->b∉ch:=λb o e a hb=>by
  let z||z:=(g b hb).1
  .show a z
  .show bS (aU (bN e) z) (aX _)
 let h:∀x c,X.env.cells.lookup x\c->∀v,s.heap.IsCell c v->h'.IsCell c v:=λx c e v⟨o,ho,hd⟩=>by
  let f:=λz=>(g c z).2.2.1 x c e rfl;by_cases E:c∈X.fs
  .let[sl,q]:=slot c o (I.cne x c e) E f ho (I.freeC x c e);show#[_,q,hd]
  .show{o,keep c o (I.cne x c e) E f ho (I.freeC x c e),hd}
 show{I.ok,I.os,N,{λb o e n hb a=>?_,λb o e n hb a=>?_,λb o e n a=>?_,λb o e a=>?_,λb xs e=>tups b xs (I.base.tups b xs e),λb o xs e=>frzs b o xs (I.base.frzs b o xs e),λb ps e=>?_},?_,λx c e=>?_,?_,λx c e=>?_,λp hp=>?_,hok,I.len}
 .show keep b o (A b o e) hb (j b o e a) (I.base.keep b o e n hb a) (I.base.free b o e n a)
 .let[sl,y]:=I.base.slot b o e n hb a;let[C,B]:=slot b _ (A b o e) hb (j b o e a) y (I.base.free b o e n a);show#[C,B]
 .let[o',y]:=I.base.there b o e a;show free b o' (j b o e a) y (I.base.free b o e n a)
 .let[o',y]:=I.base.there b o e a;show there b o' (j b o e a) y
 .let[J,y]:=I.base.tbls b ps e;let[G,B]:=tbls b _ y;show{J++G,by rw[B,Array.append_assoc]}
 .let[m,L,M]:=I.loc;show{m,ns m L,λi x v y B O=>?_};let[u,r,l]:=M i x v y B O;show#[u,r,?_];let l||[k,c,e,z]:=l
  .show .inl l
  .show .inr {k,c,e,h x c e _ z}
 .let[v,z]:=I.cell x c e;show{v,h x c e v z}
 .let[m,[o,_,_,ho,_],_]:=I.loc;show free _ o (λz=>(g _ z).2.1 rfl) ho I.free
 .let[v,o,ho,hd]:=I.cell x c e;show free c o (λz=>(g c z).2.2.1 x c e rfl) ho (I.freeC x c e)
 .let[e,n,ne,D,d]:=I.pin p hp;let f:=λz=>(g p.1 z).2.2.2 p hp rfl;show{keep p.1 p.2 ne D f e n,free p.1 p.2 f e n,ne,D,d}
def Inv.un(I:Inv X qA Y H s)(u:Un X.fs [] H H' s.heap h')(hok:A3 X.prog X.w H' h'):Inv X qA Y H' {s with heap:=h',toks:=t'}:=by let[m,[o,es,ep,ho,r],_]:=id I.loc;let[sl,h]:=u.any ho I.free '2';show I.step (ch:=[]) '6' (λb o _ hb _ e n=>u.keep b o e n hb '2') (λb o _ hb _ e n=>u.slot b o e n hb '2') (λb o _ e n=>u.free b o e n '2') (λb o _ e=>u.there b o e '2') u.tups u.frzs u.tbls (λm' g=>by let[o',c,d,a,f]:=g;rw[ho]at a;cases a;show#[_,c,d,h,f]) hok I.bare
def Inv.call(I:Inv X qA Y H s)(u:Un (frs X.stack) ch H H' s.heap h')(hok:A3 X.prog X.w H' h')(q:AllBare g')(f:∀b∈ch,(b∈X.ex\/X.s₀.heap.objs.size<=b)/\b≠X.env.locals/\(∀x c,X.env.cells.lookup x\c->c≠b)/\∀p∈X.pn++qA,p.1≠b):Inv X qA Y H' {s with heap:=h',gens:=g',drawn:=d',toks:=t'}:=by let[m,[o,es,ep,ho,r],_]:=id I.loc;let[sl,g]:=u.any ho I.free λz=>(f _ z).2.1 rfl;show I.step f (λb o g hb a e n=>u.keep b o e n (λz=>(aF.mp (I.stkSub b z)).elim g hb) a) (λb o _ _ a e n=>u.any e n a) (λb o a e n=>u.free b o e n a) (λb o a e=>u.there b o e a) u.tups u.frzs u.tbls (λm' l=>by let[o',h,i,d,j]:=l;rw[ho]at d;cases d;show#[_,h,i,g,j]) hok q
def Inv.turned(I:Inv X qA Y H s)(k:∀b o,b≠it->'F' b\o->h'.get? b\o)(g:H it=none)(f:it≠X.env.locals)(h1:it∈X.ex\/X.s₀.heap.objs.size<=it)(h2:∀x c,X.env.cells.lookup x\c->c≠it)(i:∀p∈X.pn++qA,p.1≠it):Inv X qA Y H {s with heap:=h',toks:=t'}:=by
 let d:∀b u,H b\u->b≠it:=λb u e z=>by rw[z,g]at e;cases e
 show I.step (ch:=[it]) (λb hb=>?_) (λb o _ _ a e _=>k b o (λz=>a (by simp[z])) e) (λb o _ _ a e _=>{o.slots,k b o (λz=>a (by simp[z])) e}) (λ_ _ _ _ n=>n)
  (λb o a e=>{o,k b o (λz=>a (by simp[z])) e}) (λ_ _ e=>e) (λ_ _ _ e=>e) (λb ps e=>{#[],by rw[e];simp}) (λm h=>?_) (λb u e=>?_) I.bare
 .let e:b=it:=by simpa using hb
  subst e;show#[h1,f,h2,i]
 .let[o,es,ep,ho,r]:=h;show{o,es,ep,k _ o (Ne.symm f) ho,r}
 .show(I.hok b u e).stay (λc v a q=>k c v ?_ q) (λ_ q=>q) λ_ _ q=>q;let z||z:=a
  .rw[z];show d b u e
  .show d c _ z
def Inv.tok(I:Inv X qA Y H s)(t):Inv X qA Y H {s with toks:=t}:=I.un Un.refl I.hok
def Inv.kept(I:Inv X qA Y H s)(k:∀b u,'F' b\u->h'.get? b\u):Inv X qA Y H {s with heap:=h',toks:=t'}:=I.un (Un.kept k) (I.hok.kept k)
def Inv.laid(I:Inv X qA Y H s)(k:∀b u,'F' b\u->h'.get? b\u)(hp:'H'<=a)(new:Bg X.prog X.w (AA H a o) h' a o):Inv X qA Y (AA H a o) {s with heap:=h',toks:=t'}:=I.un (Un.laid k hp (I.hok.fresh hp)) (I.hok.laid k hp new)
def Inv.write{x e}(I:Inv X qA Y H s)(c:IL (H x))(d:e=x\/H e\(.own x))(k:∀b u,b≠e->'F' b\u->h'.get? b\u)(a:∃u,h'.get? e\u)(new:Bg X.prog X.w (AA H x o) h' x o):Inv X qA Y (AA H x o) {s with heap:=h',toks:=t'}:=I.un (Un.write c d k a) (I.hok.write c d k a new)
def Inv.weak(I:Inv X qA Y H s)(d:σ'.length=Y.length)(w:∀(i:Nat)v,σ'[i]?\(some v)->Y[i]?\(some v)):Inv X qA σ' H s:={I.ok,I.os,I.bare,I.base,(by let[m,c,a]:=I.loc;show{m,c,λi x v g f e=>a i x v g (w i v f) e}),I.cell,I.free,I.freeC,I.pin,I.hok,d.trans I.len}
def Inv.pins_of{a}(I:Inv X qA Y H s)(h:∀p∈a,'F' p.1\p.2/\H p.1=none/\p.1≠X.env.locals/\p.1∉X.fs/\∀v,p.2.data≠.cell v):Inv X a Y H s:={I.ok,I.os,I.bare,I.base,I.loc,I.cell,I.free,I.freeC,λp hp=>(bA.mp hp).elim (λz=>I.pin p (mem_append_left _ z)) (h p),I.hok,I.len}
def MH(c:N.Nodup)(a:N[i]?\x)(b:N[j]?\x):i=j:=by let[h1,e]:=aI.mp a;let[h2,d]:=aI.mp b;show(getElem_inj c).mp (e.trans d.symm)
def MI{Q}(I:Inv X qA Y H s)(hN:X.N.Nodup)(hi:X.N[i]?\x)(B:Ee X.env.scope x)(r:AV v u)(h:∀s',Inv X qA (Y.set i (some v)) H s'->(∃a,Heap.SameBut a s.heap s'.heap/\(a=X.env.locals\/X.env.cells.lookup x\a))->Q () s')(hf:X.fn x=true\/X.env.scope.names.lookup x\.local:=by trivial):wpAny M A (storeName X.env x u) Q E s:=by
 let[m,hn,hl]:=id I.loc;let ρ:(X.env.scope.kind==.class||(X.env.scope.kind==.module&&X.env.locals !=X.env.globals))=false:=by rw[I.ok.kind];rfl
 let G:i<Y.length:=by rw[I.len];show(aI.mp hi).1
 let cne:=I.cne;let g:∀{a}{h'},(∃o,'F' a\o/\H a=none)->Heap.SameBut a s.heap h'->A3 X.prog X.w H h':=λ{a h'}ha f b ob e=>by
  let[_,_,C]:=ha;show(I.hok b ob e).stay (λc w' hc q=>(f.2 c ?_).trans q) (λ_ q=>q) λ_ _ q=>q;rintro rfl;let 0||hc:=hc
  .rw[C]at e;cases e
  .rw[C]at hc;cases hc
 let hk||hk:=B
 .show wpAny_storeName_local hk hn (λh' a2 f=>?_) ρ;let[oL,_,_,a1,_]:=id hn;show h _ {I.ok,I.os,I.bare,{λb o e n hb B=>?_,λb o e n hb B=>?_,I.base.free,λb o e B=>?_,I.base.tups,I.base.frzs,I.base.tbls},{_,a2,λj y v' l D e3=>?_},λy c e=>?_,I.free,I.freeC,λp hp=>?_,g #[oL,a1,I.free] f,by simpa using I.len} {_,f,.inl rfl}
  .show(f.2 b (bX (aU (bN e) I.ok.above))).trans (I.base.keep b o e n hb B)
  .let[sl,l]:=I.base.slot b o e n hb B;show{sl,(f.2 b (bX (aU (bN e) I.ok.above))).trans l}
  .let[o',l]:=I.base.there b o e B;show{o',(f.2 b (bX (aU (bN e) I.ok.above))).trans l}
  .by_cases J:j=i
   .subst J;rw[hi]at l;cases l;rw[bY G]at D;cases D;show#[u,r,.inl #[hk,'2']]
   .rw[bV (Ne.symm J)]at D;let[u',r',q]:=hl j y v' l D e3;show#[u',r',?_];let[k,e]||[k,c,e,z]:=q
    .show .inl #[k,?_];let:y≠x:=λe=>J (MH hN l (e▸hi));simp[this,e]
    .show .inr {k,c,e,z.sameBut f (cne y c e)}
  .let[w',z]:=I.cell y c e;show{w',z.sameBut f (cne y c e)}
  .let[e,n,ne,nf,d]:=I.pin p hp;show{(f.2 p.1 ne).trans e,n,ne,nf,d}
 .let L:X.fn x=true:=by
   let z||z:=hf
   .show z
   .rw[z]at hk;cases hk
  let[c,hc]:=I.ok.has x (.inl hk);let[w',z]:=I.cell x c hc;show wpAny_storeName_cell I.ok.kind hk hc z (λh' a0 f=>?_);let[oc,T,O]:=id z;show h {s with heap:=h'} {I.ok,I.os,I.bare,{λb o e n hb B=>?_,λb o e n hb B=>?_,I.base.free,λb o e B=>?_,I.base.tups,I.base.frzs,I.base.tbls},{m,hn.sameBut f (Ne.symm (cne x c hc)),λj y v' l D e3=>?_},λy c' e=>?_,I.free,I.freeC,λp hp=>?_,g {oc,T,I.freeC x c hc} f,by simpa using I.len} {c,f,.inr hc}
  .show(f.2 b (bX (aU (bN e) (I.ok.cab x c L hc)))).trans (I.base.keep b o e n hb B)
  .let[sl,l]:=I.base.slot b o e n hb B;show{sl,(f.2 b (bX (aU (bN e) (I.ok.cab x c L hc)))).trans l}
  .let[o',l]:=I.base.there b o e B;show{o',(f.2 b (bX (aU (bN e) (I.ok.cab x c L hc)))).trans l}
  .by_cases J:j=i
   .subst J;rw[hi]at l;cases l;rw[bY G]at D;cases D;show#[u,r,.inr {.inl hk,c,hc,a0}]
   .rw[bV (Ne.symm J)]at D;let[u',r',q]:=hl j y v' l D e3;show#[u',r',?_];let q||[k,c',e,z']:=q
    .show .inl q
    .show .inr {k,c',e,z'.sameBut f ?_};rintro rfl;show J (MH hN l (I.ok.inj _ _ _ e hc▸hi))
  .by_cases σ:c'=c
   .subst σ;show#[_,a0]
   .let[w2,z2]:=I.cell y c' e;show{w2,z2.sameBut f σ}
  .let[e,n,ne,nf,d]:=I.pin p hp;show{(f.2 p.1 ?_).trans e,n,ne,nf,d};intro q;rw[q,T]at e;let q':=oI e;show d w' (by rw[<-q'];show O)
def MJ{Q}(I:Inv X qA Y H s)(d:X.N.Nodup)(hi:X.N[i]?\x)(a:Ee X.env.scope x)(r:AV v u)(h:∀s',Inv X qA (Y.set i (some v)) H s'->Q () s')(c:X.fn x=true\/X.env.scope.names.lookup x\.local:=by trivial):wpAny M A (storeName X.env x u) Q E s:=MI I d hi a r (λs' e _=>h s' e) c
def Inv.call'(I:Inv X qA Y H s)(ho:s'.os=s.os)(u:Un (frs X.stack) ch H H' s.heap s'.heap)(hok:A3 X.prog X.w H' s'.heap)(d:AllBare s'.gens)(a:∀b∈ch,(b∈X.ex\/X.s₀.heap.objs.size<=b)/\b≠X.env.locals/\(∀x c,X.env.cells.lookup x\c->c≠b)/\∀p∈X.pn++qA,p.1≠b):Inv X qA Y H' s':=by let[h',g',d',t',o']:=s';let e:=ho;subst e;show I.call u hok d a
end
abbrev XK:=Value->Ge->Hp->Prop
abbrev St:=List (Option V)
abbrev VK:=V->Hp->Prop
abbrev TE:=St->Hp->VK->Prop
end L2
variable{ι:Type}{Xs:ι->L2.Cx}
variable{Y σ':L2.St}{ta tb te tl:L2.TE}
namespace L2
abbrev TT:=St->Hp->(Bool->Hp->Prop)->Prop
abbrev TA:=St->Hp->(dH->Hp->Prop)->Prop
structure Ends where
 nx:St->Hp->Prop
 rt:VK
 bk:St->Hp->Prop:=λ_ _=>False
 ct:St->Hp->Prop:=λ_ _=>False
abbrev TS:=Ends->St->Hp->Prop
def EP(X:Cx)(qA:List (Addr×Obj))(Y:St)(Q:VK)(u:Value)(s':Shared):Prop:=(∃v H',Inv X qA Y H' s'/\AV v u/\Q v H')
def TP(X:Cx)(qA:List (Addr×Obj))(Y:St)(Q:Bool->Hp->Prop)(b:Bool)(s':Shared):Prop:=(∃H',Inv X qA Y H' s'/\Q b H')
def AP(X:Cx)(qA:List (Addr×Obj))(Y:St)(Q:dH->Hp->Prop)(us:C2)(s':Shared):Prop:=(∃vs H',Inv X qA Y H' s'/\AZ vs us/\Q vs H')
def SP(X:Cx)(qA:List (Addr×Obj))(D:Ends)(f:Flow)(s':Shared):Prop:=(match f with|.next=>∃σ' H',Inv X qA σ' H' s'/\D.nx σ' H'|.brk=>∃σ' H',Inv X qA σ' H' s'/\D.bk σ' H'|.cont=>∃σ' H',Inv X qA σ' H' s'/\D.ct σ' H'|.ret u=>∃v σ' H',Inv X qA σ' H' s'/\AV v u/\D.rt v H')
def PE(X:Cx)(e:Expr)(t:TE):Prop:=(∀(qA:List (Addr×Obj))(s:Shared)(Y:St)(H:Hp)(Q:VK),Inv X qA Y H s->t Y H Q->'B' (eval e X.env) (EP X qA Y Q) X.xe s)
def PT(X:Cx)(e:Expr)(t:TT):Prop:=(∀(qA:List (Addr×Obj))(s:Shared)(Y:St)(H:Hp)(Q:Bool->Hp->Prop),Inv X qA Y H s->t Y H Q->'B' (isTrue e X.env (eval e X.env)) (TP X qA Y Q) X.xe s)
def PW(X:Cx)(e:Expr)(t:TT):Prop:=(∀(whole:Sem Value)(qA:List (Addr×Obj))(s:Shared)(Y:St)(H:Hp)(Q:Bool->Hp->Prop),Inv X qA Y H s->t Y H Q->'B' (isTrue e X.env whole) (TP X qA Y Q) X.xe s)
def PW.pt(h:PW X e t):PT X e t:=h _
def PA(X:Cx)(es:He)(t:TA):Prop:=(∀(pos:Pos)(qA:List (Addr×Obj))(s:Shared)(Y:St)(H:Hp)(Q:dH->Hp->Prop),Inv X qA Y H s->t Y H Q->'B' (spliced (backTo pos (starEach es X.env))) (AP X qA Y Q) X.xe s)
def PS(X:Cx)(st:Stmt)(t:TS):Prop:=(∀(qA:List (Addr×Obj))(s:Shared)(Y:St)(H:Hp)(D:Ends),Inv X qA Y H s->t D Y H->'B' (exec st X.env) (SP X qA D) X.xe s)
def BS(X:Cx)(st:Hq)(t:TS):Prop:=(∀(qA:List (Addr×Obj))(s:Shared)(Y:St)(H:Hp)(D:Ends),Inv X qA Y H s->t D Y H->'B' (execs st X.env) (SP X qA D) X.xe s)
def AR{Q c}(h:wpAny M A t Q E s)(d:∀a s,Q a s->c a s):wpAny M A t c E s:=bL h d λ_ _ x=>x
section
inductive tVar(i:Nat)(Y:St)(H:Hp)(Q:VK):Prop|mk(v:V)(e:Y[i]?\(some v))(q:Q v H)
def tC(v:V):TE:=(λ_ H Q=>Q v H)
def Ef(w:X.N[i]?\x)(n:Ed X.env.scope x)(f:No x:=by decide)(g:N_ x:=by decide):PE X (.Name x pos) (tVar i):=by
 rintro qA s Y H Q I⟨v,e,h⟩;let[m,o,q]:=I.loc;let[u,r,l]:=q i x v w e n;let d:EP X qA Y Q u s:=#[v,H,I,r,h];let[hk,p]||[hk,c,j,a]:=l
 .show wpAny_Name (wpAny_loadName_local I.ok.kind hk o p d) f
 .let hk||hk:=hk
  .show wpAny_Name (wpAny_loadName_cell I.ok.kind hk j a d) f
  .show wpAny_Name (wpAny_loadName_free I.ok.kind hk j a d g) f
def Ar{i j pos}:PE X (.Constant (.int i) j pos) (tC (.int i)):=λ_ _ _ H _ I h=>wpAny_Constant_int {.int i,H,I.tok _,#[_,0],h}
def XJ:PE X (.Constant (.bool b) j pos) (tC (.bl b)):=λ_ _ _ H _ I h=>Constant_bool {.bl b,H,I,0,h}
def Eg:PE X (.Constant .none j pos) (tC .non):=λ_ _ _ H _ I h=>Constant_none #[.non,H,I,0,h]
def A0:PE X (.Constant (.str x) j pos) (tC (.str x)):=λ_ _ _ H _ I h=>Calls.Constant_str {.str x,H,I.tok _,#[_,0],h}
def Gl(X:Cx)(x:Str):Prop:=(X.env.kindOf x\.globalImplicit)
def FY(I:Inv X qA Y H s)(c:Gl X x)(a:X.mg x\u)(h:Q u s)(d:No x:=by decide):'B' (eval (.Name x pos) X.env) Q E s:=Calls.Name_function_global I.ok.kind c (Calls.loadGlobal_global (by rw[I.ok.glob];show I.mod.glob.keeps I.bk) a h) d
def F9(I:Inv X qA Y H s)(e:Gl X x)(d:X.mg x=none)(a:bootBuiltins x\u)(h:Q u s)(c:x≠"__name__":=by decide)(f:No x:=by decide):'B' (eval (.Name x pos) X.env) Q E s:=by let[g,h1,h2]:=I.mod.blt;show Calls.Name_function_global I.ok.kind e (Calls.loadGlobal_builtin (by rw[I.ok.glob];show I.mod.glob.keeps I.bk) d (by rw[I.ok.blt];show h1.keeps I.bk) ((h2 x c).trans a) h) f
def QP(c:Gl X x)(a:X.mg x\u)(r:AV v u)(d:No x:=by decide):PE X (.Name x pos) (tC v):=λ_ _ _ H _ I h=>FY I c a #[v,H,I,r,h] d
variable{a b:Expr}
def PC(X:Cx)(op:CmpOp)(a b:Expr)(t:TE):Prop:=(∀(qA:List (Addr×Obj))(s:Shared)(Y:St)(H:Hp)(Q:VK),Inv X qA Y H s->t Y H Q->'B' (eval a X.env) (λv s₁=>'B' (eval b X.env) (λu s₂=>'B' (compareOp op v u) (EP X qA Y Q) X.xe s₂) X.xe s₁) X.xe s)
def XM(b)(h:op≠.In)(h2:op≠.NotIn):behindInMarks op b=false:=by
 let c:(op==CmpOp.In)=false:=by simp_all
 let a:(op==CmpOp.NotIn)=false:=by simp_all
 cases b<;>simp[behindInMarks,c,a]
def XN(ta:TE):TE:=(λY H Q=>ta Y H λx H1=>Q (.bl (!decide (x=.non))) H1)
def AV.none_iff{x}{v}(r:AV x v):(v==Value.none)=decide (x=.non):=by cases x with|non=>cases r;rfl|bl _=>cases r;rfl|int _=>let[t,0]:=r;rfl|str _=>let[t,0]:=r;rfl|byt _=>let[t,0]:=r;rfl|flt _=>let[t,0]:=r;rfl|ref _=>cases r;rfl|ty _=>cases r;rfl
def XQ(e:PE X a ta):PC X .IsNot a (.Constant .none j pos') (XN ta):=by intro qA s Y H Q I h;show AR (e qA s Y H _ I h) λv g zz=>?_;let[x,H1,f,c,d]:=zz;show Constant_none (isnot_none_gen {.bl _,H1,f,by rw[c.none_iff];rfl,d})
def tB(t:TE):TT:=(λY H Q=>t Y H λx H1=>∃c,x=.bl c/\Q c H1)
def MK(h:PC X op a b t)(h1:behindInMarks op b=false:=by first|show XM _ '3' '3'|rfl):PT X (.Compare a [op] [b] pos) (tB t):=by intro qA s Y H Q I g;show wpAny_isTrue_Compare1 (AR (h qA s Y H _ I g) λv m h1=>AR h1 λu l h2=>AR h2 λc j zz=>?_) h1;let[x,H1,i,e,f]:=zz;let[d,0,q]:=f;cases e;show wpAny_truthy_bool #[H1,i,q]
def QR(h:PE X e t)(i:∀a,isTrue e X.env a=(do let v<-a;standAt e.pos;holding [v] (truthy v)):=by rfl):PT X e (tB t):=by intro qA s Y H Q I g;show isTrue_plain (AR (h qA s Y H _ I g) λv l zz=>?_) (i _);let[x,H1,j,c,f]:=zz;let[d,0,q]:=f;cases c;show wpAny_truthy_bool #[H1,j,q]
variable{tA tB':TT}{qF:He}
def XR(t u:TT):TT:=(λY H Q=>t Y H λc H1=>if c=true then u Y H1 Q else Q false H1)
def XS(t u:TT):TT:=(λY H Q=>t Y H λc H1=>if c=true then Q true H1 else u Y H1 Q)
def XT(t:TT):TT:=(λY H Q=>t Y H λc H1=>Q (!c) H1)
def XU(d:PT X a tA):PW X (.BoolOp .And [a] pos) tA:=by intro f qA s Y H Q I h;show isTrue_and (AR (d qA s Y H Q I h) λc g e=>?_);cases c with|true=>show isTrue_and_nil e|false=>show e
def ML(d:PT X a tA):PW X (.BoolOp .Or [a] pos) tA:=by intro f qA s Y H Q I h;show isTrue_or (AR (d qA s Y H Q I h) λc g e=>?_);cases c with|false=>show isTrue_or_nil e|true=>show e
def XV(i:PT X a tA)(hb:PW X (.BoolOp .And (b::qF) pos) tB'):PW X (.BoolOp .And (a::b::qF) pos) (XR tA tB'):=by intro f qA s Y H Q I h;show isTrue_and (AR (i qA s Y H _ I h) λc g zz=>?_);let[H1,e,d]:=zz;cases c with|true=>show hb f qA g Y H1 Q e d|false=>show#[H1,e,d]
def MM(i:PT X a tA)(hb:PW X (.BoolOp .Or (b::qF) pos) tB'):PW X (.BoolOp .Or (a::b::qF) pos) (XS tA tB'):=by intro f qA s Y H Q I h;show isTrue_or (AR (i qA s Y H _ I h) λc g zz=>?_);let[H1,e,d]:=zz;cases c with|true=>show#[H1,e,d]|false=>show hb f qA g Y H1 Q e d
def Js(d:PT X a tA):PT X (.UnaryOp .Not a pos) (XT tA):=by intro qA s Y H Q I h;show isTrue_not (d qA s Y H _ I h)
def XW(ta tb:TE):TE:=(λY H Q=>ta Y H λx H1=>∃c,x=.bl c/\if c=true then tb Y H1 Q else Q (.bl false) H1)
def QU(h:PE X a t):PE X (.BoolOp op [a] pos) t:=λqA s Y H Q I c=>BoolOp_one (h qA s Y H Q I c)
def QV(i:PE X a ta)(hb:PE X (.BoolOp .And (b::qF) pos) tb):PE X (.BoolOp .And (a::b::qF) pos) (XW ta tb):=by intro qA s Y H Q I h;show BoolOp_and (AR (i qA s Y H _ I h) λv f zz=>?_);let[x,H1,e,g,d]:=zz;let[c,0,d]:=d;cases g;show wpAny_truthy_bool ?_;cases c with|true=>show hb qA f Y H1 Q e d|false=>show{.bl false,H1,e,0,d}
end
def BA(K:Fg)(H:Hp)(a:Addr)(xs:dH):Prop:=(Rd H a (.lst xs)\/∃(o:Obj)(qG:Ex)(n:Nat),K.lookup a\o/\o.cls=.type "list"/\o.dict=none/\o.data=.seq qG n/\qG.size<=sizeLine/\AZ xs qG.toList)
def Bq(K:Fg)(H:Hp)(a:Addr)(xs:dH):Prop:=(Rd H a (.tup xs)\/∃(o:Obj)(qG:Ex)(n:Nat),K.lookup a\o/\o.cls=.type "tuple"/\o.data=.seq qG n/\qG.size<=sizeLine/\AZ xs qG.toList)
def XX:Value->Option V|.none=>some .non|.bool b=>some (.bl b)|.int i _=>some (.int i)|.str x _=>some (.str x)|.bytes b _=>some (.byt b)|.float b _=>some (.flt b)|.ref a=>some (.ref a)|.type n=>some (.ty n)|_=>none
def AV.abs{x}(r:AV x u):XX u\x:=by cases x with|non=>cases r;rfl|bl _=>cases r;rfl|int _=>let[t,0]:=r;rfl|str _=>let[t,0]:=r;rfl|byt _=>let[t,0]:=r;rfl|flt _=>let[t,0]:=r;rfl|ref _=>cases r;rfl|ty _=>cases r;rfl
def AV.inj{x y}(r:AV x u)(q:AV y u):x=y:=oI (r.abs.symm.trans q.abs)
def AZ.inj{xs ys}(h:AZ xs us)(g:AZ ys us):xs=ys:=by induction h generalizing ys with|nil=>cases g;rfl|cons r t c=>cases g with|cons a t'=>rw[AV.inj r a,c t']
section
variable{xs ys:dH}
def BA.of{K}(h:H a\(.lst xs)):BA K H a xs:=.inl (.inl h)
def Bq.of{K}(h:H a\(.tup xs)):Bq K H a xs:=.inl (.inl h)
def Inv.list(I:Inv X qA Y H s)(h:BA X.K H a xs):∃qG,AZ xs qG/\PlainL s.heap a qG.toArray/\xs.length<=sizeLine:=by
 let h||[o,qG,n,c,d,hd,hs,f,r]:=h
 .let[z,qG,n,r,e]:=h.ok I.hok;show{qG,r,#[_,n,e,0,0,0],z}
 .show{qG.toList,r,{o,n,I.kIn a o c,d,hd,by assumption},?_};let e:=r.length;simp_all
def Inv.tuple(I:Inv X qA Y H s)(h:Bq X.K H a xs):∃qG,AZ xs qG/\IsTup s.heap a qG.toArray/\xs.length<=sizeLine:=by
 let h||[o,qG,n,c,d,hs,f,r]:=h
 .let[z,qG,r,p]:=h.ok I.hok;show#[qG,r,p.tup,z]
 .show{qG.toList,r,{o,I.kIn a o c,d,n,by assumption},?_};let e:=r.length;simp_all
def Inv.list_inj(I:Inv X qA Y H s)(h:BA X.K H a xs)(h':BA X.K H a ys):xs=ys:=by
 let[qG,r,[o,n,e,_,_,d],_]:=I.list h;let[its',g,[o',j,c,_,_,f],_]:=I.list h';rw[e]at c;cases c;rw[d]at f;injection f with i _
 let:qG=its':=by simp_all
 subst this;show r.inj g
def Inv.tuple_inj(I:Inv X qA Y H s)(h:Bq X.K H a xs)(h':Bq X.K H a ys):xs=ys:=by
 let[qG,r,[o,e,_,n,d],_]:=I.tuple h;let[its',g,[o',c,_,j,f],_]:=I.tuple h';rw[e]at c;cases c;rw[d]at f;injection f with i _
 let:qG=its':=by simp_all
 subst this;show r.inj g
end
abbrev Cx.wish(X:Cx)(E:VS):Cx:={X with xe:=E}
abbrev Cx.nox(X:Cx):Cx:=X.wish λ_ _=>False
def Cx.Ok.wish(ok:X.Ok)(E):(X.wish E).Ok:=#[ok.mod,ok.kind,ok.glob,ok.blt,ok.above,ok.inj,ok.has,ok.cab,ok.hd,ok.frames,ok.stk,ok.exf,ok.bs,ok.bsz,ok.noex,ok.exfs,ok.funs,ok.frf]
def Cx.Ok.unwish(ok:(X.wish E).Ok):X.Ok:=#[ok.mod,ok.kind,ok.glob,ok.blt,ok.above,ok.inj,ok.has,ok.cab,ok.hd,ok.frames,ok.stk,ok.exf,ok.bs,ok.bsz,ok.noex,ok.exfs,ok.funs,ok.frf]
def Inv.wish(I:Inv X qA Y H s)(E):Inv (X.wish E) qA Y H s:={I.ok.wish E,I.os,I.bare,I.base,I.loc,I.cell,I.free,I.freeC,I.pin,I.hok,I.len}
def Inv.unwish(I:Inv (X.wish E) qA Y H s):Inv X qA Y H s:=#[I.ok.unwish,I.os,I.bare,I.base,I.loc,I.cell,I.free,I.freeC,I.pin,I.hok,I.len]
def SP.unwish{D}(h:SP (X.wish E) qA D f s'):SP X qA D f s':=by cases f with|next=>let[σ',H',I,q]:=h;show#[σ',H',I.unwish,q]|brk=>let[σ',H',I,q]:=h;show#[σ',H',I.unwish,q]|cont=>let[σ',H',I,q]:=h;show#[σ',H',I.unwish,q]|ret u=>let[v,σ',H',I,r,q]:=h;show#[v,σ',H',I.unwish,r,q]
def BS.nox{st}(h:BS X.nox st t):BS X st t:=λqA s Y H D I hw=>bL (h qA s Y H D (I.wish _) hw) (λ_ _ q=>q.unwish) λ_ _ z=>False.elim z
section
variable{st:Stmt}{qF:Hq}{t u:TS}{e:Expr}
def XY:TS:=(λD Y H=>D.nx Y H)
def G8(t u:TS):TS:=(λD Y H=>t {D with nx:=u D} Y H)
def BQ:BS X [] XY:=λ_ _ Y H _ I h=>wpAny_execs_nil #[Y,H,I,h]
def AY(h1:PS X st t)(h2:BS X qF u):BS X (st::qF) (G8 t u):=by intro qA s Y H D I h;show wpAny_execs_cons (AR (h1 qA s Y H {D with nx:=u D} I h) λf a q=>?_);cases f with|next=>let[σ',H',c,q]:=q;show h2 qA a σ' H' D c q|ret v=>show q|brk=>show q|cont=>show q
def Ad(h1:PS X st t):BS X [st] t:=by intro qA s Y H D I h;show wpAny_execs_cons (AR (h1 qA s Y H D I h) λf a q=>?_);cases f with|next=>show wpAny_execs_nil q|ret v=>show q|brk=>show q|cont=>show q
def Inv.quiet(I:Inv X qA Y H s):interactive X.env=false:=by simp[interactive,I.ok.kind]
def MN(te:TE):TS:=(λD Y H=>te Y H λ_ H1=>D.nx Y H1)
def Dn(d:PE X e te)(c:swapsWith e none pos.line X.env=pure false:=by rfl):PS X (.Expr e pos) (MN te):=by intro qA s Y H D I h;show wpAny_Expr_any (AR (d qA s Y H _ I h) λv g zz=>(by let[x,H1,f,i,a]:=zz;show#[Y,H1,f,a])) I.quiet c
def QX(te:TE):TS:=(λD Y H=>te Y H D.rt)
def Ay(d:PE X e te):PS X (.Return (some e) pos) (QX te):=by intro qA s Y H D I h;show wpAny_Return_some (AR (d qA s Y H _ I h) λv g zz=>(by let[x,H1,f,a,c]:=zz;show#[x,Y,H1,f,a,c]))
def XZ(c:TT)(t u:TS):TS:=(λD Y H=>c Y H λb H1=>if b=true then t D Y H1 else u D Y H1)
def BH{c}{a b}(i:PT X c tc)(j:BS X a t)(hb:BS X b u):PS X (.If c a b pos) (XZ tc t u):=by intro qA s Y H D I h;show wpAny_If (AR (i qA s Y H _ I h) λd e zz=>?_);let[H1,g,f]:=zz;cases d with|true=>show j qA e Y H1 D g f|false=>show hb qA e Y H1 D g f
def QY:TS:=(λ_ _ _=>False)
def Xa:PS X st QY:=λ_ _ _ _ _ _ h=>h.elim
def GA{a}:BS X a QY:=λ_ _ _ _ _ _ h=>h.elim
end
abbrev TG:=V->St->Hp->(St->Hp->Prop)->Prop
abbrev GB:=dH->St->Hp->(St->Hp->Prop)->Prop
def PG(X:Cx)(target:Expr)(t:TG):Prop:=(∀(qA:List (Addr×Obj))(s:Shared)(Y:St)(H:Hp)(v:V)(u:Value)(Q:St->Hp->Prop),Inv X qA Y H s->AV v u->t v Y H Q->'B' (assign target X.env u) (λ_ s'=>∃σ' H',Inv X qA σ' H' s'/\Q σ' H') X.xe s)
def GC(X:Cx)(ts:He)(t:GB):Prop:=(∀(qA:List (Addr×Obj))(s:Shared)(Y:St)(H:Hp)(vs:dH)(us:C2)(Q:St->Hp->Prop),Inv X qA Y H s->AZ vs us->t vs Y H Q->'B' (assignInOrder ((assignEach ts X.env).map (·.2)) us) (λ_ s'=>∃σ' H',Inv X qA σ' H' s'/\Q σ' H') X.xe s)
abbrev IM:=V->V->V->Hp->(Hp->Prop)->Prop
def MO(X:Cx)(t:IM):Prop:=(∀(qA:List (Addr×Obj))(s:Shared)(Y:St)(H:Hp)(o i v:V)(ov iv u:Value)(Q:Hp->Prop),Inv X qA Y H s->AV o ov->AV i iv->AV v u->t o i v H Q->'B' (setItem ov iv u) (λ_ s'=>∃H',Inv X qA Y H' s'/\Q H') X.xe s)
abbrev Jt:=V->V->Hp->VK->Prop
def QZ(X:Cx)(op:Operator)(t:Jt):Prop:=(∀(qA:List (Addr×Obj))(s:Shared)(Y:St)(H:Hp)(x y:V)(v u:Value)(Q:VK),Inv X qA Y H s->AV x v->AV y u->t x y H Q->'B' (inplaceOp op v u) (EP X qA Y Q) X.xe s)
def CK(i:Nat):TG:=(λv Y H Q=>Q (Y.set i (some v)) H)
def Ae(d:X.N.Nodup)(hi:X.N[i]?\x)(a:Ee X.env.scope x)(c:X.fn x=true\/X.env.scope.names.lookup x\.local:=by trivial):PG X (.Name x pos) (CK i):=by intro qA s Y H v u Q I r h;show wpAny_assign_Name (MJ I d hi a r (λs' e=>#[_,H,e,h]) c)
def FZ:GB:=(λvs Y H Q=>vs=[]/\Q Y H)
inductive gCons(t:TG)(u:GB)(vs:dH)(Y:St)(H:Hp)(Q:St->Hp->Prop):Prop|mk(v:V)(r:dH)(e:vs=v::r)(q:t v Y H λσ' H'=>u r σ' H' Q)
def BZ:GC X [] FZ:=by rintro qA s Y H vs us Q I r⟨e,h⟩;subst e;show assignInOrder_nil #[Y,H,I,h]
def Ai{u}(h1:PG X e t)(h2:GC X es u)(g:(assignEach (e::es) X.env).map (·.2)=assign e X.env::(assignEach es X.env).map (·.2):=by rfl):GC X (e::es) (gCons t u):=by rintro qA s Y H vs us Q I r⟨v,l,i,h⟩;subst i;cases r with|cons r d=>rw[g];show assignInOrder_cons (AR (h1 qA s Y H _ _ _ I r h) λ_ c zz=>?_);let[a,H1,j,f]:=zz;show h2 qA c a H1 _ _ Q j d f
inductive gTup(K:Fg)(n:Nat)(t:GB)(v:V)(Y:St)(H:Hp)(Q:St->Hp->Prop):Prop|mk(a:Addr)(xs:dH)(e:v=.ref a)(s:Bq K H a xs)(l:xs.length=n)(q:t xs Y H Q)
def CP{k}(m:X.calm=true)(h:GC X es t)(j:(assignEach es X.env).length=n:=by rfl)(d:(assignEach es X.env).findIdx? (·.1)=none:=by rfl):PG X (.Tuple es k pos) (gTup X.K n t):=by rintro qA s Y H v u Q I r⟨a,xs,p,i,l,c⟩;subst p;cases r;let[qG,rv,g,w]:=I.tuple i;show assign_Tuple_tuple (I.ok.hd m) g (by simp[j,<-l,rv.length]) d λh' f=>?_;let q:Inv X qA Y H {s with heap:=h'}:=I.kept λb o e=>f b o (bX (bN e)) e;show h qA _ Y H xs _ Q q (~~~rv) c
def Qa(to ti:TE)(t:IM):TG:=(λv Y H Q=>to Y H λo H1=>ti Y H1 λi H2=>t o i v H2 λH3=>Q Y H3)
def IN{o i}{to d}(q:PE X o to)(hi:PE X i d)(p:MO X t)(w:∀v,assign (.Subscript o i pos) X.env v=(do
   let a<-holding [v] (eval o X.env)let c<-holding [v,a] (eval i X.env)standAt pos
   holding [v,a,c] (setItem a c v)release [v,a,c] []):=by rfl):PG X (.Subscript o i pos) (Qa to d t):=by intro qA s Y H v u Q I r h;show wB (bM (AR (q qA s Y H _ I h) λa f zz=>?_));done<;>let[x,H1,C,j,n]:=zz;show wB (bM (AR (hi qA f Y H1 _ C n) λc e zz=>?_));done<;>let[y,H2,B,g,m]:=zz;show wB (wpAny_standAt (wB (bM (AR (p qA e Y H2 x y v a c u _ B j g r m) λ_ E zz=>?_))));let[D,A,l]:=zz;show wpAny_release #[Y,D,A,l]
def Eh(te:TE)(g:TG):TS:=(λD Y H=>te Y H λx H1=>g x Y H1 D.nx)
def Cq(j:PE X e te)(i:PG X tg g)(f:swapsWithSole [tg] e pos.line X.env=pure false:=by rfl)(hw:swappedStores [tg] e X.env=pure none:=by rfl)(h1:(assignEach [tg] X.env).map (·.2)=[assign tg X.env]:=by rfl):PS X (.Assign [tg] e pos) (Eh te g):=by intro qA s Y H D I h;show wpAny_Assign_stores (AR (j qA s Y H _ I h) λv a zz=>?_) f hw;let[x,H1,l,c,d]:=zz;rw[h1];show AR (i qA a Y H1 x v _ l c d) λ_ m q=>q
def Aw(l:X.N.Nodup)(hi:X.N[i]?\x)(d:Ee X.env.scope x)(j:PE X e te)(f:swapsWith e (some (.Name x pos')) pos.line X.env=pure false:=by rfl)(g:X.fn x=true\/X.env.scope.names.lookup x\.local:=by trivial):PS X (.Assign [.Name x pos'] e pos) (Eh te (CK i)):=by intro qA s Y H D I h;show wpAny_Assign_Name (AR (j qA s Y H _ I h) λv p zz=>?_) f;let[y,H1,n,a,c]:=zz;show MJ n l hi d a (λo m=>#[_,H1,m,c]) g
def Xb(to ti te:TE)(tget:V->V->Hp->VK->Prop)(tip:Jt)(tset:IM):TS:=(λD Y H=>to Y H λo H1=>ti Y H1 λi H2=>tget o i H2 λx H3=>te Y H3 λy H4=>tip x y H4 λz H5=>tset o i z H5 λH6=>D.nx Y H6)
def Qb(X:Cx)(t:V->V->Hp->VK->Prop):Prop:=(∀(qA:List (Addr×Obj))(s:Shared)(Y:St)(H:Hp)(o i:V)(ov iv:Value)(Q:VK),Inv X qA Y H s->AV o ov->AV i iv->t o i H Q->'B' (getItem ov iv) (EP X qA Y Q) X.xe s)
def Xc{o i e}{to m}{c}{a}(σ:PE X o to)(hi:PE X i m)(hg:Qb X c)(he:PE X e te)(ρ:QZ X op g)(T:MO X a)(ha:∀d f new,augStore i d f new=(do holding [new,d,f] (setItem d f new);release [new,d,f] [];pure .next):=by intros;rfl):PS X (.AugAssign (.Subscript o i tpos) op e pos) (Xb to m te c g a):=by intro qA s Y H D I h;show wpAny_AugAssign_SubscriptAny (AR (σ qA s Y H _ I h) λd B zz=>?_) ha;let[x1,H1,I1,p,Q]:=zz;show AR (hi qA B Y H1 _ I1 Q) λf A zz=>?_;done<;>let[l,H2,I2,n,O]:=zz;show AR (hg qA A Y H2 x1 l d f _ I2 p n O) λj y zz=>?_;let[u,H3,I3,G,N]:=zz;show AR (he qA y Y H3 _ I3 N) λv x zz=>?_;let[r,H4,I4,E,M]:=zz;show AR (ρ qA x Y H4 u r j v _ I4 G E M) λnew w zz=>?_;let[q,H5,I5,C,L]:=zz;show AR (T qA w Y H5 x1 l q d f new _ I5 p n C L) λ_ s6 zz=>(by let[H6,I6,J]:=zz;show#[Y,H6,I6,J])
def Xd(f:Int->Int->Int):Jt:=(λx y H Q=>∃i j,x=.int i/\y=.int j/\Q (.int (f i j)) H)
def Xe:QZ X .Add (Xd λi j=>i+j):=by rintro qA s Y H x y v u Q I c a⟨i,j,e,d,q⟩;subst e;subst d;let[t,0]:=c;let[t',0]:=a;show iadd_int {.int _,H,I.tok _,#[_,0],q}
structure It where
 go:Nat->Hp->Prop
 yld:Nat->Hp->V->Hp->Prop
 stop:Nat->Hp->Prop
def Ci(X:Cx)(qA:List (Addr×Obj))(H:Hp)(b:Addr):Prop:=(H b=none/\b≠X.env.locals/\b∉X.fs/\(b∈X.ex\/X.s₀.heap.objs.size<=b)/\(∀x c,X.env.cells.lookup x\c->c≠b)/\∀p∈X.pn++qA,p.1≠b)
def Inv.fpOk{b:Addr}(I:Inv X qA Y H s)(hb:'H'<=b)(a:H' b=none):Ci X qA H' b:=by
 show{a,Nat.ne_of_gt (aU I.lt hb),I.nofs hb,.inr (aR I.sz hb),λx c e z=>?_,λp hp z=>?_}
 .let[v,q]:=I.cell x c e;show bS (aU q.lt (by simp_all)) (aX _)
 .show bS (aU (bN (I.pin p hp).1) (by simp_all)) (aX _)
structure Turn(P:Program)(w:World)(K:Fg)(tg:Expr)(J:It)(fp:Gn)(it:Addr)(tn:Nat->Heap->Prop):Prop where
 mem:it∈fp
 obj:∀i h,tn i h->∀b∈fp,∃o,h.get? b\o/\∀v,o.data≠.cell v
 keep:∀i h h',tn i h->(∀b∈fp,∀o,h.get? b\o->h'.get? b\o)->tn i h'
 item:∀(X:Cx),X.prog=P->X.w=w->X.K=K->X.calm=true->∀(i:Nat)(qA:List (Addr×Obj))(s:Shared)(Y:St)(H:Hp)(E:VS),Inv X qA Y H s->(∀b∈fp,Ci X qA H b)->tn i s.heap->J.go i H->wpAny (model P w) X.A (pyNext (.ref it)) (λr s1=>∃u,r\u/\wpAny (model P w) X.A (letOwnedTupleGo tg (.ref it) u) (λ_ s2=>∃x H',Inv X qA Y H' s2/\AV x u/\J.yld i H x H'/\tn (i+1) s2.heap/\∀b∈fp,H' b=none) E s1) E s
 done:∀(X:Cx),X.prog=P->X.w=w->X.K=K->X.calm=true->∀(i:Nat)(qA:List (Addr×Obj))(s:Shared)(Y:St)(H:Hp)(E:VS),Inv X qA Y H s->(∀b∈fp,Ci X qA H b)->tn i s.heap->J.stop i H->wpAny (model P w) X.A (pyNext (.ref it)) (λr s1=>r=none/\Inv X qA Y H s1) E s
 self:∀(A:Around)(i:Nat)(s:Shared)(Q:VS)(E:VS),tn i s.heap->Q (.ref it) s->wpAny (model P w) A (pyIter (.ref it)) Q E s
abbrev TI:=St->Hp->(It->Hp->Prop)->Prop
end L2
variable{g:L2.TG}{tt:L2.TT}
namespace L2
def MP(X:Cx)(qA:List (Addr×Obj))(Y:St)(tg:Expr)(R:It->Hp->Prop)(itv:Value)(s2:Shared):Prop:=(∃(it:Addr)(fp:Gn)(tn:Nat->Heap->Prop)(J:It)(H':Hp),itv=.ref it/\Inv X qA Y H' s2/\Turn X.prog X.w X.K tg J fp it tn/\tn 0 s2.heap/\(∀b∈fp,Ci X qA H' b)/\R J H')
def PI(X:Cx)(tg iter:Expr)(wi:TI):Prop:=(∀(qA:List (Addr×Obj))(s:Shared)(Y:St)(H:Hp)(R:It->Hp->Prop),Inv X qA Y H s->wi Y H R->'B' (eval iter X.env) (λv s1=>'B' (pyIter v) (MP X qA Y tg R) X.xe s1) X.xe s)
def G9{E}{o}{n}{vs:Ex}{Q}(c:'F' it=some o)(f:o.cls=.type n)(e:o.data=.fields vs)(d:["enumerate","zip","dict_itemiterator","dict_reverseitemiterator","odict_iterator","itertools.zip_longest","itertools.pairwise"].contains n=false)(a:Q () s):wpAny M A (letOwnedTupleGo tg (.ref it) u) Q E s:=by cases tg<;>first|show wP a|(cases u<;>first
        |show wP a
        | (show wB (wpAny_load c ?_)
           rw[f,e];change wpAny M A (if(["enumerate","zip","dict_itemiterator","dict_reverseitemiterator","odict_iterator","itertools.zip_longest","itertools.pairwise"].contains n&&vs[0]?==some _)=true then _ else _) Q E s;rw[aB (by intro h;rw[d]at h;cases h)];show wP a))
def EG(K:Fg)(a:Addr):It:=({λi H=>∃xs x,BA K H a xs/\xs[i]?\x,λi H x H'=>H'=H/\∀xs,BA K H a xs->xs[i]?\x,λi H=>∃xs,BA K H a xs/\xs.length<=i})
def GF(K:Fg)(a:Addr):It:=({λi H=>∃xs x,Bq K H a xs/\xs[i]?\x,λi H x H'=>H'=H/\∀xs,Bq K H a xs->xs[i]?\x,λi H=>∃xs,Bq K H a xs/\xs.length<=i})
def EH(lo:Int)(n:Nat):It:=({λi _=>i<n,λi H x H'=>H'=H/\x=.int (lo+i),λi _=>n<=i})
theorem Xf{K}(a it):Turn P w K tg (EG K a) [it] it (λi h=>h.IsListIter it a i)where
 mem:='2'
 obj:=λi h st b hb=>by
  let e:b=it:=by simpa using hb
  subst e;let[o,e,c,d]:=st;show{o,e,λv z=>by rw[d]at z;cases z}
 keep:=λi h h' st k=>st.at λo e=>k it '2' o e
 item:=by intro X q m r G i qA s Y H E I j st n;subst q m r;done<;>(let[xs,x,g,l]:=n;let[qG,rv,p,M]:=I.list g;let[u,O,L]:=rv.get l;let[D,C,Q,B,A,y]:=j it '2');show wpAny_pyNext_list_item st p.isList (~~~O) λh' f J=>?_;let ρ:Inv X qA Y H {s with heap:=h'}:=I.turned (λb o hb e=>(J.2 b hb).trans e) D C B A y;let[o,e,c,d]:=id f;show#[u,0,G9 e c d '3' {x,H,ρ,L,{0,λys N=>by rw[I.list_inj N g];show l},f,λb hb=>(j b hb).1}]
 done:=by intro X q m r G i qA s Y H E I j st n;subst q m r;done<;>(done<;>(let[xs,g,l]:=n;let[qG,rv,p,M]:=I.list g;let[D,C,Q,B,A,y]:=j it '2'));let σ:=rv.length;show wpAny_pyNext_list_end (I.ok.hd G) st p.isList '4' λh' T=>{0,I.turned (λb o hb e=>T b o hb e) D C B A y}
 self:=λ_ _ _ _ _ st h=>wpAny_pyIter_listiter st h
theorem Xg{K}(a it):Turn P w K tg (GF K a) [it] it (λi h=>h.IsTupleIter it a i)where
 mem:='2'
 obj:=λi h st b hb=>by
  let e:b=it:=by simpa using hb
  subst e;let[o,e,c,d]:=st;show{o,e,λv z=>by rw[d]at z;cases z}
 keep:=λi h h' st k=>st.at λo e=>k it '2' o e
 item:=by intro X q m r G i qA s Y H E I j st n;subst q m r;done<;>(let[xs,x,g,l]:=n;let[qG,rv,p,M]:=I.tuple g;let[u,O,L]:=rv.get l;let[D,C,Q,B,A,y]:=j it '2');show wpAny_pyNext_tuple_item st (p) (~~~O) λh' f J=>?_;let ρ:Inv X qA Y H {s with heap:=h'}:=I.turned (λb o hb e=>(J.2 b hb).trans e) D C B A y;let[o,e,c,d]:=id f;show#[u,0,G9 e c d '3' {x,H,ρ,L,{0,λys N=>by rw[I.tuple_inj N g];show l},f,λb hb=>(j b hb).1}]
 done:=by intro X q m r G i qA s Y H E I j st n;subst q m r;done<;>(done<;>(let[xs,g,l]:=n;let[qG,rv,p,M]:=I.tuple g;let[D,C,Q,B,A,y]:=j it '2'));let σ:=rv.length;show wpAny_pyNext_tuple_end (I.ok.hd G) st (p) '4' λh' T=>{0,I.turned (λb o hb e=>T b o hb e) D C B A y}
 self:=λ_ _ _ _ _ st h=>wpAny_pyIter_tupleiter st h
theorem Xh{K}(it)(lo)(n):Turn P w K tg (EH lo n) [it] it (λi h=>IsRangeIter h it (lo+(i:Nat)*1) ((n:Int)-(i:Nat)) 1)where
 mem:='2'
 obj:=λi h st b hb=>by
  let e:b=it:=by simpa using hb
  subst e;show{_,st,λv z=>by let x:=z;cases x}
 keep:=λi h h' st k=>k it '2' _ st
 item:=by intro X j d l g i qA s Y H E I c st f;subst j d l;let[u,r,B,q,p,m]:=c it '2';let W:=Walks.range (prog:=X.prog) (w:=X.w) (I.ok.hd g) it lo 1 n;show W.item i s _ _ f st λv h' tk A a y=>?_;let[t,0]:=A;let D:Inv X qA Y H {s with heap:=h',toks:=tk}:=I.turned (λb o hb e=>y b o (~~~hb) e) u r q p m;show#[_,0,G9 a rfl rfl '3' {.int (lo+i),H,D,#[t,?_],#[0,0],a,λb hb=>(c b hb).1}];rw[Int.mul_one]
 done:=by intro X j d l g i qA s Y H E I c st f;let[u,r,B,q,p,m]:=c it '2';show wpAny_pyNext_range_end (I.ok.hd g) st (by let:n<=i:=f;lia) λh' C=>{0,I.turned (λb o hb e=>C b o hb e) u r q p m}
 self:=λ_ _ _ _ _ st h=>wpAny_pyIter_rangeiter st h
def Qc(K:Fg)(tl:TE):TI:=(λY H R=>tl Y H λx H1=>∃a,x=.ref a/\(∃xs,BA K H1 a xs)/\R (EG K a) H1)
def Qd(K:Fg)(tl:TE):TI:=(λY H R=>tl Y H λx H1=>∃a,x=.ref a/\(∃xs,Bq K H1 a xs)/\R (GF K a) H1)
def HA(j:PE X l tl):PI X tg l (Qc X.K tl):=by
 intro qA s Y H R I h;show AR (j qA s Y H _ I h) λv c zz=>?_;done<;>(let[x,H1,d,f,g]:=zz;let[a,e,[xs,i],q]:=g);subst e;cases f;let[qG,rv,p,m]:=d.list i;show wpAny_pyIter_list p.isList ?_;show{c.heap.objs.size,[c.heap.objs.size],_,_,H1,0,d.kept λb o e=>aS _ e,Xf a _,{_,bP _ rfl,0,0},λb hb=>?_,q};let e:b=c.heap.objs.size:=by simpa using hb
 subst e;show d.fpOk (aQ _) (d.hok.fresh (aQ _))
def Xi(j:PE X l tl):PI X tg l (Qd X.K tl):=by
 intro qA s Y H R I h;show AR (j qA s Y H _ I h) λv c zz=>?_;done<;>(let[x,H1,d,f,g]:=zz;let[a,e,[xs,i],q]:=g);subst e;cases f;let[qG,rv,p,m]:=d.tuple i;show wpAny_pyIter_tuple (p) ?_;show{c.heap.objs.size,[c.heap.objs.size],_,_,H1,0,d.kept λb o e=>aS _ e,Xg a _,{_,bP _ rfl,0,0},λb hb=>?_,q};let e:b=c.heap.objs.size:=by simpa using hb
 subst e;show d.fpOk (aQ _) (d.hok.fresh (aQ _))
def Qe{t u v}(I:Inv X qA Y H s)(h1:-(2^62)<=lo)(h2:lo<2^62)(d:-(2^62)<=hi)(c:hi<2^62)(q:R (EH lo (hi-lo).toNat) H):'B' (pyIter (.ref 'H')) (MP X qA Y tg R) E {s with heap:=s.heap.push {cls:=.type "range",data:=.fields [.int lo t,.int hi u,.int 1 v].toArray},toks:=tk}:=by
 show wpAny_pyIter_range (IsRange.new ..) (small_one h1 h2 d c) ?_;let a:Inv X qA Y H {s with heap:=s.heap.push {cls:=.type "range",data:=.fields [.int lo t,.int hi u,.int 1 v].toArray},toks:=tk}:=I.kept λb o e=>aS _ e;show{(s.heap.push {cls:=.type "range",data:=.fields [.int lo t,.int hi u,.int 1 v].toArray}).objs.size,[(s.heap.push {cls:=.type "range",data:=.fields [.int lo t,.int hi u,.int 1 v].toArray}).objs.size],_,_,H,0,a.kept λb o e=>aS _ e,Xh _ lo (hi-lo).toNat,?_,λb hb=>?_,q}
 .let g:lo+((0:Nat))*1=lo:='2'
  let f:(((hi-lo).toNat:Nat))-((0:Nat))=Builtin.Range.rangeSize lo hi 1:=by rw[rangeSize_one];split<;>lia
  change IsRangeIter _ _ (lo+((0:Nat))*1) ((((hi-lo).toNat:Nat))-((0:Nat))) 1;rw[g,f];show bP _ rfl
 .let e:b=(s.heap.push {cls:=.type "range",data:=.fields [.int lo t,.int hi u,.int 1 v].toArray}).objs.size:=by simpa using hb
  subst e;show a.fpOk (aQ _) (a.hok.fresh (aQ _))
def Xj(ta:TA):TI:=(λY H R=>ta Y H λvs H1=>∃j:Int,vs=[.int j]/\-(2^62)<=j/\j<2^62/\R (EH 0 j.toNat) H1)
def Xk(ta:TA):TI:=(λY H R=>ta Y H λvs H1=>∃i j:Int,vs=[.int i,.int j]/\(-(2^62)<=i/\i<2^62/\-(2^62)<=j/\j<2^62)/\R (EH i (j-i).toNat) H1)
def Fa{a}{ta}{p}(m:Gl X "range")(l:X.mg "range"=none)(n:PA X [a] ta)(i:starEach [a] X.env=[(false,eval a X.env)]:=by rfl):PI X tg (.Call (.Name "range" p) [a] [] pos) (Xj ta):=by intro qA s Y H R I h;show Call_ (F9 I m l boot_range (PyProof.Rows.callWith_type1 (AR (n pos qA s Y H _ I h) λus u zz=>?_) i rfl));done<;>(let[vs,H1,o,f,c]:=zz;let[j,e,c,g,q]:=c);subst e;cases f with|cons r d=>cases d;let[t,0]:=r;show call_range_1 (Qe o ⋯ ⋯ c g (~~~q))
def Xl{a b}{ta}{p}(w:Gl X "range")(v:X.mg "range"=none)(x:PA X [a,b] ta)(u:starEach [a,b] X.env=[(false,eval a X.env),(false,eval b X.env)]:=by rfl)(c:starEach [b] X.env=[(false,eval b X.env)]:=by rfl):PI X tg (.Call (.Name "range" p) [a,b] [] pos) (Xk ta):=by intro qA s Y H R I h;show Call_ (F9 I w v boot_range (PyProof.Rows.callWith_type1 (AR (x pos qA s Y H _ I h) λus A zz=>?_) (by rw[u,c]) (by rw[c];rfl)));done<;>(let[vs,H1,y,g,f]:=zz;let[i,j,e,[f,o,n,m],q]:=f);subst e;cases g with|cons r d=>cases d with|cons l d=>cases d;let[t,0]:=r;let[t',0]:=l;show call_range_2 (Qe y f o n m q)
def Qf(wi:TI)(g:TG)(tb:TS):TS:=(λD Y H=>wi Y H λJ H1=>∃W:Nat->Nat->St->Hp->Prop,(∃m,W 0 m Y H1)/\∀i m Y H,W i m Y H->(J.stop i H/\D.nx Y H)\/(J.go i H/\∃N:St->Hp->Prop,(∀σ' H',N σ' H'->∃m',m'<m/\W (i+1) m' σ' H')/\∀x H',J.yld i H x H'->g x Y H' λσ2 H2=>tb {D with nx:=N,ct:=N,bk:=D.nx} σ2 H2))
def HB(fp:Gn)(h:Heap):List (Addr×Obj):=(fp.filterMap λb=>(h.get? b).map λo=>(b,o))
def HC{a}{o}(hb:b∈a)(e:h.get? b\o):(b,o)∈HB a h:=mem_filterMap.mpr {b,hb,by rw[e];rfl}
def Xm{a}{p}(c:p∈HB a h):p.1∈a/\h.get? p.1\p.2:=by let[b,hb,e]:=mem_filterMap.mp c;cases q:h.get? b with|none=>simp_all|some o=>rw[q]at e;let d:=oI e;subst d;show#[hb,q]
def Inv.pinned(I:Inv X qA Y H s)(hf:∀b∈fp,Ci X qA H b)(ho:∀b∈fp,∃o,'F' b\o/\∀v,o.data≠.cell v):Inv X (qA++HB fp s.heap) Y H s:=I.pins_of λp hp=>(bA.mp hp).elim (λz=>I.pin p (cC _ z)) λz=>by let[hb,e]:=Xm z;let[f0,f,c,_]:=hf p.1 hb;let[o,a,d]:=ho p.1 hb;simp_all
def Inv.unpinned(I:Inv X (qA++pl) Y H s):Inv X qA Y H s:=I.pins_of λp hp=>I.pin p (cC _ (mem_append_left _ hp))
def Dz{tb}(L:PassesOwn (model X.prog X.w) X.A X.env X.xe)(hc:X.calm=true)(hi:PI X tg iter wi)(hg:PG X tg g)(hb:BS X body tb)(hs:∀x,foldedSetIterable iter X.env x=pure x:=by rfl):PS X (.For tg iter body [] pos) (Qf wi g tb):=by
 intro qA s Y H D I h;show wpAny_For (AR (hi qA s Y H _ I h) λv s1 h1=>AR h1 λa2 s2 h2=>?_) hs;done<;>let[it,O,tn,J,H2,e,I2,T,σ,f2,W,[m0,w0],B]:=h2;subst e;let j:∀{H'},(∀b∈O,H' b=none)->∀b∈O,Ci X qA H' b:=λhn b hb=>{hn b hb,(f2 b hb).2};show codeAny_forLoop_any (λn s'=>∃i σ' H',Inv X qA σ' H' s'/\tn i s'.heap/\(∀b∈O,H' b=none)/\W i n σ' H') ?_ m0 {(0),Y,H2,I2,σ,λb hb=>(f2 b hb).1,w0};rintro n s3 iq;done<;>let[i,c,Q,I3,E,M,w3]:=iq;done<;>let[C,qn]||[go,N,hN,step]:=B i n c Q w3
 .show wpAny_passesOwn L (AR (T.done X rfl rfl rfl hc i qA s3 c Q X.xe I3 (j M) E C) λr s4 zz=>?_);done<;>let[hr,I4]:=zz;subst hr;show wpAny_execs_nil #[c,Q,I4,qn]
 .show wpAny_passesOwn L (AR (T.item X rfl rfl rfl hc i qA s3 c Q X.xe I3 (j M) E go) λr s4 zz=>?_);let[u,hr,h4]:=zz;subst hr;show wpAny_passesOwn L (AR h4 λ_ s5 zz=>?_);done<;>let[x,H5,I5,r5,y5,y,a0]:=zz;let a1:=I5.pinned (j a0) (T.obj _ _ y);show wpAny_passesOwn L (AR (hg _ s5 c H5 x u _ a1 r5 (step x H5 y5)) λ_ s6 zz=>?_);done<;>let[ρ,H6,I6,q6]:=zz;show wpAny_passesOwn L (AR (hb _ s6 ρ H6 _ I6 q6) λf s7 q=>?_);let again:∀{a}{p},Inv X (qA++HB O s5.heap) a p s7->N a p->∃m,m<n/\∃i σ' H',Inv X qA σ' H' s7/\tn i s7.heap/\(∀b∈O,H' b=none)/\W i m σ' H':=λ{a p}l G=>by let[m',hm,w7]:=hN a p G;show{m',hm,i+1,a,p,l.unpinned,T.keep _ _ _ y λb hb o e=>(l.pin (b,o) (cC _ (cC _ (HC hb e)))).1,λb hb=>?_,w7};let[o,e,d]:=T.obj _ _ y b hb;show(l.pin (b,o) (cC _ (cC _ (HC hb e)))).2.1
  cases f with|next=>let[a,p,l,G]:=q;show again l G|cont=>let[a,p,l,G]:=q;show again l G|brk=>let[a,p,l,q]:=q;show#[a,p,l.unpinned,q]|ret v=>done<;>let[x7,a,p,l,r7,q]:=q;show#[x7,a,p,l.unpinned,r7,q]
def MQ{K}{tb:TS}{D:Ends}(Pv:Nat->St->Hp->Prop)(o:Pv 0 Y H)(l:∀i Y H,i<=xs.length->Pv i Y H->BA K H a xs)(j:∀i x Y H,xs[i]?\x->Pv i Y H->g x Y H λc H2=>tb {D with nx:=Pv (i+1),ct:=Pv (i+1),bk:=D.nx} c H2)(n:∀Y H,Pv xs.length Y H->D.nx Y H):∃W:Nat->Nat->St->Hp->Prop,(∃m,W 0 m Y H)/\∀i m Y H,W i m Y H->((EG K a).stop i H/\D.nx Y H)\/((EG K a).go i H/\∃N,(∀σ' H',N σ' H'->∃f,f<m/\W (i+1) f σ' H')/\∀x H',(EG K a).yld i H x H'->g x Y H' λc H2=>tb {D with nx:=N,ct:=N,bk:=D.nx} c H2):=by
 show{λi m Y H=>m=xs.length-i/\i<=xs.length/\Pv i Y H,{xs.length,'2',cD _,o},?_};rintro i m Y H⟨rfl,hi,p⟩;let q:=l i Y H hi p;by_cases d:i<xs.length
 .show .inr #[{xs,xs[i],q,by simp[d]},Pv _,λσ' H' h=>{xs.length-(i+1),(by omega),0,d,h},λx H' y=>?_];let[e,y]:=y;subst e;show j i x Y _ (y xs q) p
 .let e:i=xs.length:=⋯;subst e;show .inl #[{xs,q,aQ _},n Y H p]
def HD{tb:TS}{D:Ends}(Pv:Nat->St->Hp->Prop)(l:Pv 0 Y H)(h:∀i Y H,i<n->Pv i Y H->g (.int (lo+i)) Y H λa H2=>tb {D with nx:=Pv (i+1),ct:=Pv (i+1),bk:=D.nx} a H2)(j:∀Y H,Pv n Y H->D.nx Y H):∃W:Nat->Nat->St->Hp->Prop,(∃m,W 0 m Y H)/\∀i m Y H,W i m Y H->((EH lo n).stop i H/\D.nx Y H)\/((EH lo n).go i H/\∃N,(∀σ' H',N σ' H'->∃d,d<m/\W (i+1) d σ' H')/\∀x H',(EH lo n).yld i H x H'->g x Y H' λa H2=>tb {D with nx:=N,ct:=N,bk:=D.nx} a H2):=by
 show{λi m Y H=>m=n-i/\i<=n/\Pv i Y H,{n,'2',cD _,l},?_};rintro i m Y H⟨rfl,hi,p⟩;by_cases c:i<n
 .show .inr {c,Pv _,λσ' H' f=>{n-(i+1),⋯,0,c,f},λx H' y=>?_};let[e,y]:=y;simp_all
 .let e:i=n:=⋯;subst e;show .inl {aQ _,j Y H p}
abbrev R2:=V->V->Hp->VK->Prop
def A1(X:Cx)(f:Value->Value->Sem Value)(r:R2):Prop:=(∀(qA:List (Addr×Obj))(s:Shared)(Y:St)(H:Hp)(x y:V)(v u:Value)(Q:VK),Inv X qA Y H s->AV x v->AV y u->r x y H Q->'B' (f v u) (EP X qA Y Q) X.xe s)
def MR(X:Cx)(f:Value->Sem Value)(r:V->Hp->VK->Prop):Prop:=(∀(qA:List (Addr×Obj))(s:Shared)(Y:St)(H:Hp)(x:V)(v:Value)(Q:VK),Inv X qA Y H s->AV x v->r x H Q->'B' (f v) (EP X qA Y Q) X.xe s)
def B3(X:Cx)(f:Value)(r:dH->Hp->VK->Prop):Prop:=(∀(qA:List (Addr×Obj))(s:Shared)(Y:St)(H:Hp)(xs:dH)(us:C2)(Q:VK),Inv X qA Y H s->AZ xs us->r xs H Q->'B' (call f us) (EP X qA Y Q) X.xe s)
def IP(r:R2)(ta tb:TE):TE:=(λY H Q=>ta Y H λx H1=>tb Y H1 λy H2=>r x y H2 Q)
def Xo(r:V->Hp->VK->Prop)(ta:TE):TE:=(λY H Q=>ta Y H λx H1=>r x H1 Q)
inductive rI(C:Int->Int->Prop)(g:Int->Int->V)(x y:V)(H:Hp)(Q:VK):Prop|mk(i j:Int)(ex:x=.int i)(ey:y=.int j)(c:C i j)(q:Q (g i j) H)
inductive rI0(g:Int->Int->V)(x y:V)(H:Hp)(Q:VK):Prop|mk(i j:Int)(ex:x=.int i)(ey:y=.int j)(q:Q (g i j) H)
def rU(g:Int->V):V->Hp->VK->Prop:=(λx H Q=>∃i,x=.int i/\Q (g i) H)
section
variable{a b c:Expr}{tc:TE}
def MS(m:PE X a ta)(hb:PE X b tb){R:V->V->Hp->Prop}(I:Inv X qA Y H s)(h:ta Y H λx H1=>tb Y H1 λy H2=>R x y H2){f:Value->Value->Sem Value}(l:∀v u c x y H2,Inv X qA Y H2 c->AV x v->AV y u->R x y H2->'B' (f v u) Q X.xe c):'B' (eval a X.env) (λv s₁=>'B' (eval b X.env) (λu s₂=>'B' (f v u) Q X.xe s₂) X.xe s₁) X.xe s:=by show AR (m qA s Y H _ I h) λv d zz=>?_;let[x,H1,o,g,j]:=zz;show AR (hb qA d Y H1 _ o j) λu c zz=>?_;let[y,H2,n,e,i]:=zz;show l v u c x y H2 n g e i
def B4{r}(f:A1 X (binaryOp op) r)(g:PE X a ta)(hb:PE X b tb):PE X (.BinOp a op b pos) (IP r ta tb):=by intro qA s Y H Q I h;show wpAny_BinOp (MS g hb I h λv u c x y H2 i e d q=>f qA c Y H2 x y v u Q i e d q)
def Qg{r}(f:MR X (unaryOp op) r)(g:PE X a ta):PE X (.UnaryOp op a pos) (Xo r ta):=by intro qA s Y H Q I h;show UnaryOp_ (AR (g qA s Y H _ I h) λv c zz=>(by let[x,H1,i,d,e]:=zz;show f qA c Y H1 x v Q i d e))
def IQ{g:Int->Int->Int}(rule:∀(i j)(t u)(s)(Q:VS)(E:VS),C i j->Q (.int (g i j) s.toks) {s with toks:=s.toks+1}->'B' (f (.int i t) (.int j u)) Q E s):A1 X f (rI C λi j=>.int (g i j)):=by rintro qA s Y H x y v u Q I c a⟨i,j,rfl,rfl,d,q⟩;let[t,0]:=c;let[t',0]:=a;show rule i j t t' s _ _ d {.int _,H,I.tok _,#[_,0],q}
def Qh{g:Int->Int->Int}(rule:∀(i j)(t u)(s)(Q:VS)(E:VS),Q (.int (g i j) s.toks) {s with toks:=s.toks+1}->'B' (f (.int i t) (.int j u)) Q E s):A1 X f (rI0 λi j=>.int (g i j)):=by rintro qA s Y H x y v u Q I c a⟨i,j,rfl,rfl,q⟩;let[t,0]:=c;let[t',0]:=a;show rule i j t t' s _ _ {.int _,H,I.tok _,#[_,0],q}
def Ju{g:Int->Int->Bool}(rule:∀(i j)(t u)(s)(Q:VS)(E:VS),Q (.bool (g i j)) s->'B' (f (.int i t) (.int j u)) Q E s):A1 X f (rI0 λi j=>.bl (g i j)):=by rintro qA s Y H x y v u Q I c a⟨i,j,rfl,rfl,q⟩;let[t,0]:=c;let[t',0]:=a;show rule i j t t' s _ _ {.bl _,H,I,0,q}
def Jv(i j:Int):Prop:=(0<=j/\j<=1000000/\i.natAbs<2^64)
def Fb(i j:Int):Prop:=((-(2^64)<i/\i<2^64)\/(-(2^64)<j/\j<2^64))
def Fb.ok{i j}(h:Fb i j):IntMulOk i j:=by
 let[h1,h2]||[h1,h2]:=h
 .show .of_left (intBits_le_64 h1 h2)
 .show .of_right (intBits_le_64 h1 h2)
def Xp(k):(0:Int)<=2^k:=by show Int.natCast_nonneg _
def C4:A1 X (binaryOp .Add) (rI0 λi j=>.int (i+j)):=Qh λ_ _ _ _ _ _ _ q=>add_int q
def IR:A1 X (binaryOp .Sub) (rI0 λi j=>.int (i-j)):=Qh λ_ _ _ _ _ _ _ q=>sub_int q
def Ei:A1 X (binaryOp .Mult) (rI Fb λi j=>.int (i*j)):=IQ λ_ _ _ _ _ _ _ a q=>mul_int q a.ok
def Ej:A1 X (binaryOp .Mod) (rI (λ_ j=>0<j) λi j=>.int (i%j)):=IQ λi j _ _ _ _ _ a q=>by let h1:=a;show mod_int' ⋯ (by rw[Int.fmod_eq_emod_of_nonneg i ⋯];show q)
def GG:A1 X (binaryOp .Pow) (rI Jv λi j=>.int (i^j.toNat)):=IQ λ_ _ _ _ _ _ _ a q=>pow_int_small a.1 a.2.1 a.2.2 q
def Xq:A1 X (binaryOp .RShift) (rI (λ_ j=>0<=j) λi j=>.int (i/2^j.toNat)):=IQ λi j _ _ _ _ _ a q=>rshift_int a (by rw[Int.fdiv_eq_ediv_of_nonneg i (Xp _)];show q)
def Xr{g:Int->Int}(rule:∀(i)(t)(s)(Q:VS)(E:VS),Q (.int (g i) s.toks) {s with toks:=s.toks+1}->'B' (f (.int i t)) Q E s):MR X f (rU λi=>.int (g i)):=by rintro qA s Y H x v Q I a⟨i,rfl,q⟩;let[t,0]:=a;show rule i t s _ _ {.int _,H,I.tok _,#[_,0],q}
def Qi:MR X (unaryOp .USub) (rU λi=>.int (-i)):=Xr λ_ _ _ _ _ q=>neg_int q
end
def Qj:V->V->Bool|.non,.non=>true|.non,.int _=>true|.int _,.non=>true|.non,.bl _=>true|.bl _,.non=>true|.non,.str _=>true|.str _,.non=>true|.int _,.int _=>true|.bl _,.bl _=>true|.str _,.str _=>true|.byt _,.byt _=>true|.int _,.str _=>true|.str _,.int _=>true|.bl _,.str _=>true|.str _,.bl _=>true|_,_=>false
def Xt:R2:=(λx y H Q=>Qj x y=true/\Q (.bl (decide (x=y))) H)
def Xu:R2:=(λx y H Q=>Qj x y=true/\Q (.bl (!decide (x=y))) H)
def Qk{i j}:decide (V.int i=V.int j)=(i==j):=by rw[Bool.eq_iff_iff];simp
def Ql{i j}:decide (V.bl i=V.bl j)=(i==j):=by rw[Bool.eq_iff_iff];simp
def Qm{i j}:decide (V.str i=V.str j)=(i==j):=by rw[Bool.eq_iff_iff];simp
def Qn{i j}:decide (V.byt i=V.byt j)=(i.toList==j.toList):=by rw[Bool.eq_iff_iff];simp
section
variable{a b c:Expr}{tc:TE}
def Ba{Q}{k a}(I:Inv X qA Y H s)(q:Q (.bl k) H)(e:k=a):EP X qA Y Q (.bool a) s:=by subst e;show{.bl k,H,I,0,q}
def MT:A1 X (compareOp .Eq) Xt:=by rintro qA s Y H x y v u Q I d a⟨c,q⟩;cases x with
 |non=>cases d;cases y with|non=>cases a;show PySem.EqNone.eq_none_none (Ba I q '2')|bl j=>cases a;show PySem.EqNone.eq_none_bool (Ba I q '2')|int j=>let[t',0]:=a;show PySem.EqNone.eq_none_int (Ba I q '2')|str j=>let[t',0]:=a;show PySem.EqNone.eq_none_str (Ba I q '2')|_=>show bS (c) cH
 |bl i=>cases d;cases y with|non=>cases a;show PySem.EqNone.eq_bool_none (Ba I q '2')|bl j=>cases a;show eq_bool (Ba I q Ql)|str j=>let[t',0]:=a;show PySem.EqMixed.eq_bool_str (Ba I q '2')|_=>show bS (c) cH
 |int i=>let[t,0]:=d;cases y with|non=>cases a;show PySem.EqNone.eq_int_none (Ba I q '2')|int j=>let[t',0]:=a;show eq_int (Ba I q Qk)|str j=>let[t',0]:=a;show PySem.EqMixed.eq_int_str (Ba I q '2')|_=>show bS (c) cH
 |str i=>let[t,0]:=d;cases y with|non=>cases a;show PySem.EqNone.eq_str_none (Ba I q '2')|bl j=>cases a;show PySem.EqMixed.eq_str_bool (Ba I q '2')|int j=>let[t',0]:=a;show PySem.EqMixed.eq_str_int (Ba I q '2')|str j=>let[t',0]:=a;show eq_str (Ba I q Qm)|_=>show bS (c) cH
 |byt i=>let[t,0]:=d;cases y with|byt j=>let[t',0]:=a;show PySem.W.eq_bytes (Ba I q Qn)|_=>show bS (c) cH
 |_=>cases y<;>show bS (c) cH
def Xv:A1 X (compareOp .NotEq) Xu:=by rintro qA s Y H x y v u Q I d a⟨c,q⟩;cases x with
 |non=>cases d;cases y with|non=>cases a;show PySem.EqNone.ne_none_none (Ba I q '2')|bl j=>cases a;show PySem.EqNone.ne_none_bool (Ba I q '2')|int j=>let[t',0]:=a;show PySem.EqNone.ne_none_int (Ba I q '2')|str j=>let[t',0]:=a;show PySem.EqNone.ne_none_str (Ba I q '2')|_=>show bS (c) cH
 |bl i=>cases d;cases y with|non=>cases a;show PySem.EqNone.ne_bool_none (Ba I q '2')|bl j=>cases a;show ne_bool (Ba I q (aT not Ql))|str j=>let[t',0]:=a;show PySem.EqMixed.ne_bool_str (Ba I q '2')|_=>show bS (c) cH
 |int i=>let[t,0]:=d;cases y with|non=>cases a;show PySem.EqNone.ne_int_none (Ba I q '2')|int j=>let[t',0]:=a;show ne_int (Ba I q (aT not Qk))|str j=>let[t',0]:=a;show PySem.EqMixed.ne_int_str (Ba I q '2')|_=>show bS (c) cH
 |str i=>let[t,0]:=d;cases y with|non=>cases a;show PySem.EqNone.ne_str_none (Ba I q '2')|bl j=>cases a;show PySem.EqMixed.ne_str_bool (Ba I q '2')|int j=>let[t',0]:=a;show PySem.EqMixed.ne_str_int (Ba I q '2')|str j=>let[t',0]:=a;show ne_str (Ba I q (aT not Qm))|_=>show bS (c) cH
 |byt i=>let[t,0]:=d;cases y with|byt j=>let[t',0]:=a;show PySem.W.ne_bytes (Ba I q (aT not Qn))|_=>show bS (c) cH
 |_=>cases y<;>show bS (c) cH
def E5:A1 X (compareOp .Lt) (rI0 λi j=>.bl (decide (i<j))):=Ju λ_ _ _ _ _ _ _ q=>lt_int q
def Dp:A1 X (compareOp .LtE) (rI0 λi j=>.bl (decide (i<=j))):=Ju λ_ _ _ _ _ _ _ q=>le_int q
def Fc:A1 X (compareOp .Gt) (rI0 λi j=>.bl (decide (j<i))):=Ju λ_ _ _ _ _ _ _ q=>gt_int q
def Qo:A1 X (compareOp .GtE) (rI0 λi j=>.bl (decide (j<=i))):=Ju λ_ _ _ _ _ _ _ q=>ge_int q
def Xw:A1 X (compareOp .Lt) (λx y H Q=>∃i j,x=.str i/\y=.str j/\Q (.bl (decide (i.cps.toList<j.cps.toList))) H):=by rintro qA s Y H x y v u Q I c a⟨i,j,rfl,rfl,q⟩;let[t,0]:=c;let[t',0]:=a;show lt_str (Ba I q rfl)
def Xx:A1 X (compareOp .IsNot) (λx y H Q=>y=.non/\Q (.bl (!decide (x=.non))) H):=by rintro qA s Y H x y v u Q I a c⟨rfl,q⟩;cases c;show isnot_none_gen (Ba I q ?_);cases x<;>first|(rfl)|(let[t,0]:=a;rfl)
def Ah(b)(h:op≠.In:=by decide)(h2:op≠.NotIn:=by decide):behindInMarks op b=false:=by
 let c:(op==CmpOp.In)=false:=by simp_all
 let a:(op==CmpOp.NotIn)=false:=by simp_all
 cases b<;>simp[behindInMarks,c,a]
def MU{r}(f:A1 X (compareOp op) r)(i:PE X a ta)(hb:PE X b tb)(g:behindInMarks op b=false):PE X (.Compare a [op] [b] pos) (IP r ta tb):=by intro qA s Y H Q I h;show wpAny_Compare1 (MS i hb I h λv u c x y H2 j e d q=>f qA c Y H2 x y v u Q j e d q) g
def MV(t:TE):TT:=(λY H Q=>t Y H λx H'=>∃k,x=.bl k/\Q k H')
def C5{r}(o:A1 X (compareOp op) r)(q:PE X a ta)(hb:PE X b tb)(p:behindInMarks op b=false):PT X (.Compare a [op] [b] pos) (MV (IP r ta tb)):=by
 intro qA s Y H Q I h;show wpAny_isTrue_Compare1 (AR (q qA s Y H _ I h) λv f zz=>?_) p;let[x,H1,B,j,n]:=zz;show AR (hb qA f Y H1 _ B n) λu d zz=>?_;let[y,H2,A,i,m]:=zz;show AR (o qA d Y H2 x y v u _ A j i m) λc D zz=>?_;let[z,C,w,g,k,e,l]:=zz
 subst e;cases g;show wpAny_truthy_bool #[C,w,l]
def MW(r r':R2)(ta tb tc:TE):TE:=(λY H Q=>ta Y H λx H1=>tb Y H1 λy H2=>r x y H2 λz H3=>∃k,z=.bl k/\(if k=true then tc Y H3 λw' H4=>r' y w' H4 Q else Q (.bl false) H3))
def Xy{r r'}(L:A1 X (compareOp op) r)(g:A1 X (compareOp f) r')(O:PE X a ta)(hb:PE X b tb)(N:PE X c tc)(M:lastMarks [op,f] [b,c]=false:=by with_unfolding_all rfl):PE X (.Compare a [op,f] [b,c] pos) (MW r r' ta tb tc):=by
 intro qA s Y H Q I h;show Compare_chain (AR (O qA s Y H _ I h) λv A zz=>?_) M;let[x,H1,σ,D,J]:=zz;show chain_link (AR (hb qA A Y H1 _ σ J) λu w zz=>?_);done<;>let[y,H2,ρ,i,G]:=zz;show AR (L qA w Y H2 x y v u _ ρ D i G) λd q zz=>?_;done<;>let[z,m,l,C,k,e,j]:=zz
 subst e;cases C;show wpAny_truthy_bool ?_;cases k with|false=>show ite_ff {.bl false,m,l,0,j}|true=>show ite_tt (chain_last (AR (N qA q Y m _ l j) λo p zz=>(by let[n,H4,T,B,E]:=zz;show g qA p Y H4 y n u o Q T i B E)))
def Xz{r r'}(N:A1 X (compareOp op) r)(g:A1 X (compareOp f) r')(ρ:PE X a ta)(hb:PE X b tb)(T:PE X c tc)(O:lastMarks [op,f] [b,c]=false:=by with_unfolding_all rfl):PT X (.Compare a [op,f] [b,c] pos) (MV (MW r r' ta tb tc)):=by
 intro qA s Y H Q I h;show isTrue_chain (AR (ρ qA s Y H _ I h) λv A zz=>?_) O;done<;>let[x,H1,I1,E,M]:=zz;show test_link (AR (hb qA A Y H1 _ I1 M) λu w zz=>?_);done<;>let[y,H2,I2,i,L]:=zz;show AR (N qA w Y H2 x y v u _ I2 E i L) λd q zz=>?_;done<;>let[z,m,l,D,k,e,j]:=zz
 subst e;cases D;show wpAny_truthy_bool ?_;cases k with|false=>done<;>let[k',e',q']:=j;cases e';show ite_ff #[m,l,q']|true=>show ite_tt (test_last (AR (T qA q Y m _ l j) λo p zz=>?_));done<;>let[n,H4,I4,C,J]:=zz;show AR (g qA p Y H4 y n u o _ I4 i C J) λd' s5 zz=>?_;done<;>let[z2,H5,I5,B,k2,σ,G]:=zz;subst σ;cases B;show wpAny_truthy_bool #[H5,I5,G]
def GH:(sizeLine:Nat)<2^63:=by rw[sizeLine_eq];decide
def Qp:A1 X (binaryOp .Add) (λx y H Q=>∃i j,x=.str i/\y=.str j/\i.length+j.length<=sizeLine/\Q (.str (i++j)) H):=by rintro qA s Y H x y v u Q I c a⟨i,j,rfl,rfl,d,q⟩;let[t,0]:=c;let[t',0]:=a;show add_str (λt' tk=>{.str _,H,I.tok _,#[_,0],q}) d
def X2(b:Expr):Prop:=(∀o i,subscripted b false o i=operate [o,i] (getItem o i))
def HE{x}(r:AZ [x] us):∃u,us=[u]/\AV x u:=by cases r with|cons c a=>cases a;show#[_,0,c]
def X3{x y}(r:AZ [x,y] us):∃u w',us=[u,w']/\AV x u/\AV y w':=by cases r with|cons e d=>cases d with|cons c a=>cases a;show#[_,_,0,e,c]
end
structure ObjM(h:Heap)(x dx C:Addr)(mA:Str->Do):Prop where
 obj:h.get? x\(PySem.W.instObj C dx)ns:h.Ns1 dx mA
 ne:dx≠x
set_option tactic.hygienic true in
def Qq{mA:Str->Do}(n:h.Ns1 dx mA):∃od,h.get? dx\od/\∀name,PySem.W.lookIn name od\(mA name):=by
 let[o,es,ep,f,j,i,_,g]:=n;show{o,f,λname=>?_};let e:=g name;unfold nsFind findBy at e;rw[<-Array.find?_toList]at e;unfold PySem.W.lookIn;rw[j];dsimp only;split
 .simp_all
 .rename_i q;rw[q]at e;let a:es.toList.any (·.refKey)=false:=by rw[any_eq_false];intro y d;let[z,t,c]:=i y (Array.mem_toList_iff.mp d);simp[DictEntry.refKey,c]
  simp_all
def ObjM.look{x C}(I:ObjM h x dx C mA):∃od,PySem.W.InstAt h x (PySem.W.instObj C dx) C (some od)/\∀name,PySem.W.lookIn name od\(mA name):=let⟨od,ho,a⟩:=Qq I.ns
 {od,#[I.obj,0,0,ho],a}
section
variable{K:Fg}{x C f:Addr}{mA:Str->Do}{name:Str}{v:Value}
def X5{a}(X:K.In s.heap)(I:ObjM s.heap x dx C mA)(g:PySem.W.plainGet K C name=true)(f:PySem.W.hasDictIn K C=true)(i:PySem.W.findIn K (.ref C) name\none)(d:mA name\v)(c:PySem.W.handedIn v=true)(h:Q v {s with toks:=s.toks+1}):'C' (getAttr (.ref x) name a) Q E s:=by let[od,J,e]:=I.look;show PySem.W.get_value X J (PySem.W.plainGet_of g).1 (PySem.W.findObj_own f i rfl (by rw[e,d])) c h
def X6{Q:Value×C2->Shared->Prop}(X:K.In s.heap)(I:ObjM s.heap x dx C mA)(a:PySem.W.plainGet K C name=true)(g:PySem.W.findIn K (.ref C) name\(some (.ref f)))(d:PySem.W.isFn K (.ref f)=true)(c:mA name=none)(h:Q (.ref f,[.ref x]) s):'C' (getMethod (.ref x) name pl) Q E s:=by let[od,J,e]:=I.look;show PySem.W.method_fn X J (PySem.W.plainGet_of a).1 (PySem.W.plainGet_of a).2 g (beq_iff_eq.mp d) (by change(PySem.W.lookIn name od).map _\false;rw[e,c];rfl) h
def set_map{ns:At}{Q}(X:K.In s.heap)(I:ObjM s.heap x dx C mA)(m:PySem.W.findIn K (.ref C) "__setattr__"\(some (.builtin "object.__setattr__")))(n:PySem.W.plainOver K C=true)(l:PySem.W.takerIn K C name\none)(o:PySem.W.hasDictIn K C=true)(hw:PySem.Within mA ns)(hsz:ns.length<=sizeLine)(h:∀h',ObjM h' x dx C (λy=>if y=name then some v else mA y)->Heap.SameBut dx s.heap h'->Q () {s with heap:=h',toks:=s.toks+2}):'C' (setAttr (.ref x) name v) Q E s:=by let[od,J,D]:=I.look;show PySem.W.set_plain X J m (PySem.W.osa_open X J n l λb=>?_);let[cd,p,g]:=PySem.W.any_some o;let j:=I.obj;show wB (wP (wB (wB (wpAny_loadPart j (wB (PySem.W.Looks.here (PySem.W.looks_clsIn X p) ?_))))));rw[g];show wP (wB (wP (wB ?_)));show wpAny_nsSet1 I.ns λh' d c=>?_;done<;>let[B,q,u,e,f,i]:=d.count (PySem.Within.cons name v hw);show wB (wpAny_lookBehind e (by rw[f];show pastItsLine_dict (aR i (by rw[length_cons];lia))) ?_);show wP (h _ {(c.2 _ (Ne.symm I.ne)).trans I.obj,d,I.ne} c)
def X8{vs:C2}{a}(X:K.In s.heap)(c:PySem.W.makesIn K C=true)(hi:PySem.W.findIn K (.ref C) "__init__"\(some (.ref f)))(e:PySem.W.typeIn K (.ref f)\(.type "function"))(h:codeAny (model prog w) (A.under (.builtin "type.__call__" {.ref C::vs,a})) (.call (.ref f) {.ref ('H'+1)::vs,a}) (PySem.W.InitBack ('H'+1) R)
   {s with heap:=(s.heap.push PySem.W.emptyDict).push (PySem.W.instObj C 'H')}):codeAny (model prog w) A (.call (.ref C) #[vs,a]) R s:=by show PySem.W.make_core (PySem.W.makes_of X c) (PySem.W.looks_findIn X hi) (λself=>PySem.W.bind_fn X self e) (.inl rfl) h
end
def BB(f:Str)(v:V):List (Str×V)->List (Str×V)|[]=>[(f,v)]|(g,x)::r=>if g=f then(g,v)::r else(g,x)::BB f v r
theorem Qr(f g)(v):∀fs,(BB f v fs).lookup g=if g=f then some v else fs.lookup g|[]=>by change List.lookup g [(f,v)]=_;grind|(k,x)::r=>by let c:=Qr f g v r;rw[show BB f v _=(if k=f then(k,v)::r else(k,x)::BB f v r)from rfl];grind
theorem MX(f)(v):∀fs,f∈(BB f v fs).map (·.1)/\∀g,g∈fs.map (·.1)->g∈(BB f v fs).map (·.1)
 |[]=>{by simp[BB],λg h=>by simp at h}|(k,x)::r=>by
  let[d,c]:=MX f v r;rw[show BB f v _=(if k=f then(k,v)::r else(k,x)::BB f v r)from rfl];by_cases a:k=f
  .subst a;show{'2',λg h=>by simpa using h}
  .rw[aB a];show{?_,λg h=>?_}
   .show bT _ d
   .let e||e:=aF.mp h
    .show aF.mpr (.inl e)
    .show bT _ (c g e)
theorem MY(f)(v):∀fs,(BB f v fs).length<=fs.length+1
 |[]=>by simp[BB]|(k,x)::r=>by
  let c:=MY f v r;rw[show BB f v _=(if k=f then(k,v)::r else(k,x)::BB f v r)from rfl];by_cases a:k=f
  .simp_all
  simp_all
def Ce.some_of{o}(r:Ce (some v) o):∃u,o\u/\AV v u:=by cases o with|none=>show(r).elim|some u=>show#[u,0,r]
def Ce.none_of{o}(r:Ce none o):o=none:=by cases o with|none=>rfl|some u=>show(r).elim
def Qs(r:AV v u):PySem.W.handedIn u=true:=by cases v with|non=>cases(r);rfl|bl b=>cases(r);rfl|int i=>let[t,e]:=(r);cases e;rfl|str x=>let[t,e]:=(r);cases e;rfl|byt b=>let[t,e]:=(r);cases e;rfl|flt b=>let[t,e]:=(r);cases e;rfl|ref a=>cases(r);rfl|ty n=>cases(r);rfl
section
variable{P:Program}{C:Addr}{fs fs':List (Str×V)}
def MZ(hok:A3 P w H h)(e:H a\(.ins C dx fs)):∃mA,ObjM h a dx C mA/\(∀f,Ce (fs.lookup f) (mA f))/\PySem.Within mA (fs.map (·.1))/\fs.length<=1000/\H dx\(.own a):=by let[d,z,ne,c,mA,n,r,q]:=(hok a _ e);show{mA,#[c,n,ne],r,q,z,d}
end
structure Cls(K:Fg)(C:Addr):Prop where
 pg:PySem.W.plainGet K C Str.empty=true
 hd:PySem.W.hasDictIn K C=true
 po:PySem.W.plainOver K C=true
 sa:PySem.W.findIn K (.ref C) "__setattr__"\(some (.builtin "object.__setattr__"))
def Cls.get{K}{C}(c:Cls K C)(f):PySem.W.plainGet K C f=true:=c.pg
def DV(K:Fg)(C:Addr)(f:Str):Prop:=(PySem.W.findIn K (.ref C) f\none)
def DV.taker{K}(n:DV K C f):PySem.W.takerIn K C f\none:=by unfold PySem.W.takerIn;rw[n];rfl
structure Meth(K:Fg)(C:Addr)(m:Str)(f:Addr):Prop where
 at_:PySem.W.findIn K (.ref C) m\(some (.ref f))fn:PySem.W.isFn K (.ref f)=true
 kp:PySem.W.keepIn K (.ref f)=true
section
variable{C:Addr}{fs:List (Str×V)}{f:Str}
def X9(I:Inv X qA Y H s)(e:H a\(.ins C dx fs))(c:Cls X.K C)(n:DV X.K C f)(l:fs.lookup f\v)(h:∀u s',Inv X qA Y H s'->AV v u->Q u s'):wpAny (model X.prog X.w) A (getAttr (.ref a) f b) Q E s:=by let[mA,O,r,_,_,_]:=MZ I.hok e;let[u,g,d]:=Ce.some_of (by rw[<-l];show r f);show X5 I.kIn O (c.get f) c.hd n g (Qs d) (h u _ (I.tok _) d)
def Jw{g}{Q:Value×C2->Shared->Prop}(I:Inv X qA Y H s)(e:H a\(.ins C dx fs))(c:Cls X.K C)(k:Meth X.K C m g)(l:fs.lookup m=none)(h:Q (.ref g,[.ref a]) s):wpAny (model X.prog X.w) A (getMethod (.ref a) m pl) Q E s:=by let[mA,O,r,_,_,_]:=MZ I.hok e;let d:=Ce.none_of (by rw[<-l];show r m);show X6 I.kIn O (c.get m) k.at_ k.fn d h
def YA{Q}(I:Inv X qA Y H s)(e:H a\(.ins C dx fs))(c:Cls X.K C)(n:DV X.K C f)(D:fs.length<1000)(l:AV y u)(h:∀s',Inv X qA Y (AA H a (.ins C dx (BB f y fs))) s'->Q () s'):wpAny (model X.prog X.w) A (setAttr (.ref a) f u) Q E s:=by
 let[mA,O,r,wi,_,i]:=MZ I.hok e;let m:(fs.map (·.1)).length<=sizeLine:=by rw[aA,sizeLine_eq];lia
 show set_map I.kIn O c.sa c.po n.taker c.hd wi m λh' d j=>h _ ?_;let v:∃o,h'.get? dx\o:=(by let[o,_,_,B,_]:=d.ns;show#[o,B]);show I.write (by rw[e];show True.intro) (.inr i) (λb q hb z=>(j.2 b hb).trans z) v ?_;show{by rw[AE O.ne];show i,?_,O.ne,d.obj,_,d.ns,λg=>?_,λg p=>?_}
 .let:=MY f y fs;lia
 .rw[Qr];by_cases q:g=f
  .rw[aC q,aC q];show l
  .rw[aB q,aB q];show r g
 .by_cases q:g=f
  .rw[q];show(MX f y fs).1
  .show(MX f y fs).2 g (wi g λz=>p ?_);change(if g=f then some u else mA g)=none;rw[aB q];show z
def Inv.made(I:Inv X qA Y H s):Inv X qA Y (AA (AA H 'H' (.own ('H'+1))) ('H'+1) (.ins C 'H' []))
  {s with heap:=(s.heap.push PySem.W.emptyDict).push (PySem.W.instObj C 'H')}:=by
 let c:(s.heap.push PySem.W.emptyDict).get? 'H'\PySem.W.emptyDict:=bP s.heap rfl;let h:((s.heap.push PySem.W.emptyDict).push (PySem.W.instObj C 'H')).get? ('H'+1)\(PySem.W.instObj C 'H'):=by
  let:=bP (s.heap.push PySem.W.emptyDict) (o:=PySem.W.instObj C 'H') rfl
  simp_all
 let g:(s.heap.push PySem.W.emptyDict).Ns 'H' _:={PySem.W.emptyDict,#[],_,c,0,(λe f=>bS f '2'),λ_=>rfl};let i:=I.laid (o:=.own ('H'+1)) (t':=s.toks) (λb u q=>aS _ q) (aQ _) #[_,c];show i.laid (λb u q=>aS _ q) (Nat.le_of_eq (Heap.size_push _ _)) ?_;let ne:'H'≠'H'+1:=bX (Nat.lt_succ_self _);show{by rw[AE ne,AJ],cD _,ne,h,λ_=>none,(Heap.Ns1.of_empty g).at λo q=>aS _ q,λ_=>True.intro,λy d=>bS rfl d}
def Qt(hb:attributeBase e f env (eval e env)=eval e env)(h:'C' (eval e env) (λo s₁=>'C' (getAttr o f true) Q E s₁) E s):'C' (eval (.Attribute e f pos) env) Q E s:=Attribute_any_ h (by rw[arm_eval_Attribute,hb])
end
inductive rFld(K:Fg)(f:Str)(x:V)(H1:Hp)(Q:VK):Prop|mk(a C dx:Addr)(fs:List (Str×V))(v:V)(ex:x=.ref a)(ea:H1 a\(.ins C dx fs))(c:Cls K C)(n:DV K C f)(l:fs.lookup f\v)(q:Q v H1)
def YB(K:Fg)(ta:TE)(f:Str):TE:=(λY H Q=>ta Y H λx H1=>rFld K f x H1 Q)
inductive rFldS(K:Fg)(f:Str)(x y:V)(H2:Hp)(N:Hp->Prop):Prop|mk(a C dx:Addr)(fs:List (Str×V))(ex:x=.ref a)(ea:H2 a\(.ins C dx fs))(c:Cls K C)(n:DV K C f)(l:fs.length<1000)(q:N (AA H2 a (.ins C dx (BB f y fs))))
def YC(K:Fg)(ta tv:TE)(f:Str):TS:=(λD Y H=>tv Y H λy H1=>ta Y H1 λx H2=>rFldS K f x y H2 (D.nx Y))
section
variable{o e value:Expr}{f:Str}{tv:TE}
def DF(i:PE X e ta)(hb:attributeBase e f X.env (eval e X.env)=eval e X.env):PE X (.Attribute e f pos) (YB X.K ta f):=by intro qA s Y H Q I h;show Qt hb (AR (i qA s Y H _ I h) λu r zz=>?_);let[x,H1,o,d,a,C,dx,fs,v,ex,j,c,n,l,q]:=zz;subst ex;obtain rfl:u=Value.ref a:=d;show X9 o j c n l λu' p m g=>#[v,H1,m,g,q]
def GI(r:PE X o ta)(m:PE X value tv)(p:swapsWith value (some (.Attribute o f pos')) pos.line X.env=pure false):PS X (.Assign [.Attribute o f pos'] value pos) (YC X.K ta tv f):=by intro qA s Y H D I h;show plainObj_wpAny_Assign_Attribute (AR (m qA s Y H _ I h) λu d zz=>?_) p;let[y,H1,B,e,q]:=zz;show AR (r qA d Y H1 _ B q) λj G zz=>?_;let[x,H2,A,g,a,C,dx,fs,ex,v,c,n,l,i]:=zz;subst ex;obtain rfl:j=Value.ref a:=g;show YA A v c n l e λE w=>#[Y,_,w,i]
end
section
variable{c:Value}{b:Bool}
end
structure Room(k:Nat)(A:Around):Prop where
 hd:A.handled=none
 dp:A.depth+3*k+5<recursionLimit
 un:A.units+16*k+200<cLine
def Room.mono(r:Room k A)(h:j<=k):Room j A:={r.hd,by let:=r.dp;lia,by let:=r.un;lia}
def Room.mq(h:Room k A)(e:j<=k:=by decide):Room j A:=h.mono e
def Room.deeper(r:Room (k+1) A)(env):Room k (A.deeper env):={r.hd,by let:=r.dp;change A.depth+1+3*k+5<_;lia,by let:=r.un;change A.units+3+16*k+200<_;lia}
def YD{a}:(A.under (.builtin "type.__call__" {.ref C::us,a})).depth=A.depth+1:=rfl
def YE{a}:(A.under (.builtin "type.__call__" {.ref C::us,a})).units=A.units+1:=rfl
def Room.make(r:Room (k+1) A)(C)(us:C2)(a):Room k (A.under (.builtin "type.__call__" {.ref C::us,a})):={r.hd,by let:=r.dp;rw[YD];lia,by let:=r.un;rw[YE];lia}
def Room.depth(r:Room k A):A.depth<recursionLimit:=by let:=r.dp;lia
def Room.units(r:Room k A):A.units+64<cLine:=by let:=r.un;lia
def Room.units0(r:Room k A):A.units<cLine:=by let:=r.un;lia
def B5:TA:=(λ_ H Q=>Q [] H)
def BI(ta:TE)(tr:TA):TA:=(λY H Q=>ta Y H λx H1=>tr Y H1 λxs H2=>Q (x::xs) H2)
section
variable{e:Expr}{t:TA}
def AS:PA X [] B5:=λ_ _ _ _ H Q I h=>Calls.spliced_nil {[],H,I,.nil,h}
def AG(l:PE X e te)(j:PA X es t)(i:starEach (e::es) X.env=(false,eval e X.env)::starEach es X.env:=by rfl):PA X (e::es) (BI te t):=by intro pos qA s Y H Q I h;rw[i];show Calls.spliced_cons (AR (l qA s Y H _ I h) λu a zz=>?_);let[x,H1,n,d,g]:=zz;show AR (j pos qA a Y H1 _ n g) λus o zz=>(by let[xs,H2,m,c,f]:=zz;show{x::xs,H2,m,.cons d c,f})
def IS(t:TA):TE:=(λY H Q=>t Y H λxs H1=>xs.length<=sizeLine/\∀p,H1 p=none->Q (.ref p) (AA H1 p (.tup xs)))
def Ma(t:TA):TE:=(λY H Q=>t Y H λxs H1=>xs.length<=sizeLine/\∀p,H1 p=none->Q (.ref p) (AA H1 p (.lst xs)))
def B0(h:PA X es t):PE X (.Tuple es x1 pos) (IS t):=by intro qA s Y H Q I d;show wpAny_Tuple_spliced (AR (h pos qA s Y H _ I d) λus a zz=>?_);let[xs,H1,c,r,z,q]:=zz;show{by rw[<-r.length];show z,?_};let f:=c.hok.fresh (aQ _);show{.ref a.heap.objs.size,AA H1 a.heap.objs.size _,c.laid (λb u e=>aS _ e) (aQ _) ?_,0,q _ f};show{z,us,r,Dm.new _ _}
def DG(h:PA X es t):PE X (.List es pos) (Ma t):=by intro qA s Y H Q I d;show wpAny_List_spliced (AR (h pos qA s Y H _ I d) λus a zz=>?_);let[xs,H1,c,r,z,q]:=zz;show{by rw[<-r.length];show z,?_};let f:=c.hok.fresh (aQ _);show{.ref a.heap.objs.size,AA H1 a.heap.objs.size _,c.laid (λb u e=>aS _ e) (aQ _) ?_,0,q _ f};show{z,us,(0),r,bP _ rfl}
end
abbrev Sp:=dH->Hp->VK->XK->Prop
abbrev C6:=List Env->Hp->Shared->XK->Value->Shared->Prop
structure Env0(P:Program)(w:World)(K:Fg)(mg:Str->Do)(base:Heap)(A:Around)(outer:List Env)(s:Shared)(H:Hp):Prop where
 frames:A.frames\outer
 mod:Mod K mg base
 bs:∀b o,base.get? b\o->'F' b\o/\H b=none
 bsz:base.objs.size<='H'
 funs:s.heap.FunFrames base outer
 frf:∀b∈frs outer,H b=none
 hok:A3 P w H s.heap
 bare:AllBare s.gens
def CE(outer:List Env)(P:Program)(w:World)(H:Hp)(s:Shared)(Q:VK)(u:Value)(s':Shared):Prop:=(∃v H',s'.os=s.os/\AllBare s'.gens/\Un (frs outer) [] H H' s.heap s'.heap/\A3 P w H' s'.heap/\AV v u/\Q v H')
def CR(CX:C6)(outer:List Env)(P:Program)(w:World)(H:Hp)(s:Shared)(Q:VK)(E:XK)(r:Result)(s':Shared):Prop:=(match r with|.ok (.ret u)=>CE outer P w H s Q u s'|.ok _=>False|.error e=>CX outer H s E e s')
structure FnOk(P:Program)(w:World)(K:Fg)(mg:Str->Do)(base:Heap)(CX:C6)(k:Nat)(f:Addr)(fd:FuncData)(ps:At)(sp:Sp):Prop where
 len:∀vs H Q E,sp vs H Q E->vs.length=ps.length
 run:∀(A:Around)(outer:List Env)(s:Shared)(H:Hp)(args:Args)(us:C2)(vs:dH)(Q:VK)(E:XK),Room k A->Env0 P w K mg base A outer s H->BindsTo s fd args (ps.zip us)->AZ vs us->sp vs H Q E->codeAny (model P w) A (.call (.ref f) args) (CR CX outer P w H s Q E) s
def FnOk.mono{K}(F:FnOk P w K mg base CX j f fd ps sp)(h:j<=k):FnOk P w K mg base CX k f fd ps sp:={F.len,λA outer s H args us vs Q E a=>F.run A outer s H args us vs Q E (a.mono h)}
def FnOk.imp{K}(F:FnOk P w K mg base CX k f fd ps sp)(h:∀vs H Q E,sp' vs H Q E->sp vs H Q E):FnOk P w K mg base CX k f fd ps sp':={λvs H Q E q=>F.len vs H Q E (h _ _ _ _ q),λA outer s H args us vs Q E a c hb hv hs=>F.run A outer s H args us vs Q E a c hb hv (h _ _ _ _ hs)}
def Env0.make{K}(e:Env0 P w K mg base A outer s H)(C)(us:C2)(a):Env0 P w K mg base (A.under (.builtin "type.__call__" {.ref C::us,a})) outer s H:={by first|show e.frames|lia,e.mod,e.bs,e.bsz,e.funs,e.frf,e.hok,e.bare}
def Inv.env0(I:Inv X qA Y H s):Env0 X.prog X.w X.K X.mg X.base X.A X.stack s H:={I.ok.frames,I.ok.mod,I.bs,aR I.ok.bsz I.sz,I.stack,I.stkFree,I.hok,I.bare}
def Inv.after{Q}(I:Inv X qA Y H s)(h:CE X.stack X.prog X.w H s Q u s'):EP X qA Y Q u s':=by let[v,H',os,bare,un,hok,r,q]:=h;let[hh,g,d,t,a]:=s';obtain rfl:a=s.os:=os;show{v,H',I.call un hok bare (λb z=>bS z '2'),r,q}
def E6(sp:Sp)(dvs:dH)(E:XK)(t:TA):TE:=(λY H Q=>t Y H λvs H1=>sp (vs++dvs) H1 Q E)
inductive rMeth(C:Addr)(m:Str)(x:V)(H1:Hp)(N:Prop):Prop|mk(a dx:Addr)(fs:List (Str×V))(ex:x=.ref a)(ea:H1 a\(.ins C dx fs))(l:fs.lookup m=none)(q:N)
def GJ(C:Addr)(m:Str)(sp:Sp)(dvs:dH)(E:XK)(ta:TE)(t:TA):TE:=(λY H Q=>ta Y H λx H1=>rMeth C m x H1 (t Y H1 λvs H2=>sp (x::(vs++dvs)) H2 Q E))
def Qu(C:Addr)(sp:Sp)(dvs:dH)(E:XK)(t:TA):TE:=(λY H Q=>t Y H λvs H1=>∀x dx,H1 x=none->H1 dx=none->dx≠x->sp (.ref x::(vs++dvs)) (AA (AA H1 dx (.own x)) x (.ins C dx [])) (λv H2=>v=.non/\Q (.ref x) H2) E)
def C7(K:Fg)(fd:FuncData)(ps:At)(ds:C2):Prop:=(∀(s:Shared)(us:C2),K.In s.heap->(us++ds).length=ps.length->BindsTo s fd {us,[]} (ps.zip (us++ds)))
def C7.all{K}(h:∀us:C2,us.length=ps.length->bindArgs fd {us,[]}=pure (ps.zip us)):C7 K fd ps []:=λs us _ a=>by rw[cP]at a⊢;show .of_eq (h us a)
def DH(CX:C6)(X:Cx)(E:XK):Prop:=(∀(qA:List (Addr×Obj))(Y:St)(H:Hp)(s:Shared)(e:Value)(s':Shared),Inv X qA Y H s->CX X.stack H s E e s'->X.xe e s')
section
variable{CX:C6}{k:Nat}{f C:Addr}{sp:Sp}{dvs:dH}{ds:C2}{E:XK}{p:Pos}{e o:Expr}{t:TA}
def Jx{Q}(F:FnOk X.prog X.w X.K X.mg X.base CX k f fd ps sp)(g:Room k X.A)(hb:C7 X.K fd ps ds)(j:AZ dvs ds)(d:DH CX X E)(I:Inv X qA Y H s)(r:AZ vs us)(h:sp (vs++dvs) H Q E):'B' (call (.ref f) us) (EP X qA Y Q) X.xe s:=by
 let c:=r.append j;let i:(us++ds).length=ps.length:=by rw[<-c.length];show F.len _ _ _ _ h
 show wpAny_call (codeAny_mono (F.run X.A X.stack s H {us,[]} _ _ Q E g I.env0 (hb s us I.kIn i) c h) λr s' a=>?_);cases r with|error e=>show d qA Y H s e s' I a|ok l=>cases l with|ret u=>show I.after a|next=>assumption|brk=>assumption|cont=>assumption
def Qv(F:FnOk X.prog X.w X.K X.mg X.base CX k f fd ps sp)(i:Room k X.A)(m:Gl X x)(j:X.mg x\(.ref f))(l:PySem.W.keepIn X.K (.ref f)=true)(hb:C7 X.K fd ps ds)(o:AZ dvs ds)(g:DH CX X E)(u:PA X (e::es) t)(c:No x:=by decide)(n:starEach (e::es) X.env=(false,eval e X.env)::starEach es X.env:=by rfl)(a:(backTo pos (starEach es X.env)).any (·.1)=false:=by rfl):PE X (.Call (.Name x p) (e::es) [] pos) (E6 sp dvs E t):=by intro qA s Y H Q I h;show wpAny_Call_Name_kw (FY I m j ?_ c);show PySem.W.callWith_K I.ok.mod.kin l (AR (u pos qA s Y H _ I h) λus v zz=>?_) n a;let[vs,H1,d,r,q]:=zz;show#[d.kIn,?_];show Jx F i hb o g d r q
def YF{pl}(L:PE X o ta)(c:Cls X.K C)(j:Meth X.K C m f)(F:FnOk X.prog X.w X.K X.mg X.base CX k f fd ps sp)(J:Room k X.A)(hb:C7 X.K fd ps ds)(M:AZ dvs ds)(D:DH CX X E)(N:PA X (e::es) t)(d:starEach (e::es) X.env=(false,eval e X.env)::starEach es X.env:=by rfl)(g:(backTo pos (starEach es X.env)).any (·.1)=false:=by rfl)(G:eval (.Call (.Attribute o m qK) (e::es) [] pos) X.env=(do
   let i<-eval o X.env
   standAt qK.atName let(f,first)<-holding [i] (getMethod i m pl)callWith pos f first (backTo pos (starEach (e::es) X.env)) (backToKw pos (keywordEach [] X.env))):=by rfl):PE X (.Call (.Attribute o m qK) (e::es) [] pos) (GJ C m sp dvs E ta t):=by intro qA s Y H Q I h;show PySem.W.methodCall_KW (AR (L qA s Y H _ I h) λu v zz=>?_) G;done<;>(let[x,H1,p,y,a,dx,fs,ex,O,l,q]:=zz;subst ex;obtain rfl:u=Value.ref a:=y);show Jw p O c j l ?_;show PySem.W.callWith_K I.ok.mod.kin j.kp (AR (N pos qA v Y H1 _ p q) λus T zz=>?_) d g;done<;>let[vs,H2,n,r,B]:=zz;show#[n.kIn,?_];show Jx (vs:=.ref a::vs) F J hb M D n (.cons rfl r) B
def YG(r:PE X o ta)(c:Cls X.K C)(g:Meth X.K C m f)(F:FnOk X.prog X.w X.K X.mg X.base CX k f fd ps sp)(p:Room k X.A)(hb:C7 X.K fd ps ds)(v:AZ dvs ds)(j:DH CX X E)(n:eval (.Call (.Attribute o m qK) [] [] pos) X.env=(do
   let e<-eval o X.env
   standAt qK.atName let(f,first)<-holding [e] (getMethod e m pl)callWith pos f first (backTo pos (starEach [] X.env)) (backToKw pos (keywordEach [] X.env))):=by rfl):PE X (.Call (.Attribute o m qK) [] [] pos) (GJ C m sp dvs E ta B5):=by intro qA s Y H Q I h;show PySem.W.methodCall_KW (AR (r qA s Y H _ I h) λu B zz=>?_) n;let[x,H1,d,i,a,dx,fs,ex,y,l,q]:=zz;subst ex;obtain rfl:u=Value.ref a:=i;show Jw d y c g l ?_;show PySem.W.callWith_K0 d.kIn g.kp (Jx (vs:=[.ref a]) F p hb v j d (.cons rfl .nil) q)
structure Mk(K:Fg)(C f:Addr):Prop where
 makes:PySem.W.makesIn K C=true
 init:PySem.W.findIn K (.ref C) "__init__"\(some (.ref f))fn:PySem.W.isFn K (.ref f)=true
 kp:PySem.W.keepIn K (.ref C)=true
def YH{Q}(M:Mk X.K C f)(F:FnOk X.prog X.w X.K X.mg X.base CX k f fd ps sp)(l:Room (k+1) X.A)(hb:C7 X.K fd ps ds)(n:AZ dvs ds)(j:DH CX X E)(I:Inv X qA Y H s)(r:AZ vs us)(h:∀x dx,H x=none->H dx=none->dx≠x->sp (.ref x::(vs++dvs)) (AA (AA H dx (.own x)) x (.ins C dx [])) (λv H2=>v=.non/\Q (.ref x) H2) E):'B' (call (.ref C) us) (EP X qA Y Q) X.xe s:=by
 let g:=h _ 'H' (I.hok.fresh (cS _)) (I.hok.fresh (aQ _)) (bX (Nat.lt_succ_self _));let c:=Inv.made (C:=C) I;let d:AZ (V.ref ('H'+1)::(vs++dvs)) _:=.cons rfl (r.append n);let m:(Value.ref ('H'+1)::us++ds).length=ps.length:=by let e:=d.length;rw[F.len _ _ _ _ g]at e;show e.symm
 show wpAny_call (X8 I.kIn M.makes M.init (beq_iff_eq.mp M.fn) (codeAny_mono (F.run _ X.stack _ _ {Value.ref _::us,[]} _ _ _ E (l.make C us [])
  (c.env0.make C us []) (hb _ _ c.kIn m) d g) λr s' a=>?_))
 cases r with|error e=>show j qA Y _ _ e s' c a|ok o=>cases o with|ret u=>let[v,H',p,rv,ev,i]:=c.after a;subst ev;show#[rv,{V.ref _,H',p,0,i}]|next=>assumption|brk=>assumption|cont=>show False.elim a
def YI(M:Mk X.K C f)(F:FnOk X.prog X.w X.K X.mg X.base CX k f fd ps sp)(i:Room (k+1) X.A)(l:Gl X x)(j:X.mg x\(.ref C))(hb:C7 X.K fd ps ds)(n:AZ dvs ds)(g:DH CX X E)(o:PA X (e::es) t)(c:No x:=by decide)(m:starEach (e::es) X.env=(false,eval e X.env)::starEach es X.env:=by rfl)(a:(backTo pos (starEach es X.env)).any (·.1)=false:=by rfl):PE X (.Call (.Name x p) (e::es) [] pos) (Qu C sp dvs E t):=by intro qA s Y H Q I h;show wpAny_Call_Name_kw (FY I l j ?_ c);show PySem.W.callWith_K I.ok.mod.kin M.kp (AR (o pos qA s Y H _ I h) λus u zz=>?_) m a;let[vs,H1,d,r,q]:=zz;show#[d.kIn,?_];show YH M F i hb n g d r q
end
def PK(X:Cx)(kws:List Keyword)(t:TA):Prop:=(∀(pos:Pos)(qA:List (Addr×Obj))(s:Shared)(Y:St)(H:Hp)(Q:dH->Hp->Prop),Inv X qA Y H s->t Y H Q->'B' (evalAll ((backToKw pos (keywordEach kws X.env)).map (·.2))) (AP X qA Y Q) X.xe s)
section
variable{CX:C6}{k:Nat}{f C:Addr}{sp:Sp}{E:XK}{p kpos:Pos}{e o:Expr}{kws:List Keyword}{t tk:TA}{nm:Option Str}
def YJ:PK X [] B5:=λ_ _ _ _ H Q I h=>wpAny_evalAll_nil {[],H,I,.nil,h}
def YK(j:PE X e te)(i:PK X kws t):PK X (#[nm,e,kpos]::kws) (BI te t):=by intro pos qA s Y H Q I h;show wpAny_evalAll_cons (wB (AR (j qA s Y H _ I h) λu a zz=>?_));let[x,H1,m,d,g]:=zz;show wB (wpAny_standAt (wP ?_));show AR (i pos qA a Y H1 _ m g) λus n zz=>(by let[xs,H2,l,c,f]:=zz;show{x::xs,H2,l,.cons d c,f})
variable{g:C2->C2->C2}{gV:dH->dH->dH}
end
structure FnScope(N P:At)(sc:Scope):Prop where
 kind:sc.kind=.function
 co:sc.isCoroutine=false
 gen:sc.isGenerator=false
 nd:N.Nodup
 pre:N.take P.length=P
 par:∀x∈P,sc.names.lookup x\.local\/sc.names.lookup x\.cell
 nofree:∀y∈sc.names,y.2≠.free
theorem Qw{kindOf}:∀{binds}{m:Str->Do},(∀v,(x,v)∉binds)->bindL kindOf binds m x=m x
 |[],_,_=>rfl|(n,v)::r,m,h=>by
  unfold bindL;rw[Qw λw a=>h w (bT _ a)];split
  .let:x≠n:=by rintro rfl;show h v cA
   simp[this]
  .rfl
theorem Qx{kindOf}:∀{binds}{m:Str->Do},(∀v,(x,v)∉binds)->bindC kindOf binds m x=m x
 |[],_,_=>rfl|(n,v)::r,m,h=>by
  unfold bindC;rw[Qx λw a=>h w (bT _ a)];split
  .rfl
  .let:x≠n:=by rintro rfl;show h v cA
   simp[this]
theorem Qy{kindOf}{v}:∀{P:At}{vs:C2}{i:Nat}{m:Str->Do},P.Nodup->P[i]?\x->vs[i]?\v->kindOf x\.local->bindL kindOf (P.zip vs) m x\v|[],_,_,_,_,h,_,_=>by simp at h|_::_,[],_,_,_,_,h,_=>by simp at h|p::P,w::vs,0,m,a,h1,h2,c=>by simp at h1 h2;subst h1;subst h2;change bindL kindOf ((p,w)::P.zip vs) m p=_;unfold bindL;rw[Qw λv d=>(bC.mp a).1 (of_mem_zip d).1,aC c];simp|p::P,w::vs,i+1,m,a,h1,h2,c=>by unfold bindL;show Qy (bC.mp a).2 (~~~h1) (~~~h2) c
theorem Qz{kindOf}{v}:∀{P:At}{vs:C2}{i:Nat}{m:Str->Do},P.Nodup->P[i]?\x->vs[i]?\v->kindOf x≠some .local->bindC kindOf (P.zip vs) m x\v|[],_,_,_,_,h,_,_=>by simp at h|_::_,[],_,_,_,_,h,_=>by simp at h|p::P,w::vs,0,m,a,h1,h2,c=>by simp at h1 h2;subst h1;subst h2;change bindC kindOf ((p,w)::P.zip vs) m p=_;unfold bindC;rw[Qx λv d=>(bC.mp a).1 (of_mem_zip d).1,aB c];simp|p::P,w::vs,i+1,m,a,h1,h2,c=>by unfold bindC;show Qz (bC.mp a).2 (~~~h1) (~~~h2) c
def start(N:At)(vs:dH):St:=(vs.map some++replicate (N.length-vs.length) none)
def E7(CX:C6)(P:Program)(w:World)(K:Fg)(mg:Str->Do)(base:Heap)(N:At)(qual:Str)(scope:Scope)(f:Addr)(cd:Value)(A:Around)(outer:List Env)(s:Shared)(H:Hp)(E:XK):Cx where
 prog:=P
 w:=w
 K:=K
 mg:=mg
 base:=base
 A:=A.deeper (envOfC qual scope 'H' f cd)
 N:=N
 s₀:=s
 H₀:=H
 env:=envOfC qual scope 'H' f cd
 outer:=outer
 stack:=envOfC qual scope 'H' f cd::outer
 ex:=[]
 calm:=true
 fn:=λ_=>true
 pn:=[]
 xe:=λe s'=>wpAny (model P w) (A.deeper (envOfC qual scope 'H' f cd)) (leaving (envOfC qual scope 'H' f cd) e) (λ_ s''=>CX outer H s E e s'') (λe' s''=>CX outer H s E e' s'') s'
def Q0(h:sc.names.lookup x\.cell):∃c,(cellsFrom n sc.names []).lookup x\c:=by let q:=PySem.W.cellsFrom_some sc.names n [] (.inl h);show Option.isSome_iff_exists.mp q
def YL{K}{E}(S:FnScope N ps scope)(C:A.handled=none)(d:Env0 P w K mg base A outer s H)(G:vs.length=ps.length)(r:AZ vs us)(x:InCallC s 'H' (bindL (envOfC qual scope 'H' f cd).kindOf (ps.zip us) λ_=>none) (cellsFrom ('H'+1) scope.names []) (bindC (envOfC qual scope 'H' f cd).kindOf (ps.zip us) λ_=>none) s1):Inv (E7 CX P w K mg base N qual scope f cd A outer s H E) [] (start N vs) H s1:=by
 let B:ps.length<=N.length:=by let:=aT length S.pre;rw[aO]at this;lia
 let[h1,tk,0,o]:=x.done;let g:∀b,b∉(E7 CX P w K mg base N qual scope f cd A outer s H E).ex:=λb z=>bS (show b∈([])from z) '2';show#[{d.mod,S.kind,0,0,aQ _,λy z c h1 h2=>?_,λy hy=>?_,λy c _ h=>?_,λ_=>C,Around.frames_deeper d.frames,.inr #[0,0],λb z=>bS z (g b),d.bs,d.bsz,λb _ _=>g b,λb z=>bS z (g b),d.funs,d.frf},0,d.bare,Un.kept o,{_,x.toInCall.ns,λi y v h1 h2 I=>?_},λy c h=>{_,x.cell y c h},d.hok.fresh (aQ _),λy c h=>?_,λp l=>bS (show p∈([])from l) '2',d.hok.kept o,?_]
 .show name_of_addr x.apart (PySem.mem_of_lookup h1) (PySem.mem_of_lookup h2)
 .let hy:=hy;let hy||hy:=hy
  .show Q0 hy
  .show bS rfl (S.nofree _ (PySem.mem_of_lookup hy))
 .show aY (x.above y c (PySem.mem_of_lookup h))
 .let hi:i<vs.length:=by
   unfold start at h2;by_cases hi:i<vs.length
   .show hi
   .rw[getElem?_append_right (~~~hi)]at h2;rw[getElem?_replicate]at h2;split at h2<;>cases h2
  let D:vs[i]?\v:=by unfold start at h2;rw[getElem?_append_left (~~~hi),bO]at h2;cases e:vs[i]? with|none=>rw[e]at h2;cases h2|some a=>rw[e]at h2;cases h2;rfl
  let[u,m,rv]:=r.get D;let l:ps[i]?\y:=by rw[<-S.pre,getElem?_take_of_lt (by simp_all)];show h1
  let j:ps.Nodup:=by rw[<-S.pre];show S.nd.sublist (take_sublist _ _)
  show#[u,rv,?_];let k||k:=S.par y (aM l)
  .show .inl {k,Qy j l m k}
  .let[c,e]:=Q0 k;show .inr {.inl k,c,e,?_};let q:=x.cell y c e;rw[Qz j l m (by change scope.names.lookup y≠_;rw[k];decide)]at q;show q
 .show d.hok.fresh (aY (x.above y c (PySem.mem_of_lookup h)))
 .unfold start;change _=N.length;rw[aG,aA,length_replicate];simp_all
def Jy{K:Fg}{c}{body:Hq}{D kV doc a}{m:Array Do}(L:K.lookup f\{oc,od,.func (PySem.W.fnOf name qual c body scope D kV doc pm an a ct),m})(C:PySem.W.codeIn K a qual=true)(S:FnScope N ps scope)(len:∀vs H Q E,sp vs H Q E->vs.length=ps.length)(g:∀(A)(outer)(s)(H)(vs)(Q)(E),Room k (A.deeper (envOfC qual scope 'H' f a))->sp vs H Q E->∃t,BS (E7 CX P w K mg base N qual scope f a A outer s H E) body t/\t {nx:=λ_ H'=>Q .non H',rt:=Q} (start N vs) H):FnOk P w K mg base CX (k+1) f (PySem.W.fnOf name qual c body scope D kV doc pm an a ct) ps sp:=by
 show{len,λA outer s H args us vs Q E B l hb r i=>?_};let ρ:=len _ _ _ _ i;let G:=l.mod.kin.keeps λb o e=>(l.bs b o e).1;let p:=l.mod.nolimit.keeps λb o e=>(l.bs b o e).1;let d:∀y∈ps.zip us,scope.names.lookup y.1\.local\/(scope.names.lookup y.1\.cell/\((cellsFrom ('H'+1) scope.names []).lookup y.1).isSome=true):=λ⟨n,v⟩M=>by
  let q||q:=S.par n (of_mem_zip M).1
  .show .inl q
  .show .inr {q,PySem.W.cellsFrom_some _ _ _ (.inl q)}
 show codeAny_call_function B.depth (G _ _ L) rfl S.co S.gen rfl (PySem.W.codeRec_of G C) (hb _ _ _ _ ?_);show wpAny_newFunctionEnv_cells S.kind d λenv σ s1 x=>?_;subst σ;show{p.keeps x.toInCall.keep,codeAny_func ?_};let[t,O,T]:=g A outer s H vs Q E (B.deeper _) i;let I:Inv (E7 CX P w K mg base N qual scope f a A outer s H E) [] _ H s1:=YL S B.hd l ρ r x;show bL (O [] s1 _ H _ I T) (λfl s' h=>?_) λe s' h=>h;let j:∀{σ'}{H'}{v}{u},Inv (E7 CX P w K mg base N qual scope f a A outer s H E) [] σ' H' s'->AV v u->Q v H'->CE outer P w H s Q u s':=λ{σ' H' v u}J rv q=>#[v,H',J.os,J.bare,J.base,J.hok,rv,q]
 cases fl with|ret u=>let[v,σ',H',J,rv,q]:=h;show j J rv q|next=>let[σ',H',J,q]:=h;show j (v:=V.non) J rfl q|brk=>let[_,_,_,q]:=h;show False.elim q|cont=>let[_,_,_,q]:=h;show False.elim q
section
variable{p:Pos}{e:Expr}{t:TA}{id T:String}{r:dH->Hp->VK->Prop}
def IT(r:dH->Hp->VK->Prop)(t:TA):TE:=(λY H Q=>t Y H λvs H1=>r vs H1 Q)
def Fd(o:B3 X (.builtin id) r)(m:Gl X x)(l:X.mg x=none)(i:bootBuiltins x\(.builtin id))(q:PA X (e::es) t)(j:x≠"__name__":=by decide)(c:No x:=by decide)(n:starEach (e::es) X.env=(false,eval e X.env)::starEach es X.env:=by rfl)(a:(backTo pos (starEach es X.env)).any (·.1)=false:=by rfl):PE X (.Call (.Name x p) (e::es) [] pos) (IT r t):=by intro qA s Y H Q I h;show wpAny_Call_Name_kw (F9 I m l i ?_ j c);show PyProof.Rows.callWith_builtin1 (AR (q pos qA s Y H _ I h) λus d zz=>(by let[vs,H1,u,f,g]:=zz;show o qA d Y H1 vs us Q u f g)) n a
def E8(o:B3 X (.type T) r)(m:Gl X x)(l:X.mg x=none)(i:bootBuiltins x\(.type T))(q:PA X (e::es) t)(j:x≠"__name__":=by decide)(c:No x:=by decide)(n:starEach (e::es) X.env=(false,eval e X.env)::starEach es X.env:=by rfl)(a:(backTo pos (starEach es X.env)).any (·.1)=false:=by rfl):PE X (.Call (.Name x p) (e::es) [] pos) (IT r t):=by intro qA s Y H Q I h;show wpAny_Call_Name_kw (F9 I m l i ?_ j c);show PyProof.Rows.callWith_type1 (AR (q pos qA s Y H _ I h) λus d zz=>(by let[vs,H1,u,f,g]:=zz;show o qA d Y H1 vs us Q u f g)) n a
end
end L2
namespace HT
def lexLt:By->By->Bool|[],[]=>false|[],_::_=>true|_::_,[]=>false|x::xs,y::ys=>if x=y then lexLt xs ys else decide (x<y)
def dB(x y)(xs ys:By):lexLt (x::xs) (y::ys)=if x=y then lexLt xs ys else decide (x<y):=rfl
def YM:lexLt [] []=false:=rfl
def YN(y)(ys:By):lexLt [] (y::ys)=true:=rfl
def YO(x)(xs:By):lexLt (x::xs) []=false:=rfl
def YQ(A)(s)(a)(t)(c)(u):∃e,SeqAt.EqAt A s (.int a t) (.int c u) e/\(e=true↔a=c):={(a==c),SeqAt.EqAt.int_int a t c u,'2'}
theorem YR(A)(s)(a)(t)(c)(u)(prog)(w)(E:VS)(Q:VS)(h:Q (.bool (decide (a<c))) s):'C' (richCompare .Lt (.int a t) (.int c u)) Q E s:=(PyProof.Rows.lt_int h)
section
open PySem.SeqAt
open PySem.AutoSeq1(wpAny_loadPart')
open PySem.MeetsSeq PySem.MeetsSeq2 PySem.MeetsSeq3
def YS(l b)(items f:Ex)(n T)(dd N:Ge)(sl J:Array Do)(ns ms:By)(hi:IntsAre items.toList ns)(Q:IntsAre f.toList ms):Meets (Builtin.«tuple.__lt__» {[.ref l,.ref b],[]})
   (λ_ R s=>'F' l\{cls:=.type "tuple",dict:=dd,data:=.seq items n,slots:=sl}/\'F' b\{cls:=.type "tuple",dict:=N,data:=.seq f T,slots:=J}/\R (.ok (.ret (.bool (lexLt ns ms)))) s):=.of_wp λprog w A R s h=>by
  let[I,g,d,tk,os]:=s;let[hl,hb,h]:=h;let f2:=AutoSeq1.sub_tuple_tuple;let z1:items.size=ns.length:=by rw[<-hi.length];simp
  let z2:f.size=ms.length:=by rw[<-Q.length];simp
  wp_walk using wpAny_loadPart' hl,wpAny_loadPart' hb,wpAny_forIn_list _ (λqF b s'=>b.1=none/\s'=#[I,g,d,tk,os]/\∃(vs H:C2)(j m:By),qF=vs.zip H/\IntsAre vs j/\IntsAre H m/\j.length+f.size=m.length+items.size/\R (.ok (.ret (.bool (lexLt j m)))) #[I,g,d,tk,os]) _
  case turn=>rintro⟨y,x⟩qF b s'⟨D,rfl,vs,H,j,m,o,B,p,i,v⟩;cases B with|nil=>rw[zip_nil_left]at o;cases o|cons a t G=>cases p with|nil=>rw[zip_nil_right]at o;cases o|cons c u E=>
     rw[zip_cons_cons]at o;injection o with L C
     injection L with ρ σ
     subst ρ σ;rw[dB]at v;simp only[length_cons]at i;let[e,he,r]:=YQ A.in1 #[I,g,d,tk,os] a t c u;show wB (he prog w _ _ ?_);cases e with
     |true=>
      rw[aC (r.mp rfl)]at v
      wp_walk
      show{0,0,_,_,_,_,C,G,E,⋯,v}|false=>
      rw[aB (λq=>bS (r.mpr q) cH)]at v;let M:=YR A.in1 #[I,g,d,tk,os] a t c u prog w
      wp_walk using M
      show{_,0,by simpa using v}
  case fin=>
   rintro⟨b1,b2⟩s'⟨D,rfl,vs,H,j,m,o,B,p,i,v⟩;simp only at D;subst D;let O:lexLt j m=decide (items.size<f.size):=by cases B with
    |nil=>cases p with|nil=>simp only[length_nil]at i;rw[YM];show(cK (by simp_all)).symm|cons c u hw=>simp only[length_nil,length_cons]at i;rw[YN];show(aK (by simp_all)).symm
    |cons a t O=>cases p with|nil=>simp only[length_nil,length_cons]at i;rw[YO];show(cK ⋯).symm|cons c u hw=>rw[zip_cons_cons]at o;cases o
   rw[O]at v
   wp_walk
   show{_,0,by simpa[Builtin.Tuple.tupleCompareSizes]using v}
  case h=>show{0,0,items.toList,f.toList,ns,ms,0,hi,Q,⋯,h}
end
def dM{items a:Ex}{ns ms:By}(u:IsTup s.heap l items)(hb:IsTup s.heap b a)(hi:IntsAre items.toList ns)(v:IntsAre a.toList ms)(r:A.units<cLine)(h:Q (.bool (lexLt ns ms)) s):'C' (compareOp .Lt (.ref l) (.ref b)) Q E s:=by
 let[[y,dd,o,sl],i,m,n,j]:=id u;let[[p,g,data2,f],c,e,q,d]:=id hb;subst m j e d;show richCompare_meets_room (op:=.Lt) #[_,i,0] #[_,c,0] PySem.F.slot_tuple_lt PySem.F.entry_tuple_lt (PySem.F.args_tuple_lt_2 _ _) (YS l b items a n q dd g sl f ns ms hi v)
  #[i,c,{(λx=>nomatch x),h}] r
def dS{vs a:C2}(r:IsTup s.heap t vs.toArray)(hb:IsTup s.heap b a.toArray)(m:vs≠[])(h1:a=[]->Q (.ref t) s)(h2:a≠[]->Q (.ref 'H') {s with heap:=s.heap.push {cls:=.type "tuple",data:=.seq (vs++a).toArray}})(hsz:vs.length+a.length<=sizeLine):'C' (binaryOp .Add (.ref t) (.ref b)) Q E s:=by
 let[[cls,dd,data,sl],j,p,n,o]:=id r;let[[q,h,data2,d],c,g,l,f]:=id hb;subst p o g f;let e:vs.toArray++a.toArray=(vs++a).toArray:='2'
 by_cases i:a=[]
 .show concat_meets #[_,j,0] #[_,c,0] noFill_tuple_add seq_tuple_add PySem.F.slot_tuple_add PySem.F.entry_tuple_add (PySem.F.args_tuple_add_2 _ _)
   (tuple_addW1 t b vs.toArray a.toArray n l dd h sl d (~~~m) (by simp[i])) {j,c,h1 i}
 .show concat_meets #[_,j,0] #[_,c,0] noFill_tuple_add seq_tuple_add PySem.F.slot_tuple_add PySem.F.entry_tuple_add (PySem.F.args_tuple_add_2 _ _)
   (tuple_addW2 t b vs.toArray a.toArray n l dd h sl d (~~~m) (~~~i) (by show hsz)) #[j,c,?_]
  rw[e];show h2 i
def dA(n d:Nat):Option Int->Nat|none=>d|some v=>if v<0 then(v+(n:Int)).toNat else min v.toNat n
def YT(n d)(c:d<=n)(o):dA n d o<=n:=by cases o with|none=>show c|some v=>
  change(if v<0 then(v+n).toNat else min v.toNat n)<=n;by_cases a:v<0
  .lia
  .rw[aB a];show Nat.min_le_right _ _
def Q3(v)(n d:Nat):(if v<0 then max (v+(n:Int)) 0 else min v (n:Int))=((dA n d (some v):Nat):Int):=by change(if v<0 then max (v+n) 0 else min v n)=(((if v<0 then(v+(n:Int)).toNat else min v.toNat n):Nat));lia
def YU(lo hi)(n:Nat):Builtin.Slice.sliceAdjust lo hi 1 (n:Int)=(((dA n 0 lo:Nat):Int),((dA n n hi:Nat):Int)):=by
 let h1:¬(1<0):=(by simp_all);unfold Builtin.Slice.sliceAdjust;show Prod.ext ?_ ?_
 .cases lo with|none=>rfl|some v=>show Q3 v n 0
 .cases hi with|none=>rfl|some v=>show Q3 v n n
def YV(i j:Nat):Builtin.Slice.slicePlaces (i:Int) (j:Int) 1=j-i:=by unfold Builtin.Slice.slicePlaces;lia
def Q4{v}{o}{Q}(p:IsPart v o)(h:Q o s):'C' (Builtin.Slice.slicePartIndex v) Q E s:=by cases p with|none=>show slicePart_none h|int i t=>show slicePart_int h
def Q5{e d}{lo hi}{Q}(g:s.heap.IsSliceOf sl e d .none)(pl:IsPart e lo)(f:IsPart d hi)(h:Q (((dA n 0 lo:Nat):Int),1,dA n n hi-dA n 0 lo) s):'C' (Builtin.Slice.sliceApplied (.ref sl) (pure (n:Int))) Q E s:=by let[os,a,i,c]:=id g;show wB (wB (wpAny_field a c rfl (wB (wpAny_field a c rfl (wB (wpAny_field a c rfl (wP ?_)))))));show wB (slicePart_none ?_);change 'A' (if(1==0)=true then _ else _) _ _ s;show wB (Q4 pl (wB (Q4 f (wB (wP ?_)))));change 'A' (match Builtin.Slice.sliceAdjust lo hi 1 (n:Int)with|(lo,hi)=>pure (lo,(1:Int),Builtin.Slice.slicePlaces lo hi 1)) _ _ s;rw[YU lo hi n];change 'A' (pure (((dA n 0 lo):Int),1,Builtin.Slice.slicePlaces ((dA n 0 lo:Nat)) ((dA n n hi:Nat)) 1)) _ _ s;rw[YV];show wP h
def YW(xs:Ex)(i k:Nat):((List.range k).filterMap λ(m:Nat)=>xs[((i:Int)+(m:Int)*1).toNat]?).toArray=((xs.toList.drop i).take k).toArray:=by
 let e:(λ(m:Nat)=>xs[(i+(m:Int)*1).toNat]?)=λm=>xs[i+m]?:=by
  funext m
  let:(i+(m:Int)*1).toNat=i+m:=⋯;rw[this]
 rw[e];let:=pick_run xs i k;rw[filterMap_map]at this;let a:((λx=>xs[x]?)∘λx=>i+x)=λm=>xs[i+m]?:=rfl;rw[a]at this;rw[this]
def dL{items:Ex}{j i}{lo hi}(c:IsTup s.heap t items)(l:s.heap.IsSliceOf sl j i .none)(pl:IsPart j lo)(n:IsPart i hi)(hw:¬(dA items.size 0 lo=0/\dA items.size items.size hi=items.size))(h:Q (.ref 'H') {s with heap:=s.heap.push {cls:=.type "tuple",data:=.seq ((items.toList.drop (dA items.size 0 lo)).take (dA items.size items.size hi-dA items.size 0 lo)).toArray}})(hsz:items.size<=sizeLine):'C' (getItem (.ref t) (.ref sl)) Q E s:=by
 let a:sizeOk (.seq ((items.toList.drop (dA items.size 0 lo)).take (dA items.size items.size hi-dA items.size 0 lo)).toArray):=by change((items.toList.drop _).take _).toArray.size<=sizeLine;rw[size_toArray,aO,length_drop,bR];omega
 let[os,d,f,o]:=id l;let g:s.TypeIs (.ref sl) "slice":=#[os,d,f];unfold getItem
 try with_reducible show bM ?_
 show wB (wpAny_sequenceKey c.typeIs '3' ?_);show wB (wpAny_callSpecial?_slot c.typeIs PyProof.Rows.slot_tuple_getitem
  (cQ PyProof.Rows.slot_tuple_getitem c.typeIs entry_tuple_getitem ?_ (args_tuple_getitem _ _)))
 change 'A' (Builtin.Tuple.tupleItemsOf (.ref t)>>=_) _ _ s;show wB (tupleItemsOf_ c ?_);show wB (wpAny_typeOf g ?_);show wB (Q5 l pl n ?_);let e:¬((((dA items.size 0 lo):Int)==0&&(1:Int)==1&&(dA items.size items.size hi-dA items.size 0 lo)==items.size)=true):=by intro q;rw[cB,cB]at q;let r:=eq_of_beq q.1.1;let p:=eq_of_beq q.2;show hw {(by simp_all),(by simp_all)}
 change 'A' (if(((dA items.size 0 lo):Int)==0&&1==1&&(dA items.size items.size hi-dA items.size 0 lo)==items.size)=true then _ else _) _ _ s;rw[aB e,YW]
 first|show wB (cG (wP {_,0,wP h}) a)|show wB (cG (wB (wP (wP {_,0,wP h}))) a)|show wB (wB (cG (wP (wP {_,0,wP h})) a))|show wB (wB (cG (wP {_,0,wP h}) a))
end HT
namespace L2
abbrev TO:=St->Hp->(Option Int->Hp->Prop)->Prop
def PO(X:Cx)(e:Option Expr)(t:TO):Prop:=(∀(qA:List (Addr×Obj))(s:Shared)(Y:St)(H:Hp)(Q:Option Int->Hp->Prop),Inv X qA Y H s->t Y H Q->'B' (evalPart e X.env) (λu s'=>∃o H',Inv X qA Y H' s'/\IsPart u o/\Q o H') X.xe s)
def Q6:TO:=(λ_ H Q=>Q none H)
def Q7(t:TE):TO:=(λY H Q=>t Y H λx H1=>∃i,x=.int i/\Q (some i) H1)
def HF{ns:By}:∀{us},AZ (ns.map V.int) us->IntsAre us ns:=by induction ns with|nil=>intro us r;cases r;show .nil|cons n ns d=>intro us r;cases r with|cons c a=>let[t,e]:=c;subst e;show .cons n t (d a)
section
variable{e:Expr}{lo hi:Option Expr}{tl th:TO}{p2:Pos}
def Ek:PO X none Q6:=by intro qA s Y H Q I h;show wP #[none,H,I,.none,h]
def El(h:PE X e te):PO X (some e) (Q7 te):=by intro qA s Y H Q I d;show AR (h qA s Y H _ I d) λu g zz=>?_;let[x,H1,f,a,c]:=zz;let[i,0,q]:=c;let[t,0]:=a;show{some i,H1,f,.int i t,q}
def D0(X:Cx)(r:V->Option Int->Option Int->Hp->VK->Prop):Prop:=(∀(qA:List (Addr×Obj))(s:Shared)(Y:St)(H:Hp)(x:V)(v vl vu:Value)(lo hi:Option Int)(sl:Addr)(Q:VK),Inv X qA Y H s->AV x v->s.heap.IsSliceOf sl vl vu .none->IsPart vl lo->IsPart vu hi->r x lo hi H Q->∃T id,typeLookup (.type T) "__getitem__"=pure (some (.builtin id))/\s.TypeIs v T/\'B' (getItem v (.ref sl)) (EP X qA Y Q) X.xe s)
def D0.or{r r'}(h:D0 X r)(h':D0 X r'):D0 X (λx lo hi H Q=>r x lo hi H Q\/r' x lo hi H Q):=by
 intro qA s Y H x v vl a lo hi sl Q I rx hs pl pu q;let q||q:=q
 .show h qA s Y H x v vl a lo hi sl Q I rx hs pl pu q
 .show h' qA s Y H x v vl a lo hi sl Q I rx hs pl pu q
def Mb(r:V->Option Int->Option Int->Hp->VK->Prop)(te:TE)(tl th:TO):TE:=(λY H Q=>te Y H λx H1=>tl Y H1 λl H2=>th Y H2 λu H3=>r x l u H3 Q)
def Em{r}(C:D0 X r)(G:PE X e te)(D:PO X lo tl)(y:PO X hi th):PE X (.Subscript e (.Slice lo hi none p2) pos) (Mb r te tl th):=by intro qA s Y H Q I h;show Subscript_ (AR (G qA s Y H _ I h) λv i zz=>?_);let[x,H1,O,j,o]:=zz;show wpAny_Slice (AR (D qA i Y H1 _ O o) λd g zz=>?_);done<;>let[l,H2,N,pl,n]:=zz;show AR (y qA g Y H2 _ N n) λc a zz=>?_;done<;>let[u,f,M,p,m]:=zz;show wP ?_;let L:Inv X qA Y f {a with heap:=a.heap.push {cls:=.type "slice",data:=.fields [d,c,.none].toArray}}:=M.kept λb ρ q=>aS _ q;let[T,id,J,B,E]:=C qA {a with heap:=a.heap.push {cls:=.type "slice",data:=.fields [d,c,.none].toArray}} Y f x v d c l u a.heap.objs.size Q L j (Heap.IsSliceOf.new ..) pl p m;show tail_any B J E (rfl)
def D1(xs:dH)(lo hi:Option Int):dH:=((xs.drop (HT.dA xs.length 0 lo)).take (HT.dA xs.length xs.length hi-HT.dA xs.length 0 lo))
def Q8(xs)(lo hi):(D1 xs lo hi).length<=xs.length:=by unfold D1;rw[aO,length_drop];lia
def YX(K:Fg):V->Option Int->Option Int->Hp->VK->Prop:=(λx lo hi H Q=>∃a xs,x=.ref a/\Bq K H a xs/\¬(HT.dA xs.length 0 lo=0/\HT.dA xs.length xs.length hi=xs.length)/\∀p,H p=none->Q (.ref p) (AA H p (.tup (D1 xs lo hi))))
def YY:D0 X (YX X.K):=by
 rintro qA s Y H x v n m lo hi sl Q I f l pl g⟨a,xs,rfl,i,j,q⟩;cases f;let[qG,r,e,d]:=I.tuple i;let c:qG.toArray.size=xs.length:=by show r.length.symm
 show{"tuple",_,PyProof.Rows.slot_tuple_getitem.lookup,e.typeIs,?_};show HT.dL e l pl g (by rw[c];show j) ?_ (by rw[c];show d);rw[c];show{.ref 'H',_,I.laid (λb p q=>aS _ q) (aQ _) ?_,0,q _ (I.hok.fresh (aQ _))};show{aR (Q8 xs lo hi) d,_,(r.drop _).take _,Dm.new _ _}
def YZ(K:Fg):R2:=(λx y H Q=>∃a b ns ms,x=.ref a/\y=.ref b/\Bq K H a (ns.map V.int)/\Bq K H b (ms.map V.int)/\Q (.bl (HT.lexLt ns ms)) H)
def Ya(l:X.A.units<cLine):A1 X (compareOp .Lt) (YZ X.K):=by rintro qA s Y H x y v u Q I e d⟨a,b,ns,ms,rfl,rfl,m,hb,q⟩;cases e;cases d;let[qG,g,p1,_]:=I.tuple m;let[c,f,p2,_]:=I.tuple hb;let j:=HF g;let i:=HF f;show HT.dM p1 p2 j i l {.bl _,H,I,0,q}
inductive Yb(K:Fg)(x:V)(y:V)(H:Hp)(Q:VK):Prop|mk(a b xs ys:_)(_:x=.ref a)(_:y=.ref b)(_:Bq K H a xs)(_:Bq K H b ys)(_:xs≠[])(_:xs.length+ys.length<=sizeLine)(_:(ys=[]->Q (.ref a) H))(_:(ys≠[]->∀p,H p=none->Q (.ref p) (AA H p (.tup (xs++ys)))))
def AZ.nil_iff(r:AZ xs us):us=[]↔xs=[]:=by cases r with|nil=>simp|cons _ _=>simp
def Yc:A1 X (binaryOp .Add) (Yb X.K):=by rintro qA s Y H x y v u Q I i g⟨a,b,xs,ys,rfl,rfl,n,hb,m,f,l,j⟩;cases i;cases g;done<;>(let[qG,d,p1,_]:=I.tuple n;let[e,c,p2,_]:=I.tuple hb);show HT.dS p1 p2 (λz=>m (d.nil_iff.mp z)) (λz=>{.ref a,H,I,0,l (c.nil_iff.mp z)}) (λz=>?_) (by rw[<-d.length,<-c.length];show f);show{.ref 'H',_,I.laid (λb p q=>aS _ q) (aQ _) ?_,0,j (λw=>z (c.nil_iff.mpr w)) _ (I.hok.fresh (aQ _))};show{by simp_all,_,d.append c,Dm.new _ _}
end
def Cr(n:Nat)(i:Int):Option Nat:=(if 0<=i then(if i<n then some i.toNat else none)else if-(n:Int)<=i then some (i+n).toNat else none)
def atI{α:Type}(xs:List α)(i:Int):Option α:=((Cr xs.length i).bind λj=>xs[j]?)
def Q9{i}(h:Cr n i\j):seqIndex? i n\j/\j<n/\-(n:Int)<=i/\i<n:=by
 unfold Cr at h;by_cases a:0<=i
 .rw[aC a]at h;by_cases h1:i<n
  .rw[aC h1]at h;let e:=oI h;show{by rw[seqIndex_of a h1,e],⋯,⋯,h1}
  simp_all
 .rw[aB a]at h;by_cases h1:-n<=i
  .rw[aC h1]at h;let e:=oI h;show{by rw[seqIndex_neg (by simp_all) h1,e],⋯,h1,⋯}
  simp_all
def Jz{i}{v}(h:atI xs i\v):∃j,seqIndex? i xs.length\j/\xs[j]?\v/\j<xs.length/\-(xs.length:Int)<=i/\i<xs.length:=by unfold atI at h;cases e:Cr xs.length i with|none=>simp_all|some j=>rw[e]at h;let[h1,h2,c,a]:=Q9 e;show#[j,h1,h,h2,c,a]
def CG{v}(h:xs[j]?\v):atI xs (j:Int)\v:=by
 let a:=(aI.mp h).1;let e:Cr xs.length j\j:=by unfold Cr;simp_all
 unfold atI;rw[e];show h
def Yd(xs)(v:α):atI (xs++[v]) (-1)\v:=by
 let a:(xs++[v]).length=xs.length+1:='2'
 let e:Cr (xs++[v]).length (-1)\xs.length:=by
  unfold Cr;rw[aB '3',aC ⋯]
  congr 1
  lia
 unfold atI;rw[e];simp
def RA(b:Expr):Prop:=(∀o i,subscripted b false o i=operate [o,i] (getItem o i))
def Fe(X:Cx)(r:R2):Prop:=(∀(value slice:Expr)(qA:List (Addr×Obj))(s:Shared)(Y:St)(H:Hp)(x y:V)(v u:Value)(Q:VK),Inv X qA Y H s->AV x v->AV y u->r x y H Q->subscripted slice false v u=operate [v,u] (getItem v u)->'B' (subscriptTail value slice v u) (EP X qA Y Q) X.xe s)
def HG(X:Cx)(id:String)(r:V->dH->Hp->VK->Prop):Prop:=(∀(qA:List (Addr×Obj))(s:Shared)(Y:St)(H:Hp)(x:V)(xs:dH)(v:Value)(us:C2)(Q:VK),Inv X qA Y H s->AV x v->AZ xs us->r x xs H Q->'B' (call (.builtin id) (v::us)) (EP X qA Y Q) X.xe s)
section
variable{a b:Expr}
def Br{r}(g:Fe X r)(i:PE X a ta)(hb:PE X b tb)(f:RA b):PE X (.Subscript a b pos) (IP r ta tb):=by intro qA s Y H Q I h;show Subscript_ (MS i hb I h λv u c x y H2 j e d q=>g a b qA c Y H2 x y v u Q j e d q (f _ _))
def Ye(K:Fg):R2:=(λx y H Q=>∃p xs i v,x=.ref p/\y=.int i/\BA K H p xs/\atI xs i\v/\Q v H)
def Yf(K:Fg):R2:=(λx y H Q=>∃p xs i v,x=.ref p/\y=.int i/\Bq K H p xs/\atI xs i\v/\Q v H)
def RB:R2:=(λx y H Q=>∃z i c,x=.str z/\y=.int i/\z.length<=sizeLine/\atI z.cps.toList i\c/\Q (.str {[c].toArray}) H)
def RC:Fe X (Ye X.K):=by
 intro value c qA s Y H x y v u Q I n m h f;done<;>let[p,xs,i,z,0,0,o,B,q]:=h;cases n;done<;>(let[t,0]:=m;let[qG,r,pl,E]:=I.list o;let[j,h1,h2,J,D,C]:=Jz B;let[w,l,d]:=r.get h2);let A:=r.length;let G:=GH;let a:EP X qA Y Q w s:=#[z,H,I,d,q];by_cases g:0<=i
 .let e:i.toNat=j:=by rw[seqIndex_of g C]at h1;show oI h1
  show item_listR pl.isList g ⋯ (by rw[e];simpa using l) a f
 .let e:(i+qG.toArray.size).toNat=j:=by rw[seqIndex_neg (by simp_all) D]at h1;rw[size_toArray,<-A];show oI h1
  show subscriptTail_builtinR pl.isList.typeIs slot_list_getitem.lookup
   (wpAny_getItem_list_neg pl.isList ⋯ (by rw[size_toArray]<;>simp_all) ⋯ (by rw[e];simpa using l) #[0,a]) f
def RD:Fe X (Yf X.K):=by
 intro value a qA s Y H x y v u Q I f e h g;done<;>let[p,xs,i,z,0,0,l,n,q]:=h;cases f;done<;>(let[t,0]:=e;let[qG,r,pl,A]:=I.tuple l;let[j,h1,h2,E,D,C]:=Jz n;let[w,o,c]:=r.get h2);let m:=r.length;let B:=GH;let d:EP X qA Y Q w s:=#[z,H,I,c,q];show subscriptTail_builtinR pl.typeIs slot_tuple_getitem.lookup
  (getItem_tuple pl ⋯ ⋯ (by rw[size_toArray,<-m];show h1) (~~~o) #[0,d]) g
def Mc:Fe X RB:=by
 intro value a qA s Y H x y v u Q I e d h f;done<;>(let[z,i,c,0,0,r,l,q]:=h;let[t,0]:=e;let[t',0]:=d;let[j,h1,h2,A,n,m]:=Jz l);let g:z.cps.toList.length=z.length:=rfl
 rw[g]at h1 n m;let w:=GH;show tail_any (typeIs_str s z t) slot_str_getitem.lookup (getItem_str (by lia) (by rw[h1];simpa using h2) {.str {[c].toArray},H,I.tok _,#[_,0],q}) f
def Yg(qG:C2)(n j)(u):Obj.mapSeq (·.setIfInBounds j u) {cls:=.type "list",data:=.seq qG.toArray n}={cls:=.type "list",data:=.seq (qG.set j u).toArray n}:=by simp[Obj.mapSeq]
def Inv.lst(I:Inv X qA Y H s)(h:H p\(.lst xs)):∃(qG:C2)(n:Nat),AZ xs qG/\'F' p\{cls:=.type "list",data:=.seq qG.toArray n}/\xs.length<=sizeLine:=by let[z,qG,n,r,e]:=I.hok p _ h;show#[qG,n,r,e,z]
def Inv.lstUpd{qG its':C2}{a}(I:Inv X qA Y H s)(h:H p\(.lst xs))(ho:'F' p\{cls:=.type "list",data:=.seq qG.toArray n})(hf:f {cls:=.type "list",data:=.seq qG.toArray n}={cls:=.type "list",data:=.seq its'.toArray a})(r:AZ ys its')(hz:ys.length<=sizeLine)(t):Inv X qA Y (AA H p (.lst ys)) {s with heap:=s.heap.update p f,toks:=t}:=by
 let e:(s.heap.update p f).get? p\{cls:=.type "list",data:=.seq its'.toArray a}:=by rw[Heap.get?_update_self f ho (by rw[hf]<;>rfl),hf]
 show I.write (by rw[h];trivial) (.inl rfl) (λb u hb q=>(cM _ _ (Ne.symm hb)).trans q) #[_,e] ?_;show#[hz,its',a,r,e]
def RE:V->V->V->Hp->(Hp->Prop)->Prop:=(λo i v H Q=>∃p xs k j,o=.ref p/\i=.int k/\H p\(.lst xs)/\Cr xs.length k\j/\Q (AA H p (.lst (xs.set j v))))
def HH:MO X RE:=by
 rintro qA s Y H o i v B C u Q I w x rv iq;done<;>let[p,xs,k,j,0,0,e,A,q]:=iq;cases w;done<;>(done<;>(let[t,0]:=x;let[qG,n,r,a,y]:=I.lst e;let[h1,h2,g,f]:=Q9 A));let c:=r.length;let D:=GH;let m:=I.lstUpd e a (Yg qG n j u) (r.set rv j) (by rw[length_set];show y) s.toks
 by_cases l:0<=k
 .let d:k.toNat=j:=by rw[seqIndex_of l f]at h1;show oI h1
  show PySem.W.ki_setAt a l ⋯ (by rw[size_toArray,<-c];show f) (by rw[d];show#[_,m,q])
 .let d:(k+qG.toArray.size).toNat=j:=by rw[seqIndex_neg (by simp_all) g]at h1;rw[size_toArray,<-c];show oI h1
  show PySem.W.ki_setBack a ⋯ (by rw[size_toArray,<-c];show g) ⋯ (by rw[d];show#[_,m,q])
def Yh(lo hi)(n):(sliceBounds lo hi none n).1=((HT.dA n 0 lo:Nat):Int)/\(sliceBounds lo hi none n).2.1=((HT.dA n n hi:Nat):Int)/\(sliceBounds lo hi none n).2.2=1:=by
 show#[?_,?_,0]
 .cases lo with|none=>simp[sliceBounds,HT.dA]|some i=>
   simp only[sliceBounds,HT.dA,Option.getD_none,show(1:Int)>0 by decide,dD];by_cases h:i<0
   .simp only[h,dD]<;>lia
   .simp only[h,if_false]<;>lia
 .cases hi with|none=>simp[sliceBounds,HT.dA]|some i=>
   simp only[sliceBounds,HT.dA,Option.getD_none,show(1:Int)>0 by decide,dD];by_cases h:i<0
   .simp only[h,dD]<;>lia
   .simp only[h,if_false]<;>lia
def Yi(qG:C2)(lo hi):slicePick qG.toArray lo hi none=((qG.drop (HT.dA qG.length 0 lo)).take (HT.dA qG.length qG.length hi-HT.dA qG.length 0 lo)).toArray:=by let[h1,h2,a]:=Yh lo hi qG.toArray.size;unfold slicePick;rw[h1,h2,a];simp only[sliceRange_one,pick_run,size_toArray]<;>rfl
def RG(K:Fg):V->Option Int->Option Int->Hp->VK->Prop:=(λx lo hi H Q=>∃a xs,x=.ref a/\BA K H a xs/\∀p,H p=none->Q (.ref p) (AA H p (.lst (D1 xs lo hi))))
def J0:D0 X (RG X.K):=by rintro qA s Y H x v m l lo hi sl Q I e j pl f⟨a,xs,rfl,i,q⟩;cases e;let[qG,r,d,g]:=I.list i;let c:=r.length;show{"list",_,slot_list_getitem.lookup,d.isList.typeIs,?_};show wpAny_getItem_list_slice d.isList j pl f .none '2' ?_ (by simp_all);rw[Yi,<-c];show{.ref 'H',_,I.laid (λb n q=>aS _ q) (aQ _) ?_,0,q _ (I.hok.fresh (aQ _))};show{aR (Q8 xs lo hi) g,_,(0),(r.drop _).take _,bP _ rfl}
def E9:V->Bool|.non=>true|.bl _=>true|.int _=>true|.str _=>true|_=>false
def En:V->V->Bool|.non,.non=>true|.bl a,.bl b=>a==b|.bl a,.int b=>(if a then 1 else 0)==b|.int a,.bl b=>a==(if b then 1 else 0)|.int a,.int b=>a==b|.str a,.str b=>a==b|_,_=>false
def Yj{y x}{v}(d:AV y u)(c:AV x v)(f:E9 y=true)(e:E9 x=true):SeqAt.EqAt A s u v (En y x):=by cases y with
 |non=>cases d;cases x with|non=>cases c;show SeqAt.EqAt.same _|bl b=>cases c;show SeqAt.EqAt.none_bool b|int b=>let[t,0]:=c;show SeqAt.EqAt.none_int b t|str b=>let[t,0]:=c;show SeqAt.EqAt.none_str b t|_=>show bS (e) cH
 |bl a=>cases d;cases x with|non=>cases c;show SeqAt.EqAt.bool_none a|bl b=>cases c;show SeqAt.EqAt.bool_bool a b|int b=>let[t,0]:=c;show SeqAt.EqAt.bool_int a b t|str b=>let[t,0]:=c;show SeqAt.EqAt.bool_str a b t|_=>show bS (e) cH
 |int a=>let[t',0]:=d;cases x with|non=>cases c;show SeqAt.EqAt.int_none a t'|bl b=>cases c;show SeqAt.EqAt.int_bool a t' b|int b=>let[t,0]:=c;show SeqAt.EqAt.int_int a t' b t|str b=>let[t,0]:=c;show SeqAt.EqAt.int_str a t' b t|_=>show bS (e) cH
 |str a=>let[t',0]:=d;cases x with|non=>cases c;show SeqAt.EqAt.str_none a t'|bl b=>cases c;show SeqAt.EqAt.str_bool a t' b|int b=>let[t,0]:=c;show SeqAt.EqAt.str_int a t' b t|str b=>let[t,0]:=c;show SeqAt.EqAt.str_str a t' b t|_=>show bS (e) cH
 |_=>show bS (f) cH
def FA(x:V)(u:Value):Bool:=(match u with|.none=>En .non x|.bool b=>En (.bl b) x|.int i _=>En (.int i) x|.str z _=>En (.str z) x|_=>false)
def RH{x y}(r:AV y u)(f:E9 y=true):FA x u=En y x:=by cases y with|non=>cases r;rfl|bl b=>cases r;rfl|int i=>let[t,0]:=r;rfl|str z=>let[t,0]:=r;rfl|_=>show bS (f) cH
theorem Md{x}:∀{xs}{us},AZ xs us->xs.all E9=true->us.any (FA x)=xs.any λy=>En y x|_,_,.nil,_=>rfl|y::xs,u::us,.cons r t,f=>by rw[all_cons,cB]at f;rw[any_cons,any_cons,RH r f.1,Md t f.2]
theorem Mf{x}{v}(a:AV x v)(c:E9 x=true):∀{xs}{us},AZ xs us->xs.all E9=true->∀u∈us,SeqAt.EqAt A s u v (FA x u)
 |_,_,.nil,_=>λu hu=>by cases hu|y::xs,u::us,.cons r t,f=>λu' hu=>by
  rw[all_cons,cB]at f;let 0||hu:=aF.mp hu
  .rw[RH r f.1];show Yj r a f.1 c
  .show Mf a c t f.2 u' hu
def J1(x:V)(xs:dH):Bool:=(xs.any λy=>En y x)
def Yk(K:Fg)(neg:Bool):R2:=(λx y H Q=>∃p xs,y=.ref p/\(BA K H p xs\/Bq K H p xs)/\E9 x=true/\xs.all E9=true/\Q (.bl (if neg then !J1 x xs else J1 x xs)) H)
def Yl:A1 X (compareOp .In) (Yk X.K false):=by
 rintro qA s Y H x y v u Q I c e⟨p,xs,rfl,hq,d,fs,q⟩;cases e;let hq||hq:=hq
 .let[qG,r,pl,f]:=I.list hq;show SeqAt.in_listAt _ pl.isList (λw a=>Mf c d r fs w (~~~a)) {.bl _,H,I,0,?_};rw[show qG.toArray.any _=qG.any (FA x)by simp,Md r fs];show q
 .let[qG,r,pl,f]:=I.tuple hq;show SeqAt.in_tupleAt _ pl (λw a=>Mf c d r fs w (~~~a)) {.bl _,H,I,0,?_};rw[show qG.toArray.any _=qG.any (FA x)by simp,Md r fs];show q
def Mg:B3 X (.builtin "len") (λxs H Q=>∃p ys,xs=[.ref p]/\(BA X.K H p ys\/Bq X.K H p ys)/\Q (.int ys.length) H):=by
 rintro qA s Y H xs us Q I r⟨p,ys,rfl,hq,q⟩;let[u,0,d]:=HE r;cases d;let f:=GH;let hq||hq:=hq
 .let[qG,c,pl,e]:=I.list hq;let a:=c.length;show Calls.call_len_list pl.isList (by simp only[size_toArray]<;>lia) {.int ys.length,H,I.tok _,{s.toks+1,by rw[size_toArray,a]},q}
 .let[qG,c,pl,e]:=I.tuple hq;let a:=c.length;show len_tuple pl (by simp only[size_toArray]<;>lia) {.int ys.length,H,I.tok _,{s.toks+1,by rw[size_toArray,a]},q}
def RI:B3 X (.builtin "len") (λxs H Q=>∃z,xs=[.str z]/\z.length<=sizeLine/\Q (.int z.length) H):=by rintro qA s Y H xs us Q I r⟨z,rfl,a,q⟩;let[u,0,t,0]:=HE r;let c:=GH;show len_str ⋯ {.int z.length,H,I.tok _,#[_,0],q}
def Ym:B3 X (.type "list") (λxs H Q=>∃p ys,xs=[.ref p]/\(BA X.K H p ys\/Bq X.K H p ys)/\∀l,H l=none->Q (.ref l) (AA H l (.lst ys))):=by
 rintro qA s Y H xs us Q I r⟨p,ys,rfl,hq,q⟩;let[u,0,x]:=HE r;cases x;let i:∀(qG),AZ ys qG->ys.length<=sizeLine->∀(h')(c),(∀b o','F' b\o'->h'.get? b\o')->h'.get? 'H'\{cls:=.type "list",dict:=none,data:=.seq qG.toArray c,slots:=#[]}->EP X qA Y Q _ {s with heap:=h'}:=λqG a f h' c d e=>{.ref 'H',_,I.laid d (aQ _) (show Bg X.prog X.w _ h' _ (.lst ys)from#[f,qG,c,a,e]),0,q _ (I.hok.fresh (aQ _))}
 let hq||hq:=hq
 .let[qG,a,pl,f]:=I.list hq;let g:=a.length;let[o,j,v,n,m]:=pl.isList;show call_list_seq p (.inl rfl) j v m (λh' c d e=>i qG a f h' c d e) (by simp only[size_toArray]<;>simp_all)
 .let[qG,a,pl,f]:=I.tuple hq;let g:=a.length;let[o,j,v,n,m]:=pl;show call_list_seq p (.inr rfl) j v m (λh' c d e=>i qG a f h' c d e) (by simp only[size_toArray]<;>lia)
def Yn:B3 X (.type "tuple") (λxs H Q=>∃p ys,xs=[.ref p]/\((BA X.K H p ys/\∀l,H l=none->Q (.ref l) (AA H l (.tup ys)))\/(Bq X.K H p ys/\Q (.ref p) H))):=by
 rintro qA s Y H xs us Q I r⟨p,ys,rfl,h⟩;let[u,0,i]:=HE r;cases i;let[c,q]||[c,q]:=h
 .let[qG,a,pl,d]:=I.list c;let f:=a.length;show call_tuple_list pl.isList (λh' j=>?_) (by simp_all);let g:Inv X qA Y H {s with heap:=h'}:=I.kept j;let m:Inv X qA Y (AA H h'.objs.size (.tup ys)) {s with heap:=h'.push {cls:=.type "tuple",data:=.seq qG.toArray}}:=g.laid (λb o e=>aS _ e) (aQ _) ({d,qG,a,Dm.new _ _})
  show{.ref h'.objs.size,_,m,0,q _ (g.hok.fresh (aQ _))}
 .let[qG,a,pl,d]:=I.tuple c;show call_tuple_same pl {.ref p,H,I,0,q}
def Mh(K:Fg)(T:String)(x:V)(H:Hp):Prop:=(match x with|.str _=>T="str"|.int _=>T="int"|.ref p=>(T="list"/\∃xs,BA K H p xs)\/(T="tuple"/\∃o,K.lookup p\o/\o.cls=.type "tuple"/\o.dict=none)\/(T="dict"/\((∃qH,H p\(.dK qH))\/∃qH,H p\(.dT qH)))\/(T="set"/\∃S n,H p\(.set S n))|_=>False)
def RJ{x}{v}(I:Inv X qA Y H s)(r:AV x v)(ty:Mh X.K T x H):s.TypeIs v T/\∀a,v=.ref a->∃h,'F' a\h/\h.dict=none:=by cases x with
 |str z=>let[t,0]:=r;cases(ty);show{typeIs_str s z t,λ_ e=>nomatch e}|int i=>let[t,0]:=r;cases(ty);show{typeIs_int s i t,λ_ e=>nomatch e}|ref p=>
  cases r;rcases ty with⟨rfl,xs,j⟩|⟨rfl,o,d,l,f⟩|⟨rfl,d⟩|⟨rfl,S,n,d⟩
  .let[qG,_,pl,_]:=I.list j;show{pl.isList.typeIs,λa e=>?_};cases e;let[o,n,e,c,f,_]:=pl;show#[o,e,f]
  .show#[{o,I.kIn p o d,l},λa e=>?_];cases e;show{o,I.kIn _ o d,f}
  .let z:∃o,'F' p\o/\o.ExactDict:=by
    let[qH,d]||[qH,d]:=d
    .done<;>let[_,_,_,_,o,_,_,e,ex,_]:=I.hok p _ d;show#[o,e,ex]
    .done<;>let[_,_,_,_,o,_,_,e,ex,_]:=I.hok p _ d;show#[o,e,ex]
   let[o,e,ex]:=z;show#[#[o,e,ex.1],λa g=>?_];cases g;show#[o,e,ex.2.1]
  .done<;>let[o,_,_,_,e,ex,_]:=I.hok p _ d;show#[#[o,e,ex.1],λa g=>?_];cases g;show#[o,e,ex.2.1]|_=>show False.elim ty
def Mi(K:Fg)(T:String)(r:V->dH->Hp->VK->Prop)(to:TE):TE:=(λY H Q=>to Y H λx H1=>Mh K T x H1/\r x [] H1 Q)
def RK(K:Fg)(T:String)(r:V->dH->Hp->VK->Prop)(to:TE)(t:TA):TE:=(λY H Q=>to Y H λx H1=>Mh K T x H1/\t Y H1 λxs H2=>r x xs H2 Q)
variable{o e:Expr}{to:TE}{t:TA}{name:Str}{T id:String}{r:V->dH->Hp->VK->Prop}
def RL(pa:PlainAttrs T)(slot:Slot T name id)(d:typeOf (.builtin id)=pure (.type "method_descriptor"))(l:HG X id r)(j:PE X o to)(c:attributeBase o name X.env (eval o X.env)=eval o X.env:=by rfl)(a:(qK.endLine==qJ.line)=true:=by rfl):PE X (.Call (.Attribute o name qK) [] [] qJ) (Mi X.K T r to):=by intro qA s Y H Q I h;show wpAny_Call_method0_late c a (AR (j qA s Y H _ I h) λv g zz=>?_);let[x,H1,f,e,ty,i]:=zz;let[h1,h2]:=RJ f e ty;show{T,id,pa,slot,d,h1,h2,Calls.callWith_builtin rfl (PySem.evalArgs_none (l qA g Y H1 x [] v [] Q f e .nil i))}
def GK(pa:PlainAttrs T)(slot:Slot T name id)(g:typeOf (.builtin id)=pure (.type "method_descriptor"))(A:HG X id r)(y:PE X o to)(B:PA X (e::es) t)(d:attributeBase o name X.env (eval o X.env)=eval o X.env:=by rfl)(f:((backTo qJ (starEach (e::es) X.env)).all (λx=>!x.1)&&(backToKw qJ (keywordEach [] X.env)).all (λx=>x.1.isSome)&&decide ((e::es).length+([]:List Keyword).length+(if([]:List Keyword).isEmpty then 0 else 1)<30))=true:=by rfl)(c:(qK.endLine==qJ.line)=true:=by rfl)(w:starEach (e::es) X.env=(false,eval e X.env)::starEach es X.env:=by rfl)(a:(backTo qJ (starEach es X.env)).any (·.1)=false:=by rfl):PE X (.Call (.Attribute o name qK) (e::es) [] qJ) (RK X.K T r to t):=by intro qA s Y H Q I h;show wpAny_Call_method_late d f c rfl (AR (y qA s Y H _ I h) λv n zz=>?_);done<;>(let[x,H1,l,i,ty,u]:=zz;let[h1,h2]:=RJ l i ty);show#[T,id,pa,slot,g,h1,h2,?_];let j:=B qJ qA n Y H1 _ l u;rw[w]at j⊢;show Calls.callWith_builtin ((by assumption)) (Calls.evalArgs_plain ?_);show AR j λus m zz=>(by let[vs,H2,C,p,q]:=zz;show A qA m Y H2 x vs v us Q C i p q)
end
def Mj(X:Cx)(id:String)(r:V->dH->Hp->VK->Prop):Prop:=(∀(qA:List (Addr×Obj))(s:Shared)(Y:St)(H:Hp)(x:V)(xs:dH)(v:Value)(us:C2)(Q:VK),Inv X qA Y H s->AV x v->AZ xs us->r x xs H Q->'B' (call (.builtin id) (v::us)) (EP X qA Y Q) X.xe s)
def AZ.one{x}(h:AZ [x] us):∃u,us=[u]/\AV x u:=by cases h with|cons r t=>cases t;show#[_,0,r]
def AZ.two{x y}(h:AZ [x,y] us):∃u v,us=[u,v]/\AV x u/\AV y v:=by cases h with|cons r t=>let[v,0,q]:=AZ.one t;show#[_,_,0,r,q]
theorem AZ.zero:∀{us},AZ [] us->us=[]|_,.nil=>rfl
def AZ.dropLast(h:AZ xs us):AZ xs.dropLast us.dropLast:=by induction h with|nil=>show .nil|cons r t a=>cases t with|nil=>show .nil|cons q t'=>show .cons r a
theorem AZ.eraseIdx:∀{xs}{us}(i),AZ xs us->AZ (xs.eraseIdx i) (us.eraseIdx i)|_,_,_,.nil=>.nil|_,_,0,.cons _ t=>t|_,_,i+1,.cons r t=>.cons r (AZ.eraseIdx i t)
def AZ.reverse(h:AZ xs us):AZ xs.reverse us.reverse:=by induction h with|nil=>show .nil|cons r t a=>rw[reverse_cons,reverse_cons];show AZ.append a (.cons r .nil)
def Yo{α:Type}(l:List α):l.eraseIdx (l.length-1)=l.dropLast:=by simp
theorem RM{α:Type}:∀(l:List α)(i),(l.eraseIdx i).length<=l.length|[],_=>aQ _|_::_,0=>cS _|_::r,i+1=>Nat.succ_le_succ (RM r i)
section
variable{l b:Addr}{xs ys zs:dH}
def Inv.lset{qG its':C2}{f:Ex->Ex}(I:Inv X qA Y H s)(a:H l\(.lst xs))(e:'F' l\{cls:=.type "list",data:=.seq qG.toArray n})(hf:f qG.toArray=its'.toArray)(hv:AZ ys its')(hz:ys.length<=sizeLine):Inv X qA Y (AA H l (.lst ys)) {s with heap:=s.heap.update l (Obj.mapSeq f),toks:=t'}:=by let q:=PySem.IsL.update e f;rw[hf]at q;show I.write (by rw[a];show trivial) (.inl rfl) (λb' u hb hu=>(cM s.heap _ (Ne.symm hb)).trans hu) #[_,q] ?_;show#[hz,its',_,hv,q]
def Inv.lnew{qG}(I:Inv X qA Y H s)(hv:AZ ys qG)(hz:ys.length<=sizeLine):Inv X qA Y (AA H 'H' (.lst ys)) {s with heap:=s.heap.push {cls:=.type "list",data:=.seq qG.toArray},toks:=t'}:=I.laid (λ_ _ q=>aS _ q) (aQ _) {hz,qG,(0),hv,bP _ rfl}
def Inv.fresh(I:Inv X qA Y H s):H 'H'=none:=I.hok.fresh (aQ _)
def Inv.lstM(I:Inv X qA Y H s)(a:H l\(.lst xs)):xs.length<=sizeLine/\∃(qG:C2)(n:Nat),AZ xs qG/\xs.length=qG.length/\'F' l\{cls:=.type "list",data:=.seq qG.toArray n}:=by let[z,qG,n,r,e]:=I.hok l _ a;show#[z,qG,n,r,r.length,e]
def dV(h:n<=sizeLine):Builtin.List.listTooLong n=false:=by show cK (by simp_all)
end
inductive rAppend(x:V)(vs:dH)(H:Hp)(Q:VK):Prop|mk(l:Addr)(xs:dH)(y:V)(ex:x=.ref l)(ev:vs=[y])(h:H l\(.lst xs))(z:xs.length<sizeLine)(q:Q .non (AA H l (.lst (xs++[y]))))
def HI:Mj X "list.append" rAppend:=by rintro qA s Y H x vs v us Q I c rv⟨l,xs,y,rfl,rfl,a,f,q⟩;cases c;let[u,0,d]:=rv.one;let[z,qG,n,r,g,e]:=I.lstM a;show call_meets F.slot_list_append #[_,e,0] F.entry_list_append (F.args_list_append_2 _ _) (PySem.list_append l qG.toArray n u (by simp_all)) #[e,?_];show{.non,_,I.lset a e '2' (r.append (.cons d .nil)) ?_,0,q};rw[aG,length_singleton];lia
def Yp:V->dH->Hp->VK->Prop:=(λx vs H Q=>∃l xs y,x=.ref l/\vs=[]/\H l\(.lst xs)/\xs[xs.length-1]?\y/\Q y (AA H l (.lst xs.dropLast)))
def Yq:Mj X "list.pop" Yp:=by
 rintro qA s Y H x vs v us Q I f rv⟨l,xs,y,rfl,rfl,d,i,q⟩;cases f;let c:=rv.zero;subst c;done<;>(let[z,qG,n,r,m,e]:=I.lstM d;let[u,j,g]:=r.get i);let a:qG.toArray[qG.toArray.size-1]?\u:=by simp_all
 show call_meets F.slot_list_pop #[_,e,0] F.entry_list_pop (F.args_list_pop_1 _) (MeetsSeq.list_pop_last l qG.toArray n u a (by simp_all)) #[e,?_];show{y,_,I.lset d e ?_ r.dropLast ?_,g,q}
 .simp
 .rw[length_dropLast];lia
def Yr:V->dH->Hp->VK->Prop:=(λx vs H Q=>∃l xs i k y,x=.ref l/\vs=[.int i]/\H l\(.lst xs)/\-(2^63)<=i/\i<2^63/\seqIndex? i xs.length\k/\xs[k]?\y/\Q y (AA H l (.lst (xs.eraseIdx k))))
def Ys:Mj X "list.pop" Yr:=by
 rintro qA s Y H x vs v us Q I d rv⟨l,xs,i,k,y,rfl,rfl,c,h1,h2,o,g,q⟩;cases d;done<;>(let[u,0,f]:=rv.one;let[t,0]:=f;let[z,qG,n,r,m,e]:=I.lstM c;let[w,j,a]:=r.get g);show call_meets F.slot_list_pop #[_,e,0] F.entry_list_pop (F.args_list_pop_2 _ _)
  (MeetsSeq.list_pop_at l qG.toArray n i t k w (fitsIndex_both h1 h2) (by simp_all) (by simp_all) (by simp_all)) #[e,?_]
 show{y,_,I.lset c e ?_ (r.eraseIdx k) ?_,a,q}
 .simp
 .let:=RM xs k;lia
def Yt:R2:=(λx y H Q=>∃l b xs zs,x=.ref l/\y=.ref b/\H l\(.lst xs)/\H b\(.lst zs)/\xs.length+zs.length<=sizeLine/\∀p,H p=none->Q (.ref p) (AA H p (.lst (xs++zs))))
def Yu:A1 X (binaryOp .Add) Yt:=by
 rintro qA s Y H x y v u Q I d c⟨l,b,xs,zs,rfl,rfl,i,j,A,q⟩;cases d;cases c;done<;>(let[z,qG,n,r,B,e]:=I.lstM i;let[p,a,w,f,g,o]:=I.lstM j);show PySem.P.add_list e o ?_ (by simp_all);let m:qG.toArray++a.toArray=(qG++a).toArray:='2'
 rw[m];show{.ref _,_,I.lnew (r.append f) (by rw[aG];lia),0,q _ I.fresh}
section
variable{κ:Type}[DecidableEq κ]
def Bb(qH:List (κ×V))(k:κ):Option V:=((qH.find? λkv=>decide (kv.1=k)).map (·.2))
def Bh(qH:List (κ×V))(k:κ)(v:V):List (κ×V):=(if(qH.any λkv=>decide (kv.1=k))=true then qH.map (λkv=>if kv.1=k then(kv.1,v)else kv)else qH++[(k,v)])
def Cj(qH:List (κ×V))(k:κ):List (κ×V):=(qH.filter λkv=>decide (kv.1≠k))
def J4{p}{r:List (κ×V)}(e:p.1=k):Bb (p::r) k\p.2:=by simp[Bb,find?_cons,e]
def Ml{p}{r:List (κ×V)}(e:¬p.1=k):Bb (p::r) k=Bb r k:=by simp[Bb,find?_cons,e]
theorem Mm(k):∀qH:List (κ×V),(qH.any λa=>decide (a.1=k))=(Bb qH k).isSome
 |[]=>rfl|p::r=>by
  rw[any_cons];by_cases e:p.1=k
  .simp only[J4 e,aK e,Bool.true_or,Option.isSome_some]
  .rw[Ml e,cK e];show Mm k r
def IU(qH)(k:κ)(v):(Bh qH k v).length<=qH.length+1:=by
 unfold Bh;split
 .rw[aA];lia
 simp
def Yv{k:κ}(v)(h:Bb qH k=none):Bh qH k v=qH++[(k,v)]:=by unfold Bh;rw[Mm,h];rfl
def Ce.isSome_eq{o}{u}(r:Ce o u):o.isSome=u.isSome:=by cases o with
 |none=>cases u with|none=>rfl|some _=>show(r).elim
 |some _=>cases u with|none=>show(r).elim|some _=>rfl
def Ce.getD{o}{u}{d}(r:Ce o u)(rd:AV d d'):AV (o.getD d) (u.getD d'):=by cases o with
 |none=>cases u with|none=>show rd|some _=>show(r).elim
 |some _=>cases u with|none=>show(r).elim|some _=>show r
def KV.val{vs}(r:KV qH vs)(k:κ):Ce (Bb qH k) (valueAt vs k):=by induction r with|nil=>show True.intro|@cons p q ps a h t d=>
  let[h1,h2]:=h;by_cases e:p.1=k
  .let c:=h1.symm.trans e;let b:valueAt (q::a) k\q.2:=by simp[valueAt,find?_cons,c]
   rw[J4 e,b];show h2
  .let c:¬q.1=k:=λz=>e (h1.trans z);let b:valueAt (q::a) k=valueAt a k:=by simp[valueAt,find?_cons,c]
   rw[Ml e,b];show d
def KV.any{vs}(r:KV qH vs)(k:κ):(qH.any λa=>decide (a.1=k))=vs.any λa=>decide (a.1=k):=by induction r with|nil=>rfl|cons h t c=>simp_all
def KV.repl{vs}(r:KV qH vs)(k:κ)(c:AV y u):KV (qH.map λa=>if a.1=k then(a.1,y)else a) (vs.map λa=>if a.1=k then(a.1,u)else a):=by induction r with|nil=>show .nil|@cons p q ps f h t d=>
  rw[map_cons,map_cons];show .cons ?_ d;let[h1,h2]:=h;by_cases e:p.1=k
  .simp_all
  simp_all
def KV.put{vs}(r:KV qH vs)(k:κ)(a:AV y u):KV (Bh qH k y) (stored vs k u):=by
 unfold Bh stored;rw[r.any k];by_cases e:(vs.any λc=>decide (c.1=k))=true
 .rw[aC e,aC e];show r.repl k a
 .rw[aB e,aB e];show Paired.snoc r #[0,a]
def KV.length{vs:List (κ×Value)}(r:KV qH vs):qH.length=vs.length:=Paired.length r
end
def GL(r:AV (kV k) u):(CF P w).is k u=true:=by cases k with|inl i=>let[t,e]:=(r);subst e;show XD P w i t|inr x=>let[t,e]:=(r);subst e;show XE P w x t
theorem RN:∀{ks}{us},AZ (ks.map kV) us->ItemsAre (CF P w) ks us|[],_,r=>by cases r;show .nil|k::ks,_,r=>by cases r with|cons h t=>show .cons (GL h) (RN t)
abbrev KT(H:Hp):List (List AT×V)->List (List AT×Addr×Value)->Prop:=Paired λp q=>p.1=q.1/\H q.2.1\(.tup (p.1.map kV))/\AV p.2 q.2.2
def KT.val(r:KT H qH xs)(k):Ce (Bb qH k) ((atKey xs k).map (·.2)):=by induction r with|nil=>show True.intro|@cons p q ps a h t d=>
  let[h1,_,h2]:=h;by_cases e:p.1=k
  .let c:=h1.symm.trans e;let b:atKey (q::a) k\q.2:=by simp[atKey,find?_cons,c]
   rw[J4 e,b];show h2
  .let c:¬q.1=k:=λz=>e (h1.trans z);let b:atKey (q::a) k=atKey a k:=by simp[atKey,find?_cons,c]
   rw[Ml e,b];show d
def KT.repl(r:KT H qH xs)(k)(c:AV y u):KT H (qH.map λa=>if a.1=k then(a.1,y)else a) (xs.map (putAt k u)):=by induction r with|nil=>show .nil|@cons p q ps g h t d=>
  rw[map_cons];show .cons ?_ d;let[h1,h2,f]:=h;unfold putAt;by_cases e:p.1=k
  .rw[aC e,aC (h1.symm.trans e)];show#[h1,h2,c]
  .rw[aB e,aB (λz=>e (h1.trans z))];show#[h1,h2,f]
def KT.put(r:KT H qH xs)(k)(hb:H b\(.tup (k.map kV)))(a:AV y u):KT H (Bh qH k y) (storedH xs k b u):=by
 let e:(qH.any λc=>decide (c.1=k))=(atKey xs k).isSome:=by rw[Mm,(r.val k).isSome_eq,Option.isSome_map]
 unfold Bh storedH;rw[e];by_cases q:(atKey xs k).isSome=true
 .rw[aC q,aC q];show r.repl k a
 .rw[aB q,aB q];show Paired.snoc r #[0,hb,a]
def KT.keeps(r:KT H qH xs)(a:∀b ys,H b\(.tup ys)->H' b\(.tup ys)):KT H' qH xs:=Paired.mapP r λ_ _ z=>{z.1,a _ _ z.2.1,z.2.2}
section
variable{P:Program}
def RO{u}(ok:A3 P w H h)(e:Rd H a u):Bg P w H h a u:=e.ok ok
def FC(ok:A3 P w H h)(e:Rd H a (.dK qH)):qH.length<=sizeLine/\(a==sysModules)=false/\∃vs,KV qH vs/\h.DictOf (CF P w) a vs:=RO ok e
def J5(ok:A3 P w H h)(e:H a\(.dK qH)):qH.length<=sizeLine/\(a==sysModules)=false/\∃vs,KV qH vs/\h.DictOf (CF P w) a vs:=FC ok (.inl e)
def GM{ks}(ok:A3 P w H h)(e:H a\(.tup (ks.map kV))):(tupleKind (CF P w)).is h ks a:=by let[_,qG,r,o,h1,h2,[n,c],_]:=(ok a _ e);show{o,qG.toArray,n,h1,h2,c,by simpa using RN r}
def GN(ok:A3 P w H h)(e:Rd H a (.dT qH)):qH.length<=sizeLine/\(a==sysModules)=false/\∃xs,KT H qH xs/\h.DictOfH (tupleKind (CF P w)) a xs:=by
 done<;>let[z,y,xs,r,o,es,ep,h1,h2,i,g,f]:=(RO ok e);show{z,y,xs,r,o,es,ep,h1,h2,i,g,λx hx=>?_,f};let all:∀{l}{m},KT H l m->∀x∈m,(tupleKind (CF P w)).is h x.1 x.2.1:=by
  intro l m q
  induction q with|nil=>simp|@cons p q ps j c t d=>
   intro x hx;let e||hx:=aF.mp hx
   .subst e;show GM ok (by simp_all)
   .show d x hx
 show all r x hx
def RP(ok:A3 P w H h)(e:H a\(.dT qH)):qH.length<=sizeLine/\(a==sysModules)=false/\∃xs,KT H qH xs/\h.DictOfH (tupleKind (CF P w)) a xs:=GN ok (.inl e)
end
def Cs(H:Hp)(a:Addr)(y:V)(r:Option V):Prop:=((∃qH k,Rd H a (.dK qH)/\y=kV k/\r=Bb qH k)\/∃qH k b,Rd H a (.dT qH)/\y=.ref b/\H b\(.tup (k.map kV))/\r=Bb qH k)
def Ff(H:Hp)(a:Addr)(y v:V)(H':Hp):Prop:=((∃qH k,H a\(.dK qH)/\y=kV k/\qH.length<sizeLine/\H'=AA H a (.dK (Bh qH k v)))\/∃qH k b,H a\(.dT qH)/\y=.ref b/\H b\(.tup (k.map kV))/\qH.length<sizeLine/\H'=AA H a (.dT (Bh qH k v)))
def Cs.k{k}(e:H a\(.dK qH)):Cs H a (kV k) (Bb qH k):=.inl {qH,k,.inl e,0,0}
def Cs.t{k}(e:H a\(.dT qH))(c:H b\(.tup (k.map kV))):Cs H a (.ref b) (Bb qH k):=.inr {qH,k,b,.inl e,0,c,0}
def Ff.k{k}(e:H a\(.dK qH))(c:qH.length<sizeLine):Ff H a (kV k) v (AA H a (.dK (Bh qH k v))):=.inl #[qH,k,e,0,c,0]
def Ff.t{k}(e:H a\(.dT qH))(d:H b\(.tup (k.map kV)))(c:qH.length<sizeLine):Ff H a (.ref b) v (AA H a (.dT (Bh qH k v))):=.inr #[qH,k,b,e,0,d,c,0]
section
variable{y:V}{r:Value}{o:Option V}
def Inv.big(I:Inv X qA Y H s):sysModules<'H':=by let h:=(I.mod.glob.keeps I.bk).lt;show Nat.lt_trans '3' h
def Yw(m:A.units+1<cLine)(I:Inv X qA Y H s)(g:Cs H a y (some v))(j:AV y u)(h:∀w' s',Inv X qA Y H s'->AV v w'->Q w' s'):wpAny (model X.prog X.w) A (getItem (.ref a) u) Q E s:=by
 let[qH,k,e,i,l]||[qH,k,b,e,i,r,l]:=g
 .subst i;let[z,q,vs,rel,dd]:=FC I.hok e;let[w',d,c]:=Ce.some_of (by rw[l];show rel.val k);show wpAny_getItem_of (GL j) dd.mapOf d (h w' _ (I.tok _) c)
 .subst i;cases(j);done<;>(let[z,q,xs,rel,dd]:=GN I.hok e;let[w',d,c]:=Ce.some_of (by rw[l];show rel.val k);let[p,n,f]:=aJ.mp d);show wpAny_getItem_heap (tupleKind_room_in1 m) (GM I.hok r) dd n ?_;rw[f];show h w' _ (I.tok _) c
def Yx(i:A.units+1<cLine)(I:Inv X qA Y H s)(g:Cs H a y o)(f:AV y u)(h:∀s',Inv X qA Y H s'->Q (.bool o.isSome) s'):wpAny (model X.prog X.w) A (compareOp .In u (.ref a)) Q E s:=by
 let[qH,k,e,d,l]||[qH,k,b,e,d,j,l]:=g
 .subst d;let[z,c,vs,rel,dd]:=FC I.hok e;show wpAny_in_of (GL f) c dd.mapOf ?_;rw[<-(rel.val k).isSome_eq,<-l];show h _ (I.tok _)
 .subst d;cases(f);let[z,c,xs,rel,dd]:=GN I.hok e;show wpAny_in_heap (tupleKind_room_in1 i) (GM I.hok j) c dd ?_;let q:=(rel.val k).isSome_eq;rw[Option.isSome_map]at q;rw[<-q,<-l];show h _ (I.tok _)
def Yy(i:A.units+1<cLine)(I:Inv X qA Y H s)(g:Cs H a y o)(f:AV y u)(h:∀s',Inv X qA Y H s'->Q (.bool (!o.isSome)) s'):wpAny (model X.prog X.w) A (compareOp .NotIn u (.ref a)) Q E s:=by
 let[qH,k,e,d,l]||[qH,k,b,e,d,j,l]:=g
 .subst d;let[z,c,vs,rel,dd]:=FC I.hok e;show wpAny_notIn_of (GL f) c dd.mapOf ?_;rw[<-(rel.val k).isSome_eq,<-l];show h _ (I.tok _)
 .subst d;cases(f);let[z,c,xs,rel,dd]:=GN I.hok e;show wpAny_notIn_heap (tupleKind_room_in1 i) (GM I.hok j) c dd ?_;let q:=(rel.val k).isSome_eq;rw[Option.isSome_map]at q;rw[<-q,<-l];show h _ (I.tok _)
def IV{c}(I:Inv X qA Y H s)(d:IL (H a))(f:Heap.SameBut a s.heap h')(g:∃q,h'.get? a\q)(new:Bg X.prog X.w (AA H a c) h' a c):Inv X qA Y (AA H a c) {s with heap:=h',toks:=t'}:=I.write d (.inl rfl) (λb q hb z=>(f.2 b hb).trans z) g new
def Mn{vs}(z:qH.length<=sizeLine)(c:(a==sysModules)=false)(rel:KV qH vs)(dd:h'.DictOf (CF P w) a vs):Bg P w H' h' a (.dK qH):=#[z,c,vs,rel,dd]
def Yz{Q}(C:A.units+1<cLine)(I:Inv X qA Y H s)(g:Ff H a y v H')(p:AV y u)(rv:AV v r)(h:∀s',Inv X qA Y H' s'->Q () s'):wpAny (model X.prog X.w) A (setItem (.ref a) u r) Q E s:=by
 done<;>let[qH,k,e,n,l,o]||[qH,k,b,e,n,B,l,o]:=g
 .subst n o;let[z,m,vs,rel,dd]:=J5 I.hok e;let f:vs.length<=sizeLine:=by rw[<-rel.length];show z
  let j:(Bh qH k v).length<=sizeLine:=by let:=IU qH k v;lia
  show wpAny_setItem_pairs (GL p) dd λh' dd' i=>h _ ?_;let D:∃q,h'.get? a\q:=(by let[q,_,_,d,_]:=dd';show#[q,d]);show IV I (by rw[e];show True.intro) i D (Mn j m (rel.put k rv) dd')
 .subst n o;cases(p);let[z,m,xs,rel,dd]:=RP I.hok e;let f:xs.length<=sizeLine:=by rw[<-Paired.length rel];show z
  let j:(Bh qH k v).length<=sizeLine:=by let:=IU qH k v;lia
  show wpAny_setItem_heap (tupleKind_room_in1 C) (GM I.hok B) dd λh' dd' i=>h _ ?_;done<;>let[q,es,ep,d,h2,L,J,_,G]:=dd';show IV I (by rw[e];show True.intro) i #[q,d] {j,m,_,(rel.put k B rv).keeps λc ys x=>?_,q,es,ep,d,h2,L,J,G};rw[AE (CW x e '5')];show x
end
section
variable{qH:List (AT×V)}{k:AT}
def Y0(I:Inv X qA Y H s)(e:Rd H a (.dK qH))(h:∀t s',Inv X qA Y H s'->Q (.int qH.length t) s'):wpAny (model X.prog X.w) A (call (.builtin "len") [.ref a]) Q E s:=by let[z,c,vs,rel,dd]:=FC I.hok e;show call_len_dict c dd (by rw[<-rel.length];rw[sizeLine_eq]at z;lia) ?_;rw[<-rel.length];show h _ _ (I.tok _)
end
def Mo(i:Expr):Prop:=(∀ov iv,subscripted i false ov iv=operate [ov,iv] (getItem ov iv))
def Y1{value a}{T id}(m:typeLookup (.type T) "__getitem__"=pure (some (.builtin id)))(l:Mo a)(h:'C' (eval value env) (λo s₁=>'C' (eval a env) (λi s₂=>s₂.TypeIs o T/\'C' (getItem o i) Q E s₂) E s₁) E s):'C' (eval (.Subscript value a pos) env) Q E s:=by
 show Subscript_ (bL h (λo s₁ g=>bL g (λi s₂ c=>?_) λ_ _ x=>x) λ_ _ x=>x);let[j,c]:=c;show wB ?_;show wB (wpAny_specialOf j m ?_);let e:'C' (subscripted a false o i) (λr d=>'C' (letTemporaryGo value o r>>=λ_=>pure r) Q E d) E s₂:=by rw[l o i];show wpAny_operating (bL c (λr d f=>wB (wpAny_letTemporaryGo (wP f))) λ_ _ x=>x)
 first|show wP (wB e)|lia|show wB e
def Y2{o}(I:Inv X qA Y H s)(g:Cs H a y o):s.TypeIs (.ref a) "dict":=by
 let[qH,k,e,_,_]||[qH,k,b,e,_,_,_]:=g
 .let[_,_,vs,_,dd]:=FC I.hok e;show dd.typeIs
 .let[_,_,xs,_,dd]:=GN I.hok e;show dd.typeIs
inductive rDGet(x y:V)(H2:Hp)(Q:VK):Prop|mk(a:Addr)(v:V)(ex:x=.ref a)(g:Cs H2 a y (some v))(q:Q v H2)
def Y4(td ty:TE):TE:=(λY H Q=>td Y H λx H1=>ty Y H1 λy H2=>rDGet x y H2 Q)
def Y8(ty td:TE):TE:=(λY H Q=>ty Y H λy H1=>td Y H1 λx H2=>∃a o,x=.ref a/\Cs H2 a y o/\Q (.bl o.isSome) H2)
def Y9(ty td:TE):TE:=(λY H Q=>ty Y H λy H1=>td Y H1 λx H2=>∃a o,x=.ref a/\Cs H2 a y o/\Q (.bl (!o.isSome)) H2)
inductive rDPut(x y v:V)(H3:Hp)(N:Hp->Prop):Prop|mk(a:Addr)(H4:Hp)(ex:x=.ref a)(g:Ff H3 a y v H4)(q:N H4)
def J6(td ty tv:TE):TS:=(λD Y H=>tv Y H λv H1=>td Y H1 λx H2=>ty Y H2 λy H3=>rDPut x y v H3 (D.nx Y))
section
variable{o i e value:Expr}{td ty tv:TE}
def Mp(n:X.A.units+1<cLine)(q:PE X o td)(hi:PE X i ty)(p:Mo i):PE X (.Subscript o i pos) (Y4 td ty):=by intro qA s Y H Q I h;show Y1 PySem.F.slot_dict_getitem.lookup p (AR (q qA s Y H _ I h) λu e zz=>?_);let[x,H1,w,j,m]:=zz;show AR (hi qA e Y H1 _ w m) λE D zz=>?_;let[y,H2,d,f,a,v,ex,g,l]:=zz;subst ex;obtain rfl:u=Value.ref a:=j;show#[Y2 d g,Yw n d g f λB C r c=>#[v,H2,r,c,l]]
def ZA(m:X.A.units+1<cLine)(hi:PE X i ty)(n:PE X o td):PC X .In i o (Y8 ty td):=by intro qA s Y H Q I h;show AR (hi qA s Y H _ I h) λB c zz=>?_;let[y,H1,r,d,j]:=zz;show AR (n qA c Y H1 _ r j) λu w zz=>?_;let[x,H2,q,e,a,l,ex,g,f]:=zz;subst ex;obtain rfl:u=Value.ref a:=e;show Yx m q g d λv p=>{.bl l.isSome,H2,p,0,f}
def ZB(m:X.A.units+1<cLine)(hi:PE X i ty)(n:PE X o td):PC X .NotIn i o (Y9 ty td):=by intro qA s Y H Q I h;show AR (hi qA s Y H _ I h) λB c zz=>?_;let[y,H1,r,d,j]:=zz;show AR (n qA c Y H1 _ r j) λu w zz=>?_;let[x,H2,q,e,a,l,ex,g,f]:=zz;subst ex;obtain rfl:u=Value.ref a:=e;show Yy m q g d λv p=>{.bl _,H2,p,0,f}
def J7(p:X.A.units+1<cLine)(w:PE X o td)(hi:PE X i ty)(n:PE X value tv)(q:swapsWith value (some (.Subscript o i pos')) pos.line X.env=pure false):PS X (.Assign [.Subscript o i pos'] value pos) (J6 td ty tv):=by intro qA s Y H D I h;show wpAny_Assign_Subscript (AR (n qA s Y H _ I h) λr d zz=>?_) q;let[v,H1,G,rv,m]:=zz;show AR (w qA d Y H1 _ G m) λu c zz=>?_;let[x,H2,E,f,l]:=zz;show AR (hi qA c Y H2 _ E l) λN M zz=>?_;let[y,O,C,e,a,J,ex,g,j]:=zz;subst ex;obtain rfl:u=Value.ref a:=f;show Yz p C g e rv λL B=>#[Y,J,B,j]
end
def RQ(h:Heap)(hb:sysModules<h.objs.size):Bg P w H (h.push {cls:=.type "dict",data:=.dict #[]}) h.objs.size (.dK []):={cD _,beq_eq_false_iff_ne.mpr (Ne.symm (bX hb)),[],.nil,Heap.DictOf.new h}
def RR(h:Heap)(hb:sysModules<h.objs.size):Bg P w H (h.push {cls:=.type "dict",data:=.dict #[]}) h.objs.size (.dT []):={cD _,beq_eq_false_iff_ne.mpr (Ne.symm (bX hb)),[],.nil,_,#[],(0),bP _ rfl,#[0,0,0],0,0,nodup_nil}
def RS:TE:=(λ_ H Q=>∀p,H p=none->Q (.ref p) (AA H p (.dK [])))
def ZC:TE:=(λ_ H Q=>∀p,H p=none->Q (.ref p) (AA H p (.dT [])))
def Mq:PE X (.Dict [] [] pos) RS:=λqA s Y H Q I h=>wpAny_Dict_empty {.ref 'H',_,I.laid (λ_ _ q=>aS _ q) (aQ _) (RQ s.heap I.big),0,h _ (I.hok.fresh (aQ _))}
def ZD:PE X (.Dict [] [] pos) ZC:=λqA s Y H Q I h=>wpAny_Dict_empty {.ref 'H',_,I.laid (λ_ _ q=>aS _ q) (aQ _) (RR s.heap I.big),0,h _ (I.hok.fresh (aQ _))}
structure M2(X:Cx)(o:Expr)(m:Str)(qK:Pos)(e f:Expr)(qJ:Pos):Prop where
 base:attributeBase o m X.env (eval o X.env)=eval o X.env
 few:((backTo qJ (starEach [e,f] X.env)).all (λx=>!x.1)&&(backToKw qJ (keywordEach [] X.env)).all (λx=>x.1.isSome)&&decide (([e,f]:He).length+([]:List Keyword).length+(if([]:List Keyword).isEmpty then 0 else 1)<30))=true
 line:(qK.endLine==qJ.line)=true
 trees:backTo qJ (starEach [e,f] X.env)=[(false,eval e X.env),(false,eval f X.env)]
def Mr(H:Hp)(a:Addr):Prop:=((∃qH,Rd H a (.dK qH))\/∃qH,Rd H a (.dT qH))
def ZE(I:Inv X qA Y H s)(d:Mr H a):s.TypeIs (.ref a) "dict"/\(∀b,Value.ref a=.ref b->∃c,'F' b\c/\c.dict=none)/\(a==sysModules)=false:=by
 let[qH,e]||[qH,e]:=d
 .let[_,f,vs,_,dd]:=FC I.hok e;show{dd.typeIs,λb q=>?_,f};cases q;let[c,_,_,h1,h2,_]:=dd;show#[c,h1,h2.2.1]
 .let[_,f,xs,_,dd]:=GN I.hok e;show{dd.typeIs,λb q=>?_,f};cases q;let[c,_,_,h1,h2,_]:=dd;show#[c,h1,h2.2.1]
section
variable{y d:V}{r:Value}{o:Option V}
def ZF(m:A.units+1<cLine)(I:Inv X qA Y H s)(g:Cs H a y o)(i:AV y u)(j:AV d r)(h:∀w' s',Inv X qA Y H s'->AV (o.getD d) w'->Q w' s'):wpAny (model X.prog X.w) A (call (.builtin "dict.get") [.ref a,u,r]) Q E s:=by
 done<;>let[qH,k,e,f,l]||[qH,k,b,e,f,n,l]:=g
 .subst f;let[z,c,vs,rel,dd]:=FC I.hok e;show call_meetsIn PySem.F.slot_dict_get dd.typeIs PySem.F.entry_dict_get (PySem.F.args_dict_get_3 _ _ _) (meets_dict_get_default _ a (GL i) c r) {_,dd.mapOf,h _ _ (I.tok _) ?_};rw[l];show(rel.val k).getD j
 .subst f;cases(i);let[z,c,xs,rel,dd]:=GN I.hok e;show call_meetsIn PySem.F.slot_dict_get dd.typeIs PySem.F.entry_dict_get (PySem.F.args_dict_get_3 _ _ _) (meetsH_dict_get_default _ a b c r) {tupleKind_room_in1 m,k,xs,GM I.hok n,dd,h _ _ (I.tok _) ?_};rw[l];show(rel.val k).getD j
end
def ZG(td ty tx:TE):TE:=(λY H Q=>td Y H λx H1=>∃a,x=.ref a/\Mr H1 a/\ty Y H1 λy H2=>tx Y H2 λz H3=>∃o,Cs H3 a y o/\Q (o.getD z) H3)
section
variable{o e f:Expr}{td ty tx:TE}
def ZI(D:X.A.units+1<cLine)(E:PE X o td)(J:PE X e ty)(G:PE X f tx)(m:M2 X o "get" qK e f qJ):PE X (.Call (.Attribute o "get" qK) [e,f] [] qJ) (ZG td ty tx):=by
 intro qA s Y H Q I h;show wpAny_Call_method m.base m.few m.line PySem.F.plainAttrs_dict PySem.F.slot_dict_get PySem.F.type_dict_get (AR (E qA s Y H _ I h) λu p zz=>?_);done<;>(let[x,H1,i,v,a,ex,d,C]:=zz;subst ex;obtain rfl:u=Value.ref a:=v;let[l,j,_]:=ZE i d);show#[l,j,?_];rw[m.trees];show Calls.callWith_builtin rfl (Calls.evalArgs_plain (Calls.spliced_cons (AR (J qA p Y H1 _ i C) λiv n zz=>?_)));let[y,H2,N,r,B]:=zz;show Calls.spliced_cons (AR (G qA n Y H2 _ N B) λfv σ zz=>?_);done<;>let[z,O,M,q,ov,g,w]:=zz;show Calls.spliced_nil ?_
 show ZF D M g r q λT ρ L c=>#[_,O,L,c,w]
end
section
variable{qH:List (AT×V)}
def ZJ(I:Inv X qA Y H s)(e:Rd H a (.dK qH))(h:∀p s',H p=none->Inv X qA Y (AA H p (.dK qH)) s'->Q (.ref p) s'):wpAny (model X.prog X.w) A (call (.type "dict") [.ref a]) Q E s:=by let[z,f,vs,rel,dd]:=FC I.hok e;show kt_call_dict f dd (by rw[<-rel.length];show z) λh' dd' d=>?_;show h _ _ (I.hok.fresh (aQ _)) (I.laid (λb q c=>?_) (aQ _) (Mn z (beq_eq_false_iff_ne.mpr (Ne.symm (bX I.big))) rel dd'));show(d.2 b (bX (bN c))).trans (aS _ c)
end
end L2
namespace Att
open PySem.W PySem.Calls
def ZK:∀(ns:By)(vs:C2),WellAll P h vs (ns.map WData.int)->IntsAre vs ns:=by
 intro ns
 induction ns with|nil=>intro vs w;cases w;show .nil|cons n ns c=>intro vs w;cases w with|cons a b=>cases a;show .cons _ _ (c _ b)
def ZL{l:OpenLaw}(w:l.most\n){c:C2}(e:l.row.toRowW.claim.pre args=true)(m:WellAll P h c args):∃a vs ns,c=[Value.ref a]/\args=[WData.list (ns.map WData.int)]/\h.get? a\{cls:=.type "list",data:=.seq vs.toArray}/\IntsAre vs ns/\ns.length<=n:=by
 let o:=(pre_splitW e).1;let p:l.pre.holds [] {args:=args}=true:=(pre_splitW e).2;let[d,r,0,h1,h2]:=hasAllW_cons o;obtain rfl:=hasAllW_nil h2;let[xs,0,x]:=hasW_list h1;let[ns,0]:=items_int x;let f:ns.length<=n:=by
  let j:(WTm.not (.lt (.lit (.int n)) (.len (.arg 0)))).holds [] {args:=[.list (ns.map .int)]}=true:=by let j:=(holds_andW p).1;rw[w]at j;show j
  let i:=condW_of j (w_not (w_lt w_lit (w_len_list (w_arg rfl))));simp_all
 cases m with|cons u s=>cases s;cases u with|list v g=>show{_,_,ns,0,0,v,ZK ns _ g,f}
def ZM(l:OpenLaw)(args):l.row.toRowW.claim.post args (.bool true) args=true:=postW_of
  (by rfl)
  (w_eq_bool (w_res rfl) w_lit) rfl
def attach_call{l:OpenLaw}{q}{c:At}{D:(Str->Do)->Heap->Prop}{d}(J:l.most\n)(v:d.params.defaults=[])(call:∀(w)(s₀ s₁)(mg m:Str->Do)(j)(o)(pm cd doc)(a)(vs:C2)(ns:By),Ground q c [] D w s₀ mg m s₁.heap->C w s₁.heap->s₁.heap.get? j\o->o.data=.func (docDef d.name d.params d.body d.scope pm cd doc)->s₁.heap.CodeRec cd d.name->mg d.name\(.ref j)->s₁.heap.get? a\{cls:=.type "list",data:=.seq vs.toArray}->IntsAre vs ns->ns.length<=n->s₁.gens=#[]->codeAny (model l.prog w) callerA (.call (.ref j) {[.ref a],[]}) (λr s'=>r=.ok (.ret (.bool true))/\OldK s₁.heap s'.heap/\s'.os=s₁.os/\AllBare s'.gens) s₁):WalkO q c D C l.row.toRowW d [] (λf vs=>PySem.call f vs):=by intro w s₀ s₁ mg m G σ j o pm cd doc ρ kV I O x B u N args y as g A E p M;obtain rfl:ρ=.none:=Dflts.none B v;obtain rfl:kV=.none:=Dflts.noKw B;let[a,vs,ns,0,0,h,e,i]:=ZL J g p;show enter_call (codeAny_mono (call w s₀ s₁ mg m j o pm cd doc a vs ns G σ I (fd_plain O) x u h e i N) λr s' H=>?_);let[0,h2,T,Q]:=H;show{.inl #[.bool true,.bool true,[],0,λ_=>rfl,.bool true,ZM l _,λ_=>{List.Pairwise.nil,λ_ L=>(nomatch L)}],h2,T,Q}
section
variable{K:Frag}
def noObjs(h:Heap):Heap:=({h with objs:=#[]})
def noObjs_get(h)(b):(noObjs h).get? b=none:=rfl
def fr_all{m:Str->Do}(n:h.Ns L m):Fr (noObjs h) L h m:={n,λb o e=>(by cases e),cD _}
end
end Att
namespace L2
def ZN{vs:C2}{ns:By}(h:IntsAre vs ns):AZ (ns.map V.int) vs:=by induction h with|nil=>show .nil|cons n t h a=>show .cons #[t,0] a
def Ms(H:Hp):Prop:=(∀b,H b=none\/∃o xs,H b\(.frz o (.lst xs)))
def ZO{K}{G:Str->Do}{N}{vs:C2}{ns:By}(KX:K.In s₁.heap)(y:s₁.heap.Ns mainGlobals mg)(hb:s₁.heap.Ns builtinsNs G)(L:∀x:Str,x≠"__name__"->G x=bootBuiltins x)(A:s₁.heap.NoLimit)(hg:s₁.gens=#[])(D:s₁.heap.get? a\{cls:=.type "list",data:=.seq vs.toArray})(hi:IntsAre vs ns)(Q:ns.length<=sizeLine)(hr:Room k callerA)(F:∀base,K.In base->base.Ns mainGlobals mg->FnOk P w K mg base CX k N fd [x] sp)(g:∀(s)(u),BindsTo s fd {[u],[]} [(x,u)])(I:∀H,Ms H->BA K H a (ns.map V.int)->sp [.ref a] H (λv _=>v=.bl true) λ_ _ _=>False)(M:∀H e s',CX [] H s₁ (λ_ _ _=>False) e s'->False):codeAny (model P w) callerA (.call (.ref N) {[.ref a],[]}) (λr s'=>r=.ok (.ret (.bool true))/\OldK s₁.heap s'.heap/\s'.os=s₁.os/\AllBare s'.gens) s₁:=by
 let rv:=ZN hi;let j:=hi.length;let core:∀H,Ms H->BA K H a (ns.map V.int)->A3 P w H s₁.heap->(∀b,H b≠none->b=a)->(H a≠none->K.lookup a=none)->codeAny (model P w) callerA (.call (.ref N) {[.ref a],[]}) (λr s'=>r=.ok (.ret (.bool true))/\OldK s₁.heap s'.heap/\s'.os=s₁.os/\AllBare s'.gens) s₁:=by
  intro H T hS p ρ hK;let c:∀{b}{o},s₁.heap.get? b\o->H b=none->(E3 s₁.heap H).get? b\o:=λe n=>XG e n;let E:∀{b}{o}{es}{ep},s₁.heap.get? b\o->o.data=.dict es ep->H b=none:=λ{b o es ep}e d=>by cases q:H b with|none=>rfl|some u=>let O:=ρ b (by rw[q];simp);subst O;rw[D]at e;cases e;let d':=d;cases d'
  let f:∀{b}{m},s₁.heap.Ns b m->(E3 s₁.heap H).Ns b m:=λ{b m}⟨o,es,ep,e,d,r⟩=>{o,es,ep,c e (E e d),d,r};let B:=λb o e=>c (KX b o e) (by cases q:H b with|none=>rfl|some u=>let O:=ρ b (by rw[q];simp);subst O;rw[hK (by rw[q];simp)]at e;cases e)
  let hM:Mod K mg (E3 s₁.heap H):={B,f y,{G,f hb,L},(by let[mc,h1,h2]:=A;show{mc,f h1,h2})};let e0:Env0 P w K mg (E3 s₁.heap H) callerA [] s₁ H:={0,hM,λb o e=>XH e,Nat.le_of_eq (XF _ _),trivial,λb hb=>bS (show b∈([])from hb) '2',p,.of_eq hg};show codeAny_mono ((F _ B (f y)).run callerA [] s₁ H {[.ref a],[]} [.ref a] [.ref a] _ _ hr e0 (g s₁ (.ref a)) (.cons rfl .nil) (I H T hS)) λr s' h=>?_;cases r with|error e=>show(M H e s' h).elim|ok fl=>cases fl with|next=>show False.elim h|brk=>show False.elim h|cont=>show False.elim h|ret u=>done<;>(let[v,H',os,C,un,l,r',q]:=h;let q':=q;subst q';obtain rfl:u=Value.bool true:=r');show{0,OldK.of_keep λb o e=>?_,os,C};cases q:H b with|none=>show un.keep b o e q (by intro z;show bS (show b∈([])from z) '2') '2'|some u=>
     let z||[ob,xs,z]:=T b
     .rw[q]at z;cases z
     .let z2:=un.frzs b ob _ z;let[σ,_]:=p b _ z;let[e2,_]:=l b _ z2;rw[e]at σ;cases σ;show e2
 cases J:K.lookup a with|some o=>let e:=KX a o J;rw[D]at e;cases e;show core (λ_=>none) (λ_=>.inl rfl) (.inr {_,vs.toArray,_,J,0,0,0,by rw[size_toArray,j];show Q,by simpa using rv}) (λb u z=>by let i:=z;cases i) (λb z=>bS rfl z) λz=>bS rfl z|none=>
  show core (λb=>if b=a then some (.frz {cls:=.type "list",data:=.seq vs.toArray} (.lst (ns.map V.int)))else none) (λb=>?_) (.inl (.inr #[{cls:=.type "list",data:=.seq vs.toArray},aC rfl])) (λb u z=>?_) (λb z=>?_) λ_=>J
  .by_cases hb:b=a
   .show .inr {_,_,aC hb}
   .show .inl (aB hb)
  .by_cases hb:b=a
   .let i:=(aC hb).symm.trans z;cases i;subst hb;show{D,by rw[aA];show Q,vs,_,rv,D}
   .let i:=(aB hb).symm.trans z;cases i
  .by_cases hb:b=a
   .show hb
   .show bS (aB hb) z
def dU{l:PySem.W.OpenLaw}{q}{i:At}{XP:(Str->Do)->Heap->Prop}{E}{d}{K:Params->Fg}{CX:World->C6}{sp:World->Sp}(L:l.most\n)(A:n<=sizeLine)(C:d.params.defaults=[])(J:Room k callerA)(O:∀(w)(h),E w h->(K w.params).In h)(F:∀(w)(mg:Str->Do)(r)(h),(K w.params).In h->h.Ns mainGlobals mg->mg d.name\(.ref r)->∃fd,(∀(s)(u),BindsTo s fd {[u],[]} [(x,u)])/\∀base,(K w.params).In base->base.Ns mainGlobals mg->FnOk l.prog w (K w.params) mg base (CX w) k r fd [x] (sp w))(y:∀(w)(H)(a)(ns:By),ns.length<=n->Ms H->BA (K w.params) H a (ns.map V.int)->sp w [.ref a] H (λv _=>v=.bl true) λ_ _ _=>False)(D:∀(w)(H)(s)(e)(s'),CX w [] H s (λ_ _ _=>False) e s'->False):PySem.W.WalkO q i XP E l.row.toRowW d [] (λf vs=>PySem.call f vs):=by show Att.attach_call L C λw s₀ m mg mb r o pm cd doc a vs ns G σ ho hd N B p j c M=>?_;let I:=O w _ σ;let[fd,hb,hF]:=F w mg r _ I G.T.g B;show ZO I G.T.g G.T.b G.T.builtins G.T.nolimit M p j (aR c A) J hF hb (λH ρ Q=>y w H a ns c ρ Q) λH e s'=>D w H m e s'
def EI(s:Stmt)(j:Nat):Stmt:=(match s with|.ClassDef _ _ _ body _ _ _ _ _ _ _=>body.getD j (.Pass #[(0),(0),(0),(0)])|_=>.Pass #[(0),(0),(0),(0)])
def Ct(s:Stmt):Arguments:=(match s with|.FunctionDef _ a _ _ _ _ _ _ _ _=>a|_=>{posonlyargs:=[],args:=[],vararg:=none,kwonlyargs:=[],kw_defaults:=[],kwarg:=none,defaults:=[]})
def CH(s:Stmt):Hq:=(match s with|.FunctionDef _ _ b _ _ _ _ _ _ _=>b|_=>[])
def AN(s:Stmt):Scope:=(match s with|.FunctionDef _ _ _ _ _ _ sc _ _ _=>sc|_=>{kind:=.function,names:=[],isGenerator:=false,isCoroutine:=false})
abbrev EJ:C6:=λ_ _ _ _ _ _=>False
abbrev E0:XK:=λ_ _ _=>False
def ZP:DH EJ X E0:=λ_ _ _ _ _ _ _ h=>h.elim
structure Fun(K:Fg)(x qual:Str)(st:Stmt)(f:Addr)(fd:FuncData):Prop where
 ex:∃(oc:Value)(od:Ge)(kV doc pm:Value)(an:Ge)(cdv ct:Value)(osl:Array Do),fd=PySem.W.fnOf x qual (Ct st) (CH st) (AN st) .none kV doc pm an cdv ct/\K.lookup f\{oc,od,.func fd,osl}/\PySem.W.codeIn K cdv qual=true
 kp:PySem.W.keepIn K (.ref f)=true
section
variable{P:Program}{K:Fg}
def Fun.ok{st}(F:Fun K x qual st f fd)(S:FnScope N ps (AN st))(len:∀vs H Q E,sp vs H Q E->vs.length=ps.length)(a:∀(cdv)(A)(outer)(s)(H)(vs)(Q)(E),Room k (A.deeper (envOfC qual (AN st) 'H' f cdv))->sp vs H Q E->∃t,BS (E7 EJ P w K mg base N qual (AN st) f cdv A outer s H E).nox (CH st) t/\t {nx:=λ_ H'=>Q .non H',rt:=Q} (start N vs) H):FnOk P w K mg base EJ (k+1) f fd ps sp:=by let[oc,od,kV,doc,pm,an,cdv,ct,osl,0,e,d]:=F.ex;show Jy e d S len λA outer s H vs Q E g c=>?_;let[t,h,q]:=a cdv A outer s H vs Q E g c;show#[t,h.nox,q]
def Fun.binds{st}(F:Fun K x qual st f fd)(h:∀(kV doc pm)(an:Ge)(cdv ct)(us:C2),us.length=ps.length->bindArgs (PySem.W.fnOf x qual (Ct st) (CH st) (AN st) .none kV doc pm an cdv ct) {us,[]}=pure (ps.zip us)):C7 K fd ps []:=by let[oc,od,kV,doc,pm,an,cdv,ct,osl,0,c,a]:=F.ex;show .all (h kV doc pm an cdv ct)
def Mt{st}{d:Array Do}{kV doc a}(l:K.lookup f\{oc,od,.func (PySem.W.fnOf x qual (Ct st) (CH st) (AN st) .none kV doc pm an a ct),d})(c:PySem.W.codeIn K a qual=true)(k:PySem.W.keepIn K (.ref f)=true):Fun K x qual st f (PySem.W.fnOf x qual (Ct st) (CH st) (AN st) .none kV doc pm an a ct):=#[#[oc,od,kV,doc,pm,an,a,ct,d,0,l,c],k]
end
def C8(a:Room k A):A.units+1<cLine:=Nat.lt_of_le_of_lt (Nat.add_le_add_left (by decide) _) a.units
def D3(h:n<=1000):n<sizeLine:=Nat.lt_of_le_of_lt h '3'
def pv(i)(e:X.N[i]?\x:=by rfl)(c:Ed X.env.scope x:=by trivial)(d:No x:=by decide)(a:N_ x:=by decide):PE X (.Name x pos) (tVar i):=Ef e c d a
def Bl{A B:Prop}(h:B):if false=true then A else B:=by rw[aB cH];show h
def D4{A B:Prop}(h:A):if true=true then A else B:=by rw[aC rfl];show h
def Aa{c A B:Prop}[Decidable c](h1:c->A)(h2:¬c->B):if c then A else B:=by simp_all
def DI(H H':Hp):Prop:=(∀b o,H b\o->H' b\o)
def DI.trans(a:DI H H1)(b:DI H1 H2):DI H H2:=λc o h=>b c o (a c o h)
def DI.free(e:DI H H')(h:H' l=Option.none):H l=Option.none:=by cases q:H l with|none=>rfl|some o=>rw[e l o q]at h;cases h
def DI.seq{K}(e:DI H H')(h:BA K H a xs):BA K H' a xs:=by
 rcases h with(h|⟨o,h⟩)|h
 .show .inl (.inl (e _ _ h))
 .show .inl (.inr {o,e _ _ h})
 .show .inr h
def ZQ:B3 X (.builtin "len") (λxs H Q=>∃a qH,xs=[V.ref a]/\H a\(.dK qH)/\Q (.int qH.length) H):=by rintro qA s Y H xs us Q I r⟨a,qH,rfl,d,q⟩;let[u,0,c]:=HE r;cases c;show Y0 I (.inl d) λt s' e=>{.int qH.length,H,e,#[t,0],q}
section
variable{κ:Type}[DecidableEq κ]
theorem RU:∀{l}{k:κ},l.Nodup->¬k∈l->(l++[k]).Nodup|[],k,_,_=>'2'|a::r,k,h,c=>by let[h1,h2]:=bC.mp h;show bC.mpr {λm=>?_,RU h2 λm=>c (aF.mpr (Or.inr m))};simp_all
end
def Cu(cells:List (Str×Addr)):List (Str×NameKind)->List (Str×Addr)->List (Str×Addr)|[],cs=>cs|(n,k)::r,cs=>Cu cells r (if(k==.free)=true then(match cells.lookup n with|some c=>(n,c)::cs|none=>cs)else cs)
def RV(h:∀y∈scope.names,y.2=NameKind.free->∃c,env.cells.lookup y.1\c):closureFor scope env=pure (Cu env.cells scope.names []):=by
 let all:∀(l)(f),(∀y∈l,y.2=NameKind.free->∃c,env.cells.lookup y.1\c)->(forIn l f λx r=>if(x.2==NameKind.free)=true then do let a<-cellOf env x.1;pure (ForInStep.yield ((x.1,a)::r))else pure (ForInStep.yield r))=(pure (Cu env.cells l f):Sem _):=by
  intro l
  induction l with|nil=>intro f _;rfl|cons y r i=>
   intro f j;let[n,k]:=y;let o:=λy m=>j y (bT _ m);rw[forIn_cons];by_cases g:(k==NameKind.free)=true
   .let[c,d]:=j (n,k) cA (~~~g);let d:=d;let e:cellOf env n=pure c:=by unfold cellOf;rw[d]
    simp only[g,dD,e,Cu,d];show i _ o
   .simp only[g,Cu];show i _ o
 show(aT (λz=>z>>=λr=>(pure r)) (all scope.names [] h)).trans rfl
theorem J8{a}{c}:∀{names}{cs},(Cu a names cs).lookup x\c->a.lookup x\c\/cs.lookup x\c
 |[],cs,h=>.inr h|(n,k)::r,cs,h=>by
  unfold Cu at h;let q||q:=J8 h
  .simp_all
  .split at q
   .cases f:a.lookup n with|none=>simp_all|some g=>rw[f]at q;rw[lookup_cons]at q;cases d:x==n with|true=>simp_all|false=>simp_all
   simp_all
theorem RW{a}:∀{names}{cs},(cs.lookup x).isSome=true->((Cu a names cs).lookup x).isSome=true
 |[],_,h=>h|(n,k)::r,cs,h=>by
  unfold Cu;show RW ?_;split
  .cases d:a.lookup n with|none=>show h|some e=>simp_all
  .show h
theorem Mu{a}{c}(d:a.lookup x\c):∀{names}{cs},(x,NameKind.free)∈names->((Cu a names cs).lookup x).isSome=true
 |(n,k)::r,cs,h=>by
  unfold Cu;let e||h:=aF.mp h
  .cases e;show RW ?_;simp_all
  .show Mu d h
theorem RX{env:Env}{x}:∀{names:List (Str×NameKind)},(∀y∈names,y.2≠NameKind.cell)->let l:=(names.map λ(n,k)=>if(k==NameKind.free&&env.scope.kind==.function&&env.kindOf n==some .cell)then(n,NameKind.cell)else(n,k)).lookup x
  (l\.cell\/l\.free)->(x,NameKind.free)∈names
 |[],_,h=>by let h||h:=h<;>simp at h|(n,k)::r,f,h=>by
  let d:=@RX env x r λy m=>f y (bT _ m);simp only[map_cons]at h d;by_cases c:(k==NameKind.free&&env.scope.kind==.function&&env.kindOf n==some .cell)=true
  .rw[aC c,lookup_cons]at h;let g:k=.free:=by rw[Bool.and_assoc,cB]at c;simpa using c.1
   cases a:x==n with|true=>
    let e:x=n:=by simpa using a
    subst e;rw[g];show cA|false=>rw[a]at h;show bT _ (d h)
  .rw[aB c,lookup_cons]at h;cases a:x==n with
   |true=>
    let e:x=n:=by simpa using a
    subst e;rw[a]at h;let h||h:=h
    .show bS (oI h) (f (x,k) cA)
    .rw[oI h];show cA|false=>rw[a]at h;show bT _ (d h)
theorem RY{env:Env}:∀{names:List (Str×NameKind)}{x},names.lookup x\.free->let l:=(names.map λ(n,k)=>if(k==NameKind.free&&env.scope.kind==.function&&env.kindOf n==some .cell)then(n,NameKind.cell)else(n,k)).lookup x
  (l\.cell\/l\.free)
 |[],_,h=>by simp at h|(n,k)::r,x,h=>by
  let c:=@RY env r x;simp only[map_cons]at c⊢;by_cases d:(k==NameKind.free&&env.scope.kind==.function&&env.kindOf n==some .cell)=true
  .rw[aC d,lookup_cons];cases a:x==n with|true=>show .inl rfl|false=>rw[lookup_cons,a]at h;show c h
  .rw[aB d,lookup_cons];cases a:x==n with|true=>simp_all|false=>rw[lookup_cons,a]at h;show c h
structure CompP where
 cl:List (Str×Addr)C:Addr
 s:Shared
 H:Hp
 fp:Gn
 qA:List (Addr×Obj)
def Cx.comp(X:Cx)(N':At)(scope:Scope)(p:CompP):Cx where
 prog:=X.prog
 w:=X.w
 K:=X.K
 mg:=X.mg
 base:=X.base
 A:=X.A
 N:=N'
 s₀:=p.s
 H₀:=p.H
 env:=compEnvC scope p.cl p.C X.env
 outer:=X.stack
 stack:=X.stack
 ex:=p.fp
 fn:=λ_=>false
 calm:=X.calm
 pn:=X.pn++p.qA
 xe:=λ_ _=>False
structure CompScope(N:At)(sc:Scope)(N':At)(qD:List (Option Nat))(scope:Scope):Prop where
 kind:scope.kind=.function
 nocell:∀y∈scope.names,y.2≠NameKind.cell
 names:∀y∈scope.names,y.2=NameKind.local->scope.names.lookup y.1\.local
 free:∀y∈scope.names,y.2=NameKind.free->scope.names.lookup y.1\.free
 has:∀y∈scope.names,y.2=NameKind.free->(sc.names.lookup y.1\.cell\/sc.names.lookup y.1\.free)len:qD.length=N'.length
 cap:∀q∈qD.zip N',q.1=none\/(N[q.1.getD 0]?\q.2/\(q.2,NameKind.free)∈scope.names)
def picked(Y:St)(qD:List (Option Nat)):St:=(qD.map λo=>match o with|none=>none|some j=>(Y[j]?).join)
def GO(X:Cx)(ifs:He)(t:TT):Prop:=(∀(qA:List (Addr×Obj))(s:Shared)(Y:St)(H:Hp)(Q:Bool->Hp->Prop),Inv X qA Y H s->t Y H Q->'B' (forIn ifs true λc r=>if r=true then do let ok<-isTrue c X.env (eval c X.env);pure (ForInStep.yield ok)else pure (ForInStep.yield r)) (TP X qA Y Q) X.xe s)
def RZ:TT:=(λ_ H Q=>Q true H)
def HJ:GO X [] RZ:=λqA s Y H Q I h=>wpAny_tests_nil #[H,I,h]
def Ra{c}(h:PT X c t):GO X [c] t:=λqA s Y H Q I q=>wpAny_tests_one (h qA s Y H Q I q)
def ZR{bz a}{it o}(I:Nat->Shared->Prop)(turn:∀n s,I n s->'C' (pyNext it) (λr s₁=>match r with|none=>R (.ok .next) s₁|some v=>'C' (letOwnedTupleGo a it v) (λ_ e=>'C' (assign a env v) (λ_ s₂=>'C' (forIn ifs true λc r=>if r=true then do let ok<-isTrue c env (eval c env);pure (ForInStep.yield ok)else pure (ForInStep.yield r)) (λok d=>if ok=true then 'C' (eval bz env) (λx g=>'C' (call (.builtin "list.append") [o,x]) (λ_ f=>∃m,m<n/\I m f) '9' g) '9' d else∃m,m<n/\I m d) '9' s₂) '9' e) '9' s₁) '9' s)(n)(h:I n s):codeAny (model prog w) A (.compLoop (.ListComp bz [#[a,iter,ifs,(0)]] scope pos) 0 it o env) R s:=by show codeAny_loop rfl I (λn s y=>?_) n h;show wpAny_noted ?_;show wB (wpAny_standAt (wB (bL (turn n s y) (λr s₁ j=>?_) λ_ _ h'=>h'.elim)));cases r with|none=>show wP j|some v=>show wB (bL j (λ_ e l=>?_) λ_ _ h'=>h'.elim);show wB (bL l (λ_ s₂ u=>wB (bL u (λok d i=>?_) λ_ _ h'=>h'.elim)) λ_ _ h'=>h'.elim);cases ok with|false=>show wP #[0,i]|true=>show wB (wB (bL i (λx g q=>wB (bL q (λ_ f p=>wP (wP #[0,p])) λ_ _ h'=>h'.elim)) λ_ _ h'=>h'.elim))
def HK(J:It)(qD:List (Option Nat))(g:TG)(tt:TT)(te:TE)(Y:St)(Q:VK)(H1:Hp):Prop:=(∀D,H1 D=none->∃W:Nat->Nat->dH->Hp->Prop,(∃m,W 0 m [] (AA H1 D (.lst [])))/\∀i m ys H2,W i m ys H2->H2 D\(.lst ys)/\((J.stop i H2/\Q (.ref D) H2)\/(J.go i H2/\∃M:dH->Hp->Prop,(∀zs H',M zs H'->∃m',m'<m/\W (i+1) m' zs H')/\∀x H3,J.yld i H2 x H3->g x (L2.picked Y qD) H3 λσ4 H4=>tt σ4 H4 λb H5=>if b=true then te σ4 H5 λy H6=>H6 D\(.lst ys)/\ys.length<sizeLine/\M (ys++[y]) (AA H6 D (.lst (ys++[y])))else M ys H5)))
def J9(wi:TI)(qD:List (Option Nat))(g:TG)(tt:TT)(te:TE):TE:=(λY H Q=>wi Y H λJ H1=>HK J qD g tt te Y Q H1)
def Fh(qD:List (Option Nat))(g:TG):Prop:=(∀(Y:St)(x:V)(H:Hp)(Q:St->Hp->Prop),g x (L2.picked Y qD) H Q->g x (L2.picked Y qD) H λσ' H'=>Q σ' H'/\∀(k:Nat)v,(L2.picked Y qD)[k]?\(some v)->σ'[k]?\(some v))
def KA(h:qD[i]?\none):(L2.picked Y qD)[i]?\none:=by unfold L2.picked;simp_all
def KB(h:qD[i]?\none):Fh qD (CK i):=λY x H Q q=>{q,λk v e=>by
 let ne:i≠k:=λz=>by subst z;rw[KA h]at e;cases e
 rw[bV ne];show e}
def KC{K}(h:qD[i]?\none)(h':qD[j]?\none):Fh qD (gTup K 2 (gCons (CK i) (gCons (CK j) FZ))):=by
 rintro Y x H Q⟨a,xs,rfl,d,f,v,r,rfl,v',g,rfl,rfl,q⟩;show{a,_,0,d,f,v,_,0,v',_,0,0,q,λk v e=>?_};let ne:i≠k:=λz=>by subst z;rw[KA h]at e;cases e
 let c:j≠k:=λz=>by subst z;rw[KA h']at e;cases e
 rw[bV c,bV ne];show e
section
variable{N':At}{bz:Expr}{wi:TI}
def Rb{C:Addr}{m:Str->Do}(S:CompScope N sc N' qD scope)(hN:X.N=N)(E:X.env.scope=sc)(I:Inv X qA Y H s)(ρ:∀b∈fp,Ci X qA H b)(a3:∀b∈fp,∃o,'F' b\o)(σ:'H'<=C)(J:∀b o,'F' b\o->s4.heap.get? b\o)(hn:s4.heap.Ns C m)(ho:s4.os=s.os)(hg:s4.gens=s.gens):Inv (X.comp N' scope {Cu X.env.cells scope.names [],C,s,H,fp,qA}) [] (L2.picked Y qD) H s4:=by
 let ok:=I.ok;let Q:=λy hy=>by let q:=S.has (y,.free) hy rfl;rw[<-E]at q;show ok.has y q
 let sub:∀y c,(Cu X.env.cells scope.names []).lookup y\c->X.env.cells.lookup y\c:=λy c e=>by
  let q||q:=J8 e
  .show q
  .simp at q
 show#[{ok.mod,S.kind,ok.glob,ok.blt,σ,λx y c T f=>ok.inj x y c (sub x c T) (sub y c f),λx hx=>?_,λx c z _=>(nomatch(z)),ok.hd,ok.frames,.inl rfl,λb hb=>{λz=>?_,λx c e=>(ρ b hb).2.2.2.2.1 x c (sub x c e)},I.bs,aR ok.bsz I.sz,λb o e hb=>?_,λb hb z=>?_,I.stack,I.stkFree},ho,by rw[hg];show I.bare,Un.kept J,{m,hn,λi x v T f e3=>?_},λx c e=>?_,I.hok.fresh σ,λx c e=>I.freeC x c (sub x c e),λp hp=>?_,I.hok.kept J,?_]
 .let D:=RX S.nocell hx;let[c,O]:=Q x D;show Option.isSome_iff_exists.mp (Mu O D)
 .let[o,e]:=a3 b hb;let e':=z;show bS (aU (bN e) (e'▸σ)) (aX _)
 .let q||q:=(ρ b hb).2.2.2.1
  .show ok.noex b o e q
  .show bS (aU (bN e) (aR ok.bsz q)) (aX _)
 .let q||q:=aF.mp (I.stkSub b z)
  .show(ρ b hb).2.1 q
  .show(ρ b hb).2.2.1 q
 .--a A name
  let hi:i<qD.length:=by
   let q||q:=cE i qD.length
   .show q
   .unfold L2.picked at f;rw[bQ (~~~q)]at f;cases f
  obtain⟨o,G⟩:∃o,qD[i]?\o:={qD[i],by simp[hi]};unfold L2.picked at f;rw[bO,G]at f;cases o with|none=>cases f|some j=>
   let f:some ((Y[j]?).join)\(some v):=f;let T:=T;let hz:(some j,x)∈qD.zip N':=by show aM (i:=i) ?_;rw[getElem?_zip_eq_some];show#[G,T]
   let[c1,c2]:=(S.cap _ hz).resolve_left '5';let c1:=c1;let e3:Y[j]?\(some v):=by let q:=oI f;cases B:Y[j]? with|none=>rw[B]at q;cases q|some y=>rw[B]at q;show aT some q
   rw[<-hN]at c1;let[m0,a5,a2]:=I.loc;let kq:=S.has (x,.free) c2 rfl;rw[<-E]at kq;let[u,r,l]:=a2 j x v c1 e3 (kq.elim (λz=>.inr (.inl z)) λz=>.inr (.inr z));show#[u,r,?_];let[c,O]:=Q x c2;let[c',M]:=Option.isSome_iff_exists.mp (Mu O c2);let a4:=oI ((sub x c' M).symm.trans O);subst a4;let a0:(compEnvC scope (Cu X.env.cells scope.names []) C X.env).kindOf x\.cell\/(compEnvC scope (Cu X.env.cells scope.names []) C X.env).kindOf x\.free:=by show RY (S.free (x,.free) c2 rfl)
   done<;>let[k,_]||[_,a7,L,w]:=l
   .exfalso;let k:X.env.scope.names.lookup x\.local:=k;let z||z:=kq
    .rw[k]at z;cases z
    .rw[k]at z;cases z
   .rw[O]at L;cases L;let[oc,g,hd]:=w;show .inr {a0,c',M,oc,J _ _ g,hd}
 .let[v,oc,g,hd]:=I.cell x c (sub x c e);show{v,oc,J _ _ g,hd}
 .let a1:p∈X.pn++qA:=by let hp:p∈(X.pn++qA)++[]:=hp;simpa using hp
  done<;>let[e,n,ne,nf,d]:=I.pin p a1;show{J _ _ e,n,λz=>?_,λz=>?_,d}
  .let z:=z;show bS (aU (bN e) (z▸σ)) (aX _)
  .let q||q:=aF.mp (I.stkSub _ z)
   .show ne q
   .show nf q
 .unfold L2.picked;rw[aA];show S.len
def Re{Q}{QQ:VS}(S:CompScope N sc N' qD scope)(hN:X.N=N)(a8:X.env.scope=sc)(hc:X.calm=true)(hi:PI X tg iter wi)(hk:Fh qD g)(hg:∀p,PG (X.comp N' scope p) tg g)(ht:∀p,GO (X.comp N' scope p) ifs tt)(he:∀p,PE (X.comp N' scope p) bz te)(hs:∀x,foldedSetIterable iter X.env x=pure x)(I:Inv X qA Y H s)(h:J9 wi qD g tt te Y H Q)(fin:∀(D C)(H')(s')(m:Str->Do),Inv X qA Y H' s'->Q (.ref D) H'->H' C=none->C≠X.env.locals->X.s₀.heap.objs.size<=C->(∀x c,X.env.cells.lookup x\c->c≠C)->(∀p∈X.pn++qA,p.1≠C)->s'.heap.Ns C m->compPost (model X.prog X.w) X.A X.xe a0 QQ (.ref D) C (.ok .next) s'):'B' (comprehension (.ListComp bz [#[tg,iter,ifs,(0)]] scope pos) scope X.env (firstIterPos [#[tg,iter,ifs,(0)]] pos) (newList []) false (eval iter X.env) a0) QQ X.xe s:=by
 let aa:=λy hy e=>by let q:=S.has y hy e;rw[<-a8]at q;show I.ok.has y.1 q
 show wpAny_comprehension_free rfl hs (RV aa) S.kind S.names (AR (hi qA s Y H _ I h) λv s1 h1=>AR h1 λas a h2=>?_);done<;>(done<;>(let[it,E,tn,J,H2,e,I2,T,a2,G,q]:=h2;subst e;let ae:=I2.fresh;let[W,[m0,w0],a3]:=q a.heap.objs.size ae));show cG (wpAny_newFunctionEnv S.nocell (by intro y hy;simp at hy) (λh₁ j f=>?_) S.kind);dsimp only at j f⊢;let I3:Inv X qA Y (AA H2 a.heap.objs.size (.lst [])) {a with heap:=a.heap.push {cls:=.type "list",dict:=none,data:=.seq ([]:C2).toArray}}:=I2.lnew .nil (cD _)
 generalize ρ:a.heap.push {cls:=.type "list",dict:=none,data:=.seq ([]:C2).toArray}=G3 at j f I3⊢;let f3:∀b∈E,Ci X qA (AA H2 a.heap.objs.size (.lst [])) b:=λb hb=>by done<;>let[o,e,_]:=T.obj _ _ a2 b hb;show{?_,(G b hb).2};rw[AE (bX (bN e))];show(G b hb).1
 let a9:∀b∈E,∃o,G3.get? b\o:=λb hb=>by done<;>let[o,e,_]:=T.obj _ _ a2 b hb;show{o,ρ▸aS _ e}
 let a7:∀b o,G3.get? b\o->h₁.get? b\o:=λb o e=>(f.2 b (bX (bN e))).trans (aS _ e);let I4:=Rb (s4:={a with heap:=h₁,toks:=a.toks+([]:List (Str×Value)).length}) S hN a8 I3 f3 a9 (aQ G3.objs.size) a7 j rfl rfl;let a6:=T.keep _ _ _ a2 λb hb o e=>a7 b o (ρ▸aS _ e);let O:a.heap.objs.size<=G3.objs.size:=by rw[<-ρ,Heap.size_push];show cS _
 generalize B:({Cu X.env.cells scope.names [],G3.objs.size,{a with heap:=G3},AA H2 a.heap.objs.size (.lst []),E,qA}:CompP)=p at I4;let sub:∀y c,(X.comp N' scope p).env.cells.lookup y\c->X.env.cells.lookup y\c:=λy c e=>by
  subst B;done<;>let q||q:=J8 e
  .show q
  .simp at q
 let l:∀{H'},(∀b∈E,H' b=none)->∀b∈E,Ci (X.comp N' scope p) [] H' b:=λhn b hb=>by
  show{hn b hb,λz=>?_,λz=>?_,.inl (by subst B;show hb),λx c e=>(G b hb).2.2.2.2.1 x c (sub x c e),λq hq=>?_}
  .subst B;done<;>let[o,e]:=a9 b hb;let z:=z;show bS (bN e) (by rw[z];show aX _)
  .subst B;done<;>let q||q:=aF.mp (I2.stkSub b z)
   .show(G b hb).2.1 q
   .show(G b hb).2.2.1 q
  .show(G b hb).2.2.2.2.2 q ?_;subst B;let hq:q∈(X.pn++qA)++[]:=hq;simpa using hq
 let σ:codeAny (model X.prog X.w) X.A (.compLoop (.ListComp bz [#[tg,iter,ifs,(0)]] scope pos) 0 (.ref it) (.ref a.heap.objs.size) (X.comp N' scope p).env)
   (compPost (model X.prog X.w) X.A X.xe a0 QQ (.ref a.heap.objs.size) G3.objs.size) {a with heap:=h₁,toks:=a.toks+([]:List (Str×Value)).length}:=by
  show ZR (λn s'=>∃i ys H',Inv (X.comp N' scope p) [] (L2.picked Y qD) H' s'/\tn i s'.heap/\(∀b∈E,H' b=none)/\W i n ys H') ?_ m0 {(0),[],_,I4,a6,λb hb=>(f3 b hb).1,w0};rintro n s5 iq;done<;>let[i,ys,H5,I5,a5,ac,w5]:=iq;done<;>(let[hD,al]:=a3 i n ys H5 w5;let[a4,qn]||[go,M,hM,step]:=al)
  .show AR (T.done (X.comp N' scope p) rfl rfl rfl hc i [] s5 _ H5 _ I5 (l ac) a5 a4) λr s6 zz=>?_;let[hr,I6]:=zz;subst hr;let[m6,aj,_]:=I6.loc;let un:Un (frs X.stack) E H2 H5 a.heap s6.heap:=by let u1:Un (frs X.stack) E H2 (AA H2 a.heap.objs.size (.lst [])) a.heap G3:=Un.laid (λb o e=>ρ▸aS _ e) (aQ _) ae;let u2:=I6.base;subst B;show u1.trans u2
   let IO:=I2.call' (by let e:=I6.os;subst B;show e) un (by let e:=I6.hok;subst B;show e) I6.bare λb hb=>{(G b hb).2.2.2.1,(G b hb).2.1,(G b hb).2.2.2.2.1,(G b hb).2.2.2.2.2};show fin _ _ H5 s6 m6 IO qn ?_ ?_ ?_ ?_ ?_ ?_
   .let e:=I6.free;subst B;show e
   .show Nat.ne_of_gt (aU I2.lt O)
   .show aR I2.sz O
   .intro x c e z;let[v,q]:=I2.cell x c e;show bS (aU q.lt O) (by rw[z];show aX _)
   .intro q hq z;show bS (aU (bN (I2.pin q hq).1) O) (by rw[z];show aX _)
   .subst B;show aj
  .show AR (T.item (X.comp N' scope p) rfl rfl rfl hc i [] s5 _ H5 _ I5 (l ac) a5 go) λr s6 zz=>?_;let[u,hr,h6]:=zz;subst hr;show AR h6 λ_ s7 zz=>?_;let[x,H7,I7,r7,y7,a1,ak]:=zz;let am:=I7.pinned (l ak) (T.obj _ _ a1);show AR (hg p _ s7 _ H7 x u _ am r7 (hk Y x H7 _ (step x H7 y7))) λ_ s8 zz=>?_;done<;>let[L,H8,I8,q8,w8]:=zz;show AR (ht p _ s8 L H8 _ I8 q8) λok s9 zz=>?_;let[H9,I9,q9]:=zz;let back:∀{H'}{s'},Inv (X.comp N' scope p) ([]++HB E s7.heap) L H' s'->∀{k:Nat}{zs},M zs H'->∃m,m<n/\∃i ys H'',Inv (X.comp N' scope p) [] (L2.picked Y qD) H'' s'/\tn i s'.heap/\(∀b∈E,H'' b=none)/\W i m ys H'':=λ{H' s'}I'{k zs}mz=>by
    let[m',hm,w']:=hM _ _ mz;show{m',hm,i+1,zs,H',?_,T.keep _ _ _ a1 λb hb o e=>(I'.pin (b,o) (cC _ (cC _ (HC hb e)))).1,λb hb=>?_,w'}
    .show(I'.unpinned).weak ?_ w8;rw[(I'.unpinned).len,I7.len]
    .let[o,e,d]:=T.obj _ _ a1 b hb;show(I'.pin (b,o) (cC _ (cC _ (HC hb e)))).2.1
   cases ok with|false=>show back I9 (k:=0) q9|true=>show AR (he p _ s9 L H9 _ I9 q9) λv af zz=>?_;done<;>let[y,ap,ao,ag,ab,hz,ai]:=zz;show AR (HI _ af L ap (.ref a.heap.objs.size) [y] _ [v] (λ_ H'=>M (ys++[y]) H') ao rfl (.cons ag .nil) #[_,ys,y,0,0,ab,hz,ai]) λw aq zz=>?_;done<;>let[z,au,an,ar,ah]:=zz;show back an (k:=0) ah
 subst B;show codeAny_compStart_list σ (T.self _ 0 _ _ _ a6 σ)
def IW(S:CompScope N sc N' qD scope)(A:X.calm=true)(hi:PI X tg iter wi)(v:Fh qD g)(w:∀p,PG (X.comp N' scope p) tg g)(n:∀p,GO (X.comp N' scope p) ifs tt)(y:∀p,PE (X.comp N' scope p) bz te)(B:X.N=N:=by rfl)(a:X.env.scope=sc:=by rfl)(r:∀x,foldedSetIterable iter X.env x=pure x:=by rfl):PE X (.ListComp bz [#[tg,iter,ifs,(0)]] scope pos) (J9 wi qD g tt te):=by intro qA s Y H Q I h;show Re S B a A hi v w n y r I h λD C H' s' m IO q l j i f d u=>?_;show#[m,u,λh' c=>{.ref D,H',IO.turned (λb o hb e=>(c.2 b hb).trans e) l (Ne.symm (Ne.symm j)) (.inr i) f d,0,q}]
def Mv{r}(S:CompScope N sc N' qD scope)(l:X.N.Nodup)(n:X.N[i]?\x)(J:Ee X.env.scope x)(hc:X.calm=true)(hi:PI X tg iter wi)(T:Fh qD g)(ρ:∀p,PG (X.comp N' scope p) tg g)(L:∀p,GO (X.comp N' scope p) ifs tt)(he:∀p,PE (X.comp N' scope p) bz te)(hN:X.N=N:=by rfl)(d:X.env.scope=sc:=by rfl)(c:swapsWith (.ListComp bz [#[tg,iter,ifs,(0)]] scope pos) (some (.Name x pos')) r.line X.env=pure true:=by rfl)(M:∀x,foldedSetIterable iter X.env x=pure x:=by rfl)(σ:X.fn x=true\/X.env.scope.names.lookup x\.local:=by trivial):PS X (.Assign [.Name x pos'] (.ListComp bz [#[tg,iter,ifs,(0)]] scope pos) r) (Eh (J9 wi qD g tt te) (CK i)):=by
 intro qA s Y H D I h;rw[exec_Assign_Name_used _ _ _ _ c];show wB (wpAny_standAt (wB ?_));show wB (AR (Re S hN d hc hi T ρ L he M I h λD' C H' s' m IO q G w E u B Q=>?_) λ_ s' O=>wP (wP O));show wpAny_assign_Name (MI (v:=V.ref D') IO l n J rfl (λy I2 zz=>?_) σ);let[a,f,ha]:=zz;let A:C≠a:=by
  let e||e:=ha
  .rw[e];show w
  .showλz=>u _ _ e z.symm
 show#[m,Q.sameBut f A,λh' j=>{_,H',I2.turned (λb o hb e=>(j.2 b hb).trans e) G w (.inr E) u B,q}]
end
section
variable{K:Fg}{xs:dH}{Q:VK}{J:It}
def Mw{y:Nat->V->Prop}(Pv:Addr->Nat->dH->Hp->Prop)(w:∀D,H D=none->Pv D 0 [] (AA H D (.lst [])))(v:∀D i ys H2,H D=none->i<=n->Pv D i ys H2->H2 D\(.lst ys))(h:∀D i ys H2,H D=none->i<n->Pv D i ys H2->J.go i H2)(c:∀D ys H2,H D=none->Pv D n ys H2->J.stop n H2)(r:∀D i ys H2 x j,H D=none->i<n->Pv D i ys H2->J.yld i H2 x j->y i x/\j=H2)(s:∀D,H D=none->∀i x ys H2,i<n->y i x->Pv D i ys H2->g x (L2.picked Y qD) H2 λf H4=>tt f H4 λb H5=>if b=true then te f H5 λy H6=>H6 D\(.lst ys)/\ys.length<sizeLine/\Pv D (i+1) (ys++[y]) (AA H6 D (.lst (ys++[y])))else Pv D (i+1) ys H5)(u:∀D ys H2,H D=none->Pv D n ys H2->Q (.ref D) H2):HK J qD g tt te Y Q H:=by
 intro D d;show{λi m ys H2=>m=n-i/\i<=n/\Pv D i ys H2,{n,'2',cD _,w D d},?_};rintro i m ys H2⟨rfl,hi,p⟩;show{v D i ys H2 d hi p,?_};by_cases a:i<n
 .show .inr {h D i ys H2 d a p,Pv D _,λzs H' q=>{n-(i+1),⋯,0,a,q},λx H' z=>?_};let[o,l]:=r D i ys H2 x H' d a p z;subst l;show s D d i x ys _ a o p
 .let e:i=n:=⋯;subst e;show .inl {c D ys H2 d p,u D ys H2 d p}
def Rf(Pv:Addr->Nat->dH->Hp->Prop)(l:∀D,H D=none->Pv D 0 [] (AA H D (.lst [])))(e:∀D i ys H2,H D=none->i<=xs.length->Pv D i ys H2->H2 D\(.lst ys)/\BA K H2 a xs)(h:∀D,H D=none->∀i x ys H2,xs[i]?\x->Pv D i ys H2->g x (L2.picked Y qD) H2 λd H4=>tt d H4 λb H5=>if b=true then te d H5 λy H6=>H6 D\(.lst ys)/\ys.length<sizeLine/\Pv D (i+1) (ys++[y]) (AA H6 D (.lst (ys++[y])))else Pv D (i+1) ys H5)(j:∀D ys H2,H D=none->Pv D xs.length ys H2->Q (.ref D) H2):HK (EG K a) qD g tt te Y Q H:=Mw Pv l (λD i ys H2 c hi p=>(e D i ys H2 c hi p).1) (λD i ys H2 c hi p=>{xs,xs[i],(e D i ys H2 c (aY hi) p).2,by simp[hi]})
  (λD ys H2 c p=>{xs,(e D _ ys H2 c (aQ _) p).2,aQ _}) (λD i ys H2 x m c hi p z=>{z.2 xs (e D i ys H2 c (aY hi) p).2,z.1}) (λD c i x ys H2 _ f p=>h D c i x ys H2 f p) j
def ZS(Pv:Addr->Nat->dH->Hp->Prop)(j:∀D,H D=none->Pv D 0 [] (AA H D (.lst [])))(h:∀D i ys H2,H D=none->i<=n->Pv D i ys H2->H2 D\(.lst ys))(e:∀D,H D=none->∀(i)ys H2,i<n->Pv D i ys H2->g (.int (lo+i)) (L2.picked Y qD) H2 λa H4=>tt a H4 λb H5=>if b=true then te a H5 λy H6=>H6 D\(.lst ys)/\ys.length<sizeLine/\Pv D (i+1) (ys++[y]) (AA H6 D (.lst (ys++[y])))else Pv D (i+1) ys H5)(f:∀D ys H2,H D=none->Pv D n ys H2->Q (.ref D) H2):HK (EH lo n) qD g tt te Y Q H:=Mw Pv j h (λD i ys H2 c hi p=>hi) (λD ys H2 c p=>aQ _) (λD i ys H2 x l c hi p z=>#[z.2,z.1])
  (λD c i x ys H2 hi d p=>by subst d;show e D c i ys H2 hi p) f
end
def KD(xs:dH):It:=({λi _=>i<xs.length,λi H x H'=>H'=H/\xs[i]?\x,λi _=>xs.length<=i})
def D5(z:Str):dH:=(z.cps.toList.map λc=>V.str {[c].toArray})
def Rg(z):(D5 z).length=z.length:=by unfold D5;rw[aA];show bR
theorem ZT{K}(j:ty="str_ascii_iterator"\/ty="str_iterator")(x)(t)(it):Turn P w K tg (KD (D5 x)) [it] it (λi h=>h.IsStrIter it ty x t i)where
 mem:='2'
 obj:=λi h st b hb=>by
  let e:b=it:=by simpa using hb
  subst e;let[o,e,c,d]:=st;show{o,e,λv z=>by rw[d]at z;cases z}
 keep:=λi h h' st k=>by let[o,e,r]:=st;show{o,k it '2' o e,r}
 item:=by
  intro X G B J D i qA s Y H E I l st C;subst G B J;let hi:i<x.cps.size:=by let h:i<(D5 x).length:=C;rw[Rg]at h;show h
  let[y,q,O,p,n,m]:=l it '2';let f:x.cps[i]?\x.cps[i]:=by simp[hi]
  let g:∀h',h'.IsStrIter it ty x t (i+1)->Heap.SameBut it s.heap h'->∃u,(some (Value.str {[x.cps[i]].toArray} s.toks))\u/\'B' (letOwnedTupleGo tg (.ref it) u) (λ_ M=>∃x' H',Inv X qA Y H' M/\AV x' u/\(KD (D5 x)).yld i H x' H'/\M.heap.IsStrIter it ty x t (i+1)/\∀b∈[it],H' b=none) E {s with heap:=h',toks:=s.toks+1}:=by intro h' a N;let T:Inv X qA Y H {s with heap:=h',toks:=s.toks+1}:=I.turned (λb o hb e=>(N.2 b hb).trans e) y q p n m;let[o,e,c,d]:=id a;show#[_,0,G9 e c d (by let z||z:=j<;>rw[z]<;>decide) {.str {[x.cps[i]].toArray},H,T,#[_,0],#[0,?_],a,λb hb=>(l b hb).1}];unfold D5;simp[hi]
  let z||z:=j
  .subst z;show wpAny_pyNext_ascii_item st f g
  .subst z;show wpAny_pyNext_wide_item st f g
 done:=by
  intro X G B J D i qA s Y H E I l st C;let hi:x.cps.size<=i:=by let h:(D5 x).length<=i:=C;rw[Rg]at h;show h
  let[y,q,O,p,n,m]:=l it '2';let f:x.cps[i]?=none:=by simp[hi]
  let z||z:=j
  .subst z;show wpAny_pyNext_ascii_end (I.ok.hd D) st f λh' L=>{0,I.turned (λb o hb e=>L b o hb e) y q p n m}
  .subst z;show wpAny_pyNext_wide_end (I.ok.hd D) st f λh' L=>{0,I.turned (λb o hb e=>L b o hb e) y q p n m}
 self:=λA i s Q E st h=>by
  let z||z:=j
  .subst z;show wpAny_pyIter_striter_ascii st h
  .subst z;show wpAny_pyIter_striter_wide st h
def ZU(te:TE):TI:=(λY H R=>te Y H λx H1=>∃z,x=.str z/\R (KD (D5 z)) H1)
section
variable{e:Expr}
def ZV(i:PE X e te):PI X tg e (ZU te):=by
 intro qA s Y H R I h;show AR (i qA s Y H _ I h) λv a zz=>?_;let[x,H1,c,g,z,j,q]:=zz;subst j;let[t,0]:=g;let base:∀(ty)(d),MP X qA Y tg R _ {a with heap:=a.heap.push {cls:=.type ty,data:=.fields [.str z t,.int 0 0].toArray}}:=λty d=>by
  let l:Inv X qA Y H1 {a with heap:=a.heap.push {cls:=.type ty,data:=.fields [.str z t,.int 0 0].toArray}}:=c.kept λb m q=>aS _ q;show{a.heap.objs.size,[a.heap.objs.size],_,_,H1,0,l,ZT d z t _,{_,bP _ rfl,0,0},λb hb=>?_,q};let e:b=a.heap.objs.size:=by simpa using hb
  subst e;show c.fpOk (aQ _) c.fresh
 cases f:z.cps.all _
 .show wpAny_pyIter_wide f (base _ (.inr rfl))
 .show wpAny_pyIter_ascii f (base _ (.inl rfl))
end
def Rh:A1 X (compareOp .LtE) (λx y H Q=>∃i j,x=.str i/\y=.str j/\Q (.bl (!decide (j.cps.toList<i.cps.toList))) H):=by rintro qA s Y H x y v u Q I c a⟨i,j,rfl,rfl,q⟩;let[t,0]:=c;let[t',0]:=a;show P.le_str {.bl _,H,I,0,q}
def Ri:V->Option Int->Option Int->Hp->VK->Prop:=(λx lo hi H Q=>∃z,x=.str z/\z.length<=sizeLine/\Q (.str (Txt.slice z lo hi)) H)
def Rj{v}{o}(h:IsPart v o):∃l,l.map (·.1)=o/\partValue l=v:=by cases h with|none=>show#[none,0,0]|int i t=>show{some (i,t),0,0}
def Rk:D0 X Ri:=by rintro qA s Y H x v g f lo hi sl Q I a e pl c⟨z,rfl,d,q⟩;let[t,0]:=a;let[l,0,0]:=Rj pl;let[u,0,0]:=Rj c;show{"str",_,F.slot_str_getitem.lookup,typeIs_str _ _ _,wpAny_getItem_str_slice (st:=none) e rfl ?_};show post_val_or_str #[aR (Txt.slice_le z _ _) d,λt' k=>{.str _,H,I.tok k,#[t',0],q}]
theorem Mx:∀{ys:At}{us},AZ (ys.map V.str) us->StrsAre us ys|[],_,.nil=>.nil|y::ys,_,.cons ⟨t,e⟩ r=>by subst e;show .cons y t (Mx r)
def ZW(K:Fg):V->dH->Hp->VK->Prop:=(λx vs H Q=>∃z p ys,x=.str z/\vs=[.ref p]/\BA K H p (ys.map V.str)/\(ys.map (·.length)).sum+ys.length*z.length<=16777216/\Q (.str (Txt.join z ys)) H)
def ZX:HG X "str.join" (ZW X.K):=by rintro qA s Y H x vs v us Q I c rv⟨z,p,ys,rfl,rfl,e,a,q⟩;let[t,0]:=c;let[u,0,d]:=rv.one;cases d;let[qG,r,pl,f]:=I.list e;show join_list pl.isList (Mx (~~~r)) a λt' k=>{.str _,H,I.tok k,#[t',0],q}
theorem Mz:∀{bs}{us},AZ (bs.map V.bl) us->LSm.BoolsAre us bs|[],_,.nil=>.nil|b::bs,_,.cons e r=>by cases e;show .cons b (Mz r)
def Eo(l:X.calm=true):B3 X (.builtin "all") (λxs H Q=>∃(p:Addr)(bs:List Bool),xs=[.ref p]/\BA X.K H p (bs.map V.bl)/\Q (.bl (bs.all id)) H):=by
 rintro qA s Y H xs us Q I r⟨p,bs,rfl,g,q⟩;let[u,0,f]:=r.one;cases f;let[qG,r,pl,n]:=I.list g;let hb:=Mz r;let c:=pl.isList;let a:p<'H':=by let[_,e,_]:=c;show bN e
 show call_all_walk (wpAny_pyIter_list c ?_);show{'H',['H',p],['H'],qG.toArray.size,_,_,λi=>(bs[i]?).getD true,0,Walks.list (A:=X.A.in1) (I.ok.hd l) _ p (bX a) qG.toArray,#[{_,bP _ rfl,0,0},c.push _],λi v s' o w m d=>?_,λh' tk j=>?_}
 .let[b,e,0]:=hb.get i v (~~~m);simp only[e,Option.getD_some]at d;show wpAny_truthy_bool d
 .let e:((List.range qG.toArray.size).all λi=>(bs[i]?).getD true)=bs.all id:=by rw[size_toArray,hb.length];show LSm.range_all bs
  rw[e];show{.bl _,H,I.kept (LSm.kept_iter j),0,q}
def Rl:A1 X (binaryOp .FloorDiv) (rI (λ_ j=>0<j/\j<2^64) λi j=>.int (i/j)):=IQ λi j t u s E Q a q=>by
 let e:i.fdiv j=i/j:=Int.fdiv_eq_ediv_of_nonneg _ (Int.le_of_lt a.1);show floordiv_int (Int.ne_of_gt a.1) (by simp_all) (.inl (PyProof.noPylong_of_log2 ?_));let h:j.natAbs<2^64:=by omega
 let c:j.natAbs≠0:=by lia
 show aU ((Nat.log2_lt c).mpr h) '3'
inductive rIxF(x y:V)(H:Hp)(Q:VK):Prop|mk(p:Addr)(i:Int)(xs:dH)(ex:x=.ref p)(ey:y=.int i)(h:H p\(.lst xs))(v:V)(hv:atI xs i\v)(q:Q v H)
def C9:Fe X rIxF:=λvalue a qA s Y H x y v u Q I d c zz f=>(by let[p,i,xs,j,g,h,w,e,q]:=zz;show RC value a qA s Y H x y v u Q I d c {p,xs,i,w,j,g,.of h,e,q} f)
def ZY:Qb X rIxF:=by
 rintro qA s Y H o i y A Q I g l⟨p,k,xs,rfl,rfl,m,z,u,q⟩;cases g;done<;>(let[t,0]:=l;let[qG,r,pl,B]:=I.list (.of m);let[j,h1,h2,D,x,v]:=Jz u;let[w,f,c]:=r.get h2);let n:=r.length;let C:=GH;let a:EP X qA Y Q w s:=#[z,H,I,c,q];by_cases e:0<=k
 .let d:k.toNat=j:=by rw[seqIndex_of e v]at h1;show oI h1
  show wpAny_getItem_list pl.isList e ⋯ (by rw[d];simpa using f) a
 .let d:(k+qG.toArray.size).toNat=j:=by rw[seqIndex_neg (by simp_all) x]at h1;rw[size_toArray,<-n];show oI h1
  show wpAny_getItem_list_neg pl.isList ⋯ (by rw[size_toArray]<;>simp_all) ⋯ (by rw[d];simpa using f) a
def KF:B3 X (.builtin "len") (λxs H Q=>∃p ys,xs=[.ref p]/\H p\(.lst ys)/\Q (.int ys.length) H):=by rintro qA s Y H xs us Q I r⟨p,ys,rfl,a,q⟩;show Mg qA s Y H _ us Q I r {p,ys,0,.inl (.of a),q}
inductive rIxU(x y:V)(H:Hp)(Q:VK):Prop|mk(p:Addr)(i:Int)(xs:dH)(ex:x=.ref p)(ey:y=.int i)(h:H p\(.tup xs))(v:V)(hv:atI xs i\v)(q:Q v H)
def FD:Fe X rIxU:=λvalue a qA s Y H x y v u Q I d c zz f=>(by let[p,i,xs,j,g,h,w,e,q]:=zz;show RD value a qA s Y H x y v u Q I d c {p,xs,i,w,j,g,.of h,e,q} f)
def ZZ:B3 X (.builtin "len") (λxs H Q=>∃p ys,xs=[.ref p]/\H p\(.tup ys)/\Q (.int ys.length) H):=by rintro qA s Y H xs us Q I r⟨p,ys,rfl,a,q⟩;show Mg qA s Y H _ us Q I r {p,ys,0,.inr (.of a),q}
def Fn(P:Program)(w:World)(K:Fg)(mg:Str->Do)(base:Heap)(x:Str)(k:Nat)(ps:At)(sp:Sp):Prop:=(∃(f:Addr)(fd:FuncData),FnOk P w K mg base EJ k f fd ps sp/\mg x\(.ref f)/\PySem.W.keepIn K (.ref f)=true/\C7 K fd ps [])
def Bv{p}(G:Fn X.prog X.w X.K X.mg X.base x k ps sp)(d:Room k X.A)(i:Gl X x)(l:PA X (e::es) t)(c:No x:=by decide+kernel)(j:starEach (e::es) X.env=(false,eval e X.env)::starEach es X.env:=by rfl)(a:(backTo pos (starEach es X.env)).any (·.1)=false:=by rfl):PE X (.Call (.Name x p) (e::es) [] pos) (E6 sp [] E0 t):=by let[f,fd,F,g,h,hb]:=G;show Qv F d i g h hb .nil ZP l c j a
def As(K:Fg)(mg:Str->Do)(x:Str)(st:Stmt):Prop:=(∃(f:Addr)(fd:FuncData),Fun K x x st f fd/\mg x\(.ref f))
def DW{K}{st}(D:As K mg x st)(S:FnScope N ps (AN st))(hb:∀(kV doc pm)(an:Ge)(a ct)(us:C2),us.length=ps.length->bindArgs (PySem.W.fnOf x x (Ct st) (CH st) (AN st) .none kV doc pm an a ct) {us,[]}=pure (ps.zip us))(len:∀vs H Q E,sp vs H Q E->vs.length=ps.length)(c:∀(f)(a)(A)(outer)(s)(H)(vs)(Q)(E),Room k (A.deeper (PyProof.Rows.envOfC x (AN st) 'H' f a))->sp vs H Q E->∃t,BS (E7 EJ P w K mg base N x (AN st) f a A outer s H E).nox (CH st) t/\t {nx:=λ_ H'=>Q .non H',rt:=Q} (start N vs) H):Fn P w K mg base x (k+1) ps sp:=by let[f,fd,F,d]:=D;show{f,fd,F.ok S len (c f),d,F.kp,F.binds hb}
def IX:B3 X (.type "list") (λxs H Q=>∃p ys,xs=[.ref p]/\(H p\(.lst ys)\/H p\(.tup ys))/\∀l,H l=none->Q (.ref l) (AA H l (.lst ys))):=by rintro qA s Y H xs us Q I r⟨p,ys,rfl,a,q⟩;show Ym qA s Y H _ us Q I r {p,ys,0,a.elim (λz=>.inl (.of z)) (λz=>.inr (.of z)),q}
def GP:B3 X (.type "tuple") (λxs H Q=>∃p ys,xs=[.ref p]/\H p\(.lst ys)/\∀l,H l=none->Q (.ref l) (AA H l (.tup ys))):=by rintro qA s Y H xs us Q I r⟨p,ys,rfl,a,q⟩;show Yn qA s Y H _ us Q I r #[p,ys,0,.inl {.of a,q}]
def Za(h:k<=x.length):(Txt.slice x none (some (k:Int))).cps.toList=x.cps.toList.take k:=by let e:=beq_iff_eq.mp (slice_closes_to (x:=x) (j:=k) {⋯,by let:x.cps.toList.length=x.length:=bR;simp_all});rw[e];simp
def Zb:∀ys:At,(Txt.join {#[]} ys).cps.toList=(ys.map (·.cps.toList)).flatten:=by
 let c:∀ys,(Str.join {#[]} ys).cps.toList=(ys.map (·.cps.toList)).flatten:=by
  intro ys
  induction ys with|nil=>rfl|cons y r a=>cases r with|nil=>simp[Str.join]|cons z r=>let e:Str.join {#[]} (y::z::r)=y++{#[]}++Str.join {#[]} _:=rfl;change((y.cps++#[])++(Str.join {#[]} _).cps).toList=_;simp_all
 intro ys;let e:=beq_iff_eq.mp (join_plain_closes {#[]} ys);simp_all
def Zd{ys:At}(h:StrsAre us ys):AZ (ys.map V.str) us:=by induction h with|nil=>show .nil|cons y t r a=>show .cons #[t,0] a
def Ze(_:True):B3 X (.builtin "sorted") (λxs H Q=>∃(p:Addr)(c:At),xs=[.ref p]/\H p\(.lst (c.map V.str))/\c.length<64/\∀(l)(a:At),H l=none->a.Perm c->sortedS a=true->Q (.ref l) (AA H l (.lst (a.map V.str)))):=by rintro qA s Y H xs us Q I r⟨p,c,rfl,f,m,q⟩;let[u,0,d]:=r.one;cases d;let[qG,r,pl,v]:=I.list (.of f);let j:=Mx r;let g:=r.length;rw[aA]at g;show sorted_strs pl.isList j (by simp_all) λout a h1 h2 n=>?_;let[e,i]:=sortedAll_at s.heap qG out;show{.ref _,_,I.laid (λb o q=>sortedAll_old q) (cS _) ?_,0,q _ a (I.hok.fresh (cS _)) h2 n};show{?_,out.toList,e,Zd h1,i};rw[aA,h2.length_eq];simp_all
theorem Rm(z):∀xs:At,J1 (.str z) (xs.map V.str)=decide (z∈xs)
 |[]=>rfl|x::r=>by
  let a:=Rm z r;unfold J1 at a⊢;rw[map_cons,any_cons,a];by_cases e:x=z
  .subst e;simp[En]
  .let c:¬z=x:=λh=>e h.symm;simp[En,e,c]
theorem Rn:∀xs:At,(xs.map V.str).all E9=true|[]=>rfl|x::r=>by rw[map_cons,all_cons,Rn r];rfl
def Zg:A1 X (compareOp .In) (λx y H Q=>∃(z:Str)(p:Addr)(xs:At),x=.str z/\y=.ref p/\(H p\(.lst (xs.map V.str))\/H p\(.tup (xs.map V.str)))/\Q (.bl (decide (z∈xs))) H):=by rintro qA s Y H x y v u Q I c a⟨z,p,xs,rfl,rfl,d,q⟩;show Yl qA s Y H _ _ v u Q I c a {p,xs.map V.str,0,d.elim (λz=>.inl (.of z)) (λz=>.inr (.of z)),0,Rn xs,?_};rw[Rm];show q
open PySem.Builtin PySem.Builtin.Str in
def M0(h:0<x.length):(Txt.slice x none (some (-1))).cps.toList=x.cps.toList.take (x.length-1):=by
 let e:Txt.slice x none (some (-1))=Txt.slice x none (some (((x.length-1:Nat)):Int)):=by
  unfold Txt.slice;let a:strSliceIndices none (some (-1)) 1 x.length=strSliceIndices none (some (((x.length-1:Nat)):Int)) 1 x.length:=by
   unfold strSliceIndices;let d:(-1:Int)<0:=by decide
   let c:¬(((x.length-1:Nat)):Int)<0:=(by simp_all);simp only[d,c,dD,if_false,show(1:Int)>0 by decide]
   congr 1
   lia
  rw[a]
 rw[e];show Za (by simp_all)
def BS.weak{st}{u m}(h:BS X st u)(hw:∀D Y H,m D Y H->u D Y H):BS X st m:=λqA s Y H D I q=>h qA s Y H D I (hw D Y H q)
end L2
namespace HT
def dC{items:Ex}{g f}{lo hi}(a:IsTup s.heap t items)(i:s.heap.IsSliceOf sl g f .none)(pl:IsPart g lo)(j:IsPart f hi)(hw:dA items.size 0 lo=0/\dA items.size items.size hi=items.size)(h:Q (.ref t) s):'C' (getItem (.ref t) (.ref sl)) Q E s:=by
 let[os,c,d,l]:=id i;let e:s.TypeIs (.ref sl) "slice":=#[os,c,d];unfold getItem
 try with_reducible show bM ?_
 show wB (wpAny_sequenceKey a.typeIs '3' ?_);show wB (wpAny_callSpecial?_slot a.typeIs PyProof.Rows.slot_tuple_getitem
  (cQ PyProof.Rows.slot_tuple_getitem a.typeIs entry_tuple_getitem ?_ (args_tuple_getitem _ _)))
 change 'A' (Builtin.Tuple.tupleItemsOf _>>=_) _ _ s;show wB (tupleItemsOf_ a (wB (wpAny_typeOf e ?_)));show wB (Q5 i pl j ?_);change 'A' (if(((dA items.size 0 lo):Int)==0&&1==1&&(dA items.size items.size hi-dA items.size 0 lo)==items.size)=true then _ else _) _ _ s;rw[aC (by rw[hw.1,hw.2];simp)];show wB (wB (wpAny_typeOf a.typeIs (wP ?_)));first|show wB _|show wB _|show wB (wB (wpAny_rule (wP (wP {_,0,wP h}))))
def M1{items:Ex}{x}(a:s.heap.IsTupleIter it t i)(h:s.heap.IsTuple t items)(g:items[i]?\x)(l:∀h',h'.IsTupleIter it t (i+1)->Heap.SameBut it s.heap h'->Q x {s with heap:=h'}):'C' (Builtin.SmallTypes.nextOf (.ref it)) Q E s:=by let[o,d,j,c]:=id a;let[m,e,_,n,f]:=h;show wB (wpAny_callSpecial?_slot a.typeIs F.slot_tuple_iterator_next (cQ F.slot_tuple_iterator_next a.typeIs F.entry_tuple_iterator_next ?_ (F.args_tuple_iterator_next_1 _)));change 'A' (field _ 0>>=_) _ _ s;show wB (wpAny_field d c rfl ?_);change 'A' _ _ _ s;show wB (wpAny_field d c rfl ?_);show wB (wpAny_seqItems e f ?_);simp only[Int.toNat_natCast,g];show wB (wpAny_setField d c '2' (wP {x,0,wP (l _ ?_ (Heap.SameBut.update ..))}));show{_,Heap.get?_update_self _ d (Obj.isFreed_of_fields (Obj.data_mapFields c _)),(Obj.cls_mapFields ..).trans j,by rw[Obj.data_mapFields c];simp[rawInt]}
def Ro{items:Ex}(j:A.handled=none)(c:s.heap.IsTupleIter it t i)(n:s.heap.IsTuple t items)(l:items[i]?=none)(p:∀h' e,Heap.ExtBut it s.heap h'->(∃o,h'.get? e\o/\o.cls=.type "StopIteration")->E (.ref e) {s with heap:=h'}):'C' (Builtin.SmallTypes.nextOf (.ref it)) Q E s:=by
 let[o,f,u,h]:=id c;let[q,d,_,r,g]:=n;show wB (wpAny_callSpecial?_slot c.typeIs F.slot_tuple_iterator_next (cQ F.slot_tuple_iterator_next c.typeIs F.entry_tuple_iterator_next ?_ (F.args_tuple_iterator_next_1 _)));change 'A' (field _ 0>>=_) _ _ s;show wB (wpAny_field f h rfl ?_);change 'A' _ _ _ s;show wB (wpAny_field f h rfl ?_);show wB (wpAny_seqItems d g ?_);simp only[Int.toNat_natCast,l];show wB (wpAny_rule (wB (wpAny_setField f h '2' ?_)));show wB ?_;show wB (cG ?_ (by size_fits));show wB (wpAny_of_eq (by first|rfl|(rfl)) ?_);show cG ?_ (by size_fits);show wB (wpAny_handled ?_)
 first|rw[j]|rw[j]
 show wB (wP (wpAny_throw ?_));show p _ _ (((Heap.SameBut.update ..).extBut.push _).push _) {_,bP _ rfl,0}
def dP{xs ys:Ex}{x y a b}{Q:Do->Shared->Prop}(D:ZipApart z TI TO σ i2 l1 l2)(hz:IsZip s.heap z TI TO .none)(ac:IsPair s.heap TI (.ref σ) (.ref i2))(ab:IsPair s.heap TO a b)(h1:s.heap.IsTupleIter σ l1 k)(h2:s.heap.IsTupleIter i2 l2 k)(aa:s.heap.IsTuple l1 xs)(a9:s.heap.IsTuple l2 ys)(hx:xs[k]?\x)(hy:ys[k]?\y)(hQ:∀h',IsZip h' z TI TO (rawInt 'H')->IsPair h' TO x y->h'.IsTupleIter σ l1 (k+1)->h'.IsTupleIter i2 l2 (k+1)->IsPair h' 'H' x y->h'.objs.size='H'+1->(∀c o,c≠z->c≠TO->c≠σ->c≠i2->'F' c\o->h'.get? c\o)->Q (some (.ref 'H')) {s with heap:=h'}):'C' (pyNext (.ref z)) Q E s:=by
 let hT:s.TypeIs (.ref z) "zip":=#[_,hz,0];unfold pyNext;show wB (wpAny_attempt (wpAny_callSpecial?_slot hT F.slot_zip_next (cQ F.slot_zip_next hT F.entry_zip_next ?_ (F.args_zip_next_1 _))));change 'A' (field (.ref z) 2>>=_) _ _ _;show wB (wpAny_field hz rfl rfl ?_);change 'A' (field (.ref z) 3>>=_) _ _ _;show wB (wpAny_field hz rfl rfl (wB (wpAny_seqItems ac rfl ?_)));change 'A' (Builtin.SmallTypes.ownedTupleIsFree (.ref z)>>=_) _ _ _;show wB ?_;unfold Builtin.SmallTypes.ownedTupleIsFree;show wB (wpAny_field hz rfl rfl (wP ?_));simp only[dD];show wB (wpAny_rule (wB (wpAny_field hz rfl rfl ?_)));show wB (wpAny_setField_rec hz '2' λh₁ I f=>?_)
 replace I:=I
 show wB ?_;simp only[zipIdx_cons,zipIdx_nil,forIn_cons,forIn_nil];let B:∀{h h'}{t j}{qG},h.IsTuple t qG->Heap.SameBut j h h'->t≠j->h'.IsTuple t qG:=λ{h h' t j qG}⟨o,e,r⟩sb ne=>{o,sb.extBut _ _ ne e,r};let m:∀{h h'}{i t j}{n:Nat},h.IsTupleIter i t n->Heap.SameBut j h h'->i≠j->h'.IsTupleIter i t n:=λ{h h' i t j n}⟨o,e,r⟩sb ne=>{o,sb.extBut _ _ ne e,r};show wB (wB (wpAny_onRaise ?_));change 'A' (Builtin.SmallTypes.nextOf (.ref σ)>>=_) _ _ _;show wB (M1 (m h1 f D.i1z) (B aa f D.l1z) hx λh₂ a6 l=>wP ?_);let N:=l.extBut _ _ D.TOi1 (f.extBut _ _ D.TOz ab);show wB (wpAny_seqItems N rfl (wB (wpAny_updateSeq_pair N λh₃ G g=>?_)))
 replace G:=G
 show wB (wpAny_letGo (wP ?_));show wB (wB (wpAny_onRaise ?_));change 'A' (Builtin.SmallTypes.nextOf (.ref i2)>>=_) _ _ _;show wB (M1 (m (m (m h2 f D.i2z) l D.i12.symm) g D.TOi2.symm) (B (B (B a9 f D.l2z) l D.l2i1) g D.l2TO) hy λh₄ a4 u=>wP ?_);let M:=u.extBut _ _ D.TOi2 G;show wB (wpAny_seqItems M rfl (wB (wpAny_updateSeq_pair M λd p q=>?_)))
 replace p:IsPair d TO x y:=p
 show wB (wpAny_letGo (wP (wP ?_)));show wB (wpAny_seqItems p rfl (wB (wpAny_newTuple ?_)));let a8:d.objs.size='H':=by rw[q.1,u.1,g.1,l.1,f.1]
 let O:=q.extBut _ _ D.TOz.symm (u.extBut _ _ D.i2z.symm (g.extBut _ _ D.TOz.symm (l.extBut _ _ D.i1z.symm I)));let a2:∀c o,c≠z->c≠TO->c≠σ->c≠i2->'F' c\o->d.get? c\o:=λc o c1 c2 c3 c4 e=>q.extBut _ _ c2 (u.extBut _ _ c4 (g.extBut _ _ c2 (l.extBut _ _ c3 (f.extBut _ _ c1 e))));let a5:=m (m (m a6 g D.TOi1.symm) u D.i12) q D.TOi1.symm;let a3:=m a4 q D.TOi2.symm;let a0:=bN O;change 'A' (Builtin.SmallTypes.ownedTupleHandOut (.ref z) (.ref d.objs.size)>>=_) _ _ _;show wB ?_;unfold Builtin.SmallTypes.ownedTupleHandOut;let a1:IsZip (d.push {cls:=.type "tuple",data:=.seq [x,y].toArray}) z TI TO .ellipsis:=aS _ O;show wB (wpAny_setField_rec a1 '2' λh₇ H L=>?_)
 replace H:=H
 show wpAny_setField_rec H '2' λv C J=>?_
 replace C:=C
 let up:∀c o,c≠z->d.get? c\o->v.get? c\o:=λc o c1 e=>J.extBut _ _ c1 (L.extBut _ _ c1 (aS _ e));let T:=J.extBut _ _ (Nat.ne_of_gt a0) (L.extBut _ _ (Nat.ne_of_gt a0) (bP _ rfl));let a7:v.objs.size=d.objs.size+1:=by rw[J.1,L.1,Heap.size_push]
 rw[a8]at C T a7;let ρ:∀{i t:Addr}{n:Nat},d.IsTupleIter i t n->i≠z->v.IsTupleIter i t n:=λ{i t n}⟨o,e,r⟩ne=>{o,up _ _ ne e,r};show wP {_,0,wP ?_};change Q (some (.ref d.objs.size)) _;rw[a8];show hQ v C (up _ _ D.TOz p) (ρ a5 D.i1z) (ρ a3 D.i2z) T a7 λc o c1 c2 c3 c4 e=>up c o c1 (a2 c o c1 c2 c3 c4 e)
def dR{xs ys:Ex}{a b}{Q:Do->Shared->Prop}(hh:A.handled=none)(D:ZipApart z TI TO L i2 l1 l2)(hz:IsZip s.heap z TI TO .none)(a4:IsPair s.heap TI (.ref L) (.ref i2))(a3:IsPair s.heap TO a b)(h1:s.heap.IsTupleIter L l1 k)(h2:s.heap.IsTupleIter i2 l2 k)(ρ:s.heap.IsTuple l1 xs)(a2:s.heap.IsTuple l2 ys)(σ:xs[k]?=none\/ys[k]?=none)(hQ:∀h',(∀c o,c≠z->c≠TO->c≠L->c≠i2->'F' c\o->h'.get? c\o)->Q none {s with heap:=h'}):'C' (pyNext (.ref z)) Q E s:=by
 let hT:s.TypeIs (.ref z) "zip":=#[_,hz,0];let a0:∀h' e,(∀c o,c≠z->c≠TO->c≠L->c≠i2->'F' c\o->h'.get? c\o)->(∃o,h'.get? e\o/\o.cls=.type "StopIteration")->'C' (isInstance (.ref e) (.type "StopIteration")>>=λr=>if r=true then pure none else throw (.ref e)) Q E {s with heap:=h'}:=λh' e hk⟨o,ho,hc⟩=>wB (wpAny_isInstance #[o,ho,hc] isSubtype_stop (wP (hQ _ hk)))
 show wB (wpAny_attempt (wpAny_callSpecial?_slot hT F.slot_zip_next (cQ F.slot_zip_next hT F.entry_zip_next ?_ (F.args_zip_next_1 _))));change 'A' (field (.ref z) 2>>=_) _ _ _;show wB (wpAny_field hz rfl rfl ?_);show wB (wpAny_field hz rfl rfl (wB (wpAny_seqItems a4 rfl ?_)));show wB ?_;show wB (wpAny_field hz rfl rfl (wP ?_));show wB (wpAny_rule (wB (wpAny_field hz rfl rfl ?_)));show wB (wpAny_setField_rec hz '2' λO m d=>?_)
 replace m:=m
 show wB ?_;let l:∀{h h'}{t j}{qG},h.IsTuple t qG->Heap.SameBut j h h'->t≠j->h'.IsTuple t qG:=λ{h h' t j qG}⟨o,e,r⟩sb ne=>{o,sb.extBut _ _ ne e,r};let p:∀{h h'}{i t j}{n},h.IsTupleIter i t n->Heap.SameBut j h h'->i≠j->h'.IsTupleIter i t n:=λ{h h' i t j n}⟨o,e,r⟩sb ne=>{o,sb.extBut _ _ ne e,r};show wB (wB (wpAny_onRaise ?_));change 'A' (Builtin.SmallTypes.nextOf (.ref L)>>=_) _ _ _;cases hx:xs[k]? with
 |none=>
  show wB (Ro hh (p h1 d D.i1z) (l ρ d D.l1z) hx λv e f zz=>?_);let[oe,q,H]:=zz;let B:=f _ _ D.i1z.symm m;let J:e≠z:=λx=>by subst x;rw[B]at q;cases q;simp at H
  show wpAny_setField_rec B '2' λI _ g=>a0 I e (λc o c1 _ c3 _ x=>g.extBut _ _ c1 (f _ _ c3 (d.extBut _ _ c1 x))) {oe,g.extBut _ _ J q,H}|some x=>
  let hy:ys[k]?=none:=by let h||h:=σ;rw[hx]at h;cases h;show h
  show wB (M1 (p h1 d D.i1z) (l ρ d D.l1z) hx λv a5 f=>wP ?_);let u:=f.extBut _ _ D.TOi1 (d.extBut _ _ D.TOz a3);show wB (wpAny_seqItems u rfl (wB (wpAny_updateSeq_pair u λI a1 g=>?_)));show wB (wpAny_letGo (wP ?_));show wB (wB (wpAny_onRaise ?_));change 'A' (Builtin.SmallTypes.nextOf (.ref i2)>>=_) _ _ _;show wB (Ro hh (p (p (p h2 d D.i2z) f D.i12.symm) g D.TOi2.symm) (l (l (l a2 d D.l2z) f D.l2i1) g D.l2TO) hy λN e G zz=>?_);let[oe,q,H]:=zz;let y:=G _ _ D.i2z.symm (g.extBut _ _ D.TOz.symm (f.extBut _ _ D.i1z.symm m));let J:e≠z:=λx=>by subst x;rw[y]at q;cases q;simp at H
  show wpAny_setField_rec y '2' λM _ C=>a0 M e (λc o c1 c2 c3 c4 x=>C.extBut _ _ c1 (G _ _ c4 (g.extBut _ _ c2 (f.extBut _ _ c3 (d.extBut _ _ c1 x))))) {oe,C.extBut _ _ J q,H}
abbrev KG(h:Heap)(l1:Addr):Heap:=h.push {cls:=.type "tuple_iterator",data:=.fields [.ref l1,.int 0 0].toArray}
abbrev KH(h:Heap)(l1 l2:Addr):Heap:=(KG h l1).push {cls:=.type "tuple_iterator",data:=.fields [.ref l2,.int 0 0].toArray}
abbrev KI(h:Heap)(l1 l2:Addr):Heap:=(KH h l1 l2).push {cls:=.type "tuple",data:=.seq [.ref h.objs.size,.ref (KG h l1).objs.size].toArray}
abbrev KJ(h:Heap)(l1 l2:Addr):Heap:=(KI h l1 l2).push {cls:=.type "tuple",data:=.seq [.none,.none].toArray}
abbrev HL(h:Heap)(l1 l2:Addr):Heap:=(KJ h l1 l2).push {cls:=.type "zip",data:=.fields [.none,.bool false,.bool false,.ref (KH h l1 l2).objs.size,.ref (KI h l1 l2).objs.size].toArray}
def Zh(l1 l2)(xs ys:Ex):Meets (Builtin.«zip.__new__» {[.type "zip",.ref l1,.ref l2],[]}) (λ_ R s=>s.heap.IsTuple l1 xs/\s.heap.IsTuple l2 ys/\R (.ok (.ret (.ref (KJ s.heap l1 l2).objs.size))) {s with heap:=HL s.heap l1 l2}):=.of_wp λprog w A R s h=>by
  let[l,g,d,tk,os]:=s;let[c,a,h]:=h;let j:=sub_zip;let i:=c;let f:Heap.IsTuple (Shared.heap {l.push {cls:=.type "tuple_iterator",data:=.fields [.ref l1,.int 0 0].toArray},g,d,tk,os}) l2 ys:=by let[o,e,r]:=a;show{o,aS _ e,r}
  wp_walk using wpAny_pyIter_tuple i,wpAny_pyIter_tuple f
  show#[_,0,h]
def dQ{xs ys:Ex}(i:s.heap.IsTuple l1 xs)(g:s.heap.IsTuple l2 ys)(h:∀h',IsZip h' ('H'+4) ('H'+2) ('H'+3) .none->IsPair h' ('H'+2) (.ref 'H') (.ref ('H'+1))->IsPair h' ('H'+3) .none .none->h'.IsTupleIter 'H' l1 0->h'.IsTupleIter ('H'+1) l2 0->(∀c o,'F' c\o->h'.get? c\o)->Q (.ref ('H'+4)) {s with heap:=h'}):'C' (call (.type "zip") [.ref l1,.ref l2]) Q E s:=by
 show callType_new F.called_zip '3' (F.typeCall_zip_2 _ _) (F.newCall_zip_2 _ _) (λf=>F.args_object_init_3 f _ _) F.entry_zip_new (Zh l1 l2 xs ys) #[i,g,?_];let e:(KG s.heap l1).objs.size='H'+1:=Heap.size_push ..;let d:(KH s.heap l1 l2).objs.size='H'+2:=by rw[Heap.size_push,e]
 let a:(KI s.heap l1 l2).objs.size='H'+3:=by rw[Heap.size_push,d]
 let l:(KJ s.heap l1 l2).objs.size='H'+4:=by rw[Heap.size_push,a]
 let j:(HL s.heap l1 l2).get? (KJ s.heap l1 l2).objs.size\_:=bP _ rfl;let m:(HL s.heap l1 l2).get? (KI s.heap l1 l2).objs.size\_:=aS _ (bP _ rfl);let n:(HL s.heap l1 l2).get? (KH s.heap l1 l2).objs.size\_:=aS _ (aS _ (bP _ rfl));let p:(HL s.heap l1 l2).get? (KG s.heap l1).objs.size\_:=aS _ (aS _ (aS _ (bP _ rfl)));let q:(HL s.heap l1 l2).get? 'H'\_:=aS _ (aS _ (aS _ (aS _ (bP _ rfl))));rw[d,a,l]at j;rw[e,d]at n;rw[a]at m;rw[e]at p;rw[l];show#[#[_,j,0],h _ j n m #[_,q,0,0] #[_,p,0,0] λc o x=>aS _ (aS _ (aS _ (aS _ (aS _ x))))]
end HT
namespace L2
def Inv.turnedL{ch:Gn}(I:Inv X qA Y H s)(k:∀b o,b∉ch->'F' b\o->h'.get? b\o)(hf:∀b∈ch,Ci X qA H b):Inv X qA Y H {s with heap:=h',toks:=t'}:=by
 let d:∀b u,H b\u->b∉ch:=λb u e z=>by rw[(hf b z).1]at e;cases e
 show I.step (λb hb=>{(hf b hb).2.2.2.1,(hf b hb).2.1,(hf b hb).2.2.2.2.1,(hf b hb).2.2.2.2.2}) (λb o _ _ a e _=>k b o a e) (λb o _ _ a e _=>{o.slots,k b o a e}) (λ_ _ _ _ n=>n)
  (λb o a e=>{o,k b o a e}) (λ_ _ e=>e) (λ_ _ _ e=>e) (λb ps e=>{#[],by rw[e];simp}) (λm f=>?_) (λb u e=>?_) I.bare
 .let[o,es,ep,ho,r]:=f;show{o,es,ep,k _ o (λz=>(hf _ z).2.1 rfl) ho,r}
 .show(I.hok b u e).stay (λc v a q=>k c v ?_ q) (λ_ q=>q) λ_ _ q=>q;let z||z:=a
  .rw[z];show d b u e
  .show d c _ z
def IY(K:Fg)(l1 l2:Addr):It:=({λi H=>∃xs ys,Bq K H l1 xs/\Bq K H l2 ys/\i<xs.length/\i<ys.length,λi H v H'=>∃T x y,H T=none/\v=.ref T/\H'=AA H T (.tup [x,y])/\∀xs ys,Bq K H l1 xs->Bq K H l2 ys->xs[i]?=some x/\ys[i]?=some y,λi H=>∃xs ys,Bq K H l1 xs/\Bq K H l2 ys/\(xs.length<=i\/ys.length<=i)})
theorem Zi{K}{z TI TO l i2}(D:ZipApart z TI TO l i2 l1 l2):Turn P w K (.Tuple elts x1 pos) (IY K l1 l2) [z,TI,TO,l,i2] z (λi h=>IsZip h z TI TO .none/\IsPair h TI (.ref l) (.ref i2)/\(∃a b,IsPair h TO a b)/\h.IsTupleIter l l1 i/\h.IsTupleIter i2 l2 i)where
 mem:='2'
 obj:=λi h st b hb=>by
  done<;>let[m,f,[a,c,j],[G,A,_,d1],[C,r,_,d2]]:=st;simp only[aF,bB,or_false]at hb;done<;>rcases hb with rfl|rfl|rfl|rfl|rfl
  .show{_,m,λv q=>nomatch q}
  .show{_,f,λv q=>nomatch q}
  .show{_,j,λv q=>nomatch q}
  .show{_,A,λv q=>by rw[d1]at q;cases q}
  .show{_,r,λv q=>by rw[d2]at q;cases q}
 keep:=λi h h' st k=>by done<;>let[m,f,[a,c,j],[G,A,r1],[C,r,r2]]:=st;show#[k z '2' _ m,k TI '2' _ f,{a,c,k TO '2' _ j},{G,k l '2' _ A,r1},{C,k i2 '2' _ r,r2}]
 item:=by
  intro X hP hw hK hc i qA s Y H E I hf st hg;subst hP hw hK;done<;>(let[m,f,[a,c,j],h1,h2]:=st;let[xs,ys,ρ,T,g1,g2]:=hg;let[qG,rv,p,a7]:=I.tuple ρ;let[L,n,p2,M]:=I.tuple T);let hx:xs[i]?\xs[i]:=by simp[g1]
  let hy:ys[i]?\ys[i]:=by simp[g2]
  done<;>(let[u,hu,ru]:=rv.get hx;let[B,a8,a0]:=n.get hy);show HT.dP D m f j h1 h2 p p2 (~~~hu) (~~~a8) λh' a1 a2 a3 a4 a5 a6 σ=>{_,0,wpAny_letOwnedTupleGo_zip a1 λQ N d=>?_};let a9:=I.fresh;let J:Inv X qA Y (AA H 'H' (.tup [xs[i],ys[i]])) {s with heap:=s.heap.push {cls:=.type "tuple",data:=.seq [u,B].toArray}}:=I.laid (λb o q=>aS _ q) (aQ _) {by change 2<=sizeLine;decide,[u,B],.cons ru (.cons a0 .nil),Dm.new _ _}
  let O:∀b∈[z,TI,TO,l,i2],b≠'H':=λb hb e=>by
   let o:∃o,'F' b\o:=by
    simp only[aF,bB,or_false]at hb;let[G,A,_]:=h1;let[C,r,_]:=h2;rcases hb with rfl|rfl|rfl|rfl|rfl
    .show#[_,m]
    .show#[_,f]
    .show#[_,j]
    .show#[_,A]
    .show#[_,r]
   let[o,q]:=o;show bS (bN q) (by rw[e];show aX _)
  let hn:∀b∈[z,TI,TO,l,i2],AA H 'H' (.tup [xs[i],ys[i]]) b=none:=λb hb=>by rw[AE (O b hb)];show(hf b hb).1
  let nz:=(O z '2').symm;let J2:Inv X qA Y (AA H 'H' (.tup [xs[i],ys[i]])) {s with heap:=Q}:=by
   show Inv.turnedL (s:={s with heap:=s.heap.push {cls:=.type "tuple",data:=.seq [u,B].toArray}}) (ch:=[z,TO,l,i2]) J (λb o hb q=>?_) (λb hb=>{hn b ?_,(hf b ?_).2})
   .simp only[aF,bB,or_false,not_or]at hb;by_cases e:b='H'
    .subst e;let q':=q;rw[bP _ rfl]at q';cases q';show d.extBut _ _ nz a5
    .let q0:'F' b\o:=by rw[<-Heap.get?_push_ne _ _ _ e];show q
     show d.extBut _ _ hb.1 (σ b o hb.1 hb.2.1 hb.2.2.1 hb.2.2.2 q0)
   .simp only[aF,bB,or_false]at hb⊢;rcases hb with h|h|h|h<;>simp[h]
   .simp only[aF,bB,or_false]at hb⊢;rcases hb with h|h|h|h<;>simp[h]
  show{.ref 'H',_,J2,0,{_,_,_,a9,0,0,λab aa z1 z2=>?_},?_,hn}
  .rw[I.tuple_inj z1 ρ,I.tuple_inj z2 T];show#[hx,hy]
  .done<;>(let[G,A,r1]:=a3;let[C,r,r2]:=a4);show#[N,d.extBut _ _ D.TIz (σ _ _ D.TIz D.TITO D.TIi1 D.TIi2 f),{_,_,d.extBut _ _ D.TOz a2},{G,d.extBut _ _ D.i1z A,r1},{C,d.extBut _ _ D.i2z r,r2}]
 done:=by
  intro X hP hw hK hc i qA s Y H E I hf st hg;subst hP hw hK;done<;>(let[m,f,[a,c,j],h1,h2]:=st;let[xs,ys,ρ,T,g]:=hg;let[qG,rv,p,a7]:=I.tuple ρ;let[L,n,p2,M]:=I.tuple T);let l1:=rv.length;let l2:=n.length;show HT.dR (I.ok.hd hc) D m f j h1 h2 p p2 '4' λh' σ=>{0,I.turnedL (ch:=[z,TO,l,i2]) (λb o hb q=>?_) λb hb=>hf b ?_}
  .simp only[aF,bB,or_false,not_or]at hb;show σ b o hb.1 hb.2.1 hb.2.2.1 hb.2.2.2 q
  .simp only[aF,bB,or_false]at hb⊢;rcases hb with h|h|h|h<;>simp[h]
 self:=λ_ _ _ _ _ st h=>wpAny_pyIter_zip st.1 h
def Rq(K:Fg)(ta:TA):TI:=(λY H R=>ta Y H λvs H1=>∃l1 l2 xs ys,vs=[.ref l1,.ref l2]/\Bq K H1 l1 xs/\Bq K H1 l2 ys/\R (IY K l1 l2) H1)
def Rr:bootBuiltins "zip"\(.type "zip"):=by decide+kernel
def Zj{a b}{ta}{p}{x1}{tp}(J:Gl X "zip")(E:X.mg "zip"=none)(L:PA X [a,b] ta)(D:starEach [a,b] X.env=[(false,eval a X.env),(false,eval b X.env)]:=by rfl)(d:starEach [b] X.env=[(false,eval b X.env)]:=by rfl):PI X (.Tuple elts x1 tp) (.Call (.Name "zip" p) [a,b] [] pos) (Rq X.K ta):=by
 intro qA s Y H R I h;show Call_ (F9 I J E Rr (PyProof.Rows.callWith_type1 (AR (L pos qA s Y H _ I h) λus c zz=>?_) (by rw[D,d]) (by rw[d];rfl)));done<;>(let[vs,H1,g,n,A]:=zz;let[l1,l2,xs,ys,0,y,x,q]:=A;let[u,v,0,w,rv]:=n.two);cases(w);cases(rv);done<;>(let[qG,n,p1,_]:=g.tuple y;let[o,N,p2,_]:=g.tuple x);show HT.dQ p1 p2 λh' r m l C B G=>?_;let M:Inv X qA Y H1 {c with heap:=h'}:=g.kept G;let j:l1<c.heap.objs.size:=by let[_,e,_]:=p1;show bN e
 let i:l2<c.heap.objs.size:=by let[_,e,_]:=p2;show bN e
 show wpAny_pyIter_zip r {_,[c.heap.objs.size+4,c.heap.objs.size+2,c.heap.objs.size+3,c.heap.objs.size,c.heap.objs.size+1],_,_,H1,0,M,Zi (zipApart_new j i),{r,m,#[_,_,l],C,B},λb hb=>?_,q};let f:c.heap.objs.size<=b:=by simp only[aF,bB,or_false]at hb;rcases hb with h|h|h|h|h<;>rw[h]<;>first|show Nat.le_add_right _ _|show aQ _
 show g.fpOk f (g.hok.fresh f)
def M3:V->Option Int->Option Int->Hp->VK->Prop:=(λx lo hi H Q=>∃a xs,x=.ref a/\H a\(.tup xs)/\((HT.dA xs.length 0 lo=0/\HT.dA xs.length xs.length hi=xs.length)->Q (.ref a) H)/\(¬(HT.dA xs.length 0 lo=0/\HT.dA xs.length xs.length hi=xs.length)->∀p,H p=none->Q (.ref p) (AA H p (.tup (D1 xs lo hi)))))
def HM:D0 X M3:=by
 rintro qA s Y H x v m l lo hi sl Q I e j pl f⟨a,xs,rfl,g,h1,h2⟩;by_cases d:HT.dA xs.length 0 lo=0/\HT.dA xs.length xs.length hi=xs.length
 .cases e;let[qG,r,i,n]:=I.tuple (.of g);let c:qG.toArray.size=xs.length:=by show r.length.symm
  show#["tuple",_,PyProof.Rows.slot_tuple_getitem.lookup,i.typeIs,HT.dC i j pl f (by rw[c];show d) {.ref a,H,I,0,h1 d}]
 .show YY qA s Y H _ v m l lo hi sl Q I e j pl f {a,xs,0,.of g,d,h2 d}
open PySem.W
def ev(lt:Nat->Nat->Bool):KasT α->α|.ret a=>a|.ask i j k=>ev lt (k (lt i j))
theorem HN{α c}{f:α->KasT c}:∀t,ev lt (t.bind f)=ev lt (f (ev lt t))|.ret a=>rfl|.ask i j k=>by show HN (k _)
section
variable{key:Nat->O.α}
def KP(key:Nat->O.α)(p:Array Nat)(i:Nat):O.α:=(key (p.getD i 0))
abbrev Bm(key:Nat->O.α):Nat->Nat->Bool:=λi j=>O.blt (key i) (key j)
def D6(key:Nat->O.α)(p:Array Nat)(k:Nat):Prop:=(∀i j,i<=j->j<k->O.kle (KP key p i) (KP key p j))
def Fi(key:Nat->O.α)(p:Array Nat)(k:Nat):Prop:=(∀i j,i<=j->j<k->O.kle (KP key p j) (KP key p i))
def IZ{p q}(h:p[i]?=q[j]?):KP key p i=KP key q j:=by unfold KP;simp_all
def Rs{p}{a d}(c:a<p.size)(f:d<=a)(k):KP key (bubble p a d) k=if k=a-d then KP key p a else if a-d<k/\k<=a then KP key p (k-1)else KP key p k:=by
 let e:=getElem?_bubble c d f k;split
 .rw[aC ‹_›]at e;show IZ e
 .rw[aB ‹_›]at e;split
  .rw[aC ‹_›]at e;show IZ e
  .rw[aB ‹_›]at e;show IZ e
def M4{p}(a:j<=p.size)(k):KP key (kas_rev p i j) k=if i<=k/\k<j then KP key p (i+j-1-k)else KP key p k:=by
 let e:=getElem?_mirror_all (i:=i) a k;split
 .rw[aC ‹_›]at e;show IZ e
 .rw[aB ‹_›]at e;show IZ e
def M5{p}(c:j<=p.size)(a:∀k,i<=k->k<j->KP key p k=KP key p (j-1))(k):KP key (kas_rev p i j) k=KP key p k:=by rw[M4 c];grind
def KL(p)(i j):(kas_rev p i j).Perm p:=mirror_perm _ _ _ _
def HP(p)(i j):(kas_rev p i j).size=p.size:=mirror_size _ _ _ _
theorem M6{p}:∀(f n),1<=n->D6 key p n->n<=ev (Bm key) (kas_asc p f n)/\ev (Bm key) (kas_asc p f n)<=n+f/\D6 key p (ev (Bm key) (kas_asc p f n))/\(ev (Bm key) (kas_asc p f n)<n+f->O.klt (KP key p (ev (Bm key) (kas_asc p f n))) (KP key p (ev (Bm key) (kas_asc p f n)-1)))|0,n,h1,e=>{aQ _,aQ _,e,λz=>bS z (aX _)}|f+1,n,h1,e=>by simp only[kas_asc,ev];cases o:Bm key _ (p.getD _ 0)with|true=>simp only[dD,ev];show{aQ _,⋯,e,λ_=>o}|false=>
   let g:D6 key p (n+1):=λi j m q=>by
    by_cases h:j=n
    .subst h;by_cases l:i=j
     .subst l;show KeyOrd.kle_refl _
     .show KeyOrd.kle_trans (e i _ ⋯ (by omega)) o
    .show e i j m ⋯
   let[a,b,c,d]:=M6 f _ ⋯ g;show{⋯,⋯,c,λz=>d ⋯}
theorem M7:∀(f)(p)(n q),q+1<=n->n+f<=p.size->Fi key p n->(∀k,n-(q+1)<=k->k<n->KP key p k=KP key p (n-1))->∀r,r=ev (Bm key) (kas_desc f p n q)->r.1.Perm p/\r.1.size=p.size/\n<=r.2.1/\r.2.1<=n+f/\r.2.2+1<=r.2.1/\Fi key r.1 r.2.1/\∀k,r.2.1-(r.2.2+1)<=k->k<r.2.1->KP key r.1 k=KP key r.1 (r.2.1-1)|0,p,n,q,D,J,s,A,r,l=>by subst l;show{Array.Perm.refl _,0,aQ _,aQ _,D,s,A}|f+1,p,n,q,D,J,s,A,r,l=>by simp only[kas_desc,ev]at l;cases B:Bm key (p.getD n 0) (p.getD (n-1) 0)with
  |true=>
   rw[B]at l;let step:∀m,m.Perm p->m.size=p.size->(∀k,KP key m k=KP key p k)->r=ev (Bm key) (kas_desc f m (n+1) 0)->r.1.Perm p/\r.1.size=p.size/\n<=r.2.1/\r.2.1<=n+(f+1)/\r.2.2+1<=r.2.1/\Fi key r.1 r.2.1/\∀k,r.2.1-(r.2.2+1)<=k->k<r.2.1->KP key r.1 k=KP key r.1 (r.2.1-1):=by
    intro m L E y C;let I:=B;let o:Fi key m (n+1):=λi j w M=>by
     rw[y i,y j];by_cases u:j=n
     .subst u;by_cases v:i=j
      .subst v;show KeyOrd.kle_refl _
      .show KeyOrd.kle_trans (KeyOrd.kle_of_klt I) (s i (j-1) ⋯ ⋯)
     .show s i j w ⋯
    let[a,b,c,d,e,g,h]:=M7 f m (n+1) 0 ⋯ ⋯ o (λk k1 k2=>by rw[show k=n+1-1 by lia]) r C;show{a.trans L,b.trans E,⋯,⋯,e,g,h}
   by_cases x:q>0
   .rw[aC x]at l;show step _ (KL _ _ _) (HP _ _ _) (M5 ⋯ A) l
   .rw[aB x]at l;show step p (Array.Perm.refl _) rfl dF l|false=>rw[B]at l;simp only[Bool.false_eq_true,if_false,ev]at l;cases H:Bm key (p.getD (n-1) 0) (p.getD n 0)with|true=>rw[H]at l;subst l;show{Array.Perm.refl _,0,aQ _,Nat.le_add_right _ _,D,s,A}|false=>
    rw[H]at l;let y:KP key p n=KP key p (n-1):=O.total _ _ B H;let o:Fi key p (n+1):=λi j w M=>by
     by_cases u:j=n
     .subst u;by_cases v:i=j
      .subst v;show KeyOrd.kle_refl _
      .rw[y];show s i (j-1) ⋯ ⋯
     .show s i j w ⋯
    let[a,b,c,d,e,g,h]:=M7 f p (n+1) (q+1) ⋯ ⋯ o (λk k1 k2=>by
     rw[show n+1-1=n by simp_all];by_cases G:k=n
     .rw[G]
     .rw[y];show A k (by simp_all) ⋯) r l
    show{a,b,⋯,⋯,e,g,h}
def Zk{p}(hz:n<=p.size)(h:Fi key p n):D6 key (kas_rev p 0 n) n:=λi j c a=>by rw[M4 hz,M4 hz,aC {⋯,⋯},aC {⋯,a}];show h _ _ (by omega) ⋯
def Rt{p}(h1:1<=n)(e:n<=nrem)(hz:nrem<=p.size)(h:Fi key p n):∀r,r=ev (Bm key) (kas_tail3 n nrem p)->r.2.Perm p/\r.2.size=p.size/\1<=r.1/\r.1<=nrem/\D6 key r.2 r.1:=λr d=>by simp only[kas_tail3,HN,ev]at d;subst d;let[a,b,c,_]:=M6 _ n h1 (Zk ⋯ h);show{KL _ _ _,HP _ _ _,⋯,(by simp_all),c}
def Ru{p}(h1:1<=n)(y:n+1<=nrem)(hz:nrem<=p.size)(h:Fi key p (n+1)):∀r,r=ev (Bm key) (kas_descPart n nrem p)->r.2.Perm p/\r.2.size=p.size/\1<=r.1/\r.1<=nrem/\D6 key r.2 r.1:=λr f=>by
 simp only[kas_descPart,HN]at f;done<;>let[a,b,c,d,e,g,k]:=M7 (nrem-(n+1)) p _ 0 ⋯ (by simp_all) h (λk k1 k2=>by rw[show k=n+1-1 by lia]) _ rfl;generalize ev _ (kas_desc _ p _ 0)=q at*;by_cases v:q.2.2>0
 .rw[aC v]at f;let w:=M5 ⋯ k;let[x1,s,o,m,l]:=Rt ⋯ (by simp_all) (by rw[HP];simp_all) (λi j u x=>by rw[w,w];show g i j u x) r f;show{x1.trans ((KL _ _ _).trans a),by rw[s,HP,b],o,m,l}
 .rw[aB v]at f;let[x1,s,o,m,l]:=Rt ⋯ ⋯ ⋯ g r f;show{x1.trans a,by rw[s,b],o,m,l}
def Zl{p}(h1:1<=nrem)(hz:nrem<=p.size):∀r,r=ev (Bm key) (kas_count nrem p)->r.2.Perm p/\r.2.size=p.size/\1<=r.1/\r.1<=nrem/\D6 key r.2 r.1:=λr e=>by
 simp only[kas_count,HN]at e;let[a,b,c,d]:=M6 (key:=key) (nrem-1) 1 (aQ _) (λi j m v=>by rw[show i=j by simp_all];show KeyOrd.kle_refl _);generalize ev (Bm key) (kas_asc p (nrem-1) 1)=n at*;by_cases u:n=nrem
 .rw[aC (~~~u)]at e;simp only[ev]at e;subst e;show{Array.Perm.refl _,0,a,⋯,c}
 .rw[aB (~~~u)]at e;let l:=d ⋯;by_cases w:n>1
  .rw[aC w]at e;simp only[ev]at e;cases s:Bm key (p.getD 0 0) (p.getD (n-1) 0)with|true=>rw[s]at e;simp only[dD,ev]at e;subst e;show{Array.Perm.refl _,0,a,(by simp_all),c}|false=>
    rw[s]at e;simp only[Bool.false_eq_true,if_false]at e;let f:∀k,k<n->KP key p k=KP key p (n-1):=λk o=>by let C:=KeyOrd.kle_antisymm (c 0 (n-1) ⋯ ⋯) s;show KeyOrd.kle_antisymm (c k (n-1) ⋯ ⋯) (by rw[<-C];show c 0 k ⋯ o)
    let o:=M5 (i:=0) ⋯ (λk _ k2=>f k k2);let[x1,B,A,y,x]:=Ru a ⋯ (by rw[HP];show hz) (λi j m v=>by
     rw[o,o];by_cases g:j=n
     .subst g;by_cases h:i=j
      .subst h;show KeyOrd.kle_refl _
      .rw[f i ⋯];show KeyOrd.kle_of_klt l
     .rw[f i ⋯,f j ⋯];show KeyOrd.kle_refl _) r e
    show{x1.trans (KL _ _ _),by rw[B,HP],A,y,x}
  .rw[aB w]at e;let q:n=1:=⋯;subst q;show Ru (aQ _) ⋯ hz (λi j m v=>by
    by_cases g:j=1
    .subst g;by_cases h:i=1
     .subst h;show KeyOrd.kle_refl _
     .rw[show i=0 by lia];show KeyOrd.kle_of_klt l
    .rw[show i=j by lia];show KeyOrd.kle_refl _) r e
theorem M8{p}(e:D6 key p k):∀(f l r),l<=r->r<=k->r-l<=f->(∀i,i<l->O.kle (KP key p i) (KP key p k))->(∀i,r<=i->i<k->O.klt (KP key p k) (KP key p i))->∀m,m=ev (Bm key) (kas_place p k f l r)->m<=k/\(∀i,i<m->O.kle (KP key p i) (KP key p k))/\∀i,m<=i->i<k->O.klt (KP key p k) (KP key p i)
 |0,l,r,h1,h2,j,h,hb,m,a=>by subst a;show{⋯,h,λi hi d=>hb i ⋯ d}|f+1,l,r,h1,h2,j,h,hb,m,a=>by
  simp only[kas_place]at a;by_cases c:l≥r
  .rw[aC c]at a;subst a;show{⋯,h,λi hi d=>hb i ⋯ d}
  .rw[aB c]at a;simp only[ev]at a;cases g:Bm key _ (p.getD _ 0)with|true=>rw[g]at a;show M8 e f l _ ⋯ ⋯ ⋯ h (λi hi d=>?_) m a;show KeyOrd.klt_of_klt_of_kle g (e _ _ hi d)|false=>rw[g]at a;show M8 e f _ r ⋯ h2 ⋯ (λi hi=>?_) hb m a;show KeyOrd.kle_trans (e _ _ ⋯ ⋯) g
theorem Rv:∀(f)(p)(k),k+f<=p.size->D6 key p k->∀r,r=ev (Bm key) (kas_bin f p k)->r.Perm p/\D6 key r (k+f)
 |0,p,k,u,d,r,h=>by subst h;show{Array.Perm.refl _,d}|f+1,p,k,u,d,r,h=>by
  simp only[kas_bin,HN]at h;let[a,b,c]:=M8 d k 0 k (cD _) (aQ _) ⋯ (λi hi=>bS hi (Nat.not_lt_zero _)) (λi h1 h2=>bS h1 ⋯) _ rfl;generalize ev (Bm key) (kas_place p k k 0 k)=l at*;let hb:D6 key (bubble p k (k-l)) (k+1):=λi j m v=>by
   let e:k-(k-l)=l:=⋯;rw[Rs ⋯ (by simp_all),Rs ⋯ ⋯,e];by_cases q:i=l
   .rw[aC q];by_cases g:j=l
    .rw[aC g];show KeyOrd.kle_refl _
    .rw[aB g,aC {⋯,⋯}];show KeyOrd.kle_of_klt (c _ ⋯ ⋯)
   .rw[aB q];by_cases o:l<i/\i<=k
    .rw[aC o,aB (by lia),aC {⋯,⋯}];show d _ _ ⋯ ⋯
    .rw[aB o];by_cases g:j=l
     .rw[aC g];show b _ ⋯
     .rw[aB g];by_cases n:l<j/\j<=k
      .rw[aC n];show d _ _ ⋯ ⋯
      .rw[aB n];show d _ _ m ⋯
  let[x1,s]:=Rv f (bubble p k (k-l)) (k+1) (by rw[bubble_size];lia) hb r h;show{x1.trans (bubble_perm _ _ _),by rw[show k+(f+1)=k+1+f by lia];show s}
def Rw(h1:1<=n):∀r,r=ev (Bm key) (kas_sort n)->r.Perm (toArray (List.range n))/\D6 key r n:=λr f=>by
 simp only[kas_sort,HN]at f;let[a,b,c,d,e]:=Zl (p:=toArray (List.range n)) h1 '2' _ rfl;generalize ev _ (kas_count n _)=q at*;by_cases g:q.1<n
 .rw[aC g]at f;let i:max q.1 1=q.1:=(by simp_all);rw[i]at f;let j:q.2.size=n:=by rw[b];simp
  let[x1,h]:=Rv _ q.2 q.1 (by simp_all) e r f;show{x1.trans a,by rw[show n=q.1+(n-q.1)by simp_all];show h}
 .rw[aB g]at f;subst f;show{a,by rw[show n=q.1 by lia];show e}
end
def A4(n:Nat):KasT α->Prop|.ret _=>True|.ask i j k=>i<n/\j<n/\∀b,A4 n (k b)
theorem A4.bind{f:α->KasT β}:∀{t},A4 n t->(∀a,A4 n (f a))->A4 n (t.bind f)|.ret a,_,h=>h a|.ask i j k,h,g=>{h.1,h.2.1,λb=>A4.bind (h.2.2 b) g}
def A4.ite{c}[Decidable c]{t u:KasT α}(h1:A4 n t)(h2:A4 n u):A4 n (if c then t else u):=by split<;>assumption
theorem M9{c}(h:∀i j C,i<n->j<n->C (lt i j) s->c i j C s){Q}:∀t:KasT α,A4 n t->Q (ev lt t) s->t.kasWp c Q s|.ret a,_,q=>q|.ask i j k,a,q=>h i j _ a.1 a.2.1 (M9 h _ (a.2.2 _) q)
def Ent(n:Nat)(p:Array Nat):Prop:=(0<n/\∀x∈p.toList,x<n)
def Ent.at{p}(h:Ent n p)(k):p.getD k 0<n:=by rw[Array.getD_eq_getD_getElem?];cases e:p[k]? with|none=>show h.1|some x=>show h.2 x (~~~(Array.mem_of_getElem? e))
def Ent.perm{p q}(h:Ent n p)(hp:q.Perm p):Ent n q:={h.1,λx c=>h.2 x (by simpa using(hp.mem_iff).mp (~~~c))}
def Ent.rev{p}(h:Ent n p)(i j):Ent n (kas_rev p i j):=h.perm (mirror_perm _ _ _ _)
theorem NA{p}(h:Ent n p):∀(f a),A4 n (kas_asc p f a)|0,_=>trivial|f+1,a=>{h.at _,h.at _,λb=>A4.ite trivial (NA h f _)}
theorem KM:∀(f)(p)(a q),Ent n p->A4 n (kas_desc f p a q)|0,_,_,_,_=>trivial|f+1,p,a,q,h=>#[h.at _,h.at _,λb=>A4.ite (A4.ite (KM f _ _ _ (h.rev _ _)) (KM f _ _ _ h)) {h.at _,h.at _,λd=>A4.ite trivial (KM f _ _ _ h)}]
def Rx{a}{p}(h:Ent n p):A4 n (kas_tail3 a nrem p):=A4.bind (NA (h.rev _ _) _ _) λ_=>trivial
def Out(G:α->Prop):KasT α->Prop|.ret a=>G a|.ask _ _ k=>∀b,Out G (k b)
def Out.ite{c}[Decidable c]{t u}(h1:Out G t)(h2:Out G u):Out G (if c then t else u):=by split<;>assumption
theorem Out.bind{f:α->KasT β}:∀{t},Out G t->(∀a,G a->Out F (f a))->Out F (t.bind f)|.ret a,h,g=>g a h|.ask i j k,h,g=>λb=>Out.bind (h b) g
theorem A4.bindO{f:α->KasT β}:∀{t},A4 n t->Out G t->(∀a,G a->A4 n (f a))->A4 n (t.bind f)|.ret a,_,o,h=>h a o|.ask i j k,h,o,g=>{h.1,h.2.1,λb=>A4.bindO (h.2.2 b) (o b) g}
theorem NB:∀t:KasT α,Out (λ_=>True) t|.ret a=>trivial|.ask _ _ k=>λb=>NB _
theorem Ia:∀(f)(p)(a q),Ent n p->Out (λr=>Ent n r.1) (kas_desc f p a q)|0,_,_,_,h=>h|f+1,p,a,q,h=>λb=>Out.ite (Out.ite (Ia f _ _ _ (h.rev _ _)) (Ia f _ _ _ h)) (λd=>Out.ite h (Ia f _ _ _ h))
def Ry{a}{p}(h:Ent n p):Out (λr=>Ent n r.2) (kas_tail3 a nrem p):=Out.bind (NB _) λ_ _=>h.rev _ _
def Rz{a}{p}(h:Ent n p):A4 n (kas_descPart a nrem p):=A4.bindO (KM _ _ _ _ h) (Ia _ _ _ _ h) λr c=>A4.ite (Rx (c.rev _ _)) (Rx c)
def R0{a}{p}(h:Ent n p):Out (λr=>Ent n r.2) (kas_descPart a nrem p):=Out.bind (Ia _ _ _ _ h) λr c=>Out.ite (Ry (c.rev _ _)) (Ry c)
def Zm{p}(h:Ent n p):A4 n (kas_count nrem p):=A4.bind (NA h _ _) λa=>A4.ite trivial (A4.ite {h.at _,h.at _,λc=>A4.ite trivial (Rz (h.rev _ _))} (Rz h))
def Zn{p}(h:Ent n p):Out (λr=>Ent n r.2) (kas_count nrem p):=Out.bind (NB _) λa _=>Out.ite h (Out.ite (λc=>Out.ite h (R0 (h.rev _ _))) (R0 h))
theorem NC{p}(h:Ent n p):∀(f l r),A4 n (kas_place p k f l r)|0,_,_=>trivial|f+1,l,r=>A4.ite trivial {h.at _,h.at _,λc=>A4.ite (NC h f _ _) (NC h f _ _)}
theorem R1:∀(f)(p)(k),Ent n p->A4 n (kas_bin f p k)|0,_,_,_=>trivial|f+1,p,k,h=>A4.bind (NC h _ _ _) λl=>R1 f _ _ (h.perm (bubble_perm _ _ _))
def R3(h1:1<=n):A4 n (kas_sort n):=by let h:Ent n _:={h1,λx a=>bH.mp a};show A4.bindO (Zm h) (Zn h) λr c=>A4.ite (R1 _ _ _ c) trivial
theorem HQ:∀a,HT.lexLt a a=false|[]=>rfl|x::r=>by rw[HT.dB,aC rfl];show HQ r
theorem HR:∀a b c,HT.lexLt a b=true->HT.lexLt b c=true->HT.lexLt a c=true
 |[],[],c,h,_=>by simp[HT.lexLt]at h|[],_::_,[],_,h=>by simp[HT.lexLt]at h|[],_::_,_::_,_,_=>rfl|_::_,[],_,h,_=>by simp[HT.lexLt]at h|_::_,_::_,[],_,h=>by simp[HT.lexLt]at h|x::xs,y::ys,z::zs,h1,h2=>by
  rw[HT.dB]at h1 h2⊢;by_cases e:x=y
  .subst e;rw[aC rfl]at h1;by_cases d:x=z
   .subst d;rw[aC rfl]at h2⊢;show HR xs ys zs h1 h2
   .rw[aB d]at h2⊢;show h2
  .rw[aB e]at h1;let h1:=aL h1;by_cases d:y=z
   .subst d;rw[aB e];show aK h1
   .rw[aB d]at h2;let h2:=aL h2;rw[aB ⋯];show aK ⋯
theorem Ib:∀a b,HT.lexLt a b=false->HT.lexLt b a=false->a=b
 |[],[],_,_=>rfl|[],_::_,h,_=>by simp[HT.lexLt]at h|_::_,[],_,h=>by simp[HT.lexLt]at h|x::xs,y::ys,h1,h2=>by
  rw[HT.dB]at h1 h2;by_cases c:x=y
  .subst c;rw[aC rfl]at h1 h2;rw[Ib xs ys h1 h2]
  .rw[aB c]at h1;rw[aB (λz=>c z.symm)]at h2;lia
def ND(a b c)(h:HT.lexLt a c=true):HT.lexLt a b=true\/HT.lexLt b c=true:=by
 cases h1:HT.lexLt a b
 .cases h2:HT.lexLt b c
  .cases d:HT.lexLt b a
   .rw[Ib a b h1 d,h2]at h;cases h
   .let:=HR b a c d h;simp_all
  simp
 simp
def Fj:KeyOrd:=(#[By,HT.lexLt,HQ,HR,ND,Ib])
def R4{Q}{vs:C2}{ns ms:By}(i)(h1:IntsAre us ns)(h2:IntsAre vs ms)(d:ns.length=ms.length)(q:Q (HT.lexLt ns ms) s):KatLex prog w A true false Q (us.zip vs) i s:=by induction h1 generalizing vs ms i with
 |nil=>cases h2 with|nil=>show q|cons _ _ _=>cases d
 |cons a t h f=>cases h2 with|nil=>cases d|cons c u g=>
   show kat_cons (SeqAt.EqAt.int_int a t c u prog w _ _ ?_);rw[HT.dB]at q;by_cases e:a=c
   .rw[aC e]at q;rw[show(a==c)=true by simpa using e];show kat_yes (f _ g (Nat.succ.inj d) q)
   .rw[aB e]at q;rw[show(a==c)=false by simpa using e];show kat_no ?_;by_cases hi:i=0
    .subst hi;show kat_lt_int q
    .rw[show(true&&i==0)=false by simp[hi]];show kat_one _ _ (lt_int q)
end L2
namespace L2
abbrev FE(a:Addr)(i c z:Int):HO:=.lst [.ref a,.int i,.int c,.int z]
structure Bag(H:Hp)(b a:Addr):Prop where ob:∃(ns:By)(i c z:Int),H b\(FE a i c z)/\H a\(.lst (ns.map V.int))/\0<=i/\a≠b
structure Step(b a:Addr)(H H':Hp):Prop where
 bag:Bag H' b a
 same:∀p o,p≠b->H p\o->H' p\o
section
variable{b:Addr}
def Step.refl(h:Bag H b a):Step b a H H:={h,λ_ _ _ e=>e}
def Step.trans(x:Step b a H H1)(y:Step b a H1 H2):Step b a H H2:={y.bag,λp o n e=>y.same p o n (x.same p o n e)}
def Bag.put(h:Bag H b a)(nb:p≠b)(na:p≠a):Bag (AA H p o) b a:=by let[ns,i,c,z,h1,h2,r]:=h;show{ns,i,c,z,by rw[AE nb.symm];show h1,by rw[AE na.symm];show h2,r}
def Bag.atb(h:Bag H b a):∃l,H b\(.lst l):=by let[ns,i,c,z,h1,_]:=h;show#[_,h1]
def Bag.ata(h:Bag H b a):∃l,H a\(.lst l):=by let[ns,i,c,z,h1,h2,_]:=h;show#[_,h2]
def Bag.nb(h:Bag H b a)(n:H p=none):p≠b:=by let[l,h1]:=h.atb;show(Ak h1 n).symm
def Bag.na(h:Bag H b a)(n:H p=none):p≠a:=by let[l,h1]:=h.ata;show(Ak h1 n).symm
def Bag.new(h:Bag H b a)(n:H p=none):Bag (AA H p o) b a:=h.put (h.nb n) (h.na n)
def Step.new(h:Bag H b a)(n:H p=none):Step b a H (AA H p o):={h.new n,λq u _ e=>by rw[AE (Ak e n)];show e}
def Bag.neT(h:Bag H b a)(e:H p\(.tup xs)):p≠b/\p≠a:=by let[ns,i,c,z,h1,h2,_]:=h;lia
def Step.free(s:Step b a H H1)(n:H1 p=none):H p=none:=by cases e:H p with|none=>rfl|some o=>rw[s.same p o (s.bag.nb n) e]at n;cases n
end
abbrev BJ(r:By):List AT:=r.map Sum.inl
abbrev Af(x:Str):AT:=Sum.inr x
inductive P where|non|bl(b:Bool)|int(i:Int)|str(x:Str)|bag|tup(xs:List P)|lst(xs:List P)|dT(ks:List By)(vs:List P)|dK(ks:At)(vs:List P)|fT(ks:List By)(vs:List P)
abbrev dI:=List P
mutual
noncomputable def P.imm:P->Bool|.lst _=>false|.dT _ _=>false|.dK _ _=>false|.fT _ _=>false|.tup xs=>P.imms xs|.non=>true|.bl _=>true|.int _=>true|.str _=>true|.bag=>true
noncomputable def P.imms:dI->Bool|[]=>true|x::r=>x.imm&&P.imms r
end
def P.mut:P->Bool|.lst _=>true|.dT _ _=>true|.dK _ _=>true|.fT _ _=>true|_=>false
def Zo{x:P}(h:x.mut=true):x.imm=false:=by cases x<;>simp_all[P.mut,P.imm]
def P.items:P->Option dI|.lst xs=>some xs|.tup xs=>some xs|_=>none
def Fz(H:Hp)(p:Addr)(qH:List (List AT×V)):Prop:=(∃o,H p\(.frz o (.dT qH)))
def Fz.map(h:Fz H p qH)(k:∀o,H p\o->H' p\o):Fz H' p qH:=by let[o,e]:=h;show{o,k _ e}
mutual
noncomputable def Rp(b:Addr)(Z:Addr->Prop)(H:Hp):P->V->Prop|.non,v=>v=.non|.bl k,v=>v=.bl k|.int i,v=>v=.int i|.str x,v=>v=.str x|.bag,v=>v=.ref b|.tup xs,v=>∃p vs,v=.ref p/\H p\(.tup vs)/\AC b Z H xs vs|.lst xs,v=>∃p vs,v=.ref p/\¬Z p/\H p\(.lst vs)/\AC b Z H xs vs|.dT ks xs,v=>∃p vs,v=.ref p/\¬Z p/\H p\(.dT ((ks.map BJ).zip vs))/\ks.length=xs.length/\AC b Z H xs vs|.fT ks xs,v=>∃p vs,v=.ref p/\¬Z p/\Fz H p ((ks.map BJ).zip vs)/\ks.length=xs.length/\AC b Z H xs vs|.dK ks xs,v=>∃p vs,v=.ref p/\¬Z p/\H p\(.dK ((ks.map Af).zip vs))/\ks.length=xs.length/\AC b Z H xs vs
noncomputable def AC(b:Addr)(Z:Addr->Prop)(H:Hp):dI->dH->Prop|[],vs=>vs=[]|x::xs,vs=>∃v r,vs=v::r/\Rp b Z H x v/\AC b Z H xs r
end
def Rc(b:Addr)(Z:Addr->Prop)(H:Hp):P->Addr->Prop|.lst xs,p=>∃vs,H p\(.lst vs)/\AC b Z H xs vs|.dT ks xs,p=>∃vs,H p\(.dT ((ks.map BJ).zip vs))/\ks.length=xs.length/\AC b Z H xs vs|.fT ks xs,p=>∃vs,Fz H p ((ks.map BJ).zip vs)/\ks.length=xs.length/\AC b Z H xs vs|.dK ks xs,p=>∃vs,H p\(.dK ((ks.map Af).zip vs))/\ks.length=xs.length/\AC b Z H xs vs|_,_=>False
section
variable{b:Addr}
mutual
theorem Rp.keep(a:∀p o,¬Z p->H p\o->¬Z' p/\H' p\o)(e:∀p vs,H p\(.tup vs)->H' p\(.tup vs)):∀{x:P}{v:V},Rp b Z H x v->Rp b Z' H' x v|.non,_,h=>h|.bl _,_,h=>h|.int _,_,h=>h|.str _,_,h=>h|.bag,_,h=>h|.tup xs,v,h=>by let[p,vs,h1,h2,c]:=h;show{p,vs,h1,e p vs h2,AC.keep a e c}|.lst xs,v,h=>by let[p,vs,h1,h2,c,d]:=h;show{p,vs,h1,(a p _ h2 c).1,(a p _ h2 c).2,AC.keep a e d}|.dT ks xs,v,h=>by let[p,vs,h1,h2,c,f,d]:=h;show{p,vs,h1,(a p _ h2 c).1,(a p _ h2 c).2,f,AC.keep a e d}|.fT ks xs,v,h=>by let[p,vs,h1,h2,[o,c],f,d]:=h;show{p,vs,h1,(a p _ h2 c).1,{o,(a p _ h2 c).2},f,AC.keep a e d}|.dK ks xs,v,h=>by let[p,vs,h1,h2,c,f,d]:=h;show{p,vs,h1,(a p _ h2 c).1,(a p _ h2 c).2,f,AC.keep a e d}theorem AC.keep(c:∀p o,¬Z p->H p\o->¬Z' p/\H' p\o)(a:∀p vs,H p\(.tup vs)->H' p\(.tup vs)):∀{xs:dI}{vs:dH},AC b Z H xs vs->AC b Z' H' xs vs|[],_,h=>h|x::xs,vs,h=>by let[v,r,h1,h2,d]:=h;show{v,r,h1,Rp.keep c a h2,AC.keep c a d}end
mutual
theorem Rp.imm:∀{x:P}{v:V},x.imm=true->Rp b Z H x v->Rp b Z' H x v|.non,_,_,h=>h|.bl _,_,_,h=>h|.int _,_,_,h=>h|.str _,_,_,h=>h|.bag,_,_,h=>h|.tup xs,v,hi,h=>by let[p,vs,h1,h2,a]:=h;show{p,vs,h1,h2,AC.imm (by simpa[P.imm]using hi) a}|.lst _,_,hi,_=>by simp[P.imm]at hi|.dT _ _,_,hi,_=>by simp[P.imm]at hi|.fT _ _,_,hi,_=>by simp[P.imm]at hi|.dK _ _,_,hi,_=>by simp[P.imm]at hi
theorem AC.imm:∀{xs:dI}{vs:dH},P.imms xs=true->AC b Z H xs vs->AC b Z' H xs vs|[],_,_,h=>h|x::xs,vs,hi,h=>by let[v,r,h1,h2,a]:=h;rw[P.imms,cB]at hi;show{v,r,h1,Rp.imm hi.1 h2,AC.imm hi.2 a}end
theorem AC.length:∀{xs}{vs},AC b Z H xs vs->xs.length=vs.length|[],_,h=>by rw[h];rfl|x::xs,vs,h=>by let[v,r,h1,h2,a]:=h;rw[h1,length_cons,length_cons,AC.length a]
theorem AC.get:∀{xs}{vs}{i:Nat}{x},AC b Z H xs vs->xs[i]?\x->∃v,vs[i]?\v/\Rp b Z H x v|[],_,_,_,_,e=>by simp at e|y::xs,vs,0,x,h,e=>by let[v,r,h1,h2,a]:=h;simp_all|y::xs,vs,i+1,x,h,e=>by let[v,r,h1,h2,a]:=h;subst h1;let[u,d,c]:=AC.get a (~~~e);simp_all
def AC.getV:∀{xs}{vs}{i:Nat}{v},AC b Z H xs vs->vs[i]?\v->∃x,xs[i]?\x/\Rp b Z H x v:=λ{xs vs i v}h e=>by
 let a:=h.length;let hi:i<vs.length:=by
  let q||q:=cE i vs.length
  .show q
  simp_all
 let ex:xs[i]?\(xs[i]'(by simp_all)):=by simp[a,hi]
 let[u,h1,h2]:=h.get ex;simp_all
theorem AC.app:∀{xs ys}{vs us},AC b Z H xs vs->AC b Z H ys us->AC b Z H (xs++ys) (vs++us)|[],_,_,_,h,g=>by rw[h];show g|x::xs,ys,vs,us,h,g=>by let[v,r,h1,h2,a]:=h;subst h1;show{v,r++us,0,h2,AC.app a g}
theorem AC.take:∀{xs}{vs}(n),AC b Z H xs vs->AC b Z H (xs.take n) (vs.take n)|_,_,0,_=>rfl|[],_,_+1,h=>by rw[h];rfl|x::xs,vs,n+1,h=>by let[v,r,h1,h2,a]:=h;subst h1;show{v,r.take n,0,h2,AC.take n a}
theorem AC.drop:∀{xs}{vs}(n),AC b Z H xs vs->AC b Z H (xs.drop n) (vs.drop n)|_,_,0,h=>h|[],_,_+1,h=>by rw[h];rfl|x::xs,vs,n+1,h=>by let[v,r,h1,h2,a]:=h;subst h1;show AC.drop n a
theorem AC.set{x}(c:Rp b Z H x v):∀{xs}{vs}(n),AC b Z H xs vs->AC b Z H (xs.set n x) (vs.set n v)|[],_,_,h=>by rw[h];rfl|y::xs,vs,0,h=>by let[u,r,h1,h2,a]:=h;subst h1;show#[v,r,0,c,a]|y::xs,vs,n+1,h=>by let[u,r,h1,h2,a]:=h;subst h1;show{u,r.set n v,0,h2,AC.set c n a}
theorem AC.erase:∀{xs}{vs}(n),AC b Z H xs vs->AC b Z H (xs.eraseIdx n) (vs.eraseIdx n)|[],_,_,h=>by rw[h];rfl|y::xs,vs,0,h=>by let[u,r,h1,h2,a]:=h;simp_all|y::xs,vs,n+1,h=>by let[u,r,h1,h2,a]:=h;subst h1;show{u,r.eraseIdx n,0,h2,AC.erase n a}
def AC.snoc{x}(h:AC b Z H xs vs)(g:Rp b Z H x v):AC b Z H (xs++[x]) (vs++[v]):=h.app {v,[],0,g,0}
theorem AC.ints:∀{ns:By}{vs},AC b Z H (ns.map P.int) vs↔vs=ns.map V.int
 |[],vs=>Iff.rfl|n::ns,vs=>by
  constructor
  .rintro⟨v,r,h1,h2,a⟩;rw[h1,h2,AC.ints.mp a];rfl
  .intro h;show{.int n,ns.map V.int,h,0,AC.ints.mpr rfl}
theorem AC.strs:∀{ns:At}{vs},AC b Z H (ns.map P.str) vs↔vs=ns.map V.str
 |[],vs=>Iff.rfl|n::ns,vs=>by
  constructor
  .rintro⟨v,r,h1,h2,a⟩;rw[h1,h2,AC.strs.mp a];rfl
  .intro h;show{.str n,ns.map V.str,h,0,AC.strs.mpr rfl}
theorem AC.bls:∀{ns:List Bool}{vs},AC b Z H (ns.map P.bl) vs↔vs=ns.map V.bl
 |[],vs=>Iff.rfl|n::ns,vs=>by
  constructor
  .rintro⟨v,r,h1,h2,a⟩;rw[h1,h2,AC.bls.mp a];rfl
  .intro h;show{.bl n,ns.map V.bl,h,0,AC.bls.mpr rfl}
end
@[simp]theorem Zp(i):(P.int i).imm=true:=rfl
@[simp]theorem Zq(i):(P.str i).imm=true:=rfl
@[simp]theorem Zr(i):(P.bl i).imm=true:=rfl
@[simp]theorem Zs:P.non.imm=true:=rfl
@[simp]theorem Zt:P.bag.imm=true:=rfl
@[simp]theorem R5(xs:dI):(P.lst xs).imm=false:=rfl
@[simp]theorem Zu(ks)(xs:dI):(P.dT ks xs).imm=false:=rfl
@[simp]theorem Zv(ks)(xs:dI):(P.dK ks xs).imm=false:=rfl
@[simp]theorem Zw(xs:dI):(P.tup xs).imm=P.imms xs:=by simp[P.imm]
@[simp]theorem Zx:P.imms []=true:=by simp[P.imms]
@[simp]theorem NE(x)(xs:dI):P.imms (x::xs)=(x.imm&&P.imms xs):=by simp[P.imms]
def HS:P.imms xs=true↔∀x∈xs,x.imm=true:=by induction xs with|nil=>simp|cons x r a=>simp[a]
@[simp]theorem imms_app(xs ys):P.imms (xs++ys)=(P.imms xs&&P.imms ys):=by induction xs with|nil=>simp|cons x r a=>simp[a,Bool.and_assoc]
def HU{α:Type}{f}(h:∀a,(f a).imm=true)(xs:List α):P.imms (xs.map f)=true:=by rw[HS];simp_all
@[simp]theorem Ic(ns:By):P.imms (ns.map P.int)=true:=HU dF ns
@[simp]theorem Ie(ns:At):P.imms (ns.map P.str)=true:=HU dF ns
@[simp]theorem Zy(ns:List Bool):P.imms (ns.map P.bl)=true:=HU dF ns
@[simp]theorem Zz(xs:dI):(P.lst xs).mut=true:=rfl
@[simp]theorem Z0(ks)(xs:dI):(P.dT ks xs).mut=true:=rfl
@[simp]theorem Z2(ks)(xs:dI):(P.dK ks xs).mut=true:=rfl
@[simp]theorem Z3(xs:dI):(P.tup xs).mut=false:=rfl
@[simp]theorem Z4(xs:dI):(P.lst xs).items\xs:=rfl
@[simp]theorem Z5(xs:dI):(P.tup xs).items\xs:=rfl
inductive S where|emp|sh(x:P)|fr(x:P)|own(x:P)
abbrev dJ:=List S
inductive Fl where|nw|fr|cl|bo|rf|an deriving DecidableEq
def Fl.el:Fl->Fl|.nw=>.fr|.fr=>.fr|.bo=>.fr|.cl=>.cl|.rf=>.rf|.an=>.an
def Fl.top:Fl->Fl|.nw=>.nw|.fr=>.nw|.bo=>.nw|.cl=>.cl|.rf=>.rf|.an=>.an
def Fl.join:Fl->Fl->Fl|.nw,g=>g|f,.nw=>f|.cl,.cl=>.cl|.rf,.rf=>.rf|_,_=>.an
def Bc(f:Fl)(xs:dI):Fl:=(if P.imms xs=true then .nw else f.top)
structure Wd where
 b:Addr
 a:Addr
 H₀:Hp
 F:Hp
 O:Addr->Prop
end L2
variable{xs ys:List L2.P}{y:L2.P}{f:L2.Fl}{W:L2.Wd}{U ρ':List L2.S}
namespace L2
def BD(U:dJ)(Y:St)(p:Addr):Prop:=(∃(i:Nat)(x:P),U[i]?\(.own x)/\Y[i]?\(some (.ref p)))
def Ow(W:Wd)(U:dJ)(Y:St)(p:Addr):Prop:=(W.O p\/BD U Y p)
def AL(W:Wd)(U:dJ)(Y:St):Fl->Addr->Prop|.cl,p=>p=W.b\/Ow W U Y p|.rf,p=>p=W.b\/W.H₀ p≠none|.an,p=>p=W.b|_,p=>p=W.b\/Ow W U Y p\/W.H₀ p≠none
abbrev Zf(W:Wd)(U:dJ)(Y:St):Addr->Prop:=AL W U Y .fr
abbrev Zc(W:Wd)(U:dJ)(Y:St):Addr->Prop:=AL W U Y .cl
def DX(W:Wd)(U:dJ)(Y:St)(H:Hp):S->Option V->Prop|.emp,_=>True|.sh x,o=>∃v,o\v/\Rp W.b (Zc W U Y) H x v|.fr x,o=>∃v,o\v/\Rp W.b (Zf W U Y) H x v|.own x,o=>∃p,o\(.ref p)/\W.H₀ p=none/\W.F p=none/\p≠W.b/\p≠W.a/\Rc W.b (Zf W U Y) H x p
structure Ok(W:Wd)(U:dJ)(Y:St)(H:Hp):Prop where
 bag:Bag H W.b W.a
 fb:W.F W.b=none
 old:∀p o,p≠W.b->W.H₀ p\o->H p\o
 frm:∀p o,W.F p\o->H p\o
 oo:∀p,W.O p->W.H₀ p=none/\W.F p=none/\p≠W.b/\p≠W.a/\∃o,H p\o/\∀ys,o≠.tup ys
 len:Y.length=U.length
 slot:∀(i:Nat)s,U[i]?\s->∃o,Y[i]?\o/\DX W U Y H s o
 uniq:∀(i j:Nat)x y,U[i]?\(S.own x)->U[j]?\(S.own y)->Y[i]?=Y[j]?->i=j
def RF(W:Wd)(U:dJ)(Y:St)(Hs:Hp):Fl->Hp->P->V->Prop|.bo,H,x,v=>∃p,v=.ref p/\BD U Y p/\Rc W.b (Zf W U Y) H x p|.nw,H,x,v=>Rp W.b (Zf W U Y) H x v/\(x.mut=true->∃p,v=.ref p/\Hs p=none)|f,H,x,v=>Rp W.b (AL W U Y f) H x v
section
variable{Hs:Hp}{x:P}
def Rc.cell(h:Rc b Z H x p):∃o,H p\o/\∀ys,o≠.tup ys:=by cases x with|lst xs=>let[vs,h1,_]:=h;show{_,h1,λ_ z=>nomatch z}|dT ks xs=>let[vs,h1,_]:=h;show{_,h1,λ_ z=>nomatch z}|fT ks xs=>let[vs,[o,h1],_]:=h;show{_,h1,λ_ z=>nomatch z}|dK ks xs=>let[vs,h1,_]:=h;show{_,h1,λ_ z=>nomatch z}|_=>show h.elim
def Ok.ow(ok:Ok W U Y H)(h:Ow W U Y p):W.H₀ p=none/\W.F p=none/\p≠W.b/\p≠W.a/\∃o,H p\o/\∀ys,o≠.tup ys:=by
 let h||[i,x,h1,h2]:=h
 .show ok.oo p h
 done<;>let[o,c,q,l,j,g,f,e,d]:=ok.slot i _ h1;rw[h2]at c;cases c;cases l;show#[j,g,f,e,d.cell]
def Ok.dom(ok:Ok W U Y H)(h:AL W U Y f p):H p≠none:=by
 let hb:p=W.b->H p≠none:=λe=>by let[l,q]:=ok.bag.atb;simp_all
 let ho:Ow W U Y p->H p≠none:=λe=>by let[_,_,_,_,o,q,_]:=ok.ow e;simp_all
 let hh:W.H₀ p≠none->H p≠none:=λe z=>by
  by_cases hp:p=W.b
  .show hb hp z
  .cases q:W.H₀ p with|none=>show e q|some o=>rw[ok.old p o hp q]at z;cases z
 cases f<;>simp only[AL]at h
 .show h.elim hb λh=>h.elim ho hh
 .show h.elim hb λh=>h.elim ho hh
 .show h.elim hb ho
 .show h.elim hb λh=>h.elim ho hh
 .show h.elim hb hh
 .show hb h
def AL.b:AL W U Y f W.b:=by cases f<;>simp[AL]
def Rp.step(h:Rp W.b (AL W U Y f) H x v)(s:Step W.b W.a H H')(hb:Bag H W.b W.a):Rp W.b (AL W U Y f) H' x v:=h.keep (λp o c e=>{c,s.same p o (λz=>c (z▸AL.b)) e}) λp vs e=>s.same p _ (hb.neT e).1 e
def AC.step(h:AC W.b (AL W U Y f) H xs vs)(s:Step W.b W.a H H')(hb:Bag H W.b W.a):AC W.b (AL W U Y f) H' xs vs:=h.keep (λp o c e=>{c,s.same p o (λz=>c (z▸AL.b)) e}) λp vs e=>s.same p _ (hb.neT e).1 e
def Rc.step(h:Rc W.b (Zf W U Y) H x p)(s:Step W.b W.a H H')(hb:Bag H W.b W.a)(hp:p≠W.b):Rc W.b (Zf W U Y) H' x p:=by cases x with|lst xs=>let[vs,h1,h2]:=h;show{vs,s.same p _ hp h1,h2.step s hb}|dT ks xs=>let[vs,h1,c,h2]:=h;show{vs,s.same p _ hp h1,c,h2.step s hb}|fT ks xs=>let[vs,h1,c,h2]:=h;show{vs,h1.map λ_ e=>s.same p _ hp e,c,h2.step s hb}|dK ks xs=>let[vs,h1,c,h2]:=h;show{vs,s.same p _ hp h1,c,h2.step s hb}|_=>show h.elim
def DX.step{s}{o}(h:DX W U Y H s o)(st:Step W.b W.a H H')(hb:Bag H W.b W.a):DX W U Y H' s o:=by cases s with|emp=>trivial|sh x=>let[v,h1,h2]:=h;show{v,h1,h2.step st hb}|fr x=>let[v,h1,h2]:=h;show{v,h1,h2.step st hb}|own x=>let[p,h1,h2,f,c,e,d]:=h;show{p,h1,h2,f,c,e,d.step st hb c}
theorem Ok.step(ok:Ok W U Y H)(st:Step W.b W.a H H'):Ok W U Y H' where
 bag:=st.bag
 fb:=ok.fb
 old:=λp o hp e=>st.same p o hp (ok.old p o hp e)
 frm:=λp o e=>st.same p o (λz=>by rw[z,ok.fb]at e;cases e) (ok.frm p o e)
 oo:=λp h=>(by let[h1,h2,c,g,o,f,d]:=ok.oo p h;show{h1,h2,c,g,o,st.same p o c f,d})
 len:=ok.len
 slot:=λi s e=>(by let[o,h1,h2]:=ok.slot i s e;show{o,h1,h2.step st ok.bag})
 uniq:=ok.uniq
def RF.step(h:RF W U Y Hs f H x v)(ok:Ok W U Y H)(s:Step W.b W.a H H'):RF W U Y Hs f H' x v:=by cases f with|bo=>let[p,h1,h2,c]:=h;show{p,h1,h2,c.step s ok.bag (ok.ow (.inr h2)).2.2.1}|nw=>show{h.1.step s ok.bag,h.2}|fr=>show Rp.step h s ok.bag|cl=>show Rp.step h s ok.bag|rf=>show Rp.step h s ok.bag|an=>show Rp.step h s ok.bag
def RF.back(h:RF W U Y H1 f H x v)(s:Step W.b W.a Hs H1):RF W U Y Hs f H x v:=by cases f with|nw=>show{h.1,λm=>(by let[p,e,n]:=h.2 m;show{p,e,s.free n})}|_=>show h
def RF.any(h:RF W U Y Hs f H x v)(ok:Ok W U Y H):Rp W.b (AL W U Y .an) H x v:=by let k:∀{g},Rp W.b (AL W U Y g) H x v->Rp W.b (AL W U Y .an) H x v:=λ{g}h=>h.keep (λp o j e=>{λz=>j (by rw[z];show AL.b),e}) λp vs e=>e;cases f with
 |bo=>let[p,h1,h2,d]:=h;let nb:=(ok.ow (.inr h2)).2.2.1;let k2:∀{xs}{vs},AC W.b (Zf W U Y) H xs vs->AC W.b (AL W U Y .an) H xs vs:=λh=>h.keep (λp o j e=>{λz=>j (by rw[z];show AL.b),e}) λp vs e=>e;cases x with|lst xs=>let[vs,c,a]:=d;show{p,vs,h1,nb,c,k2 a}|dT ks xs=>let[vs,c,i,a]:=d;show{p,vs,h1,nb,c,i,k2 a}|fT ks xs=>let[vs,c,i,a]:=d;show{p,vs,h1,nb,c,i,k2 a}|dK ks xs=>let[vs,c,i,a]:=d;show{p,vs,h1,nb,c,i,k2 a}|_=>show d.elim
 |nw=>show k h.1|fr=>show k h|cl=>show k h|rf=>show k h|an=>show h
def RF.items(h:RF W U Y Hs f H x v)(c:x.items\xs):∃p vs,v=.ref p/\(H p\(.lst vs)\/H p\(.tup vs))/\AC W.b (AL W U Y f) H xs vs:=by
 let k:∀{g},Rp W.b (AL W U Y g) H x v->∃p vs,v=.ref p/\(H p\(.lst vs)\/H p\(.tup vs))/\AC W.b (AL W U Y g) H xs vs:=λ{g}h=>by
  cases x<;>simp only[P.items]at c<;>try cases c
  .let[p,vs,h1,h2,a]:=h;show{p,vs,h1,.inr h2,a}
  .let[p,vs,h1,i,h2,a]:=h;show{p,vs,h1,.inl h2,a}
 cases f with|bo=>
  let[p,h1,h2,a]:=h;cases x<;>simp only[P.items]at c<;>try cases c
  .show a.elim
  .let[vs,e,d]:=a;show{p,vs,h1,.inl e,d}|nw=>show k h.1|fr=>show k h|cl=>show k h|rf=>show k h|an=>show k h
def RF.ofEl(h:Rp W.b (AL W U Y f) H x v):RF W U Y Hs f.el H x v:=by cases f<;>show h
def RF.ofImm{g}(hi:x.imm=true)(h:Rp W.b g H x v):RF W U Y Hs .fr H x v:=h.imm hi
def RF.immAny(hi:x.imm=true)(ok:Ok W U Y H)(h:RF W U Y Hs f H x v){g}(a:g≠.bo):RF W U Y Hs g H x v:=by let k:=h.any ok;cases g with|bo=>show bS rfl a|nw=>show{k.imm hi,λm=>by rw[Zo m]at hi;cases hi}|fr=>show k.imm hi|cl=>show k.imm hi|rf=>show k.imm hi|an=>assumption
def RF.newL(ok:Ok W U Y H)(st:Step W.b W.a Hs H)(c:AC W.b (AL W U Y f) H xs vs)(hp:H p=none):RF W U Y Hs (Bc f xs) (AA H p (.lst vs)) (.lst xs) (.ref p):=by
 let nz:∀g,¬AL W U Y g p:=λg z=>ok.dom z hp;let k:∀g,AC W.b _ H xs vs->Rp W.b _ _ (.lst xs) _:=λg h=>{p,vs,0,nz g,AJ,h.step (Step.new ok.bag hp) ok.bag};unfold Bc;split
 .show#[k .fr (c.imm ‹_›),λ_=>{p,0,st.free hp}]
 .cases f with|nw=>show#[k .fr c,λ_=>{p,0,st.free hp}]|fr=>show#[k .fr c,λ_=>{p,0,st.free hp}]|bo=>show#[k .fr c,λ_=>{p,0,st.free hp}]|cl=>show k .cl c|rf=>show k .rf c|an=>show k .an c
def RF.newT(ok:Ok W U Y H)(a:AC W.b (AL W U Y f) H xs vs)(hp:H p=none):RF W U Y Hs (Bc f xs) (AA H p (.tup vs)) (.tup xs) (.ref p):=by
 let k:∀g,AC W.b _ H xs vs->Rp W.b (AL W U Y g) _ (.tup xs) _:=λg h=>{p,vs,0,AJ,h.step (Step.new ok.bag hp) ok.bag};unfold Bc;split
 .show{k .fr (a.imm ‹_›),λm=>by simp at m}
 .cases f with|nw=>show{k .fr a,λm=>by simp at m}|fr=>show{k .fr a,λm=>by simp at m}|bo=>show{k .fr a,λm=>by simp at m}|cl=>show k .cl a|rf=>show k .rf a|an=>show k .an a
end
abbrev pE:=dJ->(P->Fl->Prop)->Prop
end L2
variable{pa pb pe:L2.pE}
namespace L2
set_option tactic.hygienic true
abbrev pT:=dJ->(Bool->Prop)->Prop
abbrev pA:=dJ->(List (P×Fl)->Prop)->Prop
def CI(t:TE)(p:pE):Prop:=(∀(W:Wd)(U:dJ)(Y:St)(H:Hp)(Q:VK)(K:P->Fl->Prop),Ok W U Y H->p U K->(∀x f v H',K x f->Step W.b W.a H H'->RF W U Y H f H' x v->Q v H')->t Y H Q)
def Ig(t:TT)(p:pT):Prop:=(∀(W:Wd)(U:dJ)(Y:St)(H:Hp)(Q:Bool->Hp->Prop)(K:Bool->Prop),Ok W U Y H->p U K->(∀c H',K c->Step W.b W.a H H'->Q c H')->t Y H Q)
def CZ(W:Wd)(U:dJ)(Y:St)(Hs H:Hp):List (P×Fl)->dH->Prop|[],vs=>vs=[]|(x,f)::r,vs=>∃v t,vs=v::t/\RF W U Y Hs f H x v/\CZ W U Y Hs H r t
def NF(t:TA)(p:pA):Prop:=(∀(W:Wd)(U:dJ)(Y:St)(H:Hp)(Q:dH->Hp->Prop)(K:List (P×Fl)->Prop),Ok W U Y H->p U K->(∀xs vs H',K xs->Step W.b W.a H H'->CZ W U Y H H' xs vs->Q vs H')->t Y H Q)
section
def QE(Xs:ι->Cx)(e:Expr)(p:pE):Prop:=(∃t,(∀i,PE (Xs i) e t)/\CI t p)
def QT(Xs:ι->Cx)(e:Expr)(p:pT):Prop:=(∃t,(∀i,PT (Xs i) e t)/\Ig t p)
def QW(Xs:ι->Cx)(e:Expr)(p:pT):Prop:=(∃t,(∀i,PW (Xs i) e t)/\Ig t p)
def QA(Xs:ι->Cx)(es:He)(p:pA):Prop:=(∃t,(∀i,PA (Xs i) es t)/\NF t p)
end
abbrev p2:=P->Fl->P->Fl->(P->Fl->Prop)->Prop
def BL(r:R2)(pr:p2):Prop:=(∀(W:Wd)(U:dJ)(Y:St)(Hs H:Hp)(Q:VK)(K:P->Fl->Prop)(x y:P)(f g:Fl)(v u:V),Ok W U Y H->Step W.b W.a Hs H->RF W U Y Hs f H x v->RF W U Y Hs g H y u->pr x f y g K->(∀z h v' H',K z h->Step W.b W.a H H'->RF W U Y Hs h H' z v'->Q v' H')->r v u H Q)
abbrev pC:=List (P×Fl)->(P->Fl->Prop)->Prop
def DY(r:dH->Hp->VK->Prop)(pr:pC):Prop:=(∀(W:Wd)(U:dJ)(Y:St)(Hs H:Hp)(Q:VK)(K:P->Fl->Prop)(xs:List (P×Fl))(vs:dH),Ok W U Y H->Step W.b W.a Hs H->CZ W U Y Hs H xs vs->pr xs K->(∀z h v' H',K z h->Step W.b W.a H H'->RF W U Y Hs h H' z v'->Q v' H')->r vs H Q)
section
variable{Hs:Hp}{x:P}{ar:List (P×Fl)}
theorem CZ.back:∀{ar}{vs},CZ W U Y H1 H ar vs->Step W.b W.a Hs H1->CZ W U Y Hs H ar vs|[],_,h,_=>h|(x,f)::r,vs,h,st=>by let[v,t,h1,h2,c]:=h;show{v,t,h1,h2.back st,CZ.back c st}
theorem CZ.any:∀{ar}{vs},CZ W U Y Hs H ar vs->Ok W U Y H->AC W.b (AL W U Y .an) H (ar.map (·.1)) vs|[],_,h,_=>h|(x,f)::r,vs,h,ok=>by let[v,t,h1,h2,a]:=h;show{v,t,h1,h2.any ok,CZ.any a ok}
theorem CZ.length:∀{ar}{vs},CZ W U Y Hs H ar vs->vs.length=ar.length|[],_,h=>by rw[h];rfl|(x,f)::r,vs,h=>by let[v,t,h1,h2,a]:=h;rw[h1,length_cons,length_cons,CZ.length a]
end
def Ca(k:Nat):pE:=(λU K=>match U[k]? with|some (.sh x)=>K x .cl|some (.fr x)=>K x .fr|some (.own x)=>K x .bo|_=>False)
def pK(x:P):pE:=(λ_ K=>K x .fr)
def D7(pr:p2)(pa pb:pE):pE:=(λU K=>pa U λx f=>pb U λy g=>pr x f y g K)
def Fk:pA:=(λ_ K=>K [])
def DZ(pa:pE)(pr:pA):pA:=(λU K=>pa U λx f=>pr U λxs=>K ((x,f)::xs))
def HV(pr:pC)(pa:pA):pE:=(λU K=>pa U λxs=>pr xs K)
section
variable{a b c:Expr}{pc:pE}
def Ok.var(ok:Ok W U Y H){K}(h:Ca k U K):∃x f v,K x f/\Y[k]?\(some v)/\RF W U Y H f H x v:=by unfold Ca at h;cases e:U[k]? with|none=>simp_all|some s=>rw[e]at h;let[o,h1,h2]:=ok.slot k s e;cases s with|emp=>simp_all|sh x=>let[v,0,a]:=h2;show#[x,_,v,h,h1,a]|fr x=>let[v,0,a]:=h2;show#[x,_,v,h,h1,a]|own x=>let[p,0,a,i,g,d,c]:=h2;show{x,_,_,h,h1,p,0,#[k,x,e,h1],c}
def Z6(k):CI (tVar k) (Ca k):=λW U Y H Q K ok h q=>by let[x,f,v,h1,h2,a]:=ok.var h;show{v,h2,q x f v H h1 (Step.refl ok.bag) a}
def qv(k)(e:∀i,(Xs i).N[k]?\x:=by rfl)(c:∀i,Ed (Xs i).env.scope x:=by intro _;trivial)(d:No x:=by decide)(a:N_ x:=by decide):QE Xs (.Name x pos) (Ca k):={_,λi=>Ef (e i) (c i) d a,Z6 k}
def Ih{x}(hi:x.imm=true)(h:∀W H,Rp W (λ_=>False) H x v):CI (tC v) (pK x):=λW U Y H Q K ok a q=>q x .fr v H a (Step.refl ok.bag) ((h W.b H).imm hi)
def AK{i j}:QE Xs (.Constant (.int i) j pos) (pK (.int i)):={_,λ_=>Ar,Ih rfl λ_ _=>rfl}
def KN{b j}:QE Xs (.Constant (.bool b) j pos) (pK (.bl b)):={_,λ_=>XJ,Ih rfl λ_ _=>rfl}
def R6:QE Xs (.Constant .none j pos) (pK .non):={_,λ_=>Eg,Ih rfl λ_ _=>rfl}
def A2:QE Xs (.Constant (.str x) j pos) (pK (.str x)):={_,λ_=>A0,Ih rfl λ_ _=>rfl}
def Ii{n}(a:∀i,∃t,(Xs i).mg x\(.int n t))(c:∀i,Gl (Xs i) x:=by rfl)(d:No x:=by decide+kernel):QE Xs (.Name x pos) (pK (.int n)):={_,λi=>(by let[t,h]:=a i;show QP (c i) h #[t,0] d),Ih rfl λ_ _=>rfl}
def KO{r}(l:BL r pr)(m:CI ta pa)(hb:CI tb pb):CI (IP r ta tb) (D7 pr pa pb):=λW U Y H Q K ok h q=>m W U Y H _ _ ok h λx f v H1 h1 a j=>hb W U Y H1 _ _ (ok.step a) h1 λy g u H2 h2 c i=>l W U Y H H2 Q K x y f g v u ((ok.step a).step c) (a.trans c) (j.step (ok.step a) c) (i.back a) h2 λz h v' H' n d e=>q z h v' H' n ((a.trans c).trans d) e
def BE{r}(h:∀i,A1 (Xs i) (binaryOp op) r)(g:BL r pr)(j:QE Xs a pa)(hb:QE Xs b pb):QE Xs (.BinOp a op b pos) (D7 pr pa pb):=by let[ta,f,e]:=j;let[tb,d,c]:=hb;show{_,λi=>B4 (h i) (f i) (d i),KO g e c}
def Ep{r}(h:∀i,A1 (Xs i) (compareOp op) r)(g:BL r pr)(l:QE Xs a pa)(hb:QE Xs b pb)(j:behindInMarks op b=false):QE Xs (.Compare a [op] [b] pos) (D7 pr pa pb):=by let[ta,f,e]:=l;let[tb,d,c]:=hb;show{_,λi=>MU (h i) (f i) (d i) j,KO g e c}
def Al{r}(j:∀i,Fe (Xs i) r)(h:BL r pr)(l:QE Xs a pa)(hb:QE Xs b pb)(g:RA b):QE Xs (.Subscript a b pos) (D7 pr pa pb):=by let[ta,f,e]:=l;let[tb,d,c]:=hb;show{_,λi=>Br (j i) (f i) (d i) g,KO h e c}
def AH:QA Xs [] Fk:={_,λ_=>AS,λW U Y H Q K ok h q=>q [] [] H h (Step.refl ok.bag) rfl}
def AB(r:QE Xs a pa)(p:QA Xs es pr)(o:∀i,starEach (a::es) (Xs i).env=(false,eval a (Xs i).env)::starEach es (Xs i).env:=by rfl):QA Xs (a::es) (DZ pa pr):=by let[ta,j,g]:=r;let[tr,e,d]:=p;show{_,λi=>AG (j i) (e i) (o i),λW U Y H Q K ok h q=>?_};show g W U Y H _ _ ok h λx f v H1 h1 c n=>d W U Y H1 _ _ (ok.step c) h1 λxs vs H2 h2 l m=>q _ _ H2 h2 (c.trans l) {v,vs,0,n.step (ok.step c) l,m.back c}
def R7{r}{p}(f:DY r pr)(g:NF t p):CI (IT r t) (HV pr p):=λW U Y H Q K ok h q=>g W U Y H _ _ ok h λxs vs H1 h1 a e=>f W U Y H H1 Q K xs vs (ok.step a) a e h1 λz h v' H' i c d=>q z h v' H' i (a.trans c) d
def A6{id}{r}{p}{p1}(m:∀i,B3 (Xs i) (.builtin id) r)(f:DY r pr)(h:∀i,(Xs i).mg x=none)(e:bootBuiltins x\(.builtin id))(n:QA Xs (a::es) p)(j:∀i,Gl (Xs i) x:=by rfl)(g:x≠"__name__":=by decide+kernel)(d:No x:=by decide+kernel)(l:∀i,starEach (a::es) (Xs i).env=(false,eval a (Xs i).env)::starEach es (Xs i).env:=by rfl)(c:∀i,(backTo pos (starEach es (Xs i).env)).any (·.1)=false:=by rfl):QE Xs (.Call (.Name x p1) (a::es) [] pos) (HV pr p):=by let[t,h1,h2]:=n;show{_,λi=>Fd (m i) (j i) (h i) e (h1 i) g d (l i) (c i),R7 f h2}
def Ck{r}{p}{p1}(m:∀i,B3 (Xs i) (.type T) r)(f:DY r pr)(h:∀i,(Xs i).mg x=none)(e:bootBuiltins x\(.type T))(n:QA Xs (a::es) p)(j:∀i,Gl (Xs i) x:=by rfl)(g:x≠"__name__":=by decide+kernel)(d:No x:=by decide+kernel)(l:∀i,starEach (a::es) (Xs i).env=(false,eval a (Xs i).env)::starEach es (Xs i).env:=by rfl)(c:∀i,(backTo pos (starEach es (Xs i).env)).any (·.1)=false:=by rfl):QE Xs (.Call (.Name x p1) (a::es) [] pos) (HV pr p):=by let[t,h1,h2]:=n;show{_,λi=>E8 (m i) (j i) (h i) e (h1 i) g d (l i) (c i),R7 f h2}
end
def BU:P->Fl->Fl|x,.bo=>if x.imm=true then .nw else .rf|x,.nw=>.nw|x,.fr=>.nw|x,.cl=>if x.imm=true then .nw else .cl|x,.rf=>if x.imm=true then .nw else .rf|x,.an=>if x.imm=true then .nw else .an
def DJ:List (P×Fl)->Fl|[]=>.nw|(x,f)::r=>(BU x f).join (DJ r)
def NG(p:pA):pE:=(λU K=>p U λxs=>K (.tup (xs.map (·.1))) (DJ xs))
def R8(p:pA):pE:=(λU K=>p U λxs=>K (.lst (xs.map (·.1))) (DJ xs))
section
variable{Hs:Hp}{x:P}{g:Fl}{ar:List (P×Fl)}
def NH(ok:Ok W U Y H)(h2:RF W U Y Hs f H x v):BU x f≠.bo/\BU x f≠.fr/\Rp W.b (AL W U Y (BU x f)) H x v:=by
 by_cases hi:x.imm=true
 .let e:BU x f=.nw:=by cases f<;>simp[BU,hi]
  rw[e];show{'2','2',(h2.any ok).imm hi}
 .cases f with|nw=>show{by simp[BU],by simp[BU],h2.1}|fr=>show{by simp[BU],by simp[BU],h2}|cl=>simp only[BU,aB hi];show#['2','2',h2]|rf=>simp only[BU,aB hi];show#['2','2',h2]|an=>simp only[BU,aB hi];show#['2','2',h2]|bo=>
   simp only[BU,aB hi];show#['2','2',?_];let[p,i,m,d]:=h2;let l:=ok.ow (.inr m);let nz:¬AL W U Y .rf p:=by simp only[AL,not_or,Classical.not_not];show#[l.2.2.1,l.1]
   let j:∀{xs}{vs},AC W.b (Zf W U Y) H xs vs->AC W.b (AL W U Y .rf) H xs vs:=λh=>h.keep (λp o n e=>{λz=>n (z.elim .inl λz=>.inr (.inr z)),e}) λp vs e=>e;cases x with|lst xs=>let[us,c,a]:=d;show{p,us,i,nz,c,j a}|dT ks xs=>let[us,c,g,a]:=d;show{p,us,i,nz,c,g,j a}|fT ks xs=>let[us,c,g,a]:=d;show{p,us,i,nz,c,g,j a}|dK ks xs=>let[us,c,g,a]:=d;show{p,us,i,nz,c,g,j a}|_=>show d.elim
def R9{g j}(h1:g≠.bo)(h2:g≠.fr)(c:j≠.bo)(a:j≠.fr)(p)(z:AL W U Y (g.join j) p):AL W U Y g p/\AL W U Y j p:=by cases g<;>cases j<;>simp_all[Fl.join,AL]<;>let z||z:=z<;>simp_all
def NI{g j:Fl}(h1:g≠.bo)(h2:g≠.fr)(c:j≠.bo)(a:j≠.fr):g.join j≠.bo/\g.join j≠.fr:=by cases g<;>cases j<;>simp_all[Fl.join]
theorem CZ.items:∀{ar}{vs},Ok W U Y H->CZ W U Y Hs H ar vs->DJ ar≠.bo/\DJ ar≠.fr/\AC W.b (AL W U Y (DJ ar)) H (ar.map (·.1)) vs|[],_,_,h=>{by simp[DJ],by simp[DJ],h}|(x,f)::r,vs,ok,h=>by let[v,t,h1,h2,m]:=h;let[g,d,l]:=CZ.items ok m;let[c,a,j]:=NH ok h2;let hj:=R9 (W:=W) (U:=U) (Y:=Y) c a g d;show{(NI c a g d).1,(NI c a g d).2,v,t,h1,j.keep (λp o i e=>{λz=>i (hj p z).1,e}) (λp vs e=>e),l.keep (λp o i e=>{λz=>i (hj p z).2,e}) (λp vs e=>e)}
def RF.topped(hb:g≠.bo)(hf:g≠.fr):g.top=g:=by cases g<;>simp_all[Fl.top]
end
section
variable{a b c:Expr}{pc:pE}
theorem NJ:∀{xs},P.imms (xs.map (·.1))=true->DJ xs=.nw
 |[],_=>rfl|(x,f)::r,hi=>by
  simp only[map_cons,NE,cB]at hi;rw[DJ,NJ hi.2];let:BU x f=.nw:=by cases f<;>simp[BU,hi.1]
  rw[this];rfl
def DK{x1}{p}(h:QA Xs es p)(m:es.length=n:=by rfl)(hz:n<=sizeLine:=by decide):QE Xs (.Tuple es x1 pos) (NG λU K=>p U λxs=>xs.length=n/\K xs):=by
 let[t,h1,h2]:=h;show{_,λi=>B0 (h1 i),λW U Y H Q K ok l q=>?_};show h2 W U Y H _ _ ok l λxs vs H1 zz a c=>?_;let[j,k1]:=zz;show{by rw[c.length,j];show hz,λp d=>?_};let[g,f,e]:=CZ.items (ok.step a) c;let st:=a.trans (Step.new (o:=.tup vs) a.bag d);show q _ _ _ _ k1 st ?_;let:=RF.newT (Hs:=H) (ok.step a) e d;unfold Bc at this;split at this
 .rename_i hi;rw[NJ hi];show this
 .rw[RF.topped g f]at this;show this
def B9{p}(h:QA Xs es p)(m:es.length=n:=by rfl)(hz:n<=sizeLine:=by decide):QE Xs (.List es pos) (R8 λU K=>p U λxs=>xs.length=n/\K xs):=by
 let[t,h1,h2]:=h;show{_,λi=>DG (h1 i),λW U Y H Q K ok l q=>?_};show h2 W U Y H _ _ ok l λxs vs H1 zz a c=>?_;let[j,k1]:=zz;show{by rw[c.length,j];show hz,λp d=>?_};let[g,f,e]:=CZ.items (ok.step a) c;let st:=a.trans (Step.new (o:=.lst vs) a.bag d);show q _ _ _ _ k1 st ?_;let:=RF.newL (ok.step a) a e d;unfold Bc at this;split at this
 .rename_i hi;rw[NJ hi];show this
 .rw[RF.topped g f]at this;show this
end
def NK(k:List AT):By:=(k.map λx=>match x with|.inl i=>i|.inr _=>0)
def SA(k:AT):Str:=(match k with|.inr x=>x|.inl _=>{#[]})
def NL(r):NK (BJ r)=r:=by simp[NK,bZ,Function.comp_def]
def SB{ks ks':List By}(h:ks.map BJ=ks'.map BJ):ks=ks':=by let:=aT (map NK) h;simpa[Function.comp_def,NL]using this
def Z7(h:ks.map Af=ks'.map Af):ks=ks':=by let:=aT (map SA) h;simpa[Function.comp_def,SA]using this
def NM{α c:Type}{ks ks':List α}{vs vs':List c}(h1:ks.length=vs.length)(h2:ks'.length=vs'.length)(h:ks.zip vs=ks'.zip vs'):ks=ks'/\vs=vs':=by let a:=aT (map Prod.fst) h;let b:=aT (map Prod.snd) h;rw[map_fst_zip ⋯,map_fst_zip ⋯]at a;rw[map_snd_zip (by simp_all),map_snd_zip ⋯]at b;show#[a,b]
section
variable{b:Addr}
def P.kd:P->Nat|.non=>0|.bl _=>1|.int _=>2|.str _=>3|.bag=>4|.tup _=>5|.lst _=>6|.dT _ _=>7|.fT _ _=>8|.dK _ _=>9
def Z8(b:Addr)(H:Hp):V->Nat
 |.non=>0|.bl _=>1|.int _=>2|.str _=>3|.ref p=>if p=b then 4 else match H p with|some (.tup _)=>5|some (.lst _)=>6|some (.dT _)=>7|some (.frz _ _)=>8|some (.dK _)=>9|_=>10
 |_=>10
def Rp.kd(hz:Z b)(hb:∀vs,H b≠some (.tup vs)){x}(h:Rp b Z H x v):Z8 b H v=x.kd:=by cases x with|tup xs=>let[p,vs,0,e,_]:=h;change(if p=b then _ else _)=_;rw[aB (λz:p=b=>hb vs (z▸e)),e];rfl|lst xs=>let[p,vs,0,n,e,_]:=h;change(if p=b then _ else _)=_;rw[aB (λz:p=b=>n (z▸hz)),e];rfl|dT ks xs=>let[p,vs,0,n,e,_]:=h;change(if p=b then _ else _)=_;rw[aB (λz:p=b=>n (z▸hz)),e];rfl|fT ks xs=>let[p,vs,0,n,[o,e],_]:=h;change(if p=b then _ else _)=_;rw[aB (λz:p=b=>n (z▸hz)),e];rfl|dK ks xs=>let[p,vs,0,n,e,_]:=h;change(if p=b then _ else _)=_;rw[aB (λz:p=b=>n (z▸hz)),e];rfl|bag=>cases h;show aC rfl|_=>cases h;rfl
mutual
theorem Rp.fun(hz:Z b)(hb:∀vs,H b≠some (.tup vs)):∀{x y:P}{v:V},Rp b Z H x v->Rp b Z H y v->x=y:=λ{x y v}h1 h2=>by let k:=(h1.kd hz hb).symm.trans (h2.kd hz hb);cases x with
 |tup xs=>cases y with|tup ys=>let[p,vs,0,f,d]:=h1;let[q,us,e,a,c]:=h2;cases e;rw[f]at a;cases a;rw[AC.fun hz hb d c]|_=>cases k
 |lst xs=>cases y with|lst ys=>let[p,vs,0,_,f,d]:=h1;let[q,us,e,_,a,c]:=h2;cases e;rw[f]at a;cases a;rw[AC.fun hz hb d c]|_=>cases k
 |dT ks xs=>cases y with|dT g ys=>let[p,vs,0,_,f,el,d]:=h1;let[q,us,e,_,a,i,c]:=h2;cases e;rw[f]at a;let[h,0]:=NM (by rw[aA];show el.trans d.length) (by rw[aA];show i.trans c.length) (HO.dT.inj (oI a));rw[SB h,AC.fun hz hb d c]|_=>cases k
 |fT ks xs=>cases y with|fT g ys=>let[p,vs,0,_,[o,f],el,d]:=h1;let[q,us,e,_,[o',a],i,c]:=h2;cases e;rw[f]at a;let[h,0]:=NM (by rw[aA];show el.trans d.length) (by rw[aA];show i.trans c.length) (HO.dT.inj (HO.frz.inj (oI a)).2);rw[SB h,AC.fun hz hb d c]|_=>cases k
 |dK ks xs=>cases y with|dK g ys=>let[p,vs,0,_,f,el,d]:=h1;let[q,us,e,_,a,i,c]:=h2;cases e;rw[f]at a;let[h,0]:=NM (by rw[aA];show el.trans d.length) (by rw[aA];show i.trans c.length) (HO.dK.inj (oI a));rw[Z7 h,AC.fun hz hb d c]|_=>cases k
 |_=>cases h1;cases y<;>first|(cases k;done)|(cases h2;rfl)theorem AC.fun(hz:Z b)(hb:∀vs,H b≠some (.tup vs)):∀{xs ys:dI}{vs:dH},AC b Z H xs vs->AC b Z H ys vs->xs=ys
 |[],ys,vs,h1,h2=>by rw[show vs=[]from h1]at h2;cases ys with|nil=>rfl|cons y r=>let[v,t,e,_]:=h2;cases e
 |x::xs,ys,vs,h1,h2=>by let[v,r,0,g,d]:=h1;cases ys with|nil=>cases h2|cons y t=>let[v',h,f,c,a]:=h2;cases f;rw[Rp.fun hz hb g c,AC.fun hz hb d a]end
mutual
theorem Rp.avoid(hz:Z b)(hb:∀vs,H b≠some (.tup vs)){x:P}{p:Addr}(a:Rp b Z H x (.ref p)):∀{y:P}{v:V},sizeOf y<sizeOf x->Rp b Z H y v->Rp b (λq=>Z q\/q=p) H y v|.non,_,_,h=>h|.bl _,_,_,h=>h|.int _,_,_,h=>h|.str _,_,_,h=>h|.bag,_,_,h=>h|.tup ys,v,hs,h=>by let[q,vs,e,d,c]:=h;show{q,vs,e,d,AC.avoid hz hb a (by simp at hs⊢;lia) c}|.lst ys,v,hs,h=>by let[q,vs,0,e,d,c]:=id h;show{q,vs,0,λz=>z.elim e λz=>?_,d,AC.avoid hz hb a (by simp at hs⊢;lia) c};subst z;rw[Rp.fun hz hb a h]at hs;show aX _ hs|.dT ks ys,v,hs,h=>by let[q,vs,0,e,d,el,c]:=id h;show{q,vs,0,λz=>z.elim e λz=>?_,d,el,AC.avoid hz hb a (by simp at hs⊢;lia) c};subst z;rw[Rp.fun hz hb a h]at hs;show aX _ hs|.fT ks ys,v,hs,h=>by let[q,vs,0,e,d,el,c]:=id h;show{q,vs,0,λz=>z.elim e λz=>?_,d,el,AC.avoid hz hb a (by simp at hs⊢;lia) c};subst z;rw[Rp.fun hz hb a h]at hs;show aX _ hs|.dK ks ys,v,hs,h=>by let[q,vs,0,e,d,el,c]:=id h;show{q,vs,0,λz=>z.elim e λz=>?_,d,el,AC.avoid hz hb a (by simp at hs⊢;lia) c};subst z;rw[Rp.fun hz hb a h]at hs;show aX _ hs
theorem AC.avoid(hz:Z b)(hb:∀vs,H b≠some (.tup vs)){x:P}{p:Addr}(a:Rp b Z H x (.ref p)):∀{ys:dI}{vs:dH},sizeOf ys<sizeOf x->AC b Z H ys vs->AC b (λq=>Z q\/q=p) H ys vs|[],_,_,h=>h|y::ys,vs,hs,h=>by let[v,r,e,d,c]:=h;show{v,r,e,Rp.avoid hz hb a (by simp at hs⊢;lia) d,AC.avoid hz hb a (by simp at hs⊢;lia) c}end
def Rp.toRc(hz:Z b)(hb:∀vs,H b≠some (.tup vs)){x}(g:x.mut=true)(a:Rp b Z H x (.ref p)):¬Z p/\Rc b (λq=>Z q\/q=p) H x p:=by cases x with|lst xs=>let[q,vs,f,e,d,c]:=id a;cases f;show{e,vs,d,AC.avoid hz hb a '2' c}|dT ks xs=>let[q,vs,f,e,d,el,c]:=id a;cases f;show{e,vs,d,el,AC.avoid hz hb a '4' c}|fT ks xs=>let[q,vs,f,e,d,el,c]:=id a;cases f;show{e,vs,d,el,AC.avoid hz hb a '4' c}|dK ks xs=>let[q,vs,f,e,d,el,c]:=id a;cases f;show{e,vs,d,el,AC.avoid hz hb a '4' c}|_=>simp[P.mut]at g
end
def Bn(k:Nat)(x:P)(f:Fl)(U:dJ)(K:dJ->Prop):Prop:=(if x.imm=true then K (U.set k (.sh x))else match f with|.nw=>K (U.set k (if x.mut=true then .own x else .fr x))|.fr=>K (U.set k (.fr x))|.cl=>K (U.set k (.sh x))|_=>False)
section
variable{Hs:Hp}{x:P}{k:Nat}
def Ok.nt(ok:Ok W U Y H):∀vs,H W.b≠some (.tup vs):=λvs e=>(ok.bag.neT e).1 rfl
def D8(st:Step W.b W.a Hs H)(c:∀p,BD ρ' σ' p->BD U Y p\/Hs p=none)(p)(o)(hz:¬AL W U Y f p)(e:Hs p\o):¬AL W ρ' σ' f p/\H p\o:=by
 show{λz=>hz ?_,st.same p o (λz=>hz (z▸AL.b)) e};let k:Ow W ρ' σ' p->Ow W U Y p:=λz=>z.elim .inl λz=>(c p z).elim .inr λz=>by simp_all
 cases f<;>simp only[AL]at z⊢
 all_goals first|show z|show z.elim .inl λz=>.inr (k z)|show z.elim .inl λz=>.inr (z.elim (λz=>.inl (k z)) .inr)
def Rp.move(hb:Bag Hs W.b W.a)(st:Step W.b W.a Hs H)(c:∀p,BD ρ' σ' p->BD U Y p\/Hs p=none)(h:Rp W.b (AL W U Y f) Hs x v):Rp W.b (AL W ρ' σ' f) H x v:=h.keep (D8 st c) λp vs e=>st.same p _ (hb.neT e).1 e
def AC.move(hb:Bag Hs W.b W.a)(st:Step W.b W.a Hs H)(c:∀p,BD ρ' σ' p->BD U Y p\/Hs p=none)(h:AC W.b (AL W U Y f) Hs xs vs):AC W.b (AL W ρ' σ' f) H xs vs:=h.keep (D8 st c) λp vs e=>st.same p _ (hb.neT e).1 e
def Rc.move(hb:Bag Hs W.b W.a)(st:Step W.b W.a Hs H)(hp:p≠W.b)(d:∀p,BD ρ' σ' p->BD U Y p\/Hs p=none)(h:Rc W.b (Zf W U Y) Hs x p):Rc W.b (Zf W ρ' σ') H x p:=by cases x with|lst xs=>let[vs,h1,h2]:=h;show{vs,st.same p _ hp h1,h2.move hb st d}|dT ks xs=>let[vs,h1,c,h2]:=h;show{vs,st.same p _ hp h1,c,h2.move hb st d}|fT ks xs=>let[vs,h1,c,h2]:=h;show{vs,h1.map λ_ e=>st.same p _ hp e,c,h2.move hb st d}|dK ks xs=>let[vs,h1,c,h2]:=h;show{vs,st.same p _ hp h1,c,h2.move hb st d}|_=>show h.elim
def DX.move{s}{o}(hb:Bag Hs W.b W.a)(st:Step W.b W.a Hs H)(c:∀p,BD ρ' σ' p->BD U Y p\/Hs p=none)(h:DX W U Y Hs s o):DX W ρ' σ' H s o:=by cases s with|emp=>trivial|sh x=>let[v,h1,h2]:=h;show{v,h1,h2.move hb st c}|fr x=>let[v,h1,h2]:=h;show{v,h1,h2.move hb st c}|own x=>let[p,h1,h2,g,d,f,e]:=h;show{p,h1,h2,g,d,f,e.move hb st d c}
theorem Ok.put{s}(ok:Ok W U Y Hs)(st:Step W.b W.a Hs H)(g:k<U.length)(A:∀p,BD (U.set k s) (Y.set k (some v)) p->BD U Y p\/Hs p=none)(hs:DX W (U.set k s) (Y.set k (some v)) H s (some v))(hu:∀y,s=.own y->∃p,v=.ref p/\Hs p=none):Ok W (U.set k s) (Y.set k (some v)) H where
 bag:=st.bag
 fb:=ok.fb
 old:=λp o hp e=>st.same p o hp (ok.old p o hp e)
 frm:=λp o e=>st.same p o (λz=>by rw[z,ok.fb]at e;cases e) (ok.frm p o e)
 oo:=(ok.step st).oo
 len:=by rw[length_set,length_set];show ok.len
 slot:=λi s' e=>by
  by_cases hi:k=i
  .subst hi;rw[bY g]at e;cases e;show{some v,bY (by rw[ok.len];show g),hs}
  .rw[bV hi]at e;let[o,h1,h2]:=ok.slot i s' e;show{o,by rw[bV hi];show h1,h2.move ok.bag st A}
 uniq:=λi j x y h1 h2 c=>by
  let old:∀i x,k≠i->(U.set k s)[i]?\(.own x)->∃p o,Y[i]?\(some (.ref p))/\Hs p\o:=λi x hi e=>by rw[bV hi]at e;done<;>(let[o,w,p,u,_,_,_,_,r]:=ok.slot i _ e;let[o',n,_]:=r.cell);show{p,o',by rw[w,u],n}
  let new:∀i x,k=i->(U.set k s)[i]?\(.own x)->∃p,v=.ref p/\Hs p=none:=λi x hi e=>by subst hi;rw[bY g]at e;cases e;show hu x rfl
  let d:k<Y.length:=by rw[ok.len];show g
  by_cases hi:k=i<;>by_cases hj:k=j
  .show hi.symm.trans hj
  .let[p,m,l]:=new i x hi h1;let[q,o,h,f]:=old j y hj h2;rw[<-hi,bY d,bV hj,h,m]at c;cases c;rw[l]at f;cases f
  .exfalso;let[p,m,l]:=new j y hj h2;let[q,o,h,f]:=old i x hi h1;rw[<-hj,bY d,bV hi,h,m]at c;cases c;rw[l]at f;cases f
  .rw[bV hi]at h1 c;rw[bV hj]at h2 c;show ok.uniq i j x y h1 h2 c
def Ij{s}(a:∀x,s≠.own x):∀p,BD (U.set k s) (Y.set k (some v)) p->BD U Y p:=λp⟨i,x,h1,h2⟩=>by
 by_cases hi:k=i
 .subst hi;let q||q:=cE k U.length
  .simp_all
  simp_all
 .rw[bV hi]at h1 h2;show#[i,x,h1,h2]
def Ok.set{K}(ok:Ok W U Y Hs)(st:Step W.b W.a Hs H)(r:RF W U Y Hs f H x v)(h:Bn k x f U K):∃ρ',K ρ'/\Ok W ρ' (Y.set k (some v)) H:=by
 by_cases d:U.length<=k
 .let J:∀s,U.set k s=U:=λs=>set_eq_of_length_le d;let I:Y.set k (some v)=Y:=set_eq_of_length_le (by rw[ok.len];show d);rw[I];show{U,?_,ok.step st};unfold Bn at h;simp only[J]at h;split at h
  .show h
  .cases f<;>first|show h|show h.elim
 let d:=Nat.lt_of_not_le d;let c:=ok.step st;let k1:∀(s),(∀x,s≠.own x)->DX W (U.set k s) (Y.set k (some v)) H s (some v)->Ok W (U.set k s) (Y.set k (some v)) H:=λs hs u=>ok.put st d (λp z=>.inl (Ij hs p z)) u λy e=>bS e (hs y)
 let k2:∀{s}{g},(∀x,s≠.own x)->Rp W.b (AL W U Y g) H x v->Rp W.b (AL W (U.set k s) (Y.set k (some v)) g) H x v:=λ{s g}hs u=>Rp.move c.bag (Step.refl c.bag) (λp z=>.inl (Ij hs p z)) u
 unfold Bn at h;split at h
 .rename_i hi;show#[_,h,k1 _ '6' {v,0,(r.any c).imm hi}]
 .cases f with|nw=>
   by_cases A:x.mut=true
   .rw[aC A]at h;show#[_,h,?_];let[p,0,hp]:=r.2 A;let D:∀q,BD (U.set k (.own x)) (Y.set k (some (.ref p))) q->BD U Y q\/Hs q=none:=λq⟨i,y,h1,h2⟩=>by
     by_cases hi:k=i
     .subst hi;rw[bY (by rw[ok.len];show d)]at h2;cases h2;show .inr hp
     .rw[bV hi]at h1 h2;show .inl #[i,y,h1,h2]
    let[nz,m]:=Rp.toRc AL.b c.nt A r.1;let n:p≠W.b/\W.H₀ p=none:=by simp only[AL,not_or,Classical.not_not]at nz;show#[nz.1,nz.2.2]
    let G:W.F p=none:=by cases q:W.F p with|none=>rfl|some o=>rw[ok.frm p o q]at hp;cases hp
    let E:=ok.bag.na hp;let B:∀q,¬(Zf W U Y q\/q=p)->¬Zf W (U.set k (.own x)) (Y.set k (some (.ref p))) q:=λq u z=>u (by
     simp only[AL]at z⊢;let z||z||z:=z
     .show .inl (.inl z)
     .let z||z:=z
      .show .inl (.inr (.inl (.inl z)))
      .let[i,y,h1,h2]:=z;by_cases hi:k=i
       .subst hi;rw[bY (by rw[ok.len];show d)]at h2;cases h2;show .inr rfl
       .rw[bV hi]at h1 h2;show .inl (.inr (.inl (.inr #[i,y,h1,h2])))
     .show .inl (.inr (.inr z)))
    let w:∀{xs}{vs},AC W.b (λq=>Zf W U Y q\/q=p) H xs vs->AC W.b (Zf W (U.set k (.own x)) (Y.set k (some (.ref p)))) H xs vs:=λh=>h.keep (λq o C e=>{B q C,e}) λq us e=>e;show ok.put st d D #[p,0,n.2,G,n.1,E,?_] λy e=>#[p,0,hp];cases x with|lst xs=>let[us,l,j]:=m;show{us,l,w j}|dT ks xs=>let[us,l,q0,j]:=m;show{us,l,q0,w j}|fT ks xs=>let[us,l,q0,j]:=m;show{us,l,q0,w j}|dK ks xs=>let[us,l,q0,j]:=m;show{us,l,q0,w j}|_=>show m.elim
   .rw[aB A]at h;show#[_,h,k1 _ '6' {v,0,k2 '6' r.1}]|fr=>show#[_,h,k1 _ '6' {v,0,k2 '6' r}]|cl=>show#[_,h,k1 _ '6' {v,0,k2 '6' r}]|_=>show h.elim
end
def HW(p:pE):pT:=(λU K=>p U λx _=>∃k,x=.bl k/\K k)
def SC(p q:pT):pT:=(λU K=>p U λc=>if c=true then q U K else K false)
def SD(p q:pT):pT:=(λU K=>p U λc=>if c=true then K true else q U K)
def SE(p:pT):pT:=(λU K=>p U λc=>K (!c))
def SG(p q:pE):pE:=(λU K=>p U λx _=>∃c,x=.bl c/\if c=true then q U K else K (.bl false) .fr)
def KQ(r r':p2)(pa pb pc:pE):pE:=(λU K=>pa U λx f=>pb U λy g=>r x f y g λz _=>∃k,z=.bl k/\if k=true then pc U λw h=>r' y g w h K else K (.bl false) .fr)
section
variable{a b c:Expr}{qF:He}{pc:pE}{p q:pT}
def KR(ok:Ok W U Y H)(r:RF W U Y Hs f H (.bl k) v):v=.bl k:=r.any ok
def Da(ok:Ok W U Y H)(r:RF W U Y Hs f H (.int k) v):v=.int k:=r.any ok
def Er(ok:Ok W U Y H)(r:RF W U Y Hs f H (.str k) v):v=.str k:=r.any ok
def NN(h:CI t pa):Ig (MV t) (HW pa):=λW U Y H Q K ok d q=>h W U Y H _ _ ok d λx f v H1⟨k,e,h1⟩a c=>by subst e;show{k,KR (ok.step a) c,q k H1 h1 a}
def Av{r}(h:∀i,A1 (Xs i) (compareOp op) r)(g:BL r pr)(l:QE Xs a pa)(hb:QE Xs b pb)(j:behindInMarks op b=false):QT Xs (.Compare a [op] [b] pos) (HW (D7 pr pa pb)):=by let[ta,f,e]:=l;let[tb,d,c]:=hb;show{_,λi=>C5 (h i) (f i) (d i) j,NN (KO g e c)}
def Cv(h:QE Xs a pa)(f:∀i,∀c,isTrue a (Xs i).env c=(do let v<-c;standAt a.pos;holding [v] (truthy v)):=by intro _ _;rfl):QT Xs a (HW pa):=by let[ta,e,d]:=h;show{tB ta,λi=>QR (e i) (f i),NN d}
def DA(h:QT Xs a p):QT Xs (.UnaryOp .Not a pos) (SE p):=by let[ta,e,d]:=h;show{_,λi=>Js (e i),λW U Y H Q K ok g q=>d W U Y H _ _ ok g λc H1 h1 f=>q _ H1 h1 f}
def QW.pt(h:QW Xs a p):QT Xs a p:=by let[t,h1,h2]:=h;show{t,λi=>(h1 i).pt,h2}
def EK(h:QT Xs a p):QW Xs (.BoolOp .And [a] pos) p:=by let[t,h1,h2]:=h;show{t,λi=>XU (h1 i),h2}
def GQ(h:QT Xs a p):QW Xs (.BoolOp .Or [a] pos) p:=by let[t,h1,h2]:=h;show{t,λi=>ML (h1 i),h2}
def EL(n:QT Xs a p)(hb:QW Xs (.BoolOp .And (b::qF) pos) q):QW Xs (.BoolOp .And (a::b::qF) pos) (SC p q):=by let[ta,j,h]:=n;let[tb,g,f]:=hb;show{_,λi=>XV (j i) (g i),λW U Y H Q K ok m q=>h W U Y H _ _ ok m λc H1 h1 e=>?_};cases c with|true=>show f W U Y H1 _ _ (ok.step e) h1 λd H2 h2 l=>q d H2 h2 (e.trans l)|false=>show q false H1 h1 e
def FF(n:QT Xs a p)(hb:QW Xs (.BoolOp .Or (b::qF) pos) q):QW Xs (.BoolOp .Or (a::b::qF) pos) (SD p q):=by let[ta,j,h]:=n;let[tb,g,f]:=hb;show{_,λi=>MM (j i) (g i),λW U Y H Q K ok m q=>h W U Y H _ _ ok m λc H1 h1 e=>?_};cases c with|false=>show f W U Y H1 _ _ (ok.step e) h1 λd H2 h2 l=>q d H2 h2 (e.trans l)|true=>show q true H1 h1 e
theorem SH(h:QE Xs a pa):QE Xs (.BoolOp op [a] pos) pa:=(by assumption)
def FH:RF W U Y Hs .fr H (.bl k) (.bl k):=rfl
def HX:RF W U Y Hs .fr H (.int k) (.int k):=rfl
def SI:RF W U Y Hs .fr H (.str k) (.str k):=rfl
def SJ(s:QE Xs a pa)(hb:QE Xs (.BoolOp .And (b::qF) pos) pb):QE Xs (.BoolOp .And (a::b::qF) pos) (SG pa pb):=by let[ta,m,l]:=s;let[tb,j,h]:=hb;show{_,λi=>QV (m i) (j i),λW U Y H Q K ok r q=>l W U Y H _ _ ok r λx f v H1 zz g p=>?_};let[c,e,h1]:=zz;subst e;show{c,KR (ok.step g) p,?_};cases c with|true=>show h W U Y H1 _ _ (ok.step g) h1 λd f v H2 h2 n o=>q d f v H2 h2 (g.trans n) (o.back g)|false=>show q _ _ _ H1 h1 g FH
def SK{r r'}{pr i}(B:BL r pr)(o:BL r' i)(D:CI ta pa)(hb:CI tb pb)(C:CI tc pc):CI (MW r r' ta tb tc) (KQ pr i pa pb pc):=λW U Y H Q K ok h q=>D W U Y H _ _ ok h λx f v H1 h1 c A=>hb W U Y H1 _ _ (ok.step c) h1 λy g u H2 h2 d p=>B W U Y H H2 _ _ x y f g v u ((ok.step c).step d) (c.trans d) (A.step (ok.step c) d) (p.back c) h2 λz h v' s⟨k,e,m⟩l n=>by subst e;let a:=(c.trans d).trans l;show{k,KR (ok.step a) n,?_};cases k with|false=>show q _ _ _ s m a FH|true=>show C W U Y s _ _ (ok.step a) m λz G u' I E j w=>o W U Y H I Q K y z g G u u' (ok.step (a.trans j)) (a.trans j) ((p.back c).step (ok.step (c.trans d)) (l.trans j)) (w.back a) E λz h v' H' m l n=>q z h v' H' m ((a.trans j).trans l) n
def NO{op d}{r r'}(q:∀i,A1 (Xs i) (compareOp op) r)(p:BL r pr)(g:∀i,A1 (Xs i) (compareOp d) r')(f:BL r' e)(v:QE Xs a pa)(hb:QE Xs b pb)(u:QE Xs c pc)(s:lastMarks [op,d] [b,c]=false:=by with_unfolding_all rfl):QE Xs (.Compare a [op,d] [b,c] pos) (KQ pr e pa pb pc):=by let[ta,o,n]:=v;let[tb,m,l]:=hb;let[tc,j,h]:=u;show{_,λi=>Xy (q i) (g i) (o i) (m i) (j i) s,SK p f n l h}
def NP{op d}{r r'}(q:∀i,A1 (Xs i) (compareOp op) r)(p:BL r pr)(g:∀i,A1 (Xs i) (compareOp d) r')(f:BL r' e)(v:QE Xs a pa)(hb:QE Xs b pb)(u:QE Xs c pc)(s:lastMarks [op,d] [b,c]=false:=by with_unfolding_all rfl):QT Xs (.Compare a [op,d] [b,c] pos) (HW (KQ pr e pa pb pc)):=by let[ta,o,n]:=v;let[tb,m,l]:=hb;let[tc,j,h]:=u;show{_,λi=>Xz (q i) (g i) (o i) (m i) (j i) s,NN (SK p f n l h)}
end
inductive Xn where|nm(x:Str)|vl(x f:Str)(v:P)
instance:Coe Str Xn:=#[Xn.nm]
instance:Coe String Xn:={λx=>Xn.nm (Str.ofString x)}
structure PEnds where
 nx:dJ->Prop
 rt:P->Prop
 bk:dJ->Prop:=λ_=>False
 ct:dJ->Prop:=λ_=>False
 ex:Xn->(Xn->Hp->Prop)->Prop:=λ_ _=>False
abbrev pS:=PEnds->dJ->Prop
def SL(W:Wd)(H:Hp)(x:P)(v:V):Prop:=(Bag H W.b W.a/\(∀p o,p≠W.b->W.H₀ p\o->H p\o)/\Rp W.b (λp=>W.H₀ p≠none) H x v)
structure RelD(W:Wd)(E:PEnds)(D:Ends):Prop where
 nx:∀U Y H,E.nx U->Ok W U Y H->D.nx Y H
 rt:∀x v H,E.rt x->SL W H x v->D.rt v H
 bk:∀U Y H,E.bk U->Ok W U Y H->D.bk Y H
 ct:∀U Y H,E.ct U->Ok W U Y H->D.ct Y H
 noO:∀p,¬W.O p
 ex:∀n H EX,E.ex n EX->Bag H W.b W.a->(∀p o,p≠W.b->W.H₀ p\o->H p\o)->EX n H
def HY(t:TS)(p:pS):Prop:=(∀(W:Wd)(U:dJ)(Y:St)(H:Hp)(D:Ends)(E:PEnds),Ok W U Y H->p E U->RelD W E D->t D Y H)
def QS(Xs:ι->Cx)(st:Stmt)(p:pS):Prop:=(∃t,(∀i,PS (Xs i) st t)/\HY t p)
def BM(Xs:ι->Cx)(st:Hq)(p:pS):Prop:=(∃t,(∀i,BS (Xs i) st t)/\HY t p)
def NQ:pS:=(λE U=>E.nx U)
def NR(p q:pS):pS:=(λE U=>p {E with nx:=q E} U)
def SM:pS:=(λ_ _=>False)
def Dq(x:P)(f:Fl):Bool:=(x.imm||(match f with|.cl=>false|.an=>false|_=>true))
def A7(p:pE):pS:=(λE U=>p U λx f=>Dq x f=true/\E.rt x)
def NS(c:pT)(p q:pS):pS:=(λE U=>c U λb=>if b=true then p E U else q E U)
def Ik(p:pE)(k:Nat):pS:=(λE U=>p U λx f=>Bn k x f U E.nx)
section
variable{st:Stmt}{qF:Hq}{p q:pS}{a:Expr}
def Bd:BM Xs [] NQ:={_,λ_=>BQ,λW U Y H D E ok h r=>r.nx U Y H h ok}
def Aj(h:QS Xs st p):BM Xs [st] p:=by let[t,h1,h2]:=h;show{t,λi=>Ad (h1 i),h2}
def Ao(h:QS Xs st p)(g:BM Xs qF q):BM Xs (st::qF) (NR p q):=by let[t,h1,h2]:=h;let[u,d,c]:=g;show#[_,λi=>AY (h1 i) (d i),λW U Y H D E ok h r=>h2 W U Y H _ _ ok h {λρ' σ' H' e a=>c W ρ' σ' H' D E a e r,r.rt,r.bk,r.ct,r.noO,r.ex}]
def BM.weak{p m}(h:BM Xs qF p)(hw:∀E U,m E U->p E U):BM Xs qF m:=by let[t,h1,h2]:=h;show{t,h1,λW U Y H D E ok h r=>h2 W U Y H D E ok (hw E U h) r}
def Z9:QS Xs st SM:={_,λ_=>Xa,λ_ _ _ _ _ _ _ h _=>h.elim}
def RF.ret{x}(ok:Ok W U Y H)(h:RF W U Y Hs f H x v)(l:Dq x f=true):SL W H x v:=by
 show#[ok.bag,ok.old,?_];by_cases hi:x.imm=true
 .show(h.any ok).imm hi
 .let k:∀{g},(∀p,W.H₀ p≠none->AL W U Y g p)->Rp W.b _ H x v->Rp W.b _ H x v:=λ{g}m h=>h.keep (λp o j e=>{λz=>j (m p z),e}) λp vs e=>e;cases f with|nw=>show k (g:=.fr) (λp z=>.inr (.inr z)) h.1|fr=>show k (g:=.fr) (λp z=>.inr (.inr z)) h|rf=>show k (g:=.rf) (λp z=>.inr z) h|cl=>simp[Dq,hi]at l|an=>simp[Dq,hi]at l|bo=>let[p,h1,h2,d]:=h;let nb:=(ok.ow (.inr h2)).1;let k2:∀{xs}{vs},AC W.b (Zf W U Y) H xs vs->AC W.b (λp=>W.H₀ p≠none) H xs vs:=λh=>h.keep (λp o j e=>{λz=>j (.inr (.inr z)),e}) λp vs e=>e;cases x with|lst xs=>let[vs,c,a]:=d;show{p,vs,h1,λz=>z nb,c,k2 a}|dT ks xs=>let[vs,c,i,a]:=d;show{p,vs,h1,λz=>z nb,c,i,k2 a}|fT ks xs=>let[vs,c,i,a]:=d;show{p,vs,h1,λz=>z nb,c,i,k2 a}|dK ks xs=>let[vs,c,i,a]:=d;show{p,vs,h1,λz=>z nb,c,i,k2 a}|_=>show d.elim
def Ax(h:QE Xs a pa):QS Xs (.Return (some a) pos) (A7 pa):=by let[t,h1,h2]:=h;show{_,λi=>Ay (h1 i),λW U Y H D E ok h r=>h2 W U Y H _ _ ok h λx f v H1 zz c d=>(by let[k0,k]:=zz;show r.rt x v H1 k (d.ret (ok.step c) k0))}
def Be{c}{l j}(o:QT Xs c pc)(s:BM Xs l p)(hb:BM Xs j q):QS Xs (.If c l j pos) (NS pc p q):=by let[tc,d,a]:=o;let[ta,h,g]:=s;let[tb,f,e]:=hb;show{_,λi=>BH (d i) (h i) (f i),λW U Y H D E ok n r=>a W U Y H _ _ ok n λc H1 h1 m=>?_};cases c with|true=>show g W U Y H1 D E (ok.step m) h1 r|false=>show e W U Y H1 D E (ok.step m) h1 r
def SN(h2:CI t pa):HY (Eh t (CK k)) (Ik pa k):=λW U Y H D E ok h r=>h2 W U Y H _ _ ok h λx f v H1 g c d=>by let[ρ',e,a]:=Ok.set ok c d g;show r.nx ρ' _ H1 e a
def BN(f:∀i,(Xs i).N.Nodup)(h:QE Xs a pa)(hi:∀i,(Xs i).N[k]?\x:=by rfl)(c:∀i,Ee (Xs i).env.scope x:=by intro _;trivial)(d:∀i,swapsWith a (some (.Name x pos')) pos.line (Xs i).env=pure false:=by rfl)(e:∀i,(Xs i).fn x=true\/(Xs i).env.scope.names.lookup x\.local:=by intro _;trivial):QS Xs (.Assign [.Name x pos'] a pos) (Ik pa k):=by let[t,h1,h2]:=h;show{_,λi=>Aw (f i) (hi i) (c i) (h1 i) (d i) (e i),SN h2}
end
abbrev pG:=P->Fl->dJ->(dJ->Prop)->Prop
end L2
variable{pg:L2.pG}
namespace L2
def Im(g:TG)(p:pG):Prop:=(∀(W:Wd)(U:dJ)(Y:St)(Hs H:Hp)(x:P)(f:Fl)(v:V)(Q:St->Hp->Prop)(K:dJ->Prop),Ok W U Y Hs->Step W.b W.a Hs H->RF W U Y Hs f H x v->p x f U K->(∀ρ' σ',K ρ'->Ok W ρ' σ' H->Q σ' H)->g v Y H Q)
def QG(Xs:ι->Cx)(tg:Expr)(p:pG):Prop:=(∃g,(∀i,PG (Xs i) tg g)/\Im g p)
def KS:FG->dI->Fl->dJ->(dJ->Prop)->Prop|[],[],_,U,K=>K U|k::ks,x::xs,f,U,K=>Bn k x f U λρ'=>KS ks xs f ρ' K|_,_,_,_,_=>False
def HZ(ks:FG):pG:=(λx f U K=>∃xs,x=.tup xs/\xs.length=ks.length/\KS ks xs f.el U K)
def FI:FG->GB|[]=>FZ|k::ks=>gCons (CK k) (FI ks)
section
def SO(k):Im (CK k) (λx f U K=>Bn k x f U K):=λW U Y Hs H x f v Q K ok st r h q=>by let[ρ',e,a]:=Ok.set ok st r h;show q ρ' _ e a
def Ip(d:∀i,(Xs i).N.Nodup)(hi:∀i,(Xs i).N[k]?\x:=by rfl)(a:∀i,Ee (Xs i).env.scope x:=by intro _;trivial)(c:∀i,(Xs i).fn x=true\/(Xs i).env.scope.names.lookup x\.local:=by intro _;trivial):QG Xs (.Name x pos) (Bn k):={_,λi=>Ae (d i) (hi i) (a i) (c i),SO k}
set_option tactic.hygienic true in
def dX{x}{K}(ok:Ok W U Y H)(r:Rp W.b (AL W U Y f) H x v)(h:Bn k x f.el U K):∃ρ',K ρ'/\Ok W ρ' (Y.set k (some v)) H/\∀p,BD ρ' (Y.set k (some v)) p->BD U Y p:=by
 unfold Bn at h;split at h
 .rename_i hi;let[ρ',e,a]:=Ok.set ok (Step.refl ok.bag) (RF.ofEl r) (by unfold Bn;rw[aC hi]);subst e;show{_,h,a,Ij λ_ z=>nomatch z}
 .rename_i hi;let k1:∀(s),(∀x,s≠.own x)->K _->Bn k x f.el U (λρ'=>ρ'=U.set k s)->∃ρ',K ρ'/\Ok W ρ' _ H/\∀p,BD ρ' (Y.set k (some v)) p->BD U Y p:=λs c g d=>by let[ρ',e,a]:=Ok.set ok (Step.refl ok.bag) (RF.ofEl r) d;subst e;show{_,g,a,Ij c}
  cases f with|nw=>show k1 (.fr x) '6' h (by unfold Bn;rw[aB hi];rfl)|fr=>show k1 (.fr x) '6' h (by unfold Bn;rw[aB hi];rfl)|bo=>show k1 (.fr x) '6' h (by unfold Bn;rw[aB hi];rfl)|cl=>show k1 (.sh x) '6' h (by unfold Bn;rw[aB hi];rfl)|_=>show h.elim
theorem SQ{Q}{K}:∀{ks}{xs}{vs}{U}{Y},Ok W U Y H->AC W.b (AL W U Y f) H xs vs->KS ks xs f.el U K->(∀ρ' σ',K ρ'->Ok W ρ' σ' H->Q σ' H)->FI ks vs Y H Q|[],[],vs,U,Y,ok,r,h,q=>{r,q U Y h ok}|[],_::_,_,_,_,_,_,h,_=>h.elim|_::_,[],_,_,_,_,_,h,_=>h.elim|k::ks,x::xs,vs,U,Y,ok,r,h,q=>by let[v,t,g,d,c]:=r;subst g;let[ρ',e,a,sub]:=dX ok d h;show{v,t,0,SQ a (AC.move ok.bag (Step.refl ok.bag) (λp z=>.inl (sub p z)) c) e q}
def NT{K}{ks}(d:ks.length=n):Im (gTup K n (FI ks)) (HZ ks):=λW U Y Hs H x f v Q K ok st r h q=>by
 let[xs,0,e,h]:=h;let[p,vs,0,hc,a]:=r.items rfl;let hc:H p\(.tup vs):=by let[j,c,i,g,_]:=r.any (ok.step st);lia
 show{p,vs,0,.of hc,by rw[<-a.length,e,d],SQ (ok.step st) a h q}
def Iq{k1}{ks}(e:∀i,(Xs i).calm=true)(f:∀i,(Xs i).K=Kf)(h:∀i,GC (Xs i) es (FI ks))(d:ks.length=n)(c:∀i,(assignEach es (Xs i).env).length=n:=by rfl)(a:∀i,(assignEach es (Xs i).env).findIdx? (·.1)=none:=by rfl):QG Xs (.Tuple es k1 pos) (HZ ks):={gTup Kf n _,λi=>by let:=CP (k:=k1) (pos:=pos) (e i) (h i) (c i) (a i);simp_all,NT d}
def SR{a}(o:QE Xs a pa)(n:QG Xs tg pg)(l:∀i,swapsWithSole [tg] a pos.line (Xs i).env=pure false:=by rfl)(hw:∀i,swappedStores [tg] a (Xs i).env=pure none:=by rfl)(h1:∀i,(assignEach [tg] (Xs i).env).map (·.2)=[assign tg (Xs i).env]:=by rfl):QS Xs (.Assign [tg] a pos) (λE U=>pa U λx f=>pg x f U E.nx):=by let[t,u,s]:=o;let[g,q,p]:=n;show{_,λi=>Cq (u i) (q i) (l i) (hw i) (h1 i),λW U Y H D E ok h r=>s W U Y H _ _ ok h λx f v H1 m d j=>p W U Y H H1 x f v _ _ ok d j m λρ' σ' e c=>r.nx ρ' σ' H1 e c}
end
abbrev pF:=dI->(P->Prop)->Prop
inductive spP(f:pF)(vs:dH)(H:Hp)(Q:VK)(E:XK):Prop|mk(b a:Addr)(xs:dI)(K:P->Prop)(hb:Bag H b a)(r:AC b (λp=>p=b) H xs vs)(hf:f xs K)(k:∀x v H',K x->Step b a H H'->Rp b (λp=>H p≠none) H' x v->Q v H')
def Fm(n:Nat)(xs:dI):dJ:=(xs.map S.sh++replicate (n-xs.length) S.emp)
def KU(f:pF)(pa:pA):pE:=(λU K=>pa U λxs=>f (xs.map (·.1)) λz=>K z .nw)
def dY(h:vs[i]?\v):(start N vs)[i]?\(some v):=by
 unfold start;let hi:i<vs.length:=by
  let q||q:=cE i vs.length
  .show q
  simp_all
 rw[getElem?_append_left (by simp_all),bO,h];rfl
def SS{x}:(Fm n xs)[i]?≠some (.own x):=by
 intro h;let a:=aM h;let z||z:=bA.mp a
 .simp_all
 simp_all
theorem SU(hb:Bag H b a)(r:AC b (λp=>p=b) H xs vs)(l:xs.length<=N.length):Ok {b,a,H,λ_=>none,λ_=>False} (Fm N.length xs) (start N vs) H where
 bag:=hb
 fb:=rfl
 old:=λ_ _ _ e=>e
 frm:=λ_ _ e=>nomatch e
 oo:=λ_ z=>z.elim
 len:=by let:=r.length;simp only[start,Fm,aG,aA,length_replicate];simp only[*]
 slot:=λi s e=>by
  let c:=r.length;unfold Fm at e;let q||q:=cE i xs.length
  .rw[getElem?_append_left (by rw[aA];show q),bO]at e;let[v,h1,h2]:=r.get (i:=i) (x:=xs[i]) (by simp[q]);simp only[aH q,Option.map_some]at e;cases e;show{some v,dY h1,v,0,h2.keep (λp o d e=>{λz=>d ?_,e}) λp vs e=>e};let z||z:=z
   .show z
   .let z||[j,y,g,_]:=z
    .show z.elim
    .show bS g SS
  .rw[getElem?_append_right (by rw[aA];show q),aA]at e;let f:=aM e;let h:=(mem_replicate.mp f).2;subst h;let hi:i-xs.length<N.length-xs.length:=by
    let z||z:=cE _ (N.length-xs.length)
    .show z
    .rw[bQ (by rw[length_replicate];show z)]at e;cases e
   show#[none,?_,trivial];unfold start;rw[getElem?_append_right (by rw[aA,<-c];show q),aA,<-c,getElem?_replicate,aC hi]
 uniq:=λi j x y h1=>bS h1 SS
section
variable{K:Fg}
def BV{st}{f}(D:As K mg x st)(S:FnScope N ps (AN st))(hb:∀(kV doc pm)(an:Ge)(c ct)(us:C2),us.length=ps.length->bindArgs (PySem.W.fnOf x x (Ct st) (CH st) (AN st) .none kV doc pm an c ct) {us,[]}=pure (ps.zip us))(len:∀xs K,f xs K->xs.length=ps.length)(q:ps.length<=N.length)(d:∀(j)(c)(A)(outer)(s)(H)(E),Room k (A.deeper (PyProof.Rows.envOfC x (AN st) 'H' j c))->∃p,BM (λ_:Unit=>(E7 EJ P' w K mg base N x (AN st) j c A outer s H E).nox) (CH st) p/\∀xs K,f xs K->p {nx:=λ_=>K .non,rt:=K} (Fm N.length xs)):'E' x (k+1) ps (spP f):=by
 show DW D S hb (λvs H Q E h=>?_) (λj c A outer s H vs Q E o h=>?_)
 .let[b,a,xs,K,_,r,i,_]:=h;rw[<-r.length];show len xs K i
 .let[b,a,xs,n,g,r,i,m]:=h;let[p,[t,h1,h2],u]:=d j c A outer s H E o;show#[t,h1 (),h2 _ _ _ H _ _ (SU g r (by rw[len xs n i];show q)) (u xs n i) {λU Y H' e ok=>?_,λy v H' e l=>?_,λ_ _ _ e=>e.elim,λ_ _ _ e=>e.elim,λ_ z=>z,λ_ _ _ e=>e.elim}]
  .show m _ _ H' e #[ok.bag,ok.old] rfl
  .show m y v H' e #[l.1,l.2.1] l.2.2
def Fn.imp(F:'E' x k ps sp)(h:∀vs H Q E,sp' vs H Q E->sp vs H Q E):'E' x k ps sp':=by let[f,fd,F,r]:=F;show{f,fd,F.imp h,r}
end
section
def dZ{f}{pa}(h2:NF t pa):CI (E6 (spP f) [] E0 t) (KU f pa):=λW U Y H Q K ok l q=>h2 W U Y H _ _ ok l λxs vs H1 h1 g i=>by let d:=ok.step g;rw[cP];show#[W.b,W.a,_,_,g.bag,(i.any d),h1,λx v H' k1 h c=>q x .nw v H' k1 (g.trans h) {c.keep (λp o j e=>{λz=>j (d.dom z),e}) λp vs e=>e,λm=>?_}];let k2:∀p,¬H1 p≠none->H p=none:=λp z=>g.free (Classical.not_not.mp z);cases x with|lst xs=>let[p,us,e,z,_]:=c;show{p,e,k2 p z}|dT ks xs=>let[p,us,e,z,_]:=c;show{p,e,k2 p z}|fT ks xs=>let[p,us,e,z,_]:=c;show{p,e,k2 p z}|dK ks xs=>let[p,us,e,z,_]:=c;show{p,e,k2 p z}|_=>simp[P.mut]at m
def Ac{f}{p}{pa}(G:∀i,Fn (Xs i).prog (Xs i).w (Xs i).K (Xs i).mg (Xs i).base x k ps (spP f))(d:∀i,Room k (Xs i).A)(j:QA Xs (e::es) pa)(g:∀i,Gl (Xs i) x:=by rfl)(c:No x:=by decide+kernel)(h:∀i,starEach (e::es) (Xs i).env=(false,eval e (Xs i).env)::starEach es (Xs i).env:=by rfl)(a:∀i,(backTo pos (starEach es (Xs i).env)).any (·.1)=false:=by rfl):QE Xs (.Call (.Name x p) (e::es) [] pos) (KU f pa):=by let[t,h1,h2]:=j;show{_,λi=>Bv (G i) (d i) (g i) (h1 i) c (h i) (a i),dZ h2}
end
open Classical in
def frz(W:Wd)(U:dJ)(Y:St)(H:Hp):Hp:=(λp=>if p=W.b\/Ow W U Y p then none else H p)
abbrev Wd.frz(W:Wd)(U:dJ)(Y:St)(H:Hp):Wd:={W with F:=L2.frz W U Y H}
abbrev KW(W:Wd)(U:dJ)(Y:St)(H1:Hp):(Addr->Prop)->dJ->St->Hp->Prop:=λO' ρ' σ' H'=>O'=W.O/\Ok (W.frz U Y H1) ρ' σ' H'
abbrev KY(W:Wd)(U:dJ)(Y:St)(H1:Hp):(Addr->Prop)->dJ->St->Hp->Prop:=λO' ρ' σ' H'=>(∀p,O' p->W.O p\/H1 p=none)/\ρ'=U/\σ'=Y/\Ok W U Y H'/\Step W.b W.a H1 H'
def FJ(W:Wd)(Lt:(Addr->Prop)->dJ->St->Hp->Prop)(J:It)(xs:dI)(f:Fl):Prop:=(∀O' ρ' σ' H',Lt O' ρ' σ' H'->∀i,(i<xs.length->J.go i H')/\(xs.length<=i->J.stop i H')/\∀v H'',J.yld i H' v H''->∀x,xs[i]?\x->Step W.b W.a H' H''/\RF {W with O:=O'} ρ' σ' H' f H'' x v)
abbrev pI:=dJ->(dI->Fl->Bool->Prop)->Prop
def SV(wi:TI)(p:pI):Prop:=(∀(W:Wd)(U:dJ)(Y:St)(H:Hp)(R:It->Hp->Prop)(K:dI->Fl->Bool->Prop),Ok W U Y H->p U K->(∀xs f st J H1,K xs f st->Step W.b W.a H H1->FJ W (KY W U Y H1) J xs f->(st=true->FJ W (KW W U Y H1) J xs f)->R J H1)->wi Y H R)
def QI(Xs:ι->Cx)(tg e:Expr)(p:pI):Prop:=(∃wi,(∀i,PI (Xs i) tg e wi)/\SV wi p)
section
variable{Hs:Hp}{x:P}{k:Nat}
def Ir(hz:¬(p=W.b\/Ow W U Y p)):frz W U Y H p=H p:=by unfold frz;rw[aB hz]
def KZ(hz:p=W.b\/Ow W U Y p):frz W U Y H p=none:=by unfold frz;rw[aC hz]
def db(h:frz W U Y H p\o):H p\o/\p≠W.b/\¬Ow W U Y p:=by
 by_cases a:p=W.b\/Ow W U Y p
 .rw[KZ a]at h;cases h
 .rw[Ir a]at h;simp_all
theorem Ok.frz(ok:Ok W U Y H):Ok (W.frz U Y H) U Y H where
 bag:=ok.bag
 fb:=KZ (.inl rfl)
 old:=ok.old
 frm:=λp o e=>(db e).1
 oo:=λp h=>(by let[h1,h2,l,j,g]:=ok.oo p h;show{h1,KZ (.inr (.inl h)),l,j,g})
 len:=ok.len
 slot:=λi s e=>by let[o,h1,h2]:=ok.slot i s e;show#[o,h1,?_];cases s with|emp=>trivial|sh x=>show h2|fr x=>show h2|own x=>let[p,a,f,m,d,c,q6]:=h2;show{p,a,f,KZ (.inr (.inr {i,x,e,by rw[h1,a]})),d,c,q6}
 uniq:=ok.uniq
theorem Ok.thaw(a:Ok W U Y H)(ok:Ok (W.frz U Y H) ρ' σ' H'):Ok W ρ' σ' H' where
 bag:=ok.bag
 fb:=a.fb
 old:=ok.old
 frm:=λp o e=>by
  let hb:p≠W.b:=λz=>by rw[z,a.fb]at e;cases e
  let ho:¬Ow W U Y p:=λz=>by rw[(a.ow z).2.1]at e;cases e
  show ok.frm p o ((Ir λz=>z.elim hb ho).trans (a.frm p o e))
 oo:=λp h=>(by let[h1,h2,q,n,m]:=ok.oo p h;show{h1,(a.oo p h).2.1,q,n,m})
 len:=ok.len
 slot:=λi s e=>by let[o,h1,h2]:=ok.slot i s e;show#[o,h1,?_];cases s with|emp=>trivial|sh x=>show h2|fr x=>show h2|own x=>let[p,l,j,c,f,g,q6]:=h2;show#[p,l,j,?_,f,g,q6];cases d:W.F p with|none=>rfl|some u=>
    let hb:p≠W.b:=f;let ho:¬Ow W U Y p:=λz=>by rw[(a.ow z).2.1]at d;cases d
    let c:L2.frz W U Y H p=none:=c;rw[Ir (λz=>z.elim hb ho),a.frm p u d]at c;cases c
 uniq:=ok.uniq
def Iu(ok:Ok W U Y H)(c:Ok (W.frz U Y H) ρ' σ' H')(l:f=.nw\/f=.fr\/f=.cl):(∀p o,¬AL W U Y f p->H p\o->¬AL W ρ' σ' f p/\H' p\o)/\∀p vs,H p\(.tup vs)->H' p\(.tup vs):=by
 let c:=c;let n:∀p,¬AL W U Y f p->p≠W.b:=λp z e=>z (e▸AL.b);let j:∀p,¬AL W U Y f p->¬Ow W U Y p:=λp z e=>z (by let 0||0||0:=l<;>simp[AL,e]);show{λp o a e=>?_,λp vs e=>?_}
 .let d:=(Ir λz=>z.elim (n p a) (j p a)).trans e;let g:¬BD ρ' σ' p:=λz=>by let:=(c.ow (.inr z)).2.1;let this:L2.frz W U Y H p=none:=this;rw[d]at this;cases this
  show{λz=>?_,c.frm p o d};let h:=λz=>j p a (.inl z);let 0||0||0:=l<;>simp only[AL,not_or]at z a
  .rcases z with z|(z|z)|z
   .show a.1 z
   .show h z
   .show g z
   .show a.2.2 z
  .rcases z with z|(z|z)|z
   .show a.1 z
   .show h z
   .show g z
   .show a.2.2 z
  .rcases z with z|(z|z)
   .show a.1 z
   .show h z
   .show g z
 .show c.frm p _ ((Ir λz=>z.elim (ok.bag.neT e).1 λz=>?_).trans e);let[_,_,_,_,o,i,m]:=ok.ow z;rw[e]at i;cases i;show m vs rfl
def SW{c}(st:Step W.b W.a H H')(d:∀p,c p->W.O p\/H p=none)(p)(o)(hz:¬AL W U Y f p)(e:H p\o):¬AL {W with O:=c} U Y f p/\H' p\o:=by
 show{λz=>hz ?_,st.same p o (λz=>hz (z▸AL.b)) e};let k:Ow {W with O:=c} U Y p->Ow W U Y p:=λz=>z.elim (λz=>(d p z).elim .inl λz=>by simp_all) .inr;cases f<;>simp only[AL]at z⊢
 all_goals first|show z|show z.elim .inl λz=>.inr (k z)|show z.elim .inl λz=>.inr (z.elim (λz=>.inl (k z)) .inr)
def D9(f:Fl):Bool:=(match f with|.nw=>true|.fr=>true|.cl=>true|_=>false)
def Ka(h:D9 f=true):f=.nw\/f=.fr\/f=.cl:=by cases f<;>simp_all[D9]
def de{K}(ok:Ok W U Y H)(r:RF W U Y Hs f H (.lst xs) (.ref p))(s:H p\(.lst vs))(rv:AC W.b (AL W U Y f) H xs vs):FJ W (KY W U Y H) (EG K p) xs f.el/\(D9 f=true->FJ W (KW W U Y H) (EG K p) xs f.el):=by
 let l:p≠W.b:=by let[q,us,h,c,_]:=r.any ok;cases h;show c
 let core:∀j ρ' σ' H',H' p\(.lst vs)->AC W.b _ H' xs vs->Bag H' W.b W.a->∀i,(i<xs.length->(EG K p).go i H')/\(xs.length<=i->(EG K p).stop i H')/\∀v d,(EG K p).yld i H' v d->∀x,xs[i]?\x->Step W.b W.a H' d/\RF {W with O:=j} ρ' σ' H' f.el d x v:=λj ρ' σ' H' e n hb i=>by let g:=n.length;show{λhi=>{vs,vs[i]'(by simp_all),.of e,by simp[<-g,hi]},λhi=>{vs,.of e,(by simp_all)},λv d y x B=>?_};let[c,y]:=y;subst c;let[u,E,D]:=n.get B;let w:=y vs (.of e);rw[E]at w;cases w;show{Step.refl hb,RF.ofEl D}
 show{λj ρ' σ' H' g i=>?_,λo j ρ' σ' H' g i=>?_}
 .let[C,0,0,A,st]:=g;show core _ _ _ H' (st.same p _ l s) (rv.keep (SW st C) λq us e=>st.same q _ (ok.bag.neT e).1 e) st.bag i
 .let[0,g]:=g;let m:=Iu ok g (Ka o);let nz:¬AL W U Y f p:=by cases f with|nw=>let[q,us,h,c,_]:=r.1;cases h;show c|fr=>let[q,us,h,c,_]:=r;cases h;show c|cl=>let[q,us,h,c,_]:=r;cases h;show c|_=>simp[D9]at o
  show core _ _ _ H' (m.1 p _ nz s).2 (rv.keep m.1 m.2) g.bag i
def df{K}(ok:Ok W U Y H)(j:H p\(.tup vs))(rv:AC W.b (AL W U Y f) H xs vs):FJ W (KY W U Y H) (GF K p) xs f.el/\(D9 f=true->FJ W (KW W U Y H) (GF K p) xs f.el):=by
 let core:∀g ρ' σ' H',H' p\(.tup vs)->AC W.b _ H' xs vs->Bag H' W.b W.a->∀i,(i<xs.length->(GF K p).go i H')/\(xs.length<=i->(GF K p).stop i H')/\∀v c,(GF K p).yld i H' v c->∀x,xs[i]?\x->Step W.b W.a H' c/\RF {W with O:=g} ρ' σ' H' f.el c x v:=λg ρ' σ' H' e l hb i=>by let d:=l.length;show{λhi=>{vs,vs[i]'(by simp_all),.of e,by simp[<-d,hi]},λhi=>{vs,.of e,(by simp_all)},λv c y x o=>?_};let[B,y]:=y;subst B;let[u,A,w]:=l.get o;let m:=y vs (.of e);rw[A]at m;cases m;show{Step.refl hb,RF.ofEl w}
 show{λg ρ' σ' H' d i=>?_,λr g ρ' σ' H' d i=>?_}
 .let[s,0,0,n,st]:=d;show core _ _ _ H' (st.same p _ (ok.bag.neT j).1 j) (rv.keep (SW st s) λq us e=>st.same q _ (ok.bag.neT e).1 e) st.bag i
 .let[0,d]:=d;let h:=Iu ok d (Ka r);show core _ _ _ H' (h.2 p _ j) (rv.keep h.1 h.2) d.bag i
end
def SX(p:pE):pI:=(λU K=>p U λx f=>∃xs,x=.lst xs/\K xs f.el (D9 f))
def SY(p:pE):pI:=(λU K=>p U λx f=>∃xs,x=.tup xs/\K xs f.el (D9 f))
def EM(lo:Int)(n:Nat):dI:=((List.range n).map λ(k:Nat)=>P.int (lo+k))
def NU(p:pA):pI:=(λU K=>p U λxs=>∃j f,xs=[(P.int j,f)]/\-(2^62)<=j/\j<2^62/\K (EM 0 j.toNat) .fr true)
def NV(p:pA):pI:=(λU K=>p U λxs=>∃i j f g,xs=[(P.int i,f),(P.int j,g)]/\(-(2^62)<=i/\i<2^62/\-(2^62)<=j/\j<2^62)/\K (EM i (j-i).toNat) .fr true)
def SZ(p:pE):pI:=(λU K=>p U λx f=>∃z,x=.str z/\K (z.cps.toList.map λc=>P.str {[c].toArray}) .fr true)
def Es(lo)(n):(EM lo n).length=n:=by simp[EM]
def Iv{x}(h:(EM lo n)[i]?\x):i<n/\x=.int (lo+i):=by
 unfold EM at h;rw[bO]at h;let q||q:=cE i n
 .simp_all
 simp_all
section
variable{a:Expr}
def Db(r:∀i,(Xs i).K=Kf)(h:QE Xs a pa):QI Xs tg a (SX pa):=by
 let[t,h1,h2]:=h;show{Qc Kf t,λi=>by let:=HA (tg:=tg) (h1 i);simp_all,λW U Y H R K ok o q=>h2 W U Y H _ _ ok o λx f v H1 zz g d=>?_};let[xs,e,k1]:=zz;subst e;let c:=ok.step g;let[p,vs,w,u,s]:=d.items rfl;subst w;let l:H1 p\(.lst vs):=by let[q,us,n,y,m,_]:=d.any c;lia
 let j:=de (K:=Kf) c d l s;show{p,0,{vs,.of l},q xs _ _ _ H1 k1 g j.1 j.2}
def FK(r:∀i,(Xs i).K=Kf)(h:QE Xs a pa):QI Xs tg a (SY pa):=by
 let[t,h1,h2]:=h;show{Qd Kf t,λi=>by let:=Xi (tg:=tg) (h1 i);simp_all,λW U Y H R K ok o q=>h2 W U Y H _ _ ok o λx f v H1 zz d g=>?_};let[xs,e,k1]:=zz;subst e;let c:=ok.step d;let[p,vs,w,u,s]:=g.items rfl;subst w;let l:H1 p\(.tup vs):=by let[q,us,n,m,_]:=g.any c;lia
 let j:=df (K:=Kf) c l s;show{p,0,{vs,.of l},q xs _ _ _ H1 k1 d j.1 j.2}
def Kb{f}(c:∀d ρ' σ' H',f d ρ' σ' H'->Bag H' W.b W.a)(n:∀i H',i<xs.length->J.go i H')(j:∀i H',xs.length<=i->J.stop i H')(g:∀i H' v H'' x,J.yld i H' v H''->xs[i]?\x->H''=H'/\x.imm=true/\∀(b)(Z),Rp b Z H' x v):FJ W f J xs .fr:=λd ρ' σ' H' m i=>#[n i H',j i H',λv H'' y x h=>by let[e,hi,l]:=g i H' v H'' x y h;subst e;show{Step.refl (c _ _ _ _ m),l _ _}]
def Kc:FJ W (KY W U Y H) (EH lo n) (EM lo n) .fr/\(true=true->FJ W (KW W U Y H) (EH lo n) (EM lo n) .fr):=by
 let d:∀i H' v a x,(EH lo n).yld i H' v a->(EM lo n)[i]?\x->a=H'/\x.imm=true/\∀(b)(Z),Rp b Z H' x v:=λi H' v a x y e=>by let[j,g]:=y;let[_,f]:=Iv e;subst f;show{j,0,λ_ _=>g}
 show{Kb (λ_ _ _ _ c=>c.2.2.2.1.bag) (λi H' h=>by rw[Es]at h;show h) (λi H' h=>by rw[Es]at h;show h) d,λ_=>Kb (λ_ _ _ _ c=>c.2.bag) (λi H' h=>by rw[Es]at h;show h) (λi H' h=>by rw[Es]at h;show h) d}
def Hc{p}(h:∀i,(Xs i).mg "range"=none)(n:QA Xs [a] pr)(m:∀i,Gl (Xs i) "range":=by rfl)(g:∀i,starEach [a] (Xs i).env=[(false,eval a (Xs i).env)]:=by rfl):QI Xs tg (.Call (.Name "range" p) [a] [] pos) (NU pr):=by let[t,h1,h2]:=n;show{_,λi=>Fa (m i) (h i) (h1 i) (g i),λW U Y H R K ok l q=>h2 W U Y H _ _ ok l λxs vs H1 zz c d=>?_};let[j,f,e,w,u,k1]:=zz;subst e;let[v,t,s,r,o]:=d;subst s;cases(o);cases Da (ok.step c) r;show{j,0,w,u,q _ _ _ _ H1 k1 c Kc.1 Kc.2}
def dg{p}(o:∀i,(Xs i).mg "range"=none)(u:QA Xs [a,b] pr)(s:∀i,Gl (Xs i) "range":=by rfl)(n:∀i,starEach [a,b] (Xs i).env=[(false,eval a (Xs i).env),(false,eval b (Xs i).env)]:=by rfl)(d:∀i,starEach [b] (Xs i).env=[(false,eval b (Xs i).env)]:=by rfl):QI Xs tg (.Call (.Name "range" p) [a,b] [] pos) (NV pr):=by let[t,h1,h2]:=u;show{_,λi=>Xl (s i) (o i) (h1 i) (n i) (d i),λW U Y H R K ok r q=>h2 W U Y H _ _ ok r λxs vs H1 zz c l=>?_};done<;>(let[j,m,f,g,e,C,k1]:=zz;subst e;let[v,t,B,A,D,h,y,x,w]:=l);subst B;subst y;cases(w);cases Da (ok.step c) A;cases Da (ok.step c) x;show{j,m,0,C,q _ _ _ _ H1 k1 c Kc.1 Kc.2}
def dh(h:QE Xs a pa):QI Xs tg a (SZ pa):=by
 let[t,h1,h2]:=h;show{_,λi=>ZV (h1 i),λW U Y H R K ok r q=>h2 W U Y H _ _ ok r λx f v H1 zz m p=>?_};let[z,e,k1]:=zz;subst e;let d:(z.cps.toList.map λc=>P.str {[c].toArray}).length=(D5 z).length:=by simp[D5]
 let n:∀i H' v g x,(KD (D5 z)).yld i H' v g->(z.cps.toList.map λc=>P.str {[c].toArray})[i]?\x->g=H'/\x.imm=true/\∀(b)(Z),Rp b Z H' x v:=λi H' v g x y j=>by let[s,l]:=y;unfold D5 at l;rw[bO]at l j;cases o:z.cps.toList[i]? with|none=>rw[o]at j;cases j|some c=>rw[o]at j l;cases j;cases l;show{s,0,λ_ _=>rfl}
 show{z,Er (ok.step m) p,q _ _ _ _ H1 k1 m ?_ λ_=>?_}
 .show Kb (λ_ _ _ _ d=>d.2.2.2.1.bag) (λi H' h=>by rw[d]at h;show h) (λi H' h=>by rw[d]at h;show h) n
 .show Kb (λ_ _ _ _ d=>d.2.bag) (λi H' h=>by rw[d]at h;show h) (λi H' h=>by rw[d]at h;show h) n
end
def Ke(pi:pI)(pg:pG)(pb:pS):pS:=(λE U=>pi U λxs f st=>st=true/\∃I:Nat->dJ->Prop,I 0 U/\(∀i ρ' x,xs[i]?\x->I i ρ'->pg x f ρ' λρ2=>pb {E with nx:=I (i+1),ct:=I (i+1),bk:=E.nx} ρ2)/\∀ρ',I xs.length ρ'->E.nx ρ')
section
variable{a c:Expr}{pi:pI}{pb:pS}{pc:pT}{body:Hq}
def RelD.frz{E}{D}(a:Ok W U Y H)(r:RelD W E D):RelD (W.frz U Y H) E D:={λρ' σ' H' e ok=>r.nx ρ' σ' H' e (a.thaw ok),r.rt,λρ' σ' H' e ok=>r.bk ρ' σ' H' e (a.thaw ok),λρ' σ' H' e ok=>r.ct ρ' σ' H' e (a.thaw ok),r.noO,r.ex}
def Fo(hp:∀i,PassesOwn (model (Xs i).prog (Xs i).w) (Xs i).A (Xs i).env (Xs i).xe)(hc:∀i,(Xs i).calm=true)(hi:QI Xs tg a pi)(hg:QG Xs tg pg)(hb:BM Xs body pb)(hs:∀i,∀x,foldedSetIterable a (Xs i).env x=pure x:=by intro _ _;rfl):QS Xs (.For tg a body [] pos) (Ke pi pg pb):=by
 done<;>(let[wi,i1,i2]:=hi;let[g,g1,g2]:=hg;let[tb,b1,b2]:=hb);show{_,λi=>Dz (hp i) (hc i) (i1 i) (g1 i) (b1 i) (hs i),λW U Y H D E ok h r=>i2 W U Y H _ _ ok h λxs f st J H1 zz s1 _ G=>?_};done<;>let[L,I,h0,p,u]:=zz;let G:=G L;let s:=ok.step s1;let B:=r.frz s;show{λi m σ' H'=>m=xs.length-i/\i<=xs.length/\∃ρ',I i ρ'/\Ok _ ρ' σ' H',{xs.length,'2',cD _,U,h0,s.frz},?_};rintro i m σ' H' iq;done<;>(let[0,hi,ρ',T,o]:=iq;let[q1,q2,q3]:=G W.O ρ' σ' H' #[0,o] i);by_cases q:i<xs.length
 .show .inr {q1 q,λl H2=>∃c,I _ c/\Ok _ c l H2,λl H2 zz=>(by done<;>let[c,e1,M]:=zz;show{xs.length-(i+1),(by omega),0,q,c,e1,M}),λv H2 y=>?_};let Q:xs[i]?\xs[i]:=by simp[q]
  done<;>let[σ,ρ]:=q3 v H2 y _ Q;show g2 _ ρ' σ' H' H2 _ f v _ _ o σ ρ (p i ρ' _ Q T) λc l M C=>?_;show b2 _ c l H2 _ _ C M {λd n N e j=>#[d,e,j],B.rt,λd n N e j=>B.nx d n N e j,λd n N e j=>#[d,e,j],r.noO,r.ex}
 .let e:i=xs.length:=⋯;subst e;show .inl {q2 (aQ _),B.nx ρ' σ' H' (u ρ' T) o}
end
def EN(U:dJ)(qD:List (Option Nat)):dJ:=(qD.map λo=>match o with|none=>.emp|some j=>(U[j]?).getD .emp)
abbrev Hd(qD:List (Option Nat)):Prop:=qD.Pairwise λa b=>a=none\/a≠b
def BW(xs:dI)(step:P->(Option (P×Fl)->Prop)->Prop)(K:P->Fl->Prop):Prop:=(∃(g:Fl)(I:Nat->dI->Prop),(g=.nw\/g=.cl)/\I 0 []/\(∀i x ys,xs[i]?\x->I i ys->step x λo=>match o with|some (y,h)=>(BU y h).join g=g/\I (i+1) (ys++[y])|none=>I (i+1) ys)/\∀ys,I xs.length ys->K (.lst ys) g)
def Iw(pi:pI)(qD:List (Option Nat))(pg:pG)(pt:pT)(pe:pE):pE:=(λU K=>pi U λxs f _=>f≠.bo/\xs.length<=16777216/\BW xs (λx M=>pg x f (EN U qD) λρ'=>pt ρ' λc=>if c=true then pe ρ' λy h=>M (some (y,h))else M none) K)
section
variable{Wb:Wd}{ρb:dJ}{σb:St}{Hs:Hp}{x:P}{k:Nat}
def DX.mv{s}{o}(hb:Wb.b=W.b)(m:Wb.a=W.a)(u:Wb.H₀=W.H₀)(n:Wb.F=W.F)(i:∀f p o,¬AL W U Y f p->H1 p\o->¬AL Wb ρb σb f p/\H2 p\o)(g:∀p vs,H1 p\(.tup vs)->H2 p\(.tup vs))(hs:∀p o,p≠W.b->H1 p\o->H2 p\o)(h:DX W U Y H1 s o):DX Wb ρb σb H2 s o:=by cases s with|emp=>trivial|sh x=>let[v,h1,h2]:=h;show{v,h1,by rw[hb];show h2.keep (i .cl) g}|fr x=>let[v,h1,h2]:=h;show{v,h1,by rw[hb];show h2.keep (i .fr) g}|own x=>let[p,h1,h2,r,l,q,j]:=h;show{p,h1,by rw[u];show h2,by rw[n];show r,by rw[hb];show l,by rw[m];show q,?_};rw[hb];cases x with|lst xs=>let[vs,d,c]:=j;show{vs,hs p _ l d,c.keep (i .fr) g}|dT ks xs=>let[vs,d,q0,c]:=j;show{vs,hs p _ l d,q0,c.keep (i .fr) g}|fT ks xs=>let[vs,d,q0,c]:=j;show{vs,d.map λ_ e=>hs p _ l e,q0,c.keep (i .fr) g}|dK ks xs=>let[vs,d,q0,c]:=j;show{vs,hs p _ l d,q0,c.keep (i .fr) g}|_=>show j.elim
def Kg{s}(h:(EN U qD)[i]?\s):∃o,qD[i]?\o/\s=(match o with|none=>.emp|some j=>(U[j]?).getD .emp):=by unfold EN at h;rw[bO]at h;cases e:qD[i]? with|none=>simp_all|some o=>simp_all
def di(d:Hd qD)(h:qD[i]?\(some j))(h':qD[i']?\(some j)):i=i':=by
 let hi:i<qD.length:=by
  let q||q:=cE i qD.length
  .show q
  .rw[bQ q]at h;cases h
 let a:i'<qD.length:=by
  let q||q:=cE i' qD.length
  .show q
  .rw[bQ q]at h';cases h'
 rw[aH hi]at h;rw[aH a]at h';let c:=pairwise_iff_getElem.mp d;let q||q||q:=Nat.lt_trichotomy i i'
 .let z||z:=c i i' hi a q
  .rw[oI h]at z;cases z
  simp_all
 .show q
 .let z||z:=c i' i a hi q
  .rw[oI h']at z;cases z
  simp_all
def Kh(h:qD[i]?\(some j)):(L2.picked Y qD)[i]?\((Y[j]?).join):=by unfold L2.picked;simp_all
def Sa(ok:Ok W U Y H)(h:BD (EN U qD) (L2.picked Y qD) p):BD U Y p:=by let[i,x,h1,h2]:=h;let[o,e,a]:=Kg h1;cases o with|none=>cases a|some j=>rw[Kh e]at h2;dsimp only at a;cases c:U[j]? with|none=>simp_all|some s=>rw[c]at a;cases a;let[o,d,f]:=ok.slot j _ c;rw[d]at h2;show{j,x,c,by simp_all}
abbrev Wd.blk(W:Wd)(U:dJ)(Y:St)(D:Addr):Wd:={W with O:=λp=>W.O p\/BD U Y p\/p=D}
def dj(a:BD ρb σb p->BD U Y p\/H1 p=none)(c:H1 D=none)(h:AL (W.blk U Y D) ρb σb f p):AL W U Y f p\/H1 p=none:=by
 let k:Ow (W.blk U Y D) ρb σb p->Ow W U Y p\/H1 p=none:=λz=>by
  rcases z with(z|z|z)|z
  .show .inl (.inl z)
  .show .inl (.inr z)
  .subst z;show .inr c
  .show(a z).elim (λz=>.inl (.inr z)) .inr
 cases f<;>simp only[AL]at h⊢
 .let h||h||h:=h
  .show .inl (.inl h)
  .show(k h).elim (λz=>.inl (.inr (.inl z))) .inr
  .show .inl (.inr (.inr h))
 .let h||h||h:=h
  .show .inl (.inl h)
  .show(k h).elim (λz=>.inl (.inr (.inl z))) .inr
  .show .inl (.inr (.inr h))
 .let h||h:=h
  .show .inl (.inl h)
  .show(k h).elim (λz=>.inl (.inr z)) .inr
 .let h||h||h:=h
  .show .inl (.inl h)
  .show(k h).elim (λz=>.inl (.inr (.inl z))) .inr
  .show .inl (.inr (.inr h))
 .show .inl h
 .show .inl h
theorem dn(ok:Ok W U Y H1)(v:Hd qD)(n:H1 D=none)(st:Step W.b W.a H1 H2)(e:H2 D\(.lst l)):Ok (W.blk U Y D) (EN U qD) (L2.picked Y qD) H2 where
 bag:=st.bag
 fb:=ok.fb
 old:=λp o v e=>st.same p o v (ok.old p o v e)
 frm:=λp o e=>st.same p o (λz=>by rw[z,ok.fb]at e;cases e) (ok.frm p o e)
 oo:=λp h=>by
  let k:Ow W U Y p->W.H₀ p=none/\W.F p=none/\p≠W.b/\p≠W.a/\∃o,H2 p\o/\∀ys,o≠.tup ys:=λz=>by done<;>let[r,C,G,O,o,N,M]:=ok.ow z;show{r,C,G,O,o,st.same p o G N,M}
  let h||h||h:=h
  .show k (.inl h)
  .show k (.inr h)
  .subst h;let nb:=ok.bag.nb n;show{?_,?_,nb,ok.bag.na n,_,e,λ_ z=>nomatch z}
   .cases q:W.H₀ p with|none=>rfl|some o=>rw[ok.old p o nb q]at n;cases n
   .cases q:W.F p with|none=>rfl|some o=>rw[ok.frm p o q]at n;cases n
 len:=by simp[L2.picked,EN]
 slot:=λi s h=>by let[o,B,c]:=Kg h;cases o with|none=>subst c;show#[none,?_,trivial];unfold L2.picked;rw[bO,B];rfl|some j=>dsimp only at c;show{_,Kh B,?_};cases m:U[j]? with|none=>rw[m]at c;subst c;trivial|some s'=>
    rw[m]at c;let c:=c;subst c;let[o,r,C]:=ok.slot j _ m;rw[r];change DX _ _ _ _ s o;show DX.mv (W:=W) rfl rfl rfl rfl (λf p u I L=>{λz=>?_,st.same p u (λz=>I (z▸AL.b)) L}) (λp us e=>st.same p _ (ok.bag.neT e).1 e) (λp o v e=>st.same p o v e) C;let z||z:=dj (λz=>.inl (Sa ok z)) n z
    .show I z
    .rw[L]at z;cases z
 uniq:=λi ρ x y h1 h2 J=>by let[o,B,c]:=Kg h1;let[o',A,d]:=Kg h2;cases o with|none=>cases c|some j=>cases o' with|none=>cases d|some E=>dsimp only at c d;cases m:U[j]? with|none=>rw[m]at c;cases c|some s=>cases g:U[E]? with|none=>rw[g]at d;cases d|some s'=>rw[m]at c;rw[g]at d;cases c;cases d;let[o,r,C]:=ok.slot j _ m;let[o',w,Q]:=ok.slot E _ g;rw[Kh B,Kh A,r,w]at J;let T:o=o':=oI J;subst T;let:=ok.uniq j E x y m g (by rw[r,w]);subst this;show di v B A
def dq{h g}{i}(ok:Ok (W.blk U Y D) ρ' σ' H2)(c:g=.nw\/g=.cl)(r:RF (W.blk U Y D) ρ' σ' i h H2 y v)(m:(BU y h).join g=g):Rp W.b (λq=>AL W U Y g q\/q=D) H2 y v:=by
 let[l,j,d]:=NH ok r;let hi:BU y h=.nw\/BU y h=.cl:=by let 0||0:=c<;>cases e:BU y h<;>simp_all[Fl.join]
 show d.keep (λq o f e=>{λz=>f ?_,e}) λq us e=>e;let ow:(Ow W U Y q\/q=D)->Ow (W.blk U Y D) ρ' σ' q:=λz=>.inl (z.elim (λz=>z.elim .inl λz=>.inr (.inl z)) λz=>.inr (.inr z));let 0||0:=c
 .let a:BU y h=.nw:=by let z||z:=hi<;>simp_all[Fl.join]
  rw[a];rcases z with(z|z|z)|z
  .show .inl z
  .show .inr (.inl (ow (.inl z)))
  .show .inr (.inr z)
  .show .inr (.inl (ow (.inr z)))
 .let z'||z':=hi<;>rw[z']<;>simp only[AL]at z⊢
  .rcases z with(z|z)|z
   .show .inl z
   .show .inr (.inl (ow (.inl z)))
   .show .inr (.inl (ow (.inr z)))
  .rcases z with(z|z)|z
   .show .inl z
   .show .inr (ow (.inl z))
   .show .inr (ow (.inr z))
def NW(hp:Hd qD)(hi:SV wi pi)(hg:Im g pg)(ht:Ig tt pt)(he:CI te pe):CI (J9 wi qD g tt te) (Iw pi qD pg pt pe):=by
 intro W U Y H Q K ok hk q;show hi W U Y H _ _ ok hk λxs f _ J H1 zz s1 jC _=>?_;done<;>let[a4,a6,E,I,a0,h0,T,a1]:=zz;let d:=ok.step s1;let EY:∀{D H2},H1 D=none->Step W.b W.a H1 H2->∀{o},Step W.b W.a H1 (AA H2 D o):=λ{D H2}r s{o}=>{s.bag.put (d.bag.nb r) (d.bag.na r),λp u hp e=>by rw[AE (Ak e r)];show s.same p u hp e};intro D r;show{λi m ys H2=>m=xs.length-i/\i<=xs.length/\∃ps,I i ps/\H2 D\(.lst ys)/\AC W.b (λq=>AL W U Y E q\/q=D) H2 ps ys/\Step W.b W.a H1 H2/\ps.length<=i,{xs.length,'2',cD _,[],h0,AJ,0,EY r (Step.refl d.bag),aQ _},?_};rintro i m ys H2 iq;done<;>let[0,hi,ps,hI,G,rps,s2,a8]:=iq;show#[G,?_];let M:=d.step s2;let a3:=d.bag.nb r;let a7:=d.bag.na r;done<;>let[j1,j2,j3]:=jC (λp=>W.O p\/p=D) U Y H2 {λp z=>z.elim .inl λz=>.inr (z▸r),0,0,M,s2} i;by_cases ρ:i<xs.length
 .show .inr {j1 ρ,λzs H'=>∃ps,I (i+1) ps/\H' D\(.lst zs)/\AC W.b (λq=>AL W U Y E q\/q=D) H' ps zs/\Step W.b W.a H1 H'/\ps.length<=i+1,λzs H' zz=>(by let[ps,z]:=zz;show{xs.length-(i+1),⋯,0,ρ,ps,z}),λv H3 y=>?_};let hx:xs[i]?\xs[i]:=by simp[ρ]
  done<;>let[y1,σ]:=j3 v H3 y _ hx;let a2:=dn d hp r s2 G;let y3:RF (W.blk U Y D) (EN U qD) (L2.picked Y qD) H2 f H3 xs[i] v:=by
   let sub:∀{f}{q},AL (W.blk U Y D) (EN U qD) (L2.picked Y qD) f q->AL {W with O:=λp=>W.O p\/p=D} U Y f q:=λ{f q}z=>by
    let k:Ow (W.blk U Y D) (EN U qD) (L2.picked Y qD) q->Ow {W with O:=λp=>W.O p\/p=D} U Y q:=λz=>by
     rcases z with(z|z|z)|z
     .show .inl (.inl z)
     .show .inr z
     .show .inl (.inr z)
     .show .inr (Sa d z)
    cases f<;>simp only[AL]at z⊢
    all_goals first|show z|show z.elim .inl λz=>.inr (k z)|show z.elim .inl λz=>.inr (z.elim (λz=>.inl (k z)) .inr)
   let kp:∀{f},Rp W.b (AL {W with O:=λp=>W.O p\/p=D} U Y f) H3 xs[i] v->Rp W.b (AL (W.blk U Y D) (EN U qD) (L2.picked Y qD) f) H3 xs[i] v:=λ{f}h=>h.keep (λq o l e=>{λz=>l (sub z),e}) λq us e=>e;cases f with|bo=>show bS rfl a4|nw=>show{kp σ.1,σ.2}|fr=>show kp σ|cl=>show kp σ|rf=>show kp σ|an=>show kp σ
  let j:∀{n w},Step W.b W.a n w->n D\(.lst ys)->w D\(.lst ys):=λs e=>s.same D _ a3 e;let N:∀{n w}{o},Bag n W.b W.a->n D\(.lst ys)->Step W.b W.a n w->AC W.b (λq=>AL W U Y E q\/q=D) n ps ys->AC W.b (λq=>AL W U Y E q\/q=D) (AA w D o) ps ys:=λ{n w o}hb a5 s h=>h.keep (λq u l e=>{l,by rw[AE (λz=>l (.inr z))];show s.same q u (λz=>l (.inl (z▸AL.b))) e}) λq us e=>by rw[AE (λz=>by rw[z,a5]at e;cases e)];show s.same q _ (hb.neT e).1 e
  let B:∀{n w},Bag n W.b W.a->Step W.b W.a n w->AC W.b (λq=>AL W U Y E q\/q=D) n ps ys->AC W.b (λq=>AL W U Y E q\/q=D) w ps ys:=λ{n w}hb s h=>h.keep (λq u l e=>{l,s.same q u (λz=>l (.inl (z▸AL.b))) e}) λq us e=>s.same q _ (hb.neT e).1 e
  show hg (W.blk U Y D) _ _ H2 H3 _ f v _ _ a2 y1 y3 (T i _ ps hx hI) λρ4 σ4 k4 L=>?_;show ht (W.blk U Y D) ρ4 σ4 H3 _ _ L k4 λc H5 k5 s5=>?_;let A:=y1.trans s5;cases c with|false=>show{ps,k5,j A G,B M.bag A rps,s2.trans A,⋯}|true=>
   show he (W.blk U Y D) ρ4 σ4 H5 _ _ (L.step s5) k5 λy h u H6 zz s6 r6=>?_;let[k6,k7]:=zz;let x:=A.trans s6;show{j x G,?_,ps++[y],k7,AJ,?_,EY r (s2.trans x),by rw[aG];simp;lia}
   .let:=rps.length;let a9:sizeLine=16777216:=rfl;lia
   .show(N M.bag G x rps).snoc ?_;let r7:=dq (L.step (s5.trans s6)) a0 r6 k6;show r7.keep (λq u l e=>{l,by rw[AE (λz=>l (.inr z))];show e}) λq us e=>by rw[AE (λz=>by rw[z,j x G]at e;cases e)];show e
 .let e:i=xs.length:=⋯;subst e;show .inl {j2 (aQ _),q _ E _ H2 (a1 ps hI) (s1.trans s2) ?_};let nz:∀g,¬AL W U Y g D:=λg z=>d.dom z r;let C:=rps.keep (λq o l e=>{λz=>l (.inl z),e}) λq us e=>e;let 0||0:=a0
  .show#[{D,ys,0,nz .fr,G,C},λ_=>{D,0,s1.free r}]
  .show{D,ys,0,nz .cl,G,C}
end
section
variable{N':At}{bz:Expr}{pi:pI}{pt:pT}
abbrev FL(Xs:ι->Cx)(N':At)(scope:Scope):ι×CompP->Cx:=λq=>(Xs q.1).comp N' scope q.2
def Hg(Xs:ι->Cx)(qD:List (Option Nat))(tg:Expr)(p:pG):Prop:=(∃g,(∀i,PG (Xs i) tg g)/\Im g p/\Fh qD g)
def Ix(Xs:ι->Cx)(ifs:He)(p:pT):Prop:=(∃t,(∀i,GO (Xs i) ifs t)/\Ig t p)
def Sb:pT:=(λ_ K=>K true)
def Cf:Ix Xs [] Sb:={_,λ_=>HJ,λW U Y H Q K ok h q=>q true H h (Step.refl ok.bag)}
def Hh{c}(h:QT Xs c pt):Ix Xs [c] pt:=by let[t,h1,h2]:=h;show{t,λi=>Ra (h1 i),h2}
def Cw(c:qD[k]?\none)(e:∀i,(Xs i).N.Nodup)(hi:∀i,(Xs i).N[k]?\x:=by rfl)(a:∀i,Ee (Xs i).env.scope x:=by intro _;trivial)(d:∀i,(Xs i).fn x=true\/(Xs i).env.scope.names.lookup x\.local:=by intro _;trivial):Hg Xs qD (.Name x pos) (Bn k):={_,λi=>Ae (e i) (hi i) (a i) (d i),SO k,KB c}
def GR{k1}(d:qD[i]?\none)(c:qD[j]?\none)(f:∀i,(Xs i).calm=true)(g:∀i,(Xs i).K=Kf)(h:∀q,GC (Xs q) es (FI [i,j]))(e:∀i,(assignEach es (Xs i).env).length=2:=by rfl)(a:∀i,(assignEach es (Xs i).env).findIdx? (·.1)=none:=by rfl):Hg Xs qD (.Tuple es k1 pos) (HZ [i,j]):={gTup Kf 2 _,λi=>by let:=CP (k:=k1) (pos:=pos) (f i) (h i) (e i) (a i);simp_all,NT rfl,KC d c}
def CL(S:CompScope N sc N' qD scope)(l:Hd qD)(o:∀i,(Xs i).calm=true)(hi:QI Xs tg iter pi)(m:Hg (FL Xs N' scope) qD tg pg)(h:Ix (FL Xs N' scope) ifs pt)(n:QE (FL Xs N' scope) bz pe)(q:∀i,(Xs i).N=N:=by rfl)(a:∀i,(Xs i).env.scope=sc:=by rfl)(j:∀i,∀x,foldedSetIterable iter (Xs i).env x=pure x:=by intro _ _;rfl):QE Xs (.ListComp bz [#[tg,iter,ifs,(0)]] scope pos) (Iw pi qD pg pt pe):=by let[wi,f,e]:=hi;let[g,u,s,r]:=m;let[tt,d,c]:=h;let[te,w,v]:=n;show{_,λi=>IW S (o i) (f i) r (λp=>u (i,p)) (λp=>d (i,p)) (λp=>w (i,p)) (q i) (a i) (j i),NW l e s c v}
def du{f}(d:∀i,(Xs i).N.Nodup)(S:CompScope N sc N' qD scope)(r:Hd qD)(w:∀i,(Xs i).calm=true)(hi:QI Xs tg iter pi)(s:Hg (FL Xs N' scope) qD tg pg)(o:Ix (FL Xs N' scope) ifs pt)(v:QE (FL Xs N' scope) bz pe)(e:∀i,(Xs i).N[k]?\x:=by rfl)(n:∀i,Ee (Xs i).env.scope x:=by intro _;trivial)(y:∀i,(Xs i).N=N:=by rfl)(c:∀i,(Xs i).env.scope=sc:=by rfl)(a:∀i,swapsWith (.ListComp bz [#[tg,iter,ifs,(0)]] scope pos) (some (.Name x pos')) f.line (Xs i).env=pure true:=by rfl)(q:∀i,∀x,foldedSetIterable iter (Xs i).env x=pure x:=by intro _ _;rfl)(u:∀i,(Xs i).fn x=true\/(Xs i).env.scope.names.lookup x\.local:=by intro _;trivial):QS Xs (.Assign [.Name x pos'] (.ListComp bz [#[tg,iter,ifs,(0)]] scope pos) f) (Ik (Iw pi qD pg pt pe) k):=by let[wi,m,l]:=hi;let[g,C,B,A]:=s;let[tt,j,h]:=o;let[te,E,D]:=v;show{_,λi=>Mv S (d i) (e i) (n i) (w i) (m i) A (λp=>C (i,p)) (λp=>j (i,p)) (λp=>E (i,p)) (y i) (c i) (a i) (q i) (u i),SN (NW r l B h D)}
end
def Sc{h}(hi:y.imm=true):BU y h=.nw:=by cases h<;>simp[BU,hi]
section
variable{α:Type}{as:List α}{enc:α->P}{step:P->(Option (P×Fl)->Prop)->Prop}{K:P->Fl->Prop}
def Sd{x}(h:(as.map enc)[i]?\x):∃a,as[i]?\a/\a∈as/\x=enc a/\as.take (i+1)=as.take i++[a]:=by rw[bO]at h;cases c:as[i]? with|none=>simp_all|some a=>rw[c]at h;show{a,0,aM c,(oI h).symm,by rw[take_add_one,c];rfl}
def BW.filter(t)(g)(hi:∀a∈as,t a=true->(g a).imm=true)(hs:∀a∈as,∀M,(∀h,M (if t a=true then some (g a,h)else none))->step (enc a) M)(l:K (.lst ((as.filter t).map g)) .nw):BW (as.map enc) step K:=by
 show{.nw,λi ys=>ys=((as.take i).filter t).map g,.inl rfl,0,λi x ys f c=>?_,λys c=>?_}
 .done<;>let[a,_,d,0,j]:=Sd f;subst c;show hs a d _ λh=>?_;let key:((as.take (i+1)).filter t).map g=((as.take i).filter t).map g++if t a=true then[g a]else[]:=by rw[j,filter_append];cases e:t a<;>simp[e]
  cases e:t a
  .simp_all
  .show{by rw[Sc (hi a d e)];rfl,?_};lia
 .rw[aA,take_length]at c;subst c;show l
def BW.map(g)(hi:∀a∈as,(g a).imm=true)(hs:∀a∈as,∀M,(∀h,M (some (g a,h)))->step (enc a) M)(c:K (.lst (as.map g)) .nw):BW (as.map enc) step K:=BW.filter (λ_=>true) g (λa m _=>hi a m) (λa m M h=>hs a m M h) (by rw[filter_eq_self.mpr λ_ _=>rfl];show c)
inductive Each{α β:Type}(R:α->β->Prop):List α->List β->Prop where|nil:Each R [] []|cons{a b as bs}:R a b->Each R as bs->Each R (a::as) (b::bs)
def Each.snoc{a}{b:β}(h:R a b)(e:Each R as bs):Each R (as++[a]) (bs++[b]):=by induction e with|nil=>show .cons h .nil|cons r t c=>show .cons r c
def Each.length{bs:List β}(e:Each R as bs):as.length=bs.length:=by induction e with|nil=>rfl|cons r t a=>show aT _ a
def Each.mem{bs:List β}(e:Each R as bs):∀b∈bs,∃a∈as,R a b:=by induction e with|nil=>simp|cons r t c=>simp_all
def BW.rel(g)(R:α->β->Prop)(hs:∀a∈as,∀M,(∀b h,R a b->M (some (g b,h)))->step (enc a) M)(m:∀b,(g b).imm=true)(n:∀bs,Each R as bs->K (.lst (bs.map g)) .nw):BW (as.map enc) step K:=by
 show{.nw,λi ys=>∃bs,ys=bs.map g/\Each R (as.take i) bs,.inl rfl,{[],0,.nil},λi x ys e c=>?_,λys c=>?_}
 .done<;>(let[a,_,l,0,f]:=Sd e;let[bs,0,d]:=c);show hs a l _ λb h j=>{by rw[Sc (m b)];rfl,bs++[b],'2',?_};rw[f];show d.snoc j
 .let[bs,0,d]:=c;simp_all
end
def DL(C:Int->Int->Prop)(g:Int->Int->P):p2:=(λx _ y _ K=>match x,y with|.int i,.int j=>C i j/\K (g i j) .fr|_,_=>False)
abbrev CT:Int->Int->Prop:=λ_ _=>True
def A8:P->Option V|.non=>some .non|.bl k=>some (.bl k)|.int i=>some (.int i)|.str x=>some (.str x)|_=>none
def NX{x}(h:A8 x\v):RF W U Y Hs .fr H x v:=by cases x<;>simp only[A8]at h<;>first|(cases h;rfl)|cases h
section
variable{C:Int->Int->Prop}{g:Int->Int->V}{gp:Int->Int->P}
def Ki(e:∀i j,A8 (gp i j)\(g i j)):BL (rI C g) (DL C gp):=λW U Y Hs H Q K x y f h v u ok st d c a q=>by
 unfold DL at a;split at a
 .cases Da ok d;cases Da ok c;show{_,_,0,0,a.1,q _ _ _ H a.2 (Step.refl ok.bag) (NX (e _ _))}
 simp_all
def Hi(e:∀i j,A8 (gp i j)\(g i j)):BL (rI0 g) (DL CT gp):=λW U Y Hs H Q K x y f h v u ok st d c a q=>by
 unfold DL at a;split at a
 .cases Da ok d;cases Da ok c;show{_,_,0,0,q _ _ _ H a.2 (Step.refl ok.bag) (NX (e _ _))}
 simp_all
end
abbrev Se:p2:=DL CT λi j=>.int (i+j)
abbrev dw:p2:=DL CT λi j=>.int (i-j)
abbrev dz:p2:=DL Fb λi j=>.int (i*j)
abbrev d0:p2:=DL (λ_ j=>0<j) λi j=>.int (i%j)
abbrev d3:p2:=DL Jv λi j=>.int (i^j.toNat)
abbrev d4:p2:=DL (λ_ j=>0<=j) λi j=>.int (i/2^j.toNat)
abbrev d5:p2:=DL CT λi j=>.bl (decide (i<j))
abbrev d6:p2:=DL CT λi j=>.bl (decide (i<=j))
abbrev d7:p2:=DL CT λi j=>.bl (decide (j<i))
abbrev d8:p2:=DL CT λi j=>.bl (decide (j<=i))
def Et:BL (rI0 λi j=>.int (i+j)) Se:=Hi λ_ _=>rfl
def NY:BL (rI0 λi j=>.int (i-j)) dw:=Hi λ_ _=>rfl
def Iy:BL (rI Fb λi j=>.int (i*j)) dz:=Ki λ_ _=>rfl
def Kj:BL (rI (λ_ j=>0<j) λi j=>.int (i%j)) d0:=Ki λ_ _=>rfl
def Hj:BL (rI Jv λi j=>.int (i^j.toNat)) d3:=Ki λ_ _=>rfl
def d9:BL (rI (λ_ j=>0<=j) λi j=>.int (i/2^j.toNat)) d4:=Ki λ_ _=>rfl
def Fp:BL (rI0 λi j=>.bl (decide (i<j))) d5:=Hi λ_ _=>rfl
def EO:BL (rI0 λi j=>.bl (decide (i<=j))) d6:=Hi λ_ _=>rfl
def GS:BL (rI0 λi j=>.bl (decide (j<i))) d7:=Hi λ_ _=>rfl
def cJ:BL (rI0 λi j=>.bl (decide (j<=i))) d8:=Hi λ_ _=>rfl
section
variable{a b:Expr}
def Sf(p:pE):pE:=(λU K=>p U λx _=>match x with|.int i=>K (.int (-i)) .fr|_=>False)
def Iz(h:QE Xs a pa):QE Xs (.UnaryOp .USub a pos) (Sf pa):=by
 let[t,h1,h2]:=h;show{_,λi=>Qg Qi (h1 i),λW U Y H Q K ok e q=>h2 W U Y H _ _ ok e λx f v H1 k1 c d=>?_};split at k1
 .cases Da (ok.step c) d;show{_,0,q _ _ _ H1 k1 c HX}
 simp_all
end
def JA(C:Str->Str->Prop)(g:Str->Str->P):p2:=(λx _ y _ K=>match x,y with|.str i,.str j=>C i j/\K (g i j) .fr|_,_=>False)
def Sg{r}{g:Str->Str->V}(l:∀i j,A8 (gp i j)\(g i j))(e:∀i j H Q,C i j->Q (g i j) H->r (.str i) (.str j) H Q):BL r (JA C gp):=λW U Y Hs H Q K x y f h v u ok st d c a q=>by
 unfold JA at a;split at a
 .cases Er ok d;cases Er ok c;show e _ _ H Q a.1 (q _ _ _ H a.2 (Step.refl ok.bag) (NX (l _ _)))
 simp_all
abbrev ST:Str->Str->Prop:=λ_ _=>True
abbrev cN:p2:=JA ST λi j=>.bl (decide (i.cps.toList<j.cps.toList))
abbrev cR:p2:=JA ST λi j=>.bl (!decide (j.cps.toList<i.cps.toList))
def cU:BL (λx y H Q=>∃i j,x=.str i/\y=.str j/\Q (.bl (decide (i.cps.toList<j.cps.toList))) H) cN:=Sg dG λi j H Q c q=>#[i,j,0,0,q]
def Si:BL (λx y H Q=>∃i j,x=.str i/\y=.str j/\Q (.bl (!decide (j.cps.toList<i.cps.toList))) H) cR:=Sg dG λi j H Q c q=>#[i,j,0,0,q]
def P.isNon:P->Bool|.non=>true|_=>false
def NZ:p2:=(λx _ y _ K=>y=.non/\K (.bl (!x.isNon)) .fr)
def cW{x}(h:Rp b Z H x v):decide (v=.non)=x.isNon:=by cases x with|non=>rw[h];rfl|bl k=>rw[h];rfl|int k=>rw[h];rfl|str k=>rw[h];rfl|bag=>rw[h];rfl|tup xs=>let[p,vs,e,_]:=h;rw[e];rfl|lst xs=>let[p,vs,e,_]:=h;rw[e];rfl|dT ks xs=>let[p,vs,e,_]:=h;rw[e];rfl|fT ks xs=>let[p,vs,e,_]:=h;rw[e];rfl|dK ks xs=>let[p,vs,e,_]:=h;rw[e];rfl
def cY:BL (λx y H Q=>y=.non/\Q (.bl (!decide (x=.non))) H) NZ:=λW U Y Hs H Q K x y f h v u ok st d c a q=>by let[0,a]:=a;show{c.any ok,?_};rw[cW (d.any ok)];show q _ _ _ H a (Step.refl ok.bag) FH
def GU:p2:=(λx f y _ K=>match x,y with|.lst xs,.int i=>∃z,atI xs i\z/\K z f.el|.tup xs,.int i=>∃z,atI xs i\z/\K z f.el|.str z,.int i=>z.length<=16777216/\∃c,atI z.cps.toList i\c/\K (.str {[c].toArray}) .fr|_,_=>False)
def AC.atI{i}(h:AC b Z H xs vs)(e:L2.atI xs i\z):∃v,L2.atI vs i\v/\Rp b Z H z v:=by unfold L2.atI at e⊢;rw[h.length]at e;cases hj:Cr vs.length i with|none=>simp_all|some j=>rw[hj]at e;show h.get e
def Sj:R2:=(λx y H Q=>(∃p i xs,x=.ref p/\y=.int i/\(H p\(.lst xs)\/H p\(.tup xs))/\∃v,atI xs i\v/\Q v H)\/RB x y H Q)
def Am:Fe X Sj:=λvalue a qA s Y H x y v u Q I d c h e=>by
 let[p,i,xs,j,g,h,w,f,q]||h:=h
 .let h||h:=h
  .show RC value a qA s Y H x y v u Q I d c {p,xs,i,w,j,g,.of h,f,q} e
  .show RD value a qA s Y H x y v u Q I d c {p,xs,i,w,j,g,.of h,f,q} e
 .show Mc value a qA s Y H x y v u Q I d c h e
def An:BL Sj GU:=λW U Y Hs H Q K x y f h v u ok st i g a q=>by
 unfold GU at a;split at a
 .let[z,e,d]:=a;cases Da ok g;let[p,vs,0,l,r]:=i.items rfl;let[w,m,j]:=r.atI e;show .inl {p,_,vs,0,0,l,w,m,q _ _ _ H d (Step.refl ok.bag) (RF.ofEl j)}
 .let[z,e,d]:=a;cases Da ok g;let[p,vs,0,l,r]:=i.items rfl;let[w,m,j]:=r.atI e;show .inl {p,_,vs,0,0,l,w,m,q _ _ _ H d (Step.refl ok.bag) (RF.ofEl j)}
 .let[n,c,e,d]:=a;cases Da ok g;cases Er ok i;show .inr {_,_,c,0,0,n,e,q _ _ _ H d (Step.refl ok.bag) SI}
 .show a.elim
def Na:p2:=(λx f y g K=>match x,y with|.lst xs,.lst ys=>xs.length+ys.length<=16777216/\K (.lst (xs++ys)) ((Bc f xs).join (Bc g ys))|.tup xs,.tup ys=>(P.imms xs=true/\P.imms ys=true)/\xs.length+ys.length<=16777216/\K (.tup (xs++ys)) .fr|_,_=>False)
def Sk:R2:=(λx y H Q=>(∃p q xs ys,x=.ref p/\y=.ref q/\H p\(.lst xs)/\H q\(.lst ys)/\xs.length+ys.length<=sizeLine/\∀l,H l=none->Q (.ref l) (AA H l (.lst (xs++ys))))\/(∃p q xs ys,x=.ref p/\y=.ref q/\H p\(.tup xs)/\H q\(.tup ys)/\xs.length+ys.length<=sizeLine/\(xs=[]->Q (.ref q) H)/\(xs≠[]->ys=[]->Q (.ref p) H)/\(xs≠[]->ys≠[]->∀l,H l=none->Q (.ref l) (AA H l (.tup (xs++ys))))))
def GV:A1 X (binaryOp .Add) Sk:=by
 intro qA s Y H x y v u Q I m l h;done<;>let[p,q,xs,ys,i,g,h1,h2,o,k]||[p,q,xs,ys,i,g,h1,h2,o,k0,k1,k2]:=h
 .show Yu qA s Y H x y v u Q I m l #[p,q,xs,ys,i,g,h1,h2,o,k]
 .by_cases f:xs=[]
  .subst i;subst g;subst f;cases m;cases l;done<;>(let[qG,E,p1,_]:=I.tuple (.of h1);let[a,L,p2,_]:=I.tuple (.of h2));cases E;done<;>(let[[J,dd,C,sl],w,B,n,A]:=id p1;let[[D,r,data2,j],c,e,G,d]:=id p2);simp only at B A e d;subst B A e d;show concat_meets #[_,w,0] #[_,c,0] noFill_tuple_add seq_tuple_add PySem.F.slot_tuple_add PySem.F.entry_tuple_add (PySem.F.args_tuple_add_2 _ _)
    (tuple_addW0 p q #[] a.toArray n G dd r sl j rfl) {w,c,.ref q,H,I,0,k0 rfl}
  .show Yc qA s Y H x y v u Q I m l {p,q,xs,ys,i,g,.of h1,.of h2,f,o,k1 f,k2 f}
def Sm(h:AC W.b (AL W U Y f) H xs vs):Bc f xs≠.bo/\Bc f xs≠.fr/\AC W.b (AL W U Y (Bc f xs)) H xs vs:=by
 unfold Bc;split
 .show{'2','2',h.imm ‹_›}
 .cases f<;>show{by simp[Fl.top],by simp[Fl.top],h}
def Dc(ok:Ok W U Y H)(r:RF W U Y Hs f H (.lst xs) v):∃p vs,v=.ref p/\H p\(.lst vs)/\AC W.b (AL W U Y f) H xs vs:=by let[p,vs,0,hc,a]:=r.items rfl;let[q,us,d,_,c,_]:=r.any ok;simp_all
def EQ(ok:Ok W U Y H)(r:RF W U Y Hs f H (.tup xs) v):∃p vs,v=.ref p/\H p\(.tup vs)/\AC W.b (AL W U Y f) H xs vs:=by let[p,vs,0,hc,a]:=r.items rfl;let[q,us,d,c,_]:=r.any ok;simp_all
def JB{g}(ok:Ok W U Y H)(st:Step W.b W.a Hs H)(hb:g≠.bo)(d:g≠.fr)(f:AC W.b (AL W U Y g) H xs vs)(h:H p=none):RF W U Y Hs g (AA H p (.lst vs)) (.lst xs) (.ref p):=by
 let:=RF.newL ok st f h;unfold Bc at this;split at this
 .cases g with|bo=>show bS rfl hb|fr=>show bS rfl d|nw=>show this|cl=>show this.1.keep (λq o c e=>{λz=>c (z.elim .inl λz=>.inr (.inl z)),e}) λq us e=>e|rf=>show this.1.keep (λq o c e=>{λz=>c (z.elim .inl λz=>.inr (.inr z)),e}) λq us e=>e|an=>show this.1.keep (λq o c e=>{λz=>c (.inl z),e}) λq us e=>e
 .rw[RF.topped hb d]at this;show this
def GW:BL Sk Na:=λW U Y Hs H Q K x y f h v u ok st s r g q=>by
 unfold Na at g;split at g
 .let[d,j]:=g;let[p,vs,0,n,c]:=Dc ok s;let[p2,vs2,0,m,a]:=Dc ok r;let[E,D,c]:=Sm c;let[C,B,a]:=Sm a;let A:=R9 (W:=W) (U:=U) (Y:=Y) E D C B;let w:=NI E D C B;show .inl {p,p2,vs,vs2,0,0,n,m,by rw[<-c.length,<-a.length];show d,λl i=>q _ _ _ _ j (Step.new ok.bag i) ?_};show JB ok st w.1 w.2 ((c.keep (λq o d e=>{λz=>d (A q z).1,e}) λq us e=>e).app (a.keep (λq o d e=>{λz=>d (A q z).2,e}) λq us e=>e)) i
 .let[[I,G],d,j]:=g;let[p,vs,0,n,c]:=EQ ok s;let[p2,vs2,0,m,a]:=EQ ok r;let l1:=c.length;let l2:=a.length;let c:AC W.b (Zf W U Y) H _ vs:=c.imm I;let a:AC W.b (Zf W U Y) H _ vs2:=a.imm G;show .inr {p,p2,vs,vs2,0,0,n,m,by rw[<-l1,<-l2];show d,λe=>?_,λe J=>?_,λ_ _ l i=>?_}
  .subst e;show q _ _ _ _ j (Step.refl ok.bag) ?_;rw[length_eq_zero_iff.mp l1,nil_append];show#[p2,vs2,0,m,a]
  .subst J;show q _ _ _ _ j (Step.refl ok.bag) ?_;rw[length_eq_zero_iff.mp l2,cP];show#[p,vs,0,n,c]
  .show q _ _ _ _ j (Step.new ok.bag i) ?_;show{l,vs++vs2,0,AJ,(c.app a).step (Step.new ok.bag i) ok.bag}
 .show g.elim
section
variable{Hs:Hp}
def CZ.one{x}(h:CZ W U Y Hs H [(x,f)] vs):∃v,vs=[v]/\RF W U Y Hs f H x v:=by let[v,t,0,h2,a]:=h;cases(a);show#[v,0,h2]
end
def p1(g:P->Fl->(P->Fl->Prop)->Prop):pC:=(λxs K=>match xs with|[(x,f)]=>g x f K|_=>False)
def JC:pC:=(p1 λx _ K=>match x with|.lst xs=>K (.int xs.length) .fr|.tup xs=>K (.int xs.length) .fr|.str z=>z.length<=16777216/\K (.int z.length) .fr|_=>False)
def Sn:dH->Hp->VK->Prop:=(λxs H Q=>(∃p ys,xs=[.ref p]/\(H p\(.lst ys)\/H p\(.tup ys))/\Q (.int ys.length) H)\/∃z,xs=[.str z]/\z.length<=sizeLine/\Q (.int z.length) H)
def CA:B3 X (.builtin "len") Sn:=by
 intro qA s Y H xs us Q I r h;let[p,ys,0,a,q]||h:=h
 .show Mg qA s Y H _ us Q I r {p,ys,0,a.elim (λz=>.inl (.of z)) (λz=>.inr (.of z)),q}
 .show RI qA s Y H _ us Q I r h
def CB:DY Sn JC:=λW U Y Hs H Q K xs vs ok st r a q=>by
 unfold JC p1 at a;split at a
 .let[v,0,rv]:=r.one;split at a
  .let[p,us,0,c,d]:=Dc ok rv;show .inl {p,us,0,.inl c,by rw[<-d.length];show q _ _ _ H a (Step.refl ok.bag) HX}
  .let[p,us,0,c,d]:=EQ ok rv;show .inl {p,us,0,.inr c,by rw[<-d.length];show q _ _ _ H a (Step.refl ok.bag) HX}
  .cases Er ok rv;show .inr {_,0,a.1,q _ _ _ H a.2 (Step.refl ok.bag) HX}
  simp_all
 .show a.elim
def Nb:pC:=(p1 λx f K=>match x with|.lst xs=>K (.lst xs) (Bc f xs)|.tup xs=>K (.lst xs) (Bc f xs)|_=>False)
def cZ:DY (λxs H Q=>∃p ys,xs=[.ref p]/\(H p\(.lst ys)\/H p\(.tup ys))/\∀l,H l=none->Q (.ref l) (AA H l (.lst ys))) Nb:=λW U Y Hs H Q K xs vs ok st r a q=>by
 unfold Nb p1 at a;split at a
 .let[v,0,rv]:=r.one;split at a
  .let[p,us,0,c,e]:=Dc ok rv;show{p,us,0,.inl c,λl d=>q _ _ _ _ a (Step.new ok.bag d) (RF.newL ok st e d)}
  .let[p,us,0,c,e]:=EQ ok rv;show{p,us,0,.inr c,λl d=>q _ _ _ _ a (Step.new ok.bag d) (RF.newL ok st e d)}
  simp_all
 simp_all
def Nc:pC:=(p1 λx f K=>match x with|.lst xs=>K (.tup xs) (Bc f xs)|_=>False)
def GX:DY (λxs H Q=>∃p ys,xs=[.ref p]/\H p\(.lst ys)/\∀l,H l=none->Q (.ref l) (AA H l (.tup ys))) Nc:=λW U Y Hs H Q K xs vs ok st r a q=>by
 unfold Nc p1 at a;split at a
 .let[v,0,rv]:=r.one;split at a
  .let[p,us,0,c,e]:=Dc ok rv;show{p,us,0,c,λl d=>q _ _ _ _ a (Step.new ok.bag d) (RF.newT ok e d)}
  simp_all
 simp_all
def Nd:pC:=(p1 λx f K=>∃bs:List Bool,x=.lst (bs.map P.bl)/\K (.bl (bs.all id)) .fr)
def Eu:DY (λxs H Q=>∃(p:Addr)(bs:List Bool),xs=[.ref p]/\BA Kf H p (bs.map V.bl)/\Q (.bl (bs.all id)) H) Nd:=λW U Y Hs H Q K xs vs ok st r a q=>by
 unfold Nd p1 at a;split at a
 .let[v,0,rv]:=r.one;let[bs,0,e]:=a;let[p,us,0,c,d]:=Dc ok rv;rw[AC.bls.mp d]at c;show{p,bs,0,.of c,q _ _ _ H e (Step.refl ok.bag) FH}
 simp_all
def Nf:pC:=(p1 λx f K=>∃ss:At,x=.lst (ss.map P.str)/\ss.length<64/\∀ss':At,ss'.Perm ss->sortedS ss'=true->K (.lst (ss'.map P.str)) .nw)
def ca:DY (λxs H Q=>∃(p:Addr)(d:At),xs=[.ref p]/\H p\(.lst (d.map V.str))/\d.length<64/\∀(l)(a:At),H l=none->a.Perm d->sortedS a=true->Q (.ref l) (AA H l (.lst (a.map V.str)))) Nf:=λW U Y Hs H Q K xs vs ok st r e q=>by
 unfold Nf p1 at e;split at e
 .let[v,0,rv]:=r.one;let[d,0,f,j]:=e;let[p,us,0,c,i]:=Dc ok rv;rw[AC.strs.mp i]at c;show{p,d,0,c,f,λl a h h1 h2=>q _ _ _ _ (j a h1 h2) (Step.new ok.bag h) (JB ok st '2' '2' (AC.strs.mpr rfl) h)}
 simp_all
def Ng:P->String|.non=>"NoneType"|.bl _=>"bool"|.int _=>"int"|.str _=>"str"|.tup _=>"tuple"|.lst _=>"list"|.dT _ _=>"dict"|.dK _ _=>"dict"|.fT _ _=>"dict"|.bag=>"list"
def cb(n:String)(x:P):Bool:=(decide (Ng x=n)||(decide (n="int")&&decide (Ng x="bool")))
open PySem.SeqAt
mutual
noncomputable def AU:P->P->Bool|.non,.non=>true|.bl a,.bl b=>a==b|.int a,.int b=>a==b|.str a,.str b=>a==b|.bl a,.int b=>(if a then 1 else 0)==b|.int a,.bl b=>a==(if b then 1 else 0)|.tup xs,.tup ys=>Bs xs ys|.lst xs,.lst ys=>Bs xs ys|_,_=>false
noncomputable def Bs:dI->dI->Bool|[],[]=>true|x::xs,y::ys=>AU x y&&Bs xs ys|_,_=>false
end
def P.pl:Nat->P->Bool|_,.non=>true|_,.bl _=>true|_,.int _=>true|_,.str _=>true|n+1,.tup xs=>xs.all (P.pl n)|n+1,.lst xs=>xs.all (P.pl n)|_,_=>false
theorem Sq:∀{xs ys}{e},(∀j x y,xs[j]?\x->ys[j]?\y->e j=AU x y)->((List.range (min xs.length ys.length)).all e&&xs.length==ys.length)=Bs xs ys
 |[],[],e,_=>rfl|[],_::_,e,_=>rfl|_::_,[],e,_=>rfl|x::xs,y::ys,e,h=>by
  let c:=Sq λj a b h1 h2=>h (j+1) a b (~~~h1) (~~~h2);let d:=h 0 x y rfl rfl;rw[Bs,<-c,<-d];let g:min (x::xs).length (y::ys).length=min xs.length ys.length+1:='2'
  rw[g,range_succ_eq_map,all_cons,all_map];let f:((x::xs).length==(y::ys).length)=(xs.length==ys.length):=by simp
  rw[f,Bool.and_assoc];rfl
def DM{x}(a:A8 x\v)(q:AV v v'):(x=.non/\v'=.none)\/(∃b,x=.bl b/\v'=.bool b)\/(∃i t,x=.int i/\v'=.int i t)\/∃z t,x=.str z/\v'=.str z t:=by cases x with|non=>cases(oI (a));show .inl #[0,q]|bl b=>cases(oI (a));show .inr (.inl #[b,0,q])|int i=>cases(oI (a));let[t,e]:=(q);show .inr (.inr (.inl #[i,t,0,e]))|str i=>cases(oI (a));let[t,e]:=(q);show .inr (.inr (.inr #[i,t,0,e]))|_=>cases a
@[elab_as_elim]theorem Sl{x}{C:Value->Prop}(a:A8 x\v)(q:AV v v')(h:C .none)(i:∀b,C (.bool b))(j:∀b t,C (.int b t))(k:∀b t,C (.str b t)):C v':=by rcases DM a q with⟨_,rfl⟩|⟨_,_,rfl⟩|⟨_,_,_,rfl⟩|⟨_,_,_,rfl⟩;show h;show i _;show j _ _;show k _ _
def Sr{x}{u}(d:A8 x\v)(a:A8 y\u)(qv:AV v v')(c:AV u u'):EqAt A s v' u' (AU x y):=by
 rcases DM d qv with⟨rfl,rfl⟩|⟨_,rfl,rfl⟩|⟨_,_,rfl,rfl⟩|⟨_,_,rfl,rfl⟩<;>rcases DM a c with⟨rfl,rfl⟩|⟨_,rfl,rfl⟩|⟨_,_,rfl,rfl⟩|⟨_,_,rfl,rfl⟩<;>simp only[AU,Bool.not_false,Bool.not_true]
 show EqAt.same _;show EqAt.none_bool _;show EqAt.none_int _ _;show EqAt.none_str _ _;show EqAt.bool_none _;show EqAt.bool_bool _ _;show EqAt.bool_int _ _ _;show EqAt.bool_str _ _ _;show EqAt.int_none _ _;show EqAt.int_bool _ _ _;show EqAt.int_int _ _ _ _;show EqAt.int_str _ _ _ _;show EqAt.str_none _ _;show EqAt.str_bool _ _ _;show EqAt.str_int _ _ _ _;show EqAt.str_str _ _ _ _
def cc{x}{u}(d:A8 x\v)(a:A8 y\u)(qv:AV v v')(c:AV u u'):RcNeAt A s v' u' (!AU x y):=by
 rcases DM d qv with⟨rfl,rfl⟩|⟨_,rfl,rfl⟩|⟨_,_,rfl,rfl⟩|⟨_,_,rfl,rfl⟩<;>rcases DM a c with⟨rfl,rfl⟩|⟨_,rfl,rfl⟩|⟨_,_,rfl,rfl⟩|⟨_,_,rfl,rfl⟩<;>simp only[AU,Bool.not_false,Bool.not_true]
 show RcNeAt.none_none;show RcNeAt.none_bool _;show RcNeAt.none_int _ _;show RcNeAt.none_str _ _;show RcNeAt.bool_none _;show RcNeAt.bool_bool _ _;show RcNeAt.bool_int _ _ _;show RcNeAt.bool_str _ _ _;show RcNeAt.int_none _ _;show RcNeAt.int_bool _ _ _;show RcNeAt.int_int _ _ _ _;show RcNeAt.int_str _ _ _ _;show RcNeAt.str_none _ _;show RcNeAt.str_bool _ _ _;show RcNeAt.str_int _ _ _ _;show RcNeAt.str_str _ _ _ _
def ce{x}{u}(d:A8 x\v)(a:A8 y\u)(qv:AV v v')(c:AV u u'):RcAt A s v' u' (AU x y):=by
 rcases DM d qv with⟨rfl,rfl⟩|⟨_,rfl,rfl⟩|⟨_,_,rfl,rfl⟩|⟨_,_,rfl,rfl⟩<;>rcases DM a c with⟨rfl,rfl⟩|⟨_,rfl,rfl⟩|⟨_,_,rfl,rfl⟩|⟨_,_,rfl,rfl⟩<;>simp only[AU,Bool.not_false,Bool.not_true]
 show RcAt.none_none;show RcAt.none_bool _;show RcAt.none_int _ _;show RcAt.none_str _ _;show RcAt.bool_none _;show RcAt.bool_bool _ _;show RcAt.bool_int _ _ _;show RcAt.bool_str _ _ _;show RcAt.int_none _ _;show RcAt.int_bool _ _ _;show RcAt.int_int _ _ _ _;show RcAt.int_str _ _ _ _;show RcAt.str_none _ _;show RcAt.str_bool _ _ _;show RcAt.str_int _ _ _ _;show RcAt.str_str _ _ _ _
def cf{u}(f:s.heap.IsList l qG)(e:A.units<cLine)(c:A8 y\u)(d:AV u u'):EqAt A s (.ref l) u' false:=Sl c d (EqAt.list_none f e) (λ_=>EqAt.list_bool _ f e) (λ_ _=>EqAt.list_int _ _ f e) λ_ _=>EqAt.list_str _ _ f e
def cg{u}(f:s.heap.IsList l qG)(e:A.units<cLine)(c:A8 y\u)(d:AV u u'):EqAt A s u' (.ref l) false:=Sl c d (EqAt.none_list f e) (λ_=>EqAt.bool_list _ f e) (λ_ _=>EqAt.int_list _ _ f e) λ_ _=>EqAt.str_list _ _ f e
def ci{u}(f:s.heap.IsTuple l qG)(e:A.units<cLine)(c:A8 y\u)(d:AV u u'):EqAt A s (.ref l) u' false:=Sl c d (EqAt.tuple_none f e) (λ_=>EqAt.tuple_bool _ f e) (λ_ _=>EqAt.tuple_int _ _ f e) λ_ _=>EqAt.tuple_str _ _ f e
def cj{u}(f:s.heap.IsTuple l qG)(e:A.units<cLine)(c:A8 y\u)(d:AV u u'):EqAt A s u' (.ref l) false:=Sl c d (EqAt.none_tuple f e) (λ_=>EqAt.bool_tuple _ f e) (λ_ _=>EqAt.int_tuple _ _ f e) λ_ _=>EqAt.str_tuple _ _ f e
def ck{u}(f:s.heap.IsList l qG)(e:A.units<cLine)(c:A8 y\u)(d:AV u u'):RcNeAt A s (.ref l) u' true:=Sl c d (RcNeAt.list_none f e) (λ_=>RcNeAt.list_bool _ f e) (λ_ _=>RcNeAt.list_int _ _ f e) λ_ _=>RcNeAt.list_str _ _ f e
def cn{u}(f:s.heap.IsList l qG)(e:A.units<cLine)(c:A8 y\u)(d:AV u u'):RcNeAt A s u' (.ref l) true:=Sl c d (RcNeAt.none_list f e) (λ_=>RcNeAt.bool_list _ f e) (λ_ _=>RcNeAt.int_list _ _ f e) λ_ _=>RcNeAt.str_list _ _ f e
def cp{u}(f:s.heap.IsTuple l qG)(e:A.units<cLine)(c:A8 y\u)(d:AV u u'):RcNeAt A s (.ref l) u' true:=Sl c d (RcNeAt.tuple_none f e) (λ_=>RcNeAt.tuple_bool _ f e) (λ_ _=>RcNeAt.tuple_int _ _ f e) λ_ _=>RcNeAt.tuple_str _ _ f e
def cq{u}(f:s.heap.IsTuple l qG)(e:A.units<cLine)(c:A8 y\u)(d:AV u u'):RcNeAt A s u' (.ref l) true:=Sl c d (RcNeAt.none_tuple f e) (λ_=>RcNeAt.bool_tuple _ f e) (λ_ _=>RcNeAt.int_tuple _ _ f e) λ_ _=>RcNeAt.str_tuple _ _ f e
def cr{u}(f:s.heap.IsList l qG)(e:A.units<cLine)(c:A8 y\u)(d:AV u u'):RcAt A s (.ref l) u' false:=Sl c d (RcAt.list_none f e) (λ_=>RcAt.list_bool _ f e) (λ_ _=>RcAt.list_int _ _ f e) λ_ _=>RcAt.list_str _ _ f e
def cu{u}(f:s.heap.IsList l qG)(e:A.units<cLine)(c:A8 y\u)(d:AV u u'):RcAt A s u' (.ref l) false:=Sl c d (RcAt.none_list f e) (λ_=>RcAt.bool_list _ f e) (λ_ _=>RcAt.int_list _ _ f e) λ_ _=>RcAt.str_list _ _ f e
def cv{u}(f:s.heap.IsTuple l qG)(e:A.units<cLine)(c:A8 y\u)(d:AV u u'):RcAt A s (.ref l) u' false:=Sl c d (RcAt.tuple_none f e) (λ_=>RcAt.tuple_bool _ f e) (λ_ _=>RcAt.tuple_int _ _ f e) λ_ _=>RcAt.tuple_str _ _ f e
def cw{u}(f:s.heap.IsTuple l qG)(e:A.units<cLine)(c:A8 y\u)(d:AV u u'):RcAt A s u' (.ref l) false:=Sl c d (RcAt.none_tuple f e) (λ_=>RcAt.bool_tuple _ f e) (λ_ _=>RcAt.int_tuple _ _ f e) λ_ _=>RcAt.str_tuple _ _ f e
def Dd{x}(a:x.pl n=true)(r:Rp b Z H x v):A8 x\v\/(∃m xs,n=m+1/\x=.tup xs/\xs.all (P.pl m)=true)\/∃m xs,n=m+1/\x=.lst xs/\xs.all (P.pl m)=true:=by cases x with
 |non=>show .inl (by rw[r];rfl)|bl k=>show .inl (by rw[r];rfl)|int k=>show .inl (by rw[r];rfl)|str k=>show .inl (by rw[r];rfl)|tup xs=>cases n with|zero=>simp[P.pl]at a|succ m=>show .inr (.inl {m,xs,0,0,(by assumption)})
 |lst xs=>cases n with|zero=>simp[P.pl]at a|succ m=>show .inr (.inr {m,xs,0,0,(by assumption)})
 |_=>cases n<;>simp[P.pl]at a
def Fq:∀(n){x},x.pl n=true->AU x x=true:=by
 intro n
 induction n with|zero=>intro x a;cases x<;>simp[P.pl]at a<;>simp[AU]|succ n e=>
  let d:∀{xs},xs.all (P.pl n)=true->Bs xs xs=true:=by
   intro xs
   induction xs with|nil=>intro _;rfl|cons x r c=>intro h;rw[all_cons,cB]at h;rw[Bs,e h.1,c h.2];rfl
  intro x a;cases x<;>simp only[P.pl]at a<;>simp only[AU,beq_self_eq_true]
  .cases a
  .show d a
  .show d a
  .cases a
  .cases a
  .cases a
def Ss(n)(xs)(h:xs.all (P.pl n)=true):Bs xs xs=true:=by induction xs with|nil=>rfl|cons x r a=>rw[all_cons,cB]at h;rw[Bs,Fq n h.1,a h.2];rfl
def Su:∀(n){x y}{v},x.pl n=true->y.pl n=true->Rp b Z H x v->Rp b Z H y v->x=y:=by
 intro n
 induction n with
 |zero=>intro x y v u l j a;cases x<;>simp[P.pl]at u<;>cases y<;>simp[P.pl]at l<;>(rw[j]at a)<;>first|rfl|(cases a;rfl)|cases a
 |succ n E=>
  let w:∀{xs ys}{vs},xs.all (P.pl n)=true->ys.all (P.pl n)=true->AC b Z H xs vs->AC b Z H ys vs->xs=ys:=by
   intro xs
   induction xs with
   |nil=>intro ys vs _ _ f c;rw[f]at c;cases ys with|nil=>rfl|cons y r=>let[_,_,e,_]:=c;cases e
   |cons x r s=>intro ys vs h1 h2 f c;let[v,t,0,D,C]:=f;cases ys with|nil=>cases(c)|cons y ys=>let[_,_,e,B,A]:=c;cases e;rw[all_cons,cB]at h1 h2;rw[E h1.1 h2.1 D B,s h1.2 h2.2 C A]
  intro x y v u l j a;let q||[m,xs,e,0,px]||[m,xs,e,0,px]:=Dd u j
  .let i||[m,ys,e,0,g]||[m,ys,e,0,g]:=Dd l a
   .cases x<;>simp only[A8]at q<;>cases q<;>cases y<;>simp only[A8]at i<;>cases i<;>rfl
   .let[p,us,0,_]:=a;cases x<;>simp[A8]at q
   .let[p,us,0,_]:=a;cases x<;>simp[A8]at q
  .cases e;done<;>(let[p,vs,0,o,f]:=j;let i||[m,ys,e,0,g]||[m,ys,e,0,g]:=Dd l a)
   .cases y<;>simp[A8]at i
   .cases e;let[p2,us,h,d,c]:=a;cases h;rw[o]at d;cases d;rw[w px g f c]
   .done<;>let[p2,us,h,_,d,c]:=a;cases h;rw[o]at d;cases d
  .cases e;let[p,vs,0,_,o,f]:=j;let i||[m,ys,e,0,g]||[m,ys,e,0,g]:=Dd l a
   .cases y<;>simp[A8]at i
   .let[p2,us,h,d,c]:=a;cases h;rw[o]at d;cases d
   .cases e;let[p2,us,h,_,d,c]:=a;cases h;rw[o]at d;cases d;rw[w px g f c]
theorem Nh:∀{xs ys}{vs},xs.all (P.pl n)=true->ys.all (P.pl n)=true->AC b Z H xs vs->AC b Z H ys vs->xs=ys
 |[],ys,vs,_,_,c,a=>by rw[c]at a;cases ys with|nil=>rfl|cons y r=>let[_,_,e,_]:=a;cases e
 |x::xs,ys,vs,h1,h2,c,a=>by let[v,t,0,h,g]:=c;cases ys with|nil=>cases(a)|cons y ys=>let[_,_,e,f,d]:=a;cases e;rw[all_cons,cB]at h1 h2;rw[Su n h1.1 h2.1 h f,Nh h1.2 h2.2 g d]
def FM(I:Inv X qA Y H s)(e:H p\(.tup vs)):∃qG,AZ vs qG/\s.heap.IsTuple p qG.toArray:=by let[qG,r,t,_]:=I.tuple (.of e);show#[qG,r,t]
def FN(I:Inv X qA Y H s)(e:H p\(.lst vs)):∃qG,AZ vs qG/\s.heap.IsList p qG.toArray:=by let[qG,r,t,_]:=I.list (.of e);show#[qG,r,t.isList]
def Hk(A:Around):A.in1.units=A.units+1:=rfl
def Fs(xs ys:dI)(j:Nat):Bool:=(match xs[j]?,ys[j]? with|some x,some y=>AU x y|_,_=>true)
def Hl:((List.range (min xs.length ys.length)).all (Fs xs ys)&&xs.length==ys.length)=Bs xs ys:=Sq λj x y h1 h2=>by unfold Fs;rw[h1,h2]
def Kk{m}{x}(h:xs.all (P.pl m)=true)(e:xs[i]?\x):x.pl m=true:=all_eq_true.mp h x (aM e)
def Sv(I:Inv X qA Y H s):∀(n){A}{x y}{v u}{v' u'},A.units+n<cLine->x.pl n=true->y.pl n=true->Rp b Z H x v->Rp b Z H y u->AV v v'->AV u u'->EqAt A s v' u' (AU x y):=by
 intro n
 induction n with
 |zero=>
  intro A x y v u v' u' hu N L J q qv w;let E||[m,xs,e,_]||[m,xs,e,_]:=Dd N J
  .let D||[m,ys,e,_]||[m,ys,e,_]:=Dd L q
   .show Sr E D qv w
   .cases e
   .cases e
  .cases e
  .cases e|succ n ih=>
  intro A x y v u v' u' hu N L J q qv w;let c:A.units<cLine:=⋯;let O:A.in1.units+n<cLine:=by lia
  let pc:∀{xs ys}{vs us}{qG a},xs.all (P.pl n)=true->ys.all (P.pl n)=true->AC b Z H xs vs->AC b Z H ys us->AZ vs qG->AZ us a->∀j(h1)(h2:j<a.toArray.size),EqAt A.in1 s qG.toArray[j] a.toArray[j] (Fs xs ys j):=by
   intro xs ys vs us qG a px h r g C B j h1 h2;let l1:=r.length;let l2:=g.length;let l3:=C.length;let M:=B.length;rw[size_toArray]at h1 h2;done<;>(let[v1,G,q1]:=r.get (i:=j) (x:=xs[j]'(by simp only[*])) (by simp[l1,l3,h1]);let[v2,f,q2]:=g.get (i:=j) (x:=ys[j]'⋯) (by simp[l2,M,h2]);let[u1,g1,k1]:=C.get G;let[u2,σ,k2]:=B.get f);let ex:xs[j]?\(xs[j]'⋯):=by simp[l1,l3,h1]
   let ey:ys[j]?\(ys[j]'⋯):=by simp[l2,M,h2]
   let z1:qG.toArray[j]=u1:=by
    let:qG[j]?\qG[j]:=by simp[h1]
    rw[this]at g1;simpa using oI g1
   let z2:a.toArray[j]=u2:=by
    let:a[j]?\a[j]:=by simp[h2]
    rw[this]at σ;simpa using oI σ
   rw[z1,z2];let:Fs xs ys j=AU (xs[j]'⋯) (ys[j]'⋯):=by unfold Fs;rw[ex,ey]
   rw[this];show ih O (Kk px ex) (Kk h ey) q1 q2 k1 k2
  let E||[m,xs,e,0,px]||[m,xs,e,0,px]:=Dd N J
  .done<;>let D||[m,ys,e,0,h]||[m,ys,e,0,h]:=Dd L q
   .show Sr E D qv w
   .done<;>let[p,us,0,f,g]:=q;cases(w);done<;>let[qG,_,o]:=FM I f;let:AU x (.tup ys)=false:=by cases x<;>simp[A8]at E<;>simp only[AU]
    rw[this];show cj o c E qv
   .done<;>let[p,us,0,_,f,g]:=q;cases(w);let[qG,_,o]:=FN I f;let:AU x (.lst ys)=false:=by cases x<;>simp[A8]at E<;>simp only[AU]
    rw[this];show cg o c E qv
  .cases e;done<;>let[p,vs,0,G,r]:=id J;cases(qv);done<;>(let[qG,C,o]:=FM I G;let D||[m,ys,e,0,h]||[m,ys,e,0,h]:=Dd L q)
   .let:AU (.tup xs) y=false:=by cases y<;>simp[A8]at D<;>simp only[AU]
    rw[this];show ci o c D w
   .cases e;done<;>let[p2,us,0,f,g]:=id q;cases(w);done<;>let[a,B,d]:=FM I f;let key:=RcAt.tuples o d c (pc px h r g C B);rw[size_toArray,size_toArray,<-C.length,<-B.length,<-r.length,<-g.length,Hl]at key;rw[show AU (.tup xs) (.tup ys)=Bs xs ys by simp only[AU]];by_cases l:p=p2
    .subst l;rw[G]at f;cases f;let:Bs xs ys=true:=by let Q:=Ss n;rw[Nh px h r g];show Q ys h
     rw[this];show EqAt.same _
    .show EqAt.of_refs l key
   .done<;>let[p2,us,0,_,f,g]:=q;cases(w);done<;>let[a,_,d]:=FN I f;rw[show AU (.tup xs) (.lst ys)=false by simp only[AU]];show EqAt.tuple_list o d c
  .cases e;done<;>let[p,vs,0,_,G,r]:=id J;cases(qv);let[qG,C,o]:=FN I G;let D||[m,ys,e,0,h]||[m,ys,e,0,h]:=Dd L q
   .let:AU (.lst xs) y=false:=by cases y<;>simp[A8]at D<;>simp only[AU]
    rw[this];show cf o c D w
   .let[p2,us,0,f,g]:=q;cases(w);done<;>let[a,_,d]:=FM I f;rw[show AU (.lst xs) (.tup ys)=false by simp only[AU]];show EqAt.list_tuple o d c
   .cases e;done<;>let[p2,us,0,_,f,g]:=id q;cases(w);done<;>let[a,B,d]:=FN I f;rw[show AU (.lst xs) (.lst ys)=Bs xs ys by simp only[AU]];by_cases l:p=p2
    .subst l;rw[G]at f;cases f;let:Bs xs ys=true:=by let Q:=Ss n;rw[Nh px h r g];show Q ys h
     rw[this];show EqAt.same _
    .by_cases ρ:qG.length=a.length
     .let key:=RcAt.lists o d (~~~ρ) c (pc px h r g C B);rw[<-Hl];let l1:=r.length;let l2:=g.length;let l3:=C.length;let M:=B.length;let e5:min xs.length ys.length=qG.toArray.size:=by rw[size_toArray];simp_all
      let T:(xs.length==ys.length)=true:=by rw[beq_iff_eq];simp only[*]
      rw[e5,T,Bool.and_true];show EqAt.of_refs l key
     .let l1:=r.length;let l2:=g.length;let l3:=C.length;let M:=B.length;let T:(xs.length==ys.length)=false:=by rw[beq_eq_false_iff_ne];simp_all
      rw[<-Hl,T,Bool.and_false];show EqAt.of_refs l (RcAt.lists_lengths o d (~~~ρ) c)
def Sw(I:Inv X qA Y H s)(c:A.in1.units+n<cLine){us}{qG a}(px:xs.all (P.pl n)=true)(u:ys.all (P.pl n)=true)(f:AC b Z H xs vs)(r2:AC b Z H ys us)(e:AZ vs qG)(d:AZ us a):∀j(h1)(h2:j<a.toArray.size),EqAt A.in1 s qG.toArray[j] a.toArray[j] (Fs xs ys j):=by
 intro j h1 h2;let l1:=f.length;let l2:=r2.length;let l3:=e.length;let g:=d.length;rw[size_toArray]at h1 h2;done<;>(let[B,w,r]:=f.get (i:=j) (x:=xs[j]'(by simp only[*])) (by simp[l1,l3,h1]);let[y,v,q]:=r2.get (i:=j) (x:=ys[j]'(by simp only[*])) (by simp[l2,g,h2]);let[u1,l,k1]:=e.get w;let[u2,h,k2]:=d.get v);let ex:xs[j]?\(xs[j]'⋯):=by simp[l1,l3,h1]
 let m:ys[j]?\(ys[j]'⋯):=by simp[l2,g,h2]
 let p:qG.toArray[j]=u1:=by
  let:qG[j]?\qG[j]:=by simp[h1]
  rw[this]at l;simpa using oI l
 let o:a.toArray[j]=u2:=by
  let:a[j]?\a[j]:=by simp[h2]
  rw[this]at h;simpa using oI h
 rw[p,o];let:Fs xs ys j=AU (xs[j]'⋯) (ys[j]'⋯):=by unfold Fs;rw[ex,m]
 rw[this];show Sv I n c (Kk px ex) (Kk u m) r q k1 k2
def Sx(I:Inv X qA Y H s){x}{u}(ρ:A.units+n+1<cLine)(O:x.pl n=true)(L:y.pl n=true)(G:Rp b Z H x v)(l:Rp b Z H y u)(qv:AV v v')(h:AV u u'):RcAt A s v' u' (AU x y)/\RcNeAt A s v' u' (!AU x y):=by
 let a:A.units<cLine:=⋯;done<;>let q||[m,xs,e,0,px]||[m,xs,e,0,px]:=Dd O G
 .done<;>let j||[m,ys,e,0,r]||[m,ys,e,0,r]:=Dd L l
  .show{ce q j qv h,cc q j qv h}
  .done<;>let[p,us,0,i,o]:=l;cases(h);done<;>let[qG,_,d]:=FM I i;let:AU x (.tup ys)=false:=by cases x<;>simp[A8]at q<;>simp only[AU]
   rw[this];show{cw d a q qv,cq d a q qv}
  .done<;>let[p,us,0,_,i,o]:=l;cases(h);let[qG,_,d]:=FN I i;let:AU x (.lst ys)=false:=by cases x<;>simp[A8]at q<;>simp only[AU]
   rw[this];show{cu d a q qv,cn d a q qv}
 .subst e;done<;>let[p,vs,0,N,C]:=id G;cases(qv);done<;>(let[qG,B,d]:=FM I N;let j||[J,ys,e,0,r]||[J,ys,e,0,r]:=Dd L l)
  .let:AU (.tup xs) y=false:=by cases y<;>simp[A8]at j<;>simp only[AU]
   rw[this];show{cv d a j h,cp d a j h}
  .cases e;done<;>let[p2,us,0,i,o]:=id l;cases(h);done<;>let[g,w,c]:=FM I i;let D:=Sw I (A:=A) (by rw[Hk];lia) px r C o B w;let key:=RcAt.tuples d c a D;let f:=RcNeAt.tuples d c a D;rw[size_toArray,size_toArray,<-B.length,<-w.length,<-C.length,<-o.length,Hl]at key f;rw[show AU (.tup xs) (.tup ys)=Bs xs ys by simp only[AU]];show#[key,f]
  .done<;>let[p2,us,0,_,i,o]:=l;cases(h);let[g,_,c]:=FN I i;rw[show AU (.tup xs) (.lst ys)=false by simp only[AU]];show{RcAt.tuple_list d c a,RcNeAt.tuple_list d c a}
 .subst e;done<;>let[p,vs,0,_,N,C]:=id G;cases(qv);done<;>(let[qG,B,d]:=FN I N;let j||[J,ys,e,0,r]||[J,ys,e,0,r]:=Dd L l)
  .let:AU (.lst xs) y=false:=by cases y<;>simp[A8]at j<;>simp only[AU]
   rw[this];show{cr d a j h,ck d a j h}
  .let[p2,us,0,i,o]:=l;cases(h);let[g,_,c]:=FM I i;rw[show AU (.lst xs) (.tup ys)=false by simp only[AU]];show{RcAt.list_tuple d c a,RcNeAt.list_tuple d c a}
  .cases e;let[p2,us,0,_,i,o]:=id l;cases(h);let[g,w,c]:=FN I i;rw[show AU (.lst xs) (.lst ys)=Bs xs ys by simp only[AU]];let l1:=C.length;let l2:=o.length;let l3:=B.length;let T:=w.length;by_cases E:qG.length=g.length
   .let D:=Sw I (A:=A) (by rw[Hk];lia) px r C o B w;let key:=RcAt.lists d c (~~~E) a D;let f:=RcNeAt.lists d c (~~~E) a D;rw[<-Hl];let Q:min xs.length ys.length=qG.toArray.size:=by rw[size_toArray];simp_all
    let M:(xs.length==ys.length)=true:=by rw[beq_iff_eq];simp only[*]
    rw[Q,M,Bool.and_true];show#[key,f]
   .let M:(xs.length==ys.length)=false:=by rw[beq_eq_false_iff_ne];simp_all
    rw[<-Hl,M,Bool.and_false];show{RcAt.lists_lengths d c (~~~E) a,RcNeAt.lists_lengths d c (~~~E) a}
def Sy:R2:=(λv u H Q=>∃(b:Addr)(Z:Addr->Prop)(x y:P),x.pl 9=true/\y.pl 9=true/\Rp b Z H x v/\Rp b Z H y u/\Q (.bl (AU x y)) H)
def Ni:R2:=(λv u H Q=>∃(b:Addr)(Z:Addr->Prop)(x y:P),x.pl 9=true/\y.pl 9=true/\Rp b Z H x v/\Rp b Z H y u/\Q (.bl (!AU x y)) H)
def Bo(f:Room k X.A):A1 X (compareOp .Eq) Sy:=by rintro qA s Y H x y v u Q I c a⟨b,Z,px,g,h1,h2,e,d,q⟩;show(Sx I (by let:=f.units;lia) h1 h2 e d c a).1 _ _ _ _ {.bl _,H,I,0,q}
def Cm(f:Room k X.A):A1 X (compareOp .NotEq) Ni:=by rintro qA s Y H x y v u Q I c a⟨b,Z,px,g,h1,h2,e,d,q⟩;show(Sx I (by let:=f.units;lia) h1 h2 e d c a).2 _ _ _ _ {.bl _,H,I,0,q}
def Sz:p2:=(λx _ y _ K=>(x.pl 9=true/\y.pl 9=true)/\K (.bl (AU x y)) .fr)
def S0:p2:=(λx _ y _ K=>(x.pl 9=true/\y.pl 9=true)/\K (.bl (!AU x y)) .fr)
def Bp:BL Sy Sz:=λW U Y Hs H Q K x y f h v u ok st d c a q=>{W.b,_,x,y,a.1.1,a.1.2,d.any ok,c.any ok,q _ _ _ H a.2 (Step.refl ok.bag) FH}
def Cg:BL Ni S0:=λW U Y Hs H Q K x y f h v u ok st d c a q=>{W.b,_,x,y,a.1.1,a.1.2,d.any ok,c.any ok,q _ _ _ H a.2 (Step.refl ok.bag) FH}
@[simp]theorem S1(n)(i):(P.int i).pl n=true:=by cases n<;>rfl
@[simp]theorem S2(n)(i):(P.str i).pl n=true:=by cases n<;>rfl
@[simp]theorem AAu(n)(i):(P.bl i).pl n=true:=by cases n<;>rfl
@[simp]theorem AAv(n):P.non.pl n=true:=by cases n<;>rfl
@[simp]theorem AAw(n)(xs:dI):(P.tup xs).pl (n+1)=xs.all (P.pl n):=rfl
@[simp]theorem AAx(n)(xs:dI):(P.lst xs).pl (n+1)=xs.all (P.pl n):=rfl
def Nj{α:Type}{f}(h:∀a,(f a).pl n=true)(xs:List α):(xs.map f).all (P.pl n)=true:=by simp_all
@[simp]theorem AAy(n)(xs:By):(xs.map P.int).all (P.pl n)=true:=Nj (λa=>S1 n a) xs
@[simp]theorem AAz(n)(xs:At):(xs.map P.str).all (P.pl n)=true:=Nj (λa=>S2 n a) xs
mutual
noncomputable def P.nb:P->Bool|.non=>true|.int _=>true|.str _=>true|.tup xs=>P.nbs xs|.lst xs=>P.nbs xs|_=>false
noncomputable def P.nbs:dI->Bool|[]=>true|x::r=>x.nb&&P.nbs r
end
mutual
theorem Kl:∀{x y:P},x.nb=true->y.nb=true->(AU x y=true↔x=y)
 |.non,y,_,c=>by cases y<;>simp_all[AU,P.nb]|.bl _,y,a,_=>by simp[P.nb]at a|.int _,y,_,c=>by cases y<;>simp_all[AU,P.nb]|.str _,y,_,c=>by cases y<;>simp_all[AU,P.nb]|.bag,y,a,_=>by simp[P.nb]at a|.tup xs,y,a,c=>by cases y with|tup ys=>rw[P.nb]at a c;rw[show AU (.tup xs) (.tup ys)=Bs xs ys by simp only[AU],Nk a c];simp|_=>simp[AU]
 |.lst xs,y,a,c=>by cases y with|lst ys=>rw[P.nb]at a c;rw[show AU (.lst xs) (.lst ys)=Bs xs ys by simp only[AU],Nk a c];simp|_=>simp[AU]
 |.dT _ _,y,a,_=>by simp[P.nb]at a|.fT _ _,y,a,_=>by simp[P.nb]at a|.dK _ _,y,a,_=>by simp[P.nb]at a
theorem Nk:∀{xs ys:dI},P.nbs xs=true->P.nbs ys=true->(Bs xs ys=true↔xs=ys)|[],[],_,_=>by simp[Bs]|[],_::_,_,_=>by simp[Bs]|_::_,[],_,_=>by simp[Bs]|x::xs,y::ys,c,a=>by rw[P.nbs,cB]at c a;rw[Bs,cB,Kl c.1 a.1,Nk c.2 a.2];simp
end
theorem Km{α:Type}{f}(h:∀a,(f a).nb=true):∀xs:List α,P.nbs (xs.map f)=true|[]=>rfl|x::r=>by rw[map_cons,P.nbs,h x,Km h r];rfl
inductive Nl(neg:Bool)(v:V)(u:V)(H:Hp)(Q:VK):Prop|mk(b p:Addr)(Z:Addr->Prop)(x:P)(ys:dI)(us:dH)(_:u=.ref p)(_:(H p\(.lst us)\/H p\(.tup us)))(_:x.pl 8=true)(_:ys.all (P.pl 8)=true)(_:Rp b Z H x v)(_:AC b Z H ys us)(_:Q (.bl (if neg=true then !(ys.any λy=>AU y x)else ys.any λy=>AU y x)) H)
section
variable{k:Nat}
open Classical in
def S3(O:Room k X.A){b:Addr}{x:P}{us:dH}{qG:C2}(I:Inv X qA Y H s)(L:AV v v')(w:AZ us qG)(h1:x.pl 8=true)(h2:ys.all (P.pl 8)=true)(M:Rp b Z H x v)(r2:AC b Z H ys us):∃e:Value->Bool,(∀y,y∈qG.toArray->EqAt X.A.in1 s y v' (e y))/\qG.toArray.any e=ys.any λy=>AU y x:=by
 let G:∀j y,qG[j]?\y->∃z u,ys[j]?\z/\z∈ys/\Rp b Z H z u/\AV u y:=λj y c=>by
  let l1:=r2.length;let l2:=w.length;let p:j<qG.length:=by
   let q||q:=cE j qG.length
   .show q
   .rw[bQ q]at c;cases c
  let r:ys[j]?\(ys[j]'(by simp only[*])):=by simp[l1,l2,p]
  let[u,E,D]:=r2.get r;let[Q,d,C]:=w.get E;rw[c]at d;cases d;show{_,u,r,aM r,D,C}
 show{λy=>decide (∃z u,z∈ys/\Rp b Z H z u/\AV u y/\AU z x=true),λy o=>?_,?_}
 .let o:y∈qG:=by simpa using o
  let[j,c,e]:=getElem_of_mem o;let[z,u,T,n,g,l]:=G j y (by rw[<-e];simp[c]);let B:=Sv I 8 (A:=X.A.in1) (by rw[Hk];let:=O.units;lia) (all_eq_true.mp h2 z n) h1 g M l L;let:decide (∃z u,z∈ys/\Rp b Z H z u/\AV u y/\AU z x=true)=AU z x:=by
   rw[Bool.eq_iff_iff,aW];constructor
   .rintro⟨J,u',N,f,h,a⟩;cases l.inj h;rw[Su 8 (all_eq_true.mp h2 z n) (all_eq_true.mp h2 J N) g f];show a
   .showλa=>#[z,u,n,g,l,a]
  change EqAt X.A.in1 s y v' (decide _);rw[this];show B
 .rw[Bool.eq_iff_iff,any_toArray,any_eq_true,any_eq_true];constructor
  .rintro⟨y,_,a⟩;let[z,u,m,_,_,a]:=aL a;show#[z,m,a]
  .rintro⟨z,m,a⟩;let[j,c,e]:=getElem_of_mem m;let[u,E,D]:=r2.get (i:=j) (x:=z) (by rw[<-e];simp[c]);let[y,d,C]:=w.get E;show#[y,aM d,aK #[z,u,m,D,C,a]]
def Ko(j:Room k X.A):A1 X (compareOp .In) (Nl false):=by
 rintro qA s Y H x y v u Q I f l⟨b,p,Z,px,ys,us,rfl,hp,h1,h2,i,g,q⟩;cases l;let hp||hp:=hp
 .let[qG,w,a]:=FN I hp;let[e,c,d]:=S3 j I f w h1 h2 i g;show in_listAt e a c (by rw[d];show{.bl _,H,I,0,q})
 .let[qG,w,a]:=FM I hp;let[e,c,d]:=S3 j I f w h1 h2 i g;show in_tupleAt e a c (by rw[d];show{.bl _,H,I,0,q})
end
def Nm(neg:Bool):p2:=(λx _ y _ K=>∃ys,y.items\ys/\(x.pl 8=true/\ys.all (P.pl 8)=true)/\K (.bl (if neg=true then !(ys.any λy=>AU y x)else ys.any λy=>AU y x)) .fr)
abbrev cx:p2:=Nm false
def cy(a):BL (Nl a) (Nm a):=λW U Y Hs H Q K x y f h v u ok st d c j q=>by let[ys,e,[h1,h2],l]:=j;let g:=RF.items (f:=.an) (Hs:=Hs) (c.any ok) e;let[p,vs,0,m,i]:=g;show{W.b,p,_,x,ys,vs,0,m,h1,h2,d.any ok,i,q _ _ _ H l (Step.refl ok.bag) FH}
def Kp:BL (Nl false) cx:=cy false
def Nn(z)(xs:At):((xs.map P.str).any λy=>AU y (.str z))=decide (z∈xs):=by induction xs with|nil=>rfl|cons x r a=>rw[map_cons,any_cons,a,show AU _ _=(x==z)by rfl];grind
end L2
namespace L2
set_option tactic.hygienic true
def cut{α:Type}(xs:List α)(lo hi:Option Int):List α:=((xs.drop (HT.dA xs.length 0 lo)).take (HT.dA xs.length xs.length hi-HT.dA xs.length 0 lo))
abbrev pO:=dJ->(Option Int->Prop)->Prop
def cz(t:TO)(p:pO):Prop:=(∀(W:Wd)(U:dJ)(Y:St)(H:Hp)(Q:Option Int->Hp->Prop)(K:Option Int->Prop),Ok W U Y H->p U K->(∀o H',K o->Step W.b W.a H H'->Q o H')->t Y H Q)
def QO(Xs:ι->Cx)(e:Option Expr)(p:pO):Prop:=(∃t,(∀i,PO (Xs i) e t)/\cz t p)
def S4:pO:=(λ_ K=>K none)
def S5(p:pE):pO:=(λU K=>p U λx _=>match x with|.int i=>K (some i)|_=>False)
def S6(pe:pE)(pl ph:pO):pE:=(λU K=>pe U λx f=>pl U λlo=>ph U λhi=>match x with|.lst xs=>K (.lst (cut xs lo hi)) (Bc f (cut xs lo hi))|.tup xs=>K (.tup (cut xs lo hi)) f.el|.str z=>z.length<=16777216/\K (.str (Txt.slice z lo hi)) .fr|_=>False)
section
variable{e:Expr}{lo hi:Option Expr}{pl ph:pO}{p2:Pos}
def Kq:QO Xs none S4:={_,λ_=>Ek,λW U Y H Q K ok h q=>q none H h (Step.refl ok.bag)}
def Kr(h:QE Xs e pe):QO Xs (some e) (S5 pe):=by
 let[t,h1,h2]:=h;show{_,λi=>El (h1 i),λW U Y H Q K ok d q=>h2 W U Y H _ _ ok d λx f v H1 k1 a c=>?_};split at k1
 .show{_,Da (ok.step a) c,q _ H1 k1 a}
 simp_all
def S7(K:Fg):V->Option Int->Option Int->Hp->VK->Prop:=(λx lo hi H Q=>(RG K x lo hi H Q\/M3 x lo hi H Q)\/Ri x lo hi H Q)
def bD:D0 X (S7 X.K):=D0.or (D0.or J0 HM) Rk
def AC.cut{lo hi}(h:AC b Z H xs vs):AC b Z H (L2.cut xs lo hi) (D1 vs lo hi):=by unfold L2.cut D1;rw[h.length];show(h.drop _).take _
def Ks(A:∀i,(Xs i).K=Kf)(y:QE Xs e pe)(g:QO Xs lo pl)(w:QO Xs hi ph):QE Xs (.Subscript e (.Slice lo hi none p2) pos) (S6 pe pl ph):=by
 let[te,C,B]:=y;let[tl,l1,l2]:=g;let[th,h1,h2]:=w;show{Mb (S7 Kf) te tl th,λi=>Em (by rw[<-A i];show bD) (C i) (l1 i) (h1 i),λW U Y H Q K ok u q=>B W U Y H _ _ ok u λx f v H1 k1 h s=>l2 W U Y H1 _ _ (ok.step h) k1 λo H2 k2 j=>h2 W U Y H2 _ _ ((ok.step h).step j) k2 λo' D k3 r=>?_};let a:=(h.trans j).trans r;let d:=ok.step a;let m:=s.step (ok.step h) (j.trans r);split at k3
 .let[p,us,0,c,rv]:=Dc d m;show .inl (.inl {p,us,0,.of c,λl g=>q _ _ _ _ k3 (a.trans (Step.new a.bag g)) (RF.newL d a rv.cut g)})
 .let[p,us,0,c,rv]:=EQ d m;show .inl (.inr {p,us,0,c,λn=>q _ _ _ _ k3 a ?_,λn l g=>q _ _ _ _ k3 (a.trans (Step.new a.bag g)) ?_})
  .rename_i xs0;let e:L2.cut xs0 o o'=xs0:=by unfold L2.cut;rw[rv.length,n.1,n.2,drop_zero,Nat.sub_zero,<-rv.length,take_length]
   rw[e];show RF.ofEl #[p,us,0,c,rv]
  .show RF.ofEl {l,_,0,AJ,(rv.cut).step (Step.new a.bag g) a.bag}
 .cases Er d m;show .inr {_,0,k3.1,q _ _ _ _ k3.2 a SI}
 .show k3.elim
end
section
variable{x x':P}{k:Nat}
def Hm(ok:Ok W U Y H)(h:BD U Y p)(g:f=.cl\/f=.fr):(∀q u,¬AL W U Y f q->H q\u->¬AL W U Y f q/\AA H p o q\u)/\∀q us,H q\(.tup us)->AA H p o q\(.tup us):=by
 let[_,_,_,_,o',a,d]:=ok.ow (.inr h);show{λq u c e=>#[c,?_],λq us e=>?_}
 .rw[AE (λz=>c (by subst z;let 0||0:=g<;>simp[AL,Ow,h]))];show e
 .rw[AE (λz=>by subst z;rw[e]at a;cases a;show d us rfl)];show e
def Ok.mut(ok:Ok W U Y H)(A:U[k]?\(.own x))(hs:Y[k]?\(some (.ref p)))(no:∀ys,o≠.tup ys)(E:Rc W.b (Zf W U Y) (AA H p o) x' p):Ok W (U.set k (.own x')) Y (AA H p o):=by
 let d:BD U Y p:=#[k,x,A,hs];done<;>let[N,M,L,ga,o',q1,q2]:=ok.ow (.inr d);let J:k<U.length:=by
  let q||q:=cE k U.length
  .show q
  .rw[bQ q]at A;cases A
 let get:∀(i)(y),(U.set k (S.own x'))[i]?\(S.own y)->∃z,U[i]?\(S.own z):=λi y e=>by
  by_cases hi:k=i
  .subst hi;show#[x,A]
  .rw[bV hi]at e;show#[y,e]
 let D:∀q,BD (U.set k (.own x')) Y q↔BD U Y q:=λq=>by
  constructor
  .rintro⟨i,y,h1,h2⟩;let[z,e]:=get i y h1;show#[i,z,e,h2]
  .rintro⟨i,y,h1,h2⟩;by_cases hi:k=i
   .subst hi;show{k,x',bY J,h2}
   .show{i,y,by rw[bV hi];show h1,h2}
 let O:∀f q,AL W (U.set k (.own x')) Y f q↔AL W U Y f q:=λf q=>by let:Ow W (U.set k (.own x')) Y q↔Ow W U Y q:=or_congr Iff.rfl (D q);cases f<;>simp only[AL,this]
 let C:=λf=>funext λq=>propext (O f q);show{ok.bag.put L ga,ok.fb,λq u G e=>?_,λq u e=>?_,λq G=>?_,by rw[length_set];show ok.len,λi s e=>?_,λi j y z h1 h2 I=>?_}
 .rw[AE (λz=>by subst z;rw[N]at e;cases e)];show ok.old q u G e
 .rw[AE (λz=>by subst z;rw[M]at e;cases e)];show ok.frm q u e
 .done<;>let[h1,h2,I,h4,u,σ,ρ]:=ok.oo q G;show#[h1,h2,I,h4,?_];by_cases w:q=p
  .subst w;show#[o,AJ,no]
  .show{u,by rw[AE w];show σ,ρ}
 .by_cases hi:k=i
  .subst hi;rw[bY J]at e;cases e;show{_,hs,p,0,N,M,L,ga,by rw[show Zf W (U.set k (.own x')) Y=Zf W U Y from C .fr];show E}
  .rw[bV hi]at e;let[u,h1,h2]:=ok.slot i s e;show#[u,h1,?_];cases s with|emp=>trivial|sh y=>let[v,g,m]:=h2;let a:=Hm (o:=o) ok d (.inl rfl);show{v,g,by rw[show Zc W (U.set k (.own x')) Y=Zc W U Y from C .cl];show m.keep a.1 a.2}|fr y=>let[v,g,m]:=h2;let a:=Hm (o:=o) ok d (.inr rfl);show{v,g,by rw[show Zf W (U.set k (.own x')) Y=Zf W U Y from C .fr];show m.keep a.1 a.2}|own y=>
    let[r,g,m,e3,e4,e5,B]:=h2;let a:=Hm (o:=o) ok d (.inr rfl);let c:r≠p:=λz=>by subst z;show hi (ok.uniq k i x y A e (by rw[hs,h1,g]))
    show#[r,g,m,e3,e4,e5,?_];rw[show Zf W (U.set k (.own x')) Y=Zf W U Y from C .fr];cases y with|lst xs=>let[vs,l,h]:=B;show{vs,by rw[AE c];show l,h.keep a.1 a.2}|dT ks xs=>let[vs,l,n,h]:=B;show{vs,by rw[AE c];show l,n,h.keep a.1 a.2}|fT ks xs=>let[vs,l,n,h]:=B;show{vs,l.map λ_ e=>by rw[AE c];show e,n,h.keep a.1 a.2}|dK ks xs=>let[vs,l,n,h]:=B;show{vs,by rw[AE c];show l,n,h.keep a.1 a.2}|_=>show B.elim
 .let[T,g]:=get i y h1;let[Q,m]:=get j z h2;show ok.uniq i j T Q g m I
def Ok.ownL(ok:Ok W U Y H)(a:U[k]?\(.own (.lst xs))):∃p vs,Y[k]?\(some (.ref p))/\H p\(.lst vs)/\AC W.b (Zf W U Y) H xs vs/\BD U Y p:=by let[o,h1,p,h2,_,_,_,_,vs,d,c]:=ok.slot k _ a;subst h2;show#[p,vs,h1,d,c,k,_,a,h1]
def Ok.mutL{vs us:dH}(ok:Ok W U Y H)(c:U[k]?\(.own (.lst xs)))(hs:Y[k]?\(some (.ref p)))(d:AC W.b (Zf W U Y) H ys us):Ok W (U.set k (.own (.lst ys))) Y (AA H p (.lst us)):=by let a:=Hm (o:=HO.lst us) ok #[k,_,c,hs] (.inr rfl);show ok.mut c hs '6' {us,AJ,d.keep a.1 a.2}
end
def JD(k:Nat)(pe:pE):pS:=(λE U=>match U[k]? with|some (.own (.lst xs))=>pe U λy f=>BU y f=.nw/\xs.length<16777216/\E.nx (U.set k (.own (.lst (xs++[y]))))|_=>False)
def Kt(k:Nat)(pi pe:pE):pS:=(λE U=>match U[k]? with|some (.own (.lst xs))=>pe U λy f=>pi U λi _=>∃n j,i=.int n/\Cr xs.length n\j/\BU y f=.nw/\E.nx (U.set k (.own (.lst (xs.set j y))))|_=>False)
def frzS(k:Nat)(U:dJ):dJ:=(match U[k]? with|some (.own x)=>U.set k (.fr x)|_=>U)
def S8(k:Nat)(p:pS):pS:=(λE U=>p E (frzS k U))
def Ku(ok:Ok W U Y H)(r:RF W U Y Hs f H y v)(h:BU y f=.nw):Rp W.b (Zf W U Y) H y v:=by let:=(NH ok r).2.2;rw[h]at this;show this
section
variable{a b:Expr}{p1:Pos}{k:Nat}{t u:TE}
def Ok.stepL(ok:Ok W U Y H)(st:Step W.b W.a H H')(hs:Y[k]?\(some (.ref p)))(d:H p\(.lst vs))(c:AC W.b (Zf W U Y) H xs vs)(ho:BD U Y p):H' p\(.lst vs)/\AC W.b (Zf W U Y) H' xs vs:={st.same p _ (ok.ow (.inr ho)).2.2.1 d,c.step st ok.bag}
def bE(h2:CI t pa):HY (MN (RK Kf "list" rAppend (tVar k) (BI t B5))) (JD k pa):=λW U Y H D E ok c r=>by
 unfold JD at c;split at c
 .rename_i xs e;let[p,vs,d,l,j,n]:=ok.ownL e;show{.ref p,d,.inl {0,vs,.of l},h2 W U Y H _ _ ok c λy f v H1 zz i m=>?_};let[k1,k2,k3]:=zz;let a:=ok.step i;let[h,g]:=ok.stepL i d l j n;show{p,vs,v,0,0,h,by rw[<-j.length];show k2,r.nx _ _ _ k3 (a.mutL (vs:=vs) e d (g.snoc (Ku a m k1)))}
 simp_all
def S9(m:∀i,(Xs i).K=Kf)(j:QE Xs a pa)(l:∀i,(Xs i).N[k]?\x:=by rfl)(e:∀i,Ed (Xs i).env.scope x:=by intro _;trivial)(h:No x:=by decide)(d:N_ x:=by decide)(g:(qK.endLine==qJ.line)=true:=by rfl)(f:∀i,swapsWith (.Call (.Attribute (.Name x p1) "append" qK) [a] [] qJ) none pos.line (Xs i).env=pure false:=by rfl)(hb:∀i,attributeBase (.Name x p1) "append" (Xs i).env (eval (.Name x p1) (Xs i).env)=eval (.Name x p1) (Xs i).env:=by rfl)(c:∀i,starEach [a] (Xs i).env=[(false,eval a (Xs i).env)]:=by rfl):QS Xs (.Expr (.Call (.Attribute (.Name x p1) "append" qK) [a] [] qJ) pos) (JD k pa):=by let[t,h1,h2]:=j;show{_,λi=>?_,bE (Kf:=Kf) h2};rw[<-m i];show Dn (GK PySem.F.plainAttrs_list PySem.F.slot_list_append PySem.F.type_list_append HI (Ef (l i) (e i) h d) (AG (h1 i) AS (c i)) (hb i) (by rw[c i];rfl) g (c i) rfl) (f i)
def bF(h1:CI t pa)(h2:CI u pb):HY (Eh u (Qa (tVar k) t RE)) (Kt k pa pb):=λW U Y H D E ok d r=>by
 unfold Kt at d;split at d
 .rename_i xs e;let[p,vs,h,x,o,w]:=ok.ownL e;show h2 W U Y H _ _ ok d λy f v H1 ky g q=>{.ref p,h,h1 W U Y H1 _ _ (ok.step g) ky λB C A H2 zz m s=>?_};let[n,j,k0,k1,k2,k3]:=zz;let c:=g.trans m;let a:=ok.step c;let[l,i]:=ok.stepL c h x o w;subst k0;cases Da a s;show{p,vs,n,j,0,0,l,by rw[<-o.length];show k1,r.nx _ _ _ k3 (a.mutL (vs:=vs) e h (i.set (Ku a (q.step (ok.step g) m) k2) j))}
 simp_all
def Np{c}(n:QE Xs a pa)(g:QE Xs b pb)(o:∀i,(Xs i).N[k]?\x:=by rfl)(h:∀i,Ed (Xs i).env.scope x:=by intro _;trivial)(m:No x:=by decide)(f:N_ x:=by decide)(l:∀i,∀v,assign (.Subscript (.Name x p1) a c) (Xs i).env v=(do
   let d<-holding [v] (eval (.Name x p1) (Xs i).env)let e<-holding [v,d] (eval a (Xs i).env)standAt c
   holding [v,d,e] (setItem d e v)release [v,d,e] []):=by intro _ _;rfl)(j:∀i,swapsWithSole [.Subscript (.Name x p1) a c] b pos.line (Xs i).env=pure false:=by rfl)(hw:∀i,swappedStores [.Subscript (.Name x p1) a c] b (Xs i).env=pure none:=by rfl)(h1:∀i,(assignEach [.Subscript (.Name x p1) a c] (Xs i).env).map (·.2)=[assign (.Subscript (.Name x p1) a c) (Xs i).env]:=by rfl):QS Xs (.Assign [.Subscript (.Name x p1) a c] b pos) (Kt k pa pb):=by let[t,s,r]:=n;let[u,q,p]:=g;show{_,λi=>Cq (q i) (IN (Ef (o i) (h i) m f) (s i) HH (l i)) (j i) (hw i) (h1 i),bF r p}
def Ok.frzS(C:∀p,¬W.O p)(ok:Ok W U Y H):Ok W (frzS k U) Y H:=by
 unfold L2.frzS;split
 .rename_i x e;done<;>let[o,h1,p,h2,E,G,D,ga,g]:=ok.slot k _ e;subst h2;let r:k<U.length:=by
   let q||q:=cE k U.length
   .show q
   .rw[bQ q]at e;cases e
  let w:k<Y.length:=by rw[ok.len];show r
  let h:Y.set k (some (.ref p))=Y:=by
   apply ext_getElem?;intro i;by_cases hi:k=i
   .subst hi;rw[bY w,h1]
   .rw[bV hi]
  let u:=Ij (U:=U) (Y:=Y) (k:=k) (v:=.ref p) (s:=.fr x) '6';let key:=ok.put (Step.refl ok.bag) r (λq z=>.inl (u q z)) ?_ (λy z=>nomatch z)
  .rw[h]at key;show key
  .show{.ref p,0,?_};rw[h]at u⊢;let l:∀q o,¬Zf W U Y q->H q\o->¬Zf W (U.set k (.fr x)) Y q/\H q\o:=D8 (Step.refl ok.bag) (λq z=>.inl (u q z));let np:¬Zf W (U.set k (.fr x)) Y p:=by
    intro z;rcases z with z|(z|z)|z
    .show D z
    .--n m:A same cell
     show C p z
    .let[i,y,j,B]:=z;by_cases hi:k=i
     .subst hi;rw[bY r]at j;cases j
     .rw[bV hi]at j;show hi (ok.uniq k i x y e j (by rw[h1,B]))
    .show z E
   cases x with|lst xs=>let[vs,c,a]:=g;show{p,vs,0,np,c,a.keep l λq us e=>e}|dT ks xs=>let[vs,c,d,a]:=g;show{p,vs,0,np,c,d,a.keep l λq us e=>e}|fT ks xs=>let[vs,c,d,a]:=g;show{p,vs,0,np,c,d,a.keep l λq us e=>e}|dK ks xs=>let[vs,c,d,a]:=g;show{p,vs,0,np,c,d,a.keep l λq us e=>e}|_=>show g.elim
 .show ok
def Kv{st}{p}(k)(h:QS Xs st p):QS Xs st (S8 k p):=by let[t,h1,h2]:=h;show{t,h1,λW U Y H D E ok a r=>h2 W _ Y H D E (ok.frzS r.noO) a r}
end
open PySem.W
def Inv.laidF{m:Str->Do}(I:Inv X qA Y H s)(h:s.heap.Ns X.env.locals m)(a:h'.Ns X.env.locals m)(k:∀b u,b≠X.env.locals->'F' b\u->h'.get? b\u)(d:H D=none)(g:∀u,'F' D≠some u)(new:Bg X.prog X.w (AA H D o) h' D o):Inv X qA Y (AA H D o) {s with heap:=h',toks:=t'}:=by
 show I.step (ch:=[]) (λb hb=>nomatch hb) (λb u f _ _ e _=>k b u f e) (λb u f _ _ e _=>{u.slots,k b u f e}) (λb u _ e n=>?_) (λb u _ e=>?_) (λb xs e=>?_) (λb u v e=>?_) (λb ps e=>{#[],?_}) (λl h2=>?_) ?_ I.bare
 .rw[AE (λz=>by subst z;show g u e)];show n
 .by_cases hb:b=X.env.locals
  .subst hb;let[o',_,_,j,_]:=a;show#[o',j]
  .show{u,k b u hb e}
 .rw[AE (Ak e d)];show e
 .rw[AE (Ak e d)];show e
 .rw[AE (Ak e d)];simpa using e
 .rw[h2.eq_nsMap,<-h.eq_nsMap];show a
 .intro b u e;by_cases hb:b=D
  .subst hb;rw[AJ]at e;cases e;show new
  .rw[AE hb]at e;let nl:∀c v,H c\v->c≠X.env.locals:=λc v q z=>by subst z;rw[I.free]at q;cases q
   show(I.hok b u e).stay (λc v i q=>k c v ?_ q) (λc q=>?_) λc xs q=>?_
   .let z||z:=i
    .rw[z];show nl b u e
    .show nl c _ z
   .rw[AE (Ak q d)];show q
   .rw[AE (Ak q d)];show q
def TB(f:'F' a\(seqObj "list" us.toArray n))(h2:us.length<2)(h:F (.done (.ret .none)) {s with heap:=sortedHeap s.heap a us us.toArray}):'C' (Builtin.«list.sort» {[.ref a],[]}) F E s:=by
 let i:=bN f;rw[list_sort_plain];show wB (listItems_at f rfl (wB (listUpdate_at f rfl ?_)));let d:=get?_update_seq f (λ_=>#[]);show wB (seqEpoch_at d rfl (wB (wpAny_newTuple (wB (wpAny_newList (bM ?_))))));let c:(((s.heap.update a (Obj.mapSeq λ_=>#[])).push (seqObj "tuple" us.toArray 0)).push (seqObj "list" #[] 0)).get? a=_:=(Heap.get?_push_ne _ a _ (by rw[size_push',Heap.size_update];show bX (Nat.lt_succ_of_lt i))).trans ((Heap.get?_push_ne _ a _ (by rw[Heap.size_update];show bX i)).trans d)
 let g:us.toArray.size<2:=by show h2
 dsimp only;rw[aC g,aC g];show wB (wP ?_);show wB (wP (wB (seqEpoch_at c rfl (wB (listUpdate_at c rfl ?_ (hsz2:=?_))))))
 .simp only[bne_self_eq_false,Bool.false_eq_true,if_false];let e:(arrOf (SortSt.mk' general' (us.toArray.zip us.toArray) #[] 7 none)).map (·.2)=us.toArray:=by apply Array.ext';simp[map_snd_zip]
  rw[<-e]at h;show wP h
 .rw[Array.size_map];rw[Array.size_zip,sizeLine_eq];lia
def bJ(d:s.heap.IsList l us.toArray)(h2:us.length<2)(q:Q (.ref ('H'+1)) {s with heap:=sortedAll s.heap us us.toArray}):'C' (call (.builtin "sorted") [.ref l]) Q E s:=by
 show Calls.call_function_entry kind_sorted plain_sorted entry_sorted (args_sorted1 _) ?_;show wB (wP (wB (collect_list d (wB (wpAny_newList ?_ (by rw[sizeLine_eq];lia))) (by rw[sizeLine_eq];lia))));let c:((s.heap.push (seqObj "list" #[] 0)).update 'H' (Obj.mapSeq (·++us.toArray))).objs.size='H'+1:=by simp
 let a:=bP ((s.heap.push (seqObj "list" #[] 0)).update 'H' (Obj.mapSeq (·++us.toArray))) (o:=seqObj "list" us.toArray 0) rfl;rw[c]at a;rw[c];show wB (bM (cQ slot_list_sort #[_,a,0] entry_list_sort (TB a h2 #[_,0,wP #[_,0,q]]) (args_list_sort _)))
abbrev DN(ps:List (Addr×By)):dH:=ps.map λq=>V.ref q.1
def Dr(rs:List By):Prop:=(rs.Pairwise λa b=>HT.lexLt b a=false)
def TD:dH->Hp->VK->Prop:=(λxs H Q=>∃(p:Addr)(ps:List (Addr×By)),xs=[.ref p]/\H p\(.lst (DN ps))/\(∀q∈ps,H q.1\(.tup (q.2.map V.int)))/\ps.length<64/\(ps.length<2\/∃n,0<n/\∀q∈ps,q.2.length=n)/\∀(l:Addr)(ps':List (Addr×By)),H l=none->ps'.Perm ps->Dr (ps'.map (·.2))->Q (.ref l) (AA H l (.lst (DN ps'))))
theorem TJ:∀{ps}{us},AZ (DN ps) us->us=ps.map λq=>Value.ref q.1|[],_,.nil=>rfl|q::r,_,.cons e t=>by rw[TJ t,e];rfl
theorem JE:∀(ps),AZ (DN ps) (ps.map λq=>Value.ref q.1)|[]=>.nil|q::r=>.cons rfl (JE r)
def TK(M)(h)(i)(t):Looks M h (typeOf (.int i t)) (.type "int"):=λA Q E s _ q=>wP q
def Bg.there(x:Bg P' w H h a o):∃u,h.get? a\u:=by cases o with|lst xs=>let[_,_,_,_,e]:=x;show#[_,e]|tup xs=>let[_,_,_,u,e,_]:=x;show#[u,e]|dK qH=>let[_,_,_,_,u,_,_,e,_]:=x;show#[u,e]|dT qH=>let[_,_,_,_,u,_,_,e,_]:=x;show#[u,e]|set S n=>let[u,_,_,_,e,_]:=x;show#[u,e]|ins C dx fs=>let[_,_,_,e,_]:=x;show#[_,e]|own y=>show x|xd fs=>let[_,[u,_,_,e,_],_]:=x;show#[u,e]|met f y=>show#[_,x]|rng lo hi=>let[_,_,_,e]:=x;show#[_,e]|frz u v=>show#[_,x.1]|tbl ps=>show#[_,x]|ext φ=>show x.2.1
theorem Nq:∀{ps:List (Addr×By)},(∀q∈ps,∃us,IntsAre us q.2/\∃o n,h.get? q.1\o/\o.cls=.type "tuple"/\o.data=.seq us.toArray n)->(∀q∈ps,0<q.2.length)->∃fs,KatTups h (ps.map λq=>Value.ref q.1) fs/\fs.length=ps.length/\∀v∈fs,∃i t,v=Value.int i t
 |[],_,_=>{[],.nil,0,λv g=>nomatch g}|q::r,h1,h2=>by
  let[fs,a,b,c]:=Nq (λq f=>h1 q (bT _ f)) λq f=>h2 q (bT _ f);let[us,d,o,n,p,m,e]:=h1 q cA;let l:=h2 q cA;generalize q.2=s at d l;let j:=d.length
  match us,d,e with
  |v::us,d,e=>
   obtain⟨i,t,ev⟩:∃i t,v=Value.int i t:=by cases d with|cons i t _=>show#[i,t,0]
   show{v::fs,.cons p m e '2' a,by simp[b],λx hx=>?_};let 0||hx:=aF.mp hx
   .show#[i,t,ev]
   .show c x hx|[],d,e=>simp at j;simp_all
def bK(hc:X.calm=true):B3 X (.builtin "sorted") TD:=by
 rintro qA s Y H xs us Q I r iq;done<;>(let[p,ps,0,hp,ht,a5,M,k]:=iq;let[u,0,ru]:=r.one);cases ru;done<;>let[qG,r,pl,hz]:=I.list (.of hp);let ρ:=TJ r;subst ρ;by_cases h2:ps.length<2
 .show bJ pl.isList (~~~h2) ?_;let[e,he]:=sortedAll_at s.heap (ps.map λq=>Value.ref q.1) (ps.map λq=>Value.ref q.1).toArray;show{.ref ('H'+1),_,I.laid (o:=.lst (DN ps)) (λb o q=>sortedAll_old q) (cS _) {?_,_,e,JE ps,he},0,k _ ps (I.hok.fresh (cS _)) (List.Perm.refl _) ?_}
  .rw[aA];show aY (D3 ⋯)
  .match ps,h2 with|[],_=>show List.Pairwise.nil|[_],_=>show pairwise_singleton _ _
 .done<;>(let[n,n0,M]:=M.resolve_left h2;let[m,hm,_]:=I.loc);let w:(ps.map λq=>Value.ref q.1).length=ps.length:='2'
  show kat_sorted (Att.fr_all hm) (QM) pl.isList (by simp_all) (by simp only[*]) λD e1 h' F' N' hD=>?_;let y:∀b o,b≠X.env.locals->'F' b\o->h'.get? b\o:=λb o nb e=>N'.get (bT _ (FX nb (Att.noObjs_get _ _) e));let nL:∀b o,H b\o->b≠X.env.locals:=λb o e z=>by subst z;rw[I.free]at e;cases e
  let d:∀q∈ps,∃us,IntsAre us q.2/\∃o n,h'.get? q.1\o/\o.cls=.type "tuple"/\o.data=.seq us.toArray n:=λq B=>by done<;>(let[us,w1,tt,_]:=I.tuple (.of (ht q B));let[o,e1,e2,n',e3]:=tt);show{us,HF w1,o,n',y _ _ (nL _ _ (ht q B)) e1,e2,e3}
  let[fs,kt,fl,fi]:=Nq d (λq B=>by rw[M q B];show n0);show kat_kind (T:=.type "int") kt ⋯ (λv hv=>?_) rfl ?_
  .let[i,t,0]:=fi v hv;show TK _ _ i t
  .let A:∀i(hi),(ps.map λq=>Value.ref q.1).getD i Value.none=.ref ps[i].1:=λi hi=>by rw[bW,bO,aH hi];rfl
   show M9 (lt:=Bm (O:=Fj) λi=>((ps[i]?).map (·.2)).getD []) (λi j C hi E q=>?_) _ (by rw[w];show R3 ⋯) ?_
   .unfold kas_ask;rw[A i hi,A j E];done<;>(let[us,a1,o1,n1,b1,c1,d1]:=d ps[i] (getElem_mem hi);let[vs,a2,o2,n2,b2,c2,d2]:=d ps[j] (getElem_mem E));let l1:=a1.length;let l2:=a2.length;let l3:=M ps[i] (getElem_mem hi);let l4:=M ps[j] (getElem_mem E);show kat_lt b1 d1 b2 d2 ?_;rw[show decide (us.toArray.size<vs.toArray.size)=false by rw[size_toArray,size_toArray];show cK (by simp_all)];show R4 0 a1 a2 (by simp_all) ?_;simp only[Bm,aH hi,aH E,Option.map_some,Option.getD_some]at q;show q
   .let[pp,J]:=Rw (O:=Fj) (n:=ps.length) ⋯ _ rfl;rw[w];generalize ev (Bm (O:=Fj) λi=>((ps[i]?).map (·.2)).getD []) (kas_sort ps.length)=pr at pp J;show KasFin.intro F' N' (.head λq B=>bX (hD q B)) λh2 c F2 N2=>?_;let nD:=λu e=>aX _ (hD (D,u) (FX (N' _ cA).2.1 (Att.noObjs_get _ _) e));let σ:H D=none:=by cases e:H D with|none=>rfl|some o=>let[u,e2]:=(I.hok D o e).there;show bS e2 (nD u)
    let x:pr.toList.Perm (List.range ps.length):=by simpa using Array.perm_iff_toList_perm.mp pp
    let l:∀i∈pr.toList,i<ps.length:=λi hi=>bH.mp (x.mem_iff.mp hi);let G:Addr×By:=(0,[]);let eo:(pr.toList.map λi=>(ps.map λq=>Value.ref q.1).getD i Value.none)=((pr.toList.map λi=>ps.getD i G).map λq=>Value.ref q.1):=by rw[bZ];show cF λi hi=>?_;let hi:=l i hi;rw[A i hi,Function.comp,bW,aH hi];rfl
    let f:(pr.toList.map λi=>ps.getD i G).Perm ps:=by
     let e1:((List.range ps.length).map λi=>ps.getD i G)=ps:=by
      apply ext_getElem?;intro i;rw[bO];by_cases hi:i<ps.length
      .rw[getElem?_range hi,aH hi,Option.map_some,bW,aH hi];rfl
      .rw[bQ (by rw[bG];lia),bQ ⋯];rfl
     let:=x.map λi=>ps.getD i G;rw[e1]at this;show this
    show{.ref D,_,I.laidF (o:=.lst (DN (pr.toList.map λi=>ps.getD i G))) hm F2.ns (λb u nb e=>N2.get (bT _ (FX nb (Att.noObjs_get _ _) e))) σ nD {?_,_,c,JE _,?_},0,k D _ σ f ?_}
    .rw[aA,f.length_eq];show aY (D3 ⋯)
    .let:=N2.get cA;rw[eo]at this;show this
    .unfold Dr;rw[pairwise_iff_getElem];intro i j hi E a3;let a4:i<pr.toList.length:=by simpa using hi
     let N:j<pr.toList.length:=by simpa using E
     let hs:=J i j (aY a3) (by rw[<-bG (n:=ps.length),<-x.length_eq];show N);let a0:∀i(h),KP (O:=Fj) (λi=>((ps[i]?).map (·.2)).getD []) pr i=(ps.getD (pr.toList[i]) G).2:=λi h=>by
      let h3:=l _ (getElem_mem h);let h4:i<pr.size:=by simpa using h
      unfold KP;rw[Array.getD_eq_getD_getElem?,show pr[i]?\pr.toList[i]by simp[h4]];simp only[Option.getD_some];rw[bW,aH h3];rfl
     simp only[getElem_map];rw[<-a0 i a4,<-a0 j N];show hs
end L2
namespace L2
set_option tactic.hygienic true
section
variable{κ κ':Type}[DecidableEq κ][DecidableEq κ']
def BO:List κ->dI->κ->Option P|k0::ks,v::vs,k=>if k0=k then some v else BO ks vs k|_,_,_=>none
def Cb(ks:List κ)(k:κ):List κ:=(if k∈ks then ks else ks++[k])
def Cn(ks:List κ)(vs:dI)(k:κ)(x:P):dI:=(if k∈ks then zipWith (λk0 v=>if k0=k then x else v) ks vs else vs++[x])
def ER{g:κ->κ'}(l:∀a c,g a=g c->a=c){ks}(r:AC b Z H xs vs)(f:ks.length=xs.length):(∀z,BO ks xs k\z->∃v,Bb ((ks.map g).zip vs) (g k)\v/\Rp b Z H z v)/\(BO ks xs k=none->Bb ((ks.map g).zip vs) (g k)=none):=by induction ks generalizing xs vs with
 |nil=>cases xs with|nil=>show{(λz h=>(nomatch h)),dF}|cons x xs=>cases f
 |cons k0 ks d=>cases xs with|nil=>cases f|cons x xs=>
   let[v,t,0,j,i]:=r;let d:=d i (Nat.succ.inj f);simp only[BO,map_cons,zip_cons_cons];by_cases e:k0=k
   .subst e;rw[aC rfl,J4 rfl];show{(λz h=>{v,0,by cases h;show j}),(λh=>(nomatch h))}
   .rw[aB e];let ne:¬g k0=g k:=λz=>e (l _ _ z);let:Bb ((g k0,v)::(ks.map g).zip t) (g k)=Bb ((ks.map g).zip t) (g k):=by unfold Bb;simp[ne]
    rw[this];show d
theorem TL{g:κ->κ'}(f:∀a c,g a=g c->a=c):∀(ks:List κ)(vs:dH),((ks.map g).zip vs).map (λd=>if d.1=g k then(d.1,v)else d)=(ks.map g).zip (zipWith (λk0 u=>if k0=k then v else u) ks vs)
 |[],_=>'2'|_::_,[]=>'2'|k0::ks,u::vs=>by
  simp only[map_cons,zip_cons_cons,zipWith_cons_cons,TL f ks vs];by_cases e:k0=k
  .simp_all
  .let ne:¬g k0=g k:=λz=>e (f _ _ z);simp[e,ne]
theorem Nr{g:κ->κ'}(d:∀a c,g a=g c->a=c):∀{ks:List κ}{vs:dH},ks.length=vs.length->((((ks.map g).zip vs).any λe=>decide (e.1=g k))=true↔k∈ks)
 |[],_,_=>'2'|k0::ks,[],h=>by simp at h|k0::ks,u::vs,h=>by
  simp only[map_cons,zip_cons_cons,any_cons,Bool.or_eq_true,aW,Nr d (by simpa using h),aF];constructor
  .rintro(z|z)
   .show .inl (d _ _ z).symm
   simp_all
  .rintro(z|z)
   .simp_all
   simp_all
def eA{g:κ->κ'}(f:∀a c,g a=g c->a=c){ks}(e:ks.length=vs.length):Bh ((ks.map g).zip vs) (g k) v=((Cb ks k).map g).zip (if k∈ks then zipWith (λk0 u=>if k0=k then v else u) ks vs else vs++[v]):=by
 unfold Bh Cb;by_cases d:k∈ks
 .rw[aC ((Nr f e).mpr d),aC d,aC d,TL f]
 .rw[aB (λz=>d ((Nr f e).mp z)),aB d,aB d,cO,zip_append (~~~e)];rfl
def eB{x}(c:Rp b Z H x v){ks:List κ}(r:AC b Z H xs vs)(a:ks.length=xs.length):AC b Z H (zipWith (λk0 y=>if k0=k then x else y) ks xs) (zipWith (λk0 u=>if k0=k then v else u) ks vs):=by induction ks generalizing xs vs with|nil=>show rfl|cons k0 ks g=>cases xs with|nil=>cases a|cons y xs=>let[u,t,0,f,d]:=r;show{_,_,0,?_,g d (Nat.succ.inj a)};lia
def Kw{g:κ->κ'}(f:∀a c,g a=g c->a=c){ks}{x}(r:AC b Z H xs vs)(e:ks.length=xs.length)(d:Rp b Z H x v):∃vs',Bh ((ks.map g).zip vs) (g k) v=((Cb ks k).map g).zip vs'/\AC b Z H (Cn ks xs k x) vs':=by
 show{_,eA f (e.trans r.length),?_};unfold Cn;split
 .show eB d r e
 .show r.snoc d
def Nt{ks:List κ}{x}(a:ks.length=xs.length):(Cb ks k).length=(Cn ks xs k x).length:=by
 unfold Cb Cn;split
 .simp_all
 .simp[a]
end
def Hn(a c)(h:BJ a=BJ c):a=c:=by rw[<-NL a,h,NL]
def Ds(a c)(h:Af a=Af c):a=c:=Sum.inr.inj h
def EA:P->Option By
 |.tup xs=>xs.mapM λx=>match x with|.int i=>some i|_=>none
 |_=>none
@[simp]theorem ES(r):EA (.tup (r.map P.int))\r:=by
 simp only[EA]
 induction r with|nil=>rfl|cons x r a=>rw[map_cons,mapM_cons,a];rfl
def TM{x}(h:EA x\r):x=.tup (r.map P.int):=by cases x with
 |tup xs=>
  simp only[EA]at h
  congr 1
  induction xs generalizing r with|nil=>cases h;rfl|cons y xs a=>rw[mapM_cons]at h;cases y with
   |int i=>cases e:(xs.mapM λx=>match x with|.int i=>some i|_=>none)with|none=>simp_all|some c=>rw[e]at h;cases h;rw[a e];rfl
   |_=>cases h
 |_=>cases h
def TQ(pd pk:pE):pE:=(λU K=>pd U λx f=>pk U λy _=>match x with
 |.dT ks vs=>∃r z,EA y\r/\BO ks vs r\z/\K z f.el|.dK ks vs=>match y with|.str k=>∃z,BO ks vs k\z/\K z f.el|_=>False
 |.fT ks vs=>∃r z,EA y\r/\BO ks vs r\z/\K z f.el|_=>False)
def TR(pd pk px:pE):pE:=(λU K=>pd U λx f=>(x.mut=true/\∀xs,x≠.lst xs)/\pk U λy _=>px U λz _=>match x with
 |.dT ks vs=>∃r,EA y\r/\P.imms vs=true/\z.imm=true/\K ((BO ks vs r).getD z) .fr|.dK ks vs=>match y with|.str k=>P.imms vs=true/\z.imm=true/\K ((BO ks vs k).getD z) .fr|_=>False
 |_=>False)
section
variable{Hs:Hp}
def Hr{ks}(ok:Ok W U Y H)(r:RF W U Y Hs f H (.dT ks xs) v):∃p vs,v=.ref p/\p≠W.b/\H p\(.dT ((ks.map BJ).zip vs))/\ks.length=xs.length/\AC W.b (AL W U Y f) H xs vs:=by cases f with|bo=>let[p,e,o,us,h1,h2,a]:=r;show{p,us,e,(ok.ow (.inr o)).2.2.1,h1,h2,a}|nw=>let[p,us,e,z,h1,h2,a]:=r.1;show{p,us,e,λq=>z (q▸AL.b),h1,h2,a}|fr=>let[p,us,e,z,h1,h2,a]:=r;show{p,us,e,λq=>z (q▸AL.b),h1,h2,a}|cl=>let[p,us,e,z,h1,h2,a]:=r;show{p,us,e,λq=>z (q▸AL.b),h1,h2,a}|rf=>let[p,us,e,z,h1,h2,a]:=r;show{p,us,e,λq=>z (q▸AL.b),h1,h2,a}|an=>assumption
def Nu(ok:Ok W U Y H)(r:RF W U Y Hs f H (.dK ks xs) v):∃p vs,v=.ref p/\p≠W.b/\H p\(.dK ((ks.map Af).zip vs))/\ks.length=xs.length/\AC W.b (AL W U Y f) H xs vs:=by cases f with|bo=>let[p,e,o,us,h1,h2,a]:=r;show{p,us,e,(ok.ow (.inr o)).2.2.1,h1,h2,a}|nw=>let[p,us,e,z,h1,h2,a]:=r.1;show{p,us,e,λq=>z (q▸AL.b),h1,h2,a}|fr=>let[p,us,e,z,h1,h2,a]:=r;show{p,us,e,λq=>z (q▸AL.b),h1,h2,a}|cl=>let[p,us,e,z,h1,h2,a]:=r;show{p,us,e,λq=>z (q▸AL.b),h1,h2,a}|rf=>let[p,us,e,z,h1,h2,a]:=r;show{p,us,e,λq=>z (q▸AL.b),h1,h2,a}|an=>assumption
def TV{ks}(ok:Ok W U Y H)(r:RF W U Y Hs f H (.fT ks xs) v):∃p vs,v=.ref p/\p≠W.b/\Fz H p ((ks.map BJ).zip vs)/\ks.length=xs.length/\AC W.b (AL W U Y f) H xs vs:=by cases f with|bo=>let[p,e,o,us,h1,h2,a]:=r;show{p,us,e,(ok.ow (.inr o)).2.2.1,h1,h2,a}|nw=>let[p,us,e,z,h1,h2,a]:=r.1;show{p,us,e,λq=>z (q▸AL.b),h1,h2,a}|fr=>let[p,us,e,z,h1,h2,a]:=r;show{p,us,e,λq=>z (q▸AL.b),h1,h2,a}|cl=>let[p,us,e,z,h1,h2,a]:=r;show{p,us,e,λq=>z (q▸AL.b),h1,h2,a}|rf=>let[p,us,e,z,h1,h2,a]:=r;show{p,us,e,λq=>z (q▸AL.b),h1,h2,a}|an=>assumption
def Ky{x}(ok:Ok W U Y H)(g:EA x\r)(a:RF W U Y Hs f H x v):∃q,v=.ref q/\H q\(.tup ((BJ r).map kV)):=by rw[TM g]at a;let[q,us,e,c,d]:=EQ ok a;rw[AC.ints.mp d]at c;show{q,e,by rw[c];simp[BJ,bZ,Function.comp_def,kV]}
end
section
variable{o i e c:Expr}{pd pk px:pE}
def Kz(M:∀j,(Xs j).A.units+1<cLine)(O:QE Xs o pd)(hi:QE Xs i pk)(N:Mo i):QE Xs (.Subscript o i pos) (TQ pd pk):=by
 let[td,σ,ρ]:=O;let[tk,k1,k2]:=hi;show{_,λj=>Mp (M j) (σ j) (k1 j) N,λW U Y H Q K ok T q=>ρ W U Y H _ _ ok T λx f v H1 h1 C J=>k2 W U Y H1 _ _ (ok.step C) h1 λy g u H2 h2 I D=>?_};let c:=C.trans I;let a:=ok.step c;let d:=J.step (ok.step C) I;split at h2
 .let[r,z,E,h,e]:=h2;let[p,us,0,_,n,m,l]:=Hr a d;let[L,0,G]:=Ky a E D;let[w,B,s]:=(ER Hn l m).1 z h;show{p,w,0,by rw[<-B];show Cs.t n G,q z _ w H2 e c (RF.ofEl s)}
 .split at h2
  .let[z,h,e]:=h2;rename_i ks vs _ k;let[p,us,0,_,n,m,l]:=Nu a d;cases Er a D;let[w,B,s]:=(ER Ds l m).1 z h;show{p,w,0,by rw[<-B];show Cs.k (k:=Sum.inr k) n,q z _ w H2 e c (RF.ofEl s)}
  .show h2.elim
 .let[r,z,E,h,e]:=h2;let[p,us,0,_,[o,n],m,l]:=TV a d;let[L,0,G]:=Ky a E D;let[w,B,s]:=(ER Hn l m).1 z h;show{p,w,0,by rw[<-B];show .inr {_,_,_,.inr #[o,n],0,G,0},q z _ w H2 e c (RF.ofEl s)}
 .show h2.elim
def TW[DecidableEq κ][DecidableEq κ']{g:κ->κ'}(i:∀a c,g a=g c->a=c){ks}{u}(r:AC b Z H xs vs)(f:ks.length=xs.length)(hi:P.imms xs=true)(hz:z.imm=true)(j:Rp b Z H z u):Rp b Z H ((BO ks xs k).getD z) ((Bb ((ks.map g).zip vs) (g k)).getD u)/\((BO ks xs k).getD z).imm=true:=by cases e:BO ks xs k with|none=>rw[(ER i r f).2 e];show#[j,hz]|some w=>
  let[v,n,m]:=(ER i r f).1 w e;rw[n];show#[m,?_];let:∀{ks}{xs},P.imms xs=true->BO ks xs k\w->w.imm=true:=by
   intro ks
   induction ks with|nil=>intro xs _ h;cases h|cons k0 ks l=>intro xs d h;cases xs with|nil=>cases h|cons x xs=>rw[NE,cB]at d;simp only[BO]at h;grind
  show this hi e
def GY(hu:∀j,(Xs j).A.units+1<cLine)(ho:QE Xs o pd)(hi:QE Xs e pk)(hx:QE Xs c px)(m:∀j,M2 (Xs j) o "get" qK e c qJ:=by intro _;show#[0,0,0,0]):QE Xs (.Call (.Attribute o "get" qK) [e,c] [] qJ) (TR pd pk px):=by
 done<;>(let[td,d1,d2]:=ho;let[tk,k1,k2]:=hi;let[tx,x1,σ]:=hx);show{_,λj=>ZI (hu j) (d1 j) (k1 j) (x1 j) (m j),λW U Y H Q K ok hk q=>d2 W U Y H _ _ ok hk λx f v H1 zz T G=>?_};let[[M,L],h1]:=zz;let a:=ok.step T;obtain⟨p,rfl,hd⟩:∃p,v=.ref p/\Mr H1 p:=by cases x with|dT ks xs=>let[p,us,e,_,h,_]:=Hr a G;show#[p,e,.inr {_,.of h}]|dK ks xs=>let[p,us,e,_,h,_]:=Nu a G;show#[p,e,.inl {_,.of h}]|fT ks xs=>let[p,us,e,_,[o,h],_]:=TV a G;show#[p,e,.inr #[_,.inr #[o,h]]]|lst xs=>show bS rfl (L xs)|_=>simp[P.mut]at M
 show{p,0,hd,k2 W U Y H1 _ _ a h1 λy g u H2 h2 E r2=>σ W U Y H2 _ _ (a.step E) h2 λz gz uz s n I ρ=>?_};let i:=(T.trans E).trans I;let d:=ok.step i;let B:=G.step a (E.trans I);let w:=r2.step (a.step E) I;split at n
 .done<;>(let[r,e1,D,C,N]:=n;let[p',us,e,_,h,O,l]:=Hr d B);cases e;let[q2,0,c4]:=Ky d e1 w;let l:AC W.b (Zf W U Y) s _ us:=l.imm D;let J:Rp W.b (Zf W U Y) s z uz:=(ρ.any d).imm C;show{_,Cs.t h c4,q _ _ _ s N i (TW Hn l O D C J).1}
 .split at n
  .let[D,C,N]:=n;rename_i ks vs _ k;let[p',us,e,_,h,O,l]:=Nu d B;cases e;cases Er d w;let l:AC W.b (Zf W U Y) s _ us:=l.imm D;let J:Rp W.b (Zf W U Y) s z uz:=(ρ.any d).imm C;show{_,Cs.k (k:=Sum.inr k) h,q _ _ _ s N i (TW Ds l O D C J).1}
  .show n.elim
 .show n.elim
def TY:pE:=(λ_ K=>K (.dT [] []) .nw)
def Nv:QE Xs (.Dict [] [] pos) TY:=#[_,λ_=>ZD,λW U Y H Q K ok c q=>λp a=>q _ _ _ _ c (Step.new ok.bag a) #[{p,[],0,λz=>ok.dom z a,AJ,0,0},λ_=>#[p,0,a]]]
end
def K0(k:Nat)(pk pe:pE):pS:=(λE U=>match U[k]? with|some (.own (.dT ks vs))=>pe U λy f=>pk U λz _=>∃r,EA z\r/\BU y f=.nw/\ks.length<16777216/\E.nx (U.set k (.own (.dT (Cb ks r) (Cn ks vs r y))))|some (.own (.dK ks vs))=>pe U λy f=>pk U λz _=>∃r,z=.str r/\BU y f=.nw/\ks.length<16777216/\E.nx (U.set k (.own (.dK (Cb ks r) (Cn ks vs r y))))|_=>False)
section
variable{a b:Expr}{p1:Pos}{k:Nat}{t u:TE}
def eC(h1:CI t pa)(h2:CI u pb):HY (J6 (tVar k) t u) (K0 k pa pb):=λW U Y H D E ok x r=>by
 unfold K0 at x;split at x
 .rename_i ks xs e;let[w,j,p,M,_,_,I,_,vs,O,A,N]:=ok.slot k _ e;subst M;let G:BD U Y p:=#[k,_,e,j];show h2 W U Y H _ _ ok x λy f v H1 ky h C=>{.ref p,j,h1 W U Y H1 _ _ (ok.step h) ky λz T Q H2 zz n B=>?_};let[g,k0,k1,k2,k3]:=zz;let c:=h.trans n;let a:=ok.step c;let[q,0,ρ]:=Ky a k0 B;let m:=c.same p _ I O;let l:=N.step c ok.bag;let i:=Ku a (C.step (ok.step h) n) k1;show{p,_,0,Ff.t m ρ (by rw[length_zip,aA];show Nat.lt_of_le_of_lt (Nat.min_le_left _ _) k2),r.nx _ _ _ k3 ?_};let[d,L,J]:=Kw Hn l A i;rw[L];let s:=Hm (o:=HO.dT (((Cb ks g).map BJ).zip d)) a G (.inr rfl);show a.mut e j '6' {d,AJ,Nt A,J.keep s.1 s.2}
 .rename_i ks xs e;let[w,j,p,M,_,_,I,_,vs,O,A,N]:=ok.slot k _ e;subst M;let G:BD U Y p:=#[k,_,e,j];show h2 W U Y H _ _ ok x λy f v H1 ky h C=>{.ref p,j,h1 W U Y H1 _ _ (ok.step h) ky λz T Q H2 zz n B=>?_};let[g,k0,k1,k2,k3]:=zz;let c:=h.trans n;let a:=ok.step c;subst k0;cases Er a B;let m:=c.same p _ I O;let l:=N.step c ok.bag;let i:=Ku a (C.step (ok.step h) n) k1;show{p,_,0,Ff.k (k:=Sum.inr g) m (by rw[length_zip,aA];show Nat.lt_of_le_of_lt (Nat.min_le_left _ _) k2),r.nx _ _ _ k3 ?_};let[d,L,J]:=Kw Ds l A i;rw[show(Sum.inr g)=Af g from rfl,L];let s:=Hm (o:=HO.dK (((Cb ks g).map Af).zip d)) a G (.inr rfl);show a.mut e j '6' {d,AJ,Nt A,J.keep s.1 s.2}
 .show x.elim
def JF(e:∀i,(Xs i).A.units+1<cLine)(h:QE Xs a pa)(hb:QE Xs b pb)(j:∀i,(Xs i).N[k]?\x:=by rfl)(d:∀i,Ed (Xs i).env.scope x:=by intro _;trivial)(g:No x:=by decide)(c:N_ x:=by decide)(f:∀i,swapsWith b (some (.Subscript (.Name x p1) a pos')) pos.line (Xs i).env=pure false:=by rfl):QS Xs (.Assign [.Subscript (.Name x p1) a pos'] b pos) (K0 k pa pb):=by let[t,o,n]:=h;let[u,m,l]:=hb;show{_,λi=>J7 (e i) (Ef (j i) (d i) g c) (o i) (m i) (f i),eC n l}
end
open PySem.W
def CQ(h:Heap)(d:Addr)(es:Array DictEntry)(ep:Nat):Prop:=(∃o,h.get? d\o/\o.ExactDict/\o.data=.dict es ep)
def CQ.typeIs{es}(x:CQ s.heap d es ep):s.TypeIs (.ref d) "dict":=by let[o,e,c,_]:=x;show#[o,e,c.1]
def CQ.keep{es}(x:CQ h d es ep)(k:∀o,h.get? d\o->h'.get? d\o):CQ h' d es ep:=by let[o,e,r]:=x;show{o,k o e,r}
def CQ.lt{es}(x:CQ h d es ep):d<h.objs.size:=by let[_,e,_]:=x;show bN e
section
variable{es:Array DictEntry}
def TZ(f:(d==sysModules)=false)(c:CQ s.heap d es ep)(g:Q (.ref 'H') {s with heap:=s.heap.push {cls:=.type "dict_keyiterator",data:=.fields [.ref d,.int 0 0,.int es.size 0,.int ep 0].toArray}}):'C' (pyIter (.ref d)) Q E s:=by let[o,e,h,a]:=id c;show wpAny_pyIter_slot c.typeIs F.slot_dict_iter (cQ F.slot_dict_iter c.typeIs F.entry_dict_iter ?body (F.args_dict_iter_1 _));show wB (wB (wpAny_notOrdered_dict c.typeIs ?_));show wP ?_;change 'A' (Builtin.Dict.showsAll d>>=_) _ _ s;unfold Builtin.Dict.showsAll;rw[aB (by rw[f];simp)];show wB (wP (wB (wpAny_dictEntries e a (wB (wpAny_dictEpoch e a (wB (cG (wP {_,0,"dict_keyiterator",_,{_,bP _ rfl,0},F.slot_dict_keyiterator_next.lookup,?_}))))))));assumption
def Ta{Q:Do->Shared->Prop}(a:s.heap.IsKeyIter it d i es.size ep)(l:CQ s.heap d es ep)(hi)(p:∀h',h'.IsKeyIter it d (i+1) es.size ep->Heap.SameBut it s.heap h'->Q (some es[i].key) {s with heap:=h'}):'C' (pyNext (.ref it)) Q E s:=by
 let[o,j,n,h]:=id a;let[od,f,m,g]:=id l;let e:Builtin.Dict_items.ownsTuple "dict_keyiterator"=false:=by decide
 show wB (wpAny_attempt (wpAny_callSpecial?_slot a.typeIs F.slot_dict_keyiterator_next (cQ F.slot_dict_keyiterator_next a.typeIs F.entry_dict_keyiterator_next ?body (F.args_dict_keyiterator_next_1 _))));show wB (wP (wB (wB ?_)))
 first|show wB (wpAny_typeNameOfWhole_keyiter a.typeIs (wP (wB (wpAny_fieldsOf j h ?_))))|show wB _
 change 'A' _ _ _ s;show wB (wP (wB (wpAny_dictEntries f g ?_)));rw[aB '2'];show wB (wP (wB (wpAny_dictEpoch f g ?_)));rw[aB '2'];show wP ?_;simp only[show¬(i<0)by simp_all,if_false,Int.toNat_natCast,cL hi];show wB ?_
 first|show wB (wpAny_typeNameOfWhole_keyiter a.typeIs (wP (wB (wpAny_isOneOf_keyiter a.typeIs ?_))))|show wB _
 change 'A' (setField _ 1 (rawInt (i+1))>>=_) _ _ s;show wB (wpAny_setField j h '2' ?_);let c:(s.heap.update it (Obj.mapFields (·.setIfInBounds 1 (rawInt (i+1))))).IsKeyIter it d (i+1) es.size ep:={_,Heap.get?_update_self _ j (Obj.isFreed_of_fields (Obj.data_mapFields h _)),(Obj.cls_mapFields ..).trans n,by rw[Obj.data_mapFields h]<;>simp[rawInt]}
 show wB (bM (wB (wpAny_isOneOf_keyiter c.typeIs ?_)));show wP (wP {_,0,wP (p _ c (Heap.SameBut.update ..))})
def Tb{Q:Do->Shared->Prop}(l:A.handled=none)(c:s.heap.IsKeyIter it d es.size es.size ep)(j:CQ s.heap d es ep)(p:∀h',Heap.ExtBut it s.heap h'->Q none {s with heap:=h'}):'C' (pyNext (.ref it)) Q E s:=by
 let[o,h,v,i]:=id c;let[od,f,n,g]:=id j;let e:Builtin.Dict_items.ownsTuple "dict_keyiterator"=false:=by decide
 show wB (wpAny_attempt (wpAny_callSpecial?_slot c.typeIs F.slot_dict_keyiterator_next (cQ F.slot_dict_keyiterator_next c.typeIs F.entry_dict_keyiterator_next ?body (F.args_dict_keyiterator_next_1 _))));show wB (wP (wB (wB ?_)))
 first|show wB (wpAny_typeNameOfWhole_keyiter c.typeIs (wP (wB (wpAny_fieldsOf h i ?_))))|show wB _
 change 'A' _ _ _ s;show wB (wP (wB (wpAny_dictEntries f g ?_)));rw[aB '2'];show wB (wP (wB (wpAny_dictEpoch f g ?_)));rw[aB '2'];show wP ?_;simp only[show¬(es.size<0)by simp_all,if_false,Int.toNat_natCast,Array.getElem?_eq_none (aQ es.size)];show wB ?_
 first|show wB (wpAny_typeNameOfWhole_keyiter c.typeIs (wP ?_))|show wB _
 change 'A' (setField _ 0 .none>>=_) _ _ s;show wB (wpAny_setField h i '2' ?_);show wB ?_;show wB (cG ?uyy (by size_fits));show wB (wpAny_of_eq (by first|rfl|(rfl)) (cG ?ryy (by size_fits)));show wB (wpAny_handled ?_);rw[l];show wB (wP (wpAny_throw ?_));show wB (wpAny_isInstance {_,bP _ rfl,0} isSubtype_stop ?q);show wP (p _ (((Heap.SameBut.update ..).extBut.push _).push _))
theorem eD(m:A.handled=none)(I d)(g:d≠I)(es)(ep):Walks prog w A I [I,d] [I] es.size (λi v=>∃h,v=es[i].key) (λi h=>h.IsKeyIter I d i es.size ep/\CQ h d es ep)where
 sub:=λb hb=>by simp_all
 frame:=λ_ _ _ st l=>{st.1.at λo e=>l I '2' o e,st.2.keep λo e=>l d '2' o e}
 item:=λi s Q E hi st f=>Ta st.1 st.2 hi λh' c a=>f _ h' s.toks #[hi,0] {c,st.2.keep λo e=>a.extBut d o g e} λb o hb e=>a.extBut b o (λh=>hb (by simp[h])) e
 done:=λs Q E st f=>Tb m st.1 st.2 λh' j=>f h' s.toks λb o hb e=>j b o (λh=>hb (by simp[h])) e
 self:=λ_ _ _ _ st f=>wpAny_pyIter_keyiter st.1 f
theorem Nw(lo:(d==sysModules)=false):KdlSrc prog w "dict" d d es.size (λi v=>∃h,v=es[i].key) (λh=>CQ h d es ep)where
 type:=λ_ a=>a.typeIs
 there:=λ_ a=>#[a.lt,a.lt]
 keep:=λ_ _ a f=>a.keep λo e=>f d (.inl rfl) o e
 notList:=rfl
 notTuple:=rfl
 hint:=λ_ _ _ _ a c=>kdl_hint_dict a.typeIs c
 iter:=λ_ _ g a=>#[_,_,(λ_ _ c=>TZ lo a c),eD g _ d (bX a.lt) es ep,#[{_,bP _ rfl,0,0},a.keep λo e=>aS _ e]]
end
abbrev AW(r:By):P:=.tup (r.map P.int)
def Tc:dH->Hp->VK->Prop:=(λxs H Q=>∃(p:Addr)(qH:List (List AT×V)),xs=[.ref p]/\H p\(.dT qH)/\∀(l:Addr)(ps:List (Addr×List AT)),H l=none->ps.map (·.2)=qH.map (·.1)->(∀q∈ps,H q.1\(.tup (q.2.map kV)))->Q (.ref l) (AA H l (.lst (ps.map λq=>V.ref q.1))))
theorem Nx:∀{qH}{xs},Paired (λ(p:List AT×V)(q:List AT×Addr×Value)=>p.1=q.1/\H q.2.1\(.tup (p.1.map kV))/\AV p.2 q.2.2) qH xs->(xs.map λx=>(x.2.1,x.1)).map (·.2)=qH.map (·.1)/\∀q∈(xs.map λx=>(x.2.1,x.1)),H q.1\(.tup (q.2.map kV))
 |_,_,.nil=>{0,λq hq=>nomatch hq}|_,_,.cons r t=>by
  let[a,b]:=Nx t;show{by simp_all,λq hq=>?_};let 0||hq:=aF.mp hq
  .simp_all
  .show b q hq
def Ny(hok:A3 P' w H h)(e:H p\(.dT qH)):∃(es:Array DictEntry)(ep:Nat)(ps:List (Addr×List AT)),CQ h p es ep/\(p==sysModules)=false/\qH.length<=sizeLine/\ps.map (·.2)=qH.map (·.1)/\(∀q∈ps,H q.1\(.tup (q.2.map kV)))/\es.toList.map (·.key)=ps.map λq=>Value.ref q.1:=by done<;>let[z,a,xs,rel,o,es,ep,h1,h2,d,c,_]:=hok p _ e;show{es,ep,xs.map λx=>(x.2.1,x.1),#[o,h1,h2,d],a,z,(Nx rel).1,(Nx rel).2,by rw[c,bZ,bZ];rfl}
def Td{es:Array DictEntry}{a:Ex}(h:ItemsOf (λi v=>∃h,v=es[i].key) a n)(c:n=es.size):a.toList=es.toList.map (·.key):=by
 apply ext_getElem?;intro i;let d:a.size=es.size:=by rw[<-c];show h.1
 by_cases hi:i<a.size
 .let[h',e]:=h.2 i a[i] (by simp[hi]);simp_all
 simp_all
def eE(ps:List (Addr×List AT)):AZ (ps.map λq=>V.ref q.1) (ps.map λq=>Value.ref q.1):=by induction ps with|nil=>show .nil|cons q r a=>show .cons rfl a
def Nz(n:X.calm=true):B3 X (.type "list") Tc:=by
 rintro qA s Y H xs us Q I r⟨p,qH,rfl,j,k⟩;let[u,0,g]:=r.one;cases g;done<;>let[es,ep,ps,i,m,A,f,x,e]:=Ny I.hok j;let b:=aT length f;simp at b;let B:es.size=qH.length:=by let a:=aT length e;simp at a;simp only[*]
 show kdl_call (Nw m) (I.ok.hd n) i (by simp_all) λh' tk d y l v c=>?_;let w:=Td c rfl;show{.ref 'H',_,I.laid (o:=.lst _) l (aQ _) #[?_,d.toList,y,?_,?_],0,k _ ps (I.hok.fresh (aQ _)) f x}
 .rw[aA];simp_all
 .rw[w,e];show eE ps
 .simpa using v
def N0:pC:=(p1 λx f K=>match x with|.dT ks vs=>K (.lst (ks.map AW)) .nw|_=>False)
def eF(ks:List By):P.imms (ks.map AW)=true:=HU (λr=>'2') ks
theorem K1:∀{ps:List (Addr×By)},(∀q∈ps,H q.1\(.tup (q.2.map V.int)))->AC b Z H (ps.map λq=>AW q.2) (ps.map λq=>V.ref q.1)|[],_=>rfl|q::r,h=>{_,_,0,{q.1,_,0,h q cA,AC.ints.mpr rfl},K1 λp a=>h p (bT _ a)}
def K2(r):(BJ r).map kV=r.map V.int:=by simp[BJ,bZ,Function.comp_def,kV]
def Te{ps:List (Addr×List AT)}{ks}(h:ps.map (·.2)=ks.map BJ):∃ps':List (Addr×By),ps'.map (·.1)=ps.map (·.1)/\ps'.map (·.2)=ks/\∀q'∈ps',(q'.1,BJ q'.2)∈ps:=by induction ps generalizing ks with|nil=>simp_all|cons q r d=>cases ks with|nil=>simp at h|cons k ks=>
   simp only[map_cons,List.cons.injEq]at h;let[ps',a,b,c]:=d h.2;show{(q.1,k)::ps',by simp[a],by simp[b],λq' hq=>?_};let 0||hq:=aF.mp hq
   .simp[<-h.1]
   .show bT _ (c q' hq)
def N9:DY Tc N0:=λW U Y Hs H Q K xs vs ok st r d q=>by
 unfold N0 p1 at d;split at d
 .let[v,0,rv]:=r.one;split at d
  .rename_i ks g;let[p,us,0,_,u,s,o]:=Hr ok rv;show{p,_,0,u,λl ps e f n=>q _ _ _ _ d (Step.new ok.bag e) ?_};rw[map_fst_zip (by rw[aA,s,o.length];show aQ _)]at f;let[ps',a,b,c]:=Te f;let h:AC W.b (AL W U Y .nw) H (ks.map AW) (ps.map λq=>V.ref q.1):=by
    let:=K1 (b:=W.b) (Z:=AL W U Y .nw) λq' i=>by let:=n _ (c q' i);rw[K2]at this;show this
    let m:(ps'.map λq=>V.ref q.1)=ps.map λq=>V.ref q.1:=by let:=aT (map V.ref) a;simpa[Function.comp_def]using this
    let j:(ps'.map λq=>AW q.2)=ks.map AW:=by rw[<-b,bZ];rfl
    rw[m,j]at this;show this
   show JB ok st '2' '2' h e
  .show d.elim
 .show d.elim
def OA:pC:=(p1 λx f K=>∃rs:List By,x=.lst (rs.map AW)/\rs.length<64/\(rs.length<2\/∃n,0<n/\∀r∈rs,r.length=n)/\∀rs':List By,rs'.Perm rs->Dr rs'->K (.lst (rs'.map AW)) .nw)
theorem OB:∀{rs}{vs},AC b Z H (rs.map AW) vs->∃ps,vs=DN ps/\ps.map (·.2)=rs/\∀q∈ps,H q.1\(.tup (q.2.map V.int))
 |[],vs,h=>{[],h,0,λ_ h=>nomatch h}|r::rs,vs,h=>by
  let[v,t,0,[p,us,0,e,d],h2]:=h;let[ps,a,b,c]:=OB h2;rw[AC.ints.mp d]at e;show{(p,r)::ps,by rw[a];rfl,by simp_all,λq hq=>?_};let 0||hq:=aF.mp hq
  .show e
  .show c q hq
def eG:DY TD OA:=λW U Y Hs H Q K xs vs ok st r d q=>by
 unfold OA p1 at d;split at d
 .let[v,0,rv]:=r.one;let[rs,0,o,f,m]:=d;let[p,us,0,c,i]:=Dc ok rv;let[ps,0,e,h]:=OB i;let s:ps.length=rs.length:=by rw[<-e,aA]
  show{p,ps,0,c,h,(by simp_all),?_,λl ps' a h1 h2=>q _ _ _ _ (m _ (by rw[<-e];show h1.map _) h2) (Step.new ok.bag a) ?_}
  .let f||[n,j,f]:=f
   .show .inl (by simp_all)
   .show .inr {n,j,λq g=>f _ (by rw[<-e];show aP g)}
  .let:=K1 (b:=W.b) (Z:=AL W U Y .nw) λq g=>h q (h1.mem_iff.mp g);rw[show(ps'.map λq=>AW q.2)=(ps'.map _).map AW by rw[bZ];rfl]at this;show JB ok st '2' '2' this a
 .show d.elim
end L2
namespace HT
section
open PySem.SeqAt
open PySem.AutoSeq1(wpAny_loadPart')
open PySem.MeetsSeq PySem.MeetsSeq2 PySem.MeetsSeq3
end
end HT
namespace L2
def JG(K:Fg)(l1 l2:Addr):It:=({λi H=>∃xs ys,BA K H l1 xs/\BA K H l2 ys/\i<xs.length/\i<ys.length,λi H v H'=>∃T x y,H T=none/\v=.ref T/\H'=AA H T (.tup [x,y])/\∀xs ys,BA K H l1 xs->BA K H l2 ys->xs[i]?=some x/\ys[i]?=some y,λi H=>∃xs ys,BA K H l1 xs/\BA K H l2 ys/\(xs.length<=i\/ys.length<=i)})
theorem eI{P}{K}{z TI TO l i2}(D:ZipApart z TI TO l i2 l1 l2):Turn P w K (.Tuple elts x1 pos) (JG K l1 l2) [z,TI,TO,l,i2] z (λi h=>IsZip h z TI TO .none/\IsPair h TI (.ref l) (.ref i2)/\(∃a b,IsPair h TO a b)/\h.IsListIter l l1 i/\h.IsListIter i2 l2 i)where
 mem:='2'
 obj:=λi h st b hb=>by
  done<;>let[m,f,[a,c,j],[L,B,_,d1],[G,A,_,d2]]:=st;simp only[aF,bB,or_false]at hb;done<;>rcases hb with rfl|rfl|rfl|rfl|rfl
  .show{_,m,λv q=>nomatch q}
  .show{_,f,λv q=>nomatch q}
  .show{_,j,λv q=>nomatch q}
  .show{_,B,λv q=>by rw[d1]at q;cases q}
  .show{_,A,λv q=>by rw[d2]at q;cases q}
 keep:=λi h h' st k=>by done<;>let[m,f,[a,c,j],[L,B,r1],[G,A,r2]]:=st;show#[k z '2' _ m,k TI '2' _ f,{a,c,k TO '2' _ j},{L,k l '2' _ B,r1},{G,k i2 '2' _ A,r2}]
 item:=by
  intro X hP hw hK hc i qA s Y H E I hf st hg;subst hP hw hK;done<;>(let[m,f,[a,c,j],h1,h2]:=st;let[xs,ys,σ,ρ,g1,g2]:=hg;let[qG,rv,pq,a7]:=I.list σ;let p:=pq.isList;let[M,n,r,N]:=I.list ρ);let p2:=r.isList;let hx:xs[i]?\xs[i]:=by simp[g1]
  let hy:ys[i]?\ys[i]:=by simp[g2]
  done<;>(let[u,hu,ru]:=rv.get hx;let[C,a8,a0]:=n.get hy);show wpAny_pyNext_zip_item D m f j h1 h2 p p2 (~~~hu) (~~~a8) λh' a1 a2 a3 a4 a5 a6 hk=>{_,0,wpAny_letOwnedTupleGo_zip a1 λT O d=>?_};let a9:=I.fresh;let J:Inv X qA Y (AA H 'H' (.tup [xs[i],ys[i]])) {s with heap:=s.heap.push {cls:=.type "tuple",data:=.seq [u,C].toArray}}:=I.laid (λb o q=>aS _ q) (aQ _) {by change 2<=sizeLine;decide,[u,C],.cons ru (.cons a0 .nil),Dm.new _ _}
  let Q:∀b∈[z,TI,TO,l,i2],b≠'H':=λb hb e=>by
   let o:∃o,'F' b\o:=by
    simp only[aF,bB,or_false]at hb;let[L,B,_]:=h1;let[G,A,_]:=h2;rcases hb with rfl|rfl|rfl|rfl|rfl
    .show#[_,m]
    .show#[_,f]
    .show#[_,j]
    .show#[_,B]
    .show#[_,A]
   let[o,q]:=o;show bS (bN q) (by rw[e];show aX _)
  let hn:∀b∈[z,TI,TO,l,i2],AA H 'H' (.tup [xs[i],ys[i]]) b=none:=λb hb=>by rw[AE (Q b hb)];show(hf b hb).1
  let nz:=(Q z '2').symm;let J2:Inv X qA Y (AA H 'H' (.tup [xs[i],ys[i]])) {s with heap:=T}:=by
   show Inv.turnedL (s:={s with heap:=s.heap.push {cls:=.type "tuple",data:=.seq [u,C].toArray}}) (ch:=[z,TO,l,i2]) J (λb o hb q=>?_) (λb hb=>{hn b ?_,(hf b ?_).2})
   .simp only[aF,bB,or_false,not_or]at hb;by_cases e:b='H'
    .subst e;let q':=q;rw[bP _ rfl]at q';cases q';show d.extBut _ _ nz a5
    .let q0:'F' b\o:=by rw[<-Heap.get?_push_ne _ _ _ e];show q
     show d.extBut _ _ hb.1 (hk b o hb.1 hb.2.1 hb.2.2.1 hb.2.2.2 q0)
   .simp only[aF,bB,or_false]at hb⊢;rcases hb with h|h|h|h<;>simp[h]
   .simp only[aF,bB,or_false]at hb⊢;rcases hb with h|h|h|h<;>simp[h]
  show{.ref 'H',_,J2,0,{_,_,_,a9,0,0,λab aa z1 z2=>?_},?_,hn}
  .rw[I.list_inj z1 σ,I.list_inj z2 ρ];show#[hx,hy]
  .done<;>(let[L,B,r1]:=a3;let[G,A,r2]:=a4);show#[O,d.extBut _ _ D.TIz (hk _ _ D.TIz D.TITO D.TIi1 D.TIi2 f),{_,_,d.extBut _ _ D.TOz a2},{L,d.extBut _ _ D.i1z B,r1},{G,d.extBut _ _ D.i2z A,r2}]
 done:=by
  intro X hP hw hK hc i qA s Y H E I hf st hg;subst hP hw hK;done<;>(let[m,f,[a,c,j],h1,h2]:=st;let[xs,ys,σ,ρ,g]:=hg;let[qG,rv,pq,a7]:=I.list σ;let p:=pq.isList;let[M,n,r,N]:=I.list ρ);let p2:=r.isList;let l1:=rv.length;let l2:=n.length;show wpAny_pyNext_zip_end (I.ok.hd hc) D m f j h1 h2 p p2 '4' λh' hk=>{0,I.turnedL (ch:=[z,TO,l,i2]) (λb o hb q=>?_) λb hb=>hf b ?_}
  .simp only[aF,bB,or_false,not_or]at hb;show hk b o hb.1 hb.2.1 hb.2.2.1 hb.2.2.2 q
  .simp only[aF,bB,or_false]at hb⊢;rcases hb with h|h|h|h<;>simp[h]
 self:=λ_ _ _ _ _ st h=>wpAny_pyIter_zip st.1 h
def Tf(K:Fg)(ta:TA):TI:=(λY H R=>ta Y H λvs H1=>∃l1 l2 xs ys,vs=[.ref l1,.ref l2]/\BA K H1 l1 xs/\BA K H1 l2 ys/\R (JG K l1 l2) H1)
def eJ{a b}{ta}{p}{x1}{tp}(M:Gl X "zip")(J:X.mg "zip"=none)(N:PA X [a,b] ta)(G:starEach [a,b] X.env=[(false,eval a X.env),(false,eval b X.env)]:=by rfl)(d:starEach [b] X.env=[(false,eval b X.env)]:=by rfl):PI X (.Tuple elts x1 tp) (.Call (.Name "zip" p) [a,b] [] pos) (Tf X.K ta):=by
 intro qA s Y H R I h;show Call_ (F9 I M J Rr (PyProof.Rows.callWith_type1 (AR (N pos qA s Y H _ I h) λus c zz=>?_) (by rw[G,d]) (by rw[d];rfl)));done<;>(let[vs,H1,g,r,C]:=zz;let[l1,l2,xs,ys,0,B,A,q]:=C;let[u,v,0,y,rv]:=r.two);cases(y);cases(rv);done<;>(let[qG,r,j,_]:=g.list B;let p1:=j.isList;let[w,Q,i,_]:=g.list A);let p2:=i.isList;show call_zip_2 p1 p2 λh' x o n E D _ L=>?_;let O:Inv X qA Y H1 {c with heap:=h'}:=g.kept L;let m:l1<c.heap.objs.size:=by let[_,e,_]:=p1;show bN e
 let l:l2<c.heap.objs.size:=by let[_,e,_]:=p2;show bN e
 show wpAny_pyIter_zip x {_,[c.heap.objs.size+4,c.heap.objs.size+2,c.heap.objs.size+3,c.heap.objs.size,c.heap.objs.size+1],_,_,H1,0,O,eI (zipApart_new m l),{x,o,#[_,_,n],E,D},λb hb=>?_,q};let f:c.heap.objs.size<=b:=by simp only[aF,bB,or_false]at hb;rcases hb with h|h|h|h|h<;>rw[h]<;>first|show Nat.le_add_right _ _|show aQ _
 show g.fpOk f (g.hok.fresh f)
def Tg:R2:=(λx y H Q=>∃a b ns ms,x=.ref a/\y=.ref b/\H a\(.tup (ns.map V.int))/\H b\(.tup (ms.map V.int))/\Q (.bl (HT.lexLt ns ms)) H)
def eK(f:Room k X.A):A1 X (compareOp .Lt) Tg:=by rintro qA s Y H x y v u Q I d c⟨a,b,ns,e,i,g,h1,h2,q⟩;show Ya f.units0 qA s Y H x y v u Q I d c {a,b,ns,e,i,g,.of h1,.of h2,q}
def Th(g:By->By->Bool):p2:=(λx _ y _ K=>∃ns ms,EA x\ns/\EA y\ms/\K (.bl (g ns ms)) .fr)
abbrev eL:p2:=Th HT.lexLt
def Ti{x}(ok:Ok W U Y H)(g:EA x\ns)(r:RF W U Y Hs f H x v):∃a,v=.ref a/\H a\(.tup (ns.map V.int)):=by rw[TM g]at r;let[p,us,e,c,d]:=EQ ok r;rw[AC.ints.mp d]at c;show#[p,e,c]
def eM:BL Tg eL:=λW U Y Hs H Q K x y f h v u ok st d c g q=>by let[ns,e,l,j,i]:=g;let[a,0,n]:=Ti ok l d;let[b,0,m]:=Ti ok j c;show{a,b,ns,e,0,0,n,m,q _ _ _ H i (Step.refl ok.bag) FH}
def DO(x y:P):P:=(.tup [x,y])
def Tj(pa pb:pE):pI:=(λU K=>pa U λx f=>pb U λy g=>∃xs ys,x=.lst xs/\y=.lst ys/\(P.imms xs=true/\P.imms ys=true)/\K (zipWith DO xs ys) .fr (D9 f&&D9 g))
section
variable{a b:Expr}{p1 tp:Pos}{x1:Nat}
def eN(hK:∀i,(Xs i).K=Kf)(hm:∀i,(Xs i).mg "zip"=none)(ha:QE Xs a pa)(hb:QE Xs b pb)(hg:∀i,Gl (Xs i) "zip":=by rfl)(hs:∀i,starEach [a,b] (Xs i).env=[(false,eval a (Xs i).env),(false,eval b (Xs i).env)]:=by rfl)(w:∀i,starEach [b] (Xs i).env=[(false,eval b (Xs i).env)]:=by rfl):QI Xs (.Tuple elts x1 tp) (.Call (.Name "zip" p1) [a,b] [] pos) (Tj pa pb):=by
 done<;>(let[ta,M,a2]:=ha;let[tb,L,b2]:=hb);show{Tf Kf (BI ta (BI tb B5)),λi=>?_,λW U Y H R K ok hk q=>a2 W U Y H _ _ ok hk λx f v H1 h1 N r1=>b2 W U Y H1 _ _ (ok.step N) h1 λy g u H2⟨xs,ys,j,h,⟨i1,i2⟩,a0⟩s2 Q=>?_}
 .let:=eJ (elts:=elts) (x1:=x1) (tp:=tp) (p:=p1) (pos:=pos) (hg i) (hm i) (AG (M i) (AG (L i) AS (by rw[w i];rfl)) (by rw[hs i,w i])) (hs i) (w i);rw[hK i]at this;show this
 .subst j;subst h;let D:=N.trans s2;let c:=ok.step D;let s:=r1.step (ok.step N) s2;done<;>(let[l1,vs,0,c1,G]:=Dc c s;let[l2,us,0,c2,E]:=Dc c Q);let nb:∀{f}{xs}{l}{Hs},RF W U Y Hs f H2 (.lst xs) (.ref l)->l≠W.b:=λr=>by let[p',a5,j,h,_]:=r.any c;cases j;show h
  let σ:=nb s;let ρ:=nb Q;let a4:=G.length;let a3:=E.length;let core:∀B ρ' σ' H',H' l1\(.lst vs)->H' l2\(.lst us)->(∀p vs,H2 p\(.tup vs)->H' p\(.tup vs))->Bag H' W.b W.a->∀i,(i<(zipWith DO xs ys).length->(JG Kf l1 l2).go i H')/\((zipWith DO xs ys).length<=i->(JG Kf l1 l2).stop i H')/\∀v n,(JG Kf l1 l2).yld i H' v n->∀x,(zipWith DO xs ys)[i]?\x->Step W.b W.a H' n/\RF {W with O:=B} ρ' σ' H' .fr n x v:=λB ρ' σ' H' g1 g2 gt hb i=>by
   show{λhi=>?_,λhi=>?_,λv n yl x m=>?_}
   .rw[length_zipWith]at hi;show{vs,us,.of g1,.of g2,⋯,⋯}
   .rw[length_zipWith]at hi;show{vs,us,.of g1,.of g2,⋯}
   .let[T,x',y',hT,0,0,e]:=yl;let[j,h]:=e vs us (.of g1) (.of g2);rw[getElem?_zipWith]at m;cases ex:xs[i]? with|none=>rw[ex]at m;simp at m|some px=>cases J:ys[i]? with|none=>rw[ex,J]at m;simp at m|some I=>
      rw[ex,J]at m;let m:DO px I=x:=by simpa using m
      subst m;let[v1,M,a2]:=G.get ex;let[v2,L,b2]:=E.get J;rw[j]at M;cases M;rw[h]at L;cases L;let m1:=HS.mp i1 px (aM ex);let m2:=HS.mp i2 I (aM J);show{Step.new hb hT,?_};let k1:Rp W.b (AL {W with O:=B} ρ' σ' .fr) (AA H' T (.tup [x',y'])) px x':=(((a2.imm m1).keep (Z':=λ_=>True) (λp o hz=>bS trivial hz) (λp C e=>by rw[AE (Ak (gt p C e) hT)];show gt p C e)).imm m1);let k2:Rp W.b (AL {W with O:=B} ρ' σ' .fr) (AA H' T (.tup [x',y'])) I y':=(((b2.imm m2).keep (Z':=λ_=>True) (λp o hz=>bS trivial hz) (λp C e=>by rw[AE (Ak (gt p C e) hT)];show gt p C e)).imm m2);show{T,[x',y'],0,AJ,x',[y'],0,k1,y',[],0,k2,0}
  show{l1,l2,vs,us,0,.of c1,.of c2,q _ _ _ _ H2 a0 D (λB ρ' σ' H' A i=>?_) (λd B ρ' σ' H' A i=>?_)}
  .done<;>let[_,0,0,a6,st]:=A;show core B _ _ H' (st.same l1 _ σ c1) (st.same l2 _ ρ c2) (λp C e=>st.same p _ (c.bag.neT e).1 e) st.bag i
  .let[0,A]:=A;rw[cB]at d;let k1:=Iu c A (Ka d.1);let k2:=Iu c A (Ka d.2);let nz:∀{f}{xs}{l:Addr}{Hs:Hp},D9 f=true->RF W U Y Hs f H2 (.lst xs) (.ref l)->¬AL W U Y f l:=λ{f xs l Hs}hf r=>by cases f with|nw=>let[q,us,j,h,_]:=r.1;cases j;show h|fr=>let[q,us,j,h,_]:=r;cases j;show h|cl=>let[q,us,j,h,_]:=r;cases j;show h|_=>simp[D9]at hf
   show core _ _ _ H' (k1.1 l1 _ (nz d.1 s) c1).2 (k2.1 l2 _ (nz d.2 Q) c2).2 k1.2 A.bag i
end
abbrev AQ(ns:At):P:=.tup (ns.map P.str)
abbrev A5(q:By×Int):P:=.tup [AW q.1,.int q.2]
abbrev Ab(t:List (By×Int)):P:=.lst (t.map A5)
abbrev CS(t:List (By×Int)):P:=.dT (t.map (·.1)) (t.map λq=>.int q.2)
@[simp]theorem CM(r):(AW r).imm=true:='2'
@[simp]theorem OC(q):(A5 q).imm=true:='2'
@[simp]theorem Ht(t:List (By×Int)):P.imms (t.map A5)=true:=HU OC t
@[simp]theorem Tk(t:List By):P.imms (t.map AW)=true:=HU CM t
@[simp]theorem ABL(n)(r):(AW r).pl (n+1)=true:='2'
@[simp]theorem Tn(n)(q):(A5 q).pl (n+2)=true:='2'
@[simp]theorem ABM(n)(t:List (By×Int)):(t.map A5).all (P.pl (n+2))=true:=Nj (Tn n) t
def JH(a b):AU (.int a) (.int b)=decide (a=b):=rfl
def Cy(a b):AU (.str a) (.str b)=decide (a=b):=rfl
def eO(a b):AU (.bl a) (.bl b)=decide (a=b):=rfl
def OD(r):(AW r).nb=true:=by show Km dF r
def eP(q):(A5 q).nb=true:=by rw[P.nb,P.nbs,OD];rfl
def Tp(t):(Ab t).nb=true:=by show Km eP t
def Tq(r):(AQ r).nb=true:=by show Km dF r
def Tr{a b:By}(h:a.map P.int=b.map P.int):a=b:=by let:=aT (map λp=>match p with|P.int i=>i|_=>0) h;simpa[Function.comp_def]using this
def Ts{a b:At}(h:a.map P.str=b.map P.str):a=b:=by let:=aT (map λp=>match p with|P.str i=>i|_=>{#[]}) h;simpa[Function.comp_def]using this
def OE{a b}(h:AW a=AW b):a=b:=Tr (P.tup.inj h)
def Tt{a b}(h:A5 a=A5 b):a=b:=by let h:=P.tup.inj h;simp only[List.cons.injEq]at h;show Prod.ext (OE h.1) (P.int.inj h.2.1)
theorem K3{α:Type}{f:α->P}(c:∀a b,f a=f b->a=b):∀{a b:List α},a.map f=b.map f->a=b|[],[],_=>rfl|[],_::_,h=>by simp at h|_::_,[],h=>by simp at h|x::a,y::b,h=>by simp only[map_cons,List.cons.injEq]at h;rw[c x y h.1,K3 c h.2]
def eQ{a b}(h:Ab a=Ab b):a=b:=K3 (λ_ _=>Tt) (P.lst.inj h)
def eR(a b):AU (AW a) (AW b)=decide (a=b):=by rw[Bool.eq_iff_iff,Kl (OD a) (OD b),aW];show{OE,λh=>by rw[h]}
def eS(a b):AU (Ab a) (Ab b)=decide (a=b):=by rw[Bool.eq_iff_iff,Kl (Tp a) (Tp b),aW];show{eQ,λh=>by rw[h]}
def OF(a b):AU (AQ a) (AQ b)=decide (a=b):=by rw[Bool.eq_iff_iff,Kl (Tq a) (Tq b),aW];show{λh=>Ts (P.tup.inj h),λh=>by rw[h]}
def Bw(t:List (By×Int))(r:By)(c:Int):List (By×Int):=(if r∈t.map (·.1)then t.map (λq=>if q.1=r then(q.1,c)else q)else t++[(r,c)])
def Ag(t:List (By×Int))(r:By):Option Int:=((t.find? λq=>decide (q.1=r)).map (·.2))
theorem K4(r):∀t,BO (t.map (·.1)) (t.map λq=>P.int q.2) r=(Ag t r).map P.int
 |[]=>rfl|q::t=>by
  simp only[map_cons,BO];unfold Ag;by_cases e:q.1=r
  .simp[e]
  .rw[K4 r t];simp[e,Ag]
theorem Tu(r)(c):∀t:List (By×Int),zipWith (λk0 v=>if k0=r then P.int c else v) (t.map (·.1)) (t.map λq=>P.int q.2)=(t.map (λq=>if q.1=r then(q.1,c)else q)).map λq=>P.int q.2|[]=>rfl|q::t=>by simp only[map_cons,zipWith_cons_cons,Tu r c t];by_cases e:q.1=r<;>simp[e]
def JI(t)(r)(c):P.dT (Cb (t.map (·.1)) r) (Cn (t.map (·.1)) (t.map λq=>P.int q.2) r (.int c))=CS (Bw t r c):=by
 unfold Cb Cn Bw CS;by_cases h:r∈t.map (·.1)
 .rw[aC h,aC h,aC h,Tu]
  congr 1
  rw[bZ];show cF λq _=>?_;by_cases e:q.1=r<;>simp[e]
 .rw[aB h,aB h,aB h];simp
def K5(t)(r)(c):(Bw t r c).length<=t.length+1:=by unfold Bw;split<;>simp
def K6(h:∀q∈t,q.1.length=n)(e:r.length=n):∀q∈Bw t r c,q.1.length=n:=by
 unfold Bw;split
 .intro q a;let[p,d,0]:=bU.mp a;split
  .show h p d
  .show h p d
 .intro q a;let z||z:=bA.mp a
  .show h q z
  .rw[bI.mp z];show e
def Tv(t)(r)(c):(Bw t r c).map (·.1)=if r∈t.map (·.1)then t.map (·.1)else t.map (·.1)++[r]:=by
 unfold Bw;split
 .rw[bZ];show cF λq _=>?_;by_cases e:q.1=r<;>simp[e]
 .simp
set_option tactic.hygienic true in
def Tw(h:(t.map (·.1)).Nodup):((Bw t r c).map (·.1)).Nodup:=by
 rw[Tv];split
 .show h
 .rename_i d;rw[nodup_append];show{h,'2',λa f b hb=>by rw[bI.mp hb];showλe=>d (e▸f)}
theorem OG:∀{a b},a.Perm b->Dr a->Dr b->a=b
 |[],b,h,_,_=>(nil_perm.mp h).symm|x::xs,[],h,_,_=>bS h.length_eq '2'|x::xs,y::ys,h,h1,h2=>by
  let e:x=y:=by
   let hx:=h.mem_iff.mp cA;let hy:=h.mem_iff.mpr cA;let e||hx:=aF.mp hx
   .show e
   .let e||hy:=aF.mp hy
    .simp_all
    .show Ib x y ((cT.mp h2).1 x hx) ((cT.mp h1).1 y hy)
  subst e;rw[OG ((perm_cons x).mp h) (cT.mp h1).2 (cT.mp h2).2]
def Hu(x:By):List By->List By|[]=>[x]|y::r=>if HT.lexLt y x=true then y::Hu x r else x::y::r
def De:List By->List By|[]=>[]|x::r=>Hu x (De r)
theorem OH(x):∀r,(Hu x r).Perm (x::r)
 |[]=>List.Perm.refl _|y::r=>by
  unfold Hu;split
  .show((OH x r).cons y).trans (List.Perm.swap x y r)
  rfl
theorem FO:∀r,(De r).Perm r|[]=>List.Perm.refl _|x::r=>(OH x _).trans ((FO r).cons x)
set_option tactic.hygienic true in
theorem Tz(x):∀{r},Dr r->Dr (Hu x r)
 |[],_=>pairwise_singleton _ _|y::r,h=>by
  unfold Hu;let h1:=cT.mp h;split
  .rename_i a;show cT.mpr {λz hz=>?_,Tz x h1.2};let e||hz:=aF.mp ((OH x r).mem_iff.mp hz)
   .rw[e];cases c:HT.lexLt x y
    .rfl
    .let:=HR _ _ _ a c;rw[HQ]at this;cases this
   .show h1.1 z hz
  .rename_i a;let a:HT.lexLt y x=false:=by simpa using a
   show cT.mpr {λz hz=>?_,h};let e||hz:=aF.mp hz
   .rw[e];show a
   .cases c:HT.lexLt z x
    .rfl
    .let q||q:=ND z y x c
     .rw[h1.1 z hz]at q;cases q
     .rw[a]at q;cases q
theorem JJ:∀r,Dr (De r)|[]=>List.Pairwise.nil|x::r=>Tz x (JJ r)
def T0{rs a}(h:a.Perm rs)(c:Dr a):a=De rs:=OG (h.trans (FO rs).symm) c (JJ rs)
def Bf(t:List (By×Int)):List (By×Int):=(((De (t.map (·.1))).filter λr=>decide ((Ag t r).getD 0≠0)).map λr=>(r,(Ag t r).getD 0))
def T3(h:r∈t.map (·.1)):∃c,Ag t r\c:=by let[q,a,e]:=bU.mp h;unfold Ag;cases d:t.find? λq=>decide (q.1=r)with|some p=>simp|none=>show bS (aK e) (~~~(find?_eq_none.mp d q a))
def K7:pF:=(λxs K=>∃n b:Int,xs=[.bag,.int n,.int b]/\0<=n/\n<=100/\0<b/\b<2^64/\∀r:By,(r.length:Int)=n->(∀x∈r,0<=x/\x<b)->K (AW r))
def T4:pF:=(λxs K=>xs=[.bag]/\∀c:Int,1<=c->c<=1000000000000->K (.int c))
def Rows(t:List (By×Int)):Prop:=(t.length<2\/∃n,0<n/\∀q∈t,q.1.length=n)
def QS.weak{st}{p m}(h:QS Xs st p)(hw:∀E U,m E U->p E U):QS Xs st m:=by let[t,h1,h2]:=h;show{t,h1,λW U Y H D E ok h r=>h2 W U Y H D E ok (hw E U h) r}
structure Drawn(n:Nat)(t:List (By×Int)):Prop where
 len:t.length<=40
 rows:∀q∈t,q.1.length=n
 nd:(t.map (·.1)).Nodup
 row:∀q∈t,∀x∈q.1,0<=x/\x<=9
 cnt:∀q∈t,1<=q.2/\q.2<=1000000000000
def T5{q}(h:q∈Bw t r c):q∈t\/q=(r,c):=by
 unfold Bw at h;split at h
 .let[p,a,e]:=bU.mp h;by_cases z:p.1=r
  .simp_all
  simp_all
 simp_all
structure DrawnI(n i:Nat)(t:List (By×Int)):Prop where
 len:t.length<=i
 rows:∀q∈t,q.1.length=n
 nd:(t.map (·.1)).Nodup
 row:∀q∈t,∀x∈q.1,0<=x/\x<=9
 cnt:∀q∈t,1<=q.2/\q.2<=1000000000000
def DrawnI.nil:DrawnI n 0 []:=#['2','2','2','2','2']
theorem DrawnI.put(h:DrawnI n i t)(f:r.length=n)(d:∀x∈r,0<=x/\x<=9)(h1:1<=c)(h2:c<=1000000000000):DrawnI n (i+1) (Bw t r c)where
 len:=aR (K5 t r c) (Nat.add_le_add_right h.len 1)
 rows:=K6 h.rows f
 nd:=Tw h.nd
 row:=λq a=>(T5 a).elim (h.row q) λe=>by rw[e];show d
 cnt:=λq a=>(T5 a).elim (h.cnt q) λe=>by rw[e];show#[h1,h2]
def DrawnI.out(h:DrawnI n i t)(hi:i<=40):Drawn n t:={aR h.len hi,h.rows,h.nd,h.row,h.cnt}
def T6:pF:=(λxs K=>∃qI,xs=[.bag,AQ qI]/\qI.length<=9/\∀t,Drawn qI.length t->K (Ab (Bf t)))
def BC(n:Nat)(r:By):Bool:=(decide (r.length=n)&&r.all λx=>decide (0<=x/\x<=9))
def GZ:List By->Bool|a::b::r=>HT.lexLt a b&&GZ (b::r)|_=>true
def Dt(n:Nat)(t:List (By×Int)):Bool:=((t.all λq=>BC n q.1&&decide (1<=q.2))&&GZ (t.map (·.1)))
def K8:pF:=(λxs K=>∃qI r,xs=[AQ qI,AW r]/\r.length<=1000/\K (.bl (BC qI.length r)))
def eT{a b:At}:(a.map P.str=b.map P.str)=(a=b):=propext {Ts,λh=>by rw[h]}
def eU{a b:By}:(a.map P.int=b.map P.int)=(a=b):=propext {Tr,λh=>by rw[h]}
def eV{a b:List (By×Int)}:(a.map A5=b.map A5)=(a=b):=propext {λh=>K3 (λ_ _=>Tt) h,λh=>by rw[h]}
def eW{a b:List By}:(a.map AW=b.map AW)=(a=b):=propext {λh=>K3 (λ_ _=>OE) h,λh=>by rw[h]}
def K9(t):(Bf t).length<=t.length:=by unfold Bf;rw[aA];show aR (length_filter_le _ _) ?_;rw[(FO _).length_eq,aA];show aQ _
def T7{q}(h:q∈Bf t):q.1∈t.map (·.1):=by let[r,a,0]:=bU.mp h;show(FO _).mem_iff.mp (cX.mp a).1
open PySem.W PySem.SeqAt
def eX{a}(f)(I:FG->a->Shared->Prop)(Q)(turn:∀y l c u,I (y::l) c u->wpAny M A (f y c) (λz u'=>match z with|.yield d=>I l d u'|.done d=>Q d u') E u)(fin:∀b s,I [] b s->Q b s)(m)(b)(h:I (range' 0 m) b s):wpAny M A (forIn [0:m] b f) Q E s:=by rw[Std.Legacy.Range.forIn_eq_forIn_range'];simp only[Std.Legacy.Range.size,Nat.sub_zero,Nat.add_sub_cancel,Nat.div_one];show wpAny_forIn_list f I Q turn fin _ b h
def eY(l)(items:Ex)(n)(dd:Ge)(sl:Array Do)(x)(e:Value->Bool)(j)(C)(q:e items[j]=true)(p:∀m(B:m<items.size),m<j->e items[m]=false):Meets (Builtin.«tuple.index» {[.ref l,x],[]})
   (λA R s=>'F' l\{cls:=.type "tuple",dict:=dd,data:=.seq items n,slots:=sl}/\(∀y,y∈items->EqAt A.in1 s y x (e y))/\R (.ok (.ret (.int j s.toks))) {s with toks:=s.toks+1}):=.of_wp λprog w A R s h=>by
  let[r,g,d,tk,os]:=s;let[u,v,h]:=h
  wp_walk using wpAny_loadPart' u,eX _ (λqF b s'=>b.1=none/\s'=#[r,g,d,tk,os]/\∃i,i<=j/\qF=range' i (items.size-i)) _
  case turn=>
   rintro i qF b s'⟨hb,rfl,f,hi,o⟩;obtain⟨rfl,a⟩:i=f/\qF=range' _ _:=by
    let e:items.size-f=(items.size-(f+1))+1:=⋯;rw[e,range'_succ]at o;injection o with h1 h2
    show#[h1,h2]
   let c:i<items.size:=⋯;rw[cL c];show wB (v _ (Array.getElem_mem c) prog w _ _ ?_);by_cases z:i=j
   .subst z;wp_walk
    show#[_,0,h]
   .rw[p i c ⋯]
    wp_walk
    show{0,0,i+1,⋯,a}
  case fin=>rintro⟨E,D⟩s'⟨hb,rfl,i,hi,o⟩;let:=aT length o;simp at this;lia
  case h=>show{0,0,(0),cD _,'2'}
def T8:V->dH->Hp->VK->Prop:=(λx vs H Q=>∃(p:Addr)(ss:At)(z:Str)(j:Nat),x=.ref p/\vs=[.str z]/\H p\(.tup (ss.map V.str))/\ss[j]?\z/\(∀m,m<j->ss[m]?≠some z)/\Q (.int j) H)
def T9(r:V->dH->Hp->VK->Prop)(to:TE)(t:TA):TE:=(λY H Q=>to Y H λx H1=>(∃p vs,x=.ref p/\H1 p\(.tup vs))/\t Y H1 λxs H2=>r x xs H2 Q)
section
variable{o e:Expr}{to:TE}{t:TA}{name:Str}{id:String}{r:V->dH->Hp->VK->Prop}
def eZ(slot:Slot "tuple" name id)(j:typeOf (.builtin id)=pure (.type "method_descriptor"))(L:HG X id r)(J:PE X o to)(M:PA X (e::es) t)(f:attributeBase o name X.env (eval o X.env)=eval o X.env:=by rfl)(g:((backTo qJ (starEach (e::es) X.env)).all (λx=>!x.1)&&(backToKw qJ (keywordEach [] X.env)).all (λx=>x.1.isSome)&&decide ((e::es).length+([]:List Keyword).length+(if([]:List Keyword).isEmpty then 0 else 1)<30))=true:=by rfl)(d:(qK.endLine==qJ.line)=true:=by rfl)(E:starEach (e::es) X.env=(false,eval e X.env)::starEach es X.env:=by rfl)(c:(backTo qJ (starEach es X.env)).any (·.1)=false:=by rfl):PE X (.Call (.Attribute o name qK) (e::es) [] qJ) (T9 r to t):=by
 intro qA s Y H Q I h;show wpAny_Call_method_late f g d rfl (AR (J qA s Y H _ I h) λv i zz=>?_);done<;>let[x,H1,u,A,[p,ρ,ex,G],C]:=zz;subst ex;cases A;let[_,qG,_,D]:=u.hok p _ G;let l:i.TypeIs (.ref p) "tuple"/\∀a,Value.ref p=.ref a->∃m,i.heap.get? a\m/\m.dict=none:=by let[o',q,O,_,N]:=D;show#[#[_,q,O],λa e=>by cases e;show#[_,q,N]]
 let[h1,h2]:=l;show{"tuple",id,PySem.F.plainAttrs_tuple,slot,j,h1,h2,?_};let n:=M qJ qA i Y H1 _ u C;rw[E]at n⊢;show Calls.callWith_builtin (by change(false||(backTo qJ _).any _)=false;rw[c]<;>rfl) (Calls.evalArgs_plain ?_);show AR n λus w zz=>(by let[vs,H2,T,y,B]:=zz;show L qA w Y H2 (.ref p) vs _ us Q T rfl y B)
def ec:HG X "tuple.index" T8:=by
 rintro qA s Y H x vs v us Q I N rv iq;done<;>let[p,o,z,j,0,0,σ,J,C,q]:=iq;cases N;done<;>(let[u,0,O]:=rv.one;let[t,0]:=O;let[_,qG,w,ρ]:=I.hok p _ σ);let E:=w.length;rw[aA]at E;let l:∀(m)(g:m<qG.toArray.size),∃x t',o[m]?\x/\qG.toArray[m]=.str x t':=λm g=>by
  let r:m<o.length:=by simpa[E]using g
  let[y,f,t',d]:=w.get (i:=m) (x:=V.str o[m]) (by simp[r]);show{o[m],t',by simp[r],?_};let B:qG[m]?\(qG.toArray[m]):=by simp[by simpa using g]
  rw[f]at B;show(oI B).symm.trans d
 let G:=(aI.mp J).1;let A:j<qG.toArray.size:=by simpa[<-E]using G
 obtain⟨n,sl,M⟩:∃(n:Nat)(sl:Array Do),'F' p\{cls:=.type "tuple",dict:=none,data:=.seq qG.toArray n,slots:=sl}:=by done<;>let[[c,dd,da,sl],f,d,[n,B],L]:=ρ;simp only at d B L;subst d B L;show#[n,sl,f]
 show call_meets PySem.F.slot_tuple_index #[_,M,0] PySem.F.entry_tuple_index (PySem.F.args_tuple_index_2 _ _)
  (eY p qG.toArray _ none _ (.str z t) (λy=>match y with|.str a _=>a==z|_=>false) j A ?_ ?_) #[M,λy T=>?_,{.int j,H,I.tok _,#[_,0],q}]
 .let[x,t',f,d]:=l j A;rw[J]at f;cases f;rw[d];simp
 .intro m g D;let[x,t',f,d]:=l m g;rw[d];let:x≠z:=λe=>C m D (by rw[f,e]);simp[this]
 .let[m,g,0]:=Array.getElem_of_mem T;let[x,t',f,d]:=l m g;rw[d];show EqAt.str_str x t' z t
end
end L2
namespace L2
open PySem.W
def UA(po pe:pE):pE:=(λU K=>po U λx _=>(∃xs,x=.tup xs)/\pe U λy _=>∃(ss:At)(z:Str)(j:Nat),x=AQ ss/\y=.str z/\ss[j]?\z/\(∀m,m<j->ss[m]?≠some z)/\K (.int j) .fr)
section
variable{o e:Expr}{po:pE}
def OJ(E:QE Xs o po)(J:QE Xs e pe)(hb:∀i,attributeBase o "index" (Xs i).env (eval o (Xs i).env)=eval o (Xs i).env:=by rfl)(G:(qK.endLine==qJ.line)=true:=by rfl)(d:∀i,starEach [e] (Xs i).env=[(false,eval e (Xs i).env)]:=by rfl):QE Xs (.Call (.Attribute o "index" qK) [e] [] qJ) (UA po pe):=by let[to,D,C]:=E;let[te,σ,ρ]:=J;show{T9 T8 to _,λi=>eZ PySem.F.slot_tuple_index PySem.F.type_tuple_index ec (D i) (AG (σ i) AS (d i)) (hb i) (by rw[d i];rfl) G (d i) rfl,λW U Y H Q K ok I q=>C W U Y H _ _ ok I λx f v H1 zz n r=>?_};let[[xs,ex],h1]:=zz;let a:=ok.step n;subst ex;let[p,us,0,c,rv]:=EQ a r;show#[#[p,us,0,c],ρ W U Y H1 _ _ a h1 λy g u H2 zz l B=>?_];done<;>(let[A,z,j,T,O,N,M,k2]:=zz;let h:=a.step l;let[p',w,L,s,m]:=EQ h (r.step a l));cases L;cases T;subst O;cases Er h B;rw[AC.strs.mp m]at s;show{p,A,z,j,0,0,s,N,M,q _ _ _ _ k2 (n.trans l) HX}
end
def ee(I:Inv X qA Y H s){m:Str->Do}(hm:s.heap.Ns X.env.locals m){ps}(ht:∀q∈ps,H q.1\(.tup (q.2.map V.int)))(a4:ps.length<64)(n0:0<n)(hn:∀q∈ps,q.2.length=n)(h2:¬ps.length<2){Q}(F':Fr (Att.noObjs s.heap) X.env.locals h' m)(N':News (Att.noObjs s.heap) X.env.locals h' ((D,seqObj "list" #[] G)::E4 (Att.noObjs s.heap) s.heap X.env.locals))(hD:∀q∈E4 (Att.noObjs s.heap) s.heap X.env.locals,q.1<D)(kk:∀(ps'),H D=none->ps'.Perm ps->Dr (ps'.map (·.2))->∀h2 tk,Inv X qA Y (AA H D (.lst (DN ps'))) {s with heap:=h2,toks:=tk}->Q {s with heap:=h2,toks:=tk}):wpAny (model X.prog X.w) A' (keyKind' (ps.map λq=>Value.ref q.1).toArray) (λκ s'=>(kas_sort (ps.map λq=>Value.ref q.1).length).kasWp (kas_ask X.prog X.w A' κ (ps.map λq=>Value.ref q.1)) (λp σ=>KasFin (Att.noObjs s.heap) X.env.locals m D G (p.toList.map λi=>(ps.map λq=>Value.ref q.1).getD i Value.none) Q σ) s') '9' {s with heap:=h',toks:=tk}:=by
 let r:(ps.map λq=>Value.ref q.1).length=ps.length:='2'
 let y:∀b o,b≠X.env.locals->'F' b\o->h'.get? b\o:=λb o nb e=>N'.get (bT _ (FX nb (Att.noObjs_get _ _) e));let nL:∀b o,H b\o->b≠X.env.locals:=λb o e z=>by subst z;rw[I.free]at e;cases e
 let d:∀q∈ps,∃us,IntsAre us q.2/\∃o n,h'.get? q.1\o/\o.cls=.type "tuple"/\o.data=.seq us.toArray n:=λq B=>by done<;>(let[us,w1,tt,_]:=I.tuple (.of (ht q B));let[o,G,e2,n',e3]:=tt);show{us,HF w1,o,n',y _ _ (nL _ _ (ht q B)) G,e2,e3}
 let[fs,kt,fl,fi]:=Nq d (λq B=>by rw[hn q B];show n0);show kat_kind (T:=.type "int") kt ⋯ (λv hv=>?_) rfl ?_
 .let[i,t,0]:=fi v hv;show TK _ _ i t
 .let A:∀i(hi),(ps.map λq=>Value.ref q.1).getD i Value.none=.ref ps[i].1:=λi hi=>by rw[bW,bO,aH hi];rfl
  show M9 (lt:=Bm (O:=Fj) λi=>((ps[i]?).map (·.2)).getD []) (λi j C hi E q=>?_) _ (by rw[r];show R3 ⋯) ?_
  .unfold kas_ask;rw[A i hi,A j E];done<;>(let[us,a1,o1,n1,b1,c1,d1]:=d ps[i] (getElem_mem hi);let[vs,a2,o2,n2,b2,c2,d2]:=d ps[j] (getElem_mem E));let l1:=a1.length;let l2:=a2.length;let l3:=hn ps[i] (getElem_mem hi);let l4:=hn ps[j] (getElem_mem E);show kat_lt b1 d1 b2 d2 ?_;rw[show decide (us.toArray.size<vs.toArray.size)=false by rw[size_toArray,size_toArray];show cK (by simp_all)];show R4 0 a1 a2 (by simp_all) ?_;simp only[Bm,aH hi,aH E,Option.map_some,Option.getD_some]at q;show q
  .let[pp,L]:=Rw (O:=Fj) (n:=ps.length) ⋯ _ rfl;rw[r];generalize ev (Bm (O:=Fj) λi=>((ps[i]?).map (·.2)).getD []) (kas_sort ps.length)=pr at pp L;show KasFin.intro F' N' (.head λq B=>bX (hD q B)) λh2 c F2 N2=>?_;let nD:=λu e=>aX _ (hD (D,u) (FX (N' _ cA).2.1 (Att.noObjs_get _ _) e));let N:H D=none:=by cases e:H D with|none=>rfl|some o=>let[u,e2]:=(I.hok D o e).there;show bS e2 (nD u)
   let x:pr.toList.Perm (List.range ps.length):=by simpa using Array.perm_iff_toList_perm.mp pp
   let l:∀i∈pr.toList,i<ps.length:=λi hi=>bH.mp (x.mem_iff.mp hi);let J:Addr×By:=(0,[]);let eo:(pr.toList.map λi=>(ps.map λq=>Value.ref q.1).getD i Value.none)=((pr.toList.map λi=>ps.getD i J).map λq=>Value.ref q.1):=by rw[bZ];show cF λi hi=>?_;let hi:=l i hi;rw[A i hi,Function.comp,bW,aH hi];rfl
   let f:(pr.toList.map λi=>ps.getD i J).Perm ps:=by
    let G:((List.range ps.length).map λi=>ps.getD i J)=ps:=by
     apply ext_getElem?;intro i;rw[bO];by_cases hi:i<ps.length
     .rw[getElem?_range hi,aH hi,Option.map_some,bW,aH hi];rfl
     .rw[bQ (by rw[bG];lia),bQ ⋯];rfl
    let:=x.map λi=>ps.getD i J;rw[G]at this;show this
   show kk _ N f ?_ _ _ (I.laidF hm F2.ns (λb u nb e=>N2.get (bT _ (FX nb (Att.noObjs_get _ _) e))) N nD {?_,_,c,JE _,?_})
   rotate_left
   .rw[aA,f.length_eq];show aY (D3 ⋯)
   .let:=N2.get cA;rw[eo]at this;show this
   .unfold Dr;rw[pairwise_iff_getElem];intro i j hi E a0;let a3:i<pr.toList.length:=by simpa using hi
    let M:j<pr.toList.length:=by simpa using E
    let hs:=L i j (aY a0) (by rw[<-bG (n:=ps.length),<-x.length_eq];show M);let ρ:∀i(h),KP (O:=Fj) (λi=>((ps[i]?).map (·.2)).getD []) pr i=(ps.getD (pr.toList[i]) J).2:=λi h=>by
     let h3:=l _ (getElem_mem h);let h4:i<pr.size:=by simpa using h
     unfold KP;rw[Array.getD_eq_getD_getElem?,show pr[i]?\pr.toList[i]by simp[h4]];simp only[Option.getD_some];rw[bW,aH h3];rfl
    simp only[getElem_map];rw[<-ρ i a3,<-ρ j M];show hs
def UB:dH->Hp->VK->Prop:=(λxs H Q=>∃(p:Addr)(ks:List By)(vs:dH),xs=[.ref p]/\H p\(.dT ((ks.map BJ).zip vs))/\ks.length=vs.length/\ks.length<64/\(ks.length<2\/∃n,0<n/\∀r∈ks,r.length=n)/\∀(l:Addr)(ps':List (Addr×By)),H l=none->(∀q∈ps',H q.1\(.tup (q.2.map V.int)))->(ps'.map (·.2)).Perm ks->Dr (ps'.map (·.2))->Q (.ref l) (AA H l (.lst (DN ps'))))
def eg(hc:X.calm=true):B3 X (.builtin "sorted") UB:=by
 rintro qA s Y H xs us Q I r iq;done<;>(let[p,ks,vs,0,hp,M,a6,G,k]:=iq;let[u,0,ru]:=r.one);cases ru;done<;>let[es,ep,a5,rd,hd,hz,e1,σ,e3]:=Ny I.hok hp;rw[map_fst_zip (by rw[aA,M];show aQ _)]at e1;done<;>let[ps,a1,a2,a3]:=Te e1;let A:=λq f=>by let:=σ _ (a3 q f);rw[K2]at this;show this
 let er:(es.toList.map (·.key))=ps.map λq=>Value.ref q.1:=by rw[e3];let:=aT (map Value.ref) a1;simpa[bZ,Function.comp_def]using this.symm
 let C:ps.length=ks.length:=by rw[<-a2,aA]
 let O:es.size=ps.length:=by let:=aT length er;simpa using this
 let[m,J,_]:=I.loc;show kdu_sorted (Nw hd) (I.ok.hd hc) (Att.fr_all J) (QM) rd (by rw[O,C];show aY (D3 ⋯)) λD h' tk l F' N' ρ hl hv=>?_;let ew:l=ps.map λq=>Value.ref q.1:=by
  rw[<-er];apply ext_getElem?;intro j;by_cases hj:j<l.length
  .let[N,e]:=hv j l[j] (by simp[hj]);rw[aH hj,e,bO];simp[N]
  .rw[bQ ⋯,bQ '4']
 subst ew;let perm:∀ps':List (Addr×By),ps'.Perm ps->(ps'.map (·.2)).Perm ks:=λps' c=>by rw[<-a2];show c.map _
 let w:∀ps':List (Addr×By),ps'.Perm ps->∀q∈ps',H q.1\(.tup (q.2.map V.int)):=λps' c q f=>A q (c.mem_iff.mp f);let v:=λu e=>aX _ (ρ (D,u) (FX (N' _ cA).2.1 (Att.noObjs_get _ _) e));let d:H D=none:=by cases e:H D with|none=>rfl|some o=>let[u,σ]:=(I.hok D o e).there;show bS σ (v u)
 by_cases h2:ps.length<2
 .let i:=N'.get cA;let T:X.env.locals≠D:=λz=>(N' _ cA).2.1 z.symm;show cQ slot_list_sort #[_,i,0] entry_list_sort (TB i (~~~h2) #[_,0,?_]) (args_list_sort _);let[e,he]:=sortedHeap_at i;let E:(sortedHeap h' D (ps.map λq=>Value.ref q.1) (ps.map λq=>Value.ref q.1).toArray).Ns X.env.locals m:=by let[o',x,y,e',rr]:=F'.ns;show{o',x,y,(sortedHeap_old T (bN e')).trans e',rr}
  show{.ref D,_,I.laidF (o:=.lst (DN ps)) J E (λb u nb eb=>?_) d v {?_,_,e,JE ps,he},0,k D ps d A (perm ps (List.Perm.refl _)) ?_}
  .let e4:=N'.get (bT _ (FX nb (Att.noObjs_get _ _) eb));rw[sortedHeap_old (λz=>v u (by rw[<-z];show eb)) (bN e4)];show e4
  .rw[aA];show aY (D3 ⋯)
  .match ps,h2 with|[],_=>show List.Pairwise.nil|[_],_=>show pairwise_singleton _ _
 .let[n,n0,G]:=G.resolve_left (by simp_all);show kat_lsort F' N' (.head λq f=>bX (ρ q f)) rfl '4' '4' λe1 a7 a4 a0=>?_;show ee I J A ⋯ n0 (λq f=>G _ (by rw[<-a2];show aP f)) h2 a4 a0 ρ λps' d c B h2 tk I'=>{.ref D,_,I',0,k D ps' d (w ps' c) (perm ps' c) B}
def OK:pC:=(p1 λx f K=>∃(ks:List By)(xs:dI),x=.dT ks xs/\ks.length<64/\(ks.length<2\/∃n,0<n/\∀r∈ks,r.length=n)/\∀rs':List By,rs'.Perm ks->Dr rs'->K (.lst (rs'.map AW)) .nw)
def eh:DY UB OK:=λW U Y Hs H Q K xs vs ok st r a q=>by
 unfold OK p1 at a;split at a
 .let[v,0,rv]:=r.one;let[ks,xs,0,e,i,j]:=a;let[p,us,0,_,o,n,m]:=Hr ok rv;show{p,ks,us,0,o,by rw[n,m.length],e,i,λl ps' f g d c=>q _ _ _ _ (j _ d c) (Step.new ok.bag f) ?_};let h:AC W.b (AL W U Y .nw) H ((ps'.map (·.2)).map AW) (DN ps'):=by let:=K1 (b:=W.b) (Z:=AL W U Y .nw) g;rw[bZ];show this
  show JB ok st '2' '2' h f
 simp_all
end L2
namespace PySem
open PySem.Sem(wp)
def e6:typeLookup (.type "list") (Str.ofString "keys")=pure none:=am_miss_of_fast nofun
def e7{o}{xs:Ex}{Q:Do->Shared->Prop}(m:'F' a\o)(p:o.cls=.type "list")(f:o.data=.seq xs k)(n:o.dict=none)(y:A.handled=none)(h:∀h' tk e,Heap.NewExcOf s.heap h' e "AttributeError"->Q none {s with heap:=h',toks:=tk}):'C' (getAttr? (.ref a) (Str.ofString "keys")) Q E s:=by
 let[c,u,v,sl]:=o;subst p f n;let[r,g,d,tk,os]:=s;let q:∀j,(#[r,g,d,j,os]:Shared).TypeIs (.ref a) "list":=λ_=>#[_,m,0];let G:=sub_AttributeError;let D:=F.slot_list_getattribute.lookup;let C:=F.slot_list_getattribute.bind (.ref a);let B:=am_list_getattr_none;let i:=e6;repeat(any_goals(first|assumption|show q _|((with_reducible change 'A' (call (Value.builtin "list.__getattribute__") _ _) _ _ _);show call_meets F.slot_list_getattribute (q _) am_entry_list_getattribute (F.args_list_getattribute_2 _ _) (meets_getattribute_miss_list a xs k sl (Str.ofString "keys") _ i nofun) {m,by assumption,λh' j e l=>?_})|wp_step))
 done<;>let[t',u',x]:=l.there;change 'A' (getattributeRaised _ _ _ _ _ _ _) _ _ _;unfold getattributeRaised
 repeat(any_goals(first|assumption|wp_step))
 all_goals first|show h _ _ _ l.of|trace_state
end PySem
namespace L2
open PySem.W
def LA:plainId "dict.update.loop"=true:=by decide+kernel
def UC:entryFor table "dict.update.loop"\Builtin.«dict.update.loop»:=entryFor_of_fast (by kernel_rfl)
def e8(e:H a\o):AA H a o=H:=by
 funext b
 by_cases hb:b=a
 .subst hb;rw[AJ,e]
 .rw[AE hb]
def e9{r}{Q}(m:(tupleKind (CF X.prog X.w)).room B)(I:Inv X qA Y H s)(e:H a\(.dT qH))(i:H b\(.tup (k.map kV)))(l:qH.length<sizeLine)(rv:AV v r)(h:∀s',Inv X qA Y (AA H a (.dT (Bh qH k v))) s'->Heap.SameBut a s.heap s'.heap->Q () s'):wpAny (model X.prog X.w) B (dictSet a (.ref b) r) Q E s:=by
 let[z,o,xs,rel,dd]:=RP I.hok e;let j:xs.length<=sizeLine:=by rw[<-Paired.length rel];show z
 let n:(Bh qH k v).length<=sizeLine:=by let:=IU qH k v;lia
 show wpAny_dictSet_heap m (GM I.hok i) dd λh' dd' d=>h _ ?_ d;done<;>let[q,es,ep,f,h2,x,u,_,p]:=dd';show IV I (by rw[e];show True.intro) d #[q,f] {n,o,_,(rel.put k i rv).keeps λc ys g=>?_,q,es,ep,f,h2,x,u,p};rw[AE (CW g e '5')];show g
def Hv(qH:List (List AT×V)):List (Addr×List AT×Addr×V)->List (List AT×V)|[]=>qH|p::r=>Hv (Bh qH p.2.1 p.2.2.2) r
def fA(hh:A.handled=none)(hr:(tupleKind (CF X.prog X.w)).room A.in1){ps:List (Addr×List AT×Addr×V)}:∀(n i)(s)(H)(qH),ps.length-i=n->i<=ps.length->Inv X qA Y H s->H d\(.dT qH)->H l\(.lst (ps.map λp=>V.ref p.1))->(∀p∈ps,H p.1\(.tup [.ref p.2.2.1,p.2.2.2])/\H p.2.2.1\(.tup (p.2.1.map kV)))->s.heap.IsListIter it l i->Ci X qA H it->qH.length+n<sizeLine->(∀s',Inv X qA Y (AA H d (.dT (Hv qH (ps.drop i)))) s'->R (.ok (.ret .none)) s')->wpAny (model X.prog X.w) A.in1 (Builtin.«dict.update.loop» {[.ref d,.ref it,rawInt i,.none],[]}) (λfin s'=>match fin with|.done f=>R (.ok f) s'|.again O=>O.quiet=true/\codeAny (model X.prog X.w) A O R s') (λe s'=>R (.error e) s') s:=by
 intro n
 induction n with|zero=>intro i s H qH hn hi I h el c st J E k;let G:i=ps.length:=⋯;let[qG,rv,pl,hz]:=I.list (.of el);let hl:=rv.length;rw[aA]at hl;done<;>let[g,y,N,v,q,m]:=J;show wB (wpAny_pyNext_list_end hh st pl.isList '4' λh' eb=>?_);let B:Inv X qA Y H {s with heap:=h'}:=I.turned (λb o hb e=>eb b o hb e) g y v q m;let:=k _ (by rw[G,drop_length];unfold Hv;rw[e8 h];show B);show wB (wP (wP this))|succ n ih=>
  intro i s H qH hn hi I h el c st J E k;let a:i<ps.length:=⋯;done<;>(let[qG,rv,pl,hz]:=I.list (.of el);let[h1,h2]:=c ps[i] (getElem_mem a);let[u,hu,ru]:=rv.get (i:=i) (x:=V.ref ps[i].1) (by simp[a]));cases ru;done<;>let[g,y,N,v,q,m]:=id J;unfold Builtin.«dict.update.loop»;show wB (wpAny_pyNext_list_item st pl.isList (~~~hu) λh' C sb=>?_);let B:Inv X qA Y H {s with heap:=h'}:=I.turned (λb o hb e=>(sb.2 b hb).trans e) g y v q m;done<;>(let[_,ts,σ,o1,M,g2,[n1,g3],_]:=B.hok _ _ h1;let[u1,L,0,r1,r2]:=X3 σ);cases r1;let hT:(#[h',s.gens,s.drawn,s.toks,s.os]:Shared).TypeIs (.ref ps[i].1) "tuple":=#[o1,M,g2];let j:it≠d:=λz=>by rw[z,h]at g;cases g
  dsimp only;show wB (bM ?_);show wB (wpAny_tryCatch ?_);unfold Builtin.Dict.pairItems;show wB (wpAny_typeOf hT ?_);rw[aC '3'];show wB (wpAny_seqItems M g3 ?_);show wP ?_;change 'A' (holding [Value.ref ps[i].2.2.1,L] (dictSet d (.ref ps[i].2.2.1) L)) _ _ _;show bM (e9 hr B h h2 ⋯ r2 λs2 I2 D=>?_);show wP {plainId_quiet LA _,codeAny_builtin UC ?_};rw[Around.under_plainId LA _];let hc:(i+1)=((i+1):Int):=by push_cast;rfl
  rw[hc];let nt:∀b ys,H b\(HO.tup ys)->b≠d:=λb ys e=>CW e h '5';let a0:=IU qH ps[i].2.1 ps[i].2.2.2;show ih (i+1) s2 _ _ ⋯ a I2 AJ (by rw[AE (CW el h '5')];show el) (λp hp=>?_) ?_ {by rw[AE j];show g,y,N,v,q,m} ⋯ λs' ρ=>k s' ?_
  .let[T,Q]:=c p hp;show{by rw[AE (nt _ _ T)];show T,by rw[AE (nt _ _ Q)];show Q}
  .let[o,e,r]:=C;show{o,(D.2 it j).trans e,r}
  .rw[IK]at ρ;rw[drop_eq_getElem_cons a];show ρ
def UD:dH->Hp->VK->Prop:=(λxs H Q=>∃(l:Addr)(ps:List (Addr×List AT×Addr×V)),xs=[.ref l]/\H l\(.lst (ps.map λp=>V.ref p.1))/\(∀p∈ps,H p.1\(.tup [.ref p.2.2.1,p.2.2.2])/\H p.2.2.1\(.tup (p.2.1.map kV)))/\ps.length<16777216/\∀d,H d=none->Q (.ref d) (AA H d (.dT (Hv [] ps))))
def JK(m:X.calm=true)(G:Room k X.A):B3 X (.type "dict") UD:=by
 rintro qA s Y H xs us Q I r iq;done<;>(let[l,ps,0,j,g,hz,q]:=iq;let[u,0,C]:=r.one);cases C;let FU:=I.hok.fresh (aQ _);let x:Inv X qA Y (AA H 'H' (.dT [])) {s with heap:=s.heap.push {cls:=.type "dict",data:=.dict #[]}}:=I.laid (λb o e=>aS _ e) (aQ _) (RR s.heap (modules_low I.nolimit))
 show callType_codes (Q₁:=λc a=>c=.ref 'H'/\a={s with heap:=s.heap.push {cls:=.type "dict",data:=.dict #[]}}) F.kt_called_dict (F.kt_typeCall_dict_1 _) F.entry_dict_init (kt_code_dict_new _ #[0,0]) ?_;rintro c a⟨rfl,rfl⟩;let n:({s.heap.push {cls:=.type "dict",data:=.dict #[]},s.gens,s.drawn,s.toks,s.os}:Shared).TypeIs (.ref 'H') "dict":={_,bP _ rfl,0};let el:(AA H 'H' (.dT [])) l\(.lst (ps.map λp=>V.ref p.1)):=by rw[AE (Ak j FU)];show j
 show{n,F.args_dict_init_2 _ _,?_};show wB ?_;show wB (wpAny_notOrdered_dict n ?_);show wP ?_;change 'A' (Builtin.Dict.updateFrom "dict.__init__" 'H' (.ref l) [] .none) _ _ _;done<;>(let[qG,rv,pl,D]:=x.list (.of el);let[ρ,σ,O,N,M,L]:=id pl);show wB (wpAny_typeOf pl.isList.typeIs ?_);show wB (e7 O N L M (I.ok.hd m) λh' tk e E=>?_);let d:=x.kept (t':=tk) E.keeps;show wB (wpAny_rule ?_);done<;>let[i,B,f,_]:=d.list (.of el);show wB (wpAny_pyIter_list f.isList ?_);let T:=d.kept (t':=tk) (h':=h'.push {cls:=.type "list_iterator",data:=.fields [.ref l,.int 0 0].toArray}) λb o e=>aS _ e;show wP {plainId_quiet LA _,codeAny_builtin UC ?_};show fA (A:=X.A.in1) (I.ok.hd m) (tupleKind_room_in1 (by let:=G.un;lia)) _ 0 _ _ [] rfl (cD _) T AJ el (λp J=>?_) {_,bP _ rfl,0,0} (d.fpOk (aQ _) (d.hok.fresh (aQ _))) ?_ λs' y=>{0,.ref 'H',_,?_,0,q _ FU}
 .let[w,v]:=g p J;show{by rw[AE (Ak w FU)];show w,by rw[AE (Ak v FU)];show v}
 .change 0+(ps.length-0)<16777216;simp_all
 .rw[IK,drop_zero]at y;show y
def LB(t:List (By×Int)):List (By×Int):=(t.foldl (λa q=>Bw a q.1 q.2) [])
def OL:pC:=(p1 λx _ K=>∃t,x=Ab t/\t.length<16777216/\K (CS (LB t)) .nw)
theorem UE:∀{t:List (By×Int)}{us},AC b Z H (t.map A5) us->∃ps:List (Addr×List AT×Addr×V),us=(ps.map λp=>V.ref p.1)/\ps.map (λp=>(p.2.1,p.2.2.2))=t.map (λq=>(BJ q.1,V.int q.2))/\∀p∈ps,H p.1\(.tup [.ref p.2.2.1,p.2.2.2])/\H p.2.2.1\(.tup (p.2.1.map kV))
 |[],us,h=>{[],h,0,λ_ h=>nomatch h}|q::t,us,h=>by
  let[v,r,0,[a,o,0,c,s,u,0,[g,ks,0,d,k2],e,f,0,n,m],h2]:=h;let[ps,l,j,i]:=UE h2;cases(n);cases(m);rw[AC.ints.mp k2]at d;show{(a,BJ q.1,g,.int q.2)::ps,by rw[l];rfl,by rw[map_cons,map_cons,j],λp hp=>?_};let 0||hp:=aF.mp hp
  .show{c,by rw[K2];show d}
  .show i p hp
def fB(a)(r)(c):Bh (a.map λq=>(BJ q.1,V.int q.2)) (BJ r) (.int c)=(Bw a r c).map λq=>(BJ q.1,V.int q.2):=by
 unfold Bh Bw;let e:(a.map λq=>(BJ q.1,V.int q.2)).any (λg=>decide (g.1=BJ r))=decide (r∈a.map (·.1)):=by
  rw[Bool.eq_iff_iff,any_eq_true,aW];constructor
  .rintro⟨x,i,j⟩;let[q,d,0]:=bU.mp i;let:=Hn _ _ (aL j);show bU.mpr #[q,d,this]
  .intro h;let[q,d,0]:=bU.mp h;show{_,aP d,aK rfl}
 rw[e];by_cases h:r∈a.map (·.1)
 .rw[aC (aK h),aC h,bZ,bZ];show cF λq _=>?_;by_cases z:q.1=r
  .simp[z]
  .let f:¬BJ q.1=BJ r:=λh=>z (Hn _ _ h);simp[z,f]
 .rw[aB (~~~h),aB h];simp
theorem UF:∀(ps)(t a:List (By×Int)),ps.map (λp=>(p.2.1,p.2.2.2))=t.map (λq=>(BJ q.1,V.int q.2))->Hv (a.map λq=>(BJ q.1,V.int q.2)) ps=(t.foldl (λa q=>Bw a q.1 q.2) a).map λq=>(BJ q.1,V.int q.2)|[],[],a,_=>rfl|[],_::_,_,h=>by simp at h|_::_,[],_,h=>by simp at h|p::ps,q::t,a,h=>by simp only[map_cons,List.cons.injEq,Prod.mk.injEq]at h;unfold Hv;rw[h.1.1,h.1.2,fB];show UF ps t _ h.2
def UG(t:List (By×Int)):((t.map (·.1)).map BJ).zip (t.map λq=>V.int q.2)=t.map λq=>(BJ q.1,V.int q.2):=by grind
def fC(t:List (By×Int)):AC b Z H (t.map λq=>P.int q.2) (t.map λq=>V.int q.2):=by let:=(AC.ints (b:=b) (Z:=Z) (H:=H) (vs:=(t.map (·.2)).map V.int)).mpr rfl;simpa[Function.comp_def]using this
def JL:DY UD OL:=λW U Y Hs H Q K xs vs ok st r g q=>by
 unfold OL p1 at g;split at g
 .let[v,0,rv]:=r.one;let[t,0,s,m]:=g;let[p,us,0,c,l]:=Dc ok rv;let[ps,o,j,n]:=UE l;let i:ps.length=t.length:=by let:=aT length j;simpa using this
  show{p,ps,0,by rw[c,o],n,(by simp_all),λd h=>q _ _ _ _ m (Step.new ok.bag h) ?_};let e:=UF ps t [] j;rw[map_nil]at e;rw[e,show t.foldl _ []=LB t from rfl,<-UG];show#[{d,_,0,λz=>ok.dom z h,AJ,'2',fC _},λ_=>{d,0,st.free h}]
 .show g.elim
def Df(b:Addr×By):List (Addr×By)->Addr×By|[]=>b|p::r=>if HT.lexLt p.2 b.2=true then Df p r else Df b r
def Inv.off{S}(I:Inv X qA Y H s)(hf:Ci X qA H S)(k:∀b o,b≠S->'F' b\o->h'.get? b\o):Inv X qA Y H {s with heap:=h'}:=by let[f0,e,f,d,c,a]:=hf;show I.turned k f0 e d c a
def fD(hh:A.handled=none)(hu:A.in1.units<cLine){l S}{ps}(j:S≠it):∀(n i)(s)(H)(a)(c),ps.length-i=n->i<=ps.length->Inv X qA Y H s->H l\(.lst (DN ps))->(∀p∈ps,H p.1\(.tup (p.2.map V.int)))->H a.1\(.tup (a.2.map V.int))->s.heap.IsListIter it l i->'F' S\{cls:=.type "list",dict:=none,data:=.seq [.ref a.1,.ref a.1].toArray c,slots:=#[]}->Ci X qA H it->Ci X qA H S->(∀s',Inv X qA Y H s'->R (.ok (.ret (.ref (Df a (ps.drop i)).1))) s')->codeAny (model X.prog X.w) A (.builtin "min.loop" {[.ref it,.none,.ref S],[(Str.ofString "default",dv)]}) R s:=by
 let d:(toString "min"++toString ".loop")="min.loop":=by decide
 intro n
 induction n with|zero=>intro i s H a c hn hi I el C hb st v y B k;let E:i=ps.length:=⋯;let[qG,rv,pl,hz]:=I.list (.of el);let hl:=rv.length;rw[aA]at hl;show codeAny_builtin F.entry_min_loop ?_;rw[Around.under_plainId F.plain_min_loop _];change wpAny _ A.in1 (seqItems? (.ref S)>>=_) _ _ s;show wB (wpAny_seqItems v rfl ?_);change wpAny _ A.in1 (tryCatch (pyNext (.ref it)) _>>=_) _ _ s;show wB (wpAny_tryCatch (wpAny_pyNext_list_end hh st pl.isList '4' λh' M=>?_));let m:=I.off y (λb o hb e=>M b o hb e);let h:=M S _ j v;change wpAny _ A.in1 (updateSeq S (λ_=>#[])>>=_) _ _ _;show wB ?_;show wpAny_updateSeq h rfl (wB (wpAny_letGo (wP ?_)));rw[E,drop_length]at k;show k _ (m.off B (λb o hb e=>(cM _ _ (Ne.symm hb)).trans e))|succ n J=>intro i s H a c hn hi I el C hb st v y B k;let g:i<ps.length:=⋯;let[qG,rv,pl,hz]:=I.list (.of el);let h1:=C ps[i] (getElem_mem g);let[u,D,ρ]:=rv.get (i:=i) (x:=V.ref ps[i].1) (by simp[g]);cases ρ;show codeAny_builtin F.entry_min_loop ?_;rw[Around.under_plainId F.plain_min_loop _];change wpAny _ A.in1 (seqItems? (.ref S)>>=_) _ _ s;show wB (wpAny_seqItems v rfl ?_);change wpAny _ A.in1 (tryCatch (pyNext (.ref it)) _>>=_) _ _ s;show wB (wpAny_tryCatch (wpAny_pyNext_list_item st pl.isList (~~~D) λh' q G=>?_));let m:=I.off y (λb o hb e=>(G.2 b hb).trans e);let h:=(G.2 S j).trans v;done<;>(let[T,O,p1,_]:=m.tuple (.of h1);let[Q,N,p2,_]:=m.tuple (.of hb));let i1:=HF O;let σ:=HF N;change wpAny _ A.in1 (tryCatch (holding [Value.ref ps[i].1,Value.ref ps[i].1] (compareOp .Lt (.ref ps[i].1) (.ref a.1)>>=_)) _>>=_) _ _ _;show wB (wpAny_tryCatch (bM (wB (HT.dM p1 p2 i1 σ hu ?_))));show wB (bM (wpAny_truthy_bool ?_));show wB (wpAny_letGo (wP ?_));rw[drop_eq_getElem_cons g]at k;cases L:HT.lexLt ps[i].2 a.2 with|true=>simp only[Df,L,dD]at k;simp only[dD];show wB ?_;show wpAny_updateSeq h rfl (wB (wpAny_letGo ?_));rw[d];let I2:=λf=>m.off B (h':=h'.update S f) (λb o hb e=>(cM _ _ (Ne.symm hb)).trans e);show wP {plainId_quiet F.plain_min_loop _,J (i+1) _ H ps[i] _ ⋯ g (I2 _) el C h1 ?_ (Heap.get?_update_self _ h rfl) y B k};let[o,e,r]:=q;show{o,(cM _ _ j).trans e,r}|false=>simp only[Df,L,Bool.false_eq_true,if_false]at k;simp only[Bool.false_eq_true,if_false];show wB (wpAny_letGo ?_);rw[d];show wP {plainId_quiet F.plain_min_loop _,J (i+1) _ H a c ⋯ g m el C hb q h y B k}
def fE(a d):argsOk "min" {[a],[(Str.ofString "default",d)]}:=rfl
def fF{id}{args:C2}(j:builtinKind id=none)(i:plainId id=true)(l:entryFor table id\b)(a:argsOk id #[args,e])(h:wpAny (model prog w) A.in1 (b #[args,e]) (λz g=>match z with|.done f=>wants Q E (.ok f) g|.again c=>c.quiet=true/\codeAny (model prog w) A c (wants Q E) g) E s):'C' (call (.builtin id) args e) Q E s:=wpAny_call (codeAny_call_builtin i l (by unfold checkBuiltinCall;rw[j];cases es:Manifest.signature? id with|none=>show wP h|some d=>simp only[argsOk,es]at a;let h2:=a;change wpAny _ A.in1 (Bind.checkArgs id d #[args,e]) _ _ s;rw[h2];show wP h))
def fG(M:X.calm=true)(hr:Room k X.A){ps}{Q}(I:Inv X qA Y H s)(el:H l\(.lst (DN ps)))(j:∀p∈ps,H p.1\(.tup (p.2.map V.int)))(σ:AV v dv)(n:ps=[]->Q v H)(q1:∀b r,ps=b::r->Q (.ref (Df b r).1) H):'B' (call (.builtin "min") [.ref l] [(Str.ofString "default",dv)]) (EP X qA Y Q) X.xe s:=by
 let c:(toString "min"++toString ".loop")="min.loop":=by decide
 show fF F.kind_min F.plain_min F.entry_min (fE _ _) ?_;show wB (wpAny_of_eq (rfl) ?_);show wB (wP ?_);done<;>let[qG,rv,pl,hz]:=I.list (.of el);show wB (wpAny_pyIter_list pl.isList ?_);let G:=I.kept (t':=s.toks) (h':=s.heap.push {cls:=.type "list_iterator",data:=.fields [.ref l,.int 0 0].toArray}) λb o e=>aS _ e;show wB (cG ?_);rw[c];let E:=G.kept (t':=s.toks) (h':=(s.heap.push {cls:=.type "list_iterator",data:=.fields [.ref l,.int 0 0].toArray}).push {cls:=.type "list",data:=.seq #[]}) λb o e=>aS _ e;let B:(s.heap.push {cls:=.type "list_iterator",data:=.fields [.ref l,.int 0 0].toArray}).objs.size='H'+1:=size_push' _ _;let C:=I.fpOk (aQ _) (I.hok.fresh (aQ _));let O:=G.fpOk (aQ _) (G.hok.fresh (aQ _));let g:(s.heap.push {cls:=.type "list_iterator",data:=.fields [.ref l,.int 0 0].toArray}).objs.size≠'H':=by rw[B];simp_all
 let st:((s.heap.push {cls:=.type "list_iterator",data:=.fields [.ref l,.int 0 0].toArray}).push {cls:=.type "list",data:=.seq #[]}).IsListIter 'H' l 0:={_,aS _ (bP _ rfl),0,0};let N:((s.heap.push {cls:=.type "list_iterator",data:=.fields [.ref l,.int 0 0].toArray}).push {cls:=.type "list",data:=.seq #[]}).get? (s.heap.push {cls:=.type "list_iterator",data:=.fields [.ref l,.int 0 0].toArray}).objs.size\{cls:=.type "list",dict:=none,data:=.seq #[] 0,slots:=#[]}:=bP _ rfl;generalize(s.heap.push {cls:=.type "list_iterator",data:=.fields [.ref l,.int 0 0].toArray}).objs.size=S at*;generalize 'H'=it at*;show wP {plainId_quiet F.plain_min_loop _,codeAny_builtin F.entry_min_loop ?_};show wB (wpAny_seqItems N rfl ?_);change wpAny _ X.A.in1 (tryCatch (pyNext (.ref it)) _>>=_) _ _ _;let[L,a,h,a0]:=E.list (.of el);let d:=a.length;rw[aA]at d
 match ps,el,j,n,q1,a,d with|[],el,j,n,q1,a,d=>show wB (wpAny_tryCatch (wpAny_pyNext_list_end (I.ok.hd M) st h.isList (by simp;show eq_nil_of_length_eq_zero (~~~d.symm)) λh' eb=>?_));let D:=E.off C (λb o hb e=>eb b o hb e);change wpAny _ X.A.in1 (rule _>>=_) _ _ _;show wB (wpAny_rule (wP {v,H,D,σ,n rfl}))|b::r,el,j,n,q1,a,d=>let[u,y,T]:=a.get (i:=0) rfl;cases T;show wB (wpAny_tryCatch (wpAny_pyNext_list_item st h.isList (~~~y) λh' q J=>?_));let D:=E.off C (λb o hb e=>(J.2 b hb).trans e);let m:=(J.2 S g).trans N;change wpAny _ X.A.in1 (updateSeq S (λ_=>[Value.ref b.1,Value.ref b.1].toArray)>>=_) _ _ _;show wB ?_;show wpAny_updateSeq m rfl ?_;rw[c];let I4:=λf=>D.off O (h':=h'.update S f) (λb o hb e=>(cM _ _ (Ne.symm hb)).trans e);show wP #[plainId_quiet F.plain_min_loop _,fD (I.ok.hd M) (by rw[Hk];let:=hr.un;lia) g _ 1 _ H b _ rfl '2' (I4 _) el j (j b cA) ?_ (Heap.get?_update_self _ m rfl) C O λs' I'=>{.ref (Df b r).1,H,I',0,q1 b r rfl}];let[o,e,ρ]:=q;show{o,(cM _ _ g).trans e,ρ}
def fH(te td:TE):TE:=(λY H Q=>BI te B5 Y H λvs H1=>BI td B5 Y H1 λzs H2=>∃(l:Addr)(ps:List (Addr×By))(v:V),vs=[.ref l]/\zs=[v]/\H2 l\(.lst (DN ps))/\(∀p∈ps,H2 p.1\(.tup (p.2.map V.int)))/\(ps=[]->Q v H2)/\∀b r,ps=b::r->Q (.ref (Df b r).1) H2)
def fJ{e d}{p kpos}(C:X.calm=true)(r:Room k X.A)(y:PE X e te)(B:PE X d td)(x:Gl X "min")(w:X.mg "min"=none)(a:starEach [e] X.env=[(false,eval e X.env)]:=by rfl):PE X (.Call (.Name "min" p) [e] [{some (Str.ofString "default"),d,kpos}] pos) (fH te td):=by intro qA s Y H Q I h;show wpAny_Call_Name_kw (F9 I x w (show bootBuiltins "min"\(.builtin "min")from nofun) ?_ nofun nofun);show callWith_kw (AR (AG y AS a pos qA s Y H _ I h) λus c zz=>?_) (by rw[a];rfl) (by rw[a];rfl) rfl rfl;let[vs,H1,J,j,n]:=zz;show AR (YK B YJ pos qA c Y H1 _ J n) λL M zz=>?_;done<;>(let[zs,H2,G,i,l,ps,v,E,D,el,q,o,m]:=zz;subst E D;let[u,0,f]:=j.one);cases f;let[dv,0,g]:=i.one;show fG C r G el q g o m
def UH(pe pd:pE):pE:=(λU K=>pe U λx f=>pd U λy g=>∃rs:List By,x=.lst (rs.map AW)/\y.imm=true/\(rs=[]->K y .fr)/\∀b r,rs=b::r->K (AW (r.foldl (λm x=>if HT.lexLt x m=true then x else m) b)) .fr)
theorem OM:∀(r)(b),(Df b r).2=(r.map (·.2)).foldl (λm x=>if HT.lexLt x m=true then x else m) b.2
 |[],b=>rfl|p::r,b=>by
  simp only[Df,map_cons,foldl_cons];by_cases h:HT.lexLt p.2 b.2=true
  .rw[aC h,aC h];show OM r p
  .rw[aB h,aB h];show OM r b
theorem ON:∀(r)(b),Df b r∈b::r
 |[],b=>bI.mpr rfl|p::r,b=>by
  simp only[Df];split
  .show bT _ (ON r p)
  .let h||h:=aF.mp (ON r b)
   .simp_all
   simp_all
section
variable{e d:Expr}{pd:pE}{p kpos:Pos}
def fK(ρ:∀i,(Xs i).calm=true)(L:∀i,Room k (Xs i).A)(o:∀i,(Xs i).mg "min"=none)(O:QE Xs e pe)(T:QE Xs d pd)(N:∀i,Gl (Xs i) "min":=by rfl)(n:∀i,starEach [e] (Xs i).env=[(false,eval e (Xs i).env)]:=by rfl):QE Xs (.Call (.Name "min" p) [e] [{some (Str.ofString "default"),d,kpos}] pos) (UH pe pd):=by
 let[te,e1,σ]:=O;let[td,d1,d2]:=T;show{_,λi=>fJ (ρ i) (L i) (e1 i) (d1 i) (N i) (o i) (n i),λW U Y H Q K ok M q=>σ W U Y H _ _ ok M λx f v H1 h1 m E=>d2 W U Y H1 _ _ (ok.step m) h1 λy g u H2 zz w D=>?_};done<;>(let[rs,ex,J,I,G]:=zz;let a:=m.trans w;let j:=ok.step a;subst ex;let[l,us,0,c,rv]:=Dc j (E.step (ok.step m) w);let[ps,0,C,B]:=OB rv);show{l,ps,u,0,0,c,B,λh=>q _ _ _ _ (I (by rw[<-C,h];rfl)) a ?_,λb r h=>q _ _ _ _ (G b.2 _ (by rw[<-C,h];rfl)) a ?_}
 .show(D.back m).immAny J j '2'
 .let o:Df b r∈ps:=by rw[h];show ON r b
  let s:=B _ o;rw[<-OM r b];show RF.ofImm (g:=λp=>p=W.b) (CM _) {(Df b r).1,_,0,s,AC.ints.mpr rfl}
end
end L2
namespace HT
end HT
namespace PySem
open PySem.Sem(wp)
end PySem
namespace L2
open PySem.W HT
end L2
namespace L2
open PySem.W
def UI:dH->Hp->VK->Prop:=(λxs H Q=>∃(p:Addr)(qH:List (AT×V)),xs=[.ref p]/\H p\(.dK qH)/\∀l:Addr,H l=none->Q (.ref l) (AA H l (.lst (qH.map λq=>kV q.1))))
def UJ{P}(h:(CF P w).is k u=true):AV (kV k) u:=by
 let[i,t,0,0]||[x,t,0,0]:=Ec h
 .show#[t,0]
 .show#[t,0]
def fL{P}{es}{vs}(h:Pairs (CF P w) es vs):AZ (vs.map λq=>kV q.1) (es.map (·.key)):=by induction h with|nil=>show .nil|cons h _ t a=>show .cons (UJ h) a
theorem UK:∀{qH}{vs},KV qH vs->(qH.map λq=>kV q.1)=vs.map λq=>kV q.1|_,_,.nil=>rfl|_,_,.cons r t=>by rw[map_cons,map_cons,UK t,r.1]
def UL(l:X.calm=true):B3 X (.type "list") UI:=by
 rintro qA s Y H xs us Q I r⟨p,qH,rfl,g,k⟩;let[u,0,f]:=r.one;cases f;done<;>let[x,j,vs,rel,o,es,ep,h1,h2,n,_,e,_]:=J5 I.hok g;let b:=rel.length;let y:es.size=qH.length:=by let a:=e.length;simp at a;simp_all
 show kdl_call (Nw j) (I.ok.hd l) #[o,h1,h2,n] (by simp_all) λh' tk d w i m c=>?_;let v:=Td c rfl;show{.ref 'H',_,I.laid (o:=.lst _) i (aQ _) #[?_,d.toList,w,?_,?_],0,k _ (I.hok.fresh (aQ _))}
 .rw[aA];lia
 .rw[v,UK rel];show fL e
 .simpa using m
end L2
namespace L2
section
variable{ky:Keyed->O.α}
variable{a b out:List Keyed}{ia ib k:Nat}
end
section
variable{M:Model}{κ:SortKind}{ky:Keyed->O.α}{mem:Keyed->Prop}
def drop_at{l:List Keyed}{y}(h:y∈l.drop i):∃j,i<=j/\l[j]?\y:=by let[n,a]:=getElem?_of_mem h;show{i+n,Nat.le_add_right _ _,by simp_all}
end
section
variable{M:Model}{κ:SortKind}{ky:Keyed->O.α}{mem:Keyed->Prop}
end
section
variable{ky:Keyed->O.α}
variable{a b out:List Keyed}{na nb:Nat}
end
section
variable{M:Model}{κ:SortKind}{ky:Keyed->O.α}{mem:Keyed->Prop}
end
section
variable{M:Model}{κ:SortKind}{ky:Keyed->O.α}{mem:Keyed->Prop}
def Kx(ky:Keyed->O.α)(arr:Array Keyed)(i:Nat):O.α:=(ky (arr.getD i (Value.none,Value.none)))
end
section
variable{M:Model}{κ:SortKind}{ky:Keyed->O.α}{mem:Keyed->Prop}
end
section
variable{M:Model}{κ:SortKind}{ky:Keyed->O.α}{mem:Keyed->Prop}
variable{a0:Array Keyed}{st:SortSt}{rs:List (List Keyed)}{qF:List Keyed}
end
open PySem.W
abbrev rv(ps:List (Addr×By)):C2:=ps.map λq=>Value.ref q.1
end L2
namespace L2
set_option tactic.hygienic true
abbrev Tl:=List (By×Int)
def fM(t:Tl)(r)(c)(r'):Ag (Bw t r c) r'=if r'=r then some c else Ag t r':=by
 unfold Bw;split
 .rename_i f;by_cases e:r'=r
  .subst e;rw[aC rfl];let[q,hq,e]:=bU.mp f;unfold Ag
   induction t with|nil=>simp at hq|cons p t g=>
    rw[map_cons,find?_cons];by_cases a:p.1=r'
    .simp[a]
    .rw[aB a];simp only[a,decide_false];show g ?_ ?_
     .let[z,hz,h]:=bU.mp f
      let 0||hz:=aF.mp hz
      .show bS h a
      .show bU.mpr #[z,hz,h]
     .let 0||hq:=aF.mp hq
      .show bS e a
      .show hq
  .rw[aB e];unfold Ag;clear f
   induction t with|nil=>rfl|cons p t g=>
    rw[map_cons,find?_cons,find?_cons];by_cases a:p.1=r
    .rw[aC a];let:¬p.1=r':=λz=>e (by rw[<-z,a]);simp only[this,decide_false];show g
    .rw[aB a];by_cases d:p.1=r'
     .simp[d]
     .simp only[d,decide_false];show g
 .rename_i f;unfold Ag;rw[find?_append];by_cases e:r'=r
  .subst e;rw[aC rfl];let:t.find? (λq=>decide (q.1=r'))=none:=find?_eq_none.mpr λq hq=>by simp only[decide_eq_true_eq];showλz=>f (bU.mpr #[q,hq,z])
   rw[this];simp
  .rw[aB e];let:([(r,c)]).find? (λq=>decide (q.1=r'))=none:=by let:¬r=r':=λz=>e z.symm;simp[this]
   rw[this];cases t.find? (λq=>decide (q.1=r'))<;>rfl
def fN{t:Tl}(h:r∉t.map (·.1)):Ag t r=none:=by
 unfold Ag;rw[find?_eq_none.mpr λq a=>?_]
 .rfl
 .simp only[decide_eq_true_eq];showλz=>h (bU.mpr #[q,a,z])
def fO(t:Tl)(r)(c)(r'):r'∈(Bw t r c).map (·.1)↔r'=r\/r'∈t.map (·.1):=by
 rw[Tv];split
 .rename_i h;show{.inr,λz=>z.elim (λz=>z▸h) id}
 .rw[bA,bI,or_comm]
def Bi(a:Tl)(q:By×Int):Tl:=(Bw a q.1 ((Ag a q.1).getD 0+q.2))
def BF(t:Tl):Tl:=(t.foldl Bi [])
def cnt(t:Tl)(r:By):Int:=((t.map λq=>if q.1=r then q.2 else 0).sum)
def UM(a)(q)(r):(Ag (Bi a q) r).getD 0=(Ag a r).getD 0+if q.1=r then q.2 else 0:=by
 unfold Bi;rw[fM];by_cases e:r=q.1
 .simp_all
 .rw[aB e,aB (λz=>e z.symm)];simp
def UN(t):∀(a:Tl)(r),(Ag (t.foldl Bi a) r).getD 0=(Ag a r).getD 0+cnt t r:=by induction t with|nil=>intro a r;simp[cnt]|cons q t c=>intro a r;rw[foldl_cons,c,UM];unfold cnt;rw[map_cons,sum_cons];lia
def Hw(t)(r):(Ag (BF t) r).getD 0=cnt t r:=by unfold BF;rw[UN];simp[Ag]
def fP(t:Tl):∀(a)(r),r∈(t.foldl Bi a).map (·.1)↔r∈a.map (·.1)\/r∈t.map (·.1):=by induction t with|nil=>intro a r;simp|cons q t c=>
  intro a r;rw[foldl_cons,c];unfold Bi;rw[fO,map_cons,aF];constructor
  .rintro((h|h)|h)
   .show .inr (.inl h)
   .show .inl h
   .show .inr (.inr h)
  .rintro(h|h|h)
   .show .inl (.inr h)
   .show .inl (.inl h)
   .show .inr h
def UO(t)(r):r∈(BF t).map (·.1)↔r∈t.map (·.1):=by unfold BF;rw[fP];simp
def JM(t:Tl):∀a,(t.foldl Bi a).length<=a.length+t.length:=by induction t with|nil=>simp|cons q t c=>intro a;let h1:=c (Bi a q);let h2:(Bi a q).length<=a.length+1:=K5 _ _ _;simp only[foldl_cons,length_cons];lia
def OO(t):(BF t).length<=t.length:=by let:=JM t [];simpa[BF]using this
def JN(t:Tl):∀a,(a.map (·.1)).Nodup->((t.foldl Bi a).map (·.1)).Nodup:=by induction t with|nil=>simp|cons q t c=>intro a h;show c _ (Tw h)
def JO(t):((BF t).map (·.1)).Nodup:=JN t [] '2'
def OP(h:∀q∈t,q.1.length=n):∀q∈BF t,q.1.length=n:=λq a=>by let:q.1∈(BF t).map _:=aP a;let[p,c,e]:=bU.mp ((UO t q.1).mp this);rw[<-e];show h p c
def CN(t:Tl):Tl:=(((De (t.map (·.1))).filter λr=>decide (0<(Ag t r).getD 0)).map λr=>(r,(Ag t r).getD 0))
def OQ{t:Tl}(h:∀r,0<=(Ag t r).getD 0):CN t=Bf t:=by
 unfold CN Bf
 congr 1
 show filter_congr λr _=>?_;let:=h r;lia
def JP(h:∀q∈t,0<=q.2)(r):0<=cnt t r:=by
 unfold cnt
 induction t with|nil=>simp|cons q t a=>rw[map_cons,sum_cons];let h1:=a λp c=>h p (bT _ c);let h2:=h q cA;split<;>lia
def fQ{t:Tl}(h:(t.map (·.1)).Nodup):((Bf t).map (·.1)).Nodup:=by unfold Bf;rw[bZ,show((λq=>q.1)∘λr=>(r,(Ag t r).getD 0))=id from rfl,map_id];show((FO _).nodup_iff.mpr h).filter _
def UP{t:Tl}(h:∀q∈t,q.1.length=n):∀q∈Bf t,q.1.length=n:=λq a=>by let[p,c,e]:=bU.mp (T7 a);rw[<-e];show h p c
def fR{t:Tl}{q}(h:q∈Bf t):q.2=(Ag t q.1).getD 0/\q.2≠0:=by let[r,a,0]:=bU.mp h;simp_all
def JQ{t:Tl}(h:(t.map (·.1)).Nodup):LB t=t:=by
 let key:∀(t a:Tl),(∀q∈t,q.1∉a.map (·.1))->(t.map (·.1)).Nodup->t.foldl (λa q=>Bw a q.1 q.2) a=a++t:=by
  intro t
  induction t with|nil=>intro a _ _;simp|cons q t d=>
   intro a h1 h2;rw[map_cons,bC]at h2;rw[foldl_cons,show Bw a q.1 q.2=a++[q]by unfold Bw;rw[aB (h1 q cA)]];rw[d _ (λp c=>?_) h2.2]
   .simp
   .rw[cO,bA];rintro(z|z)
    .show h1 p (bT _ c) z
    .let:p.1=q.1:=by simpa using z
     show h2.1 (by rw[<-this];show aP c)
 let:=key t [] '2' h;simpa[LB]using this
def dN(ss:At)(z:Str):Nat:=(ss.findIdx λx=>decide (x=z))
def Hx{a}(h:z∈a):a[dN a z]?\z/\∀m,m<dN a z->a[m]?≠some z:=by
 let c:dN a z<a.length:=findIdx_lt_length_of_exists {z,h,aK rfl};show{?_,λm f e=>?_}
 .let:=findIdx_getElem (w:=c);rw[aH c];show aT some (aL this)
 .let:=not_of_lt_findIdx f;let[d,g]:=aI.mp e;simp_all
def LC{a}(h:z∈a):dN a z<a.length:=(aI.mp (Hx h).1).1
def Az(qI:At)(r:By)(qC:At):By:=(qC.map λn=>r.getD (dN qI n) 0)
def Cc(qI:At)(t:Tl)(qC:At):Tl:=(t.map λq=>(Az qI q.1 qC,q.2))
def Gg(qI)(r)(qC):(Az qI r qC).length=qC.length:=by unfold Az;rw[aA]
def LD(qI)(t)(qC):(Cc qI t qC).length=t.length:=by unfold Cc;rw[aA]
def UQ(qI)(t)(qC):∀q∈Cc qI t qC,q.1.length=qC.length:=λq a=>by let[p,_,0]:=bU.mp a;show Gg _ _ _
def UR(h:∀q∈t,0<=q.2):∀q∈Cc qI t qC,0<=q.2:=λq a=>by let[p,c,0]:=bU.mp a;show h p c
def Ch(qI:At)(t:Tl)(qC:At):Tl:=(Bf (BF (Cc qI t qC)))
structure Sh(qI:At)(t:Tl)(qC:At):Prop where
 len:qC.length<=100
 sub:∀n∈qC,n∈qI
 few:t.length<=100000
 rows:∀q∈t,q.1.length=qI.length
structure Tal(n:Nat)(t:Tl):Prop where
 few:t.length<=1000
 rows:∀q∈t,q.1.length=n
 pos:∀q∈t,0<q.2
 nd:(t.map (·.1)).Nodup
def US(h:∀q∈t,0<=q.2):CN (BF (Cc qI t qC))=Ch qI t qC:=OQ λr=>by rw[Hw];show JP (UR h) r
theorem UT{t:Tl}(d:t.length<=1000)(h1:∀q∈t,q.1.length=n)(h2:(t.map (·.1)).Nodup)(e:∀r,0<=(Ag t r).getD 0):Tal n (Bf t)where
 few:=aR (K9 t) d
 rows:=UP h1
 pos:=λq c=>by let[a,b]:=fR c;let:=e q.1;lia
 nd:=fQ h2
def UU(h:∀q∈t,0<=q.2)(a:t.length<=1000):Tal qC.length (Ch qI t qC):=by
 show UT ?_ (OP (UQ qI t qC)) (JO _) λr=>by rw[Hw];show JP (UR h) r
 show aR (OO _) (by rw[LD];show a)
def fS(qI)(t)(qC):(Ch qI t qC).length<=t.length:=aR (K9 _) (aR (OO _) (by rw[LD];show aQ _))
def UV(a b:Tl):List By:=((a.map (·.1)++b.map (·.1)).filter λr=>decide ((Ag a r).getD 0≠(Ag b r).getD 0))
def Hy(a b:Tl):Option By:=((De (UV a b)).head?)
def fU(b)(r):(De (b::r)).head?\(r.foldl (λm x=>if HT.lexLt x m=true then x else m) b):=by
 let key:∀(r)(b),(r.foldl (λm x=>if HT.lexLt x m=true then x else m) b)∈b::r/\∀x∈b::r,HT.lexLt x (r.foldl (λm x=>if HT.lexLt x m=true then x else m) b)=false:=by
  intro r
  induction r with|nil=>intro b;show{'2',λx hx=>by rw[bI.mp hx];show HQ b}|cons y r g=>
   intro b;rw[foldl_cons];let[h1,h2]:=g _;show{?_,λx hx=>?_}
   .let e||h1:=aF.mp h1
    .rw[e];split<;>simp
    .show bT _ (bT _ h1)
   .generalize r.foldl _ _=m at h1 h2⊢;let a:=h2 _ cA;let 0||hx:=aF.mp hx
    .split at a
     .rename_i f;cases e:HT.lexLt x m
      .rfl
      .let:=HR _ _ _ f e;rw[this]at a;cases a
     .show a
    .let 0||hx:=aF.mp hx
     .split at a
      .show a
      .rename_i f;cases e:HT.lexLt x m
       .rfl
       .let q||q:=ND x b m e
        .show bS q f
        .rw[q]at a;cases a
     .show h2 x (bT _ hx)
 let[h1,h2]:=key r b;let c:=FO (b::r);let d:=JJ (b::r);generalize r.foldl (λm x=>if HT.lexLt x m=true then x else m) b=m at h1 h2⊢
 match h:De (b::r),c,d with
 |[],c,_=>show bS c.length_eq '2'|x::xs,c,d=>
  let j:=h2 x (c.mem_iff.mp cA);let i:HT.lexLt m x=false:=by
   let 0||hm:=aF.mp (c.mem_iff.mpr h1)
   .show HQ m
   .show(cT.mp d).1 m hm
  rw[head?_cons,Ib x m j i]
def fV:Option By->P|none=>.non|some r=>AW r
def CU(a b:At):At:=(a.filter λn=>decide (n∈b))
def UW(a b):(∀n∈CU a b,n∈a)/\∀n∈CU a b,n∈b:={λn c=>(cX.mp c).1,λn c=>by simpa using(cX.mp c).2}
def fX(a b):(CU a b).length<=a.length:=length_filter_le _ _
def Gh(h:Tal n t):∀q∈t,0<=q.2:=λq a=>Int.le_of_lt (h.pos q a)
def UX(a:Tal qI.length t)(d:qC.length<=100)(c:∀n∈qC,n∈qI):Sh qI t qC:={d,c,aR a.few '3',a.rows}
end L2
variable{ts:List L2.Tl}
namespace L2
abbrev Ft(a b:Str):Prop:=¬(b.cps.toList<a.cps.toList)
abbrev OR(l:At):Prop:=l.Pairwise Ft
def fY{a b c}(h:Ft a b)(g:Ft b c):Ft a c:=λz=>h (List.lt_of_le_of_lt (List.not_lt.mp g) z)
def fZ{a b:Str}(h:a.cps.toList=b.cps.toList):a=b:=PyProof.Rows.ext_toList h
def fc{a b}(h:Ft a b)(g:Ft b a):a=b:=fZ (List.le_antisymm (List.not_lt.mp h) (List.not_lt.mp g))
theorem UY:∀(l:At)(p),risingS p l=true->(p::l).Pairwise Ft
 |[],p,_=>pairwise_singleton _ _|x::r,p,h=>by
  rw[risingS,cB]at h;let h1:Ft p x:=by let:=h.1;rw[ltCps_eq]at this;simp_all
  let h2:=UY r x h.2;show cT.mpr {λy hy=>?_,h2};let 0||hy:=aF.mp hy
  .show h1
  .show fY h1 ((cT.mp h2).1 y hy)
def fe{l:At}(h:sortedS l=true):OR l:=by cases l with|nil=>simp|cons x r=>show UY r x h
structure Nms(ns:At):Prop where
 pos:1<=ns.length
 len:ns.length<=6
 nd:ns.Nodup
 srt:OR ns
open PySem.Calls
end L2
namespace L2
structure Chg(fs xs:Gn)(h h':Heap):Prop where
 keep:∀b o,b∉fs->b∉xs->h.get? b\o->h'.get? b\o
 slot:∀b o,b∈fs->b∉xs->h.get? b\o->∃sl,h'.get? b\{o with slots:=sl}there:∀b o,h.get? b\o->∃o',h'.get? b\o'
def FP(h:Heap)(e:Addr)(cls:Value)(d:Ge)(fl:Value)(T:Addr):Prop:=(T≠e/\(∃oe vs,h.get? e\oe/\oe.cls=cls/\oe.dict=d/\oe.data=.fields vs/\vs[1]?\(.ref T))/\∃oT ts,h.get? T\oT/\oT.data=.fields ts/\ts[3]?\fl)
def OS(h:Heap)(e:Addr)(cls:Value)(d:Ge)(xs:Gn):Prop:=((xs=[e]/\∃oe vs,h.get? e\oe/\oe.cls=cls/\oe.dict=d/\oe.data=.fields vs/\vs[1]?\.none)\/∃T,xs=[e,T]/\FP h e cls d .none T)
def Chg.trans{fs xs}(a:Chg fs xs h h1)(b:Chg fs xs h1 h2):Chg fs xs h h2:={λc o n m e=>b.keep c o n m (a.keep c o n m e),λc o n m e=>(by let[_,d]:=a.slot c o n m e;show let⟨sl,f⟩:=b.slot c _ n m d;#[sl,f]),λc o e=>(by let[_,d]:=a.there c o e;show b.there c _ d)}
def Chg.mono{fs fs' xs d}(a:Chg fs xs h h1)(hf:∀b∈fs,b∈fs')(f:∀b∈xs,b∈d):Chg fs' d h h1:={λc o n m e=>a.keep c o (λz=>n (hf c z)) (λz=>m (f c z)) e,λc o n m e=>by
  by_cases g:c∈fs
  .show a.slot c o g (λz=>m (f c z)) e
  .show{o.slots,a.keep c o g (λz=>m (f c z)) e},a.there}
section
variable{M:Model}{e:Addr}
def UZ{vs:Ex}{head}{c}{Q}(J:A.frames\(env::outer))(x:s.heap.FunFrames base (env::outer))(N:env.frame\L)(w:'F' e\oe)(g:oe.data=.fields vs)(l:1<vs.size)(h:∀h' T,Chg (frs (env::outer)) [e] s.heap h'->'H'<=T->FP h' e oe.cls oe.dict (rawInt L) T->Q () {s with heap:=h'}):wpAny M A (do let ρ<-frameOf env;let pl<-entryPlaceOf L c;let nb<-EntryCells.newEntry head ρ .none (rawInt L) .none pl;setField (.ref e) 1 nb) Q E s:=by
 let G:e∉(env::outer).filterMap (·.frame):=λO=>by let[_,o,f,D]:=x.mem O;rw[w]at f;injection f with f;subst f;show D vs g
 show wB (wpAny_frameOf_fun J x N λa p=>?_);show wB (wpAny_entryPlaceOf λpl r=>?_)
 show wB (cG ?_ (r.sizeOk5 _ _ _ _ _));let y:=(p.2.1 e G).trans w;generalize u:({cls:=.type "traceback",dict:=none,data:=.fields ([head,.ref L,.none,rawInt L,.none]++(if pl.isEmpty then replicate 6 Value.none else pl)).toArray}:Obj)=C;let j:=aS C y;show wpAny_setField j g l (h _ a.objs.size ?_ (Nat.le_of_eq p.1.symm) ?_)
 .let keep:∀b o,b≠e->a.get? b\o->((a.push C).update e (Obj.mapFields (·.setIfInBounds 1 (Value.ref a.objs.size)))).get? b\o:=λb o d hb=>by show(cM _ _ (Ne.symm d)).trans ?_;show aS _ hb
  let i:=Heap.get?_update_self (Obj.mapFields (·.setIfInBounds 1 (Value.ref a.objs.size))) j (Obj.isFreed_of_fields (Obj.data_mapFields g (·.setIfInBounds 1 (Value.ref a.objs.size))));show{λb o n m q=>keep b o (λz=>m (by rw[z];show mem_singleton_self _)) ((p.2.1 b n).trans q),λb o n m q=>?_,λb o q=>?_}
  .let[sl,H]:=p.2.2 b o q;show{sl,keep b _ (λz=>m (by rw[z];show mem_singleton_self _)) H}
  .by_cases d:b=e
   .subst d;show#[_,i]
   .let[sl,H]:=p.2.2 b o q;show{_,keep b _ d H}
 .let v:=Nat.ne_of_gt (bN y);let B:=Obj.data_mapFields g (·.setIfInBounds 1 (Value.ref a.objs.size));let i:=Heap.get?_update_self (Obj.mapFields (·.setIfInBounds 1 (Value.ref a.objs.size))) j (Obj.isFreed_of_fields B);let I:=(cM (a.push C) (Obj.mapFields (·.setIfInBounds 1 (Value.ref a.objs.size))) (Ne.symm v)).trans (bP a (by rw[<-u];rfl));show{v,{_,_,i,Obj.cls_mapFields _ _,?_,B,by simp[l]},_,_,I,by rw[<-u],?_}
  .unfold Obj.mapFields;split<;>rfl
  .first|(simp;done)|(let 0||[_,_,_,_,_,_,_,0]:=r<;>simp)
def LF{d}{Q}(x:FP s.heap e cls d B T)(h:∀h',Chg [] [T] s.heap h'->FP h' e cls d .none T->Q () {s with heap:=h'}):wpAny M A (setFlight (.ref e) none) Q E s:=by
 done<;>let[j,[oe,vs,l,y,u,r,v],C,ts,p,c,w]:=x;let g:=(Array.getElem?_eq_some_iff.mp w).1;let a:∀b,b≠T->(s.heap.update T (Obj.mapFields (·.setIfInBounds 3 (none.elim Value.none λf=>rawInt f)))).get? b='F' b:=λb hb=>cM _ _ (Ne.symm hb);let i:=Heap.get?_update_self (Obj.mapFields (·.setIfInBounds 3 (none.elim Value.none λf=>rawInt f))) p (Obj.isFreed_of_fields (Obj.data_mapFields c _));show wB (wpAny_field l r v ?_);rw[aC (by simp)];show wpAny_setField p c g (h _ {λb o _ m q=>(a b λz=>m (by simp_all)).trans q,λb o n _ _=>bS n '2',λb o q=>?_} ?_)
 .by_cases hb:b=T
  .subst hb;show#[_,i]
  .show{o,(a b hb).trans q}
 .show{j,{oe,vs,(a e (Ne.symm j)).trans l,y,u,r,v},_,_,i,Obj.data_mapFields c _,by simp[g]}
def Ua{d}{xs}{Q}(u:A.frames\(env::outer))(v:s.heap.FunFrames base (env::outer))(j:env.frame\L)(C:OS s.heap e cls d xs)(h:∀h' T,Chg (frs (env::outer)) xs s.heap h'->'H'<=T->FP h' e cls d (rawInt L) T->Q () {s with heap:=h'}):wpAny M A (noteFrame (.ref e) env) Q E s:=by
 done<;>let[0,oe,vs,f,0,0,g,p]||[T,0,x,[oe,vs,f,0,0,g,p],G,ts,i,l,B]:=C
 .unfold noteFrame;simp only[j];show wB (wpAny_field f g p ?_);show UZ u v j f g (Array.getElem?_eq_some_iff.mp p).1 h
 .unfold noteFrame;simp only[j];show wB (wpAny_field f g p ?_);rw[aC (by simp)];show wB (wpAny_field i l B ?_);rw[aB (by simp[rawInt])];show wB (wpAny_setField i l (Array.getElem?_eq_some_iff.mp B).1 ?_);let a:∀b,b≠T->(s.heap.update T (Obj.mapFields (·.setIfInBounds 3 Value.none))).get? b='F' b:=λb hb=>cM _ _ (Ne.symm hb);let r:∀b o,'F' b\o->(∀vs,o.data≠.fields vs)->b≠T:=λb o hb n q=>by rw[q,i]at hb;injection hb with hb;subst hb;show n ts l
  let w:=Heap.get?_update_self (Obj.mapFields (·.setIfInBounds 3 Value.none)) i (Obj.isFreed_of_fields (Obj.data_mapFields l _));show UZ u (v.of_keeps λb o hb n=>{o,(a b (r b o hb n)).trans hb,0}) j ((a e (Ne.symm x)).trans f) g (Array.getElem?_eq_some_iff.mp p).1 λh' D c y tr=>h h' D ?_ (~~~y) tr;show Chg.trans {λb o _ m q=>(a b λz=>m (by simp[z])).trans q,λb o _ m q=>{o.slots,(a b λz=>m (by simp[z])).trans q},λb o q=>?_} (c.mono (λ_ z=>z) λb z=>by simp at z;simp[z]);by_cases hb:b=T
  .subst hb;show#[_,w]
  .show{o,(a b hb).trans q}
def ff{d}{xs}{Q}(g:A.frames\(env::outer))(j:s.heap.FunFrames base (env::outer))(i:env.frame\L)(u:OS s.heap e cls d xs)(h:∀h' T,Chg (frs (env::outer)) xs s.heap h'->'H'<=T->FP h' e cls d .none T->Q () {s with heap:=h'}):wpAny M A (leaving env (.ref e)) Q E s:=by
 show wB (Ua g j i u λv T c a tr=>LF tr λh2 p f=>h h2 T ?_ a f);let nb:∀b o,'F' b\o->b∉[T]:=λb o q z=>by rw[bI.mp z]at q;show bS (bN q) (Nat.not_lt.mpr a)
 show{λb o n m q=>p.keep b o '2' (nb b o q) (c.keep b o n m q),λb o n m q=>?_,λb o q=>?_}
 .let[sl,l]:=c.slot b o n m q;show{sl,p.keep b _ '2' (nb b o q) l}
 .let[r,l]:=c.there b o q;show p.there b r l
end
inductive DP(P:Program)(w:World)(outer:List Env)(H:Hp)(s:Shared)(E:XK)(e:Value)(s':Shared):Prop|mk(a:Addr)(cls:Value)(d:Ge)(T:Addr)(H':Hp)(_:e=.ref a)(_:s'.os=s.os)(_:AllBare s'.gens)(_:Un (frs outer) [] H H' s.heap s'.heap)(_:A3 P w H' s'.heap)(_:FP s'.heap a cls d .none T)(_:'F' a=none)(_:'F' T=none)(_:H' a=none)(_:H' T=none)(_:E cls d H')
def A3.chg{P}(x:A3 P w H h)(k:∀b o u,H b\u->h.get? b\o->h'.get? b\o):A3 P w H h':=λa o e=>(x a o e).stay (λb u z q=>by
  let 0||z:=z
  .show k b u _ e q
  .show k b u _ z q) (λ_ q=>q) λ_ _ q=>q
structure Own(X:Cx):Prop where
 stk:X.stack=X.env::X.outer
 frm:X.env.frame\X.env.locals
 ex:X.ex=[]
def Own.frs(o:Own X):frs (X.env::X.outer)=X.env.locals::X.fs:=by unfold L2.frs;rw[filterMap_cons,o.frm];rfl
structure Apart(X:Cx)(qA:List (Addr×Obj))(H:Hp)(b:Addr):Prop where
 new:X.s₀.heap.get? b=none
 free:H b=none
 loc:b≠X.env.locals
 cell:∀y k,X.env.cells.lookup y\k->k≠b
 pin:∀p∈X.pn++qA,p.1≠b
theorem Inv.apart(I:Inv X qA Y H s)(hex:X.ex=[])(n:'F' b=none)(f:H' b=none):Apart X qA H' b where
 new:=by cases e:X.s₀.heap.get? b with|none=>rfl|some o=>let[o',a]:=I.base.there b o e (by simp_all);simp_all
 free:=f
 loc:=λz=>by let[m,[o,_,_,ho,_],_]:=I.loc;rw[z,ho]at n;cases n
 cell:=λy k e z=>by let[v,o,ho,_]:=I.cell y k e;rw[z,n]at ho;cases ho
 pin:=λp hp z=>by let:=(I.pin p hp).1;rw[z,n]at this;cases this
def Inv.chg{xs}(ow:Own X)(I:Inv X qA Y H s)(c:Chg (L2.frs (X.env::X.outer)) xs s.heap h')(f:∀b∈xs,Apart X qA H b):Inv X qA Y H {s with heap:=h'}:=by
 rw[ow.frs]at c;let nx:∀b o,X.s₀.heap.get? b\o->b∉xs:=λb o e z=>by rw[(f b z).new]at e;cases e
 let w:∀b o,X.s₀.heap.get? b\o->b≠X.env.locals:=λb o e=>bX (aU (bN e) I.ok.above);let any:=λb o m q=>by
  by_cases hb:b∈X.env.locals::X.fs
  .show c.slot b o hb m q
  .show{o.slots,c.keep b o hb m q}
 let a:∀x k,X.env.cells.lookup x\k->∀v,s.heap.IsCell k v->h'.IsCell k v:=λx k e v⟨o,ho,hd⟩=>by let[sl,q]:=any k o (λz=>(f k z).cell x k e rfl) ho;show#[_,q,hd]
 let y:=λb hb=>I.stkFree b (by rw[ow.stk,ow.frs];show hb);show{
  ok:=I.ok,os:=I.os,bare:=I.bare
  base:={λb o e n hb g=>c.keep b o (λz=>(aF.mp z).elim (w b o e) hb) (nx b o e) (I.base.keep b o e n hb g),λb o e n hb g=>by let[sl,h]:=I.base.slot b o e n hb g;let[j,A]:=any b _ (nx b o e) h;show#[j,A],I.base.free,λb o e g=>by let[o',h]:=I.base.there b o e g;show c.there b o' h,I.base.tups,I.base.frzs,I.base.tbls}
  loc:=by
   done<;>(let[m,[o,es,ep,ho,r],D]:=I.loc;let[sl,E]:=any _ o (λz=>(f _ z).loc rfl) ho);show{m,#[_,es,ep,E,r],λi x v h A G=>?_};let[u,r,l]:=D i x v h A G;show#[u,r,?_];let l||[k,C,e,z]:=l
   .show .inl l
   .show .inr {k,C,e,a x C e _ z}
  cell:=λx k e=>by let[v,z]:=I.cell x k e;show{v,a x k e v z}
  free:=I.free,freeC:=I.freeC
  pin:=λp hp=>by let[e,n,ne,B,d]:=I.pin p hp;show{c.keep p.1 p.2 (λz=>(aF.mp z).elim ne B) (λz=>(f _ z).pin p hp rfl) e,n,ne,B,d}
  hok:=I.hok.chg λb o u hb q=>c.keep b o (λz=>by rw[y b z]at hb;cases hb) (λz=>by rw[(f b z).free]at hb;cases hb) q
  len:=I.len}
def LG{d}{xs}{E}(ow:Own X)(I:Inv X qA Y H s)(a:OS s.heap e cls d xs)(g:∀b∈xs,Apart X qA H b)(l:E cls d H){R:VS}:'B' (leaving X.env (.ref e)) (λ_ f=>DP X.prog X.w X.outer X.H₀ X.s₀ E (.ref e) f) R s:=by
 let hex:e∈xs:=by let[0,_]||[T,0,_]:=a<;>simp
 show ff (by rw[I.ok.frames,ow.stk]) (by let:=I.stack;rwa[ow.stk]at this) ow.frm a λh' T c h tr=>?_;let J:=I.chg ow c g;let j:=Heap.get?_none_of_le h;let i:=I.apart ow.ex j (I.hok.fresh h);let hb:=J.base;rw[ow.ex]at hb;show{e,cls,d,T,H,0,J.os,J.bare,hb,J.hok,tr,(g e hex).new,i.new,(g e hex).free,i.free,l}
section
variable{P:Program}{K:Fg}{f:Addr}{s₀:Shared}{H₀:Hp}{E:XK}
abbrev Fu(P:Program)(w:World)(K:Fg)(mg:Str->Do)(base:Heap)(N:At)(qual:Str)(sc:Scope)(f:Addr)(cd:Value)(A:Around)(outer:List Env)(s:Shared)(H:Hp)(E:XK):Cx:=E7 (DP P w) P w K mg base N qual sc f cd A outer s H E
def LH:Own (Fu P w K mg base N qual sc f cd A outer s₀ H₀ E):=#[0,0,0]
def OT(X:Cx)(E:XK):Prop:=(∀(qA:List (Addr×Obj))(Y:St)(H:Hp)(s:Shared)(h':Heap)(e:Addr)(cls:Value)(vs:C2),Inv X qA Y H s->Heap.MadeExcOf s.heap h' e cls vs->E cls none H->X.xe (.ref e) {s with heap:=h'})
def Ev:OT (Fu P w K mg base N qual sc f cd A outer s₀ H₀ E) E:=λqA Y H s h' e i vs I m d=>by
 let[t,c,_,_]:=m.there;let J:=I.kept (t':=s.toks) m.keeps;let h:H e=none:=by cases q:H e with|none=>rfl|some u=>
   let:=(I.hok e u q);obtain⟨o,a⟩:∃o,'F' e\o:=by cases u with|lst xs=>let[_,_,_,_,z]:=this;show#[_,z]|tup xs=>let[_,_,_,o,z,_]:=this;show#[_,z]|dK qH=>let[_,_,_,_,o,_,_,z,_]:=this;show#[_,z]|dT qH=>let[_,_,_,_,o,_,_,z,_]:=this;show#[_,z]|set S n=>let[o,_,_,_,z,_]:=this;show#[_,z]|ins C dx fs=>let[_,_,_,z,_]:=this;show#[_,z]|own y=>show this|xd fs=>let[_,[_,_,_,z,_],_]:=this;show#[_,z]|rng lo hi=>let[_,_,_,z]:=this;show#[_,z]|frz l u=>let[z,_]:=this;show#[_,z]|tbl ps=>show#[_,this]|met g y=>show#[_,this]|ext j=>show this.2.1
   rw[m.new]at a;cases a
 show LG LH J (.inl #[0,_,_,c,0,0,0,0]) (λb hb=>?_) d;rw[bI.mp hb];show I.apart rfl m.new h
def Cz:DH (DP P w) (Fu P w K mg base N qual sc f cd A outer s₀ H₀ E) E:=λqA Y H s e s' I h=>by
 done<;>let[a,n,d,T,H',0,os,c,un,g,tr,na,i,l,m,j]:=h;let J:=I.call' os un g c (λb z=>bS z '2');show LG LH J (.inr #[T,0,tr]) (λb hb=>?_) j;let 0||hb:=aF.mp hb
 .show I.apart rfl na l
 .rw[bI.mp hb];show I.apart rfl i m
end
abbrev vE:C2:=[.type "ValueError",.type "Exception",.type "BaseException",.type "object"]
structure XCls(K:Fg)(mg:Str->Do)(x:Str)(C:Addr):Prop where bd:mg x\(.ref C)ok:PySem.W.excIn K C vE "ValueError.__new__"=true
def mroIn(K:Fg)(C C':Addr):Bool:=(match K.lookup C with|some ⟨_,_,.cls cd,_⟩=>cd.mro.contains (.ref C')|_=>true)
set_option tactic.hygienic true in
def Ub{K:Fg}{bmB:C2}(X:K.In h)(q:PySem.W.excIn K C bmB newId=true):∃bm N nm a bs hdct sn sub ab col dd k0 k1 k2 k3 k5 mN,K.lookup C\(excClassObj nm a C N bs bm hdct sn sub ab col dd k0 k1 k2 k3 k5 newId)/\h.Ns N mN/\mN "__init__"=none/\OwnTail h bmB bm:=by
 unfold PySem.W.excIn at q;split at q
 .rename_i dd cd sl look;split at q
  .rename_i n bm k0 k1 k2 k3 m k5 em es;simp only[cB,beq_iff_eq,Bool.not_eq_true']at q;done<;>(let[[[[[j,i],e],g],c],d]:=q;subst j i;let[nm,bs,mro,ns,a,f,sn,sub,ab,col,l]:=cd;subst em e;obtain⟨sl⟩:=sl);subst es;show{bm,ns,nm,a,bs,f,sn,sub,ab,col,dd,k0,k1,k2,k3,k5,_,look,.of_isNs (PySem.W.isNs_of_in X c),PySem.W.nsMap_none_of_in X c d,PySem.W.tail_of_in X g}
  .cases q
 .cases q
section
variable{M:Model}{nm q:Str}{C N:Addr}{bs bm:C2}{hdct:Bool}{sn:At}{sub:C2}{ab:Bool}{col:Option Bool}{dd:Ge}{k0 k1 k2 k3 k5:Do}{newId:String}{nm' q':Str}{C' N':Addr}{bs' bm':C2}{hdct':Bool}{sn':At}{sub':C2}{ab':Bool}{col':Option Bool}{dd':Ge}{l0 l1 l2 l3 l5:Do}{newId':String}
def Uc{g}{d}{os}{Q}(j:h.get? C\(excClassObj nm q C N bs bm hdct sn sub ab col dd k0 k1 k2 k3 k5 newId))(a:h.get? C'\(excClassObj nm' q' C' N' bs' bm' hdct' sn' sub' ab' col' dd' l0 l1 l2 l3 l5 newId'))(i:h.get? e\oe)(l:oe.cls=.ref C)(m:bm'.contains (.type "BaseException")=true)(c:Q ((Value.ref C::bm).contains (.ref C')) #[h,g,d,t,os]):wpAny M A (excMatches (.ref e) (.ref C')) Q E #[h,g,d,t,os]:=by
 let n:(Value.ref C'::bm').contains (.type "BaseException")=true:=by rw[contains_cons,m,Bool.or_true]
 let f:=tc_notTuple;repeat(first|(with_reducible show wpAny_loadPart_at i ?_;rw[l])|with_reducible show wpAny_loadPart_at a ?_|(with_reducible show wpAny_isSubtype_exc a ?_;rw[n])|(with_reducible show wpAny_isSubtype_exc j ?_)|wp_step)
 cases hb:(Value.ref C::bm).contains _<;>(rw[hb]at c;wp_walk;show c)
end
def Ud(C:Addr)(E:XK)(t:TA):TS:=(λ_ Y H=>t Y H λvs H1=>vs.length<=100/\E (.ref C) none H1)
def FQ{E}{a}(u:X.calm=true)(w:OT X E)(i:XCls X.K X.mg x C)(v:PA X (a::es) t)(p:Gl X x:=by rfl)(g:No x:=by decide+kernel)(o:starEach (a::es) X.env=(false,eval a X.env)::starEach es X.env:=by rfl)(d:(backTo qJ (starEach (a::es) X.env)).any (·.1)=false:=by rfl):PS X (.Raise (some (.Call (.Name x np) (a::es) [] qJ)) none pos) (Ud C E t):=by
 intro qA s Y H D I h;done<;>let[bm,N,nm,n,bs,hdct,sn,sub,ab,col,dd,k0,k1,k2,k3,k5,mN,look,y,f,tl]:=Ub I.mod.kin i.ok;show wpAny_Raise_call_subT (nm:=nm) (q:=n) (N:=N) (bs:=bs) (hdct:=hdct) (sn:=sn) (sub:=sub) (ab:=ab) (col:=col) (dd:=dd) (k0:=k0) (k1:=k1) (k2:=k2) (k3:=k3) (k5:=k5) PySem.F.excBase_ValueError (tl.hasType nofun) (I.ok.hd u) d f
  (FY I p i.bd #[0,?_] g)
 let j:=v qJ qA s Y H _ I h;rw[o]at j⊢;show Calls.evalArgs_plain (AR j λus l zz=>?_);done<;>let[vs,H1,c,r,B,A]:=zz;show{0,?_,c.kIn _ _ look,y.keeps c.bk,tl.keeps c.bk,λh' e m=>w qA Y H1 l h' e _ _ c m A};let:=r.length;change us.length<=16777216;lia
def BG(P:Program)(w:World)(K:Fg)(mg:Str->Do)(base:Heap)(x:Str)(k:Nat)(ps:At)(sp:Sp):Prop:=(∃(f:Addr)(fd:FuncData),FnOk P w K mg base (DP P w) k f fd ps sp/\mg x\(.ref f)/\PySem.W.keepIn K (.ref f)=true/\C7 K fd ps [])
def Co{p}{E}(G:BG X.prog X.w X.K X.mg X.base x k ps sp)(d:DH (DP X.prog X.w) X E)(g:Room k X.A)(j:Gl X x)(m:PA X (e::es) t)(c:No x:=by decide+kernel)(l:starEach (e::es) X.env=(false,eval e X.env)::starEach es X.env:=by rfl)(a:(backTo pos (starEach es X.env)).any (·.1)=false:=by rfl):PE X (.Call (.Name x p) (e::es) [] pos) (E6 sp [] E t):=by let[f,fd,F,h,i,hb]:=G;show Qv F g j h i hb .nil d m c l a
def ET{P}{K}{st}(D:As K mg x st)(S:FnScope N ps (AN st))(hb:∀(kV doc pm)(an:Ge)(a ct)(us:C2),us.length=ps.length->bindArgs (PySem.W.fnOf x x (Ct st) (CH st) (AN st) .none kV doc pm an a ct) {us,[]}=pure (ps.zip us))(len:∀vs H Q E,sp vs H Q E->vs.length=ps.length)(c:∀(f)(a)(A)(outer)(s)(H)(vs)(Q)(E),Room k (A.deeper (PyProof.Rows.envOfC x (AN st) 'H' f a))->sp vs H Q E->∃t,BS (Fu P w K mg base N x (AN st) f a A outer s H E) (CH st) t/\t {nx:=λ_ H'=>Q .non H',rt:=Q} (start N vs) H):BG P w K mg base x (k+1) ps sp:=by let[f,fd,F,j]:=D;show{f,fd,?_,j,F.kp,F.binds hb};let[oc,od,kV,doc,pm,an,a,ct,g,0,h,e]:=F.ex;show Jy h e S len λA outer s H vs Q E i d=>c f a A outer s H vs Q E i d
def Hz(X:Cx)(hs:List ExceptHandler)(th:Value->Ge->TS):Prop:=(∀(qA:List (Addr×Obj))(s:Shared)(Y:St)(H:Hp)(D:Ends)(a T:Addr)(cls:Value)(d:Ge),Inv X qA Y H s->FP s.heap a cls d .none T->Apart X qA H a->Apart X qA H T->th cls d D Y H->'B' (handleBy (.ref a) X.env hs) (SP X qA D) X.xe s)
abbrev Cx.mark(X:Cx)(a:Addr):Cx:={X with A:=X.A.mark (some (.ref a)),calm:=false,xe:=λ_ _=>False}
def Inv.mark(I:Inv X qA Y H s):Inv (X.mark a) qA Y H s:=#[{I.ok.mod,I.ok.kind,I.ok.glob,I.ok.blt,I.ok.above,I.ok.inj,I.ok.has,I.ok.cab,λz=>(by cases z),I.ok.frames,I.ok.stk,I.ok.exf,I.ok.bs,I.ok.bsz,I.ok.noex,I.ok.exfs,I.ok.funs,I.ok.frf},I.os,I.bare,I.base,I.loc,I.cell,I.free,I.freeC,I.pin,I.hok,I.len]
def Inv.unmark(J:X.Ok)(I:Inv (X.mark a) qA Y H s):Inv X qA Y H s:=#[J,I.os,I.bare,I.base,I.loc,I.cell,I.free,I.freeC,I.pin,I.hok,I.len]
def SP.unmark{D}{f}(J:X.Ok)(h:SP (X.mark a) qA D f s'):SP X qA D f s':=by cases f with|next=>let[σ',H',I,q]:=h;show{σ',H',I.unmark J,q}|brk=>let[σ',H',I,q]:=h;show{σ',H',I.unmark J,q}|cont=>let[σ',H',I,q]:=h;show{σ',H',I.unmark J,q}|ret u=>let[v,σ',H',I,r,q]:=h;show{v,σ',H',I.unmark J,r,q}
def fg:Value->Ge->TS:=(λ_ _ _ _ _=>False)
def Ue:Hz X [] fg:=λ_ _ _ _ _ _ _ _ _ _ _ _ _ h=>h.elim
open PySem.W Builtin Builtin.ObjectAttr
def Gj:C2->Bool|.ref _::r=>Gj r|l=>l==vE
def Uf(self)(e:Gj l=true):refuseLoop self "__setattr__" l=pure ()/\l.contains (.type "object")=true/\l.isEmpty=false:=by induction l with|nil=>cases e|cons v r a=>cases v with|ref c=>let[h1,h2,_]:=a e;show{by rw[refuseLoop_ref];show h1,(by assumption),0}|type n=>rw[beq_iff_eq.mp e];show{PySem.F.store_ValueError.passes self,'3',0}|_=>show bS (beq_iff_eq.mp e) '2'
def fh(e:Gj l=true):l.contains (.type "BaseException")=true:=by induction l with|nil=>cases e|cons v r a=>cases v with
  |ref c=>rw[contains_cons,a e,Bool.or_true]|type n=>
   rw[beq_iff_eq.mp e]
   decide|_=>show bS (beq_iff_eq.mp e) '2'
structure XHas(K:Frag)(C:Addr)(f:Str):Prop where
 over:(clsIn K C).any (λcd=>Gj cd.mro)=true
 hd:hasDictIn K C=true
 sa:findIn K (.ref C) "__setattr__"\(some (.builtin "object.__setattr__"))ga:findIn K (.ref C) "__getattribute__"\(some (.builtin "BaseException.__getattribute__"))gh:findIn K (.ref C) "__getattr__"\none
 na:findIn K (.ref C) f\none
section
variable{K:Frag}{x C:Addr}{o:Obj}{f:Str}{v:Value}
def fj(X:K.In s.heap)(i:'F' x\o)(N:o.cls=.ref C)(L:∀c,o.data≠.cls c)(M:o.dict=none)(c:XHas K C f)(h:∀h',h'.get? x\{o with dict:=some 'H'}->h'.Ns1 'H' (λy=>if y=f then some v else none)->(∀b n,b≠x->'F' b\n->h'.get? b\n)->R (.ok (.ret .none)) {s with heap:=h',toks:=s.toks+1}):codeAny (model prog w) A (.call (.builtin "object.__setattr__") {[.ref x,.str f tk,v],[]}) R s:=by
 let m:=PySem.F.store_object;let[cd,l,Q]:=any_some c.over;let[a,top,ne]:=Uf (.ref x) Q;let I:InstAt s.heap x o C none:={i,N,by let[_,_,dd,_]:=o;cases dd<;>first|rfl|show bS rfl (L _),by rw[M];trivial};let sub:Looks (model prog w) s.heap (isInstance (.ref x) (.type "object")) true:=I.type.andThen (looks_mroIn X (by unfold PySem.W.mroIn;rw[l,Option.bind_some,aB (by rw[ne];decide),top]));show codeAny_call_builtin m.slot.plain m.entry (@check_slot (model prog w) _ _ s "object.__setattr__" "object" "__setattr__" (.ref x) [.str f tk,v] [] _ m.kind m.split sub (m.args (.ref x) (.str f tk) v) ?_);let T:Looks (model prog w) s.heap (mroOf (.ref C)) cd.mro:=(looks_clsIn X l).andThen .now;rw[osa_eq,refuse_eq];show wB (wB (I.type.here (wB (T.here ?_))));rw[a];show wP (wB (I.type.here (wB ((looks_findIn X c.na).here (wB (wP ?_))))));done<;>(let[a1,G,D]:=any_some c.hd;let[oc,od,O,sl]:=o);cases N;cases M;show wB (wP (wB (wB (wpAny_loadPart i (wB ((looks_clsIn X G).here ?_))))));rw[D];let g:(s.heap.push {cls:=.type "dict",data:=.dict #[]}).get? x\{.ref C,none,O,sl}:=aS _ i;let d:=bX (bN i);rw[aB '2'];dsimp only;rw[aB (by simp[typeHasDict])];split
 .show bS rfl (L _)
 show wB (wpAny_alloc' (wB (wpAny_update' g (wP ?_))));let r:((s.heap.push {cls:=.type "dict",data:=.dict #[]}).update x λo=>{cls:=o.cls,dict:=some 'H',data:=o.data,slots:=o.slots}).get? 'H'\{cls:=.type "dict",data:=.dict #[]}:=(Heap.get?_update_ne _ _ _ _ d.symm).trans (Heap.get?_push_at rfl rfl)
 let q:((s.heap.push {cls:=.type "dict",data:=.dict #[]}).update x λo=>{cls:=o.cls,dict:=some 'H',data:=o.data,slots:=o.slots}).Ns 'H' (λ_=>none):={_,#[],_,r,0,λe ρ=>bS ρ '2',λ_=>rfl}
 show wB (wP (wB (wpAny_nsSet1 (Heap.Ns1.of_empty q) λh' j J=>?_)));done<;>let[oD,σ,a0,p,B,E]:=j.count (Within.cons f v Within.nil);show wB (wpAny_lookBehind p (by rw[B];show pastItsLine_dict (aR E (by rw[length_cons,length_nil,sizeLine_eq];lia))) ?_);show wP (h h' ?_ j λb n H hb=>?_)
 .show(J.2 x d).trans (Heap.get?_update_self _ g ?_);let u:=(Heap.get?_some_iff.mp i).2;cases O<;>first|rfl|show u
 .show(J.2 b (bX (bN hb))).trans ((Heap.get?_update_ne _ _ _ _ H).trans (aS _ hb))
def fk{Q}(X:K.In s.heap)(d:'F' x\o)(i:o.cls=.ref C)(e:∀c,o.data≠.cls c)(g:o.dict=none)(c:XHas K C f)(h:∀h' t',h'.get? x\{o with dict:=some 'H'}->h'.Ns1 'H' (λy=>if y=f then some v else none)->(∀b a,b≠x->'F' b\a->h'.get? b\a)->Q () {s with heap:=h',toks:=t'}):'C' (setAttr (.ref x) f v) Q E s:=by let I:InstAt s.heap x o C none:={d,i,by let[_,_,dd,_]:=o;cases dd<;>first|rfl|show bS rfl (e _),by simp_all};show set_plain X I c.sa (fj X d i e g c λh' m l j=>h h' _ m l j)
def fm{mA:Str->Do}{a}(X:K.In s.heap)(q:'F' x\o)(H:o.cls=.ref C)(y:∀c,o.data≠.cls c)(G:o.dict\dx)(n:s.heap.Ns1 dx mA)(c:XHas K C f)(r:mA f\v)(j:handedIn v=true)(h:Q v {s with toks:=s.toks+1}):'C' (getAttr (.ref x) f a) Q E s:=by
 let[od,u,B]:=Qq n;let I:InstAt s.heap x o C (some od):={q,H,by let[_,_,dd,_]:=o;cases dd<;>first|rfl|show bS rfl (y _),by rw[G];show u};let FB:=PySem.F.attrBase_ValueError;let[cd,l,e]:=any_some c.over;let[D,g,d,t,os]:=s;let m:=I.type (M:=model prog w);let L:=looks_findIn (M:=model prog w) X c.ga;let L2:=looks_findIn (M:=model prog w) X c.gh;let J:=looks_find (M:=model prog w) X I (findObj_own c.hd c.na rfl (by rw[B,r]));let p:(Value.builtin "BaseException.__getattribute__"==Value.builtin "object.__getattribute__")=false:=by decide+kernel
 let i:(onTheHeap (Value.ref C)&&Value.builtin "BaseException.__getattribute__"==Value.builtin "object.__getattribute__")=false:=by rw[p];rfl
 show wB (wpAny_mkText (bM (wB (m.at (wB (L.at ?_))))));dsimp only;unfold getAttrByItsOwn hookBefore;show wB (L2.at (wB (wpAny_attempt (bM ?_))));unfold callGetattribute;rw[aB (by cases a<;>decide)];unfold boundAndCalled;show wB (wP (wpAny_call ?_));let sub:Looks (model prog w) D (isInstance (.ref x) (.type "BaseException")) true:=m.andThen (looks_mroIn X (by unfold PySem.W.mroIn;rw[l,Option.bind_some,aB (by rw[(Uf .none e).2.2];decide),fh e]));show codeAny_call_builtin FB.ga.plain F.entry_bexc_ga (@check_slot (model prog w) _ _ _ "BaseException.__getattribute__" "BaseException" "__getattribute__" (.ref x) [.str f t] [] _ nofun nofun sub (F.args_bexc_ga (.ref x) (.str f t)) ?_);show wB (wP (wB (wP (wB (m.at (wB (J.at (wP ?_))))))));change 'A' (handedOut v) _ _ _;rw[handedOut_of j];show wP h
end
end L2
namespace L2
open PySem.W
abbrev Cp(C t:Addr)(d:Ge):Obj:={cls:=.ref C,dict:=d,data:=.fields [.ref t,.none,.none,.none,.bool false,.none].toArray}
abbrev FR(vs:C2):Obj:={cls:=.type "tuple",data:=.seq vs.toArray}
set_option tactic.hygienic true in
def fo{K}{N}{m:Str->Do}{n}{v}(X:K.In h)(G:h.Ns N m)(e:nsIn K N n\(some v)):m n\v:=by
 let[o,es,ep,a,f,_,c]:=G;unfold nsIn at e;split at e
 .rename_i q;let z:=X _ _ q;rw[a]at z;cases z;cases f;split at e
  .rename_i d;rw[<-c];unfold nsFind findBy;simp_all
  lia
 .cases e
def JR(K:Frag)(C:Addr)(newId:String)(fI:Addr):Bool:=((K.lookup C).any λo=>o.cls==.type "type"&&(match o.data with|.cls cd=>(match cd.mro with|v::bm=>v==.ref C&&tailIn K vE bm|[]=>false)&&o.slots.size==6&&(o.slots.toList[4]?).join==some (.builtin newId)&&!cd.hasDel&&nsOkIn K cd.ns&&nsIn K cd.ns "__init__"==some (some (.ref fI))|_=>false))
def IA{α:Type}{l:List α}(h:l.length=n+1):∃a t,l=a::t/\t.length=n:=by cases l with|nil=>cases h|cons a t=>show{a,t,0,Nat.succ.inj h}
def fq{α:Type}{l:List α}(h:l.length=6):∃a b c d e f,l=[a,b,c,d,e,f]:=by done<;>(let[a,l1,0,h1]:=IA h;let[b,l2,0,h2]:=IA h1;let[c,l3,0,m]:=IA h2;let[d,o,0,j]:=IA m;let[e,l5,0,i]:=IA j;let[f,n,0,g]:=IA i);simp_all
def Ug{K}(X:K.In h)(q:JR K C newId fI=true):∃bm N nm c bs hdct sn sub ab col dd k0 k1 k2 k3 k5 mN,K.lookup C\(excClassObj nm c C N bs bm hdct sn sub ab col dd k0 k1 k2 k3 k5 newId)/\h.Ns N mN/\mN "__init__"\(.ref fI)/\OwnTail h vE bm:=by done<;>(let[o,look,q]:=any_some q;let[oc,dd,n,[sl]]:=o);simp only[cB,beq_iff_eq]at q;let[0,q]:=q;cases n with
 |cls cd=>simp only[cB,beq_iff_eq,Bool.not_eq_true']at q;done<;>(let[[[[[a,e],i],g],d],f]:=q;let[nm,bs,mro,ns,c,l,sn,sub,ab,col,p]:=cd);cases mro with|nil=>cases a|cons v bm=>
   simp only[cB,beq_iff_eq]at a;done<;>(let[0,a]:=a;subst g;let e:=e;let[k0,k1,k2,k3,j,k5,0]:=fq e);let m:j\(.builtin newId):=by simpa using i
   subst m;show{bm,ns,nm,c,bs,l,sn,sub,ab,col,dd,k0,k1,k2,k3,k5,_,look,.of_isNs (isNs_of_in X d),fo X (.of_isNs (isNs_of_in X d)) f,tail_of_in X a}|_=>cases q
section
variable{g:Array GenState}{d:PySem.Drawn}{t:Nat}{os:PySem.OsState}
variable{nm q:Str}{C N:Addr}{bs bm bmB:C2}{hdct:Bool}{sn:At}{sub:C2}{ab:Bool}{col:Option Bool}{dd:Ge}{k0 k1 k2 k3 k5:Do}{B newId initId:String}{mN:Str->Do}{oI:Obj}
def ft{Q}(F:ExcBaseFacts B newId initId bmB)(T:OwnTail h bmB bm)(c:h.get? C\(excClassObj nm q C N bs bm hdct sn sub ab col dd k0 k1 k2 k3 k5 newId))(v:h.Ns N mN)(p:mN "__init__"\(.ref fI))(s:h.get? fI\oI)(y:oI.cls=.type "function")(m:us.length<=sizeLine)(k:'C' (call (.ref fI) (.ref (h.objs.size+1)::us)) (λr s'=>r=.none/\Q (.done (.ret (.ref (h.objs.size+1)))) s') E {(h.push (FR us)).push (Cp C h.objs.size none),g,d,t,os}):'C' (Builtin.«type.__call__» {.ref C::us,[]}) Q E #[h,g,d,t,os]:=by
 repeat(first|with_reducible show wpAny_loadPart_at c ?_|with_reducible show wpAny_madeBy_exc c ?_|wp_step)
 show codeAny_call_builtin_code (Code.quiet_builtin _ F.quiet) (wpAny_check_new_subT F T c (codeAny_exc_new_subT F T c ?_ m));let f:∀b o,h.get? b\o->((h.push (FR us)).push (Cp C h.objs.size none)).get? b\o:=λb o e=>aS _ (aS _ e);let a:=f _ _ c;let i:=f _ _ s;let j:((h.push (FR us)).push (Cp C h.objs.size none)).Ns N mN:=(by let[o,es,ep,e,r]:=v;show{o,es,ep,f _ _ e,r});let D:=T.keeps f;let u:((h.push (FR us)).push (Cp C h.objs.size none)).get? (h.objs.size+1)\(Cp C h.objs.size none):=by heap_get
 let self:(Value.ref C::bm).contains (.ref C)=true:='2'
 change wpAny _ _ _ _ _ _;unfold isInstance
 repeat(first|with_reducible show wpAny_loadPart_at u ?_|(with_reducible show wpAny_isSubtype_exc a ?_;rw[self])|wp_step)
 change 'A' (typeLookup (.ref C) _) _ _ _;show wpAny_typeLookup_tail a j D F.mroIs F.init.lookup ?_;rw[p];show bM (wB ?_);unfold bindSpecial;show wB (wpAny_typeOf (T:="function") #[_,i,y] ?_);rw[aC '3'];show wP (wB (bL k (λr s' l=>?_) λ_ _ x=>x));let[0,n]:=l
 wp_walk
 show n
def fu(F:ExcBaseFacts B newId initId bmB)(T:OwnTail h bmB bm)(a:h.get? C\(excClassObj nm q C N bs bm hdct sn sub ab col dd k0 k1 k2 k3 k5 newId))(i:h.Ns N mN)(e:mN "__init__"\(.ref fI))(f:h.get? fI\oI)(j:oI.cls=.type "function")(c:us.length<=sizeLine)(k:wpAny (model prog w) (A.under (.builtin "type.__call__" {.ref C::us,[]})) (call (.ref fI) (.ref (h.objs.size+1)::us)) (λr s'=>r=.none/\Q (.ref (h.objs.size+1)) s') E {(h.push (FR us)).push (Cp C h.objs.size none),g,d,t,os}):'C' (call (.ref C) us) Q E #[h,g,d,t,os]:=by
 let m:=tc_lookup;let l:=tc_bind (.ref C);show wpAny_call (codeAny_of_tree ?_);repeat(any_goals(first|assumption|with_reducible show wpAny_loadPart_at a ?_|wp_step))
 show{0,codeAny_call_builtin_at (Code.quiet_builtin _ nofun) entry_typeCall (wpAny_check_type_call_sub a (ft F T a i e f j c k))}
end
section
variable{M:Model}{nm q:Str}{C N:Addr}{bs bm:C2}{hdct:Bool}{sn:At}{sub:C2}{ab:Bool}{col:Option Bool}{dd:Ge}{k0 k1 k2 k3 k5:Do}{newId:String}
def fx{x}{Q}(hb:bm.contains (.type "BaseException")=true)(f:A.handled=none)(h:wpAny M A x (λv s1=>∃e t d,v=.ref e/\s1.heap.get? C\(excClassObj nm q C N bs bm hdct sn sub ab col dd k0 k1 k2 k3 k5 newId)/\s1.heap.get? e\(Cp C t d)/\E (.ref e) s1) E s):wpAny M A (raiseStmt env (some x) none) Q E s:=by
 let a:(Value.ref C::bm).contains (.type "BaseException")=true:=by rw[contains_cons,hb,Bool.or_true]
 show wB (bL h (λv s1 zz=>?_) λ_ _ x=>x);done<;>let[e,t,d,ev,c,i,g]:=zz;subst ev;repeat(first|with_reducible show wpAny_loadPart_at i ?_|lia|(with_reducible show wpAny_isSubtype_exc c ?_;rw[a])|wp_step)
 show wpAny_raiseNew_none f g
end
section
variable{nm q:Str}{C N:Addr}{bs bm bmB:C2}{hdct:Bool}{sn:At}{sub:C2}{ab:Bool}{col:Option Bool}{dd:Ge}{k0 k1 k2 k3 k5:Do}{B newId initId:String}{mN:Str->Do}
def fy{args:He}{Q}(F:ExcBaseFacts B newId initId bmB)(hb:bm.contains (.type "BaseException")=true)(n:A.handled=none)(i:(backTo qJ (starEach args env)).any (·.1)=false)(h:'C' (eval (.Name x np) env) (λc s1=>c=.ref C/\'C' (evalArgs (.ref C) true (backTo qJ (starEach args env)) [])
   (λa e=>a.kw=[]/\a.pos.length<=sizeLine/\e.heap.get? C\(excClassObj nm q C N bs bm hdct sn sub ab col dd k0 k1 k2 k3 k5 newId)/\e.heap.Ns N mN/\mN "__init__"\(.ref fI)/\OwnTail e.heap bmB bm/\(∃oI,e.heap.get? fI\oI/\oI.cls=.type "function")/\wpAny (model prog w) (A.under (.builtin "type.__call__" {.ref C::a.pos,[]})) (call (.ref fI) (.ref (e.heap.objs.size+1)::a.pos))
     (λr f=>r=.none/\f.heap.get? C\(excClassObj nm q C N bs bm hdct sn sub ab col dd k0 k1 k2 k3 k5 newId)/\(∃t d,f.heap.get? (e.heap.objs.size+1)\(Cp C t d))/\E (.ref (e.heap.objs.size+1)) f) E {e with heap:=(e.heap.push (FR a.pos)).push (Cp C e.heap.objs.size none)}) E s1) E s):'C' (exec (.Raise (some (.Call (.Name x np) args [] qJ)) none pos) env) Q E s:=by rw[arm_exec_Raise];show wB (wpAny_standAt (fx (C:=C) (nm:=nm) (q:=q) (N:=N) (bs:=bs) (hdct:=hdct) (sn:=sn) (sub:=sub) (ab:=ab) (col:=col) (dd:=dd) (k0:=k0) (k1:=k1) (k2:=k2) (k3:=k3) (k5:=k5) (newId:=newId) hb n ?_));show wB (bL (wpAny_Call_ofName (bL h (λc s1 h1=>?_) λ_ _ x=>x)) (λv f g=>wB (wpAny_standAt (wP g))) λ_ _ x=>x);let[0,h1]:=h1;show wB (bM (bL h1 (λa e h2=>wB (wpAny_standAt ?_)) λ_ _ x=>x));done<;>(let[O,I]:=a;let[G,m,l,D,p,T,[oI,u,H],h2]:=h2;obtain rfl:I=[]:=G);simp only[i];show wB (wpAny_keeperOf_exc l ?_);show wB (fu F T l D p u H m (bL h2 (λr f g=>{g.1,wB (bM (wpAny_point (wP ?_)))}) λ_ _ x=>x));simp_all
end
def XO(a C t:Addr)(d:Ge):HO:=(.ext λh=>h.get? a\(Cp C t d))
section
variable{C t:Addr}{d:Ge}
def Uh{P}(e:h.get? a\(Cp C t d)):Bg P w H h a (XO a C t d):={e,#[_,e],λ_ _ h1 k=>k _ h1}
def Inv.track(I:Inv X qA Y H s)(d:Apart X qA H a)(new:Bg X.prog X.w (AA H a o) s.heap a o):Inv X qA Y (AA H a o) s:=by
 let ne:∀b u,H b\u->b≠a:=λb u e z=>by rw[z,d.free]at e;cases e
 show{
  ok:=I.ok,os:=I.os,bare:=I.bare
  base:=#[I.base.keep,I.base.slot,λb u e n f=>by rw[AE (λz=>by rw[z,d.new]at e;cases e)];show I.base.free b u e n f,I.base.there,λb xs e=>by rw[AE (ne b _ (I.base.tups b xs e))];show I.base.tups b xs e,λb u v e=>by rw[AE (ne b _ (I.base.frzs b u v e))];show I.base.frzs b u v e,λb ps e=>by let[more,q]:=I.base.tbls b ps e;show{more,by rw[AE (ne b _ q)];show q}]
  loc:=I.loc,cell:=I.cell
  free:=by rw[AE d.loc.symm];show I.free
  freeC:=λx c e=>by rw[AE (d.cell x c e)];show I.freeC x c e
  pin:=λp hp=>by let[e,n,r]:=I.pin p hp;show{e,by rw[AE (d.pin p hp)];show n,r}
  hok:=λb u e=>by
   by_cases hb:b=a
   .subst hb;rw[AJ]at e;cases e;show new
   .rw[AE hb]at e;show(I.hok b u e).stay (λ_ _ _ q=>q) (λc q=>by rw[AE (ne c _ q)];show q) λc xs q=>by rw[AE (ne c _ q)];show q
  len:=I.len}
def IB(H:Hp)(a:Addr):Hp:=(λb=>if b=a then none else H b)
def Gk(h:b≠a):IB H a b=H b:=aB h
def Inv.drop(I:Inv X qA Y H s)(f:H a\(.ext φ)):Inv X qA Y (IB H a) s:=by
 let ne:∀b u,H b\u->(∀φ,u≠.ext φ)->b≠a:=λb u e n z=>by rw[z,f]at e;cases e;show n _ rfl
 let non:∀b,H b=none->IB H a b=none:=λb e=>by
  unfold IB;split
  .rfl
  .show e
 show{
  ok:=I.ok,os:=I.os,bare:=I.bare
  base:=#[I.base.keep,I.base.slot,λb u e n d=>non b (I.base.free b u e n d),I.base.there,λb xs e=>by rw[Gk (ne b _ (I.base.tups b xs e) λ_ z=>nomatch z)];show I.base.tups b xs e,λb u v e=>by rw[Gk (ne b _ (I.base.frzs b u v e) λ_ z=>nomatch z)];show I.base.frzs b u v e,λb ps e=>by let[more,q]:=I.base.tbls b ps e;show{more,by rw[Gk (ne b _ q λ_ z=>nomatch z)];show q}]
  loc:=I.loc,cell:=I.cell,free:=non _ I.free,freeC:=λx c e=>non _ (I.freeC x c e)
  pin:=λp hp=>by let[e,n,r]:=I.pin p hp;show{e,non _ n,r}
  hok:=λb u e=>by
   let hb:b≠a:=λz=>by rw[z]at e;unfold IB at e;rw[aC rfl]at e;cases e
   rw[Gk hb]at e;show(I.hok b u e).stay (λ_ _ _ q=>q) (λc q=>by rw[Gk (ne c _ q λ_ z=>nomatch z)];show q) λc xs q=>by rw[Gk (ne c _ q λ_ z=>nomatch z)];show q
  len:=I.len}
end
def fz(K:Frag)(ta tv:TE)(f:Str):TS:=(λD Y H=>tv Y H λy H1=>ta Y H1 λx H2=>∃a C t,x=.ref a/\H2 a\(XO a C t none)/\XHas K C f/\∀dx,H2 dx=none->D.nx Y (AA (AA H2 a (XO a C t (some dx))) dx (.xd [(f,y)])))
section
variable{o value:Expr}{f:Str}{tv:TE}
def f5(hex:X.ex=[])(G:PE X o ta)(B:PE X value tv)(E:swapsWith value (some (.Attribute o f pos')) pos.line X.env=pure false):PS X (.Assign [.Attribute o f pos'] value pos) (fz X.K ta tv f):=by
 intro qA s Y H D I h;show plainObj_wpAny_Assign_Attribute (AR (B qA s Y H _ I h) λu r zz=>?_) E;let[y,H1,O,v,q]:=zz;show AR (G qA r Y H1 _ O q) λA d zz=>?_;done<;>(let[x,H2,i,w,a,C,t,ex,n,c,k]:=zz;subst ex;obtain rfl:A=Value.ref a:=w);let L:=(i.hok a _ n).1;let l:=i.hok.fresh (aQ _);show fk i.kIn L rfl (λc z=>nomatch z) rfl c λh' t' p N M=>{Y,_,?_,k _ l};let ne:=(Ak n l).symm;let J:=i.write (t':=t') (by rw[n];show True.intro) (.inl rfl) (λb u hb q=>M b u hb q) #[_,p] (Uh p);let j:(AA H2 a (XO a C t (some d.heap.objs.size))) d.heap.objs.size=none:=by rw[AE ne];show l
 show J.track (i.apart hex (Heap.get?_none_of_le (aQ _)) j) {_,N,λg=>?_};by_cases m:g=f
 .subst m;simp only[List.lookup,beq_self_eq_true,dD];show v
 .let hb:=beq_eq_false_iff_ne.mpr m;simp only[List.lookup,hb,aB m];trivial
end
def spInit(K:Frag)(f:Str):Sp:=(λvs H Q _=>∃a C t v,vs=[.ref a,v]/\H a\(XO a C t none)/\XHas K C f/\∀dx,H dx=none->Q .non (AA (AA H a (XO a C t (some dx))) dx (.xd [(f,v)])))
def f6{P}{K}{f p}{st}{kV doc d}{g:Array Do}{p1 p2 m l}(n:K.lookup fI\{oc,od,.func (fnOf "__init__" qual (Ct st) (CH st) (AN st) .none kV doc pm an d ct),g})(j:codeIn K d qual=true)(S:FnScope ["self",p] ["self",p] (AN st))(hb:CH st=[.Assign [.Attribute (.Name "self" p1) f p2] (.Name p m) l])(q:(p==("__debug__":Str))=false)(r:(p==("__classdict__":Str))=false):FnOk P w K mg base CX 1 fI (fnOf "__init__" qual (Ct st) (CH st) (AN st) .none kV doc pm an d ct) ["self",p] (spInit K f):=by
 let e:∀y∈[("self":Str),p],Ed _ y:=λy o=>(S.par y o).imp_right Or.inl;show Jy n j S (λvs H Q E h=>?_) λA outer s H vs Q E x h=>?_
 .let[_,_,_,_,0,_]:=h;rfl
 .let[a,C,t,v,0,u,c,k]:=h;rw[hb];show{_,Ad (f5 rfl (Ef (i:=0) rfl (e _ '2') '3' '3') (Ef (i:=1) rfl (e _ '2') q r) rfl),?_};show{v,0,.ref a,0,a,C,t,0,u,c,k}
structure XClsV(K:Frag)(mg:Str->Do)(x f:Str)(C:Addr):Prop where
 bd:mg x\(.ref C)has:XHas K C f
 init:∃(fI:Addr)(fd:FuncData)(p:Str),JR K C "ValueError.__new__" fI=true/\isFn K (.ref fI)=true/\C7 K fd ["self",p] []/\∀(P:Program)(w:World)(base:Heap)(CX:C6),FnOk P w K mg base CX 1 fI fd ["self",p] (spInit K f)
def OU(X:Cx)(E:XK):Prop:=(∀(qA:List (Addr×Obj))(Y:St)(H:Hp)(s:Shared)(e C t:Addr)(d:Ge),Inv X qA Y H s->'F' e\(Cp C t d)->Apart X qA H e->E (.ref C) d H->X.xe (.ref e) s)
def f7{P}{K:Frag}{f}{E}:OU (Fu P w K mg base N qual sc f cd A outer s₀ H₀ E) E:=λqA Y H s e C t d I c g a=>LG LH I (.inl #[0,_,_,c,0,0,0,0]) (λb hb=>by simp_all) a
def OV(C:Addr)(f:Str)(E:XK)(ta:TE):TS:=(λ_ Y H=>ta Y H λv H1=>∀dx,H1 dx=none->E (.ref C) (some dx) (AA H1 dx (.xd [(f,v)])))
def f8{f}{E}{n}(hc:X.calm=true)(hex:X.ex=[])(hR:OU X E)(y:XClsV X.K X.mg x f C)(hr:Room 2 X.A)(ha:PE X n ta)(hg:Gl X x:=by rfl)(M:No x:=by decide+kernel)(σ:starEach [n] X.env=(false,eval n X.env)::starEach [] X.env:=by rfl)(L:(backTo qJ (starEach [n] X.env)).any (·.1)=false:=by rfl):PS X (.Raise (some (.Call (.Name x np) [n] [] qJ)) none pos) (OV C f E ta):=by
 intro qA s Y H D I h;done<;>(let[fI,fd,p,ok,fn,hb,F]:=y.init;let[bm,N,nm,qn,bs,hdct,sn,sub,ab,col,dd,k0,k1,k2,k3,k5,mN,look,hN,gi,tl]:=Ug I.mod.kin ok);show fy (fI:=fI) (nm:=nm) (q:=qn) (N:=N) (bs:=bs) (hdct:=hdct) (sn:=sn) (sub:=sub) (ab:=ab) (col:=col) (dd:=dd) (k0:=k0) (k1:=k1) (k2:=k2) (k3:=k3) (k5:=k5) (mN:=mN) PySem.F.excBase_ValueError (tl.hasType nofun) (I.ok.hd hc) L (FY I hg y.bd #[0,?_] M);let hA:=(AG ha AS σ) qJ qA s Y H (λvs H1=>∃v,vs=[v]/\∀dx,H1 dx=none->E (.ref C) (some dx) (AA H1 dx (.xd [(f,v)]))) I (by
  show Eq.mp ?_ h;unfold OV
  congr 1
  simp[B5])
 rw[σ]at hA⊢;show Calls.evalArgs_plain (AR hA λus c zz=>?_);done<;>(let[vs,H1,i,r,v,ev,hE]:=zz;subst ev;obtain⟨u,qF,eu,B,G⟩:∃u qF,us=u::qF/\AV v u/\qF=[]:=by cases r with|cons B G=>cases G;show#[_,_,0,B,0])
 subst G eu;let kp:∀b o,c.heap.get? b\o->((c.heap.push (FR [u])).push (Cp C c.heap.objs.size none)).get? b\o:=λb o e=>aS _ (aS _ e);let ge:((c.heap.push (FR [u])).push (Cp C c.heap.objs.size none)).get? (c.heap.objs.size+1)\(Cp C c.heap.objs.size none):=by heap_get
 let ρ:=i.laid (t':=c.toks) kp (cS _) (Uh ge);done<;>obtain⟨oI,gI,cI⟩:∃oI,X.K.lookup fI\oI/\oI.cls=.type "function":=by let[oI,q1,q2]:=aJ.mp (beq_iff_eq.mp fn);show#[oI,q1,q2]
 show{0,(by change 1<=16777216;decide),i.kIn _ _ look,hN.keeps i.bk,gi,tl.keeps i.bk,{oI,i.kIn _ _ gI,cI},?_};let j:=i.hok.fresh (cS _);show wpAny_call (codeAny_mono ((F X.prog X.w X.base EJ).run _ X.stack _ _ {[.ref (c.heap.objs.size+1),u],[]} [.ref (c.heap.objs.size+1),u] [.ref (c.heap.objs.size+1),v]
  (λz H'=>z=.non/\∃dx,H1 dx=none/\dx≠c.heap.objs.size+1/\H'=AA (AA H1 (c.heap.objs.size+1) (XO (c.heap.objs.size+1) C c.heap.objs.size (some dx))) dx (.xd [(f,v)])) E0 (hr.make C [u] []) (ρ.env0.make C [u] [])
  (hb _ [.ref (c.heap.objs.size+1),u] ρ.kIn rfl) (.cons rfl (.cons B .nil)) #[_,C,_,v,0,AJ,y.has,λdx d=>#[0,dx,?_,?_,?_]]) λJ s' l=>?_)
 .let:dx≠c.heap.objs.size+1:=λz=>by rw[z,AJ]at d;cases d
  rwa[AE this]at d
 .showλz=>by rw[z,AJ]at d;cases d
 .rw[IK]
 cases J with|error ev=>show l.elim|ok fl=>cases fl with|ret z=>
   done<;>(let[zv,H',T,rz,ez,dx,d,g,Q]:=ρ.after l;subst ez Q;obtain rfl:z=Value.none:=rz);let e4:(AA (AA H1 (c.heap.objs.size+1) (XO (c.heap.objs.size+1) C c.heap.objs.size (some dx))) dx (.xd [(f,v)])) (c.heap.objs.size+1)\(XO (c.heap.objs.size+1) C c.heap.objs.size (some dx)):=by rw[AE g.symm,AJ]
   let m:=(T.hok _ _ e4).1;let I5:=T.drop e4;let Q:IB (AA (AA H1 (c.heap.objs.size+1) (XO (c.heap.objs.size+1) C c.heap.objs.size (some dx))) dx (.xd [(f,v)])) (c.heap.objs.size+1)=AA H1 dx (.xd [(f,v)]):=by
    funext b
    by_cases hb:b=c.heap.objs.size+1
    .subst hb;rw[AE g.symm,j];show aC rfl
    .rw[Gk hb];by_cases O:b=dx
     .subst O;rw[AJ,AJ]
     .rw[AE O,AE hb,AE O]
   rw[Q]at I5;show{0,T.kIn _ _ look,#[_,_,m],hR qA Y _ s' _ C _ (some dx) I5 m (i.apart hex (Heap.get?_none_of_le (cS _)) ?_) (hE dx d)};rw[AE g.symm];show j|next=>show l.elim|brk=>show l.elim|cont=>show l.elim
def xok(K:Frag)(C:Addr):Prop:=(excIn K C vE "ValueError.__new__"=true\/∃fI,JR K C "ValueError.__new__" fI=true)
def LI{K}(X:K.In h)(q:xok K C):∃bm N nm a bs hdct sn sub ab col dd k0 k1 k2 k3 k5,K.lookup C\(excClassObj nm a C N bs bm hdct sn sub ab col dd k0 k1 k2 k3 k5 "ValueError.__new__")/\OwnTail h vE bm:=by
 let q||[fI,q]:=q
 .done<;>let[bm,N,nm,a,bs,hdct,sn,sub,ab,col,dd,k0,k1,k2,k3,k5,mN,look,_,_,tl]:=Ub X q;show#[bm,N,nm,a,bs,hdct,sn,sub,ab,col,dd,k0,k1,k2,k3,k5,look,tl]
 .let[bm,N,nm,a,bs,hdct,sn,sub,ab,col,dd,k0,k1,k2,k3,k5,mN,look,_,_,tl]:=Ug X q;show#[bm,N,nm,a,bs,hdct,sn,sub,ab,col,dd,k0,k1,k2,k3,k5,look,tl]
abbrev Cx.markE(X:Cx)(a:Addr)(oe:Obj):Cx:={X with A:=X.A.mark (some (.ref a)),calm:=false,xe:=λ_ _=>False,pn:=(a,oe)::X.pn}
section
variable{oe:Obj}
def Inv.markE(I:Inv X qA Y H s)(c:Apart X qA H a)(e:'F' a\oe)(d:∀v,oe.data≠.cell v):Inv (X.markE a oe) qA Y H s:=by
 show#[{I.ok.mod,I.ok.kind,I.ok.glob,I.ok.blt,I.ok.above,I.ok.inj,I.ok.has,I.ok.cab,λz=>(by cases z),I.ok.frames,I.ok.stk,I.ok.exf,I.ok.bs,I.ok.bsz,I.ok.noex,I.ok.exfs,I.ok.funs,I.ok.frf},I.os,I.bare,I.base,I.loc,I.cell,I.free,I.freeC,λp hp=>?_,I.hok,I.len];let 0||hp:=aF.mp hp
 .show{e,c.free,c.loc,λz=>?_,d};let[_,o,q,_]:=I.ok.funs.mem z;rw[c.new]at q;cases q
 .show I.pin p hp
def Inv.unmarkE(J:X.Ok)(I:Inv (X.markE a oe) qA Y H s):Inv X qA Y H s:={J,I.os,I.bare,I.base,I.loc,I.cell,I.free,I.freeC,λp hp=>I.pin p (bT _ hp),I.hok,I.len}
def Inv.relocal{m':Str->Do}(I:Inv X qA Y H s)(hs:Heap.SameBut X.env.locals s.heap h')(j:h'.Ns X.env.locals m')(l:∀(i:Nat)(x)(v),X.N[i]?\x->σ'[i]?\(some v)->Ed X.env.scope x->∃u,AV v u/\QN X.env h' m' x u)(len:σ'.length=Y.length):Inv X qA σ' H {s with heap:=h',toks:=t'}:=by
 let ne:∀b o,X.s₀.heap.get? b\o->b≠X.env.locals:=λb o e=>bX (aU (bN e) I.ok.above);show{I.ok,I.os,I.bare,{λb o e n hb a=>?_,λb o e n hb a=>?_,I.base.free,λb o e a=>?_,I.base.tups,I.base.frzs,I.base.tbls},#[m',j,l],λy c e=>?_,I.free,I.freeC,λp hp=>?_,λb u e=>?_,len.trans I.len}
 .show(hs.2 b (ne b o e)).trans (I.base.keep b o e n hb a)
 .let[sl,f]:=I.base.slot b o e n hb a;show{sl,(hs.2 b (ne b o e)).trans f}
 .let[o',f]:=I.base.there b o e a;show{o',(hs.2 b (ne b o e)).trans f}
 .let[g,z]:=I.cell y c e;show{g,z.sameBut hs (I.cne y c e)}
 .let[e,n,ne,h,d]:=I.pin p hp;show{(hs.2 p.1 ne).trans e,n,ne,h,d}
 .show(I.hok b u e).stay (λc g hc q=>(hs.2 c ?_).trans q) (λ_ q=>q) λ_ _ q=>q;rintro rfl;let 0||hc:=hc
  .rw[I.free]at e;cases e
  .rw[I.free]at hc;cases hc
def LJ{n}{Q}(I:Inv X qA Y H s)(y:X.N.Nodup)(hi:X.N[k]?\n)(g:X.env.scope.names.lookup n\.local)(h:∀s',Inv X qA (Y.set k none) H s'->Q () s'):wpAny M A (do bindName X.env n .none;unbindBehindTheSuite X.env n pos) Q E s:=by
 let j:(X.env.scope.kind==.class||(X.env.scope.kind==.module&&X.env.locals !=X.env.globals))=false:=by rw[I.ok.kind];rfl
 let d:k<Y.length:=by rw[I.len];show(aI.mp hi).1
 show wB (wpAny_bindName (MJ (v:=.non) I y hi (.inl g) rfl (λD r=>?_) (.inr g)));let[m,O,f]:=id r.loc;let[u,_,q]:=f k n .non hi (bY d) (.inl g);let L:m n\u:=by
  let[_,q]||[q,_]:=q
  .show q
  .let q':X.env.scope.names.lookup n\.cell\/X.env.scope.names.lookup n\.free:=q;rw[g]at q';let q'||q':=q'<;>cases q'
 show wpAny_onRaise (wpAny_unbindName_local g O L j λh' u' p w=>h _ (r.relocal w p (λi x v B l T=>?_) '2'));by_cases a:i=k
 .subst a;rw[bY d]at l;cases l
 .rw[bV (Ne.symm a)]at l;let[C,G,J]:=f i x v B (by rw[bV (Ne.symm a)];show l) T;show#[C,G,?_];let o:x≠n:=λe=>a (MH y B (e▸hi));let[k1,e]||[k1,c,e,z]:=J
  .show .inl {k1,by simp[o,e]}
  .show .inr {k1,c,e,z.sameBut w (r.cne x c e)}
def Ui(K:Frag)(k:Nat)(a dx C:Addr)(f:Str):TE:=(λY H Q=>Y[k]?\(some (.ref a))/\XHas K C f/\∃fs v,H dx\(.xd fs)/\fs.lookup f\v/\Q v H)
def f9{n f}{p}(w:(a,oe)∈X.pn)(A:oe.cls=.ref C)(y:oe.dict\dx)(x:∀c,oe.data≠.cls c)(B:X.N[k]?\n)(j:Ed X.env.scope n)(hb:attributeBase (.Name n p) f X.env (eval (.Name n p) X.env)=eval (.Name n p) X.env)(dW:(n==("__debug__":Str))=false:=by decide)(e:(n==("__classdict__":Str))=false:=by decide):PE X (.Attribute (.Name n p) f pos) (Ui X.K k a dx C f):=by rintro qA s Y H Q I⟨h1,c,fs,v,i,l,q⟩;show Qt hb (AR (Ef B j dW e qA s Y H (λz H'=>z=.ref a/\H'=H) I #[_,h1,0,0]) λu G zz=>?_);done<;>(let[z,H1,d,h,D,E]:=zz;subst D E;obtain rfl:u=Value.ref a:=h;let[mA,ns,r]:=d.hok dx _ i;let[u',m,g]:=Ce.some_of (by rw[<-l];show r f));show fm d.kIn (d.pin _ (mem_append_left _ w)).1 A x y ns c m (Qs g) {v,_,d.tok _,g,q}
def OW(K:Frag)(C:Addr)(ts:TS)(thr:Value->Ge->TS):Value->Ge->TS:=(λcls d D Y H=>∃C1,cls=.ref C1/\xok K C1/\if mroIn K C1 C=true then ts D Y H else thr cls d D Y H)
def FS{ts}{g}{n}{c:Hq}{qF}(ow:Own X)(w:X.mg x\(.ref C))(o:xok X.K C)(u:∀a,BS (X.mark a) (n::c) ts)(v:Hz X qF g)(y:Gl X x:=by rfl)(l:No x:=by decide+kernel):Hz X (.ExceptHandler (some (.Name x np)) none (n::c) pos::qF) (OW X.K C ts g):=by
 rintro qA s Y H D a T G d I tr pa pT iq;done<;>let[m,0,j,h]:=iq;done<;>(let[bm,N,nm,O,bs,hdct,sn,sub,ab,col,dd,k0,k1,k2,k3,k5,look,tl]:=LI I.mod.kin j;let[bm',N',nm',r,bs',hdct',sn',sub',ab',col',dd',l0,l1,l2,l3,l5,e,i]:=LI I.mod.kin o;let[A,[oe,vs,B,E,_,_,_],_]:=id tr);let em:mroIn X.K m C=(Value.ref m::bm).contains (.ref C):=by unfold mroIn;rw[look]
 show wpAny_handleBy_cons (codeAny_handlers_test (FY (I.mark) y w ?_ l)) (by intro q;cases q);show Uc (I.kIn _ _ look) (I.kIn _ _ e) B E (i.hasType nofun) ?_;rw[<-em];cases hb:mroIn X.K m C with|false=>rw[hb]at h;show v qA _ Y H D a T _ d I tr pa pT h|true=>
  rw[hb]at h;show codeAny_handlers_suite (LF tr λρ L p=>?_);let J:=I.chg ow (L.mono (λ_ z=>bS z '2') λ_ z=>z) λb hb=>by rw[bI.mp hb];show pT
  show bL (u a qA _ Y H D (J.mark) h) (λf M q=>q.unmark J.ok) λ_ _ z=>False.elim z
def Uj(K:Frag)(C:Addr)(k:Nat)(ts:Addr->Addr->Addr->TS)(thr:Value->Ge->TS):Value->Ge->TS:=(λcls d D Y H=>∃C1,cls=.ref C1/\xok K C1/\if mroIn K C1 C=true then∃dx,d\dx/\∀a,ts a dx C1 {nx:=λσ' H'=>D.nx (σ'.set k none) H',rt:=D.rt,bk:=λσ' H'=>D.bk (σ'.set k none) H',ct:=λσ' H'=>D.ct (σ'.set k none) H'} (Y.set k (some (.ref a))) H else thr cls d D Y H)
def gA{n}{ts}{c:Hq}{qF}(ow:Own X)(hm:X.mg x\(.ref C))(xc:xok X.K C)(m:X.N.Nodup)(hi:X.N[k]?\n)(j:X.env.scope.names.lookup n\.local)(hs:∀a oe dx i,oe.cls=.ref i->oe.dict\dx->(∃vs,oe.data=.fields vs)->BS (X.markE a oe) (σ::c) (ts a dx i))(hr:Hz X qF l)(hg:Gl X x:=by rfl)(A:No x:=by decide+kernel):Hz X (.ExceptHandler (some (.Name x np)) (some n) (σ::c) pos::qF) (Uj X.K C k ts l):=by
 rintro qA s Y H D a T a2 d I tr pa pT iq;done<;>let[i,0,y,h]:=iq;done<;>(let[bm,N,nm,qn,bs,hdct,sn,sub,ab,col,dd,k0,k1,k2,k3,k5,look,tl]:=LI I.mod.kin y;let[bm',N',nm',a1,bs',hdct',sn',sub',ab',col',dd',l0,l1,l2,l3,l5,e,p]:=LI I.mod.kin xc;let[E,[oe,vs,O,Q,ed,o,_],_]:=id tr);let em:mroIn X.K i C=(Value.ref i::bm).contains (.ref C):=by unfold mroIn;rw[look]
 show wpAny_handleBy_cons (codeAny_handlers_test (FY (I.mark) hg hm ?_ A)) (by intro q;cases q);show Uc (I.kIn _ _ look) (I.kIn _ _ e) O Q (p.hasType nofun) ?_;rw[<-em];cases hb:mroIn X.K i C with|false=>rw[hb]at h;show hr qA _ Y H D a T _ d I tr pa pT h|true=>
  rw[hb,aC rfl]at h;let[dx,0,h]:=h;show codeAny_handlers_suite_as (LF tr λh3 ρ a0=>?_);let J:=I.chg ow (ρ.mono (λ_ z=>bS z '2') λ_ z=>z) λb hb=>by rw[bI.mp hb];show pT
  let G:=ρ.keep a oe '2' (λz=>E (bI.mp z).symm) O;show MI (v:=.ref a) J m hi (.inl j) rfl (λM J2 zz=>?_) (.inr j);let[b,sb,B]:=zz;let ne:a≠b:=by
   let z||z:=B
   .rw[z];show pa.loc
   .show(pa.cell _ _ z).symm
  let L:=(sb.2 a ne).trans G;let J3:=J2.markE pa L λv z=>by rw[o]at z;cases z
  show bL (hs a oe dx i Q ed #[vs,o] qA M _ H _ J3 (h a)) (λfl s4 q=>?_) λ_ _ z=>False.elim z;cases fl with|next=>let[σ',H',g,q]:=q;show LJ (g.unmarkE J.ok) m hi j λw f=>#[_,H',f,q]|brk=>let[σ',H',g,q]:=q;show LJ (g.unmarkE J.ok) m hi j λw f=>#[_,H',f,q]|cont=>let[σ',H',g,q]:=q;show LJ (g.unmarkE J.ok) m hi j λw f=>#[_,H',f,q]|ret u=>let[v,σ',H',g,r,q]:=q;show LJ (g.unmarkE J.ok) m hi j λw f=>#[v,_,H',f,r,q]
end
end L2
namespace L2
mutual
noncomputable def P.dry:P->Bool|.lst _=>false|.dT _ _=>false|.dK _ _=>false|.fT _ _=>false|.bag=>false|.tup xs=>P.drys xs|.non=>true|.bl _=>true|.int _=>true|.str _=>true
noncomputable def P.drys:dI->Bool|[]=>true|x::r=>x.dry&&P.drys r
end
@[simp]theorem ACP(i):(P.int i).dry=true:=by simp[P.dry]
@[simp]theorem ACQ(i):(P.str i).dry=true:=by simp[P.dry]
@[simp]theorem ACR(xs:dI):(P.tup xs).dry=P.drys xs:=by simp[P.dry]
@[simp]theorem ACS:P.drys []=true:=by simp[P.drys]
@[simp]theorem Uk(x)(xs:dI):P.drys (x::xs)=(x.dry&&P.drys xs):=by simp[P.drys]
@[simp]theorem Ul:∀ns:By,P.drys (ns.map P.int)=true|[]=>'2'|n::r=>by simp[Ul r]
section
variable{b b':Addr}
mutual
theorem Rp.dry:∀{x:P}{v:V},x.dry=true->Rp b Z H x v->Rp b' Z' H x v|.non,_,_,h=>h|.bl _,_,_,h=>h|.int _,_,_,h=>h|.str _,_,_,h=>h|.bag,_,hi,_=>by simp[P.dry]at hi|.tup xs,v,hi,h=>by let[p,vs,h1,h2,a]:=h;show{p,vs,h1,h2,AC.dry (~~~hi) a}|.lst _,_,hi,_=>by simp[P.dry]at hi|.dT _ _,_,hi,_=>by simp[P.dry]at hi|.fT _ _,_,hi,_=>by simp[P.dry]at hi|.dK _ _,_,hi,_=>by simp[P.dry]at hi
theorem AC.dry:∀{xs:dI}{vs:dH},P.drys xs=true->AC b Z H xs vs->AC b' Z' H xs vs|[],_,_,h=>h|x::xs,vs,hi,h=>by let[v,r,h1,h2,a]:=h;rw[Uk,cB]at hi;show{v,r,h1,Rp.dry hi.1 h2,AC.dry hi.2 a}end
end
abbrev EB:=dI->(P->Prop)->(Xn->Prop)->Prop
abbrev IC:=Xn->Hp->Prop
def Ew(Kf:Fg)(mg:Str->Do)(E:XK):IC|.nm n,H'=>∀C,XCls Kf mg n C->E (.ref C) none H'|.vl n f x,H'=>∀C dx v,XClsV Kf mg n f C->x.dry=true->H' dx\(.xd [(f,v)])->(∀b Z,Rp b Z H' x v)->E (.ref C) (some dx) H'
def Ey(Kf:Fg)(mg:Str->Do)(f:EB):Sp:=(λvs H Q E=>∃(b a:Addr)(xs:dI)(K:P->Prop)(Kx:Xn->Prop),Bag H b a/\AC b (λp=>p=b) H xs vs/\f xs K Kx/\(∀x v H',K x->Step b a H H'->Rp b (λp=>H p≠none) H' x v->Q v H')/\∀n H',Kx n->Step b a H H'->Ew Kf mg E n H')
section
variable{K:Fg}
def Um{st}{f}(D:As K mg x st)(S:FnScope N ps (AN st))(hb:∀(kV doc pm)(an:Ge)(c ct)(us:C2),us.length=ps.length->bindArgs (PySem.W.fnOf x x (Ct st) (CH st) (AN st) .none kV doc pm an c ct) {us,[]}=pure (ps.zip us))(len:∀xs K Kx,f xs K Kx->xs.length=ps.length)(G:ps.length<=N.length)(d:∀(j)(c)(A)(outer)(s)(H)(E),Room k (A.deeper (PyProof.Rows.envOfC x (AN st) 'H' j c))->∃p,BM (λ_:Unit=>Fu P' w K mg base N x (AN st) j c A outer s H E) (CH st) p/\∀xs Kn Kx,f xs Kn Kx->p {nx:=λ_=>Kn .non,rt:=Kn,ex:=λn X=>Kx n/\X=Ew K mg E} (Fm N.length xs)):BG P' w K mg base x (k+1) ps (Ey K mg f):=by
 show ET D S hb (λvs H Q E h=>?_) (λj c A outer s H vs Q E C h=>?_)
 .done<;>let[b,a,xs,K,Kx,_,r,i,_]:=h;rw[<-r.length];show len xs K Kx i
 .done<;>(let[b,a,xs,u,Kx,g,r,i,q,I]:=h;let[p,[t,h1,h2],J]:=d j c A outer s H E C);show#[t,h1 (),h2 _ _ _ H _ _ (SU g r (by rw[len xs u Kx i];show G)) (J xs u Kx i) {λU Y H' e ok=>?_,λy v H' e l=>?_,λ_ _ _ e=>e.elim,λ_ _ _ e=>e.elim,λ_ z=>z,λn H' EX e o m=>?_}]
  .show q _ _ H' e #[ok.bag,ok.old] rfl
  .show q y v H' e #[l.1,l.2.1] l.2.2
  .let[B,0]:=e;show I n H' B #[o,m]
end
abbrev pX:=dJ->(P->Fl->Prop)->(Xn->Prop)->Prop
abbrev gB:=dJ->(List (P×Fl)->Prop)->(Xn->Prop)->Prop
section
variable{EX:IC}{a e:Expr}{pa:pX}{pr:gB}
def Uo(EX:IC)(n:Str)(p:pA):pS:=(λE U=>p U λxs=>xs.length<=100/\E.ex n EX)
def Uq{D}{E}(ok:Ok W U Y H)(r:RelD W E D):∀n H',E.ex n EX->Step W.b W.a H H'->EX n H':=λn H' e s=>r.ex n H' EX e s.bag (ok.step s).old
def Ur{pa}{E}(d:XCls Kf mg x C)(q:∀i,(Xs i).K=Kf)(l:∀i,(Xs i).mg=mg)(n:∀i,(Xs i).calm=true)(p:∀i,OT (Xs i) E)(o:QA Xs (e::es) pa)(m:∀i,Gl (Xs i) x:=by rfl)(c:No x:=by decide+kernel)(j:∀i,starEach (e::es) (Xs i).env=(false,eval e (Xs i).env)::starEach es (Xs i).env:=by rfl)(a:∀i,(backTo qJ (starEach (e::es) (Xs i).env)).any (·.1)=false:=by rfl):QS Xs (.Raise (some (.Call (.Name x np) (e::es) [] qJ)) none pos) (Uo (Ew Kf mg E) x pa):=by let[t,h1,h2]:=o;show{Ud C E t,λi=>FQ (n i) (p i) (by rw[q i,l i];show d) (h1 i) (m i) c (j i) (a i),λW U Y H D s ok h r=>h2 W U Y H _ _ ok h λxs vs H1 zz f g=>?_};let[k0,k1]:=zz;show{by rw[g.length];show k0,Uq ok r x H1 k1 f C d}
def Ut(EX:IC)(n f:Str)(p:pE):pS:=(λE U=>p U λx _=>x.dry=true/\E.ex (.vl n f x) EX)
def gC{f}{n}{E}(l:XClsV Kf mg x f C)(I:∀i,(Xs i).K=Kf)(s:∀i,(Xs i).mg=mg)(w:∀i,(Xs i).calm=true)(hex:∀i,(Xs i).ex=[])(G:∀i,OU (Xs i) E)(q:∀i,Room 2 (Xs i).A)(B:QE Xs e n)(u:∀i,Gl (Xs i) x:=by rfl)(j:No x:=by decide+kernel)(p:∀i,starEach [e] (Xs i).env=(false,eval e (Xs i).env)::starEach [] (Xs i).env:=by rfl)(d:∀i,(backTo qJ (starEach [e] (Xs i).env)).any (·.1)=false:=by rfl):QS Xs (.Raise (some (.Call (.Name x np) [e] [] qJ)) none pos) (Ut (Ew Kf mg E) x f n):=by let[t,h1,h2]:=B;show{OV C f E t,λi=>f8 (w i) (hex i) (G i) (by simp_all) (q i) (h1 i) (u i) j (p i) (d i),λW U Y H D L ok h r=>h2 W U Y H _ _ ok h λy J v H1 zz m o dx g=>?_};let[k0,k1]:=zz;let c:=ok.step m;let st:Step W.b W.a H1 (AA H1 dx (.xd [(f,v)])):=Step.new c.bag g;show Uq ok r _ _ k1 (m.trans st) C dx v l k0 AJ λb Z=>?_;show(((o.any c).step st c.bag).dry k0)
def gD(k:Nat)(E:PEnds):PEnds:=({E with nx:=λU=>U[k]?\.emp/\E.nx U,bk:=λU=>U[k]?\.emp/\E.bk U,ct:=λU=>U[k]?\.emp/\E.ct U})
def OX(Kf:Fg)(mg:Str->Do)(n x:Str):Prop:=(∀C C',mg n\(.ref C)->mg x\(.ref C')->mroIn Kf C C'=false)
def XCls.xok{n}(x:XCls Kf mg n C):xok Kf C:=.inl x.ok
def XClsV.xok{n f}(x:XClsV Kf mg n f C):xok Kf C:=by let[fI,_,_,q,_]:=x.init;show .inr #[fI,q]
set_option tactic.hygienic true in
def gE{K:Fg}{id}(q:PySem.W.excIn K C vE id=true):mroIn K C C=true:=by
 unfold PySem.W.excIn at q;unfold mroIn;split at q
 .rename_i look;rw[look];split at q
  .simp_all
  .cases q
 .cases q
def gF{K:Fg}{id}(q:JR K C id fI=true):mroIn K C C=true:=by let[o,look,q]:=PySem.W.any_some q;let[oc,dd,c,sl]:=o;simp only[cB,beq_iff_eq]at q;unfold mroIn;rw[look];let[_,q]:=q;cases c with
 |cls cd=>simp only[cB,beq_iff_eq]at q;let[[[[[q,_],_],_],_],_]:=q;change cd.mro.contains _=true;cases a:cd.mro with|nil=>simp_all|cons v bm=>simp_all
 |_=>cases q
def Uu{K:Fg}(q:xok K C):mroIn K C C=true:=by
 let q||[fI,q]:=q
 .show gE q
 .show gF q
end
section
end
open PySem.W
abbrev CC(own:Value)(fl:Bool)(d:Addr)(i n ep:Nat)(ok ov:Value):Obj:={cls:=.type "dict_itemiterator",data:=.fields [own,.bool fl,.ref d,.int i 0,.int n 0,.int ep 0,ok,ov].toArray}
abbrev EC(k v:Value):Obj:={cls:=.type "tuple",data:=.seq [k,v].toArray}
def FT(h:Heap)(it d:Addr)(i n ep:Nat):Prop:=(∃own fl ok ov,h.get? it\(CC own fl d i n ep ok ov)/\((own=.none/\fl=false)\/∃(a:Addr)(oa:Obj),own=rawInt a/\h.get? a\oa/\a≠it))
def FT.lt(x:FT h it d i n ep):it<h.objs.size:=by let[_,_,_,_,e,_]:=x;show bN e
def FT.keep(x:FT h it d i n ep)(k:∀o,h.get? it\o->h'.get? it\o)(t:∀b o,h.get? b\o->∃o',h'.get? b\o'):FT h' it d i n ep:=by let[own,f,ok,ov,e,q]:=x;show{own,f,ok,ov,k _ e,q.imp_right λzz=>?_};let[a,c,m,l,j]:=zz;let[o',g]:=t a c l;show#[a,o',m,g,j]
section
variable{es:Array DictEntry}
def gG{Q:Do->Shared->Prop}(st:FT s.heap it d i es.size ep)(hm:CQ s.heap d es ep)(hi)(hQ:∀h',FT h' it d (i+1) es.size ep->h'.get? 'H'\(EC es[i].key es[i].val)->h'.objs.size='H'+1->(∀b o,b≠it->'F' b\o->h'.get? b\o)->Q (some (.ref 'H')) {s with heap:=h'}):'C' (pyNext (.ref it)) Q E s:=by
 done<;>(let[f,y,C,tk,os]:=s;let[j,N,ok,G,J,hw]:=st;let[od,H,_,I]:=id hm);let ty:Shared.TypeIs #[f,y,C,tk,os] (.ref it) "dict_itemiterator":=#[_,J,0];let D:Builtin.Dict_items.ownsTuple "dict_itemiterator"=true:=by decide
 unfold pyNext;show wB (wpAny_attempt (wpAny_callSpecial?_slot ty F.slot_dict_itemiterator_next (cQ F.slot_dict_itemiterator_next ty F.entry_dict_itemiterator_next ?body (F.args_dict_itemiterator_next_1 _))));show wB (wP (wB (wB ?_)))
 first|show wB (wpAny_typeNameOfWhole_itemiter ty (wP (wB (wpAny_fieldsOf J rfl ?_))))|show wB (wpAny_typeNameOf_itemiter ty (wP (wB (wpAny_fieldsOf J rfl ?_))))
 simp only[D,dD];change 'A' (if(Value.ref d==Value.none)=true then _ else _) _ _ _;rw[aB (show¬(Value.ref d==Value.none)=true from cH)];show wB (wP (wB (wpAny_dictEntries H I ?_)));rw[aB '2'];show wB (wP (wB (wpAny_dictEpoch H I ?_)));rw[aB '2'];show wP ?_;simp only[show¬((i:Int)<0)by simp_all,if_false,Int.toNat_natCast,cL hi];show wB ?_
 first|show wB (wpAny_typeNameOfWhole_itemiter ty (wP (wB (wpAny_isOneOf_itemiter ty ?_))))|show wB (wpAny_typeNameOf_itemiter ty (wP (wB (wpAny_isOneOf_itemiter ty ?_))))
 change 'A' (setField (.ref it) 3 (rawInt ((i:Int)+1))>>=_) _ _ #[f,y,C,tk,os];show wB (wpAny_setField_rec J '2' λh1 g1 b1=>?_);let L:=b1;let r:h1.get? it\(CC j N d (i+1) es.size ep ok G):=by let e:((i+1:Nat):Int)=(i:Int)+1:=(by simp_all);unfold CC;rw[e];simpa[rawInt]using g1
 let g:Shared.TypeIs #[h1,y,C,tk,os] (.ref it) "dict_itemiterator":=#[_,r,0];show wB (bM (wB (wpAny_isOneOf_itemiter g (wB (wpAny_isOneOf_itemiter g ?_)))));change 'A' (Builtin.Dict_items.pairFromOwner (.ref it) 6 es[i].key es[i].val) _ _ #[h1,y,C,tk,os];unfold Builtin.Dict_items.pairFromOwner;show wB (wpAny_newTuple ?_);let il:=bN J;let h:=L.1;obtain⟨h2,B⟩:∃h2,h2=h1.push (EC es[i].key es[i].val):=#[_,0];let q:h2.get? it\(CC j N d (i+1) es.size ep ok G):=by rw[B];show aS _ r
 let p2:h2.get? f.objs.size\(EC es[i].key es[i].val):=by rw[B,<-h];show bP _ rfl
 let z2:h2.objs.size=f.objs.size+1:=by rw[B,Heap.size_push,h]
 let k2:∀b o,b≠it->f.get? b\o->h2.get? b\o:=λb o hb e=>by rw[B];show aS _ (L.extBut b o hb e)
 change 'A' (Builtin.Dict_items.ownedTupleIsFree (.ref it)>>=_) _ _ {h1.push (EC es[i].key es[i].val),y,C,tk,os};rw[h,<-B];clear B g1 r b1 g;let ne:=Nat.ne_of_gt il;let v:∀(h')(c)(u)(m l:Value),h'.get? it\(CC c u d (i+1) es.size ep m l)->Heap.SameBut it h2 h'->(∃(a:Addr)(oa:Obj),c=rawInt a/\h2.get? a\oa/\a≠it)->Q (some (.ref f.objs.size)) #[h',y,C,tk,os]:=λh' c u m l g' b'⟨a,oa,ea,O,na⟩=>hQ h' #[c,u,m,l,g',.inr {a,oa,ea,b'.extBut a oa na O,na}] (b'.extBut _ _ ne p2) (by change h'.objs.size=f.objs.size+1;rw[b'.1,z2]) λb o hb e=>b'.extBut b o hb (k2 b o hb e)
 show wB ?_;unfold Builtin.Dict_items.ownedTupleIsFree;show wB (wpAny_field q rfl rfl ?_);let[0,0]||[a,oa,0,O,na]:=hw
 .show wP ?_;simp only[dD];show wB (wpAny_field q rfl rfl (wB (wpAny_field q rfl rfl ?_)));show wB (wpAny_setField_rec q '2' λM g3 b3=>?_);let p:=g3;show wB (wpAny_setField_rec p '2' λh4 g4 b4=>?_);let σ:=g4;show wB (wpAny_setField_rec σ '2' λh5 g5 b5=>?_);let ρ:=g5;show wB (wpAny_setField_rec ρ '2' λh6 g6 b6=>?_);let T:=g6;show wB (wpAny_letGo (wP (wP {_,0,wP (v h6 _ _ _ _ T (((Heap.SameBut.trans b3 b4).trans b5).trans b6) #[_,_,0,p2,ne])})))
 .let n:=k2 a oa na O;change 'A' (loadIfAlive ((a:Int).toNat)>>=_) _ _ _;rw[Int.toNat_natCast];show wB (kdx_alive n ?_);simp only[Option.isNone_some,Bool.false_eq_true,if_false];show wB (wpAny_field q rfl (x:=.bool N) rfl ?_);cases N with|true=>rw[aB (show¬(Value.bool true !=Value.bool true)=true from cH)];show wP ?_;simp only[Bool.false_eq_true,if_false];show wP (wP {_,0,wP (v h2 _ _ _ _ q (Heap.SameBut.refl _ _) #[a,oa,0,n,na])})|false=>rw[aC (show(Value.bool false !=Value.bool true)=true from rfl)];show wB (wpAny_setField_rec q '2' λM g3 b3=>?_);let p:=g3;show wP ?_;simp only[Bool.false_eq_true,if_false];show wP (wP {_,0,wP (v M _ _ _ _ p b3 #[a,oa,0,n,na])})
def Uv{Q:Do->Shared->Prop}(j:A.handled=none)(st:FT s.heap it d es.size es.size ep)(i:CQ s.heap d es ep)(l:∀h',Heap.ExtBut it s.heap h'->Q none {s with heap:=h'}):'C' (pyNext (.ref it)) Q E s:=by
 done<;>(let[h,r,ok,o,g,_]:=st;let[od,e,_,f]:=id i);let ty:s.TypeIs (.ref it) "dict_itemiterator":=#[_,g,0];let c:Builtin.Dict_items.ownsTuple "dict_itemiterator"=true:=by decide
 show wB (wpAny_attempt (wpAny_callSpecial?_slot ty F.slot_dict_itemiterator_next (cQ F.slot_dict_itemiterator_next ty F.entry_dict_itemiterator_next ?body (F.args_dict_itemiterator_next_1 _))));show wB (wP (wB (wB ?_)))
 first|show wB (wpAny_typeNameOfWhole_itemiter ty (wP (wB (wpAny_fieldsOf g rfl ?_))))|show wB _
 change 'A' _ _ _ s;show wB (wP (wB (wpAny_dictEntries e f ?_)));rw[aB '2'];show wB (wP (wB (wpAny_dictEpoch e f ?_)));rw[aB '2'];show wP ?_;simp only[show¬(es.size<0)by simp_all,if_false,Int.toNat_natCast,Array.getElem?_eq_none (aQ es.size)];show wB ?_
 first|show wB (wpAny_typeNameOfWhole_itemiter ty (wP ?_))|show wB _
 change 'A' (setField _ 2 .none>>=_) _ _ s;show wB (wpAny_setField g rfl '2' ?_);show wB ?_;show wB (cG ?qyy (by size_fits));show wB (wpAny_of_eq (by first|rfl|(rfl)) (cG ?pyy (by size_fits)));show wB (wpAny_handled ?_);rw[j];show wB (wP (wpAny_throw ?_));show wB (wpAny_isInstance {_,bP _ rfl,0} isSubtype_stop ?n);show wP (l _ (((Heap.SameBut.update ..).extBut.push _).push _))
def Uw{v}(c:s.heap.IsItemsView v d)(g:CQ s.heap d es ep)(h:Q (.ref 'H') {s with heap:=s.heap.push (CC .none false d 0 es.size ep .none .none)}):'C' (pyIter (.ref v)) Q E s:=by
 let[j,h1,_,i]:=id c;let[o,e,_,f]:=id g;let a:Builtin.Dict_items.ownsTuple "dict_itemiterator"=true:=rfl
 show wpAny_pyIter_slot c.typeIs F.slot_dict_items_iter (cQ F.slot_dict_items_iter c.typeIs F.entry_dict_items_iter ?body (F.args_dict_items_iter_1 _));show wB (wP (wB (wB (wpAny_field h1 i rfl (wP (wB (wB (wpAny_dictEntries e f (wB (wpAny_dictEpoch e f ?_))))))))));simp only[a,dD];show cG (wP {_,0,"dict_itemiterator",_,{_,bP _ rfl,0},F.slot_dict_itemiterator_next.lookup,?_}) (by simp only[sizeOk,Builtin.Dict_items.ownedTupleFields,size_toArray,aG,length_cons,length_nil,sizeLine_eq];lia);assumption
end
structure Made(es:Array DictEntry)(lo:Addr)(h:Heap)(as:Gn):Prop where
 nd:as.Nodup
 up:∀a∈as,lo<a
 at_:∀(j:Nat)(a:Addr),as[j]?\a->∃hj:j<es.size,h.get? a\(EC es[j].key es[j].val)
def Made.mono{es}{lo}(x:Made es lo h as)(k:∀b o,lo<b->h.get? b\o->h'.get? b\o):Made es lo h' as:={x.nd,x.up,λj a e=>(by let[hj,q]:=x.at_ j a e;show{hj,k a _ (x.up a (aM e)) q})}
section
variable{R:Result->Shared->Prop}{es:Array DictEntry}
def gH{S I}(N:A.handled=none)(p:S<I)(Q:d≠S)(T:d≠I)(hn:es.size<=sizeLine)(res){h1:Heap}(O:∀h' tk f c as,(∀b o,b≠S->b≠I->h1.get? b\o->h'.get? b\o)->h'.get? S\{cls:=.type "list",data:=.seq f c}->as.length=es.size->Made es I h' as->f.toList=as.map Value.ref->R (.ok (.ret res)) {s with heap:=h',toks:=tk}):∀(k i)(h)(tk c)(f:Ex)(as),es.size-i=k->i<=es.size->FT h I d i es.size ep->CQ h d es ep->(∀b o,b≠S->b≠I->h1.get? b\o->h.get? b\o)->h.get? S\{cls:=.type "list",data:=.seq f c}->f.toList=as.map Value.ref->as.length=i->Made es I h as->codeAny (model prog w) A (.builtin "list.extend.loop" {[.ref S,.ref I,res],[]}) R {s with heap:=h,toks:=tk}:=by
 let ne:=bX p;intro k
 induction k with|zero=>intro i h tk c f as M hi st x D y B el mk;obtain rfl:i=es.size:=⋯;show codeAny_builtin PySem.F.entry_extend_loop ?_;show wB (Uv N st x λh' E=>?_);show wP (O h' tk f c as (λb o v n e=>E b o n (D b o v n e)) (E S _ ne y) el (mk.mono λb o hb e=>E b o (Nat.ne_of_gt hb) e) B)|succ k L=>
  intro i h tk c f as M hi st x D y B el mk;let lt:i<es.size:=⋯;let sz:f.size=i:=by rw[<-bR,B,aA,el]
  show codeAny_builtin PySem.F.entry_extend_loop ?_;show wB (gG st x lt λh' C gp G g=>?_);let u:=g S _ ne y;let ρ:=bN y;let σ:=st.lt;let m:∀b o,b≠S->h'.get? b\o->(h'.update S (Obj.mapSeq (·.push (Value.ref h.objs.size)))).get? b\o:=λb o hb e=>(cM _ _ (Ne.symm hb)).trans e;let r:=Heap.get?_update_self (Obj.mapSeq (·.push (Value.ref h.objs.size))) u rfl;show wB (wpAny_updateSeq u rfl (wP #[plainId_quiet PySem.F.plain_extend_loop _,L (i+1) _ tk _ (f.push (Value.ref h.objs.size)) (as++[h.objs.size]) ⋯ lt ?_ ?_ ?_ r ?_ ?_ #[?_,?_,?_]]) (by lia) (by rw[Array.size_push,sz];lia))
  .show C.keep (λo e=>m I o ne.symm e) λb o e=>?_;by_cases hb:b=S
   .rw[hb];show#[_,r]
   .show{o,m b o hb e}
  .show x.keep λo e=>m d o Q (g d o T e)
  .showλb o v n e=>m b o v (g b o n (D b o v n e))
  .rw[Array.toList_push,B,cO];rfl
  .rw[aG,el];rfl
  .show nodup_append.mpr {mk.nd,'2',λa ha b hb=>?_};rw[bI.mp hb];let[j,l]:=mem_iff_getElem?.mp ha;let[_,q]:=mk.at_ j a l;show bX (bN q)
  .intro a ha;let ha||ha:=bA.mp ha
   .show mk.up a ha
   .rw[bI.mp ha];show σ
  .intro j a l;let h2||h2||h2:=Nat.lt_trichotomy j as.length
   .rw[getElem?_append_left h2]at l;let[J,H]:=mk.at_ j a l;let:=mk.up a (aM l);show{J,m a _ (Nat.ne_of_gt (Nat.lt_trans p this)) (g a _ (Nat.ne_of_gt this) H)}
   .subst h2;let e:h.objs.size=a:=by simpa using l
    subst e;rw[el]at*;show{lt,m _ _ (Nat.ne_of_gt ρ) gp}
   .rw[bQ (by rw[aG,length_singleton];lia)]at l;cases l
def gJ{r S}(O:A.handled=none)(n:s.heap.IsItemsView r d)(p:CQ s.heap d es ep)(G:S≠r)(B:d≠S)(res)(C)(y:'F' S\{cls:=.type "list",data:=.seq #[] C})(N:es.size<=sizeLine)(ρ:∀h' tk i c as,(∀b o,b≠S->'F' b\o->h'.get? b\o)->h'.get? S\{cls:=.type "list",data:=.seq i c}->as.length=es.size->Made es 'H' h' as->i.toList=as.map Value.ref->R (.ok (.ret res)) {s with heap:=h',toks:=tk}):wpAny (model prog w) A.in1 (Builtin.List.listExtendWith (.ref S) (.ref r) res) (λfin s'=>match fin with|.done f=>R (.ok f) s'|.again D=>D.quiet=true/\codeAny (model prog w) A D R s') (λe s'=>R (.error e) s') s:=by
 let E:S<'H':=bN y;let x:∀(h:Heap)(v tk:Nat),(∀b o,b≠S->(s.heap.push (CC .none false d 0 es.size ep .none .none)).get? b\o->h.get? b\o)->h.get? S\{cls:=.type "list",data:=.seq #[] v}->codeAny (model prog w) A (.builtin "list.extend.loop" {[.ref S,.ref 'H',res],[]}) R {s with heap:=h,toks:=tk}:=λh v tk k g=>by
  let σ:=k 'H' _ (Nat.ne_of_gt E) (bP _ rfl);show gH (s:=s) (h1:=s.heap) O E B (bX p.lt) N res (λh' m i c as L u el mk ea=>ρ h' m i c as (λb o hb e=>L b o hb (bX (bN e)) e) u el mk ea) es.size 0 h tk v #[] [] (Nat.sub_zero _) (cD _)
   #[.none,false,.none,.none,σ,.inl #[0,0]] (p.keep λo e=>k d o B (aS _ e)) (λb o hb _ e=>k b o hb (aS _ e)) g rfl rfl {.nil,'6',λj a e=>by simp at e}
 unfold Builtin.List.listExtendWith;show wB (wpAny_typeOf (T:="dict_items") n.typeIs ?_);let J:Builtin.List.listSameRef (.ref S) (.ref r)=false:=by simp[Builtin.List.listSameRef,G]
 let I:(Value.type "dict_items"==Value.type "list")=false:=by decide
 let H:(Value.type "dict_items"==Value.type "tuple")=false:=by decide
 simp only[J,I,H,Bool.or_false,Bool.false_eq_true,if_false];show wB (Uw n p ?_);let g:=aS (CC .none false d 0 es.size ep .none .none) y;show wB (bM (kdx_hint ((by let[o,M,Q,_]:=n;show{o,aS _ M,Q})) ?_));show wpAny_ite_split (λ_=>?_) (λ_=>wP {plainId_quiet PySem.F.plain_extend_loop _,x _ C _ (λb o _ e=>e) g});show wB (wpAny_rule (wB ?_));change 'A' (updateSeq S (·.push .none)>>=λ_=>updateSeq S (·.pop)) _ _ _;show wB (wpAny_updateSeq g rfl ?_);let l:=Heap.get?_update_self (Obj.mapSeq (·.push Value.none)) g rfl;show wpAny_updateSeq (hz:=by seq_fits) l rfl ?_;let q:=Heap.get?_update_self (Obj.mapSeq (·.pop)) l rfl;show wP {plainId_quiet PySem.F.plain_extend_loop _,x _ _ _ (λb o hb e=>(cM _ _ (Ne.symm hb)).trans ((cM _ _ (Ne.symm hb)).trans e)) q}
def gK{r S}(B:A.handled=none)(q:s.heap.IsItemsView r d)(y:CQ s.heap d es ep)(m:S≠r)(n:d≠S)(l:'F' S\{cls:=.type "list",data:=.seq #[]})(v:es.size<=sizeLine)(C:∀h' tk a c as,(∀b o,b≠S->'F' b\o->h'.get? b\o)->h'.get? S\{cls:=.type "list",data:=.seq a c}->as.length=es.size->Made es 'H' h' as->a.toList=as.map Value.ref->R (.ok (.ret .none)) {s with heap:=h',toks:=tk}):wpAny (model prog w) A.in1 (Builtin.«list.__init__» {[.ref S,.ref r],[]}) (λfin s'=>match fin with|.done f=>R (.ok f) s'|.again p=>p.quiet=true/\codeAny (model prog w) A p R s') (λe s'=>R (.error e) s') s:=by change 'A' _ _ _ s;show wB (wB (wpAny_seqItems l rfl (wP ?_)));change 'A' (updateSeq S _>>=λ_=>letGo (#[]).toList.reverse>>=λ_=>Builtin.List.listExtendWith _ _ .none) _ _ s;let g:∀b o,b≠S->'F' b\o->(s.heap.update S (Obj.mapSeq (λ_=>(#[])))).get? b\o:=λb o hb e=>(cM _ _ (Ne.symm hb)).trans e;let i:=Heap.get?_update_self (Obj.mapSeq (λ_=>(#[]))) l rfl;show wB (wpAny_updateSeq l rfl (wB (wpAny_letGo ?_)));show gJ B ((by let[o,u,x]:=q;show{o,g r o m.symm u,x})) (y.keep λo e=>g d o n e) m n .none _ i v λh' tk a c as k j el mk D=>C h' tk a c as (λb o hb e=>k b o hb (g b o hb e)) j el ?_ D;simp_all
def gL{r}(u:A.handled=none)(l:s.heap.IsItemsView r d)(m:CQ s.heap d es ep)(q:es.size<=sizeLine)(y:∀h' tk f c as,(∀b o,'F' b\o->h'.get? b\o)->h'.get? 'H'\{cls:=.type "list",data:=.seq f c}->as.length=es.size->Made es 'H' h' as->f.toList=as.map Value.ref->Q (.ref 'H') {s with heap:=h',toks:=tk}):'C' (call (.type "list") [.ref r]) Q E s:=by show callType_codes (Q₁:=λg j=>g=.ref 'H'/\j={s with heap:=s.heap.push {cls:=.type "list",data:=.seq #[]}}) PySem.F.called_list (PySem.F.typeCall_list_1 _) PySem.F.entry_list_init (code_list_new _ #[0,0]) λg j h1=>?_;let[0,0]:=h1;let n:(s.heap.push {cls:=.type "list",data:=.seq #[]}).get? 'H'\{cls:=.type "list",data:=.seq #[]}:=bP _ rfl;let p:r<'H':=(by let[_,h,_]:=l;show bN h);show#[#[_,n,0],PySem.F.args_list_init_2 _ _,gK u ((by let[o,h,x]:=l;show{o,aS _ h,x})) (m.keep λo e=>aS _ e) (Nat.ne_of_gt p) (bX m.lt) n q λh' tk f c as k i el mk B=>?_];show{0,y h' tk f c as (λb o e=>k b o (bX (bN e)) (aS _ e)) i el {mk.nd,λa v=>?_,mk.at_} B};let z:=mk.up a v;rw[Heap.size_push]at z;show Nat.lt_of_succ_lt z
end
def DB(r p:Addr):HO:=(.ext λh=>h.IsItemsView r p)
def OY:V->dH->Hp->VK->Prop:=(λx xs H Q=>∃(p:Addr)(qH:List (List AT×V)),x=.ref p/\xs=[]/\H p\(.dT qH)/\∀r,H r=none->Q (.ref r) (AA H r (DB r p)))
def Du(H:Hp):List (Addr×dH)->Hp|[]=>H|q::r=>AA (Du H r) q.1 (.tup q.2)
theorem Fv:∀{qs},p∉qs.map (·.1)->Du H qs p=H p|[],_=>rfl|q::r,h=>by rw[map_cons,aF,not_or]at h;unfold Du;rw[AE h.1];show Fv h.2
theorem Ux:∀{qs},(qs.map (·.1)).Nodup->∀q∈qs,Du H qs q.1\(.tup q.2)
 |[],_,q,h=>nomatch h|y::r,a,q,h=>by
  rw[map_cons,bC]at a;unfold Du;let 0||h:=aF.mp h
  .show AJ
  .rw[AE (λz=>a.1 (by rw[<-z];show aP h))];show Ux a.2 q h
def OZ:dH->Hp->VK->Prop:=(λxs H Q=>∃(r p:Addr)(qH:List (List AT×V)),xs=[.ref r]/\H r\(DB r p)/\H p\(.dT qH)/\∀(l:Addr)(qs:List (Addr×Addr×List AT×V)),H l=none->qs.map (·.2.2)=qH->(qs.map (·.1)).Nodup->(∀q∈qs,H q.1=none/\q.1≠l/\H q.2.1\(.tup (q.2.2.1.map kV)))->Q (.ref l) (AA (Du H (qs.map λq=>(q.1,[.ref q.2.1,q.2.2.2]))) l (.lst (qs.map λq=>V.ref q.1))))
theorem Inv.apart2(I:Inv X qA Y H s)(hp:'H'<=a)(f:H' a=none):Apart X qA H' a where
 new:=Heap.get?_none_of_le (aR I.sz hp)
 free:=f
 loc:=λz=>by let[m,[o,_,_,ho,_],_]:=I.loc;rw[z]at hp;show bS (bN ho) (Nat.not_lt.mpr hp)
 cell:=λy k e z=>by let[v,o,ho,_]:=I.cell y k e;rw[z]at ho;show bS (bN ho) (Nat.not_lt.mpr hp)
 pin:=λp c z=>by let:=(I.pin p c).1;rw[z]at this;show bS (bN this) (Nat.not_lt.mpr hp)
def Apart.to(x:Apart X qA H a)(f:H' a=none):Apart X qA H' a:=#[x.new,f,x.loc,x.cell,x.pin]
theorem Inv.tracks:∀{qs},(qs.map (·.1)).Nodup->(∀q∈qs,Apart X qA H q.1)->(∀q∈qs,q.2.length<=sizeLine/\∃qG,AZ q.2 qG/\Dm s.heap q.1 qG.toArray)->Inv X qA Y H s->Inv X qA Y (Du H qs) s|[],_,_,_,I=>I|q::r,nd,c,ok,I=>by rw[map_cons,bC]at nd;let J:=Inv.tracks nd.2 (λq a=>c q (bT _ a)) (λq a=>ok q (bT _ a)) I;let z:=c q (cA ..);show J.track (o:=.tup q.2) (z.to (by rw[Fv nd.1];show z.free)) (ok q (cA ..))
def gM:HG X "dict.items" OY:=by
 rintro qA s Y H x xs v us Q I c rv⟨p,qH,rfl,rfl,f,k⟩;cases c;cases rv;let[es,ep,ps,a,i,_]:=Ny I.hok f;show call_meetsIn PySem.F.slot_dict_items a.typeIs PySem.F.entry_dict_items (PySem.F.args_dict_items_1 _) (S:=λ_ R s=>s.TypeIs (.ref p) "dict"/\R (.ok (.ret (.ref 'H'))) {s with heap:=s.heap.push {cls:=.type "dict_items",data:=.fields [.ref p].toArray}}) (.of_wp λA R s⟨ty,h⟩=>?_) #[a.typeIs,?_]
 .show wB (wB (wpAny_notOrdered_dict ty ?_));show wP ?_;unfold Builtin.Dict.showsAll;rw[aB (by rw[i];show cH)];show wB (wP (wB (cG (wP #[_,0,h]))))
 .let g:(s.heap.push {cls:=.type "dict_items",data:=.fields [.ref p].toArray}).get? 'H'\{cls:=.type "dict_items",data:=.fields [.ref p].toArray}:=bP _ rfl;show{.ref 'H',_,I.laid (o:=DB 'H' p) (λb u e=>aS _ e) (aQ _) #[#[_,g,0,0],#[_,g],λh1 h2 zz d=>(by let[o,e,r]:=zz;show{o,d o e,r})],0,k _ (I.hok.fresh (aQ _))}
theorem Uy:∀{as:Gn}{qH}{ys},Paired (λ(p:List AT×V)(q:List AT×Addr×Value)=>p.1=q.1/\H q.2.1\(.tup (p.1.map kV))/\AV p.2 q.2.2) qH ys->as.length=ys.length->(∀(j:Nat)a,as[j]?\a->∃y,ys[j]?\y/\h'.get? a\(EC (.ref y.2.1) y.2.2))->∃qs:List (Addr×Addr×List AT×V),qs.map (·.1)=as/\qs.map (·.2.2)=qH/\∀q∈qs,H q.2.1\(.tup (q.2.2.1.map kV))/\∃u,AV q.2.2.2 u/\h'.get? q.1\(EC (.ref q.2.1) u)
 |[],_,_,.nil,_,_=>{[],0,0,λ_ h=>nomatch h}|_::_,_,_,.nil,l,_=>by simp at l|[],_,_,.cons _ _,l,_=>by simp at l|a::as,_,_,.cons (a:=p) (b:=y) r t,l,f=>by
  let[qs,m,i,e]:=Uy t (~~~l) λj b hb=>by let:=f (j+1) b (~~~hb);simpa using this
  let[y',d,g]:=f 0 a rfl;let c:y=y':=by simpa using d
  subst c;show{(a,y.2.1,p)::qs,by rw[map_cons,m],by rw[map_cons,i],λq hq=>?_};let 0||hq:=aF.mp hq
  .show#[r.2.1,y.2.2,r.2.2,g]
  .show e q hq
def gN(hc:X.calm=true):B3 X (.type "list") OZ:=by
 rintro qA s Y H xs us Q I r iq;done<;>(let[E,p,qH,0,hr,hp,k]:=iq;let[u,0,m]:=r.one);cases m;done<;>let[z,hd,ys,rel,o,es,ep,h1,h2,h3,G,_]:=I.hok p _ hp;let σ:=(I.hok E _ hr).1;let hl:es.size=ys.length:=by rw[<-bR,G,aA]
 let a0:=rel.length;show gL (I.ok.hd hc) σ #[o,h1,h2,h3] (by simp_all) λh' tk D c as T gS el mk ea=>?_;let O:as.length=ys.length:=(by simp only[*]);let[qs,l,L,C]:=Uy rel O λj a hj=>by
  let[B,q]:=mk.at_ j a hj;let i:j<ys.length:=⋯;show{ys[j],aH i,?_};let e:es[j]=entryOfKey (tupleKind (CF X.prog X.w)) ys[j]:=by let:=aT (·[j]?) G;simp only[Array.getElem?_toList,bO,aH i,cL B,Option.map_some,Option.some.injEq]at this;show this
  rw[q,e];rfl
 let x:(qs.map (·.1)).Nodup:=by rw[l];show mk.nd
 let fresh:∀q∈qs,'H'<q.1:=λq d=>mk.up q.1 (by rw[<-l];show aP d);let n:=λq d=>I.hok.fresh (aY (fresh q d));let v:=I.hok.fresh (aQ _);let J:=I.kept (t':=tk) T;let em:(qs.map λq=>((q.1,[V.ref q.2.1,q.2.2.2]))).map (·.1)=qs.map (·.1):=by rw[bZ];rfl
 let M:=J.tracks (by rw[em];show x) (λy A=>by let[q,d,0]:=bU.mp A;show I.apart2 (aY (fresh q d)) (n q d)) (λy A=>by done<;>(let[q,d,0]:=bU.mp A;let[_,u,m,g]:=C q d);show#[by change 2<=16777216;decide,[.ref q.2.1,u],.cons rfl (.cons m .nil),{_,g,0,#[_,0],0}])
 let f:(Du H (qs.map λq=>(q.1,[.ref q.2.1,q.2.2.2]))) 'H'=none:=by
  rw[Fv]
  .show v
  .rw[em];intro z;let[q,d,e]:=bU.mp z;show bS (fresh q d) (by rw[e];show aX _)
 let N:qs.length=as.length:=by rw[<-l,aA]
 show#[.ref 'H',_,M.track (o:=.lst (qs.map λq=>V.ref q.1)) ((I.apart2 (aQ _) v).to f) {by rw[aA];simp_all,D.toList,c,?_,by simpa using gS},0,k _ qs v L x λq d=>{n q d,Nat.ne_of_gt (fresh q d),(C q d).1}];rw[ea,<-l,bZ];clear l L C x fresh n M em f N
 induction qs with|nil=>show .nil|cons q r ρ=>show .cons rfl ρ
def gO(h:Bag H b a)(n:∀q∈qs,H q.1=none):Step b a H (Du H qs):=by
 let out:∀p o,H p\o->p∉qs.map (·.1):=λp o e z=>by let[q,d,f]:=bU.mp z;let:=n q d;rw[f,e]at this;cases this
 let[ns,i,c,z,h1,h2,r]:=h;show#[{ns,i,c,z,by rw[Fv (out _ _ h1)];show h1,by rw[Fv (out _ _ h2)];show h2,r},λp o _ e=>by rw[Fv (out p o e)];show e]
theorem Uz:∀{a:List (By×Int)}{qs:List (Addr×Addr×List AT×V)},qs.map (·.2.2)=a.map (λq=>(BJ q.1,V.int q.2))->(∀q∈qs,H' q.1\(.tup [.ref q.2.1,q.2.2.2])/\H' q.2.1\(.tup (q.2.2.1.map kV)))->AC b Z H' (a.map A5) (qs.map λq=>V.ref q.1)|[],[],_,_=>rfl|[],_::_,h,_=>by simp at h|_::_,[],h,_=>by simp at h|x::a,q::qs,h,f=>by simp only[map_cons,List.cons.injEq]at h;let[d,c]:=f q (cA ..);let i:=aT Prod.fst h.1;let g:=aT Prod.snd h.1;rw[i,K2]at c;rw[g]at d;show{_,_,0,{_,_,0,d,_,_,0,{_,_,0,c,AC.ints.mpr rfl},_,_,0,0,0},Uz h.2 λq e=>f q (bT _ e)}
def Oa(pe:pE):pE:=(λU K=>pe U λx _=>∃a:List (By×Int),x=CS a/\K (Ab a) .nw)
section
def gP{Kf:Frag}(h:CI te pe):CI (IT OZ (BI (Mi Kf "dict" OY te) B5)) (Oa pe):=λW U Y H Q K ok G q=>by
 show h W U Y H _ _ ok G λx f v H1 zz o D=>?_;done<;>(let[a,ex,k]:=zz;subst ex;let d:=ok.step o;let[p,us,0,_,j,_,M]:=Hr d D);let B:AC W.b (AL W U Y f) H1 ((a.map (·.2)).map P.int) us:=by rw[bZ];show M
 let J:us=a.map λq=>V.int q.2:=by let:=AC.ints.mp B;rw[bZ]at this;show this
 rw[J,UG]at j;show{.inr (.inr (.inl #[0,.inr #[_,j]])),p,_,0,0,j,λr C=>?_};let c:Step W.b W.a H1 (AA H1 r (DB r p)):=Step.new d.bag C;show{r,p,_,0,AJ,by rw[AE (Ak j C)];show j,λl qs w L E m=>?_};let i:Step W.b W.a (AA H1 r (DB r p)) (Du (AA H1 r (DB r p)) (qs.map λq=>(q.1,[.ref q.2.1,q.2.2.2]))):=gO c.bag λy s=>by let[q,g,0]:=bU.mp s;show(m q g).1
 let em:(qs.map λq=>((q.1,[V.ref q.2.1,q.2.2.2]))).map (·.1)=qs.map (·.1):=by rw[bZ];rfl
 let u:(Du (AA H1 r (DB r p)) (qs.map λq=>(q.1,[.ref q.2.1,q.2.2.2]))) l=none:=by
  rw[Fv]
  .show w
  .rw[em];intro z;let[q,g,e]:=bU.mp z;show(m q g).2.1 e
 let n:Step W.b W.a (Du (AA H1 r (DB r p)) (qs.map λq=>(q.1,[.ref q.2.1,q.2.2.2]))) (AA (Du (AA H1 r (DB r p)) (qs.map λq=>(q.1,[.ref q.2.1,q.2.2.2]))) l (.lst (qs.map λq=>V.ref q.1))):=Step.new i.bag u;let l1:=c.free w;show q _ _ _ _ k ((o.trans c).trans (i.trans n)) #[{l,_,0,λz=>d.dom z l1,AJ,Uz L λq g=>?_},λ_=>{l,0,o.free l1}];let[N,I,A]:=m q g;constructor
 .rw[AE I];show Ux (by rw[em];show E) _ (aP g)
 .rw[AE (Ak A w),Fv]
  .show A
  .rw[em];intro z;let[y,s,e]:=bU.mp z;let:=(m y s).1;rw[e,A]at this;cases this
def gQ{o}{Kf:Frag}{p1}(g:∀i,(Xs i).calm=true)(h:∀i,(Xs i).K=Kf)(e:∀i,(Xs i).mg "list"=none)(d:QE Xs o pe)(c:∀i,attributeBase o "items" (Xs i).env (eval o (Xs i).env)=eval o (Xs i).env:=by rfl)(a:(qK.endLine==qJ.line)=true:=by rfl)(f:∀i,Gl (Xs i) "list":=by rfl):QE Xs (.Call (.Name "list" p1) [.Call (.Attribute o "items" qK) [] [] qJ] [] pos) (Oa pe):=by let[t,h1,h2]:=d;show{IT OZ (BI (Mi Kf "dict" OY t) B5),λi=>?_,gP h2};rw[<-h i];show E8 (gN (g i)) (f i) (e i) nofun (AG (RL PySem.F.plainAttrs_dict PySem.F.slot_dict_items PySem.F.type_dict_items gM (h1 i) (c i) a) AS)
end
end L2
namespace L2
def U0(t:Tl):Tl:=(Bf (BF t))
def JS(h:(t.map (·.1)).Nodup)(r):cnt t r=(Ag t r).getD 0:=by induction t with|nil=>rfl|cons q t c=>
  simp only[map_cons,bC]at h;let e:cnt (q::t) r=(if q.1=r then q.2 else 0)+cnt t r:=rfl
  rw[e,c h.2];unfold Ag;by_cases z:q.1=r
  .let f:t.find? (λp=>decide (p.1=r))=none:=find?_eq_none.mpr λp d=>by simp only[decide_eq_true_eq];showλa=>h.1 (by rw[z,<-a];show bU.mpr #[p,d,0])
   rw[f];simp[z]
  .simp[z]
def gR(a b)(r):cnt (a++b) r=cnt a r+cnt b r:=by unfold cnt;simp
def U1{t u:Tl}(d:(t.map (·.1)).Nodup)(c:(u.map (·.1)).Nodup)(h:∀r,(Ag t r).getD 0=(Ag u r).getD 0):Bf t=Bf u:=by
 let mem:∀{t}(r),(Ag t r).getD 0≠0->r∈t.map _:=λ{t}r z=>by
  by_cases a:r∈t.map (·.1)
  .show a
  .rw[fN a]at z;show bS rfl z
 let key:((De (t.map (·.1))).filter λr=>decide ((Ag t r).getD 0≠0))=((De (u.map (·.1))).filter λr=>decide ((Ag u r).getD 0≠0)):=by
  show OG ((perm_ext_iff_of_nodup ?_ ?_).mpr λr=>?_) ((JJ _).filter _) ((JJ _).filter _)
  .show((FO _).nodup_iff.mpr d).filter _
  .show((FO _).nodup_iff.mpr c).filter _
  .simp only[cX,(FO _).mem_iff,decide_eq_true_eq];show#[λz=>{mem r (by rw[<-h];show z.2),by rw[<-h];show z.2},λz=>{mem r (by rw[h];show z.2),by rw[h];show z.2}]
 unfold Bf;rw[key];show cF λr _=>by rw[h]
def gT{t:Tl}(h:(t.map (·.1)).Nodup):Bf t=U0 t:=U1 h (JO t) λr=>by rw[Hw,JS h]
open PySem.W
def gU(bs:List Bool):((List.range bs.length).any λi=>(bs[i]?).getD true)=bs.any id:=by
 let e:(List.range bs.length).map (λi=>(bs[i]?).getD true)=bs:=by
  apply ext_getElem
  .simp
  .intro i h1 h2;simp[h2]
 let:((List.range bs.length).any λi=>(bs[i]?).getD true)=((List.range bs.length).map λi=>(bs[i]?).getD true).any id:=by simp
 rw[this,e]
def gW(l:X.calm=true):B3 X (.builtin "any") (λxs H Q=>∃(p:Addr)(bs:List Bool),xs=[.ref p]/\BA X.K H p (bs.map V.bl)/\Q (.bl (bs.any id)) H):=by
 rintro qA s Y H xs us Q I r⟨p,bs,rfl,g,q⟩;let[u,0,f]:=r.one;cases f;let[qG,r,pl,n]:=I.list g;let hb:=Mz r;let c:=pl.isList;let a:p<'H':=by let[_,e,_]:=c;show bN e
 show call_any_walk (wpAny_pyIter_list c {'H',['H',p],['H'],qG.toArray.size,_,_,λi=>(bs[i]?).getD true,0,Walks.list (A:=X.A.in1) (I.ok.hd l) _ p (bX a) qG.toArray,#[{_,bP _ rfl,0,0},c.push _],λi v s' o w m d=>?_,λh' tk j=>?_})
 .let[b,e,0]:=hb.get i v (~~~m);simp only[e,Option.getD_some]at d;show wpAny_truthy_bool d
 .let e:((List.range qG.toArray.size).any λi=>(bs[i]?).getD true)=bs.any id:=by rw[size_toArray,hb.length];show gU bs
  rw[e];show{.bl _,H,I.kept (LSm.kept_iter j),0,q}
def Ob:pC:=(p1 λx f K=>∃bs:List Bool,x=.lst (bs.map P.bl)/\K (.bl (bs.any id)) .fr)
def gX:DY (λxs H Q=>∃(p:Addr)(bs:List Bool),xs=[.ref p]/\BA Kf H p (bs.map V.bl)/\Q (.bl (bs.any id)) H) Ob:=λW U Y Hs H Q K xs vs ok st r a q=>by
 unfold Ob p1 at a;split at a
 .let[v,0,rv]:=r.one;let[bs,0,e]:=a;let[p,us,0,c,d]:=Dc ok rv;rw[AC.bls.mp d]at c;show{p,bs,0,.of c,q _ _ _ H e (Step.refl ok.bag) FH}
 simp_all
end L2
namespace L2
open PySem.W
end L2
namespace L2
section
variable{α:Type}(adj:α->α->Prop)
variable{adj}
end
section
variable{α:Type}[DecidableEq α](r:Nat->List α)(there:FG)
variable{r there}
end
inductive Kn where|ab(T:At)|rg(l:At)
abbrev gt(row:At)(k:Nat):Str:=row.getD k {#[]}
open PySem.W
def erase_at{ns:By}(h:z∈ns):∃j,ns[j]?\z/\(∀m,m<j->ns[m]?≠some z)/\ns.erase z=ns.eraseIdx j:=by induction ns with|nil=>show bS h '2'|cons a t d=>
  by_cases e:a=z
  .subst e;show{(0),0,λm c=>bS c (by simp_all),'2'}
  .let[j,h1,h2,f]:=d ((aF.mp h).resolve_left λq=>e q.symm);show{j+1,by simpa using h1,λm c=>?_,?_}
   .cases m with|zero=>simpa using e|succ m=>simp_all
   simp_all
def gY(ta:TE):TT:=(λY H Q=>ta Y H λx H1=>∃p xs,x=.ref p/\H1 p\(.lst xs)/\Q (!xs.isEmpty) H1)
def U2(h:PE X e t)(o:∀f,isTrue e X.env f=(do let v<-f;standAt e.pos;holding [v] (truthy v)):=by rfl):PT X e (gY t):=by
 intro qA s Y H Q I l;show isTrue_plain (AR (h qA s Y H _ I l) λv y zz=>?_) (o _);done<;>let[x,H1,i,j,p,xs,ex,m,q]:=zz;subst ex;cases j;let[z,qG,n,r,g,w]:=i.lstM m;let u:(!qG.toArray.isEmpty)=!xs.isEmpty:=by grind
 show PySem.wpAny_truthy_list #[_,w,0,#[_,0]] (by let:=sizeLine_eq;simp;lia) ?_;rw[u];show{H1,i.tok _,q}
end L2
namespace L2
abbrev Wd.at(W:Wd)(h:Hp):Wd:={W with H₀:=h,F:=h}
section
variable{h:Hp}{k:Nat}
structure Sub(W:Wd)(h:Hp):Prop where
 fb:W.F W.b=none
 o:∀p x,p≠W.b->W.H₀ p\x->h p\x
 f:∀p x,W.F p\x->h p\x
end
def gZ{α:Type}:∀l:List α,(List.range l.length).filterMap (l[·]?)=l:=λl=>by
 let:∀n,n<=l.length->(List.range n).filterMap (l[·]?)=l.take n:=λn=>by induction n with|zero=>intro _;rfl|succ n a=>intro h;rw[range_succ,filterMap_append,a ⋯,take_add_one];rfl
 simp_all
theorem AC.rev:∀{xs}{vs},AC b Z H xs vs->AC b Z H xs.reverse vs.reverse|[],vs,h=>by rw[h];rfl|x::xs,vs,h=>by let[v,r,0,h1,h2]:=h;rw[reverse_cons,reverse_cons];show h2.rev.snoc h1
end L2
namespace PySem
open PySem.Sem(wp)
end PySem
namespace L2
abbrev Wd.put(W:Wd)(O:Addr->Prop):Wd:={W with O:=O}
open PySem.W
end L2
namespace L2
open PySem.W SeqAt
end L2
namespace L2
open PySem.W
end L2
namespace L2
def gb(pa pb:pE):pI:=(λU K=>pa U λx f=>pb U λy g=>∃xs ys,x=.tup xs/\y=.tup ys/\(P.imms xs=true/\P.imms ys=true)/\K (zipWith DO xs ys) .fr true)
section
variable{a b:Expr}{p1 tp:Pos}{x1:Nat}
def gc(hK:∀i,(Xs i).K=Kf)(hm:∀i,(Xs i).mg "zip"=none)(ha:QE Xs a pa)(hb:QE Xs b pb)(hg:∀i,Gl (Xs i) "zip":=by rfl)(hs:∀i,starEach [a,b] (Xs i).env=[(false,eval a (Xs i).env),(false,eval b (Xs i).env)]:=by rfl)(j:∀i,starEach [b] (Xs i).env=[(false,eval b (Xs i).env)]:=by rfl):QI Xs (.Tuple elts x1 tp) (.Call (.Name "zip" p1) [a,b] [] pos) (gb pa pb):=by
 let[ta,G,a2]:=ha;let[tb,E,b2]:=hb;show{Rq Kf (BI ta (BI tb B5)),λi=>?_,λW U Y H R K ok hk q=>a2 W U Y H _ _ ok hk λx f v H1 h1 I r1=>b2 W U Y H1 _ _ (ok.step I) h1 λy g u H2⟨xs,ys,e1,e2,⟨i1,i2⟩,Q⟩s2 r2=>?_}
 .let:=Zj (elts:=elts) (x1:=x1) (tp:=tp) (p:=p1) (pos:=pos) (hg i) (hm i) (AG (G i) (AG (E i) AS (by rw[j i];rfl)) (by rw[hs i,j i])) (hs i) (j i);rw[hK i]at this;show this
 .subst e1;subst e2;let r:=I.trans s2;let c:=ok.step r;let J:=r1.step (ok.step I) s2;done<;>(let[l1,vs,0,D,w]:=EQ c J;let[l2,us,0,C,s]:=EQ c r2);let M:=(c.bag.neT D).1;let L:=(c.bag.neT C).1;let a3:=w.length;let a0:=s.length;let core:∀l ρ' σ' H',H' l1\(.tup vs)->H' l2\(.tup us)->(∀p vs,H2 p\(.tup vs)->H' p\(.tup vs))->Bag H' W.b W.a->∀i,(i<(zipWith DO xs ys).length->(IY Kf l1 l2).go i H')/\((zipWith DO xs ys).length<=i->(IY Kf l1 l2).stop i H')/\∀v h,(IY Kf l1 l2).yld i H' v h->∀x,(zipWith DO xs ys)[i]?\x->Step W.b W.a H' h/\RF {W with O:=l} ρ' σ' H' .fr h x v:=λl ρ' σ' H' g1 σ gt hb i=>by
   show{λhi=>?_,λhi=>?_,λv h yl x d=>?_}
   .rw[length_zipWith]at hi;show{vs,us,.of g1,.of σ,⋯,⋯}
   .rw[length_zipWith]at hi;show{vs,us,.of g1,.of σ,⋯}
   .let[T,x',y',ρ,0,0,e]:=yl;let[e1,e2]:=e vs us (.of g1) (.of σ);rw[getElem?_zipWith]at d;cases ex:xs[i]? with|none=>rw[ex]at d;simp at d|some px=>cases B:ys[i]? with|none=>rw[ex,B]at d;simp at d|some A=>
      rw[ex,B]at d;let d:DO px A=x:=by simpa using d
      subst d;let[v1,G,a2]:=w.get ex;let[v2,E,b2]:=s.get B;rw[e1]at G;cases G;rw[e2]at E;cases E;let m1:=HS.mp i1 px (aM ex);let m2:=HS.mp i2 A (aM B);show{Step.new hb ρ,?_};let k1:Rp W.b (AL {W with O:=l} ρ' σ' .fr) (AA H' T (.tup [x',y'])) px x':=(((a2.imm m1).keep (Z':=λ_=>True) (λp o N=>bS trivial N) (λp m e=>by rw[AE (Ak (gt p m e) ρ)];show gt p m e)).imm m1);let k2:Rp W.b (AL {W with O:=l} ρ' σ' .fr) (AA H' T (.tup [x',y'])) A y':=(((b2.imm m2).keep (Z':=λ_=>True) (λp o N=>bS trivial N) (λp m e=>by rw[AE (Ak (gt p m e) ρ)];show gt p m e)).imm m2);show{T,[x',y'],0,AJ,x',[y'],0,k1,y',[],0,k2,0}
  show{l1,l2,vs,us,0,.of D,.of C,q _ _ _ _ H2 Q r (λl ρ' σ' H' n i=>?_) (λa5 l ρ' σ' H' n i=>?_)}
  .done<;>let[_,0,0,a4,st]:=n;show core l _ _ H' (st.same l1 _ M D) (st.same l2 _ L C) (λp m e=>st.same p _ (c.bag.neT e).1 e) st.bag i
  .let[0,n]:=n;let k1:=(Iu c n (.inl rfl)).2;show core _ _ _ H' (k1 l1 _ D) (k1 l2 _ C) k1 n.bag i
end
open PySem.W
end L2
namespace L2
section
variable{qB uni:At}{t u:Tl}
end
def FU(x)(r:List α):atI (x::r) 0\x:=CG (j:=0) rfl
def dW(x y)(r:List α):atI (x::y::r) 1\y:=CG (j:=1) rfl
def gd{q}(h:q∈Ch qI t qC):∃p∈t,q.1=Az qI p.1 qC:=by let h:=T7 h;rw[UO]at h;let[p,c,e]:=bU.mp h;let[d,a,0]:=bU.mp c;show#[d,a,e.symm]
abbrev sg(x:Str):FG:=x.cps.toList
open PySem.NumText
def Dg(x:Str):Bool:=((decide (1<=x.length)&&decide (x.length<=8))&&(sg x).all λc=>decide (97<=c)&&decide (c<=122))
def LK(a b:Str):Bool:=(decide (sg a<sg b))
def DC(ns:At):Bool:=(decide (ns.length<=6)&&(ns.all Dg&&((ns.zip (ns.drop 1)).all λq=>LK q.1 q.2)))
end L2
namespace L2
def Oc{x}(h:x.imm=true):BU x f=.nw:=by cases f<;>simp[BU,h]
def BX{x}{K}(h:x.imm=true)(q:K (U.set k (.sh x))):Bn k x f U K:=by unfold Bn;simp_all
def JT{q}{K}(h:K ((U.set i (.sh (AW q.1))).set j (.sh (.int q.2)))):HZ [i,j] (A5 q) f U K:={_,0,0,BX (CM _) (BX rfl h)}
def Cd{x}(h:x.imm=true):Dq x f=true:=by unfold Dq;rw[h];rfl
def Od{x}:Dq x .nw=true:=by show Bool.or_true _
def C0(ns):(AQ ns).imm=true:='2'
def U3(f)(r:List By):Bc f (r.map AW)=.nw:=by unfold Bc;rw[aC (eF r)]
def U4:pC:=(p1 λx _ K=>∃b:Bool,x=.bl b/\K (.int (if b then 1 else 0)) .fr)
def U5:B3 X (.type "int") (λxs H Q=>∃b,xs=[.bl b]/\Q (.int (if b then 1 else 0)) H):=by rintro qA s Y H xs us Q I r⟨b,rfl,q⟩;let[u,0,a]:=r.one;cases a;show call_int_bool {.int _,H,I.tok _,#[_,0],q}
def U6:DY (λxs H Q=>∃b,xs=[.bl b]/\Q (.int (if b then 1 else 0)) H) U4:=λW U Y Hs H Q K xs vs ok st r a q=>by
 unfold U4 p1 at a;split at a
 .let[v,0,rv]:=r.one;let[b,0,c]:=a;cases KR ok rv;show{b,0,q _ _ _ H c (Step.refl ok.bag) HX}
 simp_all
abbrev U7(l:List By):Prop:=l.Pairwise λa b=>HT.lexLt a b=true
def gf(h:U7 l):l.Nodup:=h.imp λ{a c}h e=>by rw[e,HQ]at h;cases h
section
variable{names:At}{ps:List At}{k b:Nat}
end
open PySem.Calls
end L2
namespace HT
end HT
namespace L2
open PySem.Calls PySem.Builtin PySem.Builtin.Str
end L2
namespace L2
structure GDct(K:Fg)(w:World)(D:Addr):Prop where ex:∃es n,K.lookup D\{.type "dict",none,.dict es n,#[]}/\PySem.W.KeysLit w.params es.toList
def gg(K:Fg)(D:Addr)(ti:TE):TE:=(λY H Q=>ti Y H λk H1=>∃x f,k=.str x/\PySem.W.nsIn K D x\(some (.ref f))/\Q (.ref f) H1)
def gj{p}(o:Gl X x)(l:X.mg x\(.ref D))(d:GDct X.K X.w D)(hb:PE X b tb)(j:X2 b)(r:No x:=by decide+kernel):PE X (.Subscript (.Name x p) b pos) (gg X.K D tb):=by intro qA s Y H Q I h;show Subscript_ (FY I o l (AR (hb qA s Y H _ I h) λu A zz=>?_) r);let[y,H2,g,i,z,f,v,e,q]:=zz;subst v;let[t,0]:=i;let[es,n,a,m]:=d.ex;let c:=PySem.W.mapOf_K (prog:=X.prog) g.kIn a m;show tail_any c.typeIs slot_dict_getitem.lookup (wpAny_getItem_of (strKind_is X.prog X.w z t) c (PySem.W.find_K a e) {.ref f,H2,g.tok _,0,q}) (j _ _)
def Oe(P:Program)(w:World)(K:Fg)(mg:Str->Do)(base:Heap)(k:Nat)(f:Addr)(sp:Sp):Prop:=(∃(fd:FuncData)(ps:At),FnOk P w K mg base (DP P w) k f fd ps sp/\PySem.W.keepIn K (.ref f)=true/\C7 K fd ps [])
def gk(G:Addr->Sp->Prop)(E:XK)(tf:TE)(t:TA):TE:=(λY H Q=>tf Y H λv H1=>∃f sp,v=.ref f/\G f sp/\t Y H1 λvs H2=>sp vs H2 Q E)
def gl{p}{c}{E}(o:PE X (.Name x p) c)(m:Room k X.A)(l:DH (DP X.prog X.w) X E)(B:PA X (e::es) t)(y:starEach (e::es) X.env=(false,eval e X.env)::starEach es X.env:=by rfl)(a:(backTo pos (starEach es X.env)).any (·.1)=false:=by rfl):PE X (.Call (.Name x p) (e::es) [] pos) (gk (Oe X.prog X.w X.K X.mg X.base k) E c t):=by intro qA s Y H Q I h;show wpAny_Call_Name_kw (AR (o qA s Y H _ I h) λu g zz=>?_);done<;>(let[v,H1,C,r,f,sp,ev,[fd,ps,F,n,hb],q]:=zz;subst ev;obtain rfl:u=Value.ref f:=r);show PySem.W.callWith_K I.ok.mod.kin n (AR (B pos qA g Y H1 _ C q) λus D zz=>?_) y a;let[vs,H2,d,i,j]:=zz;show#[d.kIn,?_];show Jx F m hb .nil l d i (by simp_all)
def U8(X:Cx)(qA:List (Addr×Obj))(Y:St)(E:XK)(e:Value)(s':Shared):Prop:=(∃(a:Addr)(cls:Value)(d:Ge)(T:Addr)(H':Hp),e=.ref a/\Inv X qA Y H' s'/\FP s'.heap a cls d .none T/\Apart X qA H' a/\Apart X qA H' T/\E cls d H')
abbrev Cx.tr(X:Cx)(qA:List (Addr×Obj))(Y:St)(E:XK):Cx:={X with pn:=X.pn++qA,xe:=U8 X qA Y E}
section
variable{ps':List (Addr×Obj)}{σ0:St}{E:XK}
def Inv.tr(I:Inv X qA Y H s):Inv (X.tr qA Y E) [] Y H s:=#[#[I.ok.mod,I.ok.kind,I.ok.glob,I.ok.blt,I.ok.above,I.ok.inj,I.ok.has,I.ok.cab,I.ok.hd,I.ok.frames,I.ok.stk,I.ok.exf,I.ok.bs,I.ok.bsz,I.ok.noex,I.ok.exfs,I.ok.funs,I.ok.frf],I.os,I.bare,I.base,I.loc,I.cell,I.free,I.freeC,λp hp=>I.pin p (by rw[cP]at hp;show hp),I.hok,I.len]
def Inv.untr(I:Inv (X.tr qA σ0 E) ps' Y H s):Inv X qA Y H s:=#[#[I.ok.mod,I.ok.kind,I.ok.glob,I.ok.blt,I.ok.above,I.ok.inj,I.ok.has,I.ok.cab,I.ok.hd,I.ok.frames,I.ok.stk,I.ok.exf,I.ok.bs,I.ok.bsz,I.ok.noex,I.ok.exfs,I.ok.funs,I.ok.frf],I.os,I.bare,I.base,I.loc,I.cell,I.free,I.freeC,λp hp=>I.pin p (mem_append_left _ hp),I.hok,I.len]
def SP.untr{D}{f}(h:SP (X.tr qA σ0 E) ps' D f s'):SP X qA D f s':=by cases f with|next=>let[σ',H',I,q]:=h;show#[σ',H',I.untr,q]|brk=>let[σ',H',I,q]:=h;show#[σ',H',I.untr,q]|cont=>let[σ',H',I,q]:=h;show#[σ',H',I.untr,q]|ret u=>let[v,σ',H',I,r,q]:=h;show#[v,σ',H',I.untr,r,q]
def gm(tb:St->XK->TS)(th:Value->Ge->TS):TS:=(λD Y H=>tb Y (λcls d H2=>th cls d D Y H2) D Y H)
def U9{m}{tb}(ow:Own X)(hb:∀qA Y E,BS (X.tr qA Y E) body (tb Y E))(p:Hz X (m::l) th):PS X (.Try body (m::l) [] [] tpos) (gm tb th):=by
 intro qA s Y H D I h;show wpAny_Try_except (bL (hb qA Y _ [] s Y H D I.tr h) (λf o q=>?_) (λe o q=>?_))
 .let q:=q.untr;cases f with|next=>show wpAny_execs_nil q|brk=>show q|cont=>show q|ret u=>show q
 .done<;>let[a,j,d,T,H',0,J,tr,pa,pT,r]:=q;let stk:=J.stack;rw[ow.stk]at stk;show Ua (by rw[J.ok.frames,ow.stk]) stk ow.frm (.inr #[T,0,tr]) λh2 n w c i=>?_;let y:=J.chg ow w λb hb=>by
   let z||z:=aF.mp hb
   .rw[z];show pa
   .rw[bI.mp z];show pT
  let p2:=J.apart ow.ex (Heap.get?_none_of_le c) (J.hok.fresh c);show LF i λA v g=>?_;let x:=y.chg ow (v.mono (λ_ z=>bS z '2') λ_ z=>z) λb hb=>by rw[bI.mp hb];show p2
  show p qA _ Y H' D a n j d x g pa p2 r
def VA{f}{Q}(ow:Own X)(F:FnOk X.prog X.w X.K X.mg X.base (DP X.prog X.w) k f fd ps sp)(o:Room k X.A)(hb:C7 X.K fd ps [])(I:Inv (X.tr qA Y E) ps' Y H s)(r:AZ vs us)(h:sp vs H Q E):'B' (call (.ref f) us) (EP (X.tr qA Y E) ps' Y Q) (U8 X qA Y E) s:=by
 let p:(us++[]).length=ps.length:=by rw[cP,<-r.length];show F.len _ _ _ _ h
 let g:=hb s us I.kIn p;rw[cP]at g;show wpAny_call (codeAny_mono (F.run X.A X.stack s H {us,[]} us vs Q E o I.env0 g r h) λr s' c=>?_);cases r with|error e=>done<;>let[a,l,d,T,H',0,os,i,un,j,tr,na,n,x,y,q]:=c;let m:=I.untr;show{a,l,d,T,H',0,m.call' os un j i (λb z=>bS z '2'),tr,m.apart ow.ex na x,m.apart ow.ex n y,q}|ok v=>cases v with|ret u=>show I.after c|next=>assumption|brk=>assumption|cont=>assumption
def Og(σ0:St)(t:TE):TE:=(λY H Q=>Y=σ0/\t Y H Q)
def gs{f C}{e o}{pl}(ow:Own X)(L:PE (X.tr qA σ0 E) o ta)(c:Cls X.K C)(p:Meth X.K C m f)(F:FnOk X.prog X.w X.K X.mg X.base (DP X.prog X.w) k f fd ps sp)(J:Room k X.A)(hb:C7 X.K fd ps [])(M:PA (X.tr qA σ0 E) (e::es) t)(i:starEach (e::es) X.env=(false,eval e X.env)::starEach es X.env:=by rfl)(j:(backTo pos (starEach es X.env)).any (·.1)=false:=by rfl)(G:eval (.Call (.Attribute o m qK) (e::es) [] pos) X.env=(do
   let n<-eval o X.env
   standAt qK.atName let(f,first)<-holding [n] (getMethod n m pl)callWith pos f first (backTo pos (starEach (e::es) X.env)) (backToKw pos (keywordEach [] X.env))):=by rfl):PE (X.tr qA σ0 E) (.Call (.Attribute o m qK) (e::es) [] pos) (Og σ0 (GJ C m sp [] E ta t)):=by rintro d s Y H Q I⟨rfl,h⟩;show PySem.W.methodCall_KW (AR (L d s Y H _ I h) λu B zz=>?_) G;done<;>(let[x,H1,y,D,a,dx,fs,ex,N,l,q]:=zz;subst ex;obtain rfl:u=Value.ref a:=D);show Jw y N c p l ?_;show PySem.W.callWith_K I.ok.mod.kin p.kp (AR (M pos d B Y H1 _ y q) λus O zz=>?_) i j;done<;>let[vs,H2,v,r,g]:=zz;show#[v.kIn,?_];show VA (vs:=.ref a::vs) ow F J hb v (.cons rfl r) ?_;simp_all
end
structure ClassAt(K:Fg)(mg:Str->Do)(x:Str)(C:Addr):Prop where
 bd:mg x\(.ref C)cl:Cls K C
 mks:PySem.W.makesIn K C=true
 kp:PySem.W.keepIn K (.ref C)=true
def ED(K:Fg)(C:Addr)(m qual:Str)(st:Stmt):Prop:=(∃(f:Addr)(fd:FuncData),Fun K m qual st f fd/\Meth K C m f)
def Bj(P:Program)(w:World)(K:Fg)(mg:Str->Do)(base:Heap)(C:Addr)(m:Str)(k:Nat)(ps:At)(sp:Sp):Prop:=(∃(f:Addr)(fd:FuncData),FnOk P w K mg base (DP P w) k f fd ps sp/\Meth K C m f/\C7 K fd ps [])
def Ez{P}{K}{st}(D:ED K C m qual st)(S:FnScope N ps (AN st))(hb:∀(kV doc pm)(an:Ge)(a ct)(us:C2),us.length=ps.length->bindArgs (PySem.W.fnOf m qual (Ct st) (CH st) (AN st) .none kV doc pm an a ct) {us,[]}=pure (ps.zip us))(len:∀vs H Q E,sp vs H Q E->vs.length=ps.length)(c:∀(f)(a)(A)(outer)(s)(H)(vs)(Q)(E),Room k (A.deeper (PyProof.Rows.envOfC qual (AN st) 'H' f a))->sp vs H Q E->∃t,BS (Fu P w K mg base N qual (AN st) f a A outer s H E) (CH st) t/\t {nx:=λ_ H'=>Q .non H',rt:=Q} (start N vs) H):Bj P w K mg base C m (k+1) ps sp:=by let[f,fd,F,j]:=D;show{f,fd,?_,j,F.binds hb};let[oc,od,kV,doc,pm,an,a,ct,g,0,h,e]:=F.ex;show Jy h e S len λA outer s H vs Q E i d=>c f a A outer s H vs Q E i d
def VB{e o}{E}{pl}(G:Bj X.prog X.w X.K X.mg X.base C m k ps sp)(c:Cls X.K C)(h:DH (DP X.prog X.w) X E)(j:Room k X.A)(n:PE X o ta)(p:PA X (e::es) t)(a:starEach (e::es) X.env=(false,eval e X.env)::starEach es X.env:=by rfl)(d:(backTo pos (starEach es X.env)).any (·.1)=false:=by rfl)(i:eval (.Call (.Attribute o m qK) (e::es) [] pos) X.env=(do
   let g<-eval o X.env
   standAt qK.atName let(f,first)<-holding [g] (getMethod g m pl)callWith pos f first (backTo pos (starEach (e::es) X.env)) (backToKw pos (keywordEach [] X.env))):=by rfl):PE X (.Call (.Attribute o m qK) (e::es) [] pos) (GJ C m sp [] E ta t):=by let[f,fd,F,l,hb]:=G;show YF n c l F j hb .nil h p a d i
def Fw{o}{E}(G:Bj X.prog X.w X.K X.mg X.base C m k ps sp)(c:Cls X.K C)(d:DH (DP X.prog X.w) X E)(g:Room k X.A)(i:PE X o ta)(e:eval (.Call (.Attribute o m qK) [] [] pos) X.env=(do
   let a<-eval o X.env
   standAt qK.atName let(f,first)<-holding [a] (getMethod a m pl)callWith pos f first (backTo pos (starEach [] X.env)) (backToKw pos (keywordEach [] X.env))):=by rfl):PE X (.Call (.Attribute o m qK) [] [] pos) (GJ C m sp [] E ta B5):=by let[f,fd,F,h,hb]:=G;show YG i c h F g hb .nil d e
def VC{p}{E}(c:ClassAt X.K X.mg x C)(G:Bj X.prog X.w X.K X.mg X.base C "__init__" k ps sp)(h:DH (DP X.prog X.w) X E)(i:Room (k+1) X.A)(j:Gl X x)(m:PA X (e::es) t)(d:No x:=by decide+kernel)(l:starEach (e::es) X.env=(false,eval e X.env)::starEach es X.env:=by rfl)(a:(backTo pos (starEach es X.env)).any (·.1)=false:=by rfl):PE X (.Call (.Name x p) (e::es) [] pos) (Qu C sp [] E t):=by let[f,fd,F,g,hb]:=G;show YI #[c.mks,g.at_,g.fn,c.kp] F i j c.bd hb .nil h m d l a
def gu{E}{e o}{pl}(G:Bj X.prog X.w X.K X.mg X.base C m k ps sp)(ow:Own X)(c:Cls X.K C)(i:Room k X.A)(l:PE (X.tr qA σ0 E) o ta)(n:PA (X.tr qA σ0 E) (e::es) t)(a:starEach (e::es) X.env=(false,eval e X.env)::starEach es X.env:=by rfl)(d:(backTo pos (starEach es X.env)).any (·.1)=false:=by rfl)(h:eval (.Call (.Attribute o m qK) (e::es) [] pos) X.env=(do
   let g<-eval o X.env
   standAt qK.atName let(f,first)<-holding [g] (getMethod g m pl)callWith pos f first (backTo pos (starEach (e::es) X.env)) (backToKw pos (keywordEach [] X.env))):=by rfl):PE (X.tr qA σ0 E) (.Call (.Attribute o m qK) (e::es) [] pos) (Og σ0 (GJ C m sp [] E ta t)):=by let[f,fd,F,j,hb]:=G;show gs ow l c j F i hb n a d h
def JU(b:Addr)(H:Hp):S->Option V->Prop|.emp,_=>True|.sh x,o=>∃v,o\v/\Rp b (λp=>p=b) H x v|_,_=>False
def Bu(b:Addr)(H:Hp):dJ->St->Prop|[],Y=>Y=[]|s::U,Y=>∃o r,Y=o::r/\JU b H s o/\Bu b H U r
section
variable{b:Addr}
def Oh:AC b Z H [] []:=rfl
def Fx{x}(h:Rp b Z H x v)(t:AC b Z H xs vs):AC b Z H (x::xs) (v::vs):=#[_,_,0,h,t]
def JV:Bu b H [] []:=rfl
def BR{o}(t:Bu b H U Y):Bu b H (.emp::U) (o::Y):=#[_,_,0,trivial,t]
def CD{x}(h:Rp b (λp=>p=b) H x v)(t:Bu b H U Y):Bu b H (.sh x::U) (some v::Y):={_,_,0,#[_,0,h],t}
theorem Bu.len:∀{U}{Y},Bu b H U Y->Y.length=U.length|[],_,h=>by rw[h];rfl|s::U,Y,h=>by let[o,r,0,_,h]:=h;rw[length_cons,length_cons,Bu.len h]
theorem Bu.get:∀{U}{Y}{i:Nat}{s},Bu b H U Y->U[i]?\s->∃o,Y[i]?\o/\JU b H s o|[],_,_,_,_,e=>by cases e|s::U,Y,0,s',h,e=>by let[o,r,0,a,_]:=h;simp_all|s::U,Y,i+1,s',h,e=>by let[o,r,0,_,h]:=h;show Bu.get (i:=i) h e
theorem Oi(hb:Bag H b a)(h:Bu b H U Y):Ok {b,a,H,λ_=>none,λ_=>False} U Y H where
 bag:=hb
 fb:=rfl
 old:=λ_ _ _ e=>e
 frm:=λ_ _ e=>nomatch e
 oo:=λ_ z=>z.elim
 len:=h.len
 slot:=λi s e=>by let[o,h1,h2]:=h.get e;show#[o,h1,?_];cases s with
  |emp=>trivial|sh x=>
   let[v,0,r]:=h2;show{v,0,r.keep (λp o d e=>{λz=>d ?_,e}) λp vs e=>e};let z||z:=z
   .show z
   .let z||[j,y,f,_]:=z
    .simp_all
    .let[_,_,c]:=h.get f;show c.elim|fr x=>show h2.elim|own x=>show h2.elim
 uniq:=λi j x y h1=>by let[_,_,c]:=h.get h1;show c.elim
theorem Bu.st:∀{U}{Y},Bu b H U Y->Bag H b a->Step b a H H'->Bu b H' U Y|[],_,h,_,_=>h|s::U,Y,h,hb,st=>by let[o,r,0,c,h]:=h;show{o,r,0,?_,Bu.st h hb st};cases s with|emp=>trivial|sh x=>let[v,0,r]:=c;show{v,0,r.keep (λp o d e=>{d,st.same p o d e}) λp vs e=>st.same p _ (hb.neT e).1 e}|fr x=>show c.elim|own x=>show c.elim
inductive tQT(p:pT)(Y:St)(H:Hp)(Q:Bool->Hp->Prop):Prop|mk(b a:Addr)(U:dJ)(K:Bool->Prop)(hb:Bag H b a)(sl:Bu b H U Y)(hp:p U K)(k:∀c H',K c->Step b a H H'->Q c H')
inductive tQE(p:pE)(Y:St)(H:Hp)(Q:VK):Prop|mk(b a:Addr)(U:dJ)(K:P->Fl->Prop)(hb:Bag H b a)(sl:Bu b H U Y)(hp:p U K)(k:∀x f v H',K x f->Step b a H H'->Rp b (λp=>p=b) H' x v->((f=.nw\/f=.fr)->Rp b (λp=>H p≠none) H' x v)->Q v H')
variable{e:Expr}
def DD{p}(h:QT (λ_:Unit=>X) e p):PT X e (tQT p):=by let[t,h1,h2]:=h;rintro qA s Y H Q I⟨b,a,U,K,hb,sl,d,k⟩;show h1 () qA s Y H Q I (h2 _ U Y H Q K (Oi hb sl) d k)
def VD{p}(h2:CI t p){Q}(h:tQE p Y H Q):t Y H Q:=by
 let[b,a,U,K,hb,sl,i,k]:=h;let ok:=Oi hb sl;show h2 _ U Y H Q K ok i λx f v H' g st r=>k x f v H' g st (r.any (ok.step st)) λj=>?_;let c:∀p,H p≠none->AL {b,a,H,λ_=>none,λ_=>False} U Y .fr p:=λp z=>.inr (.inr z);let 0||0:=j
 .show Rp.keep (λp o d e=>{λz=>d (c p z),e}) (λp vs e=>e) r.1
 .show Rp.keep (λp o d e=>{λz=>d (c p z),e}) (λp vs e=>e) r
def DQ{p}(h:QE (λ_:Unit=>X) e p):PE X e (tQE p):=by let[t,h1,h2]:=h;showλqA s Y H Q I a=>h1 () qA s Y H Q I (VD h2 a)
def Fy{r}(h:BL r pr){x}{u}{Q}{K}(hb:Bag H b a)(d:Rp b (λp=>p=b) H x v)(c:Rp b (λp=>p=b) H y u)(g:pr x .an y .an K)(k:∀z f v' H',K z f->Step b a H H'->Rp b (λp=>p=b) H' z v'->Q v' H'):r v u H Q:=by let ok:Ok {b,a,H,λ_=>none,λ_=>False} [] [] H:=Oi hb rfl;show h _ _ _ H H Q K x y .an .an v u ok (Step.refl hb) d c g λz f v' H' e st r=>k z f v' H' e st (r.any (ok.step st))
def Dv{P}:DH (DP P w) X (λ_ _ _=>False):=λ_ _ _ _ _ _ _ h=>by let[_,_,_,_,_,_,_,_,_,_,_,_,_,_,_,h]:=h;simp_all
end
section
variable{N':At}{bz:Expr}{pi:pI}{pt:pT}
def gv{f}(d:∀_:Unit,X.N.Nodup)(S:CompScope N sc N' qD scope)(r:Hd qD)(y:∀_:Unit,X.calm=true)(hi:QI (λ_:Unit=>X) tg iter pi)(u:Hg (FL (λ_:Unit=>X) N' scope) qD tg pg)(o:Ix (FL (λ_:Unit=>X) N' scope) ifs pt)(w:QE (FL (λ_:Unit=>X) N' scope) bz pe)(e:X.N[k]?\x:=by rfl)(n:Ee X.env.scope x:=by trivial)(A:X.N=N:=by rfl)(c:X.env.scope=sc:=by rfl)(a:swapsWith (.ListComp bz [#[tg,iter,ifs,(0)]] scope pos) (some (.Name x pos')) f.line X.env=pure true:=by rfl)(q:∀x,foldedSetIterable iter X.env x=pure x:=by rfl)(v:X.fn x=true\/X.env.scope.names.lookup x\.local:=by trivial):PS X (.Assign [.Name x pos'] (.ListComp bz [#[tg,iter,ifs,(0)]] scope pos) f) (Eh (tQE (Iw pi qD pg pt pe)) (CK k)):=by let[wi,m,l]:=hi;let[g,E,C,B]:=u;let[tt,j,i]:=o;let[te,J,G]:=w;intro qA s Y H D I h;show Mv S (d ()) e n (y ()) (m ()) B (λp=>E ((),p)) (λp=>j ((),p)) (λp=>J ((),p)) A c a q v qA s Y H D I (VD (NW r l C i G) h)
end
open PySem.W
def VE(h:Heap)(it d:Addr)(i n ep:Nat):Prop:=(∃ok ov,h.get? it\(CC .none false d i n ep ok ov))
section
variable{es:Array DictEntry}
def gw{Q:Do->Shared->Prop}(st:VE s.heap it d i es.size ep)(L:CQ s.heap d es ep)(hi)(M:∀h',h'.get? it\(CC (rawInt 'H') false d (i+1) es.size ep es[i].key es[i].val)->h'.get? 'H'\(EC es[i].key es[i].val)->(∀b o,b≠it->'F' b\o->h'.get? b\o)->Q (some (.ref 'H')) {s with heap:=h'}):'C' (pyNext (.ref it)) Q E s:=by
 let[a,m,q,tk,os]:=s;let[ok,u,n]:=st;let[od,j,_,l]:=id L;let ty:Shared.TypeIs #[a,m,q,tk,os] (.ref it) "dict_itemiterator":=#[_,n,0];show wB (wpAny_attempt (wpAny_callSpecial?_slot ty F.slot_dict_itemiterator_next (cQ F.slot_dict_itemiterator_next ty F.entry_dict_itemiterator_next ?body (F.args_dict_itemiterator_next_1 _))));show wB (wP (wB (wB ?_)))
 first|show wB (wpAny_typeNameOfWhole_itemiter ty (wP (wB (wpAny_fieldsOf n rfl ?_))))|show wB (wpAny_typeNameOf_itemiter ty (wP (wB (wpAny_fieldsOf n rfl ?_))))
 show wB (wP (wB (wpAny_dictEntries j l ?_)));rw[aB '2'];show wB (wP (wB (wpAny_dictEpoch j l ?_)));rw[aB '2'];show wP ?_;simp only[show¬(i<0)by simp_all,if_false,Int.toNat_natCast,cL hi];show wB ?_
 first|show wB (wpAny_typeNameOfWhole_itemiter ty (wP (wB (wpAny_isOneOf_itemiter ty ?_))))|show wB (wpAny_typeNameOf_itemiter ty (wP (wB (wpAny_isOneOf_itemiter ty ?_))))
 change 'A' (setField (.ref it) 3 (rawInt (i+1))>>=_) _ _ #[a,m,q,tk,os];show wB (wpAny_setField_rec n '2' λh1 H I=>?_);let r:=I;let f:h1.get? it\(CC .none false d (i+1) es.size ep ok u):=by let e:((i+1:Nat))=i+1:=(by simp only[*]);unfold CC;simpa[rawInt]using H
 let c:Shared.TypeIs #[h1,m,q,tk,os] (.ref it) "dict_itemiterator":=#[_,f,0];show wB (bM (wB (wpAny_isOneOf_itemiter c (wB (wpAny_isOneOf_itemiter c ?_)))));show wB (wpAny_newTuple ?_);let J:=bN n;let g:=r.1;obtain⟨h2,p⟩:∃h2,h2=h1.push (EC es[i].key es[i].val):=#[_,0];let v:h2.get? it\(CC .none false d (i+1) es.size ep ok u):=by rw[p];show aS _ f
 let p2:h2.get? a.objs.size\(EC es[i].key es[i].val):=by rw[p,<-g];show bP _ rfl
 let k2:∀b o,b≠it->a.get? b\o->h2.get? b\o:=λb o hb e=>by rw[p];show aS _ (r.extBut b o hb e)
 rw[g,<-p];let ne:=Nat.ne_of_gt J;show wB ?_;show wB (wpAny_field v rfl rfl ?_);show wP ?_;show wB (wpAny_field v rfl rfl (wB (wpAny_field v rfl rfl ?_)));show wB (wpAny_setField_rec v '2' λT g3 b3=>?_);let D:=g3;show wB (wpAny_setField_rec D '2' λO g4 b4=>?_);let C:=g4;show wB (wpAny_setField_rec C '2' λN σ b5=>?_);let B:=σ;show wB (wpAny_setField_rec B '2' λG ρ b6=>?_);let y:=ρ;let b':=((Heap.SameBut.trans b3 b4).trans b5).trans b6;show wB (wpAny_letGo (wP (wP {_,0,wP (M G y (b'.extBut _ _ ne p2) λb o hb e=>b'.extBut b o hb (k2 b o hb e))})))
def gx{T:Nat}{ok a}{Q}(hz:'F' it\(CC (rawInt T) false d i n ep ok a))(f:∀h',h'.get? it\(CC .none false d i n ep ok a)->Heap.SameBut it s.heap h'->Q () {s with heap:=h'}):'C' (letOwnedTupleGo (.Tuple elts x1 pos) (.ref it) (.ref T)) Q E s:=by
 show wB (wpAny_load hz ?_);change 'A' (if(["enumerate","zip","dict_itemiterator","dict_reverseitemiterator","odict_iterator","itertools.zip_longest","itertools.pairwise"].contains "dict_itemiterator"&&([rawInt T,.bool false,.ref d,.int i 0,.int n 0,.int ep 0,ok,a].toArray)[0]?==some _)=true then _ else _) Q E s
 rw[aC '2'];show wB (wpAny_rule ?_);show wpAny_setField_rec hz '2' λh' c e=>f h' c e
end
theorem VF{P}:∀{es}{vs},Pairs (CF P w) es vs->∀{i:Nat}{e},es[i]?\e->∃q,vs[i]?\q/\AV (kV q.1) e.key/\e.val=q.2|_,_,.nil,i,e,h=>by cases h|_,_,.cons h1 h2 t,0,e,h=>by cases h;show{_,0,UJ h1,h2}|_,_,.cons h1 h2 t,i+1,e,h=>VF t h
theorem Oj:∀{qH}{vs},KV qH vs->∀{i:Nat}{q:AT×Value},vs[i]?\q->∃p,qH[i]?\p/\p.1=q.1/\AV p.2 q.2|_,_,.nil,i,q,h=>by cases h|_,_,.cons r t,0,q,h=>by simp_all|_,_,.cons r t,i+1,q,h=>Oj t h
section
variable{qH:List (AT×V)}
def Inv.freezeK(I:Inv X qA Y H s)(e:H a\(.dK qH)):∃o,Inv X qA Y (AA H a (.frz o (.dK qH))) s:=by let[z,hd,vs,rel,o,es,ep,h1,r]:=J5 I.hok e;show#[o,IV I (by rw[e];show True.intro) {0,λ_ _=>rfl} #[o,h1] #[h1,z,hd,vs,rel,o,es,ep,h1,r]]
def A3.thaw{P}{o}{u}(x:A3 P w H h)(e:H a\(.frz o u)):A3 P w (AA H a u) h:=by
 let no:∀b c,H b\(.own c)->AA H a u b\(.own c):=λb c q=>by rw[AE (CW q e '5')];show q
 let nt:∀b xs,H b\(.tup xs)->AA H a u b\(.tup xs):=λb c q=>by rw[AE (CW q e '5')];show q
 intro b v q;by_cases hb:b=a
 .subst hb;rw[AJ]at q;cases q;show(x b _ e).2.stay (λ_ _ _ z=>z) (λc z=>no c b z) nt
 .rw[AE hb]at q;show(x b _ q).stay (λ_ _ _ z=>z) (λc z=>no c b z) nt
def Inv.thaw{o}{u}(I:Inv X qA Y H s)(e:H a\(.frz o u))(f:∀o u,X.H₀ a≠some (.frz o u)):Inv X qA Y (AA H a u) s:=by
 let ne:∀b,H b=none->b≠a:=λb z q=>by rw[q,e]at z;cases z
 let fr:∀b,H b=none->AA H a u b=none:=λb z=>by rw[AE (ne b z)];show z
 show{
  ok:=I.ok,os:=I.os,bare:=I.bare
  base:=#[I.base.keep,I.base.slot,λb ob q n x=>fr b (I.base.free b ob q n x),I.base.there,λb xs q=>by let z:=I.base.tups b xs q;rw[AE (CW z e '5')];show z,λb ob v q=>by let z:=I.base.frzs b ob v q;rw[AE (λy=>f ob v (by rw[<-y];show q))];show z,λb ps q=>by let[more,z]:=I.base.tbls b ps q;show{more,by rw[AE (CW z e '5')];show z}]
  loc:=I.loc,cell:=I.cell,free:=fr _ I.free,freeC:=λx c q=>fr _ (I.freeC x c q)
  pin:=λp hp=>(by let[p1,p2,d]:=I.pin p hp;show{p1,fr _ p2,d})
  hok:=I.hok.thaw e,len:=I.len}
def JW(d:Addr)(o:Obj)(qH:List (AT×V)):It:=({λi H=>H d\(.frz o (.dK qH))/\i<qH.length,λi H v H'=>∃q p,v=.ref q/\H q=none/\qH[i]?\p/\H'=AA H q (.tup [kV p.1,p.2]),λi H=>H d\(.frz o (.dK qH))/\qH.length<=i})
def Gu{o}(hok:A3 P' w H h)(e:H p\(.frz o (.dK qH))):∃(es:Array DictEntry)(ep:Nat),o.data=.dict es ep/\CQ h p es ep/\(p==sysModules)=false/\es.size=qH.length/\∀(i)(hi:i<es.size),∃q,qH[i]?\q/\AV (kV q.1) es[i].key/\AV q.2 es[i].val:=by done<;>let[d,z,f,vs,rel,o',es,ep,h1,h2,c,_,a,_]:=(hok p _ e);rw[d]at h1;cases h1;let l1:=a.length;let l2:=rel.length;show{es,ep,c,#[o,d,h2,c],f,by simp_all,λi hi=>?_};done<;>(let[q,r,n,m]:=VF a (by rw[Array.getElem?_toList];show cL hi);let[p,l,j,g]:=Oj rel r);simp_all
theorem gy{P}{K}(d it)(o)(es)(ep)(σ:o.data=.dict es ep):Turn P w K (.Tuple elts x1 tpos) (JW d o qH) [it] it (λi h=>i<=es.size/\VE h it d i es.size ep)where
 mem:='2'
 obj:=λi h st b hb=>by
  let e:b=it:=by simpa using hb
  subst e;done<;>let[_,_,_,e]:=st;show{_,e,λv z=>nomatch z}
 keep:=λi h h' st k=>by done<;>let[l,a,b,e]:=st;show{l,a,b,k it '2' _ e}
 item:=by
  intro X C r D hc i qA s Y H E I y st x;done<;>(let[A,hi]:=x;let[O,Q,c,p,u,hz,e1]:=Gu I.hok A);rw[σ]at c;cases c;done<;>(done<;>(let[j,N,f2,M,L,J]:=y it '2';let f:i<es.size:=(by simp_all);let[q,e2,e3,e4]:=e1 i f));show gw st.2 p f λh' n gp kp=>{_,0,gx n λh2 m T=>?_};let il:it<'H':=(by done<;>let[_,_,_,e]:=st;show bN e);let ne:=Nat.ne_of_gt il;let I1:Inv X qA Y H {s with heap:=h2}:=I.turned (λb o hb e=>T.extBut b o hb (kp b o hb e)) j N M L J;let fa:=I.hok.fresh (aQ _);let ap:=I.apart2 (aQ _) fa;let G:=T.extBut _ _ ne gp;show{.ref 'H',_,I1.track (o:=.tup [kV q.1,q.2]) ap {(by decide:2<=sizeLine),[es[i].key,es[i].val],.cons e3 (.cons e4 .nil),_,G,0,#[_,0],0},0,#[_,q,0,fa,e2,0],#[f,_,_,m],λb hb=>?_};let e:b=it:=by simpa using hb
  subst e;rw[AE (Ne.symm ne)];show j
 done:=by
  intro X C r D hc i qA s Y H E I y st x;done<;>(let[A,hi]:=x;let[O,Q,c,p,u,hz,e1]:=Gu I.hok A);rw[σ]at c;cases c;done<;>let[j,N,f2,M,L,J]:=y it '2';let ei:i=es.size:=by let:=st.1;lia
  subst ei;done<;>let[ok,ρ,g]:=st.2;show Uv (I.ok.hd hc) #[.none,false,ok,ρ,g,.inl #[0,0]] p λh' eb=>{0,I.turned (λb o hb e=>eb b o hb e) j N M L J}
 self:=λ_ _ s _ _ st h=>by done<;>let[_,ok,ρ,g]:=st;let B:s.TypeIs (.ref it) "dict_itemiterator":=#[_,g,0];show wpAny_pyIter_slot B PySem.F.slot_dict_itemiterator_iter (cQ PySem.F.slot_dict_itemiterator_iter B kcp_entry ?_ (PySem.F.args_dict_itemiterator_iter_1 _));change 'A' (ret (.ref it)) _ _ s;show wP {_,0,"dict_itemiterator",_,B,PySem.F.slot_dict_itemiterator_next.lookup,h}
def VG(tl:TE):TI:=(λY H R=>tl Y H λx H1=>∃a o qH,x=.ref a/\H1 a\(.frz o (.dK qH))/\∀r,H1 r=none->R (JW a o qH) (AA H1 r (DB r a)))
def VH{x1}(D:PE X l tl)(f:attributeBase l "items" X.env (eval l X.env)=eval l X.env:=by rfl)(d:(qK.endLine==qJ.line)=true:=by rfl):PI X (.Tuple elts x1 tpos) (.Call (.Attribute l "items" qK) [] [] qJ) (VG tl):=by
 intro qA s Y H R I h;show wpAny_Call_method0_late f d (AR (D qA s Y H _ I h) λv c zz=>?_);done<;>let[x,H1,w,y,a,o,qH,ex,E,q]:=zz;subst ex;cases y;done<;>let[es,ep,n,i,m,M,_]:=Gu w.hok E;show{"dict","dict.items",PySem.F.plainAttrs_dict,PySem.F.slot_dict_items,PySem.F.type_dict_items,i.typeIs,λN e=>?_,Calls.callWith_builtin rfl (PySem.evalArgs_none ?_)}
 .cases e;let[B,L,J,_]:=i;show#[B,L,J.2.1]
 show call_meetsIn PySem.F.slot_dict_items i.typeIs PySem.F.entry_dict_items (PySem.F.args_dict_items_1 _) (S:=λ_ R s=>s.TypeIs (.ref a) "dict"/\R (.ok (.ret (.ref 'H'))) {s with heap:=s.heap.push {cls:=.type "dict_items",data:=.fields [.ref a].toArray}}) (.of_wp λA R s⟨ty,h⟩=>?_) #[i.typeIs,?_]
 .show wB (wB (wpAny_notOrdered_dict ty ?_));show wP ?_;unfold Builtin.Dict.showsAll;rw[aB (by rw[m];show cH)];show wB (wP (wB (cG (wP #[_,0,h]))))
 .let g:(c.heap.push {cls:=.type "dict_items",data:=.fields [.ref a].toArray}).get? c.heap.objs.size\{cls:=.type "dict_items",data:=.fields [.ref a].toArray}:=bP _ rfl;let p:=w.laid (t':=c.toks) (o:=DB c.heap.objs.size a) (λb u e=>aS _ e) (aQ _) #[#[_,g,0,0],#[_,g],λh1 h2 zz C=>(by let[o,e,r]:=zz;show{o,C o e,r})];let G:=w.hok.fresh (aQ c.heap.objs.size);let j:=i.keep (h':=c.heap.push {cls:=.type "dict_items",data:=.fields [.ref a].toArray}) λo e=>aS _ e;show Uw #[_,g,0,0] j ?_;show{_,[_],_,_,_,0,p.kept λb o e=>aS _ e,gy a _ o es ep n,{cD _,.none,.none,bP _ rfl},λb hb=>?_,q _ G};let e:=bI.mp hb;subst e;show p.fpOk (aQ _) (p.hok.fresh (aQ _))
def g8{o}{tb:TS}{D:Ends}(Pv:Nat->St->Hp->Prop)(v:Pv 0 Y H)(r:∀i Y H,Pv i Y H->H d\(.frz o (.dK qH)))(l:∀i p Y H q,qH[i]?\p->Pv i Y H->H q=none->g (.ref q) Y (AA H q (.tup [kV p.1,p.2])) λc H2=>tb {D with nx:=Pv (i+1),ct:=Pv (i+1),bk:=D.nx} c H2)(u:∀Y H,Pv qH.length Y H->D.nx Y H):∃W:Nat->Nat->St->Hp->Prop,(∃m,W 0 m Y H)/\∀i m Y H,W i m Y H->((JW d o qH).stop i H/\D.nx Y H)\/((JW d o qH).go i H/\∃N,(∀σ' H',N σ' H'->∃h,h<m/\W (i+1) h σ' H')/\∀x H',(JW d o qH).yld i H x H'->g x Y H' λc H2=>tb {D with nx:=N,ct:=N,bk:=D.nx} c H2):=by
 show{λi m Y H=>m=qH.length-i/\i<=qH.length/\Pv i Y H,{qH.length,'2',cD _,v},?_};rintro i m Y H⟨rfl,hi,p⟩;let q:=r i Y H p;by_cases f:i<qH.length
 .show .inr #[#[q,f],Pv _,λσ' H' j=>{qH.length-(i+1),(by omega),0,f,j},λx H' y=>?_];let[a,e,0,n,s,0]:=y;show l i e Y H a s p n
 .let e:i=qH.length:=⋯;subst e;show .inl #[{q,aQ _},u Y H p]
def VI(X:Cx)(p:Addr)(qH:List (AT×V))(t:TS):TS:=(λD Y H=>H p\(.dK qH)/\(∀o u,X.H₀ p≠some (.frz o u))/\∀o,t {nx:=λσ' H'=>H' p\(.frz o (.dK qH))/\D.nx σ' (AA H' p (.dK qH)),rt:=λv H'=>H' p\(.frz o (.dK qH))/\D.rt v (AA H' p (.dK qH)),bk:=λσ' H'=>H' p\(.frz o (.dK qH))/\D.bk σ' (AA H' p (.dK qH)),ct:=λσ' H'=>H' p\(.frz o (.dK qH))/\D.ct σ' (AA H' p (.dK qH))} Y (AA H p (.frz o (.dK qH))))
def JX{st}(h:PS X st t):PS X st (λD Y H=>∃p qH,VI X p qH t D Y H):=by intro qA s Y H D I#[p,qH,e,c,q];let[o,d]:=I.freezeK e;show AR (h qA s Y _ _ d (q o)) λf s' r=>?_;cases f with|next=>let[σ',H',J,a,q]:=r;show{σ',_,J.thaw a c,q}|brk=>let[σ',H',J,a,q]:=r;show{σ',_,J.thaw a c,q}|cont=>let[σ',H',J,a,q]:=r;show{σ',_,J.thaw a c,q}|ret u=>let[v,σ',H',J,rv,a,q]:=r;show{v,σ',_,J.thaw a c,rv,q}
end
section
variable{P:Program}{K:Fg}{f:Addr}{s₀:Shared}{H₀:Hp}{E:XK}{qH:List (AT×V)}
def g9(n:∀o u,H₀ p≠some (.frz o u)):DH (DP P w) (Fu P w K mg base N qual sc f cd A outer s₀ H₀ E) (λcls d H'=>∃o,H' p\(.frz o (.dK qH))/\E cls d (AA H' p (.dK qH))):=λqA Y H s e s' I h=>by
 done<;>let[a,cls,d,T,H',0,os,c,un,g,tr,na,l,r,v,o,i,m]:=h;let J:=(I.call' os un g c (λb z=>bS z '2')).thaw i n;let j:∀b,H' b=none->AA H' p (.dK qH) b=none:=λb z=>by rw[AE (λq=>by rw[q,i]at z;cases z)];show z
 show LG LH J (.inr #[T,0,tr]) (λb hb=>?_) m;let 0||hb:=aF.mp hb
 .show I.apart rfl na (j _ r)
 .rw[bI.mp hb];show I.apart rfl l (j _ v)
end
section
variable{qH:List (AT×V)}
def VJ(d:Addr)(o:Obj)(qH:List (AT×V)):It:=({λi H=>H d\(.frz o (.dK qH))/\i<qH.length,λi H v H'=>H'=H/\∃p,qH[i]?\p/\v=kV p.1,λi H=>H d\(.frz o (.dK qH))/\qH.length<=i})
theorem hC{P}{K}(d it)(o)(es)(ep)(N:o.data=.dict es ep):Turn P w K tg (VJ d o qH) [it] it (λi h=>i<=es.size/\h.IsKeyIter it d i es.size ep)where
 mem:='2'
 obj:=λi h st b hb=>by
  let e:b=it:=by simpa using hb
  subst e;done<;>let[_,o,e,c,d]:=st;show{o,e,λv z=>by rw[d]at z;cases z}
 keep:=λi h h' st k=>by done<;>let[l,o,e,r]:=st;show{l,o,k it '2' o e,r}
 item:=by intro X y n A O i qA s Y H E I j st u;done<;>(let[x,hi]:=u;let[L,M,a,m,p,ρ,Q]:=Gu I.hok x);rw[N]at a;cases a;done<;>(done<;>(let[J,G,σ,D,C,B]:=j it '2';let f:i<es.size:=(by simp_all);let[q,e2,e3,e4]:=Q i f));show Ta st.2 m f λh' g T=>?_;let I1:Inv X qA Y H {s with heap:=h'}:=I.turned (λb o hb e=>(T.2 b hb).trans e) J G D C B;done<;>let[oi,e,c,dd]:=id g;show#[_,0,G9 e c dd '3' {kV q.1,H,I1,e3,#[0,q,e2,0],#[f,g],λb hb=>(j b hb).1}]
 done:=by
  intro X y n A O i qA s Y H E I j st u;done<;>(let[x,hi]:=u;let[L,M,a,m,p,ρ,Q]:=Gu I.hok x);rw[N]at a;cases a;done<;>let[J,G,σ,D,C,B]:=j it '2';let ei:i=es.size:=by let:=st.1;lia
  subst ei;show Tb (I.ok.hd O) st.2 m λh' eb=>{0,I.turned (λb o hb e=>eb b o hb e) J G D C B}
 self:=λ_ _ _ _ _ st h=>wpAny_pyIter_keyiter st.2 h
def hG(tl:TE):TI:=(λY H R=>tl Y H λx H1=>∃a o qH,x=.ref a/\H1 a\(.frz o (.dK qH))/\R (VJ a o qH) H1)
def hH(n:PE X l tl):PI X tg l (hG tl):=by
 intro qA s Y H R I h;show AR (n qA s Y H _ I h) λv c zz=>?_;done<;>(let[x,H1,d,j,m]:=zz;let[a,o,qH,e,p,q]:=m);subst e;cases j;let[es,ep,g,i,f,_]:=Gu d.hok p;show TZ f i ?_;show{c.heap.objs.size,[c.heap.objs.size],_,_,H1,0,d.kept λb o e=>aS _ e,hC a _ o es ep g,{cD _,_,bP _ rfl,0,0},λb hb=>?_,q};let e:b=c.heap.objs.size:=by simpa using hb
 subst e;show d.fpOk (aQ _) (d.hok.fresh (aQ _))
end
def hJ{kx vx a}{it}(I:Nat->Shared->Prop)(turn:∀n s,I n s->'C' (pyNext it) (λr s₁=>match r with|none=>R (.ok .next) s₁|some v=>'C' (letOwnedTupleGo a it v) (λ_ e=>'C' (assign a env v) (λ_ s₂=>'C' (forIn ifs true λc r=>if r=true then do let ok<-isTrue c env (eval c env);pure (ForInStep.yield ok)else pure (ForInStep.yield r)) (λok d=>if ok=true then 'C' (eval kx env) (λC i=>'C' (eval vx env) (λB g=>'C' (dictSet D C B) (λ_ f=>∃m,m<n/\I m f) '9' g) '9' i) '9' d else∃m,m<n/\I m d) '9' s₂) '9' e) '9' s₁) '9' s)(n)(h:I n s):codeAny (model prog w) A (.compLoop (.DictComp kx vx [#[a,iter,ifs,(0)]] scope pos) 0 it (.ref D) env) R s:=by show codeAny_loop rfl I (λn s E=>?_) n h;show wpAny_noted ?_;show wB (wpAny_standAt (wB (bL (turn n s E) (λr s₁ l=>?_) λ_ _ h'=>h'.elim)));cases r with|none=>show wP l|some v=>show wB (bL l (λ_ e o=>?_) λ_ _ h'=>h'.elim);show wB (bL o (λ_ s₂ y=>wB (bL y (λok d j=>?_) λ_ _ h'=>h'.elim)) λ_ _ h'=>h'.elim);cases ok with|false=>show wP #[0,j]|true=>show wB (wB (bL j (λC i u=>wB (bM (bL u (λB g q=>wB (wpAny_standAt (bM (bL q (λ_ f p=>wP #[0,p]) λ_ _ h'=>h'.elim)))) λ_ _ h'=>h'.elim))) λ_ _ h'=>h'.elim))
def hO(J:It)(qD:List (Option Nat))(g:TG)(tt:TT)(tk tv:TE)(Y:St)(Q:VK)(H1:Hp):Prop:=(∀D,H1 D=none->∃W:Nat->Nat->List (AT×V)->Hp->Prop,(∃m,W 0 m [] (AA H1 D (.dK [])))/\∀i m ys H2,W i m ys H2->H2 D\(.dK ys)/\((J.stop i H2/\Q (.ref D) H2)\/(J.go i H2/\∃M:List (AT×V)->Hp->Prop,(∀zs H',M zs H'->∃m',m'<m/\W (i+1) m' zs H')/\∀x H3,J.yld i H2 x H3->g x (L2.picked Y qD) H3 λσ4 H4=>tt σ4 H4 λb H5=>if b=true then tk σ4 H5 λk H6=>tv σ4 H6 λy H7=>∃n:Str,k=.str n/\H7 D\(.dK ys)/\ys.length<sizeLine/\M (Bh ys (.inr n) y) (AA H7 D (.dK (Bh ys (.inr n) y)))else M ys H5)))
def hU(wi:TI)(qD:List (Option Nat))(g:TG)(tt:TT)(tk tv:TE):TE:=(λY H Q=>wi Y H λJ H1=>hO J qD g tt tk tv Y Q H1)
section
variable{N':At}{kx vx:Expr}{wi:TI}{tk tv:TE}
def hV(S:CompScope N sc N' qD scope)(hc:X.calm=true)(hi:PI X tg iter wi)(hk:Fh qD g)(hg:∀p,PG (X.comp N' scope p) tg g)(ht:∀p,GO (X.comp N' scope p) ifs tt)(an:∀p,PE (X.comp N' scope p) kx tk)(am:∀p,PE (X.comp N' scope p) vx tv)(hN:X.N=N:=by rfl)(a8:X.env.scope=sc:=by rfl)(hs:∀x,foldedSetIterable iter X.env x=pure x:=by rfl):PE X (.DictComp kx vx [#[tg,iter,ifs,(0)]] scope pos) (hU wi qD g tt tk tv):=by
 intro qA s Y H Q I h;rw[arm_eval_DictComp];change 'A' (comprehension (.DictComp kx vx [#[tg,iter,ifs,(0)]] scope pos) scope X.env (firstIterPos [#[tg,iter,ifs,(0)]] pos) newDict false (eval iter X.env) none) _ _ s;let aa:=λy hy e=>by let q:=S.has y hy e;rw[<-a8]at q;show I.ok.has y.1 q
 show wpAny_comprehension_free rfl hs (RV aa) S.kind S.names (AR (hi qA s Y H _ I h) λv s1 h1=>AR h1 λav f h2=>?_);done<;>(let[it,D,tn,J,H2,e,ρ,T,a2,E,q]:=h2;subst e;let ac:=ρ.fresh;let[W,[m0,w0],a3]:=q f.heap.objs.size ac);show cG (wpAny_newFunctionEnv S.nocell (by intro y hy;simp at hy) (λh₁ l j=>?_) S.kind);dsimp only at l j⊢;let I3:Inv X qA Y (AA H2 f.heap.objs.size (.dK [])) {f with heap:=f.heap.push {cls:=.type "dict",dict:=none,data:=.dict #[] 0}}:=ρ.laid (λ_ _ q=>aS _ q) (aQ _) (RQ f.heap ρ.big)
 generalize O:f.heap.push {cls:=.type "dict",dict:=none,data:=.dict #[] 0}=G3 at l j I3⊢;let f3:∀b∈D,Ci X qA (AA H2 f.heap.objs.size (.dK [])) b:=λb hb=>by let[o,e,_]:=T.obj _ _ a2 b hb;show{?_,(E b hb).2};rw[AE (bX (bN e))];show(E b hb).1
 let a9:∀b∈D,∃o,G3.get? b\o:=λb hb=>by let[o,e,_]:=T.obj _ _ a2 b hb;show{o,O▸aS _ e}
 let a7:∀b o,G3.get? b\o->h₁.get? b\o:=λb o e=>(j.2 b (bX (bN e))).trans (aS _ e);let I4:=Rb (s4:={f with heap:=h₁,toks:=f.toks+([]:List (Str×Value)).length}) S hN a8 I3 f3 a9 (aQ G3.objs.size) a7 l rfl rfl;let a6:=T.keep _ _ _ a2 λb hb o e=>a7 b o (O▸aS _ e);let L:f.heap.objs.size<=G3.objs.size:=by rw[<-O,Heap.size_push];show cS _
 generalize C:({Cu X.env.cells scope.names [],G3.objs.size,{f with heap:=G3},AA H2 f.heap.objs.size (.dK []),D,qA}:CompP)=p at I4;let sub:∀y c,(X.comp N' scope p).env.cells.lookup y\c->X.env.cells.lookup y\c:=λy c e=>by
  subst C;let q||q:=J8 e
  .show q
  .simp at q
 let B:∀{H'},(∀b∈D,H' b=none)->∀b∈D,Ci (X.comp N' scope p) [] H' b:=λhn b hb=>by
  show{hn b hb,λz=>?_,λz=>?_,.inl (by subst C;show hb),λx c e=>(E b hb).2.2.2.2.1 x c (sub x c e),λq hq=>?_}
  .subst C;let[o,e]:=a9 b hb;let z:=z;show bS (bN e) (by rw[z];show aX _)
  .subst C;let q||q:=aF.mp (ρ.stkSub b z)
   .show(E b hb).2.1 q
   .show(E b hb).2.2.1 q
  .show(E b hb).2.2.2.2.2 q ?_;subst C;let hq:q∈(X.pn++qA)++[]:=hq;simpa using hq
 let σ:codeAny (model X.prog X.w) X.A (.compLoop (.DictComp kx vx [#[tg,iter,ifs,(0)]] scope pos) 0 (.ref it) (.ref f.heap.objs.size) (X.comp N' scope p).env)
   (compPost (model X.prog X.w) X.A X.xe none (EP X qA Y Q) (.ref f.heap.objs.size) G3.objs.size) {f with heap:=h₁,toks:=f.toks+([]:List (Str×Value)).length}:=by
  show hJ (λn s'=>∃i ys H',Inv (X.comp N' scope p) [] (L2.picked Y qD) H' s'/\tn i s'.heap/\(∀b∈D,H' b=none)/\W i n ys H') ?_ m0 {(0),[],_,I4,a6,λb hb=>(f3 b hb).1,w0};rintro n s5 iq;done<;>let[i,ys,H5,I5,a5,ab,w5]:=iq;done<;>(let[hD,ap]:=a3 i n ys H5 w5;let[a4,qn]||[go,M,hM,step]:=ap)
  .show AR (T.done (X.comp N' scope p) rfl rfl rfl hc i [] s5 _ H5 _ I5 (B ab) a5 a4) λr s6 zz=>?_;let[hr,I6]:=zz;subst hr;let[m6,al,_]:=I6.loc;let un:Un (frs X.stack) D H2 H5 f.heap s6.heap:=by let u1:Un (frs X.stack) D H2 (AA H2 f.heap.objs.size (.dK [])) f.heap G3:=Un.laid (λb o e=>O▸aS _ e) (aQ _) ac;let u2:=I6.base;subst C;show u1.trans u2
   let IO:=ρ.call' (by let e:=I6.os;subst C;show e) un (by let e:=I6.hok;subst C;show e) I6.bare λb hb=>{(E b hb).2.2.2.1,(E b hb).2.1,(E b hb).2.2.2.2.1,(E b hb).2.2.2.2.2};let n1:H5 G3.objs.size=none:=by let e:=I6.free;subst C;show e
   let n2:=Nat.ne_of_gt (aU ρ.lt L);show#[m6,by subst C;show al,λh' ak=>{.ref f.heap.objs.size,H5,IO.turned (λb o hb e=>(ak.2 b hb).trans e) n1 n2 (.inr (aR ρ.sz L)) ?_ ?_,0,qn}]
   .intro x c e z;let[v,q]:=ρ.cell x c e;show bS (aU q.lt L) (by rw[z];show aX _)
   .intro q hq z;show bS (aU (bN (ρ.pin q hq).1) L) (by rw[z];show aX _)
  .show AR (T.item (X.comp N' scope p) rfl rfl rfl hc i [] s5 _ H5 _ I5 (B ab) a5 go) λr s6 zz=>?_;let[u,hr,h6]:=zz;subst hr;show AR h6 λ_ s7 zz=>?_;done<;>let[x,H7,I7,r7,y7,a1,ao]:=zz;let aq:=I7.pinned (B ao) (T.obj _ _ a1);show AR (hg p _ s7 _ H7 x u _ aq r7 (hk Y x H7 _ (step x H7 y7))) λ_ s8 zz=>?_;done<;>let[G,H8,I8,q8,w8]:=zz;show AR (ht p _ s8 G H8 _ I8 q8) λok s9 zz=>?_;let[H9,I9,q9]:=zz;let back:∀{H'}{s'},Inv (X.comp N' scope p) ([]++HB D s7.heap) G H' s'->∀{k:Nat}{zs:List (AT×V)},M zs H'->∃m,m<n/\∃i ys H'',Inv (X.comp N' scope p) [] (L2.picked Y qD) H'' s'/\tn i s'.heap/\(∀b∈D,H'' b=none)/\W i m ys H'':=λ{H' s'}I'{k zs}mz=>by
    let[m',hm,w']:=hM _ _ mz;show{m',hm,i+1,zs,H',?_,T.keep _ _ _ a1 λb hb o e=>(I'.pin (b,o) (cC _ (cC _ (HC hb e)))).1,λb hb=>?_,w'}
    .show(I'.unpinned).weak ?_ w8;rw[(I'.unpinned).len,I7.len]
    .let[o,e,d]:=T.obj _ _ a1 b hb;show(I'.pin (b,o) (cC _ (cC _ (HC hb e)))).2.1
   cases ok with|false=>show back I9 (k:=0) q9|true=>show AR (an p _ s9 G H9 _ I9 q9) λkv af zz=>?_;done<;>let[k,as,ar,ah,aj]:=zz;show AR (am p _ af G as _ ar aj) λv au zz=>?_;done<;>(let[y,aw,ae,ag,n,ek,a0,hz,ai]:=zz;subst ek;let[z,hd,vs,rel,dd]:=J5 ae.hok a0);show wpAny_dictSet_pairs (GL (k:=.inr n) ah) dd (λh' dd' hs=>?_) (by rw[<-rel.length];show z);let he:∃q,h'.get? f.heap.objs.size\q:=(by let[q,_,_,hq,_]:=dd';show#[q,hq]);show back (IV ae (by rw[a0];show True.intro) hs he (Mn (by let:=IU ys (.inr n) y;lia) hd (rel.put _ ag) dd')) (k:=0) ai
 subst C;show codeAny_compStart_dict σ (T.self _ 0 _ _ _ a6 σ)
end
section
variable{qH:List (AT×V)}
def LL(d:Addr)(o:Obj)(qH:List (AT×V)):It:=({λi H=>H d\(.frz o (.dK qH))/\i<qH.length,λi H v H'=>H'=H/\∃p,qH[i]?\p/\v=p.2,λi H=>H d\(.frz o (.dK qH))/\qH.length<=i})
def LM{o}{es}(hok:A3 P' w H h)(e:H p\(.frz o (.dK qH)))(a:o.data=.dict es ep):∃vs,h.DictAt (CF P' w) p vs ep/\(p==sysModules)=false/\vs.length=qH.length/\∀(i:Nat)q,vs[i]?\q->∃r,qH[i]?\r/\AV r.2 q.2:=by done<;>let[d,z,g,vs,rel,o',j,l,h1,h2,c,r]:=(hok p _ e);rw[d]at h1;cases h1;rw[a]at c;cases c;show{vs,#[_,_,d,h2,a,r],g,rel.length.symm,λi q f=>(by let[x,n,_,m]:=Oj rel f;show#[x,n,m])}
theorem hW{P}{K}(d it)(o)(es)(ep)(j:o.data=.dict es ep):Turn P w K tg (LL d o qH) [it] it (λi h=>i<=qH.length/\h.IsValIter it d i qH.length ep)where
 mem:='2'
 obj:=λi h st b hb=>by
  let e:b=it:=by simpa using hb
  subst e;let[_,o,e,c,d]:=st;show{o,e,λv z=>by rw[d]at z;cases z}
 keep:=λi h h' st k=>by done<;>let[l,o,e,r]:=st;show{l,o,k it '2' o e,r}
 item:=by intro X y p A L i qA s Y H E I n st q;subst y p A;done<;>(let[u,hi]:=q;let[vs,f,_,m,ex]:=LM I.hok u j;let[J,G,O,D,C,B]:=n it '2';let g:i<vs.length:=(by simp_all);let[r,N,rv]:=ex i vs[i] (aH g));show wpAny_pyNext_values_item (by rw[m];show st.2) f (aH g) λh' a M=>?_;let T:Inv X qA Y H {s with heap:=h'}:=I.turned (λb o hb e=>(M.2 b hb).trans e) J G D C B;rw[m]at a;let[ρ,e,c,dd]:=id a;show#[_,0,G9 e c dd '3' {r.2,H,T,rv,#[0,r,N,0],#[hi,a],λb hb=>(n b hb).1}]
 done:=by intro X y p A L i qA s Y H E I n st q;subst y p A;done<;>(let[u,hi]:=q;let[vs,f,_,m,ex]:=LM I.hok u j;let[J,G,O,D,C,B]:=n it '2');show wpAny_pyNext_values_end (I.ok.hd L) (by rw[m];show st.2) f (bQ (by simp_all)) λh' Q=>{0,I.turned (λb o hb e=>Q b o hb e) J G D C B}
 self:=λ_ _ s _ _ st h=>by done<;>let[_,j]:=st;let x:=j.typeIs;show wpAny_pyIter_slot x PySem.F.slot_dict_valueiterator_iter (cQ PySem.F.slot_dict_valueiterator_iter x entry_dict_valueiterator_iter ?_ (PySem.F.args_dict_valueiterator_iter_1 _));show wP {_,0,"dict_valueiterator",_,x,PySem.F.slot_dict_valueiterator_next.lookup,h}
def hZ(tl:TE):TI:=(λY H R=>tl Y H λx H1=>∃a o qH,x=.ref a/\H1 a\(.frz o (.dK qH))/\R (LL a o qH) H1)
def VL(L:PE X l tl)(f:attributeBase l "values" X.env (eval l X.env)=eval l X.env:=by rfl)(c:(qK.endLine==qJ.line)=true:=by rfl):PI X tg (.Call (.Attribute l "values" qK) [] [] qJ) (hZ tl):=by
 intro qA s Y H R I h;show wpAny_Call_method0_late f c (AR (L qA s Y H _ I h) λv i zz=>?_);done<;>let[x,H1,C,r,a,o,qH,ex,y,q]:=zz;subst ex;cases r;done<;>(let[es,ep,d,p,u,N,_]:=Gu C.hok y;let[vs,B,_,J,_]:=LM C.hok y d);show{"dict","dict.values",PySem.F.plainAttrs_dict,PySem.F.slot_dict_values,PySem.F.type_dict_values,p.typeIs,λO e=>?_,Calls.callWith_builtin rfl (PySem.evalArgs_none ?_)}
 .cases e;let[E,A,M,_]:=p;show#[E,A,M.2.1]
 show call_meetsIn PySem.F.slot_dict_values p.typeIs PySem.F.entry_dict_values (PySem.F.args_dict_values_1 _) (meets_dict_values _ a u) {(by let[G,A,r]:=B;show#[vs,G,A,ep,r]),?_};let g:(i.heap.push {cls:=.type "dict_values",data:=.fields [.ref a].toArray}).get? i.heap.objs.size\{cls:=.type "dict_values",data:=.fields [.ref a].toArray}:=bP _ rfl;let n:=C.kept (t':=i.toks) (h':=i.heap.push {cls:=.type "dict_values",data:=.fields [.ref a].toArray}) λb o e=>aS _ e;done<;>let[D,m,_,j,_]:=LM n.hok y d;show wpAny_pyIter_values #[_,g,0,0] m ?_;rw[j];show{_,[_],_,_,H1,0,n.kept λb o e=>aS _ e,hW a _ o es ep d,{cD _,_,bP _ rfl,0,0},λb hb=>?_,q};let e:=bI.mp hb;subst e;show n.fpOk (aQ _) (n.hok.fresh (aQ _))
end
section
variable{qH:List (AT×V)}{o:Obj}{Q:VK}
def h9(Pv:Addr->Nat->dH->Hp->Prop)(m:∀D,H D=none->Pv D 0 [] (AA H D (.lst [])))(e:∀D i ys H2,H D=none->i<=qH.length->Pv D i ys H2->H2 D\(.lst ys)/\H2 a\(.frz o (.dK qH)))(h:∀D,H D=none->∀i p ys H2,qH[i]?\p->Pv D i ys H2->g p.2 (L2.picked Y qD) H2 λd H4=>tt d H4 λb H5=>if b=true then te d H5 λy H6=>H6 D\(.lst ys)/\ys.length<sizeLine/\Pv D (i+1) (ys++[y]) (AA H6 D (.lst (ys++[y])))else Pv D (i+1) ys H5)(l:∀D ys H2,H D=none->Pv D qH.length ys H2->Q (.ref D) H2):HK (LL a o qH) qD g tt te Y Q H:=Mw Pv m (λD i ys H2 c hi p=>(e D i ys H2 c hi p).1) (λD i ys H2 c hi p=>{(e D i ys H2 c (aY hi) p).2,hi})
  (λD ys H2 c p=>{(e D _ ys H2 c (aQ _) p).2,aQ _}) (λD i ys H2 x r c hi p z=>#[z.2,z.1]) (λD c i x ys H2 _ f p=>by let[q,j,0]:=f;show h D c i q ys H2 j p) l
end
def iA{K}(h:qD[i]?\none)(h':qD[j]?\none)(h2:qD[l]?\none):Fh qD (gTup K 3 (gCons (CK i) (gCons (CK j) (gCons (CK l) FZ)))):=by
 rintro Y x H Q⟨a,xs,rfl,d,f,v,r,rfl,v',m,rfl,c,g,rfl,rfl,q⟩;show{a,_,0,d,f,v,_,0,v',_,0,c,_,0,0,q,λk v e=>?_};let ne:∀{n},qD[n]?\none->n≠k:=λ{n}p z=>by subst z;rw[KA p]at e;cases e
 rw[bV (ne h2),bV (ne h'),bV (ne h)];show e
def iB{k1}(e:qD[i]?\none)(d:qD[j]?\none)(c:qD[l]?\none)(g:∀i,(Xs i).calm=true)(m:∀i,(Xs i).K=Kf)(h:∀q,GC (Xs q) es (FI [i,j,l]))(f:∀i,(assignEach es (Xs i).env).length=3:=by rfl)(a:∀i,(assignEach es (Xs i).env).findIdx? (·.1)=none:=by rfl):Hg Xs qD (.Tuple es k1 pos) (HZ [i,j,l]):={gTup Kf 3 _,λi=>by let:=CP (k:=k1) (pos:=pos) (g i) (h i) (f i) (a i);simp_all,NT rfl,iA e d c}
end L2
namespace L2
def VM{E}{o}(G:Bj X.prog X.w X.K X.mg X.base C m k ps sp)(ow:Own X)(c:Cls X.K C)(p:Room k X.A)(r:PE (X.tr qA σ0 E) o ta)(n:eval (.Call (.Attribute o m qK) [] [] pos) X.env=(do
   let g<-eval o X.env
   standAt qK.atName let(f,first)<-holding [g] (getMethod g m pl)callWith pos f first (backTo pos (starEach [] X.env)) (backToKw pos (keywordEach [] X.env))):=by rfl):PE (X.tr qA σ0 E) (.Call (.Attribute o m qK) [] [] pos) (Og σ0 (GJ C m sp [] E ta B5)):=by let[f,fd,F,i,hb]:=G;rintro d s Y H Q I⟨rfl,h⟩;show PySem.W.methodCall_KW (AR (r d s Y H _ I h) λu y zz=>?_) n;done<;>(let[x,H1,e,j,a,dx,fs,ex,v,l,q]:=zz;subst ex;obtain rfl:u=Value.ref a:=j);show Jw e v c i l ?_;show PySem.W.callWith_K0 e.kIn i.kp (VA (vs:=[.ref a]) ow F p hb e (.cons rfl .nil) q)
def iC(n:Nat):Builtin.Slice.sliceAdjust none none (-1) (n:Int)=((n:Int)-1,-1):=rfl
def iD(n:Nat):Builtin.Slice.slicePlaces ((n:Int)-1) (-1) (-1)=n:=by unfold Builtin.Slice.slicePlaces;lia
def iE{Q}(d:s.heap.IsSliceOf sl .none .none (.int (-1) t))(h:Q ((n:Int)-1,-1,n) s):'C' (Builtin.Slice.sliceApplied (.ref sl) (pure (n:Int))) Q E s:=by let[os,a,e,c]:=id d;show wB (wB (wpAny_field a c rfl (wB (wpAny_field a c rfl (wB (wpAny_field a c rfl (wP ?_)))))));show wB (slicePart_int ?_);change 'A' (if((-1)==0)=true then _ else _) _ _ s;show wB (slicePart_none (wB (slicePart_none (wB (wP ?_)))));change 'A' (match Builtin.Slice.sliceAdjust none none (-1) (n:Int)with|(lo,hi)=>pure (lo,(-1),Builtin.Slice.slicePlaces lo hi (-1))) _ _ s;change 'A' (pure ((n:Int)-1,(-1),Builtin.Slice.slicePlaces (n-1) (-1) (-1))) _ _ s;rw[iD n];show wP h
theorem VN{α a:Type}{f g:α->Option a}:∀(l:List α),(∀x∈l,f x=g x)->l.filterMap f=l.filterMap g|[],_=>rfl|x::l,h=>by rw[filterMap_cons,filterMap_cons,h x cA,VN l λy c=>h y (bT _ c)]
def iF(xs:Ex):((List.range xs.size).filterMap λ(k:Nat)=>xs[(((xs.size:Int)-1)+(k:Int)*(-1)).toNat]?).toArray=xs.toList.reverse.toArray:=by
 congr 1
 let e:(List.range xs.size).filterMap (λ(k:Nat)=>xs[((xs.size-1)+(k:Int)*(-1)).toNat]?)=(List.range xs.size).filterMap (λk=>xs.toList.reverse[k]?):=by
  show VN _ λk a=>?_;let a:=bH.mp a;rw[getElem?_reverse (by show a),bR,Array.getElem?_toList]
  congr 1
  lia
 rw[e];let:=gZ xs.toList.reverse;rw[length_reverse]at this;show this
def iG{items:Ex}{u}(c:IsTup s.heap t items)(g:s.heap.IsSliceOf sl .none .none (.int (-1) u))(h:Q (.ref 'H') {s with heap:=s.heap.push {cls:=.type "tuple",data:=.seq items.toList.reverse.toArray}})(hsz:items.size<=sizeLine):'C' (getItem (.ref t) (.ref sl)) Q E s:=by
 let a:sizeOk (.seq items.toList.reverse.toArray):=by change items.toList.reverse.toArray.size<=sizeLine;rw[size_toArray,length_reverse,bR];show hsz
 let[os,d,e,i]:=id g;let f:s.TypeIs (.ref sl) "slice":=#[os,d,e];unfold getItem
 try with_reducible show bM ?_
 show wB (wpAny_sequenceKey c.typeIs '3' ?_);show wB (wpAny_callSpecial?_slot c.typeIs slot_tuple_getitem
  (cQ slot_tuple_getitem c.typeIs entry_tuple_getitem ?_ (args_tuple_getitem _ _)))
 change 'A' (Builtin.Tuple.tupleItemsOf _>>=_) _ _ s;show wB (tupleItemsOf_ c ?_);show wB (wpAny_typeOf f ?_);show wB (iE g ?_);change 'A' (if((((items.size:Int)-1)==0)&&((-1)==1)&&(items.size==items.size))=true then _ else _) _ _ s;rw[aB '2',iF items]
 first|show wB _|show wB (cG (wB (wP (wP {_,0,wP h}))) a)|show wB (wB (cG (wP (wP {_,0,wP h})) a))|show wB (wB (cG (wP {_,0,wP h}) a))
def VO(te:TE)(ts:TE):TE:=(λY H Q=>te Y H λx H1=>ts Y H1 λy H2=>∃a xs,x=.ref a/\y=.int (-1)/\H2 a\(.tup xs)/\∀p,H2 p=none->Q (.ref p) (AA H2 p (.tup xs.reverse)))
def iH{e es}{ts}{p2}(G:PE X e te)(E:PE X es ts)(d:∀a b,∃ops,subscripted (.Slice none none (some es) p2) false (.ref a) (.ref b)=operate ops (getItem (.ref a) (.ref b)):=by intro _ _;show{_,by with_unfolding_all rfl}):PE X (.Subscript e (.Slice none none (some es) p2) pos) (VO te ts):=by intro qA s Y H Q I h;show Subscript_ (AR (G qA s Y H _ I h) λv j zz=>?_);let[x,H1,L,m,p]:=zz;show wpAny_Slice ?_;show wP (wP ?_);show AR (E qA j Y H1 _ L p) λu c zz=>?_;done<;>(let[y,M,J,l,n]:=zz;let[a,xs,0,0,D,q]:=n;let[t,0]:=l);cases m;let f:Inv X qA Y M {c with heap:=c.heap.push {cls:=.type "slice",data:=.fields [.none,.none,.int (-1) t].toArray}}:=J.kept λb B q=>aS _ q;done<;>(let[qG,r,g,C]:=f.tuple (.of D);let i:=r.length;let[ops,d]:=d a c.heap.objs.size);show tail_any g.typeIs slot_tuple_getitem.lookup (iG g (Heap.IsSliceOf.new ..) ?_ (by rw[size_toArray]<;>simp_all)) d;show{.ref _,_,f.laid (λb B q=>aS _ q) (aQ _) ?_,0,q _ (f.hok.fresh (aQ _))};show{by rw[length_reverse];show C,qG.reverse,r.reverse,Dm.new _ qG.reverse.toArray}
def iI(pe ps:pE):pE:=(λU K=>pe U λx _=>ps U λy _=>y=.int (-1)/\∃xs,x=.tup xs/\P.imms xs=true/\K (.tup xs.reverse) .fr)
def iJ(h:P.imms xs=true):P.imms xs.reverse=true:=by rw[HS]at h⊢;simp_all
def iK{e es}{ps}{p2}(G:QE Xs e pe)(C:QE Xs es ps)(D:∀a b,∃ops,subscripted (.Slice none none (some es) p2) false (.ref a) (.ref b)=operate ops (getItem (.ref a) (.ref b)):=by intro _ _;show{_,by with_unfolding_all rfl}):QE Xs (.Subscript e (.Slice none none (some es) p2) pos) (iI pe ps):=by let[te,L,J]:=G;let[ts,r,o]:=C;show{VO te ts,λi=>iH (L i) (r i) D,λW U Y H Q K ok E q=>J W U Y H _ _ ok E λx f v H1 k1 j A=>o W U Y H1 _ _ (ok.step j) k1 λy g u H2 zz m w=>?_};let[I,xs,ex,B,k2]:=zz;let d:=j.trans m;let h:=ok.step d;let s:=(A.step (ok.step j) m).any h;subst I ex;cases Da h w;let[p,us,0,c,rv]:=s;show{p,us,0,0,c,λl n=>q _ _ _ _ k2 (d.trans (Step.new d.bag n)) ?_};let st:Step W.b W.a H2 (AA H2 l (.tup us.reverse)):=Step.new d.bag n;show{l,_,0,AJ,(AC.step rv.rev st d.bag).imm (iJ B)}
end L2
open L2
local macro_rules|`(tactic|simp! only[$ls,*]$[$l:location]?)=>do let ids:=("A7 HV DZ Fk Iw SY SX SZ NU NV Ca pK D7 HW SC SD SE SG KQ NS NR NQ SM Ik Bn Sb KU p1 JC Nb Nc DL CT L2.ST JA NZ P.isNon GU Na cb Ng Sz S0 Nm S6 S4 S5 JD Kt S8 frzS D9 NG R8 DJ BU Fl.join Fl.el Fl.top Bc Dq Fm EN Nd Nf OA N0 TQ TR TY K0 Sf Th UA OK OL UH Tj HZ KS Ke Uo Ut gD Oa isEmpty_cons isEmpty_nil Ob replicate map_cons map_nil length_cons length_nil cons_append nil_append getElem?_cons_zero getElem?_cons_succ set_cons_zero set_cons_succ getElem?_nil Option.getD_some Option.getD_none Nat.reduceAdd Nat.reduceSub Nat.sub_self Nat.zero_add dD if_false Bool.false_eq_true exists_eq_left exists_eq_left' ite_self exists_and_left exists_and_right exists_eq exists_eq' exists_const and_true true_and Option.some.injEq P.int.injEq P.str.injEq P.bl.injEq P.tup.injEq P.lst.injEq P.fT.injEq List.cons.injEq Prod.mk.injEq ne_eq reduceCtorEq not_false_eq_true decide_true decide_false Bool.true_or Bool.or_true Bool.false_or Bool.or_false Bool.and_true Bool.true_and Bool.and_false Bool.false_and Bool.not_true Bool.not_false ACP ACQ ACR ACS Uk Ul Zp Zq Zr Zs Zt R5 Zu Zv Zw Zx NE Ic Ie Zy Ht Tk CM OC Zz Z0 Z2 Z3 Z4 Z5 S1 S2 AAu AAv AAw AAx AAy AAz ABM Tn ABL all_cons all_nil ES JH Cy eO eR eS OF Bool.not_eq_true' decide_eq_false_iff_not decide_eq_true_eq".splitOn " ").toArray.map λs=>Lean.mkIdent s.toName`(tactic|simp only[$[$ids:term],*,$ls,*]$[$l]?)
local macro_rules|`(tactic|simp![$ls,*]$[$l:location]?)=>`(tactic|simp! only[eT,eU,eV,eW,aA,exists_prop,and_assoc,forall_const,forall_eq,forall_eq_apply_imp_iff,$ls,*]$[$l]?)
namespace K
open L2
def top(i:Nat):Stmt:=(PySem.Challenge.pw_roomtally_k32_whole_deeds_make_the_house.main.body.getD i (.Pass #[(0),(0),(0),(0)]))
abbrev LN:Stmt:=top 18
def iL:FnScope ["text"] ["text"] (AN LN):='0'
abbrev ID:Stmt:=top 19
def VP:FnScope ϸ ϸ (AN ID):='0'
abbrev LO:Stmt:=top 20
def iM:FnScope ["names"] ["names"] (AN LO):='0'
abbrev LP:Stmt:=top 21
def iN:FnScope ϲ ϲ (AN LP):='0'
abbrev LQ:Stmt:=top 22
def iO:FnScope ϰ ϰ (AN LQ):='0'
abbrev LR:Stmt:=top 24
def iP:FnScope ϓ ϓ (AN LR):='0'
abbrev LS:Stmt:=top 25
def iQ:FnScope ϯ ϯ (AN LS):='0'
abbrev LU:Stmt:=top 26
def iR:FnScope ϭ ϭ (AN LU):='0'
abbrev Ol:Stmt:=top 27
def iS:FnScope Ϧ Ϧ (AN Ol):='0'
abbrev JY:Stmt:=top 29
def iT:FnScope Ϙ Ϙ (AN JY):='0'
abbrev LV:Stmt:=top 30
def LW:FnScope ["papers","counts","row","count"] ["papers"] (AN LV):='0'
abbrev Om:Stmt:=top 31
def iU:FnScope ϓ ϓ (AN Om):='0'
abbrev Oo:Stmt:=top 32
def JZ:FnScope ["one","other","counts","row","count","left"] ϓ (AN Oo):='0'
abbrev LX:Stmt:=top 33
def VQ:FnScope ["room","rows","part","spots"] ["room","rows","part"] (AN LX):='0'
abbrev LY:Stmt:=top 35
def Ja:FnScope Ϫ Ϣ (AN LY):='0'
abbrev Op:Stmt:=top 36
def Jb:FnScope ["rooms","tallies","found","place","other","row"] ["rooms","tallies"] (AN Op):='0'
abbrev Oq:Stmt:=top 61
def iV:FnScope Ϛ Ϛ (AN Oq):='0'
abbrev Os:Stmt:=top 62
def iW:FnScope ϔ ϔ (AN Os):='0'
abbrev Ot:Stmt:=top 63
def iX:FnScope ϔ ϔ (AN Ot):='0'
abbrev Ou:Stmt:=top 64
def VR:FnScope ["opened","name","room","rows","changed"] ϛ (AN Ou):='0'
abbrev LZ:Stmt:=top 65
def VT:FnScope ["questions","opened","deed","name","room","rows"] ύ (AN LZ):='0'
abbrev La:Stmt:=top 66
def VU:FnScope ["questions","opened","deed","name"] ύ (AN La):='0'
abbrev Ov:Stmt:=top 67
def VV:FnScope ϩ ύ (AN Ov):='0'
abbrev Ox:Stmt:=top 68
def VW:FnScope ϩ ύ (AN Ox):='0'
abbrev Oy:Stmt:=top 69
def VX:FnScope ϱ ύ (AN Oy):='0'
abbrev Oz:Stmt:=top 70
def VY:FnScope ϱ ύ (AN Oz):='0'
abbrev O0:Stmt:=top 72
def Jc:FnScope ["deed","word","name","room","rows"] ["deed"] (AN O0):='0'
abbrev Lb:Stmt:=top 73
def iY:FnScope Ϟ Ϟ (AN Lb):='0'
abbrev Ld:Stmt:=top 74
def iZ:FnScope Ϟ Ϟ (AN Ld):='0'
abbrev Lf:Stmt:=top 75
def VZ:FnScope ["opened","names","told"] Ϟ (AN Lf):='0'
abbrev O1:Stmt:=top 80
def Lg:FnScope ["_law_script","_law_salt","_law_one"] ϣ (AN O1):='0'
abbrev O2:Stmt:=top 81
def IE:FnScope ["_law_bag_here","_law_many_here","_law_seed","_law_mixed","_law_drawn_here"] ϊ (AN O2):='0'
abbrev Lh:Stmt:=top 82
def Va:FnScope ["_law_bag_here","_law_size","_law_letters"] Ϻ (AN Lh):='0'
abbrev O3:Stmt:=top 83
def F0:FnScope ["_law_bag_here","_law_many_here","_law_letters","_law_found","_law_start_here","_law_k","_law_word_here","_law_step"] ϊ (AN O3):='0'
abbrev O4:Stmt:=top 84
def ic:FnScope Ϝ Ϝ (AN O4):='0'
abbrev Li:Stmt:=top 85
def Jd:FnScope ϧ Ϭ (AN Li):='0'
abbrev Lj:Stmt:=top 86
def ie:FnScope ώ ώ (AN Lj):='0'
abbrev O5:Stmt:=top 87
def ig:FnScope Ϝ Ϝ (AN O5):='0'
abbrev Lk:Stmt:=top 88
def ij:FnScope Ϥ Ϥ (AN Lk):='0'
abbrev O6:Stmt:=top 89
def Ll:FnScope ["_law_bag_here","_law_room","_law_counts","_law_base","_law_k"] ["_law_bag_here","_law_room"] (AN O6):='0'
abbrev Lm:Stmt:=top 90
def ik:FnScope ϗ ϗ (AN Lm):='0'
abbrev Ln:Stmt:=top 91
def io:FnScope ϒ ϒ (AN Ln):='0'
abbrev O7:Stmt:=top 92
def Je:FnScope ["_law_room","_law_rows","_law_part_here","_law_counts","_law_row_here","_law_count_here","_law_here"] ϡ (AN O7):='0'
abbrev O8:Stmt:=top 93
def O9:FnScope ["_law_bag_here","_law_book","_law_menu"] ["_law_bag_here","_law_book"] (AN O8):='0'
abbrev PB:Stmt:=top 94
def EU:FnScope ["_law_bag_here","_law_names_here","_law_book","_law_room","_law_rows","_law_name","_law_other","_law_late","_law_way"] ϐ (AN PB):='0'
abbrev PD:Stmt:=top 95
def Lo:FnScope ["_law_bag_here","_law_room","_law_rows","_law_row_here","_law_way"] ϥ (AN PD):='0'
abbrev PF:Stmt:=top 96
def Vb:FnScope ["_law_bag_here","_law_rows","_law_way"] ["_law_bag_here","_law_rows"] (AN PF):='0'
abbrev PH:Stmt:=top 97
def E1:FnScope ["_law_bag_here","_law_names_here","_law_book","_law_way","_law_row_here","_law_name","_law_room","_law_rows","_law_some","_law_at"] ϐ (AN PH):='0'
abbrev PJ:Stmt:=top 98
def Vc:FnScope ["_law_house","_law_deed_here","_law_word_here","_law_found","e"] Ϸ (AN PJ):='0'
abbrev Jf:Stmt:=top 99
def ip:FnScope ϋ ϋ (AN Jf):='0'
abbrev Lq:Stmt:=top 100
def iq:FnScope Ϗ Ϗ (AN Lq):='0'
abbrev PL:Stmt:=top 101
def iu:FnScope ό ό (AN PL):='0'
abbrev PM:Stmt:=top 102
def Vd:FnScope ["_law_rows","_law_row_here","_law_count_here","_law_counts"] ό (AN PM):='0'
abbrev PN:Stmt:=top 103
def Ve:FnScope ["_law_names_here","_law_book","_law_deed_here","_law_word_here","_law_sign","_law_name","_law_room","_law_rows","_law_here","_law_at"] ϋ (AN PN):='0'
abbrev Lr:Stmt:=top 104
def PP:FnScope ϙ ϋ (AN Lr):='0'
abbrev PQ:Stmt:=top 105
def Vf:FnScope ["_law_house","_law_word_here","_law_found"] ϴ (AN PQ):='0'
abbrev Ls:Stmt:=top 106
def Vg:FnScope ["_law_house","_law_rooms"] ["_law_house"] (AN Ls):='0'
abbrev Gv:Stmt:=top 107
def PR:FnScope ["_law_script","_law_bag_here","_law_names_here","_law_house","_law_book","_law_k","_law_deed_here","_law_other"] ϣ (AN Gv):='0'
abbrev PU:Stmt:=EI (top 78) 0
def iw:FnScope Ϲ Ϲ (AN PU):='0'
abbrev PV:Stmt:=EI (top 78) 1
def Vh:FnScope ["self","deed","kept","work","changed"] ["self","deed"] (AN PV):='0'
abbrev PX:Stmt:=EI (top 78) 2
def Vi:FnScope ["self","deed","ahead"] ϖ (AN PX):='0'
abbrev PY:Stmt:=EI (top 78) 3
def ix:FnScope ["self","deed","behind"] ϖ (AN PY):='0'
abbrev Lu:Stmt:=EI (top 78) 4
def iy:FnScope ϖ ϖ (AN Lu):='0'
abbrev PZ:Stmt:=EI (top 78) 5
def iz:FnScope ϖ ϖ (AN PZ):='0'
abbrev Pa:Stmt:=EI (top 78) 6
def i3:FnScope ϖ ϖ (AN Pa):='0'
abbrev Pb:Stmt:=EI (top 78) 7
def i4:FnScope ϟ ϟ (AN Pb):='0'
abbrev Pc:Stmt:=EI (top 78) 8
def i5:FnScope ϟ ϟ (AN Pc):='0'
abbrev Pd:Stmt:=EI (top 78) 9
def i6:FnScope ϖ ϖ (AN Pd):='0'
abbrev Lv:Stmt:=EI (top 11) 0
def i7:FnScope ["self","row"] ["self","row"] (AN Lv):='0'
section
variable{b:Addr}
structure StepD(b a D:Addr)(H H':Hp):Prop where
 bag:Bag H' b a
 same:∀p o,p≠b->p≠D->H p\o->H' p\o
 nb:D≠b
 na:D≠a
def StepD.new(h:Bag H b a)(n:H D=none):StepD b a D H (AA H D o):={h.new n,λp u _ _ e=>by rw[AE (Ak e n)];show e,h.nb n,h.na n}
def StepD.step(s:StepD b a D H H1)(t:Step b a H1 H2):StepD b a D H H2:={t.bag,λp u c d e=>t.same p u c (s.same p u c d e),s.nb,s.na}
def StepD.put(s:StepD b a D H H1):StepD b a D H (AA H1 D o):={s.bag.put s.nb s.na,λp u d c e=>by rw[AE c];show s.same p u d c e,s.nb,s.na}
def StepD.out(s:StepD b a D H H1)(n:H D=none):Step b a H H1:={s.bag,λp u c e=>s.same p u c (Ak e n) e}
end
def Vj(K:Fg):Sp:=(λvs H Q _=>∃(a:Addr)(ns:By),vs=[.ref a]/\BA K H a (ns.map V.int)/\∀(b a':Addr)(H':Hp),H b=none->H a'=none->Bag H' b a'->DI H H'->Q (.ref b) H')
def Lw:Sp:=(λvs H Q _=>∃(b a:Addr)(m:Int),vs=[.ref b,.int m]/\Bag H b a/\0<m/\m<2^64/\∀(r:Int)(H':Hp),0<=r->r<m->Step b a H H'->Q (.int r) H')
def Vk(x:Str):Prop:=(∀c∈x.cps.toList,97<=c/\c<=122)
def Vl:Sp:=(λvs H Q _=>∃(b a:Addr)(n:Int),vs=[.ref b,.int n]/\Bag H b a/\0<=n/\n<=1000/\∀(x:Str)(H':Hp),(x.length:Int)=n->Vk x->Step b a H H'->Q (.str x) H')
section
variable{P:Program}{K:Fg}
structure TxtB(mg:Str->Do):Prop where
 b_len:mg "len"=none
 b_list:mg "list"=none
 b_range:mg "range"=none
 b_isinstance:mg "isinstance"=none
 b_bool:mg "bool"=none
 b_int:mg "int"=none
 b_tuple:mg "tuple"=none
 b_all:mg "all"=none
 b_any:mg "any"=none
 b_sorted:mg "sorted"=none
 b_set:mg "set"=none
 b_sum:mg "sum"=none
 b_dict:mg "dict"=none
 b_zip:mg "zip"=none
 b_min:mg "min"=none
 b_max:mg "max"=none
def Vm(ns:By):D1 (ns.map V.int) none (some 63)=(ns.take 63).map V.int:=by unfold D1;simp[HT.dA]
def i8(D:As K mg "_law_bag" O1)(T:TxtB mg):Fn P w K mg base "_law_bag" 1 ϣ (Vj K):=by
 show DW D Lg (λ_ _ _ _ _ _ us L=>CY L dF) (λvs H Q E h=>?_) (λf M A outer s H vs Q E N h=>?_)
 .let[a,ns,0,_]:=h;rfl
 .let[a,ns,0,r,k]:=h;show{_,(AY (Aw (i:=1) Lg.nd rfl (Or.inl rfl) (Fd KF (by rfl) T.b_len nofun (AG (Em J0 (pv 0) Ek (El Ar)) AS)))
 (AY (Dz PassesOwn.never rfl (HA (Em J0 (pv 0) Ek (El Ar))) (Ae (i:=2) Lg.nd rfl (Or.inl rfl))
 (Ad (Aw (i:=1) Lg.nd rfl (Or.inl rfl) (B4 Ej (B4 C4 (B4 Ei (pv 1) Ar) (pv 2)) Ar))))
 (Ad (Ay (DG (AG (E8 IX (by rfl) T.b_list nofun (AG (Em J0 (pv 0) Ek (El Ar)) AS)) (AG Ar (AG Ar (AG (pv 1) AS))))))))),?_}
  show{_,0,63,0,a,ns.map V.int,0,r,λp J=>?_};let B:DI H (AA H p (.lst (D1 (ns.map V.int) none (some 63)))):=λb o e=>by rw[AE (Ak e J)];show e
  show#[p,_,0,AJ,?_];show{_,0,63,0,a,ns.map V.int,0,B.seq r,λp2 q=>?_};rw[Vm]at*;let I:DI H (AA (AA H p (.lst ((ns.take 63).map V.int))) p2 (.lst ((ns.take 63).map V.int))):=B.trans λb o e=>by rw[AE (Ak e q)];show e
  show{p2,0,{_,.of AJ},MQ (λi Y H2=>∃(z:Int)(v:Option V),Y=[some (.ref a),some (.int z),v]/\DI H H2/\H2 p2\(.lst ((ns.take 63).map V.int))) #[_,_,0,I,AJ] (λi Y H2 _ zz=>(by let[_,_,_,_,e]:=zz;show .of e)) ?_ ?_}
  .rintro i y Y H2 hi iq;done<;>(let[z,v,0,d,C]:=iq;obtain⟨n,O,rfl⟩:∃n,(ns.take 63)[i]?\n/\y=V.int n:=by rw[bO]at hi;cases e:(ns.take 63)[i]? with|none=>rw[e]at hi;cases hi|some n=>rw[e]at hi;show{n,0,(oI hi).symm})
   show{_,0,_,_,0,0,.inr #['3','3'],_,0,_,_,0,0,_,_,0,0,'3',_,_,0,d,C}
  .rintro Y H2 iq;done<;>let[z,v,0,d,C]:=iq;show{_,0,63,0,a,ns.map V.int,0,d.seq r,λl m=>?_};show#[l,_,0,.inl AJ,λg j=>{_,0,(by change 4<=sizeLine;decide),λb hb=>?_}];rw[Vm]at*;let x:DI H2 (AA H2 l (.lst ((ns.take 63).map V.int))):=λb o e=>by rw[AE (Ak e m)];show e
   let u:=x.trans (λb o e=>by rw[AE (Ak e j)];show e:DI _ (AA (AA H2 l (.lst ((ns.take 63).map V.int))) g (.lst ((ns.take 63).map V.int))));let G:DI _ (AA (AA (AA H2 l (.lst ((ns.take 63).map V.int))) g (.lst ((ns.take 63).map V.int))) b (.lst [.ref g,.int 0,.int 0,.int z])):=λc o e=>by rw[AE (Ak e hb)];show e
   let np:=Ak AJ hb;show k b g _ ((d.trans u).free hb) ((d.trans x).free j) {ns.take 63,(0),(0),z,AJ,?_,Int.le_refl _,np} ((d.trans u).trans G);rw[AE np,AJ]
def Lx(b a:Addr)(m z:Int)(D:Ends)(H:Hp):Prop:=(∀r i c,0<=i->D.rt (.int (r%m)) (AA H b (FE a i c z)))
abbrev Jg(b:Addr)(m:Int)(x y w:Option V):List (Option V):=[some (.ref b),some (.int m),x,y,w]
def Vn(b a:Addr)(m z:Int):TS:=(λD Y H=>∃i c x y w,Y=Jg b m x y w/\0<=i/\H b\(FE a i c z)/\Lx b a m z D H)
inductive jA(b a:Addr)(m z:Int)(ns:By)(D:Ends)(Y:L2.St)(H:Hp):Prop|mk(i c s y w:_)(_:Y=Jg b m (some (.int s)) y w)(_:0<=i)(_:H b\(FE a i c z))(_:H a\(.lst (ns.map V.int)))(_:Lx b a m z D H)(_:∀c,D.nx (Jg b m (some (.int s)) y w) (AA H b (FE a i c z)))
def jB(b a:Addr)(m z:Int):TS:=(λD Y H=>∃i c s y w,Y=Jg b m (some (.int s)) y w/\0<=i/\H b\(FE a i c z)/\Lx b a m z D H)
def jD(D:As K mg "_law_pull" O2)(T:TxtB mg):Fn P w K mg base "_law_pull" 1 ϊ Lw:=by
 show DW D IE (λ_ _ _ _ _ _ us hl=>Bz hl dG) (λvs H Q E h=>?_) (λf a0 A outer s H vs Q E hr h=>?_)
 .let[b,a,m,0,_]:=h;rfl
 .done<;>let[b,a,m,0,[ns,i,c,z,hb,ρ,hi,G],C,L,k]:=h;let u:∀o,AA H b o a\(HO.lst (map V.int ns)):=λo=>by rw[AE G];show ρ
  let I:∀r q j,0<=q->Q (V.int (r%m)) (AA H b (FE a q j z)):=λr q j M=>k _ _ (Int.emod_nonneg _ (Int.ne_of_gt C)) (Int.emod_lt_of_pos _ C) #[{ns,q,j,z,AJ,u _,M,G},λp o hp e=>by rw[AE hp];show e]
  show{_,(AY (BH (C5 Dp (Br C9 (pv 0) Ar dG) Ar (Ah _))
 (AY (Xc (pv 0) Ar ZY Ar Xe HH)
 (AY (Aw (i:=2) IE.nd rfl (Or.inl rfl) (Br C9 (pv 0) Ar dG))
 (AY (BH (C5 Dp (Br C9 (pv 0) Ar dG) (Fd KF (by rfl) T.b_len nofun (AG (Br C9 (pv 0) Ar dG) AS)) (Ah _))
 (Ad (Aw (i:=2) IE.nd rfl (Or.inl rfl) (Br C9 (Br C9 (pv 0) Ar dG) (B4 IR (Br C9 (pv 0) Ar dG) Ar) dG)))
 BQ)
 (BS.weak (m:=(jA b a m z ns)) (AY (BH (PW.pt (MM (C5 Fc (Br C9 (pv 0) Ar dG) (Fd KF (by rfl) T.b_len nofun (AG (Br C9 (pv 0) Ar dG) AS)) (Ah _)) (ML (C5 E5 (pv 2) (B4 GG Ar Ar) (Ah _)))))
 (BS.weak (m:=(jB b a m z)) (AY (Aw (i:=3) IE.nd rfl (Or.inl rfl) (B4 Ej (B4 C4 (B4 C4 (B4 Ei (pv 2) Ar) (B4 Ei (Br C9 (pv 0) Ar dG) Ar)) Ar) Ar))
 (AY (Aw (i:=3) IE.nd rfl (Or.inl rfl) (B4 Ej (B4 Ei (pv 3) (pv 3)) Ar))
 (Ad (Ay (B4 Ej (B4 Rl (B4 Ej (B4 Ei (B4 C4 (pv 3) (Br C9 (pv 0) Ar dG)) Ar) Ar) Ar) (pv 1)))))) ?g)
 BQ)
 (Ad (Cq (pv 2) (IN (pv 0) Ar HH)))) ?l))))
 BQ)
 (BS.weak (m:=(Vn b a m z)) (AY (Aw (i:=4) IE.nd rfl (Or.inl rfl) (B4 Ej (Br C9 (pv 0) Ar dG) (pv 1)))
 (AY (Cq (B4 Rl (Br C9 (pv 0) Ar dG) (pv 1)) (IN (pv 0) Ar HH))
 (Ad (Ay (pv 4))))) ?G4)),?B}
  case G4=>rintro D Y H⟨i,c,x,y,w,rfl,hi,hb,d⟩;show#[_,0,b,2,_,0,0,hb,_,0,_,0,_,_,0,0,C,?_];show{_,0,b,2,_,0,0,hb,_,0,_,0,_,_,0,0,#[C,L],?_};show{_,0,b,_,2,2,0,0,hb,0,_,0,d c i (c/m) hi}
  case l=>
   rintro D Y H⟨i,c,s,y,w,rfl,hi,hb,ρ,d,n⟩;show{_,0,b,1,_,0,0,hb,_,0,_,0,b,(0),_,0,0,hb,_,0,_,_,0,ρ,_,_,0,0,_,0,Aa (λ_=>?_) λ_=>?_}
   .show#[i,c,s,y,w,0,hi,hb,d]
   .show{_,0,_,_,0,0,#['3','3','3'],_,_,0,0,_,0,Aa (λ_=>?_) λ_=>?_}
    .show#[i,c,s,y,w,0,hi,hb,d]
    .show{_,0,_,0,b,_,2,2,0,0,hb,0,n s}
  case g=>
   rintro D Y H⟨i,c,s,y,w,rfl,hi,hb,d⟩;let J:∀{x y:Int},y<2^64->0<=y->Fb x y:=λh0 h1=>.inr {⋯,h0};let p1:(0:Int)<2147483647:=by decide
   let p2:(0:Int)<2147483629:=by decide
   let p3:(0:Int)<998244353:=by decide
   let p4:(0:Int)<13:=by decide
   let p5:(13:Int)<2^64:=by decide
   show{_,0,_,_,0,0,J '3' '3',?_};show{_,0,b,1,_,0,0,hb,_,0,_,_,0,0,J '3' '3',_,_,0,0,_,_,0,0,_,_,0,0,p1,?_};let r0:=Int.emod_nonneg (s*48271+i*16807+11) (b:=2147483647) '3';let r1:=Int.emod_lt_of_pos (s*48271+i*16807+11) (b:=2147483647) '3';show{_,0,_,0,_,_,0,0,J (by change _%_<_;lia) r0,_,_,0,0,p2,?_};show{_,0,_,0,b,1,_,0,0,hb,_,0,_,_,0,0,_,_,0,0,J '3' '3',_,_,0,0,p3,_,_,0,0,#[p4,p5],_,0,_,_,0,0,C,?_};let e:AA H b (FE a i c z)=H:=funext λp=>by
    by_cases h:p=b
    .rw[h,AJ,hb]
    .rw[AE h]
   let d2:∀r,D.rt (.int (r%m)) H:=λr=>by let:=d r i c hi;rw[e]at this;show this
   show d2 _
  case B=>
   show{_,0,b,2,_,0,0,hb,_,0,_,_,0,0,_,0,Aa (λ_=>?_) λ_=>?_}
   .show#[_,0,b,1,_,0,0,hb,_,0,_,_,0,0,b,_,1,1,0,0,hb,0,?_];let h1:0<=i+1:=⋯;let dd:∀o,Lx b a m z {nx:=λx H'=>Q V.non H',rt:=Q} (AA H b o):=λo r q j h=>by rw[IK];show I r q j h
    let σ:∀o i,0<=i->∀x y w j,Vn b a m z {nx:=λx H'=>Q V.non H',rt:=Q} (Jg b m x y w) (AA (AA H b o) b (FE a i j z)):=λo i h x y w j=>{i,j,x,y,w,0,h,AJ,by rw[IK];show dd _};show#[_,0,b,3,_,0,0,AJ,_,0,?_];show{_,0,b,1,_,0,0,AJ,_,0,_,0,b,(0),_,0,0,AJ,_,0,_,_,0,u _,_,_,0,0,_,0,Aa (λN=>?_) λ_=>?_}
    .let N:i+1<=((ns.map V.int).length:Int):=aL N;rw[aA]at N;obtain⟨v,hv⟩:∃v,ns[i.toNat]?\v:={_,aH ⋯};let O:atI (ns.map V.int) (i+1-1)\(V.int v):=by rw[show i+1-1=((i.toNat:Nat):Int)by lia];show CG (by rw[bO,hv];rfl)
     show{_,0,b,(0),_,0,0,AJ,_,0,_,0,b,1,_,0,0,AJ,_,0,_,_,0,0,a,_,_,0,0,u _,_,O,?_};show{i+1,c,v,_,_,0,h1,AJ,u _,dd _,λj=>σ _ _ h1 _ _ _ j}
    .show{i+1,c,z,_,_,0,h1,AJ,u _,dd _,λj=>σ _ _ h1 _ _ _ j}
   .show#[i,c,_,_,_,0,hi,hb,I]
def jE{i}(a:0<=i)(h1:i<26):∃c,atI (Str.ofString "abcdefghijklmnopqrstuvwxyz").cps.toList i\c/\97<=c/\c<=122:=by
 let[n,0]:=Int.eq_ofNat_of_zero_le a;let h:n<26:=⋯;let e:(Str.ofString "abcdefghijklmnopqrstuvwxyz").cps.toList=[97,98,99,100,101,102,103,104,105,106,107,108,109,110,111,112,113,114,115,116,117,118,119,120,121,122]:=rfl
 let q:∀m:_root_.Fin 26,[97,98,99,100,101,102,103,104,105,106,107,108,109,110,111,112,113,114,115,116,117,118,119,120,121,122][m.val]?\(97+m.val):=by decide+kernel
 show{97+n,CG (q #[n,h]),⋯,⋯}
theorem Vo:∀cs:FG,(cs.map ((λx=>x.cps.toList)∘λc=>({[c].toArray}:Str))).flatten=cs|[]=>rfl|x::r=>by simp[Vo r]
def jF(D:As K mg "_law_word" Lh)(T:TxtB mg)(I:Fn P w K mg base "_law_pull" 1 ϊ Lw):Fn P w K mg base "_law_word" 2 Ϻ Vl:=by
 show DW D Va (λ_ _ _ _ _ _ us o=>Bz o dG) (λvs H Q E h=>?_) (λf a0 A outer s H vs Q E L h=>?_)
 .let[b,a,m,0,_]:=h;rfl
 .done<;>let[b,a,n,0,hb,O,M,k]:=h;show{_,(AY (Aw (i:=2) Va.nd rfl (Or.inr rfl) A0)
 (Ad (Ay (GK PySem.F.plainAttrs_str PySem.F.slot_str_join PySem.F.type_str_join ZX A0 (AG (IW (N:=["_law_bag_here","_law_size","_law_letters"]) (sc:=AN Lh) (qD:=[none,some 2,some 0]) '1' rfl (Fa (by rfl) T.b_range (AG (pv 1) AS)) (KB rfl) (λp=>(Ae (i:=0) (show List.Nodup (["_law_k","_law_letters","_law_bag_here"]:At)from nofun) rfl (Or.inl rfl))) (λp=>HJ) (λp=>(Br Mc (pv 1) (Bv I (L.mq) (by rfl) (AG (pv 2) (AG Ar AS))) dG))) AS))))),?_}
  show{0,_,0,n,0,⋯,⋯,?_};show ZS (Pv:=λD i ys H2=>∃cs:FG,ys=cs.map (λc=>V.str {[c].toArray})/\cs.length=i/\(∀c∈cs,97<=c/\c<=122)/\H2 D\(.lst ys)/\StepD b a D H H2)
   (λD u=>{[],0,0,'2',AJ,StepD.new hb u}) (λD i ys H2 _ _ zz=>(by let[cs,_,_,_,e,_]:=zz;show e)) ?_ ?_
  .rintro D u i ys H2 hi iq;done<;>let[cs,0,o,C,g,st]:=iq;show{_,0,_,0,b,a,26,0,st.bag,'3','3',λr H3 σ h1 j=>?_};done<;>let[c,B,y,v]:=jE σ h1;show#[_,r,c,0,0,nofun,B,?_];let G:D≠b:=hb.nb u;show{j.same D _ G g,?_,cs++[c],'2',by simp[o],?_,AJ,(st.step j).put}
   .rw[aA,o];show D3 ⋯
   .intro d ρ;let z||z:=bA.mp ρ
    .show C d z
    .rw[bI.mp z];show#[y,v]
  .rintro D ys H2 u iq;done<;>let[cs,0,o,C,g,st]:=iq;show#[{#[]},D,cs.map (λc=>{[c].toArray}),0,0,.of (by rw[bZ];show g),?_,?_]
   .let e:∀l:FG,((l.map (λc=>({[c].toArray}:Str))).map (·.length)).sum=l.length:=λl=>by induction l with|nil=>rfl|cons x r J=>simp only[map_cons,sum_cons,J,length_cons];change 1+r.length=_;lia
    rw[e,aA];change cs.length+cs.length*0<=_;lia
   .let e:(Txt.join {#[]} (cs.map (λc=>({[c].toArray}:Str)))).cps.toList=cs:=by rw[Zb,bZ];show Vo cs
    show k _ H2 ?_ ?_ (st.out u)
    .let z:(Txt.join {#[]} (cs.map (λc=>({[c].toArray}:Str)))).cps.toList.length=cs.length:=by rw[e]
     let z2:(Txt.join {#[]} (cs.map (λc=>({[c].toArray}:Str)))).length=cs.length:=by rw[<-z];show bR.symm
     lia
    .intro c q;rw[e]at q;show C c q
end
def F1(x:Str):Prop:=(1<=x.length/\x.length<=8/\Vk x)
def Vp:Sp:=(λvs H Q _=>∃(b a:Addr)(n:Int),vs=[.ref b,.int n]/\Bag H b a/\0<=n/\n<=9/\∀(p:Addr)(xs:At)(H':Hp),H p=none->H' p\(.lst (xs.map V.str))->(xs.length:Int)=n->(∀x∈xs,F1 x)->xs.Nodup->Step b a H H'->Q (.ref p) H')
def jG(h:n<26):atI (Str.ofString "abcdefghijklmnopqrstuvwxyz").cps.toList (n:Int)\(97+n):=by
 let e:(Str.ofString "abcdefghijklmnopqrstuvwxyz").cps.toList=[97,98,99,100,101,102,103,104,105,106,107,108,109,110,111,112,113,114,115,116,117,118,119,120,121,122]:=rfl
 let q:∀m:_root_.Fin 26,[97,98,99,100,101,102,103,104,105,106,107,108,109,110,111,112,113,114,115,116,117,118,119,120,121,122][m.val]?\(97+m.val):=by decide+kernel
 show CG (q #[n,h])
def E2(pre:FG)(j:Nat):Str:=({(pre++[97+j]).toArray})
def jH(h:E2 pre i=E2 pre j):i=j:=by
 let e:pre++[97+i]=pre++[97+j]:=by let:=aT (λz=>z.cps.toList) h;assumption
 simp_all
def jI{xs:At}(f:xs.length<26)(h:∀j,j<26->E2 pre j∈xs):False:=by
 let a:((List.range 26).map (E2 pre)).Nodup:=by show List.Pairwise.map _ (λi j ne e=>ne (jH e)) nodup_range
 let sub:(List.range 26).map _ ⊆ xs:=λx c=>by let[j,d,0]:=bU.mp c;show h j (bH.mp d)
 let:=a.length_le_of_subset sub;simp at this;lia
section
variable{P:Program}{K:Fg}
def jJ:∀{r},0<=r->r<4->∃k,atI [V.int 0,V.int 0,V.int 3,V.int 7] r\(V.int k)/\0<=k/\k<=7:=by
 intro r a h1;let[n,0]:=Int.eq_ofNat_of_zero_le a;let h:n=0\/n=1\/n=2\/n=3:=⋯;rcases h with rfl|rfl|rfl|rfl
 .show#[(0),0,'3','3']
 .show#[(0),0,'3','3']
 .show#[3,0,'3','3']
 .show#[7,0,'3','3']
def Ly(p q:Str):(p++q).cps.toList=p.cps.toList++q.cps.toList:=Array.toList_append
def Jh(p q:Str):(p++q).length=p.length+q.length:=Array.size_append
def jK(D:As K mg "_law_names" O3)(T:TxtB mg)(qM:Fn P w K mg base "_law_pull" 1 ϊ Lw)(qN:Fn P w K mg base "_law_word" 2 Ϻ Vl):Fn P w K mg base "_law_names" 3 ϊ Vp:=by
 show DW D F0 (λ_ _ _ _ _ _ us hl=>Bz hl dG) (λvs H Q E h=>?_) (λf ab A outer s H vs Q E hr h=>?_)
 .let[b,a,m,0,_]:=h;rfl
 .done<;>let[b,a,n,0,hb,aa,a9,k]:=h;show{_,(AY (Aw (i:=2) F0.nd rfl (Or.inl rfl) A0)
 (AY (Aw (i:=3) F0.nd rfl (Or.inl rfl) (DG AS))
 (AY (Aw (i:=4) F0.nd rfl (Or.inl rfl) (Bv qN (hr.mq) (by rfl) (AG (pv 0) (AG (Br C9 (DG (AG Ar (AG Ar (AG Ar (AG Ar AS))))) (Bv qM (hr.mq) (by rfl) (AG (pv 0) (AG Ar AS))) dG) AS))))
 (AY (Dz PassesOwn.never rfl (Fa (by rfl) T.b_range (AG (pv 1) AS)) (Ae (i:=5) F0.nd rfl (Or.inl rfl))
 (AY (Aw (i:=6) F0.nd rfl (Or.inl rfl) (B4 Qp (pv 4) (Bv qN (hr.mq) (by rfl) (AG (pv 0) (AG (B4 C4 Ar (Bv qM (hr.mq) (by rfl) (AG (pv 0) (AG (B4 IR Ar (Fd RI (by rfl) T.b_len nofun (AG (pv 4) AS))) AS)))) AS)))))
 (AY (Dz PassesOwn.never rfl (Fa (by rfl) T.b_range (AG Ar AS)) (Ae (i:=7) F0.nd rfl (Or.inl rfl))
 (Ad (BH (C5 Zg (pv 6) (pv 3) (by rfl))
 (Ad (Aw (i:=6) F0.nd rfl (Or.inl rfl) (B4 Qp (Em Rk (pv 6) Ek (El (Qg Qi Ar))) (Br Mc (pv 2) (pv 7) dG))))
 BQ)))
 (Ad (Dn (GK PySem.F.plainAttrs_list PySem.F.slot_list_append PySem.F.type_list_append HI (pv 3) (AG (pv 6) AS)))))))
 (Ad (Ay (pv 3))))))),?_}
  show{cD _,λp hp=>?_};let sp:=StepD.new (o:=.lst []) hb hp;show{_,0,(by change 4<=sizeLine;decide),λq hq=>?_};let a2:p≠q:=Ak AJ hq;let sq:=sp.step (Step.new (o:=.lst [V.int 0,V.int 0,V.int 3,V.int 7]) sp.bag hq);let a0:=sp.bag.nb hq;show{_,0,b,a,4,0,sq.bag,'3','3',λr H1 r0 r1 g=>?_};let[k0,hk,k1,k2]:=jJ r0 r1;show{q,r,_,0,0,g.same q _ a0 AJ,_,hk,?_};show{b,a,k0,0,g.bag,k1,⋯,λG H2 a8 a1 L=>?_};let l:=hb.nb hp;let e2:H2 p\(.lst []):=L.same p _ l (g.same p _ l (by rw[AE a2,AJ]));let s2:StepD b a p H H2:=(sq.step g).step L;let a6:G.length<=7:=⋯;show{_,0,n,0,⋯,⋯,HD (n:=n.toNat) (λi Y O=>∃(xs:At)(v5 v6 u:Option V),Y=[some (.ref b),some (.int n),some (.str (Str.ofString "abcdefghijklmnopqrstuvwxyz")),some (.ref p),some (.str G),v5,v6,u]/\O p\(.lst (xs.map V.str))/\xs.length=i/\(∀x∈xs,F1 x)/\xs.Nodup/\StepD b a p H O) {[],_,_,_,0,e2,0,'2',nodup_nil,s2} ?_ ?_}
  .rintro i Y O hi iq;done<;>let[xs,v5,v6,u,0,e3,hl,hg,nd,ρ]:=iq;show{_,0,_,0,_,0,_,0,G,0,aY (D3 ⋯),_,_,0,0,?_};show{b,a,_,0,ρ.bag,⋯,⋯,λr2 H4 a4 a3 v=>?_};show{_,_,0,0,b,a,_,0,v.bag,⋯,⋯,λw1 H5 a7 M J=>?_};show{_,_,0,0,aY (D3 ⋯),?_};let e5:H5 p\(.lst (xs.map V.str)):=J.same p _ l (v.same p _ l e3);let s5:StepD b a p H H5:=(ρ.step v).step J;let g0:F1 (G++w1):=by
    show{by rw[Jh];lia,by rw[Jh];lia,λc N=>?_};rw[Ly]at N;let z||z:=bA.mp N
    .show a1 c z
    .show M c z
   generalize G++w1=wd at g0;show{26,0,'3','3',HD (lo:=0) (n:=26) (λs Y H6=>H6=H5/\∃(x:Str)(u:Option V),Y=[some (.ref b),some (.int n),some (.str (Str.ofString "abcdefghijklmnopqrstuvwxyz")),some (.ref p),some (.str G),some (.int (0+(i:Int))),some (.str x),u]/\F1 x/\x.cps.toList.take (x.length-1)=wd.cps.toList.take (wd.length-1)/\(x∉xs\/((0<s->x=E2 (wd.cps.toList.take (wd.length-1)) (s-1))/\∀j,j+1<s->E2 (wd.cps.toList.take (wd.length-1)) j∈xs))) #[0,wd,_,0,g0,0,.inr {λz=>bS z (aX _),λj z=>bS z (Nat.not_lt_zero _)}] ?_ ?_}
   .rintro t Y H6 ht⟨rfl,x,u,rfl,I,d,B⟩;show{_,0,_,0,x,p,xs,0,0,.inl e5,_,0,?_};show Aa (λe=>?_) (λe=>?_)
    .let e:x∈xs:=aL e;let[i1,i2]:=B.resolve_left λz=>z e;let C:0<x.length:=I.1;let a5:=I.2.1;show{_,0,1,0,-1,0,x,0,aY (D3 ⋯),?_};show{_,0,_,0,_,_,_,0,0,nofun,(by rw[Int.zero_add];show jG ht),?_};let es:(Txt.slice x none (some (-1))).cps.toList=wd.cps.toList.take (wd.length-1):=by rw[M0 C,d]
     let el:(Txt.slice x none (some (-1))).length=x.length-1:=by let z:(Txt.slice x none (some (-1))).cps.toList.length=(Txt.slice x none (some (-1))).length:=bR;let z2:x.cps.toList.length=x.length:=bR;rw[<-z,M0 C,aO];simp_all
     let σ:({[97+t].toArray}:Str).length=1:=rfl;show#[_,_,0,0,aY (D3 (by rw[el,σ];lia)),0,_,_,0,#[?_,?_,?_],?_,.inr {λ_=>?_,λj hj=>?_}]
     .rw[Jh,σ];lia
     .rw[Jh,σ,el];simp_all
     .intro c N;rw[Ly]at N;let z||z:=bA.mp N
      .rw[M0 C]at z;show I.2.2 c (mem_of_mem_take z)
      .let z:c=97+t:=by simpa using z
       lia
     .rw[Jh,σ,Ly,es];let z3:(wd.cps.toList.take (wd.length-1)).length=x.length-1:=by rw[<-es];show bR.trans el
      rw[el,take_append_of_le_length (by simp_all),take_of_length_le ⋯]
     .show PyProof.Rows.ext_toList ?_;rw[Ly,es];simp[E2]
     .by_cases z:j+1<t
      .show i2 j z
      .let z':j=t-1:=⋯;let z0:0<t:=⋯;rw[z',<-i1 z0];show e
    .let e:x∉xs:=λz=>e (aK z);show{0,x,_,0,I,d,.inl e}
   .rintro Y H6⟨rfl,x,u,rfl,I,d,B⟩;let hx:x∉xs:=by
     intro e;done<;>let[i1,i2]:=B.resolve_left λz=>z e;show jI (pre:=wd.cps.toList.take (wd.length-1)) (xs:=xs) ⋯ λj hj=>?_;by_cases z:j+1<26
     .show i2 j z
     .let z':j=25:=⋯;rw[z',<-i1 '3'];show e
    show{_,0,.inl {0,_,.of e5},_,0,p,_,_,0,0,e5,by rw[aA];show D3 ⋯,?_};show{xs++[x],_,_,_,0,?_,by simp[hl],?_,?_,s5.put}
    .rw[AJ];simp
    .intro y hy;done<;>let z||z:=bA.mp hy
     .show hg y z
     .rw[bI.mp z];show I
    .show RU nd hx
  .rintro Y O iq;done<;>let[xs,v5,v6,u,0,e3,hl,hg,nd,ρ]:=iq;show{_,0,k p xs O hp e3 ⋯ hg nd (ρ.out hp)}
end
def Dh:pF:=(λxs K=>∃m,xs=[.bag,.int m]/\0<m/\m<2^64/\∀r,0<=r->r<m->K (.int r))
def Pe:pF:=(λxs K=>∃n,xs=[.bag,.int n]/\0<=n/\n<=9/\∀ns:At,(ns.length:Int)=n->(∀x∈ns,F1 x)->ns.Nodup->K (.lst (ns.map P.str)))
section
variable{K:Fg}
def Vq{m}(r:AC b (λp=>p=b) H [.bag,.int m] vs):vs=[.ref b,.int m]:=by let[v,t,0,h1,u,a,0,h2,c]:=r;rw[h1,h2,c]
def jL(G:'E' "_law_pull" 1 ϊ Lw):'E' "_law_pull" 1 ϊ (spP Dh):=G.imp λvs H Q E h=>by let[b,a,xs,i,hb,r,[m,0,g,h1,e],f]:=h;show{b,a,m,Vq r,hb,g,h1,λr H' d c st=>f _ _ H' (e r d c) st rfl}
def jM(G:'E' "_law_names" 3 ϊ Vp):'E' "_law_names" 3 ϊ (spP Pe):=G.imp λvs H Q E h=>by let[b,a,xs,n,hb,r,[m,0,l,h1,g],j]:=h;show#[b,a,m,Vq r,hb,l,h1,λp ns H' c e f i d st=>j _ _ H' (g ns f i d) st {p,_,0,λz=>z c,e,AC.strs.mpr rfl}]
end
def Lz(K:Fg):Sp:=(λvs H Q _=>∃(a:Addr)(ns:By),vs=[.ref a]/\BA K H a (ns.map V.int)/\∀H',Q (.bl true) H')
section
variable{K:Fg}
def Vr{t:Tl}(nd:(t.map (·.1)).Nodup)(h:∀q∈t,q.1.length=n):(t.map (·.1)).length<2\/∃n,0<n/\∀r∈t.map (·.1),r.length=n:=by
 let e||e:=Nat.eq_zero_or_pos n
 .subst e;let _||[a,_||[b,t]]:=t
  .show .inl '2'
  .show .inl '2'
  .exfalso;simp_all
 .show .inr {n,e,λr c=>by let[q,d,0]:=bU.mp c;show h q d}
def Gx(a)(r):(BO (a.map (·.1)) (a.map λq=>P.int q.2) r).getD (.int 0)=.int ((Ag a r).getD 0):=by rw[K4];simp
def Gy(t:List (By×Int)):P.imms (t.map λq=>P.int q.2)=true:=by let:=Ic (t.map (·.2));simpa[Function.comp_def]using this
def Vs{n:Int}(a:0<=n):EM 0 n.toNat=(List.range n.toNat).map λ(k:Nat)=>P.int (0+k):=rfl
def jN(D:As K mg "_law_answers" Lj)(T:TxtB mg)(f:'E' "_law_pull" 1 ϊ (spP Dh)):'E' "_law_answers" 2 ώ (spP K7):=by
 show BV D ie (λ_ _ _ _ _ _ us a=>CV a '8') (λxs K h=>?_) '3' (λq m A outer s H E i=>{_,(Aj (Ax (Ck (λ_=>GP) GX (λ_=>T.b_tuple) nofun (AB (CL (N:=ώ) (sc:=AN Lj) (qD:=[none,some 0,some 2]) '1' '3' dF (Hc (λ_=>T.b_range) (AB (qv 1) AH)) (Cw (k:=0) rfl (λ_=>show List.Nodup (["_law_k","_law_bag_here","_law_base"]:At)from nofun)) Cf (Ac (λ_=>f) (λ_=>i.mq) (AB (qv 1) (AB (qv 2) AH)))) AH)))),λxs K h=>?_})
 .let[_,_,0,_]:=h;rfl
 .let[n,b,0,l,h1,p,o,h]:=h;simp! only[A7];show{⋯,⋯,by rw[Es];lia,?_};show BW.rel P.int (λ_ x=>0<=x/\x<b) (λk _ M j=>#[b,0,p,o,λr e d=>j r _ #[e,d]]) dF (λbs c=>?_);let a:=c.length;rw[bG]at a;simp! only[A7];show h bs ⋯ λx g=>(by let[_,_,z]:=c.mem x g;show z)
def jO{a b d}{r}(e:0<=r)(h1:r<4):atI [P.int a,P.int b,P.int c,P.int d] r\(.int (if r=0 then a else if r=1 then b else if r=2 then c else d)):=by let[n,0]:=Int.eq_ofNat_of_zero_le e;let h:n=0\/n=1\/n=2\/n=3:=⋯;rcases h with rfl|rfl|rfl|rfl<;>rfl
def jP(D:As K mg "_law_many" O5)(T:TxtB mg)(d:'E' "_law_pull" 1 ϊ (spP Dh)):'E' "_law_many" 2 Ϝ (spP T4):=by
 show BV D ig (λ_ _ _ _ _ _ us i=>CY i dF) (λxs K h=>?_) '3' (λm j A outer s H E e=>{_,(Aj (Ax (BE (λ_=>C4) Et AK (Ac (λ_=>d) (λ_=>e.mq) (AB (qv 0) (AB (Al 'I' An (B9 (AB AK (AB AK (AB AK (AB (BE (λ_=>GG) Hj AK AK) AH))))) (Ac (λ_=>d) (λ_=>e.mq) (AB (qv 0) (AB AK AH))) dG) AH)))))),λxs K h=>?_})
 .let[0,_]:=h;rfl
 .let[0,h]:=h;simp! only[Jv];show{'3',4,0,'3','3',λr g f=>?_};show{_,jO g f,?_};let a:(10:Int)^(12:Int).toNat=1000000000000:=by decide
  show{_,0,?_,?_,λz l c=>?_}
  .split<;>(try split)<;>(try split)<;>decide
  .split<;>(try split)<;>(try split)<;>decide
  .simp! only[A7];show h _ ⋯ ?_;lia
def Ji:pF:=(λxs K=>∃t,xs=[CS t]/\t.length<=63/\(t.map (·.1)).Nodup/\(∃n,∀q∈t,q.1.length=n)/\K (Ab (Bf t)))
def jQ(D:As K mg "_law_settled" Lk)(T:TxtB mg):'E' "_law_settled" 1 Ϥ (spP Ji):=by
 show BV D ij (λ_ _ _ _ _ _ us l=>CY l dF) (λxs K h=>?_) '3' (λB y A outer s H E d=>?_)
 .let[_,0,_]:=h;rfl
 .let i:=C8 d;show{_,(Aj (Ax (CL (N:=Ϥ) (sc:=AN Lk) (qD:=[none,some 0]) '1' '3' dF (Db dF (A6 (λ_=>(bK rfl)) eG (λ_=>T.b_sorted) nofun (AB (Ck (λ_=>(Nz rfl)) N9 (λ_=>T.b_list) nofun (AB (qv 0) AH)) AH))) (Cw (k:=0) rfl (λ_=>show List.Nodup (["_law_row_here","_law_counts"]:At)from nofun)) (Hh (Av (λ_=>(Cm d)) Cg (Kz (λ_=>i) (qv 1) (qv 0) dG) AK (Ah _))) (DK (AB (qv 0) (AB (Kz (λ_=>i) (qv 1) (qv 0) dG) AH)))))),λxs K h=>?_};let[t,0,l,u,[n,o],h]:=h;show{t.map (·.1),0,by rw[aA];lia,Vr u o,λf g m=>?_};let j:f.length=t.length:=by rw[g.length_eq,aA]
  let e:=T0 g m;show{_,0,'5',by rw[aA];lia,?_};let get:∀r∈f,BO (t.map (·.1)) (t.map λq=>P.int q.2) r\(.int ((Ag t r).getD 0)):=λr d=>by rw[K4];let p:=g.mem_iff.mp d;let[c,v]:=T3 p;rw[v];rfl
  show BW.filter (λr=>decide ((Ag t r).getD 0≠0)) (λr=>A5 (r,(Ag t r).getD 0)) (λr _ _=>'2') (λr d M a=>?_) ?_
  .show BX (CM _) {_,_,ES r,get r d,#[0,0],_,0,Aa (λz=>{_,_,ES r,get r d,0,?_}) (λz=>?_)}<;>rw[JH]at z
   .let a:=a (DJ [(AW r,.cl),(.int ((Ag t r).getD 0),Fl.bo.el)]);rw[aC (~~~z)]at a;show a
   .let a:=a .nw;rw[aB (~~~z)]at a;show a
  .rw[e];let x:((De (t.map (·.1))).filter λr=>decide ((Ag t r).getD 0≠0)).map (λr=>A5 (r,(Ag t r).getD 0))=(Bf t).map A5:=by unfold Bf;rw[bZ];rfl
   rw[x];show#[0,h]
def jR{r}(a:0<=r)(h1:r<10):∃c,atI [P.int a0,.int a1,.int a2,.int a3,.int a4,.int a5,.int a6,.int a7,.int a8,.int a9] r\(.int c)/\c∈[a0,a1,a2,a3,a4,a5,a6,a7,a8,a9]:=by let[n,0]:=Int.eq_ofNat_of_zero_le a;let h:n=0\/n=1\/n=2\/n=3\/n=4\/n=5\/n=6\/n=7\/n=8\/n=9:=⋯;rcases h with rfl|rfl|rfl|rfl|rfl|rfl|rfl|rfl|rfl|rfl<;>show#[_,0,'2']
def Vt{a b d}{r}(e:0<=r)(h1:r<4):∃k,atI [P.int a,P.int b,P.int c,P.int d] r\(.int k)/\k∈[a,b,c,d]:=by let[n,0]:=Int.eq_ofNat_of_zero_le e;let h:n=0\/n=1\/n=2\/n=3:=⋯;rcases h with rfl|rfl|rfl|rfl<;>show#[_,0,'2']
def jS:pS:=(λE U=>∃qI t bs v,U=[.sh .bag,.sh (AQ qI),.own (CS t),.sh (.int bs),v]/\qI.length<=9/\t.length<100/\0<bs/\bs<=10/\∀(r:By)(c:Int),r.length=qI.length->(∀x∈r,0<=x/\x<=9)->1<=c->c<=1000000000000->E.nx [.sh .bag,.sh (AQ qI),.own (CS (Bw t r c)),.sh (.int bs),v])
def jT:pS:=(λE U=>∃qI bs,U=[.sh .bag,.sh (AQ qI),.own (.dT [] []),.sh (.int bs),.emp]/\qI.length<=9/\0<bs/\bs<=10/\∀t v,Drawn qI.length t->E.nx [.sh .bag,.sh (AQ qI),.own (CS t),.sh (.int bs),v])
def jU(D:As K mg "_law_drawn" O6)(T:TxtB mg)(C:'E' "_law_pull" 1 ϊ (spP Dh))(L:'E' "_law_answers" 2 ώ (spP K7))(J:'E' "_law_many" 2 Ϝ (spP T4))(I:'E' "_law_settled" 1 Ϥ (spP Ji)):'E' "_law_drawn" 3 ["_law_bag_here","_law_room"] (spP T6):=by
 show BV D Ll (λ_ _ _ _ _ _ us l=>Bz l dG) (λxs K h=>?_) '3' (λfa σ A outer s H E f=>?_)
 .let[_,0,_]:=h;rfl
 .let M:=C8 f;show{_,(Ao (BN (k:=2) (λ_=>Ll.nd) Nv)
 (Ao (BN (k:=3) (λ_=>Ll.nd) (Al 'I' An (B9 (AB AK (AB AK (AB AK (AB AK AH))))) (Ac (λ_=>C) (λ_=>f.mq) (AB (qv 0) (AB AK AH))) dG))
 (Ao (QS.weak (m:=jT) (Fo '7' dF (Hc (λ_=>T.b_range) (AB (Al 'I' An (B9 (AB AK (AB AK (AB AK (AB AK (AB AK (AB AK (AB AK (AB AK (AB AK (AB AK AH))))))))))) (Ac (λ_=>C) (λ_=>f.mq) (AB (qv 0) (AB AK AH))) dG) AH)) (Ip (k:=4) (λ_=>Ll.nd))
 (BM.weak (m:=jS) (Aj (JF (k:=2) (λ_=>M) (Ac (λ_=>L) (λ_=>f.mq) (AB (qv 0) (AB (A6 (λ_=>CA) CB 'J' nofun (AB (qv 1) AH)) (AB (qv 3) AH)))) (Ac (λ_=>J) (λ_=>f.mq) (AB (qv 0) AH)))) ?j)) ?g)
 (Aj (Ax (Ac (λ_=>I) (λ_=>f.mq) (AB (qv 2) AH))))))),λxs K h=>?_}
  case j=>rintro E U⟨qI,t,bs,v,rfl,l,ht,n,G,h⟩;simp! only[A7];show{0,λc c1 c2=>?_};simp! only[A7];show{_,_,0,⋯,by rw[aA];lia,n,⋯,λr f u=>?_};simp! only[aA]at f⊢;show{⋯,?_};rw[JI];show h r c ⋯ (λx q=>by let:=u x q;lia) c1 c2
  case g=>
   rintro E U⟨qI,bs,rfl,l,n,G,h⟩;simp! only[A7];show{10,0,'3','3',λr p o=>?_};let[ct,O,y]:=jR (a0:=3) (a1:=2) (a2:=1) (a3:=0) (a4:=5) (a5:=8) (a6:=12) (a7:=4) (a8:=2) (a9:=40) p o;let c0:0<=ct/\ct<=40:=by simp at y;(omega)
   show#[_,O,?_];simp! only[A7];show{⋯,⋯,λi U=>∃t v,U=[.sh .bag,.sh (AQ qI),.own (CS t),.sh (.int bs),v]/\DrawnI qI.length i t,{[],_,0,DrawnI.nil},λi ρ' x u B=>?_,λρ' B=>?_}
   .let[t,v,0,e]:=B;let[hi,0]:=Iv u;simp! only[A7];show#[qI,t,bs,_,0,l,by let:=e.len;lia,n,G,λr c h1 h2 ρ Q=>{Bw t r c,#[_,0],e.put h1 h2 ρ Q}]
   .let[t,v,0,e]:=B;rw[Es]at e;show h t v (e.out (by simp_all))
  .let[qI,0,l,h]:=h;simp! only[A7];show{4,0,'3','3',λr p o=>?_};let[bs,hb,N]:=Vt (a:=2) (b:=2) (c:=3) (d:=10) p o;let n:0<bs/\bs<=10:=by simp at N;lia
   show#[_,hb,?_];simp! only[A7];show{qI,bs,0,l,n.1,n.2,λt v e=>?_};simp! only[A7];show{t,0,by let:=e.len;lia,e.nd,#[_,e.rows],h t e}
structure Txt(mg:Str->Do):Prop extends TxtB mg where g_HIGHEST_ANSWER:∃t,mg "HIGHEST_ANSWER"\(.int 9 t)
def jV(D:As K mg "is_row" LP)(T:Txt mg):'E' "is_row" 1 ϲ (spP K8):=by
 show BV D iN (λ_ _ _ _ _ _ us c=>Bz c dG) (λxs K h=>?_) '3' (λf e A outer s H E d=>{_,(Ao (Be (Av (λ_=>(Cm d)) Cg (A6 (λ_=>CA) CB 'J' nofun (AB (qv 1) AH)) (A6 (λ_=>CA) CB 'J' nofun (AB (qv 0) AH)) (Ah _)) (Aj (Ax KN)) Bd) (Aj (Ax (A6 (λ_=>(Eo rfl)) Eu (λ_=>T.b_all) nofun (AB (CL (N:=ϲ) (sc:=AN LP) (qD:=[none]) '1' '3' dF (FK dF (qv 1)) (Cw (k:=0) rfl (λ_=>show List.Nodup (["answer"]:At)from nofun)) Cf (NO (λ_=>Dp) EO (λ_=>Dp) EO AK (qv 0) (Ii (λ_=>T.g_HIGHEST_ANSWER)))) AH))))),λxs K h=>?_})
 .let[_,_,0,_]:=h;rfl
 .let[qI,r,0,c,h]:=h;simp! only[aA];unfold BC at h;show Aa (λz=>?_) (λz=>?_)
  .rw[cK ⋯,Bool.false_and]at h;show h
  .rw[aK ⋯,Bool.true_and]at h;show{⋯,BW.map (λx=>.bl (decide (0<=x/\x<=9))) dG (λx _ M a=>?_) ?_}
   .simp! only[A7];let a:=a .fr;show Aa (λz=>?_) (λz=>?_)
    .rw[show decide (0<=x/\x<=9)=decide (x<=9)from decide_eq_decide.mpr (by simp_all)]at a;show a
    .rw[cK ⋯]at a;show a
   .show{r.map λx=>decide (0<=x/\x<=9),by rw[bZ];rfl,?_};rw[all_map];show h
end
section
variable{K:Fg}
def Gz:pF:=(λxs K=>∃qC qI,xs=[AQ qC,AQ qI]/\qC.length<=100/\K (.bl (qC.all λn=>decide (n∈qI))))
def jW(D:As K mg "within" LQ)(T:TxtB mg):'E' "within" 1 ϰ (spP Gz):=by
 show BV D iO (λ_ _ _ _ _ _ us a=>Bz a dG) (λxs K h=>?_) '3' (λf e A outer s H E c=>{_,(Aj (Ax (A6 (λ_=>(Eo rfl)) Eu (λ_=>T.b_all) nofun (AB (CL (N:=ϰ) (sc:=AN LQ) (qD:=[none,some 1]) '1' '3' dF (FK dF (qv 0)) (Cw (k:=0) rfl (λ_=>show List.Nodup (["name","room"]:At)from nofun)) Cf (Ep (λ_=>(Ko c)) Kp (qv 0) (qv 1) (by rfl))) AH)))),λxs K h=>?_})
 .let[_,_,0,_]:=h;rfl
 .let[qC,qI,0,a,h]:=h;simp![A7];show{⋯,BW.map (λn=>.bl (decide (n∈qI))) dG (λn _ M d=>?_) ?_}
  .simp![Nn];show d _
  .show{qC.map λn=>decide (n∈qI),by rw[bZ];rfl,?_};rw[all_map];show h
def Pf:pF:=(λxs K=>∃qI r qC,xs=[AQ qI,AW r,AQ qC]/\qC.length<=100/\r.length=qI.length/\(∀n∈qC,n∈qI)/\K (AW (Az qI r qC)))
def jX(D:As K mg "_law_row_of" Ln)(T:TxtB mg):'E' "_law_row_of" 1 ϒ (spP Pf):=by
 show BV D io (λ_ _ _ _ _ _ us d=>CV d '8') (λxs K h=>?_) '3' (λl i A outer s H E j=>{_,(Aj (Ax (Ck (λ_=>GP) GX (λ_=>T.b_tuple) nofun (AB (CL (N:=ϒ) (sc:=AN Ln) (qD:=[none,some 1,some 0]) '1' '3' dF (FK dF (qv 2)) (Cw (k:=0) rfl (λ_=>show List.Nodup (["_law_name","_law_row_here","_law_room"]:At)from nofun)) Cf (Al 'I' An (qv 1) (OJ (qv 2) (qv 0)) dG)) AH)))),λxs K h=>?_})
 .let[_,_,_,0,_]:=h;rfl
 .let[qI,r,qC,0,d,f,a,h]:=h;simp![A7];show{⋯,BW.map (λn=>.int (r.getD (dN qI n) 0)) dG (λn c M g=>?_) ?_}
  .simp![A7];let hi:=LC (a n c);show{dN qI n,(Hx (a n c)).1,(Hx (a n c)).2,.int (r.getD (dN qI n) 0),CG ?_,g _};rw[bO,bW,aH (by simp_all)];rfl
  .simp![A7];let e:AW (Az qI r qC)=.tup (qC.map λn=>P.int (r.getD (dN qI n) 0)):=by change P.tup ((qC.map _).map _)=_;rw[bZ];rfl
   rw[e]at h;show h
def G0:pF:=(λxs K=>∃t,xs=[Ab t]/\t.length<=63/\(∃n,∀q∈t,q.1.length=n)/\K (Ab (CN (BF t))))
def jY:pS:=(λE U=>∃x a r c,U=[x,.own (CS a),.sh (AW r),.sh (.int c)]/\a.length<=100000/\E.nx [x,.own (CS (Bi a (r,c))),.sh (AW r),.sh (.int c)])
def jZ:pS:=(λE U=>∃t,U=[.sh (Ab t),.own (.dT [] []),.emp,.emp]/\t.length<=100000/\∀v1 v2,E.nx [.sh (Ab t),.own (CS (BF t)),v1,v2])
def ja(D:As K mg "summed" LV)(T:TxtB mg):'E' "summed" 1 ["papers"] (spP G0):=by
 show BV D LW (λ_ _ _ _ _ _ us B=>CY B dF) (λxs K h=>?_) '3' (λfa a0 A outer s H E j=>?_)
 .let[_,0,_]:=h;rfl
 .let y:=C8 j;show{_,(Ao (BN (k:=1) (λ_=>LW.nd) Nv)
 (Ao (QS.weak (m:=jZ) (Kv 0 (Fo '7' dF (Db dF (qv 0)) (Iq (ks:=[2,3]) dF dF (λ_=>(Ai (Ae LW.nd rfl (Or.inl rfl)) (Ai (Ae LW.nd rfl (Or.inl rfl)) BZ))) rfl)
 (BM.weak (m:=jY) (Aj (JF (k:=1) (λ_=>y) (qv 2) (BE (λ_=>C4) Et (GY (λ_=>y) (qv 1) (qv 2) AK) (qv 3)))) ?g))) ?f)
 (Aj (Ax (CL (N:=["papers","counts","row","count"]) (sc:=AN LV) (qD:=[none,some 1]) '1' '3' dF (Db dF (A6 (λ_=>(eg rfl)) eh (λ_=>T.b_sorted) nofun (AB (qv 1) AH))) (Cw (k:=0) rfl (λ_=>show List.Nodup (["row","counts"]:At)from nofun)) (Hh (Av (λ_=>Fc) GS (Kz (λ_=>y) (qv 1) (qv 0) dG) AK (Ah _))) (DK (AB (qv 0) (AB (Kz (λ_=>y) (qv 1) (qv 0) dG) AH)))))))),λxs K h=>?_}
  case g=>rintro E U⟨x,a,r,c,rfl,B,h⟩;show#[{0,λ_ h=>nomatch h},_,ES r,Gy _,0,?_];rw[Gx];show{trivial,_,ES r,Oc rfl,by rw[aA];lia,?_};rw[JI];show h
  case f=>
   rintro E U⟨t,rfl,B,h⟩;show{_,0,0,λi U=>∃o l,U=[.sh (Ab t),.own (CS ((t.take i).foldl Bi [])),o,l],#[_,_,0],λi ρ' x J I=>?_,λρ' I=>?_}
   .let[o,l,0]:=I;rw[bO]at J;let[q,Q,0]:=aJ.mp J;let v:=JM (t.take i) [];let σ:(t.take i).length<=t.length:=by rw[aO];lia
    show JT {_,_,q.1,q.2,0,by simp at v;lia,.sh (AW q.1),.sh (.int q.2),?_};rw[take_add_one,Q,foldl_append];rfl
   .let[o,l,0]:=I;let:=h o l;rw[take_of_length_le (by rw[aA];show aQ _)];show this
  .let[t,0,B,G,h]:=h;show{t,0,⋯,λo l=>?_};let[n,G]:=G;let v:(BF t).length<=t.length:=by let:=JM t [];simp only[length_nil,Nat.zero_add]at this;show this
   show{(BF t).map (·.1),_,0,by rw[aA];lia,Vr (JO t) (OP G),λp C O=>?_}
   .let L:p.length=(BF t).length:=by rw[C.length_eq,aA]
    let e:=T0 C O;generalize BF t=u at*;show{_,0,'5',by rw[aA];lia,?_};let get:∀r∈p,BO (u.map (·.1)) (u.map λq=>P.int q.2) r\(.int ((Ag u r).getD 0)):=λr j=>by rw[K4];let ρ:=C.mem_iff.mp j;let[c,hc]:=T3 ρ;rw[hc];rfl
    show BW.filter (λr=>decide (0<(Ag u r).getD 0)) (λr=>A5 (r,(Ag u r).getD 0)) (λr _ _=>'2') (λr j M d=>?_) ?_
    .show BX (CM _) {_,_,ES r,get r j,trivial,_,0,Aa (λz=>{_,_,ES r,get r j,0,?_}) (λz=>?_)}
     .let d:=d (DJ [(AW r,.cl),(.int ((Ag u r).getD 0),Fl.bo.el)]);rw[aC (~~~z)]at d;show d
     .let d:=d .nw;rw[aB (~~~z)]at d;show d
    .rw[e];let e2:((De (u.map (·.1))).filter λr=>decide (0<(Ag u r).getD 0)).map (λr=>A5 (r,(Ag u r).getD 0))=(CN u).map A5:=by unfold CN;rw[bZ];rfl
     rw[e2];show#[0,h]
def Vu:pF:=(λxs K=>∃qI t qC,xs=[AQ qI,Ab t,AQ qC]/\Sh qI t qC/\t.length<=63/\K (Ab (Ch qI t qC)))
inductive jb(E:PEnds)(U:dJ):Prop|mk(qI t qC a r c x:_)(_:U=[.sh (AQ qI),.sh (Ab t),.sh (AQ qC),.own (CS a),.sh (AW r),.sh (.int c),x])(_:a.length<=100000)(_:qC.length<=100)(_:r.length=qI.length)(_:(∀n∈qC,n∈qI))(_:∀y,E.nx [.sh (AQ qI),.sh (Ab t),.sh (AQ qC),.own (CS (Bi a (Az qI r qC,c))),.sh (AW r),.sh (.int c),y])
def jc:pS:=(λE U=>∃qI t qC,U=[.sh (AQ qI),.sh (Ab t),.sh (AQ qC),.own (.dT [] []),.emp,.emp,.emp]/\Sh qI t qC/\∀x y z,E.nx [.sh (AQ qI),.sh (Ab t),.sh (AQ qC),.own (CS (BF (Cc qI t qC))),x,y,z])
def jd(D:As K mg "_law_portion" O7)(T:TxtB mg)(L:'E' "_law_row_of" 1 ϒ (spP Pf))(M:'E' "_law_settled" 1 Ϥ (spP Ji)):'E' "_law_portion" 2 ϡ (spP Vu):=by
 show BV D Je (λ_ _ _ _ _ _ us J=>CV J '8') (λxs K h=>?_) '3' (λfa ρ A outer s H E n=>?_)
 .let[_,_,_,0,_]:=h;rfl
 .let G:=C8 n;show{_,(Ao (BN (k:=3) (λ_=>Je.nd) Nv)
 (Ao (QS.weak (m:=jc) (Kv 1 (Fo '7' dF (Db dF (qv 1)) (Iq (ks:=[4,5]) dF dF (λ_=>(Ai (Ae Je.nd rfl (Or.inl rfl)) (Ai (Ae Je.nd rfl (Or.inl rfl)) BZ))) rfl)
 (BM.weak (m:=jb) (Ao (BN (k:=6) (λ_=>Je.nd) (Ac (λ_=>L) (λ_=>n.mq) (AB (qv 0) (AB (qv 4) (AB (qv 2) AH)))))
 (Aj (JF (k:=3) (λ_=>G) (qv 6) (BE (λ_=>C4) Et (GY (λ_=>G) (qv 3) (qv 6) AK) (qv 5))))) ?f))) ?d)
 (Aj (Ax (Ac (λ_=>M) (λ_=>n.mq) (AB (qv 3) AH)))))),λxs K h=>?_}
  case f=>rintro E U iq;done<;>let[qI,t,qC,a,r,c,x,0,J,N,l,j,h]:=iq;show#[qI,r,qC,0,N,l,j,BX (CM _) #[{0,λ_ h=>nomatch h},_,ES _,Gy _,0,?_]];rw[Gx];show{trivial,_,ES _,Oc rfl,by rw[aA];lia,?_};rw[JI];show h _
  case d=>
   rintro E U⟨qI,t,qC,rfl,g,h⟩;show{_,0,0,λi U=>∃x y z,U=[.sh (AQ qI),.sh (Ab t),.sh (AQ qC),.own (CS ((Cc qI (t.take i) qC).foldl Bi [])),x,y,z],#[_,_,_,0],λi ρ' x C p=>?_,λρ' p=>?_}
   .let[B,v,u,0]:=p;rw[bO]at C;let[q,I,0]:=aJ.mp C;let o:=JM (Cc qI (t.take i) qC) [];let Q:(Cc qI (t.take i) qC).length<=t.length:=by unfold Cc;rw[aA,aO];lia
    let σ:=g.few;show JT #[qI,t,qC,_,q.1,q.2,_,0,by simp at o;lia,g.len,g.rows q (aM I),g.sub,λy=>{.sh (AW q.1),.sh (.int q.2),y,?_}];let e:Cc qI (t.take (i+1)) qC=Cc qI (t.take i) qC++[(Az qI q.1 qC,q.2)]:=by unfold Cc;rw[take_add_one,I,cO];rfl
    rw[e,foldl_append];rfl
   .let[B,v,u,0]:=p;let:=h B v u;rw[take_of_length_le (by rw[aA];show aQ _)];show this
  .let[qI,t,qC,0,g,O,h]:=h;show#[qI,t,qC,0,g,λx y z=>{_,0,aR (OO _) (by rw[LD];show O),JO _,{_,OP (UQ qI t qC)},Od,h}]
def Pg:pF:=(λxs K=>∃a b,xs=[Ab a,Ab b]/\a.length+b.length<=63/\(∃n,∀q∈a++b,q.1.length=n)/\K (Ab (CN (BF (a++b)))))
def je(D:As K mg "plus" Om)(T:TxtB mg)(d:'E' "summed" 1 ["papers"] (spP G0)):'E' "plus" 2 ϓ (spP Pg):=by
 show BV D iU (λ_ _ _ _ _ _ us c=>Bz c dG) (λxs K h=>?_) '3' (λi g A outer s H E e=>{_,(Aj (Ax (Ac (λ_=>d) (λ_=>e.mq) (AB (BE (λ_=>GV) GW (qv 0) (qv 1)) AH)))),λxs K h=>?_})
 .let[_,_,0,_]:=h;rfl
 .let[a,b,0,c,f,h]:=h;simp![G0];show{⋯,a++b,by rw[cO],by rw[aG];lia,f,h}
end
section
variable{K:Fg}
structure TxtF(K:Fg)(mg:Str->Do):Prop extends TxtB mg where x_TooFew:∃C,XClsV K mg "TooFew" "row" C
def EV(a:Tl)(q:By×Int):Tl:=(Bw a q.1 ((Ag a q.1).getD 0-q.2))
def Dw:Tl->Tl->By ⊕ Tl|a,[]=>.inr a|a,q::r=>if(Ag a q.1).getD 0-q.2<0 then .inl q.1 else Dw (EV a q) r
def jf(a)(q):(EV a q).length<=a.length+1:=K5 _ _ _
def jg{a}{q}(h:∀p∈a,p.1.length=n)(c:q.1.length=n):∀p∈EV a q,p.1.length=n:=K6 h c
structure LsOk(a b:Tl):Prop where
 la:a.length+b.length<=63
 nd:(a.map (·.1)).Nodup
 un:∃n,(∀q∈a,q.1.length=n)/\∀q∈b,q.1.length=n
def Ph:EB:=(λxs K Kx=>∃a b,xs=[Ab a,Ab b]/\LsOk a b/\(∀c,Dw a b=.inr c->K (Ab (CN (BF c))))/\∀r,Dw a b=.inl r->Kx (.vl "TooFew" "row" (AW r)))
def jh(EX:IC):pS:=(λE U=>∃x y cur r c v,U=[x,y,.own (CS cur),.sh (AW r),.sh (.int c),v]/\cur.length<=100000/\((Ag cur r).getD 0-c<0->E.ex (.vl "TooFew" "row" (AW r)) EX)/\(¬(Ag cur r).getD 0-c<0->E.nx [x,y,.own (CS (EV cur (r,c))),.sh (AW r),.sh (.int c),.sh (.int ((Ag cur r).getD 0-c))]))
def ji(EX:IC):pS:=(λE U=>∃x a b,U=[x,.sh (Ab b),.own (CS a),.emp,.emp,.emp]/\LsOk a b/\(∀c,Dw a b=.inr c->c.length<=63->(∃n,∀q∈c,q.1.length=n)->∀v1 v2 v3,E.nx [x,.sh (Ab b),.own (CS c),v1,v2,v3])/\∀r,Dw a b=.inl r->E.ex (.vl "TooFew" "row" (AW r)) EX)
def jj{b:Tl}{q}(h:b[i]?\q):b.drop i=q::b.drop (i+1):=by let hi:=(aI.mp h).1;rw[drop_eq_getElem_cons hi,(aI.mp h).2]
def jk(D:As K mg "less" Oo)(T:TxtF K mg)(O:'E' "summed" 1 ["papers"] (spP G0)):BG P' w K mg base "less" 3 ϓ (Ey K mg Ph):=by
 show Um D JZ (λ_ _ _ _ _ _ us u=>Bz u dG) (λxs K Kx h=>?_) '3' (λσ Q A outer s H E B=>?_)
 .let[_,_,0,_]:=h;rfl
 .let L:=C8 B;show{_,(Ao (BN (k:=2) (λ_=>JZ.nd) (Ck (λ_=>(JK rfl B)) JL (λ_=>T.b_dict) nofun (AB (qv 0) AH)))
 (Ao (QS.weak (m:=ji (Ew K mg E)) (Kv 1 (Fo (λ_=>PassesOwn.leaving) dF (Db dF (qv 1)) (Iq (ks:=[3,4]) dF dF (λ_=>(Ai (Ae JZ.nd rfl (Or.inl rfl)) (Ai (Ae JZ.nd rfl (Or.inl rfl)) BZ))) rfl)
 (BM.weak (m:=jh (Ew K mg E)) (Ao (BN (k:=5) (λ_=>JZ.nd) (BE (λ_=>IR) NY (GY (λ_=>L) (qv 2) (qv 3) AK) (qv 4)))
 (Ao (Be (Av (λ_=>E5) Fp (qv 5) AK (Ah _))
 (Aj (gC T.x_TooFew.choose_spec dF dF dF dF (λ_=>f7) (λ_=>B.mq) (qv 3)))
 Bd)
 (Aj (JF (k:=2) (λ_=>L) (qv 3) (qv 5))))) ?g))) ?f)
 (Aj (Ax (Ac (λ_=>O) (λ_=>B.mq) (AB (gQ dF dF (λ_=>T.b_list) (qv 2)) AH)))))),λxs Kn Kx h=>?_}
  case g=>rintro ρ U iq;done<;>let[x,y,d,r,c,v,0,u,h1,h2]:=iq;simp![Gy,Gx];show Aa (λz=>h1 (~~~z)) (λz=>?_);show{⋯,?_};rw[JI];show h2 (~~~z)
  case f=>
   rintro ρ U iq;done<;>(let[x,a,b,0,ok,h1,h2]:=iq;let[n,N,M]:=ok.un);simp![A7];show{λi U=>∃o l j d,U=[x,.sh (Ab b),.own (CS d),o,l,j]/\Dw a b=Dw d (b.drop i)/\d.length<=a.length+i/\∀q∈d,q.1.length=n,{_,_,_,a,0,0,⋯,N},λi ρ' z J I=>?_,λρ' I=>?_}
   .done<;>let[o,l,j,d,0,e,u,p]:=I;rw[bO]at J;let[q,G,0]:=aJ.mp J;let hi:=(aI.mp G).1;let C:=aM G;let:=ok.la;rw[jj G,Dw]at e;simp![A7];show#[_,_,d,q.1,q.2,_,0,⋯,λz=>h2 _ (by rw[e,aC z]),λz=>{_,_,_,EV d q,0,by rw[e,aB z],?_,jg p (M q C)}];let:=jf d q;lia
   .let[o,l,j,d,0,e,u,p]:=I;rw[drop_length,Dw]at e;let:=ok.la;show h1 d e ⋯ #[n,p] o l j
  .let[a,b,0,ok,h1,h2]:=h;let:=ok.la;simp![G0];show#[⋯,_,a,b,by rw[JQ ok.nd],ok,λc e u p o l j=>?_,λr e=>{h2 r e,0}];simp![G0];show{c,0,⋯,p,h1 c e}
end
section
variable{K:Fg}
def Pj{t:Tl}(h):atI (t.map A5) (n:Int)\(A5 t[n]):=CG (by rw[bO,aH h];rfl)
def Vv:pF:=(λxs K=>∃rs:List By,xs=[.lst (rs.map AW)]/\rs.length<=100000/\K (.bl (GZ rs)))
def Pk:pF:=(λxs K=>∃qI t,xs=[AQ qI,Ab t]/\t.length<=100000/\(∀q∈t,q.1.length<=1000)/\K (.bl (Dt qI.length t)))
theorem Vw:∀rs,GZ rs=((rs.zip (rs.drop 1)).map λq=>HT.lexLt q.1 q.2).all id|[]=>rfl|[_]=>rfl|a::b::r=>by let:=Vw (b::r);simp only[drop_succ_cons,drop_zero,zip_cons_cons,map_cons,all_cons,id]at this⊢;rw[GZ,this]
def G4(xs:List α):cut xs (some 1) none=xs.drop 1:=by unfold cut;cases xs with|nil=>simp|cons a r=>rw[show HT.dA (a::r).length 0 _=1 by rfl,show HT.dA (a::r).length (a::r).length none=(a::r).length by simp[HT.dA]];simp
def jl(D:As K mg "rises" ID)(T:TxtB mg):'E' "rises" 1 ϸ (spP Vv):=by
 show BV D VP (λ_ _ _ _ _ _ us a=>CY a dF) (λxs K h=>?_) '3' (λl g A outer s H E d=>{_,(Aj (Ax (A6 (λ_=>(Eo rfl)) Eu (λ_=>T.b_all) nofun (AB (CL (N:=ϸ) (sc:=AN ID) (qD:=[none,none]) '1' '3' dF (eN dF (λ_=>T.b_zip) (qv 0) (Ks dF (qv 0) (Kr AK) Kq)) (GR rfl rfl dF dF (λ_=>(Ai (Ae (i:=0) (show List.Nodup (ϳ)from nofun) rfl (Or.inl rfl)) (Ai (Ae (i:=1) (show List.Nodup (ϳ)from nofun) rfl (Or.inl rfl)) BZ)))) Cf (Ep (λ_=>(eK d)) eM (qv 0) (qv 1) (Ah _))) AH)))),λxs K h=>?_})
 .let[_,0,_]:=h;rfl
 .let[rs,0,a,h]:=h;simp! only[A7];rw[G4,<-map_drop];let e:∀xs ys:List By,zipWith DO (xs.map AW) (ys.map AW)=(xs.zip ys).map λq=>DO (AW q.1) (AW q.2):=λxs=>by induction xs with|nil=>intro ys;rfl|cons x xs c=>intro ys;cases ys with|nil=>rfl|cons y ys=>simp only[map_cons,zipWith_cons_cons,zip_cons_cons,c]
  rw[e,aA,length_zip];show{Tk _,⋯,BW.map (λq=>.bl (HT.lexLt q.1 q.2)) dG (λq _ M f=>?_) ?_}
  .simp! only[DO];show f .fr
  .show{(rs.zip (rs.drop 1)).map λq=>HT.lexLt q.1 q.2,by rw[bZ];rfl,?_};rw[<-Vw];show h
def jm(D:As K mg "is_tally" JY)(T:TxtB mg)(l:'E' "is_row" 1 ϲ (spP K8))(g:'E' "rises" 1 ϸ (spP Vv)):'E' "is_tally" 2 Ϙ (spP Pk):=by
 show BV D iT (λ_ _ _ _ _ _ us f=>Bz f dG) (λxs K h=>?_) '3' (λp o A outer s H E c=>{_,(Ao (Be (DA (Cv (A6 (λ_=>(Eo rfl)) Eu (λ_=>T.b_all) nofun (AB (CL (N:=Ϙ) (sc:=AN JY) (qD:=[none,none,some 0]) '1' '3' dF (Db dF (qv 1)) (GR rfl rfl dF dF (λ_=>(Ai (Ae (i:=0) (show List.Nodup (["row","count","room"]:At)from nofun) rfl (Or.inl rfl)) (Ai (Ae (i:=1) (show List.Nodup (["row","count","room"]:At)from nofun) rfl (Or.inl rfl)) BZ)))) Cf (SJ (Ac (λ_=>l) (λ_=>c.mq) (AB (qv 2) (AB (qv 0) AH))) (SH (Ep (λ_=>Qo) cJ (qv 1) AK (Ah _))))) AH)))) (Aj (Ax KN)) Bd) (Aj (Ax (Ac (λ_=>g) (λ_=>c.mq) (AB (CL (N:=Ϙ) (sc:=AN JY) (qD:=[none,none]) '1' '3' dF (Db dF (qv 1)) (GR rfl rfl dF dF (λ_=>(Ai (Ae (i:=0) (show List.Nodup (Ϯ)from nofun) rfl (Or.inl rfl)) (Ai (Ae (i:=1) (show List.Nodup (Ϯ)from nofun) rfl (Or.inl rfl)) BZ)))) Cf (qv 0)) AH))))),λxs K h=>?_})
 .let[_,_,0,_]:=h;rfl
 .let[qI,t,0,f,m,h]:=h;simp! only[aA];show{⋯,BW.map (λq=>.bl (BC qI.length q.1&&decide (1<=q.2))) dG (λq d M a=>?_) ?_}
  .simp! only[A7];show{qI,q.1,0,m q d,?_};let a:=a .fr;cases e:BC qI.length q.1
   .rw[e,Bool.false_and]at a;simp! only[A7];show a
   .rw[e,Bool.true_and]at a;simp! only[A7];show a
  .show{t.map λq=>BC qI.length q.1&&decide (1<=q.2),by rw[bZ];rfl,?_};unfold Dt at h;rw[all_map];let n:t.all (id∘λq=>BC qI.length q.1&&decide (1<=q.2))=t.all λq=>BC qI.length q.1&&decide (1<=q.2):=rfl;rw[n];cases e:t.all λq=>BC qI.length q.1&&decide (1<=q.2)
   .rw[e,Bool.false_and]at h;simp only[dD];show h
   .rw[e,Bool.true_and]at h;simp only[Bool.true_eq_false,if_false];show{⋯,BW.map (λq=>AW q.1) (λ_ _=>CM _) (λq d M a=>?_) ?_}
    .simp! only[A7];show a _
    .show{t.map (·.1),by rw[bZ];rfl,by rw[aA];lia,h}
structure TxtN(mg:Str->Do):Prop extends Txt mg where
 b_str:mg "str"=none
 g_MOST_LETTERS:∃t,mg "MOST_LETTERS"\(.int 8 t)g_MOST_QUESTIONS:∃t,mg "MOST_QUESTIONS"\(.int 6 t)
def Pl(a b):(!decide (({[b].toArray}:Str).cps.toList<({[a].toArray}:Str).cps.toList))=decide (a<=b):=by
 by_cases h:a<=b
 .rw[aK h,cK λz=>?_];rfl;let z||[_,z]:=cons_lt_cons_iff.mp z
  .lia
  simp_all
 .rw[cK h,aK (cons_lt_cons_iff.mpr (.inl ⋯))];rfl
def L4:pF:=(λxs K=>∃x:Str,xs=[.str x]/\x.length<=1000000/\K (.bl (Dg x)))
def jn(D:As K mg "is_name" LN)(T:TxtN mg):'E' "is_name" 1 ["text"] (spP L4):=by
 show BV D iL (λ_ _ _ _ _ _ us e=>CY e dF) (λxs K h=>?_) '3' (λj f A outer s H E g=>{_,(Ao (Be (DA (NP (λ_=>Dp) EO (λ_=>Dp) EO AK (A6 (λ_=>CA) CB 'J' nofun (AB (qv 0) AH)) (Ii (λ_=>T.g_MOST_LETTERS)))) (Aj (Ax KN)) Bd) (Aj (Ax (A6 (λ_=>(Eo rfl)) Eu (λ_=>T.b_all) nofun (AB (CL (N:=["text"]) (sc:=AN LN) (qD:=[none]) '1' '3' dF (dh (qv 0)) (Cw (k:=0) rfl (λ_=>show List.Nodup (["sign"]:At)from nofun)) Cf (NO (λ_=>Rh) Si (λ_=>Rh) Si A2 (qv 0) A2)) AH))))),λxs K h=>?_})
 .let[_,0,_]:=h;rfl
 .let[x,0,e,h]:=h;unfold Dg at h;show{⋯,trivial,_,0,Aa (λh1=>{trivial,_,0,Aa (λa=>?_) (λa=>?_)}) (λh1=>#[_,0,?_])}
  .rw[cK (p:=x.length<=8) (by lia),Bool.and_false,Bool.false_and]at h;show{Cd rfl,h}
  .rw[aK (by lia),aK (by lia),Bool.and_true,Bool.true_and]at h;show#[x,0,nofun,by rw[aA,bR];change x.length<=_;lia,BW.map (λc=>P.bl (decide (97<=c)&&decide (c<=122))) dG (λc i M d=>?_) {(sg x).map λc=>decide (97<=c)&&decide (c<=122),by rw[bZ];rfl,Cd rfl,?_}]
   .let d:=d .fr;show{trivial,_,0,Aa (λz=>?_) (λz=>?_)}
    .rw[(Pl 97 c).symm.trans z,Bool.true_and,<-Pl]at d;show#[trivial,d]
    .rw[Bool.eq_false_iff.mpr λy=>z ((Pl 97 c).trans y),Bool.false_and]at d;show d
   .rw[all_map];show h
  .rw[cK (λz=>h1 (aK ⋯)),Bool.false_and,Bool.false_and]at h;show{Cd rfl,h}
def Vx:pF:=(λxs K=>∃ns:At,xs=[AQ ns]/\ns.length<=100/\K (.bl ((ns.zip (ns.drop 1)).all λq=>LK q.1 q.2)))
def jo(D:As K mg "rises" ID)(T:TxtB mg):'E' "rises" 1 ϸ (spP Vx):=by
 show BV D VP (λ_ _ _ _ _ _ us a=>CY a dF) (λxs K h=>?_) '3' (λm f A outer s H E g=>{_,(Aj (Ax (A6 (λ_=>(Eo rfl)) Eu (λ_=>T.b_all) nofun (AB (CL (N:=ϸ) (sc:=AN ID) (qD:=[none,none]) '1' '3' dF (gc dF (λ_=>T.b_zip) (qv 0) (Ks dF (qv 0) (Kr AK) Kq)) (GR rfl rfl dF dF (λ_=>(Ai (Ae (i:=0) (show List.Nodup (ϳ)from nofun) rfl (Or.inl rfl)) (Ai (Ae (i:=1) (show List.Nodup (ϳ)from nofun) rfl (Or.inl rfl)) BZ)))) Cf (Ep (λ_=>Xw) cU (qv 0) (qv 1) (Ah _))) AH)))),λxs K h=>?_})
 .let[_,0,_]:=h;rfl
 .let[ns,0,a,h]:=h;let cd:cut (ns.map P.str) (some 1) none=(ns.drop 1).map P.str:=by rw[G4,map_drop]
  let e:∀xs ys:At,zipWith DO (xs.map P.str) (ys.map P.str)=(xs.zip ys).map λq=>DO (.str q.1) (.str q.2):=λxs=>by induction xs with|nil=>intro ys;rfl|cons x xs c=>intro ys;cases ys with|nil=>rfl|cons y ys=>simp only[map_cons,zipWith_cons_cons,zip_cons_cons,c]
  show{_,_,0,aT P.tup cd,{Ie _,Ie _},nofun,by rw[length_zipWith,aA];lia,?_};rw[e];show BW.map (λq=>P.bl (LK q.1 q.2)) dG (λq l M d=>?_) {(ns.zip (ns.drop 1)).map λq=>LK q.1 q.2,by rw[bZ];rfl,Cd rfl,?_}
  .show{_,0,0,BX rfl (BX rfl {trivial,d .fr})}
  .rw[all_map];show h
def L5:pF:=(λxs K=>∃ns:At,xs=[AQ ns]/\ns.length<=1000010/\(∀x∈ns,x.length<=1000000)/\K (.bl (DC ns)))
def jp(D:As K mg "is_room" LO)(T:TxtN mg)(e:'E' "is_name" 1 ["text"] (spP L4))(f:'E' "rises" 1 ϸ (spP Vx)):'E' "is_room" 2 ["names"] (spP L5):=by
 show BV D iM (λ_ _ _ _ _ _ us d=>CY d dF) (λxs K h=>?_) '3' (λm l A outer s H E c=>{_,(Ao (Be (Av (λ_=>Fc) GS (A6 (λ_=>CA) CB 'J' nofun (AB (qv 0) AH)) (Ii (λ_=>T.g_MOST_QUESTIONS)) (Ah _)) (Aj (Ax KN)) Bd) (Aj (Ax (SJ (A6 (λ_=>(Eo rfl)) Eu (λ_=>T.b_all) nofun (AB (CL (N:=["names"]) (sc:=AN LO) (qD:=[none]) '1' '3' dF (FK dF (qv 0)) (Cw (k:=0) rfl (λ_=>show List.Nodup (["name"]:At)from nofun)) Cf (Ac (λ_=>e) (λ_=>c.mq) (AB (qv 0) AH))) AH)) (SH (Ac (λ_=>f) (λ_=>c.mq) (AB (qv 0) AH))))))),λxs K h=>?_})
 .let[_,0,_]:=h;rfl
 .let[ns,0,d,i,h]:=h;unfold DC at h;show{trivial,_,0,Aa (λz=>?_) (λz=>?_)}
  .rw[cK (by let:=aL z;rw[aA]at this;lia),Bool.false_and]at h;show{Cd rfl,h}
  .let g:ns.length<=6:=by
    let y||y:=cE 6 ns.length
    .show bS (aK (by rw[aA];lia)) z
    .show y
   rw[aK g,Bool.true_and]at h;show#[_,0,nofun,by lia,BW.map (λx=>P.bl (Dg x)) dG (λx a M j=>{x,0,i x a,j _}) {ns.map Dg,by rw[bZ];rfl,_,0,Aa (λz=>?_) (λz=>?_)}]
   .rw[all_map]at z;rw[show ns.all Dg=true from z,Bool.true_and]at h;show{ns,0,⋯,Cd rfl,h}
   .rw[all_map]at z;rw[show ns.all Dg=false from Bool.eq_false_iff.mpr z,Bool.false_and]at h;show{Cd rfl,h}
def Au(n:Nat)(r:By)(c:Int):Str:=(if BC n r=true then(if 1<=c/\c<=1000000000000 then"done"else"BadCount")else"BadRow")
def Pm:pF:=(λxs K=>∃qI r c,xs=[AQ qI,AW r,.int c]/\r.length<=1000/\K (.str (Au qI.length r c)))
def jq(D:As K mg "_law_looked" Lq)(T:TxtB mg):'E' "_law_looked" 1 Ϗ (spP Pm):=by
 show BV D iq (λ_ _ _ _ _ _ us f=>CV f '8') (λxs K h=>?_) '3' (λj i A outer s H E g=>{_,(Ao (Be (QW.pt (FF (Av (λ_=>(Cm g)) Cg (A6 (λ_=>CA) CB 'J' nofun (AB (qv 1) AH)) (A6 (λ_=>CA) CB 'J' nofun (AB (qv 0) AH)) (Ah _)) (GQ (DA (Cv (A6 (λ_=>(Eo rfl)) Eu (λ_=>T.b_all) nofun (AB (CL (N:=Ϗ) (sc:=AN Lq) (qD:=[none]) '1' '3' dF (FK dF (qv 1)) (Cw (k:=0) rfl (λ_=>show List.Nodup (["_law_answer"]:At)from nofun)) Cf (NO (λ_=>Dp) EO (λ_=>Dp) EO AK (qv 0) AK)) AH))))))) (Aj (Ax A2)) Bd) (Ao (Be (DA (NP (λ_=>Dp) EO (λ_=>Dp) EO AK (qv 2) (BE (λ_=>GG) Hj AK AK))) (Aj (Ax A2)) Bd) (Aj (Ax A2)))),λxs K h=>?_})
 .let[_,_,_,0,_]:=h;rfl
 .let[qI,r,c,0,f,h]:=h;simp![aA];unfold Au BC at h;show Aa (λz=>?_) (λz=>?_)
  .rw[cK ⋯,Bool.false_and,aB '3']at h;show h
  .rw[aK ⋯,Bool.true_and]at h;show{⋯,BW.map (λx=>.bl (decide (0<=x/\x<=9))) dG (λx _ M a=>?_) ?_}
   .simp![A7];let a:=a .fr;show Aa (λz=>?_) (λz=>?_)
    .rw[show decide (0<=x/\x<=9)=decide (x<=9)from decide_eq_decide.mpr (by simp_all)]at a;show a
    .rw[cK ⋯]at a;show a
   .show{r.map λx=>decide (0<=x/\x<=9),by rw[bZ];rfl,?_};rw[all_map];show Aa (λz=>?_) (λz=>?_)
    .rw[aB (by rw[show(r.all λx=>decide (0<=x/\x<=9))=false from z];decide)]at h;show h
    .rw[aC (Bool.not_eq_false _▸z)]at h;show Aa (λe=>#[#['3','3','3'],Aa (λd=>?_) (λd=>?_)]) (λe=>?_)
     .rw[aB (λq=>d q.2)]at h;show h
     .rw[aC {e,Classical.byContradiction d}]at h;show h
     .rw[aB (λq=>e q.1)]at h;show h
def Pn:pF:=(λxs K=>∃t r c,xs=[Ab t,AW r,.int c]/\t.length<=1000/\(t.map (·.1)).Nodup/\K (.bl (decide ((Ag t r).getD 0<c))))
def jr(D:As K mg "_law_short" PL)(T:TxtB mg):'E' "_law_short" 1 ό (spP Pn):=by
 show BV D iu (λ_ _ _ _ _ _ us d=>CV d '8') (λxs K h=>?_) '3' (λi g A outer s H E a=>have f:=C8 a;{_,(Aj (Ax (Ep (λ_=>E5) Fp (GY (λ_=>f) (Ck (λ_=>(JK rfl a)) JL (λ_=>T.b_dict) nofun (AB (qv 0) AH)) (qv 1) AK) (qv 2) (Ah _)))),λxs K h=>?_})
 .let[_,_,_,0,_]:=h;rfl
 .let[t,r,c,0,d,e,h]:=h;simp![JQ e,Gy,Gx];lia
def Po:pF:=(λxs K=>∃t r c,xs=[Ab t,AW r,.int c]/\t.length<63/\(t.map (·.1)).Nodup/\(∀q∈t,q.1.length=r.length)/\K (Ab (Bf (Bi t (r,c)))))
def jt(D:As K mg "_law_changed" PM)(T:TxtB mg)(g:'E' "_law_settled" 1 Ϥ (spP Ji)):'E' "_law_changed" 2 ό (spP Po):=by
 show BV D Vd (λ_ _ _ _ _ _ us f=>CV f '8') (λxs K h=>?_) '3' (λl j A outer s H E a=>have e:=C8 a;{_,(Ao (BN (k:=3) (λ_=>Vd.nd) (Ck (λ_=>(JK rfl a)) JL (λ_=>T.b_dict) nofun (AB (qv 0) AH)))
 (Ao (JF (k:=3) (λ_=>e) (qv 1) (BE (λ_=>C4) Et (GY (λ_=>e) (qv 3) (qv 1) AK) (qv 2)))
 (Aj (Ax (Ac (λ_=>g) (λ_=>a.mq) (AB (qv 3) AH)))))),λxs K h=>?_})
 .let[_,_,_,0,_]:=h;rfl
 .let[t,r,c,0,f,d,i,h]:=h;simp![JQ d,Gy,Gx,Ji];let h1:=JM [(r,c)] t;show{⋯,⋯,_,JI t r _,aR h1 (by change t.length+1<=63;lia),JN [(r,c)] t d,{r.length,K6 i rfl},h}
def Vy:pS:=(λE U=>∃x0 x1 x2 r w,U=[x0,x1,x2,.sh (AW r),.sh (.int w)]/\r.length<=6/\∀r':By,r'.length<=7->E.rt (AW r'))
def Vz:pF:=(λxs K=>∃qI t,xs=[.bag,AQ qI,Ab t]/\qI.length<=6/\t.length<=1000/\(∀q∈t,q.1.length=qI.length)/\∀r:By,r.length<=7->K (AW r))
def ju(D:As K mg "_law_row" PD)(T:TxtB mg)(o:'E' "_law_pull" 1 ϊ (spP Dh))(v:'E' "_law_answers" 2 ώ (spP K7)):'E' "_law_row" 3 ϥ (spP Vz):=by
 show BV D Lo (λ_ _ _ _ _ _ us p=>CV p '8') (λxs K h=>?_) '3' (λQ G A outer s H E a=>?_)
 .let[_,_,0,_]:=h;rfl
 .show{_,(Ao (BN (k:=3) (λ_=>Lo.nd) (Ac (λ_=>v) (λ_=>a.mq) (AB (qv 0) (AB (A6 (λ_=>CA) CB 'J' nofun (AB (qv 1) AH)) (AB AK AH)))))
 (Ao (BN (k:=4) (λ_=>Lo.nd) (Ac (λ_=>o) (λ_=>a.mq) (AB (qv 0) (AB AK AH))))
 (Ao (Be (QW.pt (EL (Av (λ_=>E5) Fp (qv 4) AK (Ah _)) (EK (Av (λ_=>(Cm a)) Cg (qv 2) (B9 AH) (Ah _)))))
 (Aj (BN (k:=3) (λ_=>Lo.nd) (Al 'I' An (Al 'I' An (qv 2) (Ac (λ_=>o) (λ_=>a.mq) (AB (qv 0) (AB (A6 (λ_=>CA) CB 'J' nofun (AB (qv 2) AH)) AH))) dG) AK dG)))
 Bd)
 (BM.weak (m:=Vy) (Ao (Be (Av (λ_=>(Bo a)) Bp (qv 4) AK (Ah _))
 (Aj (Ax (BE (λ_=>GV) GW (qv 3) (DK (AB AK AH)))))
 Bd)
 (Ao (Be (QW.pt (EL (Av (λ_=>(Bo a)) Bp (qv 4) AK (Ah _)) (EK (Av (λ_=>Fc) GS (A6 (λ_=>CA) CB 'J' nofun (AB (qv 3) AH)) AK (Ah _)))))
 (Aj (Ax (BE (λ_=>GV) GW (DK (AB AK AH)) (Ks dF (qv 3) (Kr AK) Kq))))
 Bd)
 (Aj (Ax (qv 3))))) ?d)))),λxs K h=>?_}
  case d=>
   rintro E U⟨j,x1,g,r,w,rfl,a,h⟩;show#[#['2','2'],_,0,Aa (λz=>{0,{Ic _,0},?_}) (λz=>#[#['2','2'],_,0,Aa (λf=>{trivial,_,0,Aa (λu=>?_) (λu=>?_)}) (λf=>Bl ?_)])]
   .let:=h (r++[1]) (by rw[aG];change r.length+1<=7;lia);unfold AW at this;rw[cO]at this;show{by rw[aA];change r.length+1<=16777216;lia,Cd '2',this}
   .let e:cut (r.map P.int) (some 1) none=(r.drop 1).map P.int:=by rw[G4,map_drop]
    let O:(r.drop 1).length=r.length-1:=length_drop;show#[0,?_];change(_/\P.imms (cut (r.map P.int) (some 1) none)=true)/\1+(cut (r.map P.int) (some 1) none).length<=16777216/\_/\E.rt (.tup ([P.int 10]++cut (r.map P.int) (some 1) none));rw[e];show#[{0,Ic _},by rw[aA];lia,Cd (CM (10::r.drop 1)),h (10::r.drop 1) (by rw[length_cons];lia)]
   .show{Cd (CM r),h r ⋯}
   .show{Cd (CM r),h r ⋯}
  .let[qI,t,0,p,M,B,h]:=h;let C:(qI.map P.str).length=qI.length:=aA _;let l:∀(E)(j x1 g)(r)(w),r.length<=6->E.rt=K->Vy E [j,x1,g,.sh (AW r),.sh (.int w)]:=λE j x1 g r w a e=>{_,_,_,r,w,0,a,by rw[e];show h};show#[_,_,0,⋯,by rw[aA];lia,'3','3',λr a _=>BX (CM _) #[10,0,'3','3',λw J I=>BX rfl {trivial,_,0,Aa (λz=>{0,#['2','2'],_,0,Aa (λf=>?_) (λ_=>l _ _ _ _ _ _ ⋯ rfl)}) (λ_=>Bl (l _ _ _ _ _ _ ⋯ rfl))}]];let L:0<t.length:=by
    let _||[q,t]:=t
    .show bS f '3'
    .show Nat.succ_pos _
   show{_,0,by rw[aA];simp_all,by rw[aA];lia,λi y x=>?_};rw[aA]at x;let[n,0]:=Int.eq_ofNat_of_zero_le y;let c:n<t.length:=(by simp_all);let N:=B _ (getElem_mem c);show{_,Pj c,_,0,BX (CM _) (l _ _ _ _ _ _ (by simp_all) rfl)}
def V0:pF:=(λxs K=>∃t,xs=[.bag,Ab t]/\t.length<=1000/\∀c:Int,K (.int c))
def jv(D:As K mg "_law_count" PF)(T:TxtB mg)(f:'E' "_law_pull" 1 ϊ (spP Dh)):'E' "_law_count" 2 ["_law_bag_here","_law_rows"] (spP V0):=by
 show BV D Vb (λ_ _ _ _ _ _ us u=>Bz u dG) (λxs K h=>?_) '3' (λI x A outer s H E e=>{_,(Ao (BN (k:=2) (λ_=>Vb.nd) (Ac (λ_=>f) (λ_=>e.mq) (AB (qv 0) (AB AK AH)))) (Ao (Be (Av (λ_=>(Bo e)) Bp (qv 2) AK (Ah _)) (Aj (Ax (Al 'I' An (B9 (AB AK (AB (Iz AK) (AB (BE (λ_=>GG) Hj AK AK) (AB (BE (λ_=>C4) Et (BE (λ_=>GG) Hj AK AK) AK) AH))))) (Ac (λ_=>f) (λ_=>e.mq) (AB (qv 0) (AB AK AH))) dG))) Bd) (Ao (Be (QW.pt (EL (Av (λ_=>E5) Fp (qv 2) AK (Ah _)) (EK (Av (λ_=>(Cm e)) Cg (qv 1) (B9 AH) (Ah _))))) (Aj (Ax (BE (λ_=>C4) Et (Al 'I' An (Al 'I' An (qv 1) (Ac (λ_=>f) (λ_=>e.mq) (AB (qv 0) (AB (A6 (λ_=>CA) CB 'J' nofun (AB (qv 1) AH)) AH))) dG) AK dG) (Al 'I' An (B9 (AB AK (AB AK (AB AK AH)))) (Ac (λ_=>f) (λ_=>e.mq) (AB (qv 0) (AB AK AH))) dG)))) Bd) (Aj (Ax (BE (λ_=>C4) Et AK (Ac (λ_=>f) (λ_=>e.mq) (AB (qv 0) (AB AK AH))))))))),λxs K h=>?_})
 .let[_,0,_]:=h;rfl
 .let[t,0,G,h]:=h;show#[10,0,'3','3',λw B y=>BX rfl #[#['2','2'],_,0,Aa (λ_=>#[#['3','3','3'],#['3','3','3'],trivial,0,4,0,'3','3',λr l j=>?_]) (λ_=>{trivial,_,0,Aa (λ_=>{0,#['2','2'],_,0,Aa (λm=>?_) (λ_=>#[3,0,'3','3',λr _ _=>{trivial,Cd rfl,h _}])}) (λ_=>Bl #[3,0,'3','3',λr _ _=>{trivial,Cd rfl,h _}])})]]
  .let[k,v,_]:=Vt l j;show{_,v,Cd rfl,h _}
  .let C:0<t.length:=by
    let _||[q,t]:=t
    .show bS m '3'
    .show Nat.succ_pos _
   show{_,0,by rw[aA];simp_all,by rw[aA];lia,λi p o=>?_};rw[aA]at o;let[n,0]:=Int.eq_ofNat_of_zero_le p;let g:n<t.length:=(by simp_all);show{_,Pj g,_,0,0,3,0,'3','3',λr l j=>?_};let e:r=0\/r=1\/r=2:=⋯;let 0||0||0:=e<;>show{_,0,trivial,Cd rfl,h _}
def V1:pF:=(λxs K=>xs=[.bag]/\∀ns:At,1<=ns.length->ns.length<=6->ns.Nodup->(∀x∈ns,F1 x)->PyProof.Rows.sortedS ns=true->K (AQ ns))
def jw(D:As K mg "_law_questions" O4)(T:TxtB mg)(g:'E' "_law_pull" 1 ϊ (spP Dh))(f:'E' "_law_names" 3 ϊ (spP Pe)):'E' "_law_questions" 4 Ϝ (spP V1):=by
 show BV D ic (λ_ _ _ _ _ _ us d=>CY d dF) (λxs K h=>?_) '3' (λu n A outer s H E c=>{_,(Aj (Ax (Ck (λ_=>GP) GX (λ_=>T.b_tuple) nofun (AB (A6 (λ_=>(Ze trivial)) ca (λ_=>T.b_sorted) nofun (AB (Ac (λ_=>f) (λ_=>c.mq) (AB (qv 0) (AB (BE (λ_=>C4) Et AK (Ac (λ_=>g) (λ_=>c.mq) (AB (qv 0) (AB AK AH)))) AH))) AH)) AH)))),λxs K h=>?_})
 .let[0,_]:=h;rfl
 .let[0,h]:=h;simp![Dh,Pe];show#['3','3',λr p o=>#[⋯,⋯,λns q m i=>{(by omega),λe a l=>?_}]];let d:=a.length_eq;show h e ⋯ ⋯ (a.nodup_iff.mpr i) (λx j=>m x (a.mem_iff.mp j)) l
def V2:pF:=(λxs K=>∃ns,xs=[.bag,AQ ns]/\ns.length<=9/\∀qC:At,qC.Sublist ns->K (AQ qC))
def jx:pS:=(λE U=>∃ns m x,U=[.sh .bag,.sh (AQ ns),.sh (.int m),x,.emp]/\0<=m/\m<=1000/\E.nx [.sh .bag,.sh (AQ ns),.sh (.int (m*2)),x,.emp])
def jy:pS:=(λE U=>∃ns,U=[.sh .bag,.sh (AQ ns),.sh (.int 1),.emp,.emp]/\ns.length<=9/\∀x,E.nx [.sh .bag,.sh (AQ ns),.sh (.int ((2^ns.length:Nat):Int)),x,.emp])
def V3(h:n<=9):1<=2^n/\2^n<=512:=by show#[Nat.one_le_two_pow,?_];show Nat.pow_le_pow_right (by decide) h
def jz(D:As K mg "_law_part" Li)(T:TxtB mg)(B:'E' "_law_pull" 1 ϊ (spP Dh)):'E' "_law_part" 2 Ϭ (spP V2):=by
 show BV D Jd (λ_ _ _ _ _ _ us f=>Bz f dG) (λxs K h=>?_) '3' (λfa O A outer s H E y=>{_,(Ao (BN (k:=2) (λ_=>Jd.nd) AK) (Ao (QS.weak (m:=jy) (Kv 1 (Fo '7' dF (FK dF (qv 1)) (Ip (k:=3) (λ_=>Jd.nd)) (BM.weak (m:=jx) (Aj (BN (k:=2) (λ_=>Jd.nd) (BE (λ_=>Ei) Iy (qv 2) AK))) ?c))) ?a) (Ao (BN (k:=4) (λ_=>Jd.nd) (Ac (λ_=>B) (λ_=>y.mq) (AB (qv 0) (AB (qv 2) AH)))) (Aj (Ax (Ck (λ_=>GP) GX (λ_=>T.b_tuple) nofun (AB (CL (N:=ϧ) (sc:=AN Li) (qD:=[none,some 1,some 4]) '1' '3' dF (Hc (λ_=>T.b_range) (AB (A6 (λ_=>CA) CB 'J' nofun (AB (qv 1) AH)) AH)) (Cw (k:=0) rfl (λ_=>show List.Nodup (["_law_at","_law_names_here","_law_mask"]:At)from nofun)) (Hh (Av (λ_=>(Bo y)) Bp (BE (λ_=>Ej) Kj (BE (λ_=>Xq) d9 (qv 2) (qv 0)) AK) AK (Ah _))) (Al 'I' An (qv 1) (qv 0) dG)) AH))))))),λxs K h=>?_})
 case c=>rintro E U⟨ns,m,x,rfl,m0,σ,h⟩;show{.inl {⋯,⋯},h}
 case a=>
  rintro E U⟨ns,rfl,f,h⟩;simp![A7];show{λi U=>i<=ns.length/\∃x,U=[.sh .bag,.sh (AQ ns),.sh (.int ((2^i:Nat))),x,.emp],{cD _,_,0},λi ρ' x u o=>?_,λρ' o=>?_}
  .let[hi,x,0]:=o;rw[bO]at u;let[q,G,0]:=aJ.mp u;let L:=(aI.mp G).1;let I:=V3 (n:=i) ⋯;simp![A7];show{ns,_,_,0,⋯,⋯,⋯,.sh (.str q),?_};rw[Nat.pow_succ,Int.natCast_mul];rfl
  .let[hi,x,0]:=o;show h x
 .let[_,0,_]:=h;rfl
 .let[ns,0,f,h]:=h;simp![A7];show{ns,0,f,λx=>?_};let I:=V3 f;simp![Dh];show#[⋯,⋯,λr ρ Q=>{⋯,⋯,by rw[Es];lia,?_}];rw[Vs ⋯];show BW.filter (λk=>decide (r/2^k%2=1)) (λk=>P.str (ns.getD k {#[]})) '8' (λk J M d=>?_) ?_
  .let g:k<ns.length:=by let:=bH.mp J;lia
   simp![Int.zero_add,Int.toNat_natCast];let d:=d .cl;show{⋯,'3',Aa (λz=>?_) (λz=>?_)}
   .rw[aC (~~~z)]at d;show{_,CG ?_,d};rw[bO,bW,aH g];rfl
   .rw[aB (~~~z)]at d;show d
  .simp![A7];let e:ns=(List.range ns.length).map λk=>ns.getD k {#[]}:=by
    apply ext_getElem?;intro i;rw[bO];by_cases hi:i<ns.length
    .rw[getElem?_range hi,aH hi,Option.map_some,bW,aH hi];rfl
    .rw[bQ ⋯,bQ (by rw[bG];lia)];rfl
   let C:(((List.range ns.length).filter λk=>decide (r/2^k%2=1)).map λk=>ns.getD k {#[]}).Sublist ns:=by let:=(filter_sublist (p:=λk=>decide (r/2^k%2=1)) (l:=List.range ns.length)).map λk=>ns.getD k {#[]};rw[<-e]at this;show this
   let:=h _ C;rw[AQ,bZ]at this;show this
def j4(D:As K mg "_law_in" Lm)(T:TxtB mg):'E' "_law_in" 1 ϗ (spP Gz):=by
 show BV D ik (λ_ _ _ _ _ _ us a=>Bz a dG) (λxs K h=>?_) '3' (λf e A outer s H E c=>{_,(Aj (Ax (A6 (λ_=>(Eo rfl)) Eu (λ_=>T.b_all) nofun (AB (CL (N:=ϗ) (sc:=AN Lm) (qD:=[none,some 1]) '1' '3' dF (FK dF (qv 0)) (Cw (k:=0) rfl (λ_=>show List.Nodup (["_law_name","_law_room"]:At)from nofun)) Cf (Ep (λ_=>(Ko c)) Kp (qv 0) (qv 1) (by rfl))) AH)))),λxs K h=>?_})
 .let[_,_,0,_]:=h;rfl
 .let[qC,qI,0,a,h]:=h;simp![A7];show{⋯,BW.map (λn=>.bl (decide (n∈qI))) dG (λn _ M d=>?_) ?_}
  .simp![Nn];show d _
  .show{qC.map λn=>decide (n∈qI),by rw[bZ];rfl,?_};rw[all_map];show h
end
section
variable{K:Fg}
abbrev Ent:=Str×At×Tl
abbrev B2(e:Ent):P:=.tup [.str e.1,AQ e.2.1,Ab e.2.2]
abbrev BY(e:Ent):P:=.tup [AQ e.2.1,Ab e.2.2]
abbrev A9(B:List Ent):P:=.dK (B.map (·.1)) (B.map BY)
structure EntOk(e:Ent):Prop where
 few:e.2.2.length<63
 nd:(e.2.2.map (·.1)).Nodup
 rows:∀p∈e.2.2,p.1.length=e.2.1.length
 r6:e.2.1.length<=6
structure TxtC(K:Fg)(mg:Str->Do):Prop extends TxtB mg where
 g_MOST_COUNT:∃t,mg "MOST_COUNT"\(.int 1000000000000 t)g_MOST_ROOMS:∃t,mg "MOST_ROOMS"\(.int 8 t)x_BadName:∃C,XCls K mg "BadName" C
 x_BadRoom:∃C,XCls K mg "BadRoom" C
 x_BadRow:∃C,XCls K mg "BadRow" C
 x_BadTally:∃C,XCls K mg "BadTally" C
 x_BadCount:∃C,XCls K mg "BadCount" C
 x_NoRoom:∃C,XCls K mg "NoRoom" C
 x_Taken:∃C,XCls K mg "Taken" C
 x_Full:∃C,XCls K mg "Full" C
def IF:EB:=(λxs K Kx=>∃qI r c,xs=[AQ qI,AW r,.int c]/\r.length<=1000/\(if BC qI.length r=true then(if 1<=c/\c<=1000000000000 then K .non else Kx (.nm "BadCount"))else Kx (.nm "BadRow")))
def j5(D:As K mg "check_papers" Oq)(T:TxtC K mg)(f:'E' "is_row" 1 ϲ (spP K8)):BG P' w K mg base "check_papers" 2 Ϛ (Ey K mg IF):=by
 show Um D iV (λ_ _ _ _ _ _ us e=>CV e '8') (λxs K Kx h=>?_) '3' (λj i A outer s H E g=>{_,(Ao (Be (DA (Cv (Ac (λ_=>f) (λ_=>g.mq) (AB (qv 0) (AB (qv 1) AH))))) (Aj (Ur T.x_BadRow.choose_spec dF dF dF (λ_=>Ev) (AB A2 AH))) Bd) (Aj (Be (DA (NP (λ_=>Dp) EO (λ_=>Dp) EO AK (qv 2) (Ii (λ_=>T.g_MOST_COUNT)))) (Aj (Ur T.x_BadCount.choose_spec dF dF dF (λ_=>Ev) (AB A2 AH))) Bd))),λxs Kn Kx h=>?_})
 .let[_,_,_,0,_]:=h;rfl
 .let[qI,r,c,0,e,h]:=h;simp![K8];lia
inductive spY(Kf:Fg)(mg:Str->Do)(f:EB)(vs:dH)(H:Hp)(Q:VK)(E:XK):Prop|mk(b a:Addr)(Z:Addr->Prop)(xs:dI)(K:P->Prop)(Kx:Xn->Prop)(c0:Bag H b a)(c1:Z b)(c2:(∀p,Z p->H p≠none))(c3:AC b Z H xs vs)(c4:f xs K Kx)(c5:(∀x v H',K x->Step b a H H'->Rp b Z H' x v->Q v H'))(c6:∀n H',Kx n->Step b a H H'->Ew Kf mg E n H')
def Aq{x}(d:Z b)(hb:Bag H b a)(s:Step b a H H')(r:Rp b Z H x v):Rp b Z H' x v:=r.keep (λp o c e=>{c,s.same p o (λq=>c (q▸d)) e}) λp _ e=>s.same p _ (hb.neT e).1 e
def CJ{x}{v}(d:Z b)(hb:Bag H b a)(s:Step b a H H')(r:AC b Z H x v):AC b Z H' x v:=r.keep (λp o c e=>{c,s.same p o (λq=>c (q▸d)) e}) λp _ e=>s.same p _ (hb.neT e).1 e
def BP{x}(a:Z b)(r:Rp b Z H x v):Rp b (λp=>p=b) H x v:=r.keep (λp o c e=>{λq=>c (q▸a),e}) λ_ _ e=>e
def Pp{b q u}{us}{n}{i h}{d c}(g:Z b)(s:¬Z q)(hb:Bag H b a)(m:ks.length=ys.length)(r:AC b Z H ys us)(w:Rp b Z H i d)(r2:Rp b Z H h c)(f:H q=none)(l:H u=none)(ne:q≠u):Step b a H (AA (AA (AA H q (.dK ((ks.map Af).zip us))) u (.tup [d,c])) q (.dK (Bh ((ks.map Af).zip us) (Af n) (.ref u))))/\Rp b Z (AA (AA (AA H q (.dK ((ks.map Af).zip us))) u (.tup [d,c])) q (.dK (Bh ((ks.map Af).zip us) (Af n) (.ref u)))) (.dK (Cb ks n) (Cn ks ys n (.tup [i,h]))) (.ref q):=by
 let st:Step b a H (AA (AA (AA H q (.dK ((ks.map Af).zip us))) u (.tup [d,c])) q (.dK (Bh ((ks.map Af).zip us) (Af n) (.ref u)))):={((hb.new f).put (hb.nb l) (hb.na l)).put (hb.nb f) (hb.na f),λp o _ e=>by rw[AE (Ak e f),AE (Ak e l),AE (Ak e f)];show e}
 show#[st,?_];let[j,A,y]:=Kw Ds (CJ g hb st r) m (x:=.tup [i,h]) {u,_,0,by rw[AE (Ne.symm ne),AJ],d,_,0,Aq g hb st w,c,_,0,Aq g hb st r2,0};show{q,j,0,s,by rw[AJ,A],Nt m,y}
def Pq[DecidableEq κ]{ks:List κ}(h:k∉ks):BO ks xs k=none:=by induction ks generalizing xs with|nil=>rfl|cons a ks c=>cases xs with|nil=>rfl|cons x xs=>simp only[BO];rw[aB (λe=>h (by rw[e];show cA)),c λz=>h (bT _ z)]
def j6:B3 X (.type "dict") (λxs H Q=>∃p qH,xs=[.ref p]/\H p\(.dK qH)/\∀l,H l=none->Q (.ref l) (AA H l (.dK qH))):=by rintro qA s Y H xs us Q I r⟨p,qH,rfl,c,q⟩;let[u,0,a]:=HE r;obtain rfl:u=Value.ref p:=a;show ZJ I (.of c) λl s' d e=>{.ref l,_,e,0,q l d}
inductive spOpen(K:Fg)(mg:Str->Do)(vs:dH)(H:Hp)(Q:VK)(E:XK):Prop|mk(p qH n:_)(c0:vs=[.ref p,.str n])(c1:H p\(.dK qH))(c2:if(Bb qH (Af n)).isSome=true then Q .non H else∀C,XCls K mg "NoRoom" C->E (.ref C) none H)
def j7(D:As K mg "check_open" Os)(T:TxtC K mg):BG P' w K mg base "check_open" 1 ϔ (spOpen K mg):=by
 show ET D iW (λ_ _ _ _ _ _ us f=>Bz f dG) (λvs H Q E h=>?_) (λj g A outer s H vs Q E c h=>?_)
 .let[_,_,_,0,_]:=h;rfl
 .let a:=C8 c;show{_,Ad (BH (MK (ZB a (Ef (i:=1) rfl (.inl rfl)) (Ef (i:=0) rfl (.inl rfl)))) (Ad (FQ rfl Ev T.x_NoRoom.choose_spec (AG A0 AS))) BQ),?_};let[p,qH,n,0,d,h]:=h;show{_,0,_,0,p,_,0,.k (k:=Af n) d,_,0,?_};cases e:(Bb qH _).isSome
  .rw[e]at h;show{'3',h _ T.x_NoRoom.choose_spec}
  .rw[e]at h;show h
inductive spFound(K:Fg)(mg:Str->Do)(vs:dH)(H:Hp)(Q:VK)(E:XK):Prop|mk(p qH n:_)(c0:vs=[.ref p,.str n])(c1:H p\(.dK qH))(c2:(∀v,Bb qH (Af n)\v->Q v H))(c3:(Bb qH (Af n)=none->∀C,XCls K mg "NoRoom" C->E (.ref C) none H))
def j8(D:As K mg "found_room" Ot)(G:BG P' w K mg base "check_open" 1 ϔ (spOpen K mg)):BG P' w K mg base "found_room" 2 ϔ (spFound K mg):=by
 show ET D iX (λ_ _ _ _ _ _ us f=>Bz f dG) (λvs H Q E h=>?_) (λi g A outer s H vs Q E a h=>?_)
 .let[_,_,_,0,_]:=h;rfl
 .let d:=C8 a;show{_,AY (Dn (Co G Cz a (by rfl) (AG (pv 0) (AG (pv 1) AS)))) (Ad (Ay (Mp d (pv 0) (pv 1) dG))),?_};let[p,qH,n,0,c,h1,h2]:=h;show#[_,0,_,0,p,qH,n,0,c,?_];cases e:Bb qH (Af n)with|none=>show h2 e|some v=>show{_,0,_,0,p,v,0,e▸.k (k:=Af n) c,h1 v e}
inductive spWith(vs:dH)(H:Hp)(Q:VK)(E:XK):Prop|mk(p qH n r t:_)(c0:vs=[.ref p,.str n,r,t])(c1:H p\(.dK qH))(c2:qH.length<100)(c3:∀q u,H q=none->H u=none->q≠u->Q (.ref q) (AA (AA (AA H q (.dK qH)) u (.tup [r,t])) q (.dK (Bh qH (Af n) (.ref u)))))
def j9(D:As K mg "with_room" Ou)(T:TxtB mg):BG P' w K mg base "with_room" 1 ϛ spWith:=by
 show ET D VR (λ_ _ _ _ _ _ us c=>QL c (λ_ _ _ _=>rfl)) (λvs H Q E h=>?_) (λl j A outer s H vs Q E e h=>?_)
 .let[_,_,_,_,_,0,_]:=h;rfl
 .let d:=C8 e;show{_,AY (Aw (i:=4) VR.nd rfl (Or.inl rfl) (E8 j6 (by rfl) T.b_dict nofun (AG (pv 0) AS))) (AY (J7 d (pv 4) (pv 1) (B0 (AG (pv 2) (AG (pv 3) AS))) rfl) (Ad (Ay (pv 4)))),?_};let[p,qH,n,r,t,0,g,c,h]:=h;show#[_,0,p,qH,0,g,λq f=>{_,0,_,0,(by decide:2<=sizeLine),λu a=>?_}];let ne:q≠u:=λz=>by rw[z,AJ]at a;cases a
  rw[AE (Ne.symm ne)]at a;show{_,0,_,0,q,_,0,.k (k:=Af n) (by rw[AE ne,AJ]) (Nat.lt_trans c '3'),_,0,h q u f a ne}
end
section
variable{K:Fg}
def V4{us}{n}(c:ks.length=ys.length)(d:n∈ks)(r:AC b Z H ys us):(Bb ((ks.map Af).zip us) (Af n)).isSome=true:=by
 let ex:∀{ks}{ys},ks.length=ys.length->n∈ks->∃z,BO ks ys n\z:=λ{ks}=>by induction ks with|nil=>intro _ _ h;cases h|cons a ks f=>intro ys c d;cases ys with|nil=>cases c|cons y ys=>
    by_cases e:a=n
    .show{y,aC e}
    .let z||z:=aF.mp d
     .show bS z.symm e
     .let[x,i]:=f (Nat.succ.inj c) z;show{x,(aB e).trans i}
 let[z,g]:=ex c d;let[v,j,_]:=(ER Ds r c).1 z g;rw[j];rfl
def L6{p}[Decidable p](z:(!decide p)=true):¬p:=λy=>by lia
def C3(q ks:At)(n:Str)(qI:At)(t:Tl):Str:=(if Dg n=true then(if n∈ks then"Taken"else if DC qI=true/\qI≠[]/\(∀x∈qI,x∈q)then(if Dt qI.length t=true/\(∀p∈t,p.2<=1000000000000)then(if ks.length<8 then"done"else"Full")else"BadTally")else"BadRoom")else"BadName")
structure StB(n:Str)(qI:At)(t:Tl):Prop where
 n6:n.length<=1000
 r6:qI.length<=20
 x6:∀x∈qI,x.length<=1000
 t6:t.length<=5000
 w6:∀p∈t,p.1.length<=1000
inductive V5(xs:dI)(K:(P->Prop))(Kx:(Xn->Prop)):Prop|mk(q ks ys n qI t:_)(_:xs=[AQ q,.dK ks ys,.tup [.str "start",.str n,AQ qI,Ab t]])(_:StB n qI t)(_:ks.length<=8)(_:(C3 q ks n qI t≠"done"->Kx (.nm (C3 q ks n qI t))))(_:(C3 q ks n qI t="done"->K (.dK (Cb ks n) (Cn ks ys n (.tup [AQ qI,Ab t])))))
def kD(D:As K mg "started" LZ)(T:TxtC K mg)(qV:'E' "is_name" 1 ["text"] (spP L4))(qX:'E' "is_room" 2 ["names"] (spP L5))(qY:'E' "within" 1 ϰ (spP Gz))(qZ:'E' "is_tally" 2 Ϙ (spP Pk))(Gw:BG P' w K mg base "with_room" 1 ϛ spWith):BG P' w K mg base "started" 4 ύ (spY K mg V5):=by
 show ET D VT (λ_ _ _ _ _ _ us hl=>CV hl '8') (λvs H Q E h=>?_) (λfa a4 A outer s H vs Q E C h=>?_)
 .done<;>let[_,_,_,_,_,_,_,_,_,r,[_,_,_,_,_,_,0,_],_]:=h;show r.length.symm
 .let nd:=VT.nd;let hu:=C8 C;show{_,AY (Cq (Em HM (pv 2) (El Ar) Ek) (CP rfl (Ai (Ae (i:=3) nd rfl (Or.inl rfl)) (Ai (Ae (i:=4) nd rfl (Or.inl rfl)) (Ai (Ae (i:=5) nd rfl (Or.inl rfl)) BZ)))))
   (AY (BH (DD (DA (Cv (Ac (λ_=>qV) (λ_=>C.mq) (AB (qv 3) AH))))) (Ad (FQ rfl Ev T.x_BadName.choose_spec (AG A0 AS))) BQ)
   (AY (BH (MK (ZA hu (pv 3) (pv 1))) (Ad (FQ rfl Ev T.x_Taken.choose_spec (AG A0 AS))) BQ)
   (AY (BH (DD (QW.pt (FF (DA (Cv (Ac (λ_=>qX) (λ_=>C.mq) (AB (qv 4) AH)))) (FF (Av (λ_=>(Bo C)) Bp (A6 (λ_=>CA) CB 'J' nofun (AB (qv 4) AH)) AK (Ah _)) (GQ (DA (Cv (Ac (λ_=>qY) (λ_=>C.mq) (AB (qv 4) (AB (qv 0) AH)))))))))) (Ad (FQ rfl Ev T.x_BadRoom.choose_spec (AG A0 AS))) BQ)
   (AY (BH (DD (QW.pt (FF (DA (Cv (Ac (λ_=>qZ) (λ_=>C.mq) (AB (qv 4) (AB (qv 5) AH))))) (GQ (Cv (A6 (λ_=>(gW rfl)) gX (λ_=>T.b_any) nofun (AB (CL (N:=["questions","opened","deed","name","room","rows"]) (sc:=AN LZ) (N':=Ϯ) (qD:=[none,none]) '1' '3' dF (Db dF (qv 5)) (GR (i:=0) (j:=1) rfl rfl dF dF (λ_=>(Ai (Ae (i:=0) (show List.Nodup (Ϯ)from nofun) rfl (Or.inl rfl)) (Ai (Ae (i:=1) (show List.Nodup (Ϯ)from nofun) rfl (Or.inl rfl)) BZ)))) Cf (Ep (λ_=>Fc) GS (qv 1) (Ii (λ_=>T.g_MOST_COUNT)) (Ah _))) AH))))))) (Ad (FQ (E:=E) rfl Ev T.x_BadTally.choose_spec (AG A0 AS))) BQ)
   (AY (BH (C5 Qo (Fd ZQ (by rfl) T.b_len nofun (AG (pv 1) AS)) (QP (v:=.int 8) (by rfl) T.g_MOST_ROOMS.choose_spec #[_,0] nofun) (Ah _)) (Ad (FQ (E:=E) rfl Ev T.x_Full.choose_spec (AG A0 AS))) BQ)
   (Ad (Ay (Co Gw Cz (C.mq) (by rfl) (AG (pv 1) (AG (pv 3) (AG (pv 4) (AG (pv 5) AS)))))))))))),?_}
  done<;>(let[b,a,Z,xs,K,Kx,hb,l,zh,r,[q,ks,ys,n,qI,t,0,B,k8,h1,h2],hK,hX]:=h;let[v0,_,0,rq,v1,_,0,[p,us,0,pb,u,g,ru],v2,_,0,[d,ds,0,hd,rd],0]:=r;let nb:p≠b:=λe=>pb (e▸l);let[_,_,0,0,_,_,0,0,rv,_,0,rr,tv,_,0,rt,0]:=rd);let ex:∀{w:Str}{H':Hp},C3 q ks n qI t=w->w≠"done"->Step b a H H'->Ew _ mg E (.nm w) H':=λ{w H'}e ne st=>by subst e;show hX _ _ (h1 ne) st
  show#[_,0,_,0,d,_,0,hd,λz=>bS z.1 (by change¬HT.dA 4 0 (some 1)=0;decide),λ_ p1 a2=>{p1,[.str n,rv,tv],0,.of AJ,0,_,_,0,_,_,0,_,_,0,0,?_}];let G:Step b a H (AA H p1 (.tup [.str n,rv,tv])):=Step.new hb a2;let sl:Bu b (AA H p1 (.tup [.str n,rv,tv])) [.sh (AQ q),.emp,.emp,.sh (.str n),.sh (AQ qI),.sh (Ab t)] [some v0,some (.ref p),some (.ref d),some (.str n),some rv,some tv]:={_,_,0,{_,0,BP l (Aq l hb G rq)},_,_,0,trivial,_,_,0,trivial,_,_,0,#[_,0,0],_,_,0,{_,0,BP l (Aq l hb G rr)},_,_,0,{_,0,BP l (Aq l hb G rt)},0};show{b,a,_,λc=>c=!Dg n,G.bag,sl,{n,0,by let:=B.n6;lia,_,0,0},λc H2 σ s2=>?_};subst σ;let o:=G.trans s2;let I:=sl.st G.bag s2;unfold C3 at ex h2;show Aa (λz=>?_) (λz=>?_)
  .show{'3',ex (aB (~~~z)) '3' o _ T.x_BadName.choose_spec}
  let gn:Dg n=true:=by simpa using z
  simp only[aC gn]at ex h2;show{_,0,_,0,p,_,0,.k (k:=Af n) (o.same p _ nb u),_,0,?_};by_cases hm:n∈ks
  .rw[(V4 (ys:=ys) g hm ru)];show D4 {'3',ex (aC hm) '3' o _ T.x_Taken.choose_spec}
  simp only[aB hm]at ex h2;rw[(ER Ds (k:=n) ru g).2 (Pq hm)];show Bl {b,a,_,λc=>c=!decide (DC qI=true/\qI≠[]/\(∀x∈qI,x∈q)),s2.bag,I,{qI,0,by let:=B.r6;lia,λx L=>by let:=B.x6 x L;lia,_,0,Aa (λz=>?_) (λz=>#[#['2','2'],_,0,Aa (λm=>?_) (λm=>{qI,q,0,by let:=B.r6;lia,_,0,?_})])},λc H3 σ s3=>?_}
  .rw[cK λy=>by rw[y.1]at z;cases z];rfl
  .let m:AU (.int (qI.map P.str).length) (.int 0)=true:=m;rw[JH]at m;let l0:=aL m;rw[aA]at l0;rw[cK λy=>y.2.1 (length_eq_zero_iff.mp (by simp_all))];rfl
  .let m:¬AU (.int (qI.map P.str).length) (.int 0)=true:=m;rw[JH]at m;let g1:DC qI=true:=by simpa using z
   let g2:qI≠[]:=λe=>m (aK (by rw[e];rfl))
   congr 1
   rw[Bool.eq_iff_iff,all_eq_true,aW];show{λy=>{g1,g2,λx L=>aL (y x L)},λy x L=>aK (y.2.2 x L)}
  subst σ;let J:=o.trans s3;let a0:=I.st s2.bag s3;show Aa (λz=>?_) (λz=>?_)
  .show{'3',ex (aB (L6 z)) '3' J _ T.x_BadRoom.choose_spec}
  let gr:DC qI=true/\qI≠[]/\(∀x∈qI,x∈q):=aL (~~~z);simp only[aC gr]at ex h2;show{b,a,_,λc=>c=!decide (Dt qI.length t=true/\(∀p∈t,p.2<=1000000000000)),s3.bag,a0,{qI,t,0,by let:=B.t6;lia,B.w6,_,0,Aa (λz=>?_) (λz=>#[_,0,nofun,by rw[aA];let:=B.t6;lia,BW.map (λp=>.bl (decide (1000000000000<p.2))) dG (λp u M hM=>JT {trivial,hM _}) {t.map λp=>decide (1000000000000<p.2),by rw[bZ];rfl,_,0,?_}])},λc H4 σ s4=>?_}
  .rw[cK λy=>by rw[y.1]at z;cases z];rfl
  .let g1:Dt qI.length t=true:=by simpa using z
   rw[any_map];by_cases y:∀p∈t,p.2<=1000000000000
   .rw[aK #[g1,y]];change List.any t _=false;rw[any_eq_false];intro p u z;let:=y p u;let:=aL z;lia
   .rw[cK λx=>y x.2];let[p,u]:=Classical.not_forall.mp y;change List.any t _=true;rw[any_eq_true];show{p,Classical.byContradiction λz=>u λh=>bS h z,aK (Classical.byContradiction λz=>u λ_=>(by simp_all))}
  subst σ;let f:=J.trans s4;show Aa (λz=>?_) (λz=>?_)
  .show{'3',ex (aB (L6 z)) '3' f _ T.x_BadTally.choose_spec}
  let gt:Dt qI.length t=true/\(∀p∈t,p.2<=1000000000000):=aL (~~~z);simp only[aC gt]at ex h2;let ρ:=f.same p _ nb u;let lz:((ks.map Af).zip us).length=ks.length:=by rw[length_zip,aA,<-ru.length,g,Nat.min_self]
  show{_,0,p,_,0,ρ,_,_,0,0,_,0,Aa (λz=>?_) (λz=>?_)}
  .let:=aL z;rw[lz]at this;show{'3',ex (aB ⋯) '3' f _ T.x_Full.choose_spec}
  let a3:ks.length<8:=Classical.byContradiction λy=>z (aK (by rw[lz];lia));rw[aC a3]at h2;show{_,0,_,0,_,0,_,0,p,_,n,_,_,0,ρ,by rw[lz];lia,λq1 u3 O a1 ne=>?_};let zq:¬Z q1:=λz=>zh q1 z (f.free O);let pt:=Pp (n:=n) l zq f.bag g (CJ l hb f ru) (Aq l hb f rr) (Aq l hb f rt) O a1 ne;show hK _ _ _ (h2 rfl) (f.trans pt.1) pt.2
end
section
variable{K:Fg}
def kF(nd:(qH.map (·.1)).Nodup){e:AT×V}(h:qH[i]?\e):Bb qH e.1\e.2:=by induction qH generalizing i with|nil=>cases h|cons x r a=>rw[map_cons,bC]at nd;unfold Bb;rw[find?_cons];cases i with|zero=>simp_all|succ i=>let h:=h;rw[cK λz=>nd.1 (by rw[z];show bU.mpr {e,aM h,0})];show a nd.2 h
def drop_at{qH:List (AT×V)}(nd:(qH.map (·.1)).Nodup)(h:qH[i]?\e)(k):Cj (qH.take (i+1)) k=if e.1=k then Cj (qH.take i) k else Bh (Cj (qH.take i) k) e.1 e.2:=by
 let c:qH.take (i+1)=qH.take i++[e]:=by rw[take_succ,h];rfl
 let f:Cj (qH.take (i+1)) k=Cj (qH.take i) k++Cj [e] k:=by unfold Cj;rw[c,filter_append]
 rw[f];by_cases z:e.1=k
 .rw[aC z];unfold Cj;rw[filter_cons_of_neg (by simp[z])];simp
 .rw[aB z,Yv _ ?_]
  .unfold Cj;rw[filter_cons_of_pos (by simp[z])];simp
  .unfold Bb;rw[Option.map_eq_none_iff,find?_eq_none];intro y a w;let a:=(cX.mp a).1;let[j,g,d]:=mem_take_iff_getElem.mp a;let[hi,0]:=aI.mp h;let:=(getElem_inj nd (i:=j) (h₀:=by rw[aA];lia) (h₁:=by rw[aA];show hi)).mp (by rw[getElem_map,getElem_map,d];show aL w);lia
abbrev EW(B:List (Str×P))(n:Str):List (Str×P):=B.filter λe=>decide (e.1≠n)
theorem V6{n}:∀{B}{us},AC b Z H (B.map (·.2)) us->∃a,Cj (((B.map (·.1)).map Af).zip us) (Af n)=(((EW B n).map (·.1)).map Af).zip a/\AC b Z H ((EW B n).map (·.2)) a
 |[],us,h=>{[],by rw[h];rfl,0}|e::B,us,h=>by
  let[v,r,0,h1,h2]:=h;let[a,d,c]:=V6 h2;by_cases z:e.1=n
  .show{a,?_,by rw[EW,filter_cons_of_neg (by simp[z])];show c};rw[EW,filter_cons_of_neg (by simp[z]),<-d];show filter_cons_of_neg (by simp[z])
  .show#[v::a,?_,by rw[EW,filter_cons_of_pos (by simp[z])];show#[_,_,0,h1,c]];rw[EW,filter_cons_of_pos (by simp[z])];change Cj _ _=(Af e.1,v)::(((EW B n).map _).map Af).zip a;rw[<-d];show filter_cons_of_pos (by simp[z])
def V7:EB:=(λxs K Kx=>∃q B n,xs=[q,.dK (B.map (·.1)) (B.map (·.2)),.tup [.str "shut",.str n]]/\B.length<=8/\(B.map (·.1)).Nodup/\((∀e∈B,e.1≠n)->Kx (.nm "NoRoom"))/\(n∈B.map (·.1)->K (.dK ((EW B n).map (·.1)) ((EW B n).map (·.2)))))
def kG(D:As K mg "shut" La)(T:TxtC K mg)(G:BG P' w K mg base "check_open" 1 ϔ (spOpen K mg)):BG P' w K mg base "shut" 4 ύ (spY K mg V7):=by
 show ET D VU (λ_ _ _ _ _ _ us hl=>CV hl '8') (λvs H Q E h=>?_) (λfa a2 A outer s H vs Q E hr h=>?_)
 .let[_,_,_,_,_,_,_,_,_,r,[_,_,_,0,_],_]:=h;show r.length.symm
 .let nd:=VU.nd;let hu:=C8 hr;show{_,AY (Aw (i:=3) nd rfl (Or.inr rfl) (Br FD (pv 2) Ar dG))
   (AY (Dn (Co G Cz (hr.mq) (by rfl) (AG (pv 1) (AG (pv 3) AS))))
   (Ad (JX (Ay (hV (N:=["questions","opened","deed","name"]) (sc:=AN La) (qD:=[none,some 3,some 1]) '1' rfl (hH (pv 1)) (KB rfl) (λp=>Ae (i:=0) (show List.Nodup (["other","name","opened"]:At)from nofun) rfl (Or.inl rfl))
    (λp=>Ra (C5 Xv (pv 0) (pv 1) (Ah _))) (λp=>pv 0) (λp=>Mp hu (pv 2) (pv 0) dG)))))),?_}
  done<;>(let[b,a,Z,xs,K,Kx,hb,zb,zh,r,[q,B,n,0,B8,a1,h1,h2],hK,hX]:=h;let[v0,_,0,rq,v1,_,0,[p,us,0,pb,M,c,L],v2,_,0,[d,ds,0,hd,_,_,0,0,_,_,0,0,0],0]:=r);show{_,0,d,1,_,0,0,hd,.str n,0,_,0,_,0,p,_,n,0,M,?_};let nl:(B.map (·.1)).length=us.length:=by rw[c];show L.length
  by_cases O:n∈B.map (·.1)
  rotate_left
  .rw[(ER Ds L c).2 (Pq O)];show Bl λC xc=>hX _ _ (h1 λe j z=>O (bU.mpr #[e,j,z])) (Step.refl hb) C xc
  rw[V4 c O L];let l:((((B.map (·.1)).map Af).zip us).map (·.1)).Nodup:=by rw[map_fst_zip (by rw[aA];lia)];show a1.map Af λ_ _ z=>λe=>z (Ds _ _ e)
  let k8:(((B.map (·.1)).map Af).zip us).length<=8:=by rw[length_zip,aA,aA];simp_all
  let a0:∀e∈((B.map (·.1)).map Af).zip us,∃m,e.1=Af m:=λe j=>by let[m,_,h]:=bU.mp (of_mem_zip j).1;show#[m,h.symm]
  generalize ek:((B.map (·.1)).map Af).zip us=qH at*;show D4 #[p,qH,M,(λo u z=>by let z:H p\(.frz o u):=z;rw[M]at z;cases z),λo=>{_,0,p,o,qH,0,AJ,λD ρ=>?_}];let pD:p≠D:=λz=>by rw[<-z,AJ]at ρ;cases ρ
  let v:H D=none:=by rw[AE (Ne.symm pD)]at ρ;show ρ
  show{λi m ys H2=>m=qH.length-i/\i<=qH.length/\ys=Cj (qH.take i) (Af n)/\H2=AA (AA H p (.frz o (.dK qH))) D (.dK ys),{_,0,cD _,by rw[take_zero];rfl,0},?_};rintro i m ys H2⟨rfl,hi,rfl,rfl⟩;let I:AA (AA H p (.frz o (.dK qH))) D (.dK (Cj (qH.take i) (Af n))) p\(.frz o (.dK qH)):=by rw[AE pD,AJ]
  show#[AJ,?_];by_cases f:i<qH.length
  .let j:=aH f;let[m,em]:=a0 _ (getElem_mem f);show .inr #[#[I,f],λzs H'=>zs=Cj (qH.take (i+1)) (Af n)/\H'=AA (AA H p (.frz o (.dK qH))) D (.dK zs),λzs H' z=>{qH.length-(i+1),⋯,0,f,z.1,z.2},?_];rintro x H3⟨rfl,e,h3,rfl⟩;rw[j]at h3;cases h3;rw[em];let J:=drop_at l j (Af n);rw[em]at J;show#[_,0,_,0,0,_,0,?_];by_cases z:m=n
   .rw[aC (aT Af z)]at J;let ez:(!decide (V.str m=V.str n))=false:=by rw[z,aK rfl];rfl
    change if(!decide (V.str m=V.str n))=true then _ else _
    rw[ez];show Bl #[J.symm,0]
   .rw[aB λq=>z (Ds _ _ q)]at J;let ez:(!decide (V.str m=V.str n))=true:=by rw[cK λq=>z (V.str.inj q)];rfl
    change if(!decide (V.str m=V.str n))=true then _ else _
    rw[ez];let vl:=kF l j;rw[em]at vl;show D4 {_,0,_,0,_,0,p,_,0,.inl {qH,Af m,.inr #[o,I],0,vl.symm},m,0,AJ,?_,J.symm,?_}
    .let:(Cj (qH.take i) (Af n)).length<=(qH.take i).length:=length_filter_le _ _;rw[aO]at this;show Nat.lt_of_le_of_lt (by lia:_<=8) '3'
    .funext y
     by_cases g:y=D
     .subst g;rw[AJ,AJ]
     .rw[AE g,AE g,AE g]
  .let e:i=qH.length:=⋯;subst e;rw[take_length]at I⊢;show .inl #[{I,aQ _},I,?_];let eH:AA (AA (AA H p (.frz o (.dK qH))) D (.dK (Cj qH (Af n)))) p (.dK qH)=AA H D (.dK (Cj qH (Af n))):=by
    funext y
    by_cases g:y=p
    .subst g;rw[AJ,AE pD];show M.symm
    .rw[AE g];by_cases hz:y=D
     .subst hz;rw[AJ,AJ]
     .rw[AE hz,AE g,AE hz]
   rw[eH];let st:Step b a H (AA H D (.dK (Cj qH (Af n)))):=Step.new hb v;let[σ,e1,e2]:=V6 (CJ zb hb st L);rw[ek]at e1;show hK _ _ _ (h2 O) st {D,σ,0,λz=>zh D z v,by rw[AJ,e1],by rw[aA,aA],e2}
end
section
variable{K:Fg}
inductive V8(xs:dI)(K:(P->Prop))(Kx:(Xn->Prop)):Prop|mk(q ks ys wd n r c:_)(_:xs=[q,.dK ks ys,.tup [.str wd,.str n,AW r,.int c]])(_:ks.length<100)(_:r.length<=1000)(_:(BO ks ys n=none->Kx (.nm "NoRoom")))(_:∀z,BO ks ys n\z->∃qI t,z=.tup [AQ qI,Ab t]/\(if BC qI.length r=true then(if 1<=c/\c<=1000000000000 then t.length<63/\(∀p∈t,p.1.length=qI.length)/\K (.dK (Cb ks n) (Cn ks ys n (.tup [AQ qI,Ab (CN (BF (t++[(r,c)])))])))else Kx (.nm "BadCount"))else Kx (.nm "BadRow")))
def kI(D:As K mg "marked" Oy)(T:TxtC K mg)(Gf:BG P' w K mg base "found_room" 2 ϔ (spFound K mg))(Gc:BG P' w K mg base "check_papers" 2 Ϛ (Ey K mg IF))(Gp:'E' "plus" 2 ϓ (spP Pg))(Gw:BG P' w K mg base "with_room" 1 ϛ spWith):BG P' w K mg base "marked" 3 ύ (spY K mg V8):=by
 show ET D VX (λ_ _ _ _ _ _ us hl=>CV hl '8') (λvs H Q E h=>?_) (λfa a5 A outer s H vs Q E hr h=>?_)
 .done<;>let[_,_,_,_,_,_,_,_,_,r,[_,_,_,_,_,_,_,0,_],_]:=h;show r.length.symm
 .let M:=VX.nd;show{_,AY (Cq (Em HM (pv 2) (El Ar) Ek) (CP rfl (Ai (Ae (i:=3) M rfl (Or.inl rfl)) (Ai (Ae (i:=4) M rfl (Or.inl rfl)) (Ai (Ae (i:=5) M rfl (Or.inl rfl)) BZ)))))
   (AY (Cq (Co Gf Cz hr (by rfl) (AG (pv 1) (AG (pv 3) AS))) (CP rfl (Ai (Ae (i:=6) M rfl (Or.inl rfl)) (Ai (Ae (i:=7) M rfl (Or.inl rfl)) BZ))))
   (AY (Dn (Co Gc Cz hr (by rfl) (AG (pv 6) (AG (pv 4) (AG (pv 5) AS)))))
   (Ad (Ay (Co Gw Cz (hr.mq) (by rfl) (AG (pv 1) (AG (pv 3) (AG (pv 6) (AG (Bv Gp hr (by rfl) (AG (pv 7) (AG (DG (AG (B0 (AG (pv 4) (AG (pv 5) AS))) AS)) AS))) AS))))))))),?_}
  done<;>(let[b,a,Z,xs,K,Kx,hb,f,zh,r,[q,ks,ys,wd,n,rw,c,0,hl,a3,h1,h2],hK,hX]:=h;let[v0,_,0,_,v1,_,0,[p,us,0,pb,hp,C,ru],v2,_,0,[d,ds,0,hd,rd],0]:=r;let nb:p≠b:=λe=>pb (e▸f);let[_,_,0,0,_,_,0,0,rv,_,0,rr,_,_,0,0,0]:=rd);show#[_,0,_,0,d,_,0,hd,λz=>bS z.1 (by change¬HT.dA 4 0 (some 1)=0;decide),λ_ p1 a4=>{p1,[.str n,rv,.int c],0,.of AJ,0,_,_,0,_,_,0,_,_,0,0,?_}];let B:Step b a H (AA H p1 (.tup [.str n,rv,.int c])):=Step.new hb a4;let g:=ER Ds (k:=n) ru C;show{_,0,_,0,p,_,n,0,B.same p _ nb hp,λv N=>?_,λN=>?_}
  case refine_2=>show hX _ _ (h1 ?_) B;cases e:BO ks ys n with|none=>rfl|some z=>let[v,σ,_]:=g.1 z e;rw[N]at σ;cases σ
  cases e:BO ks ys n with|none=>rw[g.2 e]at N;cases N|some z=>
  let[v',σ,rz]:=g.1 z e;rw[N]at σ;cases σ;done<;>(let[qI,t,0,h2]:=h2 z e;let[p2,ws,0,O,w1,_,0,L,w2,_,0,a0,0]:=rz);show{p2,[w1,w2],0,.of (B.same p2 _ (hb.neT O).1 O),0,_,_,0,_,_,0,0,?_};let b1:=B.bag;show{_,0,_,0,_,0,b,a,[AQ qI,AW rw,.int c],λ_=>BC qI.length rw=true/\1<=c/\c<=1000000000000,Kx,b1,{_,_,0,BP f<|Aq f hb B L,_,_,0,BP f<|Aq f hb B rr,_,_,0,0,0},#[qI,rw,c,0,a3,?_],λ_ _ H2 hk s2 _=>?_,λm H2 hm s2=>hX m H2 hm (B.trans s2)}
  .show Aa (λz=>?_) (λz=>?_)
   .rw[aC z]at h2;show Aa (λz2=>#[z,z2]) (λz2=>?_);rw[aB z2]at h2;show h2
   .rw[aB z]at h2;show h2
  rw[aC hk.1,aC hk.2]at h2;let[ht,hn,h2]:=h2;let j:=B.trans s2;let hw:rw.length=qI.length:=by let:=hk.1;unfold BC at this;rw[cB]at this;show aL this.1
  show#[_,0,_,0,_,0,_,0,_,0,_,0,(by decide:2<=sizeLine),λu1 I=>{(by decide:1<=sizeLine),λu2 u=>?_}];let J:=j.trans ((Step.new j.bag I).trans (Step.new (Step.new j.bag I).bag u (o:=.lst [.ref u1])));show{b,a,[Ab t,Ab [(rw,c)]],λx=>x=Ab (CN (BF (t++[(rw,c)]))),J.bag,{_,_,0,BP f<|Aq f hb J a0,_,_,0,?_,0},{t,[(rw,c)],0,ht,{qI.length,λq hq=>?_},0},λx v H4 hx s4 rx=>?_}
  .let a1:u1≠u2:=λz=>by rw[<-z,AJ]at u;cases u
   show{u2,_,0,(Step.new j.bag I).bag.nb u,AJ,_,_,0,{u1,_,0,by rw[AE a1,AJ],_,_,0,BP f<|Aq f hb J rr,_,_,0,0,0},0}
  .let z||z:=bA.mp hq
   .show hn q z
   .rw[bI.mp z];show hw
  .subst hx;let G:=J.trans s4;show{p,_,n,_,_,0,G.same p _ nb hp,?_,λq1 u3 y a2 ne=>?_}
   .rw[length_zip,aA];lia
   .let zq:=λz=>by cases e:H q1 with|none=>show zh q1 z e|some o=>
      by_cases ρ:q1=b
      .show G.bag.nb y ρ
      .rw[G.same q1 o ρ e]at y;cases y
    let pt:=Pp (n:=n) f zq G.bag C (CJ f hb G ru) (Aq f hb G L) (r2:=(rx.keep (λp o hz e=>{λz=>?_,e}) λ_ _ e=>e)) y a2 ne
    .show hK _ _ _ h2 (G.trans pt.1) pt.2
    .show hz ?_;cases e3:H p with|none=>show bS e3 (zh p z)|some o=>
      by_cases ρ:p=b
      .let[l,hl]:=J.bag.atb;rw[ρ,hl];intro z;cases z
      .rw[J.same p o ρ e3];intro z;cases z
end
section
variable{K:Fg}
inductive V9(xs:dI)(K:(P->Prop))(Kx:(Xn->Prop)):Prop|mk(q ks ys wd n r c:_)(_:xs=[q,.dK ks ys,.tup [.str wd,.str n,AW r,.int c]])(_:ks.length<100)(_:r.length<=1000)(_:(BO ks ys n=none->Kx (.nm "NoRoom")))(_:∀z,BO ks ys n\z->∃qI t,z=.tup [AQ qI,Ab t]/\(if BC qI.length r=true then(if 1<=c/\c<=1000000000000 then t.length<63/\(t.map (·.1)).Nodup/\(∀p∈t,p.1.length=qI.length)/\(∀t2,Dw t [(r,c)]=.inr t2->K (.dK (Cb ks n) (Cn ks ys n (.tup [AQ qI,Ab (CN (BF t2))]))))/\∀r2,Dw t [(r,c)]=.inl r2->Kx (.vl "TooFew" "row" (AW r2))else Kx (.nm "BadCount"))else Kx (.nm "BadRow")))
def kJ(D:As K mg "stricken" Oz)(T:TxtC K mg)(Gf:BG P' w K mg base "found_room" 2 ϔ (spFound K mg))(Gc:BG P' w K mg base "check_papers" 2 Ϛ (Ey K mg IF))(Gp:BG P' w K mg base "less" 3 ϓ (Ey K mg Ph))(Gw:BG P' w K mg base "with_room" 1 ϛ spWith):BG P' w K mg base "stricken" 4 ύ (spY K mg V9):=by
 show ET D VY (λ_ _ _ _ _ _ us hl=>CV hl '8') (λvs H Q E h=>?_) (λfa a5 A outer s H vs Q E hr h=>?_)
 .done<;>let[_,_,_,_,_,_,_,_,_,r,[_,_,_,_,_,_,_,0,_],_]:=h;show r.length.symm
 .let N:=VY.nd;show{_,AY (Cq (Em HM (pv 2) (El Ar) Ek) (CP rfl (Ai (Ae (i:=3) N rfl (Or.inl rfl)) (Ai (Ae (i:=4) N rfl (Or.inl rfl)) (Ai (Ae (i:=5) N rfl (Or.inl rfl)) BZ)))))
   (AY (Cq (Co Gf Cz (hr.mq) (by rfl) (AG (pv 1) (AG (pv 3) AS))) (CP rfl (Ai (Ae (i:=6) N rfl (Or.inl rfl)) (Ai (Ae (i:=7) N rfl (Or.inl rfl)) BZ))))
   (AY (Dn (Co Gc Cz (hr.mq) (by rfl) (AG (pv 6) (AG (pv 4) (AG (pv 5) AS)))))
   (Ad (Ay (Co Gw Cz (hr.mq) (by rfl) (AG (pv 1) (AG (pv 3) (AG (pv 6) (AG (Co Gp Cz hr (by rfl) (AG (pv 7) (AG (DG (AG (B0 (AG (pv 4) (AG (pv 5) AS))) AS)) AS))) AS))))))))),?_}
  done<;>(let[b,a,Z,xs,K,Kx,hb,f,zh,r,[q,ks,ys,wd,n,rw,c,0,hl,a3,h1,h2],hK,hX]:=h;let[v0,_,0,_,v1,_,0,[p,us,0,pb,hp,C,ru],v2,_,0,[d,ds,0,hd,rd],0]:=r;let nb:p≠b:=λe=>pb (e▸f);let[_,_,0,0,_,_,0,0,rv,_,0,rr,_,_,0,0,0]:=rd);show#[_,0,_,0,d,_,0,hd,λz=>bS z.1 (by change¬HT.dA 4 0 (some 1)=0;decide),λ_ p1 a4=>{p1,[.str n,rv,.int c],0,.of AJ,0,_,_,0,_,_,0,_,_,0,0,?_}];let B:Step b a H (AA H p1 (.tup [.str n,rv,.int c])):=Step.new hb a4;let g:=ER Ds (k:=n) ru C;show{_,0,_,0,p,_,n,0,B.same p _ nb hp,λv O=>?_,λO=>?_}
  case refine_2=>show hX _ _ (h1 ?_) B;cases e:BO ks ys n with|none=>rfl|some z=>let[v,e1,_]:=g.1 z e;rw[O]at e1;cases e1
  cases e:BO ks ys n with|none=>rw[g.2 e]at O;cases O|some z=>
  let[v',e1,rz]:=g.1 z e;rw[O]at e1;cases e1;done<;>(let[qI,t,0,h2]:=h2 z e;let[p2,ws,0,ρ,w1,_,0,M,w2,_,0,a0,0]:=rz);show{p2,[w1,w2],0,.of (B.same p2 _ (hb.neT ρ).1 ρ),0,_,_,0,_,_,0,0,?_};let b1:=B.bag;show{_,0,_,0,_,0,b,a,[AQ qI,AW rw,.int c],λ_=>BC qI.length rw=true/\1<=c/\c<=1000000000000,Kx,b1,{_,_,0,BP f<|Aq f hb B M,_,_,0,BP f<|Aq f hb B rr,_,_,0,0,0},#[qI,rw,c,0,a3,?_],λ_ _ H2 hk s2 _=>?_,λm H2 hm s2=>hX m H2 hm (B.trans s2)}
  .show Aa (λz=>?_) (λz=>?_)
   .rw[aC z]at h2;show Aa (λz2=>#[z,z2]) (λz2=>?_);rw[aB z2]at h2;show h2
   .rw[aB z]at h2;show h2
  rw[aC hk.1,aC hk.2]at h2;let[ht,dW,hn,h2,h3]:=h2;let j:=B.trans s2;let hw:rw.length=qI.length:=by let:=hk.1;unfold BC at this;rw[cB]at this;show aL this.1
  show#[_,0,_,0,_,0,_,0,_,0,_,0,(by decide:2<=sizeLine),λu1 J=>{(by decide:1<=sizeLine),λu2 u=>?_}];let I:=j.trans ((Step.new j.bag J).trans (Step.new (Step.new j.bag J).bag u (o:=.lst [.ref u1])));show{b,a,[Ab t,Ab [(rw,c)]],λx=>∃L,Dw t [(rw,c)]=.inr L/\x=Ab (CN (BF L)),Kx,I.bag,{_,_,0,BP f<|Aq f hb I a0,_,_,0,?_,0},{t,[(rw,c)],0,{ht,dW,qI.length,hn,λq hq=>?_},λL e=>#[L,e,0],h3},λx v H4 hx s4 rx=>?_,λm H4 hm s4=>hX m H4 hm (I.trans s4)}
  .let a1:u1≠u2:=λz=>by rw[<-z,AJ]at u;cases u
   show{u2,_,0,(Step.new j.bag J).bag.nb u,AJ,_,_,0,{u1,_,0,by rw[AE a1,AJ],_,_,0,BP f<|Aq f hb I rr,_,_,0,0,0},0}
  .rw[bI.mp hq];show hw
  .done<;>let[L,e2,0]:=hx;let G:=I.trans s4;show{p,_,n,_,_,0,G.same p _ nb hp,?_,λq1 u3 y a2 ne=>?_}
   .rw[length_zip,aA];lia
   .let zq:¬Z q1:=λz=>by cases e:H q1 with|none=>show zh q1 z e|some o=>
      by_cases σ:q1=b
      .show G.bag.nb y σ
      .rw[G.same q1 o σ e]at y;cases y
    let pt:=Pp (n:=n) f zq G.bag C (CJ f hb G ru) (Aq f hb G M) (r2:=(rx.keep (λp o hz e=>{λz=>?_,e}) λ_ _ e=>e)) y a2 ne
    .show hK _ _ _ (h2 L e2) (G.trans pt.1) pt.2
    .show hz ?_;cases e3:H p with|none=>show bS e3 (zh p z)|some o=>
      by_cases σ:p=b
      .let[l,hl]:=I.bag.atb;rw[σ,hl];intro z;cases z
      .rw[I.same p o σ e3];intro z;cases z
end
section
variable{K:Fg}
def Pr:pF:=(λxs K=>∃qI qC,xs=[AQ qI,AQ qC]/\qC.length<=100/\(∀n∈qC,n∈qI)/\K (.lst ((qC.map (dN qI)).map λ(j:Nat)=>.int (j:Int))))
def kK(D:As K mg "places" LS)(T:TxtB mg)(e:'E' "within" 1 ϰ (spP Gz)):'E' "places" 2 ϯ (spP Pr):=by
 show BV D iQ (λ_ _ _ _ _ _ us d=>Bz d dG) (λxs K h=>?_) '3' (λl j A outer s H E f=>{_,(Ao (Be (DA (Cv (Ac (λ_=>e) (λ_=>f.mq) (AB (qv 1) (AB (qv 0) AH))))) (Aj Z9) Bd) (Aj (Ax (CL (N:=ϯ) (sc:=AN LS) (qD:=[none,some 0]) '1' '3' dF (FK dF (qv 1)) (Cw (k:=0) rfl (λ_=>show List.Nodup (["name","room"]:At)from nofun)) Cf (OJ (qv 1) (qv 0)))))),λxs K h=>?_})
 .let[_,_,0,_]:=h;rfl
 .let[qI,qC,0,d,c,h]:=h;let g:=all_eq_true.mpr λn a=>aK (c n a);simp![Gz,g];show{⋯,⋯,BW.map (λn=>.int (dN qI n)) dG (λn a M i=>?_) ?_}
  .simp![A7];show{dN qI n,(Hx (c n a)).1,(Hx (c n a)).2,i _}
  .simp![A7];rw[bZ]at h;show h
def Ps:pF:=(λxs K=>∃(r:By)(js:FG),xs=[AW r,.lst (js.map λ(j:Nat)=>.int (j:Int))]/\js.length<=100/\(∀j∈js,j<r.length)/\K (AW (js.map λ(j:Nat)=>r.getD j 0)))
def kL(D:As K mg "picked" LU)(T:TxtB mg):'E' "picked" 1 ϭ (spP Ps):=by
 show BV D iR (λ_ _ _ _ _ _ us c=>Bz c dG) (λxs K h=>?_) '3' (λm i A outer s H E l=>{_,(Aj (Ax (Ck (λ_=>GP) GX (λ_=>T.b_tuple) nofun (AB (CL (N:=ϭ) (sc:=AN LU) (qD:=[none,some 0]) '1' '3' dF (Db dF (qv 1)) (Cw (k:=0) rfl (λ_=>show List.Nodup (["spot","row"]:At)from nofun)) Cf (Al 'I' An (qv 1) (qv 0) dG)) AH)))),λxs K h=>?_})
 .let[_,_,0,_]:=h;rfl
 .let[r,a,0,c,f,h]:=h;simp![A7];show{⋯,BW.map (λj=>.int (r.getD j 0)) dG (λj d M g=>?_) ?_}
  .show{.int _,CG ?_,g _};rw[bO,bW,aH (f j d)];rfl
  .simp![A7];let e:AW (a.map λj=>r.getD j 0)=.tup (a.map λj=>P.int (r.getD j 0)):=by change P.tup ((a.map _).map _)=_;rw[bZ];rfl
   rw[e]at h;show h
def Jj:pF:=(λxs K=>∃qI r qC,xs=[AQ qI,AW r,AQ qC]/\qC.length<=100/\r.length=qI.length/\(∀n∈qC,n∈qI)/\K (AW (Az qI r qC)))
def kM(D:As K mg "share" Ol)(T:TxtB mg)(g:'E' "places" 2 ϯ (spP Pr))(f:'E' "picked" 1 ϭ (spP Ps)):'E' "share" 3 Ϧ (spP Jj):=by
 show BV D iS (λ_ _ _ _ _ _ us c=>CV c '8') (λxs K h=>?_) '3' (λo m A outer s H E a=>{_,(Aj (Ax (Ac (λ_=>f) (λ_=>a.mq) (AB (qv 1) (AB (Ac (λ_=>g) (λ_=>a.mq) (AB (qv 0) (AB (qv 2) AH))) AH))))),λxs K h=>?_})
 .let[_,_,_,0,_]:=h;rfl
 .let[qI,r,qC,0,c,a,d,h]:=h;show{qI,qC,0,c,d,r,qC.map _,0,by rw[aA];show c,λj l=>?_,Od,?_}
  .let[n,i,0]:=bU.mp l;rw[a];show LC (d n i)
  .let e:Az qI r qC=(qC.map (dN qI)).map λj=>r.getD j 0:=by rw[bZ];rfl
   rw[<-e];show h
abbrev WA(q:At)(r:By)(c:Int)(e:Ent):Ent:=(e.1,e.2.1,CN (BF (e.2.2++[(Az q r e.2.1,c)])))
def WC:EB:=(λxs K Kx=>∃q B wd r c,xs=[AQ q,A9 B,.tup [.str wd,AW r,.int c]]/\B.length<=8/\(B.map (·.1)).Nodup/\r.length<=1000/\(if BC q.length r=true then(if 1<=c/\c<=1000000000000 then(∀e∈B,EntOk e/\∀n∈e.2.1,n∈q)/\K (A9 (B.map (WA q r c)))else Kx (.nm "BadCount"))else Kx (.nm "BadRow")))
structure Lp(b a p ch:Addr)(Z:Addr->Prop)(Hf H':Hp)(B':List Ent):Prop where
 bag:Bag H' b a
 same:∀x o,x≠b->x≠ch->Hf x\o->H' x\o
 ex:∃us,H' ch\(.dK (((B'.map (·.1)).map Af).zip us))/\AC b (λx=>Z x\/x=p\/x=ch) H' (B'.map BY) us
def WD(r:Rp b Z H (BY e) v)(g:∀x vs,¬Z x->H x\(.lst vs)->¬Z' x/\H' x\(.lst vs))(d:∀x vs,H x\(.tup vs)->H' x\(.tup vs)):Rp b Z' H' (BY e) v:=by
 let[t,vs,0,h1,h,_,0,j,m,_,0,[l,a,0,f,h2,i],0]:=r;show{t,_,0,d t _ h1,h,_,0,?_,_,_,0,{l,a,0,(g l a f h2).1,(g l a f h2).2,?_},0}
 .show(Rp.imm (C0 _) j).keep (λx o c=>bS trivial c) d
 .show(AC.imm (Ht _) i).keep (λx o c=>bS trivial c) d
structure PCt(b a p ch:Addr)(Z:Addr->Prop)(H H4:Hp)(o:Obj)(qH:List (AT×V)):Prop where
 hb:Bag H b a
 zb:Z b
 zh:∀x,Z x->H x≠none
 nb:p≠b
 pch:p≠ch
 chb:ch≠b
 cha:ch≠a
 hp4:H4 p\(.frz o (.dK qH))kp:∀{H5:Hp}{B':List Ent},Lp b a p ch Z H4 H5 B'->∀x o',x≠b->x≠p->H x\o'->H5 x\o'
def kO{o}{e:Ent}{t':Tl}{I w2 qv rv}{D}(P:PCt b a p ch Z H H4 o qH)(L:Lp b a p ch Z H4 H5 Bt)(s6:Step b a H5 H6)(aa:Rp b (λx=>x=b) H6 (AQ q) qv)(a9:Rp b (λx=>x=b) H6 (AW rw) rv)(O:Rp b (λx=>Z x\/x=p\/x=ch) H6 (AQ e.2.1) I)(a7:Rp b (λx=>Z x\/x=p\/x=ch) H6 (Ab e.2.2) w2)(r6:e.2.1.length<=6)(a4:∀n∈e.2.1,n∈q)(hw:rw.length=q.length)(a0:e.1∉Bt.map (·.1))(b8:Bt.length<=8)(C:∀{G}{vs}{Q},Step b a H5 G->AC b (λp=>p=b) G [Ab e.2.2,Ab [(Az q rw e.2.1,c)]] vs->(∀J g,¬bad->Step b a G g->Rp b (λx=>G x≠none) g (Ab t') J->Q J g)->sp vs G Q EE)(a2:¬bad->∀H',Lp b a p ch Z H4 H' (Bt++[(e.1,e.2.1,t')])->D.nx [some qv,some (.ref p),some (.ref d),some rv,some (.int c),some (.ref ch),some (.str e.1),some I,some w2] H'):J6 (tVar 5) (tVar 6) (IS (BI (tVar 7) (BI (E6 sp [] EE (BI (tVar 8) (BI (Ma (BI (IS (BI (E6 (spP Jj) [] E0 (BI (tVar 0) (BI (tVar 3) (BI (tVar 7) B5)))) (BI (tVar 4) B5))) B5)) B5))) B5))) D [some qv,some (.ref p),some (.ref d),some rv,some (.int c),some (.ref ch),some (.str e.1),some I,some w2] H6:=by
 let[hb,zb,zh,nb,σ,E,ag,a3,kp]:=P;show{_,0,_,0,_,0,_,0,_,0,b,a,[AQ q,AW rw,AQ e.2.1],λx=>x=AW (Az q rw e.2.1),s6.bag,(Fx aa (Fx a9 (Fx (Rp.imm (C0 _) O) Oh))),{q,rw,e.2.1,0,⋯,hw,a4,0},λx v H7 hx s7 a8=>?_};subst hx;show#[_,0,(by decide:2<=sizeLine),λw af=>{(by decide:1<=sizeLine),λu2 u=>?_}];let s8:Step b a H7 (AA H7 w (.tup [v,.int c])):=Step.new s7.bag af;let A:Step b a H7 (AA (AA H7 w (.tup [v,.int c])) u2 (.lst [.ref w])):=s8.trans (Step.new s8.bag u);let ac:w≠u2:=λz=>by rw[<-z,AJ]at u;cases u
 let h:=s7.trans A;generalize a5:AA (AA H7 w (.tup [v,.int c])) u2 (.lst [.ref w])=G at A h⊢;let ab:Rp b (λx=>x=b) G (Ab [(Az q rw e.2.1,c)]) (.ref u2):=by show{u2,_,0,s8.bag.nb u,by rw[<-a5,AJ],_,_,0,{w,_,0,by rw[<-a5,AE ac,AJ],_,_,0,Rp.imm (CM _) (Aq rfl s7.bag A (Rp.imm (CM _) a8)),_,_,0,0,0},0}
 let zz:∀{H'},Step b a H5 H'->∀x,(Z x\/x=p\/x=ch)->H' x≠none:=λ{H'}s' x z e0=>by
  let j:=s'.free e0;let z||z||z:=z
  .by_cases xb:x=b
   .let[l,hl]:=L.bag.atb;rw[xb,hl]at j;cases j
   .by_cases xp:x=p
    .rw[xp,L.same p _ nb σ a3]at j;cases j
    .cases hx:H x with|none=>show zh x z hx|some o'=>rw[kp L x o' xb xp hx]at j;cases j
  .rw[z,L.same p _ nb σ a3]at j;cases j
  .let[r,hc,_]:=L.ex;rw[z,hc]at j;cases j
 let a6:=Aq (.inl zb) s6.bag h a7;show C (s6.trans h) {_,_,0,a6.keep (λx o' B e=>{λz=>B (.inl (z▸zb)),e}) (λ_ _ e=>e),_,_,0,ab,0} λJ g a1 s rn=>{(by decide:2<=sizeLine),λM ae=>?_};let i:Step b a g (AA g M (.tup [I,J])):=Step.new s.bag ae;let f:=((s6.trans h).trans s).trans i;let[r,hc,T]:=L.ex;let N:(λx=>Z x\/x=p\/x=ch) b:=.inl zb;let ρ:Rp b (λx=>Z x\/x=p\/x=ch) (AA g M (.tup [I,J])) (BY (e.1,e.2.1,t')) (.ref M):=by show{M,_,0,AJ,_,_,0,Rp.imm (C0 _) (Aq N s6.bag (h.trans (s.trans i)) O),_,_,0,?_,0};show(rn.keep (λx o' B e=>{λz=>B (zz (s6.trans h) x z),i.same x o' (λz=>B (by rw[z];let[l,hl]:=h.bag.atb;rw[hl];intro y;cases y)) e}) λx vs e=>i.same x _ (s.bag.neT e).1 e)
 let[us2,e1,e2]:=Kw Ds (ks:=Bt.map (·.1)) (CJ N L.bag f T) (by rw[aA,aA]) ρ;let e1:Bh (((Bt.map (·.1)).map Af).zip r) (Af e.1) (.ref M)=(((Bt++[(e.1,e.2.1,t')]).map (·.1)).map Af).zip us2:=by rw[e1];unfold Cb;rw[aB a0,cO (l₁:=Bt)];rfl
 let e2:AC b (λx=>Z x\/x=p\/x=ch) (AA g M (.tup [I,J])) ((Bt++[(e.1,e.2.1,t')]).map BY) us2:=by unfold Cn at e2;rw[aB a0]at e2;rw[cO];show e2
 show#[_,0,_,0,ch,_,0,.k (k:=Af e.1) (f.same ch _ E hc) ?_,a2 a1 _ {f.bag.put E ag,λx o' n1 n2 e=>by rw[AE n2];show f.same x o' n1 (L.same x o' n1 n2 e),us2,?_,?_}]
 .let:=T.length;rw[aA]at this;show Nat.lt_of_le_of_lt ?_ (aU (by lia:r.length<1000) '3');rw[length_zip];show Nat.min_le_right _ _
 .rw[AJ,e1]
 .show e2.keep (λx o' B e=>{B,by rw[AE (λz=>B (.inr (.inr z)))];show e}) λx vs e=>by rw[AE (CW e (f.same ch _ E hc) '5')];show e
def WE{EE E}{bad:Ent->Prop}{t':Ent->Tl}{B:List Ent}{qv rv}{us:dH}{K:P->Prop}{Kx:Xn->Prop}{Q}(am:X.H₀=H)(hb:Bag H b a)(O:Z b)(zh:∀x,Z x->H x≠none)(rq:Rp b Z H (AQ q) qv)(pb:¬Z p)(A:H p\(.dK (((B.map (·.1)).map Af).zip us)))(ru:AC b Z H (B.map BY) us)(hd:H d\(.tup [.str wd,rv,.int c]))(rr:Rp b Z H (AW rw) rv)(B8:B.length<=8)(as:(B.map (·.1)).Nodup)(ag:rw.length<=1000)(h2:if BC q.length rw=true then(if 1<=c/\c<=1000000000000 then(∀e∈B,EntOk e/\∀n∈e.2.1,n∈q)/\F else Kx (.nm "BadCount"))else Kx (.nm "BadRow"))(hK:∀x v H',K x->Step b a H H'->Rp b Z H' x v->Q v H')(hX:∀n H',Kx n->Step b a H H'->Ew Kf mg E n H')(G:F->∀(i)(e),B[i]?\e->EntOk e->(∀(j:Nat)(f),j<i->B[j]?\f->¬bad f)->∀{M}{vs}{R},Bag M b a->(∀H',Step b a M H'->Step b a H (AA H' p (.dK (((B.map (·.1)).map Af).zip us)))/\∃o,H' p\(.frz o (.dK (((B.map (·.1)).map Af).zip us))))->AC b (λp=>p=b) M [Ab e.2.2,Ab [(Az q rw e.2.1,c)]] vs->(∀vn ρ,¬bad e->Step b a M ρ->Rp b (λx=>M x≠none) ρ (Ab (t' e)) vn->R vn ρ)->sp vs M R EE)(hF:F->(∀e∈B,¬bad e)->K (A9 (B.map λe=>(e.1,e.2.1,t' e)))):G8 (Eh (Mb M3 (tVar 2) (Q7 (tC (V.int 1))) Q6) (gTup G1 2 (gCons (CK 3) (gCons (CK 4) FZ)))) (G8 (MN (E6 (Ey Kf mg IF) [] E (BI (tVar 0) (BI (tVar 3) (BI (tVar 4) B5))))) (G8 (Eh RS (CK 5)) (G8 (λD Y H'=>∃p qH,VI X p qH (Qf (VG (tVar 1)) (gTup G2 2 (gCons (CK 6) (gCons (gTup G3 2 (gCons (CK 7) (gCons (CK 8) FZ))) FZ))) (J6 (tVar 5) (tVar 6) (IS (BI (tVar 7) (BI (E6 sp [] EE (BI (tVar 8) (BI (Ma (BI (IS (BI (E6 (spP Jj) [] E0 (BI (tVar 0) (BI (tVar 3) (BI (tVar 7) B5)))) (BI (tVar 4) B5))) B5)) B5))) B5))))) D Y H') (QX (tVar 5))))) {nx:=λ_ H'=>Q .non H',rt:=Q} [some qv,some (.ref p),some (.ref d),none,none,none,none,none,none] H:=by
 let nb:p≠b:=λe=>pb (e▸O);let h0:∀o u,H p≠some (.frz o u):=λo u e=>by rw[A]at e;cases e
 show#[_,0,_,0,d,_,0,hd,λz=>bS z.1 (by change¬HT.dA 3 0 (some 1)=0;decide),λ_ p1 aj=>{p1,[rv,.int c],0,.of AJ,0,_,_,0,_,_,0,0,?_}];let s1:Step b a H (AA H p1 (.tup [rv,.int c])):=Step.new hb aj;show{_,0,_,0,_,0,b,a,[AQ q,AW rw,.int c],λ_=>BC q.length rw=true/\1<=c/\c<=1000000000000,Kx,s1.bag,(Fx (BP O<|Aq O hb s1 rq) (Fx (BP O<|Aq O hb s1 rr) (Fx rfl Oh))),#[q,rw,c,0,ag,?_],λ_ _ H2 hk a5 _ ch w=>?_,λm H2 hm J=>hX m H2 hm (s1.trans J)}
 .show Aa (λz=>?_) (λz=>?_)
  .rw[aC z]at h2;show Aa (λz2=>#[z,z2]) (λz2=>?_);rw[aB z2]at h2;show h2
  .rw[aB z]at h2;show h2
 rw[aC hk.1,aC hk.2]at h2;let[eo,h2]:=h2;let J:=s1.trans a5;let hw:rw.length=q.length:=by let:=hk.1;unfold BC at this;rw[cB]at this;show aL this.1
 let s3:Step b a H (AA H2 ch (.dK [])):=J.trans (Step.new J.bag w);let a1:=s3.same p _ nb A;let r:=Ak (J.same p _ nb A) w;let pa:p≠a:=λe=>by let[l,hl]:=hb.ata;rw[e,hl]at A;cases A
 show#[p,_,a1,am▸h0,λo=>{_,0,p,o,_,0,AJ,λvw s=>?_}];let ul:=ru.length;rw[aA]at ul;let kl:(((B.map (·.1)).map Af).zip us).length=B.length:=by rw[length_zip,aA,aA];simp_all
 generalize aq:((B.map (·.1)).map Af).zip us=qH at A a1 kl s h0 G⊢;let au:ch≠vw:=λe=>by rw[<-e,AE (Ne.symm r),AJ]at s;cases s
 let ae:p≠vw:=λe=>by rw[<-e,AJ]at s;cases s
 let h4:∀x o',x≠p->AA H2 ch (.dK []) x\o'->AA (AA (AA H2 ch (.dK [])) p (.frz o (.dK qH))) vw (DB vw p) x\o':=λx o' n e=>by
  let g:AA (AA H2 ch (.dK [])) p (.frz o (.dK qH)) x\o':=by rw[AE n];show e
  rw[AE (Ak g s)];show g
 let b4:Bag (AA (AA (AA H2 ch (.dK [])) p (.frz o (.dK qH))) vw (DB vw p)) b a:=(s3.bag.put nb pa).new s;let start:Lp b a p ch Z (AA (AA (AA H2 ch (.dK [])) p (.frz o (.dK qH))) vw (DB vw p)) (AA (AA (AA H2 ch (.dK [])) p (.frz o (.dK qH))) vw (DB vw p)) []:={b4,λ_ _ _ _ e=>e,[],h4 ch _ (Ne.symm r) AJ,0};generalize ar:AA (AA (AA H2 ch (.dK [])) p (.frz o (.dK qH))) vw (DB vw p)=H4 at h4 b4 start⊢;let C:H4 p\(.frz o (.dK qH)):=by rw[<-ar,AE ae,AJ]
 let T:∀{I:Hp}{B'},Lp b a p ch Z H4 I B'->∀x o',x≠b->x≠p->H x\o'->I x\o':=λ{I B'}L x o' n1 n2 e=>L.same x o' n1 (Ak (J.same x o' n1 e) w) (h4 x o' n2 (s3.same x o' n1 e));show g8 (λi Y H'=>(∃x6 x7 x8:Option V,Y=[some qv,some (.ref p),some (.ref d),some rv,some (.int c),some (.ref ch),x6,x7,x8])/\Lp b a p ch Z H4 H' ((B.take i).map (λe=>(e.1,e.2.1,t' e)))/\∀(j:Nat)(f:Ent),j<i->B[j]?\f->¬bad f) #[#[_,_,_,0],start,λj f z=>bS z (Nat.not_lt_zero j)] (λi Y H' hI=>hI.2.1.same p _ nb r C) (λi pr Y I qn a0 hI ah=>?_) (λY I hI=>?_)
 .done<;>let[[x6,x7,x8,0],L,y]:=hI;let hi:i<B.length:=by rw[<-kl];show(aI.mp a0).1
  let hB:=aH hi;let[v,hv,a9]:=ru.get (by rw[bO,hB];rfl);let ao:pr=(Af B[i].1,v):=by
   let z:(((B.map (·.1)).map Af).zip us)[i]?\(Af B[i].1,v):=by rw[getElem?_zip_eq_some];show{by rw[bO,bO,hB];rfl,hv}
   rw[aq,a0]at z;show oI z
  subst ao;let[a3,a2]:=eo B[i] (getElem_mem hi);let ap:B[i].1∉(B.take i).map (·.1):=λz=>by let[j,hj,N]:=mem_iff_getElem.mp z;rw[aA,aO]at hj;rw[getElem_map,getElem_take]at N;let ak:j<B.length:=⋯;let:=(getElem_inj as (h₀:=by rw[aA];show ak) (h₁:=by rw[aA];show hi)).mp (by rw[getElem_map,getElem_map];show N);lia
  let an:B.take (i+1)=B.take i++[B[i]]:=by rw[take_add_one,hB];rfl
  rw[an,cO];generalize B[i]=e at*;let s6:Step b a I (AA I qn (.tup [.str e.1,v])):=Step.new L.bag ah;let a8:Rp b (λx=>Z x\/x=p\/x=ch) (AA I qn (.tup [.str e.1,v])) (BY e) v:=WD a9 (λx vs zx g=>by let xb:x≠b:=λz=>zx (z▸O);let xp:x≠p:=CW g A '5';show{λz=>z.elim zx λz=>z.elim xp (Ak (J.same x _ xb g) w),s6.same x _ xb (T L x _ xb xp g)}) λx vs g=>s6.same x _ (hb.neT g).1 (T L x _ (hb.neT g).1 (CW g A '5') g)
  done<;>let[pz,_,0,ai,w1,_,0,a7,w2,_,0,a6,0]:=a8;show{qn,[.str e.1,.ref pz],0,.of AJ,0,_,_,0,_,_,0,pz,[w1,w2],0,.of ai,0,_,_,0,_,_,0,0,0,?_};let ac:Rp b (λx=>x=b) (AA I qn (.tup [.str e.1,.ref pz])) (AQ q) qv:=(Rp.imm (C0 _) rq).keep (λx o' σ=>bS trivial σ) (λx vs g=>s6.same x _ (hb.neT g).1 (T L x _ (hb.neT g).1 (CW g A '5') g));let ab:Rp b (λx=>x=b) (AA I qn (.tup [.str e.1,.ref pz])) (AW rw) rv:=(Rp.imm (CM _) rr).keep (λx o' σ=>bS trivial σ) (λx vs g=>s6.same x _ (hb.neT g).1 (T L x _ (hb.neT g).1 (CW g A '5') g));let P:PCt b a p ch Z H H4 o qH:={hb,O,zh,nb,r,J.bag.nb w,J.bag.na w,C,T};let ll:((B.take i).map (λe=>(e.1,e.2.1,t' e))).map (·.1)=(B.take i).map (·.1):=by rw[bZ];rfl
  let lt:(B.take i).length<=8:=by rw[aO];lia
  let al:∀{M H':Hp},Step b a I M->Step b a M H'->Step b a H (AA H' p (.dK qH))/\∃o,H' p\(.frz o (.dK qH)):=λ{M H'}s9 s'=>#[{s'.bag.put nb pa,λx o' n e=>by
   by_cases z:x=p
   .rw[z,AJ,<-e,z,A]
   .rw[AE z];show(s9.trans s').same x o' n (T L x o' n z e)},o,(s9.trans s').same p _ nb (L.same p _ nb r C)]
  show kO P L s6 ac ab a7 a6 a3.r6 a2 hw (by rw[ll];show ap) (by rw[aA];show lt) (λs9 r9 kq=>G h2 i e hB a3 y s9.bag (λH' s'=>al s9 s') r9 kq) (λaf H' L'=>#[#[_,_,_,0],L',λj f z N=>?_]);let z2||z2:=cE j i
  .show y j f z2 N
  .let:j=i:=⋯;rw[this,hB]at N;cases N;show af
 .let[[x6,x7,x8,0],L,y]:=hI;rw[kl,take_of_length_le (aQ _)]at L;let[a4,hc,aa]:=L.ex;show#[L.same p _ nb r C,_,0,hK _ _ _ (hF h2 λe he=>?_) {L.bag.put nb pa,λx o' n e=>?_} {ch,a4,0,λz=>?_,?_,?_,?_}]
  .let[j,hj,N]:=mem_iff_getElem.mp he;show y j e (by rw[kl];show hj) (by rw[<-N];show aH hj)
  .by_cases z:x=p
   .rw[z,AJ,<-e,z,A]
   .rw[AE z];show T L x o' n z e
  .show zh ch z (J.free w)
  .rw[AE (Ne.symm r)];show hc
  .rw[aA,aA,aA,aA]
  .show aa.keep (λx o' σ e=>{λz=>σ (.inl z),?_}) λx vs e=>?_
   .rw[AE (λz=>σ (.inr (.inl z)))];show e
   .rw[AE (CW e (L.same p _ nb r C) '5')];show e
end
section
variable{K:Fg}
def kP(D:As K mg "entered" Ov)(T:TxtC K mg)(Gc:BG P' w K mg base "check_papers" 2 Ϛ (Ey K mg IF))(Gp:'E' "plus" 2 ϓ (spP Pg))(Gs:'E' "share" 3 Ϧ (spP Jj)):BG P' w K mg base "entered" 4 ύ (spY K mg WC):=by
 show ET D VV (λ_ _ _ _ _ _ us hl=>CV hl '8') (λvs H Q E h=>?_) (λfa a0 A outer s H vs Q E j h=>?_)
 .done<;>let[_,_,_,_,_,_,_,_,_,r,[_,_,_,_,_,0,_],_]:=h;show r.length.symm
 .let f:=VV.nd;let σ:=C8 j;show{_,AY (Cq (Em HM (pv 2) (El Ar) Ek) (CP rfl (Ai (Ae (i:=3) f rfl (Or.inl rfl)) (Ai (Ae (i:=4) f rfl (Or.inl rfl)) BZ))))
   (AY (Dn (Co Gc Cz (j.mq) (by rfl) (AG (pv 0) (AG (pv 3) (AG (pv 4) AS)))))
   (AY (Aw (i:=5) f rfl (Or.inl rfl) Mq)
   (AY (JX (Dz PassesOwn.leaving rfl (VH (pv 1)) (CP rfl (Ai (Ae (i:=6) f rfl (Or.inl rfl)) (Ai (CP rfl (Ai (Ae (i:=7) f rfl (Or.inl rfl)) (Ai (Ae (i:=8) f rfl (Or.inl rfl)) BZ))) BZ)))
    (Ad (J7 σ (pv 5) (pv 6) (B0 (AG (pv 7) (AG (Bv Gp (j.mq) (by rfl) (AG (pv 8) (AG (DG (AG (B0 (AG (Bv Gs j (by rfl) (AG (pv 0) (AG (pv 3) (AG (pv 7) AS)))) (AG (pv 4) AS))) AS)) AS))) AS))) rfl))))
   (Ad (Ay (pv 5)))))),?_}
  done<;>(let[b,a,Z,xs,K,Kx,hb,C,y,r,[q,B,wd,rw,c,0,B8,o,n,h2],hK,hX]:=h;let[qv,_,0,L,v1,_,0,[p,us,0,pb,hp,v,I],v2,_,0,[d,ds,0,hd,N],0]:=r;let[_,_,0,0,rv,_,0,J,_,_,0,0,0]:=N);show WE rfl hb C y L pb hp I hd J B8 o n h2 hK hX (λ_ i e _ g _{H9 _ _}b9 _ O ρ=>{b,a,_,λx=>x=Ab (CN (BF (e.2.2++[(Az q rw e.2.1,c)]))),b9,O,{e.2.2,[(Az q rw e.2.1,c)],0,g.few,{e.2.1.length,λx m=>?_},0},λx G u m l M=>ρ G u id l (m▸M)}) (λh _=>h);let z||z:=bA.mp m
  .show g.rows x z
  .rw[bI.mp z];show Gg q rw e.2.1
end
section
variable{K:Fg}
abbrev Di(q:At)(r:By)(c:Int)(e:Ent):Prop:=(Ag e.2.2 (Az q r e.2.1)).getD 0-c<0
abbrev WF(q:At)(r:By)(c:Int)(e:Ent):Ent:=(e.1,e.2.1,CN (BF (EV e.2.2 (Az q r e.2.1,c))))
def WG:EB:=(λxs K Kx=>∃q B wd r c,xs=[AQ q,A9 B,.tup [.str wd,AW r,.int c]]/\B.length<=8/\(B.map (·.1)).Nodup/\r.length<=1000/\(if BC q.length r=true then(if 1<=c/\c<=1000000000000 then(∀e∈B,EntOk e/\∀n∈e.2.1,n∈q)/\((∀e∈B,¬Di q r c e)->K (A9 (B.map (WF q r c))))/\(∀(i:Nat)(e:Ent),B[i]?\e->(∀(j:Nat)(f:Ent),j<i->B[j]?\f->¬Di q r c f)->Di q r c e->Kx (.vl "TooFew" "row" (AW (Az q r e.2.1))))else Kx (.nm "BadCount"))else Kx (.nm "BadRow")))
def kQ(D:As K mg "withdrawn" Ox)(T:TxtC K mg)(Gc:BG P' w K mg base "check_papers" 2 Ϛ (Ey K mg IF))(Gp:BG P' w K mg base "less" 3 ϓ (Ey K mg Ph))(Gs:'E' "share" 3 Ϧ (spP Jj)):BG P' w K mg base "withdrawn" 4 ύ (spY K mg WG):=by
 show ET D VW (λ_ _ _ _ _ _ us hl=>CV hl '8') (λvs H Q E h=>?_) (λfa a6 A outer s H vs Q E σ h=>?_)
 .done<;>let[_,_,_,_,_,_,_,_,_,r,[_,_,_,_,_,0,_],_]:=h;show r.length.symm
 .let J:=VW.nd;let hu:=C8 σ;done<;>(let[b,a,Z,xs,KK,Kx,hb,zb,zh,r,[q,B,wd,rw,c,0,B8,a4,a2,h2],hK,hX]:=h;let[qv,_,0,rq,v1,_,0,[p,us,0,pb,hp,a5,ru],v2,_,0,[d,ds,0,hd,rd],0]:=r);let h0:∀o u,H p≠some (.frz o u):=λo u e=>by rw[hp]at e;cases e
  show{_,AY (Cq (Em HM (pv 2) (El Ar) Ek) (CP rfl (Ai (Ae (i:=3) J rfl (Or.inl rfl)) (Ai (Ae (i:=4) J rfl (Or.inl rfl)) BZ))))
   (AY (Dn (Co Gc Cz (σ.mq) (by rfl) (AG (pv 0) (AG (pv 3) (AG (pv 4) AS)))))
   (AY (Aw (i:=5) J rfl (Or.inl rfl) Mq)
   (AY (JX (Dz PassesOwn.leaving rfl (VH (pv 1)) (CP rfl (Ai (Ae (i:=6) J rfl (Or.inl rfl)) (Ai (CP rfl (Ai (Ae (i:=7) J rfl (Or.inl rfl)) (Ai (Ae (i:=8) J rfl (Or.inl rfl)) BZ))) BZ)))
    (Ad (J7 hu (pv 5) (pv 6) (B0 (AG (pv 7) (AG (Co (E:=λa3 d H'=>∃o,H' p\(.frz o (.dK (((B.map (·.1)).map Af).zip us)))/\E a3 d (AA H' p (.dK (((B.map (·.1)).map Af).zip us)))) Gp (g9 h0) σ (by rfl) (AG (pv 8) (AG (DG (AG (B0 (AG (Bv Gs σ (by rfl) (AG (pv 0) (AG (pv 3) (AG (pv 7) AS)))) (AG (pv 4) AS))) AS)) AS))) AS))) rfl))))
   (Ad (Ay (pv 5)))))),?_}
  done<;>let[_,_,0,0,rv,_,0,rr,_,_,0,0,0]:=rd;show WE rfl hb zb zh rq pb hp ru hd rr B8 a4 a2 h2 hK hX (λh i e hB I N{H9 _ _}b9 a0 r9 kq=>{b,a,_,λx=>¬Di q rw c e/\x=Ab (CN (BF (EV e.2.2 (Az q rw e.2.1,c)))),Kx,b9,r9,{e.2.2,[(Az q rw e.2.1,c)],0,{I.few,I.nd,e.2.1.length,I.rows,λx ρ=>?_},λt2 j=>?_,λr2 j=>?_},λx vn O ρ G rn=>kq vn O ρ.1 G (ρ.2▸rn),λm O hm G=>?_}) (λh=>h.1)
  .rw[bI.mp ρ];show Gg q rw e.2.1
  .replace j:(if Di q rw c e then Sum.inl (Az q rw e.2.1)else .inr (EV e.2.2 (Az q rw e.2.1,c)))=.inr t2:=j
   by_cases l:Di q rw c e
   .rw[aC l]at j;cases j
   .rw[aB l]at j;cases j;show#[l,0]
  .replace j:(if Di q rw c e then Sum.inl (Az q rw e.2.1)else .inr (EV e.2.2 (Az q rw e.2.1,c)))=.inl r2:=j
   by_cases l:Di q rw c e
   .rw[aC l]at j;cases j;show h.2 i e hB N l
   .rw[aB l]at j;cases j
  .let[a1,o,g]:=a0 _ G;let L:=hX m _ hm a1;cases m with|nm n=>showλC xc=>{o,g,L C xc}|vl n f y=>showλC dx v xc dr M rv=>{o,g,L C dx v xc dr (by rw[AE (CW M g '5')];show M) λb' Z'=>((rv b' (λ_=>True)).keep (λx o' hz=>bS trivial hz) λx vs e=>by rw[AE (CW e g '5')];show e)}
end
section
variable{K:Fg}
abbrev Jk(rs:List At):P:=.lst (rs.map AQ)
def kR(h):atI (rs.map AQ) (n:Int)\(AQ rs[n]):=CG (by rw[bO,aH h];rfl)
def WH:pF:=(λxs K=>∃one qE,xs=[AQ one,AQ qE]/\one.length<=100/\K (AQ (CU one qE)))
def kS(D:As K mg "common" LR)(T:TxtB mg):'E' "common" 1 ϓ (spP WH):=by
 show BV D iP (λ_ _ _ _ _ _ us c=>Bz c dG) (λxs K h=>?_) '3' (λg f A outer s H E e=>{_,(Aj (Ax (Ck (λ_=>GP) GX (λ_=>T.b_tuple) nofun (AB (CL (N:=ϓ) (sc:=AN LR) (qD:=[none,some 1]) '1' '3' dF (FK dF (qv 0)) (Cw (k:=0) rfl (λ_=>show List.Nodup (["name","other"]:At)from nofun)) (Hh (Av (λ_=>(Ko e)) Kp (qv 0) (qv 1) (by rfl))) (qv 0)) AH)))),λxs K h=>?_})
 .let[_,_,0,_]:=h;rfl
 .let[one,d,0,c,h]:=h;simp![A7];show{⋯,BW.filter (λn=>decide (n∈d)) P.str '8' (λn _ M a=>?_) ?_}
  .simp![Nn];let a:=a .cl;show Aa (λz=>?_) (λz=>?_)
   .rw[aC (~~~z)]at a;show a
   .rw[aB (~~~z)]at a;show a
  .simp![A7];show h
def WI:pF:=(λxs K=>∃qI t qC,xs=[AQ qI,Ab t,AQ qC]/\Sh qI t qC/\t.length<=63/\K (Ab (CN (BF (Cc qI t qC)))))
def kT(D:As K mg "shared" LX)(T:TxtB mg)(l:'E' "places" 2 ϯ (spP Pr))(g:'E' "picked" 1 ϭ (spP Ps))(m:'E' "summed" 1 ["papers"] (spP G0)):'E' "shared" 3 ["room","rows","part"] (spP WI):=by
 show BV D VQ (λ_ _ _ _ _ _ us r=>CV r '8') (λxs K h=>?_) '3' (λB v A outer s H E c=>{_,(Ao (BN (k:=3) (λ_=>VQ.nd) (Ac (λ_=>l) (λ_=>c.mq) (AB (qv 0) (AB (qv 2) AH)))) (Aj (Ax (Ac (λ_=>m) (λ_=>c.mq) (AB (CL (N:=["room","rows","part","spots"]) (sc:=AN LX) (qD:=[none,none,some 3]) '1' '3' dF (Db dF (qv 1)) (GR rfl rfl dF dF (λ_=>(Ai (Ae (i:=0) (show List.Nodup (["row","count","spots"]:At)from nofun) rfl (Or.inl rfl)) (Ai (Ae (i:=1) (show List.Nodup (["row","count","spots"]:At)from nofun) rfl (Or.inl rfl)) BZ)))) Cf (DK (AB (Ac (λ_=>g) (λ_=>c.mq) (AB (qv 0) (AB (qv 2) AH))) (AB (qv 1) AH)))) AH))))),λxs K h=>?_})
 .let[_,_,_,0,_]:=h;rfl
 .let[qI,t,qC,0,a,y,h]:=h;let h1:=a.len;show{qI,qC,0,⋯,a.sub,_,0,'5',by rw[aA];lia,BW.map (λq=>A5 (Az qI q.1 qC,q.2)) (λ_ _=>OC _) (λq d M f=>JT ?_) ?_}
  .let e:Az qI q.1 qC=(qC.map (dN qI)).map λj=>q.1.getD j 0:=by unfold Az;rw[bZ];rfl
   let f:=f (DJ [(AW (Az qI q.1 qC),.nw),(.int q.2,.cl)]);show{q.1,qC.map (dN qI),0,by rw[aA];lia,λj u=>?_,0,?_}
   .let[n,o,0]:=bU.mp u;rw[a.rows q d];show LC (a.sub n o)
   .rw[<-e];show f
  .show{Cc qI t qC,by unfold Cc;rw[Ab,bZ];rfl,by rw[LD];lia,{qC.length,λq d=>?_},Od,h};let[p,x,0]:=bU.mp d;show Gg _ _ _
inductive Pt(xs:dI)(K:(P->Prop)):Prop|mk(qI t qB u:_)(_:xs=[AQ qI,Ab t,AQ qB,Ab u])(_:qI.length<=100)(_:qB.length<=100)(_:Tal qI.length t)(_:Tal qB.length u)(_:t.length<=63)(_:u.length<=63)(_:K (fV (Hy (Ch qI t (CU qI qB)) (Ch qB u (CU qI qB)))))
def kU(D:As K mg "bar" LY)(T:TxtB mg)(n:'E' "common" 1 ϓ (spP WH))(i:'E' "shared" 3 ["room","rows","part"] (spP WI)):'E' "bar" 4 Ϣ (spP Pt):=by
 show BV D Ja (λ_ _ _ _ _ _ us q=>QL q (λ_ _ _ _=>rfl)) (λxs K h=>?_) '3' (λG B A outer s H E d=>?_)
 .done<;>let[_,_,_,_,0,_]:=h;rfl
 .let j:=C8 d;show{_,(Ao (BN (k:=4) (λ_=>Ja.nd) (Ac (λ_=>n) (λ_=>d.mq) (AB (qv 0) (AB (qv 2) AH))))
 (Ao (BN (k:=5) (λ_=>Ja.nd) (Ck (λ_=>(JK rfl d)) JL (λ_=>T.b_dict) nofun (AB (Ac (λ_=>i) (λ_=>d.mq) (AB (qv 0) (AB (qv 1) (AB (qv 4) AH)))) AH)))
 (Ao (BN (k:=6) (λ_=>Ja.nd) (Ck (λ_=>(JK rfl d)) JL (λ_=>T.b_dict) nofun (AB (Ac (λ_=>i) (λ_=>d.mq) (AB (qv 2) (AB (qv 3) (AB (qv 4) AH)))) AH)))
 (Ao (du (k:=7) (λ_=>Ja.nd) (N:=Ϫ) (sc:=AN LY) (qD:=[none,some 5,some 6]) '1' '3' dF (Db dF (BE (λ_=>GV) GW (Ck (λ_=>(Nz rfl)) N9 (λ_=>T.b_list) nofun (AB (qv 5) AH)) (Ck (λ_=>(Nz rfl)) N9 (λ_=>T.b_list) nofun (AB (qv 6) AH)))) (Cw (k:=0) rfl (λ_=>show List.Nodup (["row","one","other"]:At)from nofun)) (Hh (Av (λ_=>(Cm d)) Cg (GY (λ_=>j) (qv 1) (qv 0) AK) (GY (λ_=>j) (qv 2) (qv 0) AK) (Ah _))) (qv 0))
 (Aj (Ax (fK dF (λ_=>d) (λ_=>T.b_min) (qv 7) R6))))))),λxs K h=>?_}
  done<;>let[qI,t,qB,u,0,l1,l2,g,c,p,o,h]:=h;let C:=fX qI qB;let y:CN (BF (Cc qI t (CU qI qB)))=Ch qI t (CU qI qB):=US (Gh g);let v:CN (BF (Cc qB u (CU qI qB)))=Ch qB u (CU qI qB):=US (Gh c);let m:Tal (CU qI qB).length (Ch qI t (CU qI qB)):=UU (Gh g) g.few;let l:Tal (CU qI qB).length (Ch qB u (CU qI qB)):=UU (Gh c) c.few;let J:=m.few;let I:=l.few;show#[qI,qB,0,⋯,BX (C0 _) {qI,t,_,0,UX g ⋯ (UW _ _).1,p,?_}];rw[y];show{_,0,⋯,?_};rw[JQ m.nd];show{qB,u,_,0,UX c ⋯ (UW _ _).2,o,?_};rw[v];show{_,0,⋯,?_};rw[JQ l.nd];generalize Ch qI t (CU qI qB)=a at*;generalize Ch qB u (CU qI qB)=b at*;show{by rw[aA,aA,aA,aA];lia,_,0,by rw[U3,U3];nofun,by rw[aG,aA,aA,aA,aA];lia,?_};rw[<-cO];show BW.filter (λr=>decide ((Ag a r).getD 0≠(Ag b r).getD 0)) AW (λ_ _ _=>CM _) (λr _ M f=>BX (CM _) #[{0,λ_ h=>nomatch h},_,ES r,Gy _,0,{0,λ_ h=>nomatch h},_,ES r,Gy _,0,?_]) ?_
  .let f:=f .cl;rw[Gx,Gx];show#[#[0,0],_,0,Aa (λz=>?_) (λz=>?_)]<;>rw[JH]at z
   .rw[aC (~~~z)]at f;show f
   .rw[aB (~~~z)]at f;show f
  .unfold Hy UV at h;show#[_,0,0,λz=>#[0,?_],λx r e=>{Cd (CM _),?_}]
   .rw[z]at h;show h
   .rw[e,fU]at h;show h
structure Tls(rs:List At)(ts:List Tl)(n:Nat):Prop where
 len:ts.length=rs.length
 tal:∀(i:Nat)(r:At)(t:Tl),rs[i]?\r->ts[i]?\t->Tal r.length t
 few:∀t∈ts,t.length<=n
abbrev Jl(ts:List Tl):P:=.lst (ts.map Ab)
def kW(h):atI (ts.map Ab) (n:Int)\(Ab ts[n]):=CG (by rw[bO,aH h];rfl)
end
section
variable{K:Fg}
abbrev IG(q:Nat×Nat×By):P:=.tup [.int q.1,.int q.2.1,AW q.2.2]
def kX(q):(IG q).imm=true:='2'
def Dj(rs:List At)(ts:List Tl)(k i:Nat):List (Nat×Nat×By):=(((Hy (Ch (rs.getD k []) (ts.getD k []) (CU (rs.getD k []) (rs.getD i []))) (Ch (rs.getD i []) (ts.getD i []) (CU (rs.getD k []) (rs.getD i [])))).map λr=>(k,i,r)).toList)
def WJ(d)(hi:i<rs.length)(a:k<ts.length)(c:i<ts.length):Dj rs ts k i=((Hy (Ch rs[k] ts[k] (CU rs[k] rs[i])) (Ch rs[i] ts[i] (CU rs[k] rs[i]))).map λr=>(k,i,r)).toList:=by unfold Dj;simp_all
def FV(rs:List At)(ts:List Tl)(k:Nat):List (Nat×Nat×By):=((List.range (rs.length-(k+1))).flatMap λd=>Dj rs ts k (k+1+d))
def F3(rs:List At)(ts:List Tl):List (Nat×Nat×By):=((List.range rs.length).flatMap (FV rs ts))
def WK(rs)(ts)(k i):(Dj rs ts k i).length<=1:=by unfold Dj;simp
def Pu{α c:Type}(l:List α)(f:α->List c)(h:∀a,(f a).length<=n):(l.flatMap f).length<=l.length*n:=by induction l with|nil=>simp|cons a l d=>rw[flatMap_cons,aG,length_cons];grind
def kY(rs)(ts)(k):(FV rs ts k).length<=rs.length:=by let:=Pu (List.range (rs.length-(k+1))) _ (λd=>WK rs ts k (k+1+d));rw[bG]at this;unfold FV;omega
def WL(rs)(ts)(j):((List.range j).flatMap (FV rs ts)).length<=j*rs.length:=by
 let:=Pu (List.range j) _ (kY rs ts)
 rwa[bG]at this
structure Brs(rs:List At)(ts:List Tl):Prop where
 l8:rs.length<=8
 rl:∀r∈rs,r.length<=100
 tl:Tls rs ts 63
def Pw:pF:=(λxs K=>∃rs ts,xs=[Jk rs,Jl ts]/\Brs rs ts/\K (.lst ((F3 rs ts).map IG)))
abbrev FW(rs:List At)(ts:List Tl)(bs:List (Nat×Nat×By))(k x y:S):dJ:=[.sh (Jk rs),.sh (Jl ts),.own (.lst (bs.map IG)),k,x,y]
inductive Px(E:PEnds)(U:dJ):Prop|mk(rs ts bs k i x:_)(_:Brs rs ts)(_:k<rs.length)(_:i<rs.length)(_:bs.length<=1000)(_:U=FW rs ts bs (.sh (.int (k:Nat))) (.sh (.int (i:Nat))) x)(_:∀x,E.nx (FW rs ts (bs++Dj rs ts k i) (.sh (.int k)) (.sh (.int i)) x))
inductive L7(E:PEnds)(U:dJ):Prop|mk(rs ts bs k x y:_)(_:Brs rs ts)(_:k<rs.length)(_:bs.length<=100)(_:U=FW rs ts bs (.sh (.int (k:Nat))) x y)(_:∀x y,E.nx (FW rs ts (bs++FV rs ts k) (.sh (.int k)) x y))
def WM:pS:=(λE U=>∃rs ts,Brs rs ts/\U=FW rs ts [] .emp .emp .emp/\∀z x y,E.nx (FW rs ts (F3 rs ts) z x y))
def kZ:∀E U,Px E U->(NR (Ik (KU Pt (DZ (D7 GU (Ca 0) (Ca 3)) (DZ (D7 GU (Ca 1) (Ca 3)) (DZ (D7 GU (Ca 0) (Ca 4)) (DZ (D7 GU (Ca 1) (Ca 4)) Fk))))) 5) (NS (HW (D7 NZ (Ca 5) (pK P.non))) (JD 2 (NG λU K=>DZ (Ca 3) (DZ (Ca 4) (DZ (Ca 5) Fk)) U λxs=>xs.length=3/\K xs)) NQ)) E U:=by rintro E U⟨rs,ts,bs,k,i,x,ok,d,hi,l1,rfl,h⟩;let o:=ok.tl.len;let m:∀{j},(f:j<rs.length)->atI (rs.map AQ) j\(AQ rs[j]):=λf=>kR f;let l:∀{j},(f:j<ts.length)->atI (ts.map Ab) j\(Ab ts[j]):=λf=>kW f;let a:k<ts.length:=(by simp_all);let c:i<ts.length:=⋯;let tk:=ok.tl.tal k _ _ (aH d) (aH a);let n:=ok.tl.tal i _ _ (aH hi) (aH c);show{_,m d,_,l a,_,m hi,_,l c,_,_,_,_,0,ok.rl _ (getElem_mem d),ok.rl _ (getElem_mem hi),tk,n,ok.tl.few _ (getElem_mem a),ok.tl.few _ (getElem_mem c),?_};cases e:Hy (Ch rs[k] ts[k] (CU rs[k] rs[i])) (Ch rs[i] ts[i] (CU rs[k] rs[i]))with
 |none=>
  let g:Dj rs ts k i=[]:=by rw[WJ d hi a c,e];rfl
  let:=h (.sh .non);rw[g,cP]at this;show#[0,_,0,this]|some r=>
  let g:Dj rs ts k i=[(k,i,r)]:=by rw[WJ d hi a c,e];rfl
  let:=h (.sh (AW r));rw[g,FW,cO]at this;show BX (CM _) {0,_,0,0,Oc (kX (k,i,r)),by rw[aA];lia,this}
def ka:∀E U,L7 E U->(Ke (NV (DZ (D7 Se (Ca 3) (pK (P.int 1))) (DZ (HV JC (DZ (Ca 0) Fk)) Fk))) (Bn 4) Px) E U:=by
 rintro E U⟨rs,ts,bs,k,x,y,ok,g,l1,rfl,h⟩;let i:=ok.l8;let l:(rs.map AQ).length=rs.length:=aA ..;show{trivial,_,_,_,_,0,{⋯,⋯,⋯,⋯},0,λj U=>∃(x y:S),U=FW rs ts (bs++(List.range j).flatMap λd=>Dj rs ts k (k+1+d)) (.sh (.int k)) x y,#[x,y,'2'],λj ρ' x c⟨x1,a,e⟩=>?_,λρ'⟨x1,a,e⟩=>?_}
 .let[m,0]:=Iv c;let f:((List.range j).flatMap λd=>Dj rs ts k (k+1+d)).length<=j:=by
   let:=Pu (List.range j) _ (λd=>WK rs ts k (k+1+d))
   rwa[bG,Nat.mul_one]at this
  subst e;show BX rfl #[rs,ts,bs++(List.range j).flatMap λd=>Dj rs ts k (k+1+d),k,k+1+j,a,ok,g,(by omega),by rw[aG];lia,by rfl,λx=>{.sh (.int ((k+1+j:Nat))),x,?_}];rw[range_succ,flatMap_append,<-append_assoc,flatMap_cons,flatMap_nil,cP]
 .rw[e,Es,show(((rs.map AQ).length)-((k:Int)+1)).toNat=rs.length-(k+1)by lia];show h x1 a
def kb:∀E U,WM E U->(Ke (NU (DZ (HV JC (DZ (Ca 0) Fk)) Fk)) (Bn 3) L7) E U:=by
 rintro E U⟨rs,ts,ok,rfl,h⟩;let c:=ok.l8;let g:(rs.map AQ).length=rs.length:=aA ..;show{_,_,0,⋯,⋯,0,λj U=>∃z x y,U=FW rs ts ((List.range j).flatMap (FV rs ts)) z x y,#[_,_,_,0],λj ρ' x d⟨z,x1,a,e⟩=>?_,λρ'⟨z,x1,a,e⟩=>?_}
 .let[i,0]:=Iv d;let f:=WL rs ts j;let:=Nat.mul_le_mul (show j<=8 by lia) c;subst e;show BX rfl #[rs,ts,(List.range j).flatMap (FV rs ts),j,x1,a,ok,(by simp_all),⋯,by rw[Int.zero_add];rfl,λx y=>{.sh (.int j),x,y,?_}];rw[range_succ,flatMap_append,flatMap_cons,flatMap_nil,cP]
 .rw[e,Es,show((rs.map AQ).length:Int).toNat=rs.length by lia];show h z x1 a
def kc(D:As K mg "bars" Op)(T:TxtB mg)(f:'E' "bar" 4 Ϣ (spP Pt)):'E' "bars" 5 ["rooms","tallies"] (spP Pw):=by
 show BV D Jb (λ_ _ _ _ _ _ us i=>Bz i dG) (λxs K h=>?_) '3' (λl j A outer s H E g=>{_,(Ao (BN (k:=2) (λ_=>Jb.nd) (B9 AH)) (Ao (QS.weak (m:=WM) (Fo '7' dF (Hc (λ_=>T.b_range) (AB (A6 (λ_=>CA) CB 'J' nofun (AB (qv 0) AH)) AH)) (Ip (k:=3) (λ_=>Jb.nd)) (BM.weak (m:=L7) (Aj (QS.weak (m:=L7) (Fo '7' dF (dg (λ_=>T.b_range) (AB (BE (λ_=>C4) Et (qv 3) AK) (AB (A6 (λ_=>CA) CB 'J' nofun (AB (qv 0) AH)) AH))) (Ip (k:=4) (λ_=>Jb.nd)) (BM.weak (m:=Px) (Ao (BN (k:=5) (λ_=>Jb.nd) (Ac (λ_=>f) (λ_=>g.mq) (AB (Al 'I' An (qv 0) (qv 3) dG) (AB (Al 'I' An (qv 1) (qv 3) dG) (AB (Al 'I' An (qv 0) (qv 4) dG) (AB (Al 'I' An (qv 1) (qv 4) dG) AH)))))) (Aj (Be (Av (λ_=>Xx) cY (qv 5) R6 (Ah _)) (Aj (S9 (k:=2) dF (DK (AB (qv 3) (AB (qv 4) (AB (qv 5) AH)))))) Bd))) ?d)) ?a)) ?e)) ?c) (Aj (Ax (qv 2))))),λxs K h=>?_})
 case d=>show kZ
 case a=>show ka
 case e=>showλ_ _ h=>h
 case c=>show kb
 .let[_,_,0,_]:=h;rfl
 .let[rs,ts,0,ok,h]:=h;show#[0,rs,ts,ok,0,λz x y=>#[0,h]]
end
section
variable{K:Fg}
inductive L8(f:Ent->P)(vs:dH)(H:Hp)(Q:VK)(q3:XK):Prop|mk(b a Z B p:_)(_:vs=[.ref p])(_:Bag H b a)(_:Z b)(_:Rp b Z H (A9 B) (.ref p))(_:B.length<=8)(_:∀v H',Step b a H H'->Rp b (λx=>x=b) H' (.lst (B.map f)) v->Q v H')
def WN{K:Fg}{f:Ent->P}{b:Addr}{B:List Ent}{us:dH}{Q:VK}{o:Obj}{qH:List (AT×V)}(σ:qH=((B.map (·.1)).map Af).zip us)(hb:Bag H b a)(zb:Z b)(nb:p≠b)(pa:p≠a)(G:H p\(.dK qH))(T:AC b Z H (B.map BY) us)(B8:B.length<=8)(hf:∀{Z':Addr->Prop}{H':Hp}{e:Ent}{A y:V},Rp b Z' H' (AQ e.2.1) A->Rp b Z' H' (Ab e.2.2) y->∃u,([some A,some y]:L2.St)[j]?\(some u)/\Rp b Z' H' (f e) u)(k:∀v H',Step b a H H'->Rp b (λx=>x=b) H' (.lst (B.map f)) v->Q v H'):HK (LL p o qH) [none,none] (gTup K 2 (gCons (CK 0) (gCons (CK 1) FZ))) RZ (tVar j) Y (λv H'=>H' p\(.frz o (.dK qH))/\Q v (AA H' p (.dK qH))) (AA H p (.frz o (.dK qH))):=by
 let ul:us.length=B.length:=by rw[<-T.length,aA]
 let ρ:qH.length=B.length:=by rw[σ,length_zip,aA,aA];lia
 let E:Bag (AA H p (.frz o (.dK qH))) b a:=hb.put nb pa;show h9 (λD i ys H2=>Step b a (AA H p (.frz o (.dK qH))) H2/\H2 D\(.lst ys)/\AA H p (.frz o (.dK qH)) D=none/\ys.length=i/\AC b (λx=>x=b\/x=p\/x=D) H2 ((B.take i).map f) ys) (λD c=>{Step.new E c,AJ,c,0,0}) (λD i ys H2 c hi I=>{I.2.1,I.1.same p _ nb AJ}) (λD c i pr ys H2 n I=>?_) (λD ys H2 c I=>?_)
 .done<;>let[l,g,_,N,C]:=I;let hi:i<B.length:=by rw[<-ρ];show(aI.mp n).1
  let J:=aH hi;done<;>let[v,hv,rv]:=T.get (by rw[bO,J];rfl);let M:pr=(Af B[i].1,v):=by
   rw[σ]at n;let z:(((B.map (·.1)).map Af).zip us)[i]?\(Af B[i].1,v):=by rw[getElem?_zip_eq_some];show{by rw[bO,bO,J];rfl,hv}
   rw[n]at z;show oI z
  subst M;let L:B.take (i+1)=B.take i++[B[i]]:=by rw[take_add_one,J];rfl
  rw[L,cO];generalize B[i]=e at*;let nD:∀{x o'},H x\o'->x≠D:=λ{x o'}h z=>by
   by_cases d:x=p
   .rw[<-z,d,AJ]at c;cases c
   .rw[<-z,AE d,h]at c;cases c
  let h2:=λx o' q n2 h=>l.same x o' q (by rw[AE n2];show h);let r2:Rp b (λx=>x=b\/x=p\/x=D) H2 (BY e) v:=WD rv (λx vs zx m=>by let O:x≠b:=λz=>zx (z▸zb);let d:=CW m G '5';show{λz=>z.elim O λz=>z.elim d (nD m),h2 x _ O d m}) λx vs m=>h2 x _ (hb.neT m).1 (CW m G '5') m
  done<;>(let[t,_,0,ht,A,_,0,r1,y,_,0,r3,0]:=r2;let[u,hu,rf]:=hf r1 r3);show{t,[A,y],0,.of ht,0,_,_,0,_,_,0,0,u,hu,g,aU (by lia:ys.length<1000) '3',{l.bag.put (E.nb c) (E.na c),λx o' q h=>by rw[AE (Ak h c)];show l.same x o' q h},AJ,c,by rw[aG,N];rfl,?_};show(C.snoc rf).keep (λx o' r h=>{r,by rw[AE (λz=>r (.inr (.inr z)))];show h}) λx vs h=>by rw[AE (λz=>by rw[z,g]at h;cases h)];show h
 .done<;>let[l,g,w,N,C]:=I;let s:=l.same p _ nb AJ;rw[ρ,take_length]at C;let pD:=Ak AJ w;show#[s,k _ _ {l.bag.put nb pa,λx o' q h=>?_} {D,ys,0,E.nb w,by rw[AE (Ne.symm pD)];show g,C.keep (λx o' r h=>{λz=>r (.inl z),by rw[AE (λz=>r (.inr (.inl z)))];show h}) λx vs h=>by rw[AE (λz=>by rw[z,s]at h;cases h)];show h}];by_cases d:x=p
  .rw[d,G]at h;rw[d,AJ];show h
  .rw[AE d];show l.same x o' q (by rw[AE d];show h)
def Py(hb:Bag H b a)(f:Z b)(r:Rp b Z H (A9 B) (.ref p)):∃us,H p\(.dK (((B.map (·.1)).map Af).zip us))/\AC b Z H (B.map BY) us/\p≠b/\p≠a:=by let[q,us,e,pb,c,d,g]:=r;cases e;show{us,c,g,λz=>pb (z▸f),λz=>by let[l,d]:=hb.ata;lia}
def ke(D:As K mg "open_rooms" Lb):'E' "open_rooms" 1 Ϟ (L8 λe=>AQ e.2.1):=by
 show DW D iY (λ_ _ _ _ _ _ us l=>CY l dF) (λvs H Q E h=>?_) (λu m A outer s H vs Q E q h=>?_)
 .done<;>let[_,_,_,_,_,0,_]:=h;rfl
 .let f:List.Nodup (Ϙ):=by decide+kernel
  show{_,Ad (JX (Ay (IW (N:=Ϟ) (sc:=AN Lb) (qD:=[none,none]) '1' rfl (VL (pv 0)) (KC rfl rfl) (λp=>CP rfl (Ai (Ae (i:=0) f rfl (Or.inl rfl)) (Ai (Ae (i:=1) f rfl (Or.inl rfl)) BZ))) (λp=>HJ) (λp=>pv 0)))),?_};done<;>(let[b,a,Z,B,p,0,hb,d,r,n,k]:=h;let[us,c,g,nb,pa]:=Py hb d r);show#[p,_,c,(λ_ _ e=>nomatch(c.symm.trans e)),λo=>{_,0,p,o,_,0,AJ,WN rfl hb d nb pa c g n (λj _=>#[_,0,j]) k}]
def kf(D:As K mg "open_tallies" Ld):'E' "open_tallies" 1 Ϟ (L8 λe=>Ab e.2.2):=by
 show DW D iZ (λ_ _ _ _ _ _ us l=>CY l dF) (λvs H Q E h=>?_) (λu m A outer s H vs Q E q h=>?_)
 .done<;>let[_,_,_,_,_,0,_]:=h;rfl
 .let f:List.Nodup (Ϙ):=by decide+kernel
  show{_,Ad (JX (Ay (IW (N:=Ϟ) (sc:=AN Ld) (qD:=[none,none]) '1' rfl (VL (pv 0)) (KC rfl rfl) (λp=>CP rfl (Ai (Ae (i:=0) f rfl (Or.inl rfl)) (Ai (Ae (i:=1) f rfl (Or.inl rfl)) BZ))) (λp=>HJ) (λp=>pv 1)))),?_};done<;>(let[b,a,Z,B,p,0,hb,d,r,n,k]:=h;let[us,c,g,nb,pa]:=Py hb d r);show#[p,_,c,(λ_ _ e=>nomatch(c.symm.trans e)),λo=>{_,0,p,o,_,0,AJ,WN rfl hb d nb pa c g n (λ_ j=>#[_,0,j]) k}]
def kg{K}(ok:Brs rs ts)(k:K (.lst ((F3 rs ts).map IG))):Pw [Jk rs,Jl ts] K:=#[rs,ts,0,ok,k]
abbrev WO(ns:At)(q:Nat×Nat×By):P:=.tup [.str (ns.getD q.1 ""),.str (ns.getD q.2.1 ""),AW q.2.2]
def Jm(B:List Ent):List (Nat×Nat×By):=(F3 (B.map (·.2.1)) (B.map (·.2.2)))
def Jn(B:List Ent):P:=(.lst ((Jm B).map (WO (B.map (·.1)))))
def kh{q}(h:q∈F3 rs ts):q.1<rs.length/\q.2.1<rs.length:=by unfold F3 FV Dj at h;let[k,a,h]:=mem_flatMap.mp h;let[i,hi,h]:=mem_flatMap.mp h;rw[Option.mem_toList]at h;let[r,_,0]:=aJ.mp h;let:=bH.mp a;let:=bH.mp hi;show{by assumption,by change k+1+i<_;omega}
def kj(h:rs.length<=8):(F3 rs ts).length<=64:=by let:=WL rs ts rs.length;let:=Nat.mul_le_mul h h;unfold F3;lia
inductive WQ(vs:dH)(H:Hp)(Q:VK)(q3:XK):Prop|mk(b a Z B p:_)(_:vs=[.ref p])(_:Bag H b a)(_:Z b)(_:Rp b Z H (A9 B) (.ref p))(_:Brs (B.map (·.2.1)) (B.map (·.2.2)))(_:∀v H',Step b a H H'->Rp b (λx=>H x≠none) H' (Jn B) v->Q v H')
def km(D:As K mg "named_bars" Lf)(T:TxtB mg)(Gb:'E' "bars" 5 ["rooms","tallies"] (spP Pw))(Gr:'E' "open_rooms" 1 Ϟ (L8 λe=>AQ e.2.1))(Gt:'E' "open_tallies" 1 Ϟ (L8 λe=>Ab e.2.2)):'E' "named_bars" 6 Ϟ WQ:=by
 show DW D VZ (λ_ _ _ _ _ _ us c=>CY c dF) (λvs H Q E h=>?_) (λfa a1 A outer s H vs Q E σ h=>?_)
 .let[_,_,_,_,_,0,_]:=h;rfl
 .let nd:=VZ.nd;show{_,AY (Aw (i:=1) nd rfl (Or.inr rfl) (E8 (UL rfl) (by rfl) T.b_list nofun (AG (pv 0) AS)))
   (AY (Aw (i:=2) nd rfl (Or.inl rfl) (Bv Gb σ (by rfl) (AG (Bv Gr (σ.mq) (by rfl) (AG (pv 0) AS)) (AG (Bv Gt (σ.mq) (by rfl) (AG (pv 0) AS)) AS))))
   (Ad (Ay (DQ (CL (N:=["opened","names","told"]) (sc:=AN Lf) (qD:=[none,none,none,some 1]) '1' '3' dF (Db dF (qv 2)) (iB rfl rfl rfl dF dF (λ_=>(Ai (Ae (i:=0) (show List.Nodup (Ϡ)from nofun) rfl (Or.inl rfl)) (Ai (Ae (i:=1) (show List.Nodup (Ϡ)from nofun) rfl (Or.inl rfl)) (Ai (Ae (i:=2) (show List.Nodup (Ϡ)from nofun) rfl (Or.inl rfl)) BZ))))) Cf (DK (AB (Al 'I' An (qv 3) (qv 0) dG) (AB (Al 'I' An (qv 3) (qv 1) dG) (AB (qv 2) AH))))))))),?_}
  done<;>(let[b,a,Z,B,p,0,hb,d,r,ok,k]:=h;let[us,hp,ru,nb,pa]:=Py hb d r);let B8:B.length<=8:=by let:=ok.l8;rw[aA]at this;show this
  let ul:us.length=B.length:=by rw[<-ru.length,aA]
  show{_,0,p,_,0,hp,λl c=>?_};let y:=Step.new (o:=.lst ((((B.map (·.1)).map Af).zip us).map λq=>kV q.1)) hb c;let e1:(((B.map (·.1)).map Af).zip us).map (λq=>kV q.1)=(B.map (·.1)).map V.str:=by rw[show(λq:AT×V=>kV q.1)=kV∘(·.1)from rfl,<-bZ,map_fst_zip (by rw[aA,aA];simp_all),bZ];rfl
  let rn:Rp b (λx=>x=b) (AA H l (.lst ((((B.map (·.1)).map Af).zip us).map λq=>kV q.1))) (.lst ((B.map (·.1)).map P.str)) (.ref l):={l,_,0,hb.nb c,by rw[AJ,e1],AC.strs.mpr rfl};generalize AA H l (.lst ((((B.map (·.1)).map Af).zip us).map λq=>kV q.1))=H1 at y rn⊢;show{_,0,b,a,Z,B,p,0,y.bag,d,Aq d hb y r,B8,λv1 H2 C L=>?_};let u:=y.trans C;show{_,0,b,a,Z,B,p,0,C.bag,d,Aq d hb u r,B8,λv2 H3 g r2=>?_};let L:=Aq (Z:=λx=>x=b) rfl C.bag g L;show{b,a,[Jk (B.map (·.2.1)),Jl (B.map (·.2.2))],λx=>x=.lst ((Jm B).map IG),g.bag,Fx (by unfold Jk;rw[bZ];show L) (Fx (by unfold Jl;rw[bZ];show r2) Oh),kg ok (by unfold Jm;with_reducible rfl),λx v3 H4 ρ G r3=>?_};subst ρ;let m:=u.trans (g.trans G);let J:=Aq (Z:=λx=>x=b) rfl y.bag (C.trans (g.trans G)) rn;let a0:(Jm B).length<=64:=kj ok.l8;show{b,a,[.emp,.sh (.lst ((B.map (·.1)).map P.str)),.sh (.lst ((Jm B).map IG))],λx f=>x=Jn B/\f=.nw,G.bag,(BR (CD J (CD (r3.keep (λx o O e=>{λz=>O (by rw[z];intro e0;let[l,c]:=g.bag.atb;rw[c]at e0;cases e0),e}) λ_ _ e=>e) JV))),?_,λx f v H5 ρ s5 _ I=>?_}
  .show{_,0,nofun,by rw[aA];lia,BW.map (WO (B.map (·.1))) (λq _=>'2') (λq hq M hM=>?_) ?_}
   .let lt:=kh hq;rw[aA]at lt;let e:∀{n},n<B.length->atI ((B.map (·.1)).map P.str) n\(.str ((B.map (·.1)).getD n "")):=λhn=>CG (by rw[bO,bW,bO,aH hn];rfl);show{_,0,0,BX rfl (BX rfl (BX (CM _) {_,e lt.1,_,e lt.2,0,?_}))};show hM _
   .show#[0,0]
  .let[0,0]:=ρ;show k v H5 (m.trans s5) ((I (.inl rfl)).keep (λx o O e=>{λq=>O (λe4=>q (m.free e4)),e}) λ_ _ e=>e)
end
section
variable{K:Fg}
def WR:Sp:=(λvs H Q _=>(∃d w qF,vs=[.ref d]/\H d\(.tup (.str w::qF))/\w≠"start"/\Q (.ref d) H)\/∃d n r l us,vs=[.ref d]/\H d\(.tup [.str "start",n,r,.ref l])/\H l\(.lst us)/\∀l' t',H l'=none->H t'=none->l'≠t'->Q (.ref t') (AA (AA H l' (.lst us)) t' (.tup [.str "start",n,r,.ref l'])))
def ko(D:As K mg "own_deed" O0)(T:TxtB mg):BG P' w K mg base "own_deed" 1 ["deed"] WR:=by
 show ET D Jc (λ_ _ _ _ _ _ us f=>CY f dF) (λvs H Q E h=>?_) (λq o A outer s H vs Q E m h=>?_)
 .let[_,_,_,0,_]||[_,_,_,_,_,0,_]:=h<;>rfl
 .show{_,(AY (BH (C5 MT (Br FD (pv 0) Ar dG) A0 (Ah _))
 (AY (Cq (pv 0) (CP rfl (Ai (Ae (i:=1) Jc.nd rfl (Or.inl rfl)) (Ai (Ae (i:=2) Jc.nd rfl (Or.inl rfl)) (Ai (Ae (i:=3) Jc.nd rfl (Or.inl rfl)) (Ai (Ae (i:=4) Jc.nd rfl (Or.inl rfl)) BZ))))))
 (Ad (Ay (B0 (AG (pv 1) (AG (pv 2) (AG (pv 3) (AG (E8 IX (by rfl) T.b_list nofun (AG (pv 4) AS)) AS))))))))
 BQ)
 (Ad (Ay (pv 0)))),?_}
  done<;>let[d,wd,qF,0,c,j,h]||[d,n,r,l,us,0,c,f,h]:=h
  .show{_,0,d,(0),_,0,0,c,.str wd,(show atI (V.str wd::qF) ((0:Nat))\(V.str wd)from CG rfl),0,_,0,Aa (λz=>bS (V.str.inj (aL z)) j) (λz=>#[_,0,h])}
  .show{_,0,d,(0),_,0,0,c,_,0,0,_,0,Aa (λz=>?_) (λz=>bS (aK rfl) z)};show#[_,0,d,_,0,.of c,0,_,_,0,_,_,0,_,_,0,_,_,0,0,_,0,_,0,_,0,_,0,l,us,0,.inl f,λg e=>{(by decide:4<=sizeLine),λt' a=>?_}];let ne:g≠t':=λz=>by rw[<-z,AJ]at a;cases a
   rw[AE (Ne.symm ne)]at a;show h g t' e a ne
def F4(d:P):Prop:=(∃wd:Str,∃qF,d=.tup (.str wd::qF)/\(wd="start"->∃n r us,qF=[n,r,.lst us]/\n.imm=true/\r.imm=true/\P.imms us=true)/\(wd≠"start"->P.imms qF=true))
def L9:Sp:=(λvs H Q _=>∃(b a:Addr)(d:P)(v:V),vs=[v]/\Bag H b a/\F4 d/\Rp b (λp=>p=b) H d v/\∀v' H',Step b a H H'->Rp b (λp=>H p≠none) H' d v'->Q v' H')
def kr(G:BG P' w K mg base "own_deed" 1 ["deed"] WR):BG P' w K mg base "own_deed" 1 ["deed"] L9:=by
 let[f,fd,F,r]:=G;show{f,fd,F.imp λvs H Q E h=>?_,r};done<;>(let[b,a,d,v,0,hb,[wd,qF,0,J,L],[d,ds,0,q,j],k]:=h;let[_,ds,0,0,j]:=j);by_cases e:wd="start"
 .subst e;done<;>(let[n,r,us,0,I,D,C]:=J rfl;let[u,_,0,B,s,_,0,A,O,_,0,[l,vs,0,N,M,y],0]:=j);show .inr {d,u,s,l,vs,0,q,M,λc t' g o ne=>?_};let x:Step b a H (AA H c (.lst vs)):=Step.new hb g;let m:AA H c (.lst vs) t'=none:=by rw[AE (Ne.symm ne)];show o
  let i:Step b a H (AA _ t' (.tup [.str "start",u,s,.ref c])):=x.trans (Step.new x.bag m);show k _ _ i {t',_,0,AJ,_,_,0,0,_,_,0,(Aq (Z:=λp=>p=b) rfl hb i B).imm I,_,_,0,(Aq (Z:=λp=>p=b) rfl hb i A).imm D,_,_,0,{c,vs,0,λz=>z g,?_,(CJ (Z:=λp=>p=b) rfl hb i y).imm C},0};rw[AE ne,AJ]
 .show .inl #[d,wd,ds,0,q,e,k _ _ (Step.refl hb) {d,_,0,q,_,_,0,0,j.imm (L e)}]
def CO(av ov uv:V)(pp:Addr):List (Str×V):=([("asked",av),("opened",ov),("past",.ref pp),("undone",uv)])
def ZH(b pp h:Addr)(k:Addr->Prop):Addr->Prop:=(λp=>p=b\/p=pp\/p=h\/k p)
abbrev k9(d:P×P):P:=.tup [d.1,d.2]
structure Hs(b a C:Addr)(H:Hp)(h pp:Addr)(k:Addr->Prop)(q:At)(o:P)(m:List (P×P)):Prop where
 ex:∃dx us av ov uv,H h\(.ins C dx (CO av ov uv pp))/\H pp\(.lst us)/\AC b (ZH b pp h k) H (m.map k9) us/\Rp b (ZH b pp h k) H (AQ q) av/\Rp b (ZH b pp h k) H o ov
 ne:pp≠b
 na:pp≠a
 kn:∀p,k p->H p≠none
def Dx(C h:Addr)(H:Hp)(up:Addr)(un:dH):Prop:=(∃dx av ov pp,H h\(.ins C dx (CO av ov (.ref up) pp))/\H up\(.lst un))
def Jo(b a h pp:Addr)(H H':Hp):Prop:=(Bag H' b a/\∀p o,p≠b->p≠h->p≠pp->H p\o->H' p\o)
structure TxtH(K:Fg)(mg:Str->Do)(C D:Addr)(w:World):Prop where
 cl:ClassAt K mg "House" C
 nA:DV K C "asked"nO:DV K C "opened"nP:DV K C "past"nU:DV K C "undone"dd:mg "DEEDS"\(.ref D)dt:GDct K w D
def fW(wd:Str):EB:=(if wd="shut"then V7 else if wd="start"then V5 else if wd="enter"then WC else if wd="withdraw"then WG else if wd="mark"then V8 else if wd="strike"then V9 elseλ_ _ _=>False)
def Pz(wd:Str):Prop:=(wd="shut"\/wd="start"\/wd="enter"\/wd="withdraw"\/wd="mark"\/wd="strike")
def lA{f}{Kx}(h:fW wd xs f Kx):Pz wd:=Classical.byContradiction λz=>by simp only[Pz,not_or]at z;let[h1,h2,e,d,c,a]:=z;rw[fW,aB h1,aB h2,aB e,aB d,aB c,aB a]at h;show h
inductive spDo(K:Fg)(mg:Str->Do)(C:Addr)(vs:dH)(H:Hp)(Q:VK)(E:XK):Prop|mk(b a h pp k q o m:_)(wd:Str)(qF dv Kd Kx:_)(c0:vs=[.ref h,dv])(c1:Bag H b a)(c2:Hs b a C H h pp k q o m)(c3:m.length<1000)(c4:F4 (.tup (.str wd::qF)))(c5:Rp b (λp=>p=b) H (.tup (.str wd::qF)) dv)(c6:fW wd [AQ q,o,.tup (.str wd::qF)] Kd Kx)(c7:∀o' H' l,Kd o'->Jo b a h pp H H'->H l=none->Dx C h H' l []->Hs b a C H' h pp (λp=>k p\/p=l) q o' (m++[(.tup (.str wd::qF),o)])->Q .non H')(c8:∀n H',Kx n->Step b a H H'->Ew K mg E n H')
def lB(M:ED K C "do" "House.do" PV)(T:TxtB mg)(u:TxtH K mg C D w)(a4:BG P' w K mg base "own_deed" 1 ["deed"] L9)(GD:∀wd,Pz wd->∃f,PySem.W.nsIn K D wd\(some (.ref f))/\Oe P' w K mg base 4 f (spY K mg (fW wd))):Bj P' w K mg base C "do" 5 ["self","deed"] (spDo K mg C):=by
 show Ez M Vh (λ_ _ _ _ _ _ us c=>Bz c dG) (λvs H Q E h=>?_) (λfa aa A outer s H vs Q E hr h=>?_)
 .let[_,_,_,_,_,_,_,_,_,_,_,_,_,0,_]:=h;rfl
 .let nd:=Vh.nd;show{_,AY (Aw (i:=2) nd rfl (Or.inl rfl) (Co a4 Cz (hr.mq) (by rfl) (AG (pv 1) AS)))
   (AY (Aw (i:=3) nd rfl (Or.inl rfl) (gj (by rfl) u.dd u.dt (Br FD (pv 2) Ar dG) dG))
   (AY (Aw (i:=4) nd rfl (Or.inl rfl) (gl (pv 3) hr Cz (AG (DF (pv 0) (by rfl)) (AG (DF (pv 0) (by rfl)) (AG (pv 2) AS)))))
   (AY (Dn (GK PySem.F.plainAttrs_list PySem.F.slot_list_append PySem.F.type_list_append HI (DF (pv 0) (by rfl)) (AG (B0 (AG (pv 2) (AG (DF (pv 0) (by rfl)) AS))) AS)))
   (AY (GI (pv 0) (pv 4) (by rfl)) (Ad (GI (pv 0) (DG AS) (by rfl))))))),?_}
  done<;>(let[b,a,h,pp,k,q,o,m,wd,qF,dv,Kd,Kx,0,hb,[[dx,us,G,I,uv,N,hp,hm,ra,ro],ne,na,kn],a9,hw,a6,hf,hK,hX]:=h;let a8:=lA hf;let[f,hn,hF]:=GD wd a8);let zh:∀{H1},Step b a H H1->∀p,ZH b pp h k p->H1 p≠none:=λ{H1}g p z e=>by
   let σ:=g.free e;rcases z with rfl|rfl|rfl|z
   .let[l,c]:=hb.atb;rw[c]at σ;cases σ
   .rw[hp]at σ;cases σ
   .rw[N]at σ;cases σ
   .show kn _ z σ
  let J:h≠b:=λe=>by let[l,c]:=hb.atb;rw[e,c]at N;cases N
  let y:h≠pp:=λe=>by rw[e,hp]at N;cases N
  show{_,0,b,a,_,dv,0,hb,hw,a6,λv0 H0 O ρ=>?_};let ρ:=ρ.keep (λp o j e=>{λz=>j (zh (Step.refl hb) p z),e}) λ_ _ e=>e;done<;>(let[d,ds,0,hd,ρ]:=ρ;let[_,ds,0,0,ρ]:=ρ);let a3:=O.same h _ J N;let a7:=Aq (.inl rfl) hb O ra;let a5:=Aq (.inl rfl) hb O ro;show{_,0,d,(0),_,0,0,hd,.str wd,(show atI (V.str wd::ds) ((0:Nat):Int)\(V.str wd)from CG rfl),wd,f,0,hn,?_};show#[_,0,f,_,0,hF,_,0,h,C,dx,_,G,0,a3,u.cl.cl,u.nA,0,_,0,h,C,dx,_,I,0,a3,u.cl.cl,u.nO,0,_,0,?_];show{b,a,ZH b pp h k,[AQ q,o,.tup (.str wd::qF)],Kd,Kx,O.bag,.inl rfl,zh O,{_,_,0,a7,_,_,0,a5,_,_,0,#[d,_,0,hd,_,_,0,0,ρ],0},hf,λx v H1 hx a0 rx=>?_,λn H1 hn g=>hX n H1 hn (O.trans g)};let g:=O.trans a0;let B:=g.same h _ J N;let L:=g.same pp _ ne hp;show{_,0,h,C,dx,_,.ref pp,0,B,u.cl.cl,u.nP,0,?ty,_,0,_,0,h,C,dx,_,I,0,B,u.cl.cl,u.nO,0,(by decide:2<=sizeLine),λt ht=>?_}
  case ty=>show .inl {0,us,.of L}
  let tp:=Ak L ht;let th:=Ak B ht;show{pp,us,_,0,0,by rw[AE tp];show L,aU (by let:=hm.length;rw[aA]at this;simp_all:us.length<1000) '3',_,0,_,0,h,C,dx,CO G I uv pp,0,by rw[AE y,AE th];show B,u.cl.cl,u.nO,(show 4<1000 by decide),(by decide:0<=sizeLine),λl c=>?_};let lh:h≠l:=λe=>by rw[<-e,AJ]at c;cases c
  show{_,0,h,C,dx,BB "opened" v (CO G I uv pp),0,by rw[AE lh,AJ],u.cl.cl,u.nU,Nat.lt_of_le_of_lt (MY _ _ _) (show 5<1000 by decide),?_};let ef:BB "undone" (.ref l) (BB "opened" v (CO G I uv pp))=CO G v (.ref l) pp:=rfl;rw[ef];let pl:pp≠l:=λe=>by rw[<-e,AE (Ne.symm y),AJ]at c;cases c
  let fl:H1 l=none:=by
   rw[AE (Ne.symm lh),AE (Ne.symm pl)]at c;by_cases e:l=t
   .rw[e,AJ]at c;cases c
   .rw[AE e]at c;show c
  let kp:∀p o,p≠h->p≠pp->H1 p\o->AA (AA (AA (AA (AA H1 t (.tup [.ref d,I])) pp (.lst (us++[.ref t]))) h (.ins C dx (BB "opened" v (CO G I uv pp)))) l (.lst [])) h (.ins C dx (CO G v (.ref l) pp)) p\o:=λp o e1 e2 e3=>by rw[AE e1,AE (Ak e3 fl),AE e1,AE e2,AE (Ak e3 ht)];show e3
  let kt:∀p xs,H1 p\(.tup xs)->p≠h/\p≠pp:=λp xs e=>{(λz=>by rw[z,B]at e;cases e),(λz=>by rw[z,L]at e;cases e)};let zk:∀p o,¬ZH b pp h k p->H1 p\o->¬ZH b pp h (λp=>k p\/p=l) p:=λp o j e z=>by
   rcases z with z|z|z|z|z
   .show j (.inl z)
   .show j (.inr (.inl z))
   .show j (.inr (.inr (.inl z)))
   .show j (.inr (.inr (.inr z)))
   .rw[z,fl]at e;cases e
  let D8:∀{x:P}{v:V},Rp b (ZH b pp h k) H1 x v->Rp b (ZH b pp h λp=>k p\/p=l) _ x v:=λ{x v}r=>r.keep (λp o j e=>{zk p o j e,kp p o (λz=>j (.inr (.inr (.inl z)))) (λz=>j (.inr (.inl z))) e}) λp xs e=>kp p _ (kt p xs e).1 (kt p xs e).2 e;let mv:∀{x:dI}{v:dH},AC b (ZH b pp h k) H1 x v->AC b (ZH b pp h λp=>k p\/p=l) _ x v:=λ{x v}r=>r.keep (λp o j e=>{zk p o j e,kp p o (λz=>j (.inr (.inr (.inl z)))) (λz=>j (.inr (.inl z))) e}) λp xs e=>kp p _ (kt p xs e).1 (kt p xs e).2 e;let a2:AA (AA (AA (AA (AA H1 t (.tup [.ref d,I])) pp (.lst (us++[.ref t]))) h (.ins C dx (BB "opened" v (CO G I uv pp)))) l (.lst [])) h (.ins C dx (CO G v (.ref l) pp)) l\(.lst []):=by rw[AE (Ne.symm lh),AJ]
  show hK x _ l hx {?_,λp o n1 n2 n3 e=>kp p o n2 n3 (g.same p o n1 e)} (g.free fl) #[dx,G,v,pp,AJ,a2] #[{dx,us++[.ref t],G,v,.ref l,AJ,?_,?_,?_,?_},ne,na,?_]
  .let a1:h≠a:=λe=>by let[l,c]:=hb.ata;rw[e,c]at N;cases N
   show(((((g.bag.new ht).put ne na).put J a1).put (g.bag.nb fl) (g.bag.na fl)).put J a1)
  .rw[AE (Ne.symm y),AE pl,AE (Ne.symm y),AJ]
  .rw[cO];show(mv (CJ (.inl rfl) hb g hm)).snoc {t,_,0,?_,_,_,0,D8 (Aq (.inl rfl) O.bag a0 #[d,_,0,hd,_,_,0,0,ρ]),_,_,0,D8 (Aq (.inl rfl) hb g ro),0};let tl:t≠l:=λe=>by rw[<-e,AE (Ne.symm th),AE (Ne.symm tp),AJ]at c;cases c
   rw[AE (Ne.symm th),AE tl,AE (Ne.symm th),AE (Ne.symm tp),AJ]
  .show D8 (Aq (.inl rfl) hb g ra)
  .show D8 rx
  .intro z kz e;let kz||kz:=kz
   rotate_left
   .rw[kz,a2]at e;cases e
   by_cases e1:z=h
   .rw[e1,AJ]at e;cases e
   .by_cases e2:z=pp
    .rw[e2,AE (Ne.symm y),AE pl,AE (Ne.symm y),AJ]at e;cases e
    .cases e3:H1 z with|none=>show kn z kz (g.free e3)|some o=>rw[kp z o e1 e2 e3]at e;cases e
end
section
variable{K:Fg}
def WS(C:Addr):Sp:=(λvs H Q _=>∃h dx fs v,vs=[.ref h]/\H h\(.ins C dx fs)/\fs.lookup ("asked":Str)\v/\Q v H)
def lC(M:ED K C "questions" "House.questions" PZ)(c:TxtH K mg C D w):Bj P' w K mg base C "questions" 1 ϖ (WS C):=by
 show Ez M iz (λ_ _ _ _ _ _ us a=>CY a dF) (λvs H Q E h=>?_) (λg e A outer s H vs Q E f h=>?_)
 .let[_,_,_,_,0,_]:=h;rfl
 .show{_,Ad (Ay (DF (pv 0) (by rfl))),?_};let[h,dx,fs,v,0,d,a,q]:=h;show#[_,0,h,C,dx,fs,v,0,d,c.cl.cl,c.nA,a,q]
def P0(K:Fg)(mg:Str->Do)(C:Addr)(j:Nat):Sp:=(λvs H Q E=>∃h dx fs n p qH,vs=[.ref h,.str n]/\H h\(.ins C dx fs)/\fs.lookup ("opened":Str)\(.ref p)/\H p\(.dK qH)/\(Bb qH (Af n)=none->∀C,XCls K mg "NoRoom" C->E (.ref C) none H)/\∀v,Bb qH (Af n)\v->∃t r l,v=.ref t/\H t\(.tup [r,l])/\if j=0 then Q r H else∃a us,l=.ref a/\H a\(.lst us)/\∀a',H a'=none->Q (.ref a') (AA H a' (.lst us)))
def P1(C:Addr)(j:Nat):Sp:=(λvs H Q _=>∃h dx fs n p qH t r l,vs=[.ref h,.str n]/\H h\(.ins C dx fs)/\fs.lookup ("opened":Str)\(.ref p)/\H p\(.dK qH)/\Bb qH (Af n)\(.ref t)/\H t\(.tup [r,l])/\if j=0 then Q r H else∃a us,l=.ref a/\H a\(.lst us)/\∀a',H a'=none->Q (.ref a') (AA H a' (.lst us)))
def WT(G:Bj P' w K mg base C m i ps (P0 K mg C j)):Bj P' w K mg base C m i ps (P1 C j):=by let[f,fd,F,r]:=G;show{f,fd,F.imp λvs H Q E h=>?_,r};done<;>let[h,dx,fs,n,p,qH,t,r,l,0,g,e,d,a,c,q]:=h;show#[h,dx,fs,n,p,qH,0,g,e,d,(λz=>by simp_all),λv z=>by rw[a]at z;cases z;show#[t,r,l,0,c,q]]
def lE(M:ED K C "room" "House.room" Pb)(c:TxtH K mg C D w)(u:BG P' w K mg base "found_room" 2 ϔ (spFound K mg)):Bj P' w K mg base C "room" 3 ϟ (P0 K mg C 0):=by
 show Ez M i4 (λ_ _ _ _ _ _ us a=>Bz a dG) (λvs H Q E h=>?_) (λx o A outer s H vs Q E g h=>?_)
 .done<;>let[_,_,_,_,_,_,0,_]:=h;rfl
 .show{_,Ad (Ay (Br FD (Co u Cz g (by rfl) (AG (DF (pv 0) (by rfl)) (AG (pv 1) AS))) Ar dG)),?_};done<;>let[h,dx,fs,n,p,qH,0,j,a,i,m,d]:=h;show{_,0,h,C,dx,fs,_,0,j,c.cl.cl,c.nO,a,_,0,p,qH,n,0,i,λv e=>?_,m};done<;>let[t,r,l,0,f,q]:=d v e;show#[t,(0),_,0,0,f,r,0,q]
def lF(M:ED K C "tally" "House.tally" Pc)(T:TxtB mg)(d:TxtH K mg C D w)(y:BG P' w K mg base "found_room" 2 ϔ (spFound K mg)):Bj P' w K mg base C "tally" 3 ϟ (P0 K mg C 1):=by
 show Ez M i5 (λ_ _ _ _ _ _ us c=>Bz c dG) (λvs H Q E h=>?_) (λB x A outer s H vs Q E i h=>?_)
 .done<;>let[_,_,_,_,_,_,0,_]:=h;rfl
 .show{_,Ad (Ay (E8 IX (by rfl) T.b_list nofun (AG (Br FD (Co y Cz i (by rfl) (AG (DF (pv 0) (by rfl)) (AG (pv 1) AS))) Ar dG) AS))),?_};done<;>let[h,dx,fs,n,p,qH,0,m,c,j,u,f]:=h;show{_,0,h,C,dx,fs,_,0,m,d.cl.cl,d.nO,c,_,0,p,qH,n,0,j,λv e=>?_,u};done<;>let[t,r,l,0,g,a,us,0,o,q]:=f v e;show{t,1,_,0,0,g,_,0,a,us,0,.inl o,q}
def P2(C:Addr):Sp:=(λvs H Q _=>∃h dx fs v,vs=[.ref h]/\H h\(.ins C dx fs)/\fs.lookup ("opened":Str)\v/\UI [v] H Q)
def lG(M:ED K C "rooms" "House.rooms" Pa)(T:TxtB mg)(c:TxtH K mg C D w):Bj P' w K mg base C "rooms" 1 ϖ (P2 C):=by
 show Ez M i3 (λ_ _ _ _ _ _ us a=>CY a dF) (λvs H Q E h=>?_) (λg e A outer s H vs Q E f h=>?_)
 .let[_,_,_,_,0,_]:=h;rfl
 .show{_,Ad (Ay (E8 (UL rfl) (by rfl) T.b_list nofun (AG (DF (pv 0) (by rfl)) AS))),?_};done<;>let[h,dx,fs,v,0,d,a,q]:=h;show#[_,0,h,C,dx,fs,v,0,d,c.cl.cl,c.nO,a,q]
inductive P3(C:Addr)(vs:dH)(H:Hp)(Q:VK)(q3:XK):Prop|mk(b a h pp k q o m:_)(_:vs=[.ref h])(_:Bag H b a)(_:Hs b a C H h pp k q o m)(_:(∀d∈m,F4 d.1))(_:m.length<1000)(_:∀D ys H',Step b a H H'->H D=none->H' D\(.lst ys)->AC b (λp=>H p≠none\/p=D) H' (m.map (·.1)) ys->Q (.ref D) H')
def lH(M:ED K C "deeds" "House.deeds" Lu)(TH:TxtH K mg C D w)(Go:BG P' w K mg base "own_deed" 1 ["deed"] L9):Bj P' w K mg base C "deeds" 2 ϖ (P3 C):=by
 show Ez M iy (λ_ _ _ _ _ _ us L=>CY L dF) (λvs H Q E h=>?_) (λfa a1 A outer s H vs Q E hr h=>?_)
 .let[_,_,_,_,_,_,_,_,0,_]:=h;rfl
 .let nd:List.Nodup (["deed","ahead"]:At):=by decide+kernel
  show{_,Ad (Ay (IW (N:=ϖ) (sc:=AN Lu) (qD:=[none,none]) '1' rfl (HA (DF (pv 0) (by rfl))) (KC rfl rfl) (λp=>CP rfl (Ai (Ae (i:=0) nd rfl (Or.inl rfl)) (Ai (Ae (i:=1) nd rfl (Or.inl rfl)) BZ))) (λp=>HJ) (λp=>Co Go Dv hr (by rfl) (AG (pv 0) AS)))),?_};done<;>let[b,a,h,pp,k,q,o,m,0,hb,[[dx,us,av,ov,uv,hh,hp,hm,ra,ro],ne,na,kn],hd,L,r]:=h;let ρ:ZH b pp h k b:=.inl rfl;let ml:us.length=m.length:=by let:=hm.length;rw[aA]at this;show this.symm
  show{_,0,h,C,dx,_,.ref pp,0,hh,TH.cl.cl,TH.nP,0,pp,0,{us,.of hp},Rf (λD i ys H2=>Step b a H H2/\H2 D\(.lst ys)/\D≠b/\D≠a/\H D=none/\ys.length=i/\AC b (λp=>H p≠none\/p=D) H2 ((m.map (·.1)).take i) ys) (λD c=>{Step.new hb c,AJ,hb.nb c,hb.na c,c,0,by rw[take_zero];rfl}) (λD i ys H2 c hi I=>{I.2.1,.of (I.1.same pp _ ne hp)}) (λD c i x ys H2 hx I=>?_) (λD ys H2 c I=>?_)}
  .done<;>(let[j,g,nb,n,_,σ,G]:=I;let[e,he,re]:=(CJ ρ hb j hm).getV hx);rw[bO]at he;done<;>(let[d,v,0]:=aJ.mp he;let[t,_,0,ht,v1,_,0,T,v2,_,0,a0,0]:=re);show{t,[v1,v2],0,.of ht,0,_,_,0,_,_,0,0,_,0,b,a,d.1,v1,0,j.bag,hd d (aM v),BP ρ T,λv' H' O rv=>?_};let zn:∀{p},H p≠none\/p=D->H2 p≠none:=λ{p}z e=>z.elim (λy=>y (j.free e)) λy=>by rw[y,g]at e;cases e
   let B:=O.same D _ nb g;let i9:=(aI.mp hx).1;let s4:=j.trans O;show{B,aU (by lia:ys.length<1000) '3',{s4.bag.put nb n,λp u n1 e=>by rw[AE (Ak e c)];show s4.same p u n1 e},AJ,nb,n,c,by rw[aG,σ];rfl,?_};rw[take_succ,bO,v];let zd:(λp=>H p≠none\/p=D) b:=.inl λe=>by let[l,L]:=hb.atb;rw[L]at e;cases e
   show((CJ zd j.bag O G).snoc (rv.keep (λp o J e=>{λz=>J (zn z),e}) λ_ _ e=>e)).keep (λp o J e=>{J,by rw[AE (λz=>J (.inr z))];show e}) λp vs e=>by rw[AE (λz=>by rw[z,B]at e;cases e)];show e
  .done<;>let[j,g,nb,n,_,σ,G]:=I;rw[ml,<-aA,take_length]at G;show r D ys _ j c g G
inductive spInit(C:Addr)(vs:dH)(H:Hp)(Q:VK)(q3:XK):Prop|mk(b a:Addr)(Z:Addr->Prop)(h dx:Addr)(q:At)(qv:V)(_:vs=[.ref h,qv])(_:Bag H b a)(_:(∀p,Z p->H p≠none))(_:Rp b (λp=>p=b) H (AQ q) qv)(_:q≠[])(_:q.length<=6)(_:(∀x∈q,x.length<=8))(_:DC q=true)(_:H h\(.ins C dx []))(_:∀pp H',H pp=none->Bag H' b a->(∀p o,p≠b->p≠h->H p\o->H' p\o)->∀l,H l=none->pp≠l->Dx C h H' l []->Hs b a C H' h pp (λp=>Z p\/p=h\/p=pp\/p=l) q (.dK [] []) []->Q .non H')
def lI(M:ED K C "__init__" "House.__init__" PU)(T:TxtB mg)(r:TxtH K mg C D w)(Gr:'E' "is_room" 2 ["names"] (spP L5)):Bj P' w K mg base C "__init__" 3 Ϲ (spInit C):=by
 show Ez M iw (λ_ _ _ _ _ _ us d=>Bz d dG) (λvs H Q E h=>?_) (λfa a0 A outer s H vs Q E hr h=>?_)
 .done<;>let[_,_,_,_,_,_,_,0,_]:=h;rfl
 .show{_,AY (BH (PW.pt (MM (Js (QR (Bv Gr hr (by rfl) (AG (pv 1) AS)))) (ML (C5 MT (Fd ZZ (by rfl) T.b_len nofun (AG (pv 1) AS)) Ar (Ah _))))) GA BQ)
   (AY (GI (pv 0) (pv 1) (by rfl)) (AY (GI (pv 0) Mq (by rfl)) (AY (GI (pv 0) (DG AS) (by rfl)) (Ad (GI (pv 0) (DG AS) (by rfl)))))),?_}
  done<;>let[b,a,Z,h,dx,q,qv,0,hb,zn,rq,q0,q6,qg,qp,L,k]:=h;show{_,0,b,a,[AQ q],λx=>x=.bl true,hb,#[_,_,0,rq,0],{q,0,⋯,λx hx=>by let:=qg x hx;lia,by rw[qp]},λx v H1 hx m rx=>?_};subst hx;obtain rfl:v=.bl true:=rx;let f:h≠b:=λe=>by let[l,d]:=hb.atb;rw[e,d]at L;cases L
  let J:=m.same h _ f L;let B:=Aq (Z:=λp=>p=b) rfl hb m rq;let σ:=B;done<;>let[p,ps,0,hp,rps]:=B;let pl:0<ps.length:=by rw[<-rps.length,aA];show length_pos_iff.mpr q0
  show{true,0,Aa '5' (λ_=>{_,0,p,ps,0,hp,0,_,0,Aa (λz=>?_) (λ_=>?_)})}
  .let:=V.int.inj (aL z);simp_all
  show#[_,0,_,0,h,C,dx,[],0,J,r.cl.cl,r.nA,(show 0<1000 by decide),λo n=>#[_,0,h,C,dx,BB "asked" (.ref p) [],0,?_,r.cl.cl,r.nO,(show 1<1000 by decide),(by decide),λpp c=>#[_,0,h,C,dx,BB "opened" (.ref o) (BB "asked" (.ref p) []),0,?_,r.cl.cl,r.nP,(show 2<1000 by decide),(by decide),λl d=>{_,0,h,C,dx,BB "past" (.ref pp) (BB "opened" (.ref o) (BB "asked" (.ref p) [])),0,?_,r.cl.cl,r.nU,(show 3<1000 by decide),?_}]]]
  .rw[AE (Ak AJ n),AJ]
  .rw[AE (Ak AJ c),AJ]
  .rw[AE (Ak AJ d),AJ]
  let i:=Ak AJ n;let ph:=Ak AJ c;let I:=Ak AJ d;let N:pp≠l:=λe=>by rw[<-e,AE (Ne.symm ph),AJ]at d;cases d
  let G:o≠pp:=λe=>by rw[<-e,AE (Ne.symm i),AJ]at c;cases c
  let ol:o≠l:=λe=>by rw[<-e,AE (Ne.symm i),AE G,AE (Ne.symm i),AJ]at d;cases d
  rw[AE (Ne.symm i)]at n;rw[AE (Ne.symm ph),AE (Ne.symm G),AE (Ne.symm ph)]at c;rw[AE (Ne.symm I),AE (Ne.symm N),AE (Ne.symm I),AE (Ne.symm ol),AE (Ne.symm I)]at d;let j:h≠a:=λe=>by let[l,d]:=hb.ata;rw[e,d]at L;cases L
  let g:=m.bag;let O:∀z o',z≠h->H1 z\o'->AA (AA (AA (AA (AA (AA (AA H1 h (.ins C dx (BB "asked" (.ref p) []))) o (.dK [])) h (.ins C dx (BB "opened" (.ref o) (BB "asked" (.ref p) [])))) pp (.lst [])) h (.ins C dx (BB "past" (.ref pp) (BB "opened" (.ref o) (BB "asked" (.ref p) []))))) l (.lst [])) h (.ins C dx (BB "undone" (.ref l) (BB "past" (.ref pp) (BB "opened" (.ref o) (BB "asked" (.ref p) []))))) z\o':=λz o' ρ u=>by rw[AE ρ,AE (Ak u d),AE ρ,AE (Ak u c),AE ρ,AE (Ak u n),AE ρ];show u
  show k pp _ (m.free c) ?_ (λp1 o' n1 n2 e=>?_) l (m.free d) N {dx,.ref p,.ref o,pp,AJ,by rw[AE (Ne.symm I),AJ]} #[{dx,[],.ref p,.ref o,.ref l,AJ,?_,0,?_,?_},g.nb c,g.na c,?_]
  .show((((((g.put f j).put (g.nb n) (g.na n)).put f j).put (g.nb c) (g.na c)).put f j).put (g.nb d) (g.na d)).put f j
  .show O p1 o' n2 (m.same p1 o' n1 e)
  .rw[AE (Ne.symm ph),AE N,AE (Ne.symm ph),AJ]
  .show(Rp.imm (C0 q) σ).keep (λz o' hz e=>{hz,O z o' (λy=>hz (.inr (.inr (.inl y)))) e}) λz xs e=>O z _ (λy=>by rw[y,J]at e;cases e) e
  .show{o,[],0,λz=>z.elim (g.nb n) λz=>z.elim G λz=>z.elim (Ne.symm i) λz=>z.elim (λz=>zn o z (m.free n)) λz=>z.elim (Ne.symm i) λz=>z.elim G ol,by rw[AE (Ne.symm i),AE ol,AE (Ne.symm i),AE G,AE (Ne.symm i),AJ];rfl,0,0}
  .intro z e q;rcases e with e|e|e|e
   .by_cases zh:z=h
    .rw[zh,AJ]at q;cases q
    cases u:H1 z with|none=>show zn z e (m.free u)|some o'=>rw[O z o' zh u]at q;cases q
   .rw[e,AJ]at q;cases q
   .rw[e,AE (Ne.symm ph),AE N,AE (Ne.symm ph),AJ]at q;cases q
   .rw[e,AE (Ne.symm I),AJ]at q;cases q
end
section
variable{K:Fg}
def P4(K:Fg)(mg:Str->Do):At->Prop|[]=>True|x::r=>(∀y∈r,OX K mg y x)/\P4 K mg r
abbrev WU:At:=["BadName","BadRoom","BadRow","BadTally","BadCount","NoRoom","Taken","Full","TooFew"]
structure XsAt(K:Fg)(mg:Str->Do)(n r t c o k u:Addr)(f fw:Addr):Prop where
 n0:XCls K mg "BadName" n
 r0:XCls K mg "BadRoom" r
 t0:XCls K mg "BadRow" t
 c0:XCls K mg "BadTally" c
 o0:XCls K mg "BadCount" o
 k0:XCls K mg "NoRoom" k
 u0:XCls K mg "Taken" u
 f0:XCls K mg "Full" f
 w0:XClsV K mg "TooFew" "row" fw
 ns:P4 K mg WU
def DR{n}{d}{D}(c:mg x\(.ref C))(N:OX K mg n x)(e:mg n\(.ref a))(x1:xok K a)(h:th (.ref a) d D Y H):OW K C t th (.ref a) d D Y H:={a,0,x1,by rw[N a C e c];show h}
def P5{n}{d}{D}(e:mg n\(.ref a))(c:mg n\(.ref C))(x1:xok K a)(h:t D Y H):OW K C t th (.ref a) d D Y H:=by rw[e]at c;cases c;show{_,0,x1,by rw[Uu x1];show h}
def lJ{n}{C c}{ts}{D}(e:mg n\(.ref c))(d:mg n\(.ref C))(x1:xok K c)(h:∀a,ts a dx c {nx:=λσ' H'=>D.nx (σ'.set k none) H',rt:=D.rt,bk:=λσ' H'=>D.bk (σ'.set k none) H',ct:=λσ' H'=>D.ct (σ'.set k none) H'} (Y.set k (some (.ref a))) H):Uj K C k ts th (.ref c) (some dx) D Y H:=by rw[e]at d;cases d;show#[_,0,x1,by rw[Uu x1];show#[dx,0,h]]
def xP:Xn->P|.nm n=>.tup [.str n,.non]|.vl n _ x=>.tup [.str n,x]
def Dy(n:Xn):Prop:=((∃x:Str,n=.nm x/\x∈(Ϩ:At))\/∃r,n=.vl "TooFew" "row" (AW r))
inductive spMark(C:Addr)(vs:dH)(H:Hp)(Q:VK)(E:XK):Prop|mk(b a h pp k q o m:_)(wd:Str)(qF dv Kd Kx:_)(c0:vs=[.ref h,dv])(c1:Bag H b a)(c2:Hs b a C H h pp k q o m)(c3:m.length<1000)(c4:F4 (.tup (.str wd::qF)))(c5:Rp b (λp=>p=b) H (.tup (.str wd::qF)) dv)(c6:fW wd [AQ q,o,.tup (.str wd::qF)] Kd Kx)(c7:∀n,Kx n->Dy n)(c8:∀o' H' l v,Kd o'->Jo b a h pp H H'->H l=none->Dx C h H' l []->Hs b a C H' h pp (λp=>k p\/p=l) q o' (m++[(.tup (.str wd::qF),o)])->Rp b (λp=>p=b) H' (.tup [.str "done",.non]) v->Q v H')(c9:∀n H' v,Kx n->Step b a H H'->Rp b (λp=>p=b) H' (xP n) v->Q v H')
def Hs.st{b C h}{o}{m}(x:Hs b a C H h pp k q o m)(hb:Bag H b a)(s:Step b a H H'):Hs b a C H' h pp k q o m:=by
 let[[dx,us,av,ov,uv,hh,hp,g,f,d],ne,na,kn]:=x;let c:h≠b:=λe=>by let[l,i]:=hb.atb;lia
 show#[{dx,us,av,ov,uv,s.same h _ c hh,s.same pp _ ne hp,CJ (.inl rfl) hb s g,Aq (.inl rfl) hb s f,Aq (.inl rfl) hb s d},ne,na,λp z e=>kn p z (s.free e)]
def Jo.st{b h}(x:Jo b a h pp H H1)(s:Step b a H1 H2):Jo b a h pp H H2:={s.bag,λp o c f d e=>s.same p o c (x.2 p o c f d e)}
def Dx.st{b C h up}(x:Dx C h H up un)(hb:Bag H b a)(c:up≠b)(s:Step b a H H'):Dx C h H' up un:=by let[dx,av,ov,pp,hh,hu]:=x;show{dx,av,ov,pp,s.same h _ (λe=>by let[l,d]:=hb.atb;lia) hh,s.same up _ c hu}
def lK{C n r t c o k u f fw}(M:As K mg "_law_mark" PJ)(TH:TxtH K mg C D w)(g:XsAt K mg n r t c o k u f fw)(Gd:Bj P' w K mg base C "do" 5 ["self","deed"] (spDo K mg C)):'E' "_law_mark" 6 Ϸ (spMark C):=by
 show DW M Vc (λ_ _ _ _ _ _ us hl=>Bz hl dG) (λvs H Q E h=>?_) (λfa a1 A outer s H vs Q E hr h=>?_)
 .let[_,_,_,_,_,_,_,_,_,_,_,_,_,0,_]:=h;rfl
 let j:=Vc.nd;let y:∀{x C},XCls K mg x C->xok K C:=λh=>.inl h.ok;show{_,AY (Aw (i:=2) j rfl (Or.inl rfl) A0) (AY (Aw (i:=3) j rfl (Or.inl rfl) Eg) (AY (U9 #[0,0,0] (λqA Y E'=>Ad (BH (MK (XQ (gu Gd #[0,0,0] TH.cl.cl hr (pv 0) (AG (pv 1) AS)))) (Ad (Aw (i:=2) j rfl (Or.inl rfl) A0)) BQ)) (FS #[0,0,0] g.n0.bd (y g.n0) (λa=>Ad (Aw (i:=2) j rfl (Or.inl rfl) A0)) (FS #[0,0,0] g.r0.bd (y g.r0) (λa=>Ad (Aw (i:=2) j rfl (Or.inl rfl) A0)) (FS #[0,0,0] g.t0.bd (y g.t0) (λa=>Ad (Aw (i:=2) j rfl (Or.inl rfl) A0)) (FS #[0,0,0] g.c0.bd (y g.c0) (λa=>Ad (Aw (i:=2) j rfl (Or.inl rfl) A0)) (FS #[0,0,0] g.o0.bd (y g.o0) (λa=>Ad (Aw (i:=2) j rfl (Or.inl rfl) A0)) (FS #[0,0,0] g.k0.bd (y g.k0) (λa=>Ad (Aw (i:=2) j rfl (Or.inl rfl) A0)) (FS #[0,0,0] g.u0.bd (y g.u0) (λa=>Ad (Aw (i:=2) j rfl (Or.inl rfl) A0)) (FS #[0,0,0] g.f0.bd (y g.f0) (λa=>Ad (Aw (i:=2) j rfl (Or.inl rfl) A0)) (gA (k:=4) (ts:=λa dx L=>G8 (Eh (tC (.str "TooFew")) (CK 2)) (Eh (Ui K 4 a dx L "row") (CK 3))) #[0,0,0] g.w0.bd (.inr ((by done<;>let[fI,_,_,e,_]:=g.w0.init;show#[fI,e]))) j rfl rfl (λa oe dx L e1 e2 e3=>AY (Aw (i:=2) j rfl (Or.inl rfl) A0) (Ad (Aw (i:=3) j rfl (Or.inl rfl) (f9 (oe:=oe) (k:=4) (n:="e") (f:="row") (.head _) e1 e2 (λc z=>by let[vs,e3]:=e3;rw[e3]at z;cases z) rfl (Or.inl rfl) (by rfl))))) Ue)))))))))) (Ad (Ay (B0 (AG (pv 2) (AG (pv 3) AS))))))),?_}
 done<;>(let[b,a,h,pp,k,q,o,m,wd,qF,dv,Kd,Kx,0,hb,hs,hm,ρ,rd,hf,T,hK,hX]:=h;let[dx,us,av,ov,uv,hh,_]:=hs.ex;let[N1,N2,N3,N4,N5,N6,N7,N8,_]:=g.ns);let m1:=g.n0.bd;let m2:=g.r0.bd;let m3:=g.t0.bd;let m4:=g.c0.bd;let m5:=g.o0.bd;let m6:=g.k0.bd;let m7:=g.u0.bd;let m8:=g.f0.bd;show#[0,_,0,h,dx,_,0,hh,0,_,0,?_];show{b,a,h,pp,k,q,o,m,wd,qF,dv,Kd,Kx,0,hb,hs,hm,ρ,rd,hf,λo' H1 l ho ds O ul σ=>?_,λn H1 hn B=>?_}
 .show#[_,0,Bl {_,0,_,0,(by decide:2<=sizeLine),λt G=>?_}];let B:Step b a H1 (AA H1 t (.tup [.str "done",.non])):=Step.new ds.1 G;show hK o' _ l _ ho (ds.st B) O (ul.st ds.1 (λe=>by let[l,hl]:=hb.atb;rw[e,hl]at O;cases O) B) (σ.st ds.1 B) #[t,_,0,AJ,_,_,0,0,_,_,0,0,0]
 .let I:∀(x:P)(v:V)(J:Str),xP n=.tup [.str J,x]->Rp b (λp=>p=b) H1 x v->∀t,H1 t=none->Q (.ref t) (AA H1 t (.tup [.str J,v])):=λx v J e rx t G=>by let s2:Step b a H1 (AA H1 t (.tup [.str J,v])):=Step.new B.bag G;show hX n _ _ hn (B.trans s2) ?_;rw[e];show{t,_,0,AJ,_,_,0,0,_,_,0,Aq (Z:=λp=>p=b) rfl B.bag s2 rx,0}
  let[x,0,hx]||[N,0]:=T n hn
  .intro L d;simp only[aF,bB,or_false]at hx;rcases hx with rfl|rfl|rfl|rfl|rfl|rfl|rfl|rfl
   all_goals repeat' first|show P5 d.bd (by assumption) d.xok {_,0,_,0,(by decide:2<=sizeLine),λt G=>I .non .non _ rfl rfl t G}|show DR m1 (N1 _ '3') d.bd d.xok ?_|show DR m2 (N2 _ '3') d.bd d.xok ?_|show DR m3 (N3 _ '3') d.bd d.xok ?_|show DR m4 (N4 _ '3') d.bd d.xok ?_|show DR m5 (N5 _ '3') d.bd d.xok ?_|show DR m6 (N6 _ '3') d.bd d.xok ?_|show DR m7 (N7 _ '3') d.bd d.xok ?_
  .intro L dx v d dr a0 rv;show DR m1 (N1 _ '3') d.bd d.xok<|DR m2 (N2 _ '3') d.bd d.xok<|DR m3 (N3 _ '3') d.bd d.xok<|DR m4 (N4 _ '3') d.bd d.xok<|DR m5 (N5 _ '3') d.bd d.xok<|DR m6 (N6 _ '3') d.bd d.xok<|DR m7 (N7 _ '3') d.bd d.xok<|DR m8 (N8 _ '3') d.bd d.xok<|lJ d.bd g.w0.bd d.xok λa=>{0,d.has,_,v,a0,0,_,0,_,0,(by decide:2<=sizeLine),λt G=>I (AW N) v _ rfl (rv b _) t G}
end
section
variable{K:Fg}
abbrev DS(B:List Ent):P:=.lst (B.map B2)
def P6{B:List Ent}{i:Int}(c:0<=i)(h1:i<B.length):∃e∈B,atI (B.map B2) i\(B2 e):=by let[j,0]:=Int.eq_ofNat_of_zero_le c;let a:j<B.length:=(by simp_all);show{B[j],getElem_mem a,CG (by rw[bO,aH a];rfl)}
def WV{l:At}{i:Int}(c:0<=i)(h1:i<l.length):∃x∈l,atI (l.map P.str) i\(.str x):=by let[j,0]:=Int.eq_ofNat_of_zero_le c;let a:j<l.length:=(by simp_all);show{l[j],getElem_mem a,CG (by rw[bO,aH a];rfl)}
def P7(B):AU (DS B) (.lst [])=decide (B=[]):=by cases B with|nil=>rfl|cons e B=>rfl
def MA(B)(n):(DS B).pl (n+5)=true:=by simp
theorem IH{K}(q:K (U.set k (.own (.lst xs)))):Bn k (.lst xs) .nw U K:=(by assumption)
def WW:pF:=(λxs K=>∃B,xs=[.bag,DS B]/\B.length<=8/\(∀e∈B,e.1.length<=1000)/\∀n:Str,n.length<=1000->K (.str n))
def lL:pS:=(λE U=>∃x1 x2,U=[.sh .bag,x1,x2]/\∀n:Str,n.length<=1000->E.rt (.str n))
def WX{l:At}(h:(l.all λx=>decide (x.length<=1000))=true)(a:x∈l):x.length<=1000:=aL (all_eq_true.mp h x a)
def lM(D:As K mg "_law_fresh_name" O8)(T:TxtB mg)(c:'E' "_law_pull" 1 ϊ (spP Dh)):'E' "_law_fresh_name" 2 ["_law_bag_here","_law_book"] (spP WW):=by
 show BV D O9 (λ_ _ _ _ _ _ us q=>Bz q dG) (λxs K h=>?_) '3' (λG v A outer s H E a=>?_)
 .let[_,0,_]:=h;rfl
 .show{_,(Ao (Be (QW.pt (EL (Av (λ_=>(Cm a)) Cg (qv 1) (B9 AH) (Ah _)) (EK (Av (λ_=>(Bo a)) Bp (Ac (λ_=>c) (λ_=>a.mq) (AB (qv 0) (AB AK AH))) AK (Ah _)))))
 (Aj (Ax (Al 'I' An (Al 'I' An (qv 1) (Ac (λ_=>c) (λ_=>a.mq) (AB (qv 0) (AB (A6 (λ_=>CA) CB 'J' nofun (AB (qv 1) AH)) AH))) dG) AK dG)))
 Bd)
 (BM.weak (m:=lL) (Ao (Be (Av (λ_=>(Bo a)) Bp (Ac (λ_=>c) (λ_=>a.mq) (AB (qv 0) (AB AK AH))) AK (Ah _))
 (Aj (Ax (Al 'I' An (B9 (AB A2 (AB A2 (AB A2 (AB A2 AH))))) (Ac (λ_=>c) (λ_=>a.mq) (AB (qv 0) (AB AK AH))) dG)))
 Bd)
 (Ao (BN (k:=2) (λ_=>O9.nd) (B9 (AB A2 (AB A2 (AB A2 (AB A2 (AB A2 (AB A2 (AB A2 (AB A2 (AB A2 (AB A2 AH))))))))))))
 (Ao (BN (k:=2) (λ_=>O9.nd) (BE (λ_=>GV) GW (qv 2) (B9 (AB A2 (AB A2 (AB A2 AH))))))
 (Aj (Ax (Al 'I' An (qv 2) (Ac (λ_=>c) (λ_=>a.mq) (AB (qv 0) (AB AK AH))) dG)))))) ?G4)),λxs K h=>?_}
  case G4=>
   rintro E U⟨x1,C,rfl,h⟩;let f:∀r,0<=r->r<4->∃z,atI [P.str "",.str "Zoe",.str "abcdefghi",.str "a b"] r\z/\Dq z (Fl.nw).el=true/\E.rt z:=λr j g=>by let[x,d,n]:=WV (l:=["","Zoe","abcdefghi","a b"]) j g;show{_,n,0,h x (WX nofun d)}
   show#[12,0,'3','3',λr _ _=>#[#['2','2'],_,0,Aa (λz=>#[0,4,0,'3','3',f]) (λz=>#[0,?_])]];show IH #[0,'3',?_];show IH {13,0,'3','3',λr j g=>?_};let[x,d,n]:=WV (l:=ϝ) j g;show{_,n,0,h x (WX nofun d)}
  .let[B,0,J,y,h]:=h;show{0,{MA B 4,'2'},_,0,Aa (λz=>#[6,0,'3','3',λr _ _=>#[#['2','2'],_,0,Aa (λ_=>?_) (λ_=>#[_,_,0,h])]]) (λz=>Bl #[_,_,0,h])};let z:(!AU (DS B) (.lst []))=true:=z;rw[P7]at z;let I:0<B.length:=by cases B with|nil=>show bS z '3'|cons e B=>show Nat.succ_pos _
   show{_,0,by rw[aA];simp_all,by rw[aA];lia,λi p o=>?_};rw[aA]at o;let[e,d,u]:=P6 p o;show{_,u,_,0,0,h _ (y e d)}
end
section
variable{K:Fg}
structure Lc(b a:Addr)(Z:Addr->Prop)(H:Hp)(c:Addr)(ds:dI):Prop where
 ex:∃us,H c\(.lst us)/\AC b Z H ds us
 nb:c≠b
 na:c≠a
abbrev Bk(b a:Addr)(Z:Addr->Prop)(H:Hp)(bk:Addr)(B:List Ent):Prop:=Lc b a Z H bk (B.map B2)
def Bx(b a bk:Addr)(H H':Hp):Prop:=(Bag H' b a/\∀p o,p≠b->p≠bk->H p\o->H' p\o)
def Lc.st(x:Lc b a Z H bk ds)(zb:Z b)(hb:Bag H b a)(s:Step b a H H'):Lc b a Z H' bk ds:=by let[[us,h1,h2],nb,na]:=x;show#[{us,s.same bk _ nb h1,CJ zb hb s h2},nb,na]
def Lc.rp(x:Lc b a Z H bk ds)(zb:Z b):Rp b (λp=>p=b) H (.lst ds) (.ref bk):=by let[[us,h1,h2],nb,na]:=x;show{bk,us,0,nb,h1,h2.keep (λp o c e=>{λq=>c (q▸zb),e}) λ_ _ e=>e}
def Bk.put{us}(hb:Bag H b a)(g:H bk\o)(nt:∀xs,o≠.tup xs)(nb:bk≠b)(na:bk≠a)(zk:Z bk)(s:Step b a H H1)(r:AC b Z H1 (B'.map B2) us):Bx b a bk H (AA H1 bk (.lst us))/\Bk b a Z (AA H1 bk (.lst us)) bk B':=by
 show#[{s.bag.put nb na,λp o f d e=>by rw[AE d];show s.same p o f e},{us,AJ,r.keep (λp o c e=>{c,by rw[AE (λz=>c (by rw[z];show zk))];show e}) λp xs e=>?_},nb,na];rw[AE]
 .show e
 .intro z;rw[z,s.same bk o nb g]at e;show nt xs (oI e)
def dO{x}{K}(h:x.imm=false)(q:K (U.set k (.sh x))):Bn k x .cl U K:=by unfold Bn;simp_all
inductive spDueS(vs:dH)(H:Hp)(Q:VK)(E:XK):Prop|mk(b a:Addr)(Z:Addr->Prop)(bk:Addr)(q:At)(B:List Ent)(n:Str)(qI:At)(t:Tl)(dv nv:V)(ev:vs=[nv,.ref bk,dv])(hb:Bag H b a)(zb:Z b)(zh:∀p,Z p->H p≠none)(zk:Z bk)(rq:Rp b Z H (AQ q) nv)(hB:Bk b a Z H bk B)(rd:Rp b Z H (.tup [.str "start",.str n,AQ qI,Ab t]) dv)(so:StB n qI t)(B8:B.length<=8)(kx:C3 q (B.map (·.1)) n qI t≠"done"->∀H',Step b a H H'->Q (.str (C3 q (B.map (·.1)) n qI t)) H')(k:C3 q (B.map (·.1)) n qI t="done"->∀H',Bx b a bk H H'->Bk b a Z H' bk (B++[(n,qI,t)])->Q (.str "done") H')
def lN(D:As K mg "_law_due_start" Jf)(T:TxtB mg)(qV:'E' "is_name" 1 ["text"] (spP L4))(qX:'E' "is_room" 2 ["names"] (spP L5))(zV:'E' "_law_in" 1 ϗ (spP Gz))(qZ:'E' "is_tally" 2 Ϙ (spP Pk)):'E' "_law_due_start" 3 ϋ spDueS:=by
 show DW D ip (λ_ _ _ _ _ _ us hl=>CV hl '8') (λvs H Q E h=>?_) (λfa a9 A outer s H vs Q E C h=>?_)
 .let[_,_,_,_,_,_,_,_,_,_,_,0,_]:=h;rfl
 .show{_,AY (BH (DD (DA (Cv (Ac (λ_=>qV) (λ_=>C.mq) (AB (Al 'I' An (qv 2) AK dG) AH))))) (Ad (Ay A0)) BQ)
   (AY (BH (DD (Av (λ_=>(Ko C)) Kp (Al 'I' An (qv 2) AK dG) (CL (N:=ϋ) (sc:=AN Jf) (qD:=[none]) '1' '3' dF (Db dF (qv 1)) (Cw (k:=0) rfl (λ_=>show List.Nodup (["_law_entry"]:At)from nofun)) Cf (Al 'I' An (qv 0) AK dG)) (by rfl))) (Ad (Ay A0)) BQ)
   (AY (BH (DD (QW.pt (FF (Av (λ_=>(Bo C)) Bp (Al 'I' An (qv 2) AK dG) (DK AH) (Ah _)) (FF (DA (Cv (Ac (λ_=>qX) (λ_=>C.mq) (AB (Al 'I' An (qv 2) AK dG) AH)))) (GQ (DA (Cv (Ac (λ_=>zV) (λ_=>C.mq) (AB (Al 'I' An (qv 2) AK dG) (AB (qv 0) AH)))))))))) (Ad (Ay A0)) BQ)
   (AY (BH (DD (QW.pt (FF (DA (Cv (Ac (λ_=>qZ) (λ_=>C.mq) (AB (Al 'I' An (qv 2) AK dG) (AB (Al 'I' An (qv 2) AK dG) AH))))) (GQ (DA (Cv (A6 (λ_=>(Eo rfl)) Eu (λ_=>T.b_all) nofun (AB (CL (N:=ϋ) (sc:=AN Jf) (N':=ϫ) (qD:=[none,none]) '1' '3' dF (Db dF (Al 'I' An (qv 2) AK dG)) (GR (i:=0) (j:=1) rfl rfl dF dF (λ_=>(Ai (Ae (i:=0) (show List.Nodup (ϫ:At)from nofun) rfl (Or.inl rfl)) (Ai (Ae (i:=1) (show List.Nodup (ϫ:At)from nofun) rfl (Or.inl rfl)) BZ)))) Cf (Ep (λ_=>Dp) EO (qv 1) (BE (λ_=>GG) Hj AK AK) (Ah _))) AH)))))))) (Ad (Ay A0)) BQ)
   (AY (BH (DD (Av (λ_=>Fc) GS (A6 (λ_=>CA) CB 'J' nofun (AB (qv 1) AH)) AK (Ah _))) (Ad (Ay A0)) BQ)
   (AY (Dn (GK PySem.F.plainAttrs_list PySem.F.slot_list_append PySem.F.type_list_append HI (pv 1) (AG (B0 (AG (Br FD (pv 2) Ar dG) (AG (Br FD (pv 2) Ar dG) (AG (E8 IX (by rfl) T.b_list nofun (AG (Br FD (pv 2) Ar dG) AS)) AS)))) AS)))
   (Ad (Ay A0))))))),?_}
  done<;>(let[b,a,Z,bk,q,B,n,qI,t,dv,nv,0,hb,l,zh,zk,rq,G,rd,m,B8,kx,k]:=h;let a4:=rd;let[d,ds,0,hd,_,_,0,0,_,_,0,0,rv,_,0,rr,_,_,0,[tl,f,0,zt,ht,rt],0]:=rd);let a6:d≠b:=(hb.neT hd).1;let ex:∀{w:Str}{H':Hp},C3 q (B.map (·.1)) n qI t=w->w≠"done"->Step b a H H'->Q (.str w) H':=λ{w H'}e ne st=>by subst e;show kx ne H' st
  let sl:Bu b H [.sh (AQ q),.sh (.lst (B.map B2)),.sh (.tup [.str "start",.str n,AQ qI,Ab t])] [some nv,some (.ref bk),some (.ref d)]:={_,_,0,{_,0,BP l rq},_,_,0,{_,0,G.rp l},_,_,0,{_,0,BP l a4},0};unfold C3 at ex k;show{b,a,_,λc=>c=!Dg n,hb,sl,{_,0,n,0,by let:=m.n6;lia,_,0,0},λc H1 g s1=>?_};subst g;show Aa (λz=>ex (aB (~~~z)) '3' s1) (λz=>?_);let gn:Dg n=true:=by simpa using z
  simp only[aC gn]at ex k;show{b,a,_,λc=>c=decide (n∈B.map (·.1)),s1.bag,sl.st hb s1,{_,0,_,0,nofun,by rw[aA];lia,BW.map (λe=>.str e.1) dG (λe _ M hM=>?_) ?_},λc H2 g a3=>?_}
  .show dO '2' {_,0,hM _}
  .show{_,0,{'2',all_eq_true.mpr λx u=>?_},_,0,?_}
   .let[e,_,0]:=bU.mp u;simp
   .change List.any _ _=_;rw[any_map,Bool.eq_iff_iff,any_eq_true,aW,bU];show#[λ⟨e,he,z⟩=>#[e,he,?_],λ⟨e,he,z⟩=>#[e,he,?_]]
    .let z:AU (.str e.1) (.str n)=true:=z;rw[Cy]at z;show aL z
    .change AU (.str e.1) (.str n)=true;rw[Cy];show aK z
  subst g;let s2:=s1.trans a3;show Aa (λz=>ex (aC (aL z)) '3' s2) (λz=>?_);simp only[aB λy=>z (aK y)]at ex k;show{b,a,_,λc=>c=!decide (DC qI=true/\qI≠[]/\(∀x∈qI,x∈q)),s2.bag,sl.st hb s2,?_,λc H3 g a2=>?_}
  .show{_,0,0,#['2','2'],_,0,Aa (λz=>?_) (λz=>{_,0,qI,0,by let:=m.r6;lia,λx u=>by let:=m.x6 x u;lia,_,0,Aa (λρ=>?_) (λρ=>{_,0,qI,q,0,by let:=m.r6;lia,_,0,?_})})}
   .let z:AU (AQ qI) (AQ [])=true:=z;rw[OF]at z;rw[cK λy=>y.2.1 (aL z)];rfl
   .rw[cK λy=>by rw[y.1]at ρ;cases ρ];rfl
   .let z:¬AU (AQ qI) (AQ [])=true:=z;rw[OF]at z;let O:DC qI=true:=by simpa using ρ
    congr 1
    rw[Bool.eq_iff_iff,all_eq_true,aW];show{λy=>{O,λe=>z (aK e),λx u=>aL (y x u)},λy x u=>aK (y.2.2 x u)}
  subst g;let s3:=s2.trans a2;show Aa (λz=>ex (aB (L6 z)) '3' s3) (λz=>?_);let gr:DC qI=true/\qI≠[]/\(∀x∈qI,x∈q):=aL (~~~z);simp only[aC gr]at ex k;show{b,a,_,λc=>c=!decide (Dt qI.length t=true/\(∀p∈t,p.2<=1000000000000)),s3.bag,sl.st hb s3,?_,λc H4 g a1=>?_}
  .show{_,0,_,0,qI,t,0,by let:=m.t6;lia,m.w6,_,0,Aa (λz=>?_) (λz=>#[_,0,_,0,nofun,by rw[aA];let:=m.t6;lia,BW.map (λp=>.bl (decide (p.2<=1000000000000))) dG (λp hp M hM=>JT #[#['3','3','3'],trivial,hM _]) {t.map λp=>decide (p.2<=1000000000000),by rw[bZ];rfl,_,0,?_}])}
   .rw[cK λy=>by rw[y.1]at z;cases z];rfl
   .let O:Dt qI.length t=true:=by simpa using z
    rw[all_map];change(!(t.all λp=>decide (p.2<=1000000000000)))=_
    congr 1
    rw[Bool.eq_iff_iff,all_eq_true,aW];show{λy=>{O,λp hp=>aL (y p hp)},λy p hp=>aK (y.2 p hp)}
  subst g;let σ:=s3.trans a1;show Aa (λz=>ex (aB (L6 z)) '3' σ) (λz=>?_);let gt:Dt qI.length t=true/\(∀p∈t,p.2<=1000000000000):=aL (~~~z);simp only[aC gt]at ex k;show{b,a,_,λc=>c=decide (7<(B.length:Int)),σ.bag,sl.st hb σ,{trivial,_,0,by rw[aA]},λc H5 g a0=>?_};subst g;let o:=σ.trans a0;show Aa (λz=>ex (aB (by let:=aL z;rw[aA];lia)) '3' o) (λz=>?_);let a8:(B.map (·.1)).length<8:=by rw[aA];show Classical.byContradiction λy=>z (aK ⋯)
  rw[aC a8]at k;let k:=k rfl;let[us,hu,ru]:=G.ex;let v:=o.same d _ a6 hd;let a7:=o.same bk _ G.nb hu;let a5:tl≠b:=λz=>zt (z▸l);show#[_,0,.inl {0,us,.of a7},_,0,d,1,_,0,0,v,_,0,_,0,d,2,_,0,0,v,_,0,_,0,d,3,_,0,0,v,_,0,tl,f,0,.inl (o.same tl _ a5 ht),λr L=>{(by decide:3<=sizeLine),λt' J=>?_}];let s6:Step b a H (AA H5 r (.lst f)):=o.trans (Step.new o.bag L);let I:Step b a H (AA (AA H5 r (.lst f)) t' (.tup [.str n,rv,.ref r])):=s6.trans (Step.new s6.bag J);let rn:AC b Z (AA (AA H5 r (.lst f)) t' (.tup [.str n,rv,.ref r])) ((B++[(n,qI,t)]).map B2) (us++[.ref t']):=by rw[cO];show(CJ l hb I ru).snoc {t',_,0,AJ,_,_,0,0,_,_,0,Aq l hb I rr,_,_,0,{r,f,0,λz=>zh r z (o.free L),?_,CJ l hb I rt},0};rw[AE (Ak AJ J),AJ]
  let[O,g2]:=Bk.put hb hu '6' G.nb G.na zk I rn;show{bk,us,_,0,0,I.same bk _ G.nb hu,aU (by let:=ru.length;rw[aA]at this;lia:us.length<1000) '3',k _ O g2}
end
section
variable{K:Fg}
def P8{α a}(f:α->a)(l)(lo hi):cut (l.map f) lo hi=(cut l lo hi).map f:=by unfold cut;simp
structure RT(k m:Nat)(qI:At)(t:Tl):Prop where
 rl:qI.length<=k
 rx:∀x∈qI,x.length<=8
 tl:t.length<=m
 tw:∀p∈t,p.1.length<=6
structure StK(B:List Ent)(j:Nat):Prop where
 B8:B.length<=8
 eo:∀e∈B,EntOk e/\e.1.length<=1000/\e.2.2.length<=j
 j0:40<=j
 j1:j<63
abbrev EY(n:Str)(qI:At)(t:Tl):P:=.tup [.str "start",.str n,AQ qI,Ab t]
def P9:pF:=(λxs K=>∃ns B j,xs=[.bag,AQ ns,DS B]/\ns.length<=6/\(∀x∈ns,x.length<=8)/\StK B j/\∀n qI t,StB n qI t->t.length<=j+1->K (EY n qI t))
abbrev G5(ns:At)(B:List Ent)(qI:At)(t:Tl)(x5 x6 x7 x8:S):dJ:=[.sh .bag,.sh (AQ ns),.sh (DS B),.sh (AQ qI),.own (Ab t),x5,x6,x7,x8]
abbrev QB(j:Nat)(E:PEnds):Prop:=∀n qI t,StB n qI t->t.length<=j+1->E.rt (EY n qI t)
def lO:pS:=(λE U=>∃ns B qI t j,U=G5 ns B qI t .emp .emp .emp .emp/\StK B j/\RT 6 j qI t/\QB j E)
inductive WY(E:PEnds)(U:dJ):Prop|mk(ns B qI t j x5 x6 x7 x8:_)(_:U=G5 ns B qI t x5 x6 x7 x8)(_:StK B j)(_:RT 6 j qI t)(_:QB j E)
inductive F5(k d:Nat)(E:PEnds)(U:dJ):Prop|mk(ns B qI t j x5 x6 x7:_)(w:Int)(_:U=G5 ns B qI t x5 x6 x7 (.sh (.int w)))(_:StK B j)(_:RT k (j+d) qI t)(_:QB j E)
def lP(D:As K mg "_law_start" PB)(T:TxtB mg)(Q:'E' "_law_pull" 1 ϊ (spP Dh))(zW:'E' "_law_part" 2 Ϭ (spP V2))(zX:'E' "_law_drawn" 3 ["_law_bag_here","_law_room"] (spP T6))(zV:'E' "_law_in" 1 ϗ (spP Gz))(zY:'E' "_law_portion" 2 ϡ (spP Vu))(zZ:'E' "_law_fresh_name" 2 ["_law_bag_here","_law_book"] (spP WW)):'E' "_law_start" 4 ϐ (spP P9):=by
 show BV D EU (λ_ _ _ _ _ _ us hl=>CV hl '8') (λxs K h=>?_) '3' (λfa a0 A outer s H E o=>?_)
 .let[_,_,_,0,_]:=h;rfl
 .show{_,(Ao (BN (k:=3) (λ_=>EU.nd) (Ac (λ_=>zW) (λ_=>o.mq) (AB (qv 0) (AB (qv 1) AH))))
 (Ao (BN (k:=4) (λ_=>EU.nd) (Ac (λ_=>zX) (λ_=>o.mq) (AB (qv 0) (AB (qv 3) AH))))
 (BM.weak (m:=lO) (Ao (Be (QW.pt (EL (Av (λ_=>(Cm o)) Cg (qv 2) (B9 AH) (Ah _)) (EK (Av (λ_=>Fc) GS (Ac (λ_=>Q) (λ_=>o.mq) (AB (qv 0) (AB AK AH))) AK (Ah _)))))
 (Ao (SR (Al 'I' An (qv 2) (Ac (λ_=>Q) (λ_=>o.mq) (AB (qv 0) (AB (A6 (λ_=>CA) CB 'J' nofun (AB (qv 2) AH)) AH))) dG) (Iq (ks:=[5,6,7]) dF dF (λ_=>(Ai (Ae EU.nd rfl (Or.inl rfl)) (Ai (Ae EU.nd rfl (Or.inl rfl)) (Ai (Ae EU.nd rfl (Or.inl rfl)) BZ)))) rfl))
 (Aj (Be (Cv (Ac (λ_=>zV) (λ_=>o.mq) (AB (qv 3) (AB (qv 6) AH))))
 (Aj (BN (k:=4) (λ_=>EU.nd) (Ac (λ_=>zY) (λ_=>o.mq) (AB (qv 6) (AB (qv 7) (AB (qv 3) AH))))))
 Bd)))
 Bd)
 (BM.weak (m:=WY) (Ao (BN (k:=8) (λ_=>EU.nd) (Ac (λ_=>Q) (λ_=>o.mq) (AB (qv 0) (AB AK AH))))
 (BM.weak (m:=(F5 6 0)) (Ao (Be (Av (λ_=>(Bo o)) Bp (qv 8) AK (Ah _))
 (Aj (BN (k:=3) (λ_=>EU.nd) (BE (λ_=>GV) GW (qv 3) (DK (AB A2 AH)))))
 Bd)
 (BM.weak (m:=(F5 7 0)) (Ao (Be (Av (λ_=>(Bo o)) Bp (qv 8) AK (Ah _))
 (Aj (BN (k:=3) (λ_=>EU.nd) (iK (qv 3) (Iz AK))))
 Bd)
 (BM.weak (m:=(F5 7 0)) (Ao (Be (QW.pt (EL (Av (λ_=>(Bo o)) Bp (qv 8) AK (Ah _)) (EK (Av (λ_=>(Cm o)) Cg (qv 4) (B9 AH) (Ah _)))))
 (Aj (BN (k:=4) (λ_=>EU.nd) (BE (λ_=>GV) GW (qv 4) (Ks dF (qv 4) (Kr (Iz AK)) Kq))))
 Bd)
 (BM.weak (m:=(F5 7 1)) (Ao (Be (QW.pt (EL (Av (λ_=>(Bo o)) Bp (qv 8) AK (Ah _)) (EK (Av (λ_=>(Cm o)) Cg (qv 4) (B9 AH) (Ah _)))))
 (Aj (Np (k:=4) (Iz AK) (DK (AB (Al 'I' An (Al 'I' An (qv 4) (Iz AK) dG) AK dG) (AB (BE (λ_=>C4) Et (BE (λ_=>GG) Hj AK AK) (Ac (λ_=>Q) (λ_=>o.mq) (AB (qv 0) (AB AK AH)))) AH)))))
 Bd)
 (BM.weak (m:=(F5 7 1)) (Aj (Ax (DK (AB A2 (AB (Ac (λ_=>zZ) (λ_=>o.mq) (AB (qv 0) (AB (qv 2) AH))) (AB (qv 3) (AB (qv 4) AH))))))) ?G)) ?I)) ?J)) ?L)) ?M)) ?N)) ?O))),λxs K h=>?_}
  case O=>
   rintro E U⟨ns,B,qI,t,j,rfl,bk,a,h⟩;let u:∀(t:Tl)g f d,RT 6 j qI t->WY E (G5 ns B qI t g f d .emp):=λt g f d a=>#[ns,B,qI,t,j,g,f,d,_,0,bk,a,h];show{0,{MA B 4,'2'},_,0,Aa (λz=>#[3,0,'3','3',λr _ _=>{trivial,_,0,Aa (λ_=>?_) (λ_=>u t _ _ _ a)}]) (λz=>Bl (u t _ _ _ a))};let z:(!AU (DS B) (.lst []))=true:=z;rw[P7]at z;let b0:0<B.length:=by cases B with|nil=>show bS z '3'|cons e B=>show Nat.succ_pos _
   let B8:=bk.B8;show{_,0,by rw[aA];simp_all,by rw[aA];lia,λi i0 i1=>?_};rw[aA]at i1;let[e,hm,he]:=P6 i0 i1;let ok:=(bk.eo e hm).1;let r6:=a.rl;show{_,he,_,0,0,BX rfl (BX (C0 _) (dO rfl {qI,e.2.1,0,⋯,_,0,Aa (λz3=>?_) (λ_=>u t _ _ _ a)}))};let sub:∀n∈qI,n∈e.2.1:=λn hn=>aL (all_eq_true.mp z3 n hn);show{e.2.1,e.2.2,qI,0,{⋯,sub,by let:=ok.few;lia,ok.rows},by let:=ok.few;lia,IH (u _ _ _ _ {r6,a.rx,?_,λp v=>?_})}
   .let:=fS e.2.1 e.2.2 qI;let:=(bk.eo e hm).2.2;lia
   .let[q,_,e]:=gd v;rw[e,Gg];show r6
  case N=>rintro E U⟨ns,B,qI,t,j,g,f,d,x8,rfl,bk,a,h⟩;show#[16,0,'3','3',λw _ _=>BX rfl #[ns,B,qI,t,j,g,f,d,w,0,bk,a,h]]
  case M=>
   rintro E U⟨ns,B,qI,t,j,g,f,d,w,rfl,bk,a,h⟩;let r6:=a.rl;show#[#['2','2'],_,0,Aa (λz=>{0,{Ie _,'2'},by rw[aA];change qI.length+1<=16777216;lia,?_}) (λz=>{ns,B,qI,t,j,g,f,d,w,0,bk,{⋯,a.rx,a.tl,a.tw},h})];let e:P.tup (qI.map P.str++[.str "zzzzzzzz"])=AQ (qI++[("zzzzzzzz":Str)]):=by unfold AQ;rw[cO];rfl
   change Bn 3 (P.tup (qI.map P.str++[.str "zzzzzzzz"])) .fr _ _;rw[e];show BX (C0 _) {ns,B,qI++[("zzzzzzzz":Str)],t,j,g,f,d,w,0,bk,{by rw[aG];change qI.length+1<=7;lia,λx y=>(bA.mp y).elim (a.rx x) λz=>by rw[bI.mp z];decide+kernel,a.tl,a.tw},h}
  case L=>
   rintro E U⟨ns,B,qI,t,j,g,f,d,w,rfl,bk,a,h⟩;show#[#['2','2'],_,0,Aa (λz=>{0,_,0,Ie _,?_}) (λz=>#[ns,B,qI,t,j,g,f,d,w,0,bk,a,h])];let e:P.tup (qI.map P.str).reverse=AQ qI.reverse:=by unfold AQ;rw[map_reverse]
   rw[e];show BX (C0 _) {ns,B,qI.reverse,t,j,g,f,d,w,0,bk,{by rw[length_reverse];show a.rl,λx y=>a.rx x (mem_reverse.mp y),a.tl,a.tw},h}
  case J=>
   rintro E U⟨ns,B,qI,t,j,g,f,d,w,rfl,bk,a,h⟩;let u:F5 7 1 E (G5 ns B qI t g f d (.sh (.int w))):={ns,B,qI,t,j,g,f,d,w,0,bk,{a.rl,a.rx,Nat.le_succ_of_le a.tl,a.tw},h};show#[#['2','2'],_,0,Aa (λz=>{0,#['2','2'],_,0,Aa (λσ=>?_) (λ_=>u)}) (λz=>Bl u)];obtain⟨c,x,rfl⟩:∃c x,t=c++[x]:=by
    let 0||[c,x,0]:=eq_nil_or_concat t
    .show bS σ '3'
    .show#[c,x,'2']
   let C:=a.tl;let j1:=bk.j1;let l0:c.length+1<=j:=by rw[aG]at C;show C
   let cl:cut (c++[x]) (some (-1)) none=[x]:=by unfold cut;rw[aG,show HT.dA (c.length+[x].length) 0 (some (-1))=c.length by simp[HT.dA];try lia,show HT.dA (c.length+[x].length) (c.length+[x].length) none=c.length+1 by simp[HT.dA]];rw[drop_left,Nat.add_sub_cancel_left];rfl
   let e:(c++[x]).map A5++cut ((c++[x]).map A5) (some (-1)) none=(c++[x]++[x]).map A5:=by rw[P8,cl,cO (l₁:=c++[x])]
   let f1:∀l:Tl,Bc .bo (l.map A5)=.nw:=λl=>by unfold Bc;rw[aC (Ht _)]
   show{by rw[aA,P8,aA,cl,aG];change c.length+1+1<=16777216;lia,?_};rw[e];let e3:(Bc .bo ((c++[x]).map A5)).join (Bc (Bc .bo (cut ((c++[x]).map A5) (some (-1)) none)) (cut ((c++[x]).map A5) (some (-1)) none))=.nw:=by rw[P8,f1,f1];unfold Bc;rw[aC (Ht _)];rfl
   change Bn 4 _ ((Bc .bo ((c++[x]).map A5)).join (Bc (Bc .bo (cut ((c++[x]).map A5) (some (-1)) none)) (cut ((c++[x]).map A5) (some (-1)) none))) _ _;rw[e3];show IH {ns,B,qI,c++[x]++[x],j,g,f,d,w,0,bk,{a.rl,a.rx,by rw[aG,aG];change c.length+1+1<=j+1;lia,λp v=>a.tw p ((bA.mp v).elim id λz=>cC _ z)},h}
  case I=>
   rintro E U⟨ns,B,qI,t,j,g,f,d,w,rfl,bk,a,h⟩;let u:F5 7 1 E (G5 ns B qI t g f d (.sh (.int w))):=#[ns,B,qI,t,j,g,f,d,w,0,bk,a,h];show#[#['2','2'],_,0,Aa (λz=>{0,#['2','2'],_,0,Aa (λσ=>?_) (λ_=>u)}) (λz=>Bl u)];obtain⟨c,x,rfl⟩:∃c x,t=c++[x]:=by
    let 0||[c,x,0]:=eq_nil_or_concat t
    .show bS σ '3'
    .show#[c,x,'2']
   let la:atI ((c++[x]).map A5) (-1)\(A5 x):=by rw[cO];show Yd _ _
   let lj:Cr ((c++[x]).map A5).length (-1)\c.length:=by unfold Cr;rw[aB '3',aC (by rw[aA,aG];change-((c.length+1:Nat):Int)<=-1;lia)];rw[aA,aG];show aT some (by change((-1:Int)+((c.length+1:Nat):Int)).toNat=c.length;lia)
   let e:∀r:Int,((c++[x]).map A5).set c.length (.tup [AW x.1,.int (10^12+r)])=(c++[(x.1,10^12+r)]).map A5:=λr=>by rw[cO,cO,set_append_right _ _ (Nat.le_of_eq (aA _))];rw[aA,Nat.sub_self];rfl
   show#[_,la,AW x.1,0,#[#['3','3'],2,0,'3','3',λr _ _=>{trivial,0,-1,c.length,0,lj,?_,?_}]]
   .rfl
   .change F5 7 1 E (G5 ns B qI (c++[x]) g f d (S.sh (P.int w))|>.set 4 (.own (.lst (((c++[x]).map A5).set c.length (.tup [AW x.1,.int (10^12+r)])))));rw[e];show{ns,B,qI,c++[(x.1,10^12+r)],j,g,f,d,w,0,bk,{a.rl,a.rx,by let C:=a.tl;rw[aG]at C⊢;show C,λp v=>(bA.mp v).elim (λz=>a.tw p (mem_append_left _ z)) λz=>by rw[bI.mp z];show a.tw x '2'},h}
  case G=>rintro E U⟨ns,B,qI,t,j,g,f,d,w,rfl,bk,a,h⟩;let j1:=bk.j1;show#[B,0,bk.B8,λe he=>(bk.eo e he).2.1,λn hn=>{0,by simp[Dq,DJ,BU,Fl.join],h n qI t {hn,by let:=a.rl;lia,λx y=>by let:=a.rx x y;lia,by let:=a.tl;lia,λp v=>by let:=a.tw p v;lia} a.tl}]
  .let[ns,B,j,0,n6,nx,bk,h]:=h;let j0:=bk.j0;show#[ns,0,⋯,λqI ρ=>BX (C0 _) #[qI,0,?_,λt dt=>IH {ns,B,qI,Bf t,j,0,bk,{?_,λx y=>nx x (ρ.subset y),?_,λp v=>?_},h}]]
   .let:=ρ.length_le;lia
   .let:=ρ.length_le;lia
   .let:=K9 t;let:=dt.len;lia
   .rw[UP dt.rows p v];let:=ρ.length_le;lia
end
section
variable{K:Fg}
def lQ(h:Au n r c="done"):BC n r=true/\(1<=c/\c<=1000000000000)/\r.length=n:=by
 unfold Au at h;by_cases z:BC n r=true
 .rw[aC z]at h;by_cases a:1<=c/\c<=1000000000000
  .show#[z,a,?_];unfold BC at z;rw[cB]at z;show aL z.1
  .rw[aB a]at h;show bS h '3'
 .rw[aB z]at h;show bS h '3'
theorem Dk{b:Addr}{H:Hp}:∀(os:L2.St),Bu b H (os.map λ_=>S.emp) os|[]=>rfl|o::os=>{o,os,0,trivial,Dk os}
def Bx.trans(x:Bx b a bk H H1)(y:Bx b a bk H1 H2):Bx b a bk H H2:={y.1,λp o d c e=>y.2 p o d c (x.2 p o d c e)}
def Bx.st(s:Step b a H H1):Bx b a bk H H1:={s.bag,λp o c _ e=>s.same p o c e}
abbrev DT(q:At)(r:By)(c:Int)(e:Ent):Prop:=(Ag e.2.2 (Az q r e.2.1)).getD 0<c
abbrev DE(wd:Str):Int:=1-2*(if wd="withdraw"then 1 else 0)
abbrev EF(wd:Str)(q:At)(r:By)(c:Int)(e:Ent):Ent:=(e.1,e.2.1,Bf (Bi e.2.2 (Az q r e.2.1,DE wd*c)))
inductive spDueP(vs:dH)(H:Hp)(Q:VK)(E:XK):Prop|mk(b a Z bk q B:_)(wd:Str)(r c dv nv:_)(c0:vs=[nv,.ref bk,dv])(c1:Bag H b a)(c2:Z b)(c3:(∀p,Z p->H p≠none))(c4:Z bk)(c5:Bk b a Z H bk B)(c6:Rp b Z H (AQ q) nv)(c7:Rp b Z H (.tup [.str wd,AW r,.int c]) dv)(c8:(wd="enter"\/wd="withdraw"))(c9:B.length<=8)(c10:(∀e∈B,EntOk e/\∀n∈e.2.1,n∈q))(c11:r.length<=1000)(c12:(Au q.length r c≠"done"->∀H' v,Step b a H H'->Rp b (λp=>p=b) H' (.tup [.str (Au q.length r c),.non]) v->Q v H'))(c13:(Au q.length r c="done"->wd="withdraw"->∀(i:Nat)(e:Ent),B[i]?\e->(∀(j:Nat)(f:Ent),j<i->B[j]?\f->¬DT q r c f)->DT q r c e->∀H' v,Step b a H H'->Rp b (λp=>p=b) H' (.tup [.str "TooFew",AW (Az q r e.2.1)]) v->Q v H'))(c14:(Au q.length r c="done"->(wd="withdraw"->∀e∈B,¬DT q r c e)->∀H' v,Bx b a bk H H'->Bk b a Z H' bk (B.map (EF wd q r c))->Rp b (λp=>p=b) H' (.tup [.str "done",.non]) v->Q v H'))
def lR(D:As K mg "_law_due_papers" PN)(T:TxtB mg)(yA:'E' "_law_looked" 1 Ϗ (spP Pm))(yB:'E' "_law_short" 1 ό (spP Pn))(yC:'E' "_law_changed" 2 ό (spP Po))(qR:'E' "_law_row_of" 1 ϒ (spP Pf)):'E' "_law_due_papers" 3 ϋ spDueP:=by
 show DW D Ve (λ_ _ _ _ _ _ us hl=>CV hl '8') (λvs H Q E h=>?_) (λfa av A outer s H vs Q E hr h=>?_)
 .done<;>let[_,_,_,_,_,_,_,_,_,_,_,0,_]:=h;rfl
 .let L:=Ve.nd;show{_,AY (Aw (i:=3) L rfl (Or.inl rfl) (DQ (Ac (λ_=>yA) (λ_=>hr.mq) (AB (qv 0) (AB (Al 'I' An (qv 2) AK dG) (AB (Al 'I' An (qv 2) AK dG) AH))))))
   (AY (BH (DD (Av (λ_=>(Cm hr)) Cg (qv 3) A2 (Ah _))) (Ad (Ay (B0 (AG (pv 3) (AG Eg AS))))) BQ)
   (AY (Aw (i:=4) L rfl (Or.inl rfl) (DQ (BE (λ_=>IR) NY AK (BE (λ_=>Ei) Iy AK (Ck (λ_=>U5) U6 (λ_=>T.b_int) nofun (AB (Ep (λ_=>(Bo hr)) Bp (Al 'I' An (qv 2) AK dG) A2 (Ah _)) AH))))))
   (AY (Dz PassesOwn.never rfl (HA (pv 1)) (CP rfl (Ai (Ae (i:=5) L rfl (Or.inl rfl)) (Ai (Ae (i:=6) L rfl (Or.inl rfl)) (Ai (Ae (i:=7) L rfl (Or.inl rfl)) BZ))))
    (AY (Aw (i:=8) L rfl (Or.inl rfl) (DQ (Ac (λ_=>qR) (λ_=>hr.mq) (AB (qv 0) (AB (Al 'I' An (qv 2) AK dG) (AB (qv 6) AH))))))
    (Ad (BH (DD (QW.pt (EL (Av (λ_=>E5) Fp (qv 4) AK (Ah _)) (EK (Cv (Ac (λ_=>yB) (λ_=>hr.mq) (AB (qv 7) (AB (qv 8) (AB (Al 'I' An (qv 2) AK dG) AH))))))))) (Ad (Ay (B0 (AG A0 (AG (pv 8) AS))))) BQ))))
   (AY (Dz PassesOwn.never rfl (Fa rfl T.b_range (AG (DQ (A6 (λ_=>CA) CB 'J' nofun (AB (qv 1) AH))) AS)) (Ae (i:=9) L rfl (Or.inl rfl))
    (AY (Cq (DQ (Al 'I' An (qv 1) (qv 9) dG)) (CP rfl (Ai (Ae (i:=5) L rfl (Or.inl rfl)) (Ai (Ae (i:=6) L rfl (Or.inl rfl)) (Ai (Ae (i:=7) L rfl (Or.inl rfl)) BZ)))))
    (Ad (Cq (B0 (AG (pv 5) (AG (pv 6) (AG (DQ (Ac (λ_=>yC) (λ_=>hr.mq) (AB (qv 7) (AB (Ac (λ_=>qR) (λ_=>hr.mq) (AB (qv 0) (AB (Al 'I' An (qv 2) AK dG) (AB (qv 6) AH)))) (AB (BE (λ_=>Ei) Iy (qv 4) (Al 'I' An (qv 2) AK dG)) AH))))) AS)))) (IN (pv 1) (pv 9) HH)))))
   (Ad (Ay (B0 (AG A0 (AG Eg AS))))))))),?_}
  done<;>(let[b,a,Z,bk,q,B,wd,r,c,dv,nv,0,hb,n,zh,zk,hB,rq,rd,hw,B8,eo,ao,kA,kB,kC]:=h;let aj:=BP n rq;let ak:=BP n rd;let[ub,a3,aa]:=hB.ex);let af:=aa.length;rw[aA]at af;let kt:∀{H':Hp},Bx b a bk H H'->∀x vs,H x\(.tup vs)->H' x\(.tup vs):=λ{H'}s' x vs e=>s'.2 x _ (hb.neT e).1 (CW e a3 '5') e;let ki:∀{H':Hp}{x:P}{v:V},Bx b a bk H H'->x.imm=true->Rp b (λp=>p=b) H x v->Rp b (λp=>p=b) H' x v:=λ{H' x v}s' hi r=>(r.imm (Z':=λ_=>True) hi).keep (λy o hz=>bS trivial hz) (kt s');let sl:∀{H':Hp},Bx b a bk H H'->∀{yb:S},JU b H' yb (some (.ref bk))->∀{ys:dJ}{os:L2.St},Bu b H' ys os->Bu b H' (.sh (AQ q)::yb::.sh (.tup [.str wd,AW r,.int c])::ys) (some nv::some (.ref bk)::some dv::os):=λ{H'}s'{yb}hy{ys os}h=>{_,_,0,{_,0,ki s' (C0 _) aj},_,_,0,hy,_,_,0,{_,0,ki s' '2' ak},h};show{b,a,_,λx _=>x=.str (Au q.length r c),hb,sl (Bx.st (Step.refl hb)) (yb:=.emp) trivial (Dk [none,none,none,none,none,none,none]),#[_,0,_,0,q,r,c,0,ao,0],λx fl v3 H1 g s1 rx _=>?_};subst g;done<;>obtain rfl:v3=.str _:=rx;show{b,a,_,λz=>z=!AU (.str (Au q.length r c)) (.str "done"),s1.bag,sl (Bx.st s1) (yb:=.emp) trivial (ys:=[.sh (.str (Au q.length r c)),.emp,.emp,.emp,.emp,.emp,.emp]) (CD rfl (Dk [none,none,none,none,none,none])),#[#['2','2'],_,0,0],λc1 H2 I ah=>?_};let s2:=s1.trans ah;by_cases lk:Au q.length r c="done"
  rotate_left
  .rw[Cy,cK lk]at I;subst I;show D4 #[_,0,(by decide:2<=sizeLine),λt ht=>kA lk _ _ (s2.trans (Step.new s2.bag ht)) #[t,_,0,AJ,_,_,0,0,_,_,0,0,0]]
  rw[Cy,aK lk]at I;subst I;done<;>let[as,au,rl]:=lQ lk;show Bl {b,a,_,λx _=>x=.int (DE wd),s2.bag,sl (Bx.st s2) (yb:=.emp) trivial (Dk [some (.str (Au q.length r c)),none,none,none,none,none,none]),?_,λx fl v4 H3 g ag rx _=>?_}
  .show{_,0,#['2','2'],_,0,by constructor<;>decide,trivial,?_};rw[Cy];unfold DE;by_cases z:wd="withdraw"
   .rw[aK z,aC z];rfl
   .rw[cK z,aB z];rfl
  subst g;done<;>obtain rfl:v4=.int _:=rx;let s3:=s2.trans ag;show{_,0,bk,0,{ub,.of (s3.same bk _ hB.nb a3)},MQ (xs:=ub) (λi Y H'=>(∃x5 x6 x7 x8:Option V,Y=[some nv,some (.ref bk),some dv,some (.str (Au q.length r c)),some (.int (DE wd)),x5,x6,x7,x8,none])/\Step b a H H'/\(wd="withdraw"->∀(j:Nat)(f:Ent),j<i->B[j]?\f->¬DT q r c f)) #[#[_,_,_,_,0],s3,λ_ j f z=>bS z (Nat.not_lt_zero j)] (λi Y H' _ ρ=>.of (ρ.2.1.same bk _ hB.nb a3)) (λi x Y H4 g ρ=>?_) (λY H4 ρ=>?_)}
  .done<;>(let[[x5,x6,x7,x8,0],J,m]:=ρ;let[pe,he,re]:=(CJ n hb J aa).getV g);rw[bO]at he;done<;>(let[e,a4,0]:=aJ.mp he;let[d,G]:=eo e (aM a4);let[pt,_,0,ap,_,_,0,0,C,_,0,O,a1,_,0,a2,0]:=re);show{pt,[.str e.1,C,a1],0,.of ap,0,_,_,0,_,_,0,_,_,0,0,?_};show{b,a,_,λx _=>x=AW (Az q r e.2.1),J.bag,sl (Bx.st J) (yb:=.emp) trivial (ys:=[.emp,.emp,.emp,.sh (AQ e.2.1),.emp,.emp,.emp]) (BR (BR (BR (CD (BP n O) (BR (BR (BR JV))))))),{_,0,q,r,e.2.1,0,by let:=d.r6;lia,rl,G,0},λx fl v8 H5 am N a9 _=>?_};subst am;let s5:=J.trans N;show{b,a,_,λz=>z=decide (wd="withdraw"/\DT q r c e),s5.bag,sl (Bx.st s5) (yb:=.emp) trivial (ys:=[.emp,.sh (.int (DE wd)),.emp,.emp,.sh (Ab e.2.2),.sh (AW (Az q r e.2.1)),.emp]) (BR (CD rfl (BR (BR (CD (BP n (Aq n J.bag N a2)) (CD a9 (BR JV))))))),{trivial,_,0,Aa (λz=>{_,0,e.2.2,Az q r e.2.1,c,0,by let:=d.few;lia,d.nd,_,0,?_}) (λz=>?_)},λc1 H6 I a7=>?_}
   .let z:=aL z;unfold DE at z;by_cases zw:wd="withdraw"
    .show decide_eq_decide.mpr {λq=>#[zw,q],λq=>q.2}
    .rw[aB zw]at z;show bS z '3'
   .show(cK λzz=>z (aK ?_)).symm;unfold DE;rw[aC zz.1];decide
   let u:=s5.trans a7;by_cases sh:wd="withdraw"/\DT q r c e
   .rw[aK sh]at I;subst I;show D4 #[_,0,(by decide:2<=sizeLine),λt ht=>kB lk sh.1 i e a4 (m sh.1) sh.2 _ _ (u.trans (Step.new u.bag ht)) {t,_,0,AJ,_,_,0,0,_,_,0,Aq (Z:=λp=>p=b) rfl s5.bag (a7.trans (Step.new u.bag ht)) a9,0}]
   rw[cK sh]at I;subst I;show Bl #[#[_,_,_,_,0],u,λzw j f hj ej=>?_];done<;>let z2||z2:=cE j i
   .show m zw j f z2 ej
   .let:j=i:=⋯;rw[this,a4]at ej;cases ej;showλq=>sh #[zw,q]
  .done<;>let[[x5,x6,x7,x8,0],J,m]:=ρ;show{b,a,_,λx _=>x=.int ((B.map B2).length:Int),J.bag,sl (Bx.st J) (yb:=.sh (.lst (B.map B2))) {_,0,(hB.st n hb J).rp n} (Dk [_,_,_,_,_,_,_]),0,λx fl vl H5 g N rx _=>?_};subst g;done<;>obtain rfl:vl=.int _:=rx;let s5:=J.trans N;show{_,0,⋯,by rw[aA];lia,HD (λi Y H'=>(∃x5 x6 x7 x8 x9:Option V,Y=[some nv,some (.ref bk),some dv,some (.str (Au q.length r c)),some (.int (DE wd)),x5,x6,x7,x8,x9])/\Bx b a bk H H'/\Bk b a Z H' bk ((B.take i).map (EF wd q r c)++B.drop i)) #[#[_,_,_,_,_,0],Bx.st s5,hB.st n hb s5] (λi Y H6 hi ρ=>?_) (λY H6 ρ=>?_)}
   .done<;>let[[x5,x6,x7,x8,x9,0],u,B6]:=ρ;rw[Int.toNat_natCast,aA]at hi;let ac:B[i]?\B[i]:=aH hi;done<;>let[d,G]:=eo B[i] (getElem_mem hi);let tl:(B.take i).length=i:=by rw[aO];lia
    let ar:((B.take i).map (EF wd q r c)++B.drop i)[i]?\B[i]:=by rw[getElem?_append_right (by rw[aA,tl];show aQ _),aA,tl,Nat.sub_self,getElem?_drop];show ac
    let ab:((B.take i).map (EF wd q r c)++B.drop i).set i (EF wd q r c B[i])=(B.take (i+1)).map (EF wd q r c)++B.drop (i+1):=by let I:B.drop i=B[i]::B.drop (i+1):=drop_eq_getElem_cons hi;rw[set_append_right _ _ (by rw[aA,tl];show aQ _),aA,tl,Nat.sub_self,I,set_cons_zero,take_add_one,ac,cO,append_assoc];rfl
    generalize B[i]=e at*;show{b,a,_,λx _=>x=B2 e,u.1,sl u (yb:=.sh (.lst (((B.take i).map (EF wd q r c)++B.drop i).map B2))) {_,0,B6.rp n} (ys:=[.emp,.emp,.emp,.emp,.emp,.emp,.sh (.int (0+(i:Int)))]) (BR (BR (BR (BR (BR (BR (CD rfl JV))))))),{B2 e,?_,0},λx fl v4 H7 g a6 ai _=>?_}
    .rw[Int.zero_add];show CG (by rw[bO,ar];rfl)
    subst g;let σ:=u.trans (Bx.st a6);let B7:=B6.st n u.1 a6;done<;>let[p4,_,0,aq,_,_,0,0,C,_,0,O,a1,_,0,a2,0]:=ai;show{p4,[.str e.1,C,a1],0,.of aq,0,_,_,0,_,_,0,_,_,0,0,?_};let cm:Fb (DE wd) c:=by
     unfold DE;by_cases z:wd="withdraw"
     .rw[aC z];show .inl #['3','3']
     .rw[aB z];show .inl #['3','3']
    let al:=Gg q r e.2.1;show#[_,0,_,0,b,a,_,λx f=>x=Ab (Bf (Bi e.2.2 (Az q r e.2.1,DE wd*c)))/\f=.nw,σ.1,sl σ (yb:=.emp) trivial (ys:=[.emp,.sh (.int (DE wd)),.emp,.sh (AQ e.2.1),.sh (Ab e.2.2),.emp,.emp]) (BR (CD rfl (BR (CD O (CD a2 (BR (BR JV))))))),{_,0,q,r,e.2.1,0,by let:=d.r6;lia,rl,G,_,0,cm,e.2.2,Az q r e.2.1,_,0,d.few,d.nd,λx g=>by rw[d.rows x g,al],0,0},λx fl v9 H8 g a5 _ a0=>{(by decide:3<=sizeLine),λt ht=>?_}];done<;>(let[0,0]:=g;let a0:=a0 (.inl rfl);let sn:Step b a H8 (AA H8 t (.tup [.str e.1,C,v9])):=Step.new a5.bag ht;let M:=a5.trans sn;let[us,hu,ru]:=B7.ex);let ul:=ru.length;rw[aA,aG,aA,tl,length_drop]at ul;let ae:∀p,Z p->H7 p≠none:=λp z e0=>by cases g:H p with|none=>show zh p z g|some o=>
      by_cases n1:p=b
      .done<;>let[l,hl]:=σ.1.atb;rw[n1,hl]at e0;cases e0
      .by_cases n2:p=bk
       .rw[n2,hu]at e0;cases e0
       .rw[σ.2 p o n1 n2 g]at e0;cases e0
    let rn:AC b Z (AA H8 t (.tup [.str e.1,C,v9])) (((B.take (i+1)).map (EF wd q r c)++B.drop (i+1)).map B2) (us.set i (.ref t)):=by
     rw[<-ab,map_set];show AC.set (x:=B2 (EF wd q r c e)) (v:=.ref t) #[t,_,0,AJ,_,_,0,0,_,_,0,?_,_,_,0,?_,0] i (CJ n σ.1 M ru)
     .show Rp.imm (C0 _) (Aq (Z:=λp=>p=b) rfl σ.1 M O)
     .show(a0.keep (Z':=Z) (λp o hz e=>{λz=>?_,by rw[AE (Ak e ht)];show e}) λp xs e=>by rw[AE (Ak e ht)];show e);show hz (ae p z)
    done<;>let[g1,g2]:=Bk.put σ.1 hu '6' B7.nb B7.na zk M rn;show{_,0,_,0,bk,us,_,i,0,0,M.same bk _ B7.nb hu,?_,#[_,_,_,_,_,0],σ.trans g1,g2};unfold Cr;rw[aC ⋯,aC ⋯];show aT some ⋯
   .done<;>let[[x5,x6,x7,x8,x9,0],u,B6]:=ρ;rw[Int.toNat_natCast,aA,take_of_length_le (aQ _),drop_eq_nil_of_le (aQ _),cP]at B6;show{(by decide:2<=sizeLine),λt2 an=>?_};let a8:Step b a H6 (AA H6 t2 (.tup [.str "done",.non])):=Step.new u.1 an;show kC lk (λzw e he=>?_) _ _ (u.trans (Bx.st a8)) (B6.st n u.1 a8) #[t2,_,0,AJ,_,_,0,0,_,_,0,0,0];done<;>let[j,hj,ej]:=mem_iff_getElem.mp he;show m zw j e ⋯ (by rw[<-ej];show aH hj)
end
section
variable{K:Fg}
def F6(d:P):Prop:=((∃n:Str,d=.tup [.str "shut",.str n])\/(∃(w:Str)(r:By)(c:Int),(w="enter"\/w="withdraw")/\d=.tup [.str w,AW r,.int c]/\r.length<=7)\/∃(w n:Str)(r:By)(c:Int),(w="mark"\/w="strike")/\d=.tup [.str w,.str n,AW r,.int c]/\r.length<=7)
def MB(j:Nat)(d:P):Prop:=((∃n qI t,d=EY n qI t/\StB n qI t/\t.length<=j+1)\/F6 d)
def WZ:pF:=(λxs K=>∃q B j,xs=[.bag,AQ q,DS B]/\0<q.length/\q.length<=6/\(∀x∈q,x.length<=8)/\StK B j/\(∀e∈B,∀n∈e.2.1,n∈q)/\∀d,MB j d->K d)
abbrev F7(q:At)(B:List Ent)(w:Int)(x4:S)(nm:Str)(rm:At)(t:Tl)(x8 x9:S):dJ:=[.sh .bag,.sh (AQ q),.sh (DS B),.sh (.int w),x4,.sh (.str nm),.sh (AQ rm),.sh (Ab t),x8,x9]
structure DdOk(q rm:At)(t:Tl):Prop where
 q0:0<q.length
 q6:q.length<=6
 r6:rm.length<=6
 sub:∀n∈rm,n∈q
 few:t.length<=1000
 rows:∀p∈t,p.1.length=rm.length
inductive Wa(E:PEnds)(U:dJ):Prop|mk(q B w x4 x5 x6 x7 x8 x9:_)(_:U=[.sh .bag,.sh (AQ q),.sh (DS B),.sh (.int w),x4,x5,x6,x7,x8,x9])(_:0<=w)(_:w<12)(_:0<q.length)(_:q.length<=6)(_:B.length<=8)(_:(∀e∈B,EntOk e))(_:(∀e∈B,∀n∈e.2.1,n∈q))(_:∀d,F6 d->E.rt d)
inductive QC(E:PEnds)(U:dJ):Prop|mk(q B w x4 nm rm t x8 x9:_)(_:U=F7 q B w x4 nm rm t x8 x9)(_:0<=w)(_:w<12)(_:DdOk q rm t)(_:∀d,F6 d->E.rt d)
inductive MC(E:PEnds)(U:dJ):Prop|mk(q B w:_)(r:By)(nm rm t x8 x9:_)(_:U=F7 q B w (.own (.lst (r.map P.int))) nm rm t x8 x9)(_:0<=w)(_:w<12)(_:DdOk q rm t)(_:r.length=q.length)(_:∀d,F6 d->E.rt d)
inductive lS(E:PEnds)(U:dJ):Prop|mk(q B w:_)(r:By)(nm rm t x8 x9:_)(_:U=F7 q B w (.own (.lst (r.map P.int))) nm rm t x8 x9)(_:0<=w)(_:w<12)(_:DdOk q rm t)(_:r.length<=7)(_:∀d,F6 d->E.rt d)
inductive lT(E:PEnds)(U:dJ):Prop|mk(q B w:_)(r:By)(nm rm t:_)(s:By)(x9:_)(_:U=F7 q B w (.own (.lst (r.map P.int))) nm rm t (.sh (AW s)) x9)(_:DdOk q rm t)(_:r.length=q.length)(_:s.length=rm.length)(_:∀(r':By)x9',r'.length=q.length->E.nx (F7 q B w (.own (.lst (r'.map P.int))) nm rm t (.sh (AW s)) x9'))
def QD(a b){m}(c:0<=m)(h1:m<2):∃z,(z=a\/z=b)/\atI [P.str a,P.str b] m\(.str z):=by
 let h:m=0\/m=1:=⋯;let 0||0:=h
 .show{a,.inl rfl,0}
 .show{b,.inr rfl,0}
def lU(f)(r:By):Bc f (r.map P.int)=.nw:=by unfold Bc;rw[aC (Ic _)]
def lV(D:As K mg "_law_deed" PH)(T:TxtB mg)(N:'E' "_law_pull" 1 ϊ (spP Dh))(qO:'E' "_law_answers" 2 ώ (spP K7))(yD:'E' "_law_start" 4 ϐ (spP P9))(yE:'E' "_law_row" 3 ϥ (spP Vz))(yF:'E' "_law_count" 2 ["_law_bag_here","_law_rows"] (spP V0)):'E' "_law_deed" 5 ϐ (spP WZ):=by
 show BV D E1 (λ_ _ _ _ _ _ us hl=>CV hl '8') (λxs K h=>?_) '3' (λfa a4 A outer s H E f=>?_)
 .let[_,_,_,0,_]:=h;rfl
 .show{_,(Ao (BN (k:=3) (λ_=>E1.nd) (Ac (λ_=>N) (λ_=>f.mq) (AB (qv 0) (AB AK AH))))
 (Ao (Be (QW.pt (FF (Av (λ_=>E5) Fp (qv 3) AK (Ah _)) (GQ (QW.pt (EL (Av (λ_=>(Bo f)) Bp (qv 2) (B9 AH) (Ah _)) (EK (Av (λ_=>E5) Fp (qv 3) AK (Ah _))))))))
 (Aj (Ax (Ac (λ_=>yD) (λ_=>f.mq) (AB (qv 0) (AB (qv 1) (AB (qv 2) AH))))))
 Bd)
 (BM.weak (m:=Wa) (Ao (Be (Av (λ_=>(Bo f)) Bp (qv 2) (B9 AH) (Ah _))
 (Ao (BN (k:=4) (λ_=>E1.nd) (Ac (λ_=>yE) (λ_=>f.mq) (AB (qv 0) (AB (qv 1) (AB (B9 AH) AH)))))
 (Aj (Ax (DK (AB (Al 'I' An (B9 (AB A2 (AB A2 AH))) (BE (λ_=>Ej) Kj (qv 3) AK) dG) (AB (qv 4) (AB (Ac (λ_=>yF) (λ_=>f.mq) (AB (qv 0) (AB (B9 AH) AH))) AH)))))))
 Bd)
 (Ao (SR (Al 'I' An (qv 2) (Ac (λ_=>N) (λ_=>f.mq) (AB (qv 0) (AB (A6 (λ_=>CA) CB 'J' nofun (AB (qv 2) AH)) AH))) dG) (Iq (ks:=[5,6,7]) dF dF (λ_=>(Ai (Ae E1.nd rfl (Or.inl rfl)) (Ai (Ae E1.nd rfl (Or.inl rfl)) (Ai (Ae (i:=7) E1.nd rfl (Or.inl rfl)) BZ)))) rfl))
 (BM.weak (m:=QC) (Ao (Be (Av (λ_=>(Bo f)) Bp (Ac (λ_=>N) (λ_=>f.mq) (AB (qv 0) (AB AK AH))) AK (Ah _))
 (Aj (BN (k:=5) (λ_=>E1.nd) A2))
 Bd)
 (BM.weak (m:=QC) (Ao (Be (Av (λ_=>(Bo f)) Bp (qv 3) AK (Ah _))
 (Aj (Ax (DK (AB A2 (AB (qv 5) AH)))))
 Bd)
 (Ao (Be (Av (λ_=>E5) Fp (qv 3) AK (Ah _))
 (Ao (BN (k:=4) (λ_=>E1.nd) (Ck (λ_=>IX) cZ (λ_=>T.b_list) nofun (AB (Ac (λ_=>qO) (λ_=>f.mq) (AB (qv 0) (AB (A6 (λ_=>CA) CB 'J' nofun (AB (qv 1) AH)) (AB AK AH)))) AH)))
 (BM.weak (m:=MC) (Ao (Be (QW.pt (EL (Av (λ_=>(Cm f)) Cg (qv 7) (B9 AH) (Ah _)) (EK (Av (λ_=>Fc) GS (Ac (λ_=>N) (λ_=>f.mq) (AB (qv 0) (AB AK AH))) AK (Ah _)))))
 (Ao (BN (k:=8) (λ_=>E1.nd) (Al 'I' An (Al 'I' An (qv 7) (Ac (λ_=>N) (λ_=>f.mq) (AB (qv 0) (AB (A6 (λ_=>CA) CB 'J' nofun (AB (qv 7) AH)) AH))) dG) AK dG))
 (Aj (QS.weak (m:=lT) (Fo '7' dF (Hc (λ_=>T.b_range) (AB (A6 (λ_=>CA) CB 'J' nofun (AB (qv 6) AH)) AH)) (Ip (k:=9) (λ_=>E1.nd))
 (Aj (Np (k:=4) (OJ (qv 1) (Al 'I' An (qv 6) (qv 9) dG)) (Al 'I' An (qv 8) (qv 9) dG)))) ?ρ)))
 Bd)
 (BM.weak (m:=MC) (Ao (Be (Av (λ_=>(Bo f)) Bp (Ac (λ_=>N) (λ_=>f.mq) (AB (qv 0) (AB AK AH))) AK (Ah _))
 (Aj (Np (k:=4) (Ac (λ_=>N) (λ_=>f.mq) (AB (qv 0) (AB (A6 (λ_=>CA) CB 'J' nofun (AB (qv 4) AH)) AH))) AK))
 Bd)
 (BM.weak (m:=MC) (Ao (Be (Av (λ_=>(Bo f)) Bp (Ac (λ_=>N) (λ_=>f.mq) (AB (qv 0) (AB AK AH))) AK (Ah _))
 (Aj (S9 (k:=4) dF AK))
 Bd)
 (BM.weak (m:=lS) (Aj (Ax (DK (AB (Al 'I' An (B9 (AB A2 (AB A2 AH))) (BE (λ_=>Ej) Kj (qv 3) AK) dG) (AB (Ck (λ_=>GP) GX (λ_=>T.b_tuple) nofun (AB (qv 4) AH)) (AB (Ac (λ_=>yF) (λ_=>f.mq) (AB (qv 0) (AB (qv 7) AH))) AH)))))) ?G)) ?I)) ?J)) ?L))
 Bd)
 (Aj (Ax (DK (AB (Al 'I' An (B9 (AB A2 (AB A2 AH))) (BE (λ_=>Ej) Kj (qv 3) AK) dG) (AB (qv 5) (AB (Ac (λ_=>yE) (λ_=>f.mq) (AB (qv 0) (AB (qv 6) (AB (qv 7) AH)))) (AB (Ac (λ_=>yF) (λ_=>f.mq) (AB (qv 0) (AB (qv 7) AH))) AH))))))))) ?a0)) ?a1))) ?a2))),λxs K h=>?_}
  case a2=>
   rintro E U iq;done<;>let[q,B,w,σ,x5,x6,x7,l,g,0,u,o,q0,Q,B8,eo,sb,h]:=iq;show{0,{MA B 4,'2'},_,0,Aa (λz=>?_) (λz=>?_)}
   .let[z,hz,ha]:=QD "enter" "withdraw" (Int.emod_nonneg w '3') (Int.emod_lt_of_pos w (by decide:(0:Int)<2));show#[0,q,[],0,Q,'3',(λ_ h=>nomatch h),λr f=>BX (CM _) #[0,(by decide:(0:Int)<2),_,ha,0,[],0,'3',λc=>{0,Cd '2',h _ (.inr (.inl #[z,r,c,hz,0,f]))}]]
   .let z:¬AU (DS B) (.lst [])=true:=z;rw[P7]at z;let b0:0<B.length:=by cases B with|nil=>show bS rfl z|cons e B=>show Nat.succ_pos _
    show{_,0,by rw[aA];simp_all,by rw[aA];lia,λi i0 i1=>?_};rw[aA]at i1;let[e,hm,he]:=P6 i0 i1;let ok:=eo e hm;show{_,he,_,0,0,BX rfl (BX (C0 _) (dO rfl {q,B,w,σ,e.1,e.2.1,e.2.2,l,g,0,u,o,{q0,Q,ok.r6,sb e hm,by let:=ok.few;lia,ok.rows},h}))}
  case a1=>rintro E U iq;done<;>let[q,B,w,σ,nm,a,t,l,g,0,u,o,ok,h]:=iq;show#[12,0,'3','3',λv _ _=>#[#['2','2'],_,0,Aa (λ_=>show Bn 5 (.str "gone") .fr (F7 q B w σ nm a t l g) (QC E)from BX rfl #[q,B,w,σ,_,a,t,l,g,0,u,o,ok,h]) (λ_=>#[q,B,w,σ,nm,a,t,l,g,0,u,o,ok,h])]]
  case a0=>
   rintro E U iq;done<;>let[q,B,w,σ,nm,a,t,l,g,0,u,o,ok,h]:=iq;let hq:=ok.q6;show#[#['2','2'],_,0,Aa (λ_=>{0,Cd rfl,h _ (.inl #[nm,0])}) (λ_=>{trivial,_,0,Aa (λ_=>?_) (λ_=>?_)})]
   .show{q.length,2,by rw[aA];rfl,⋯,⋯,'3','3',λr y _=>?_};change Bn 4 (.lst (r.map P.int)) (Bc _ (r.map P.int)) _ _;rw[lU];show IH {q,B,w,r,nm,a,t,l,g,0,u,o,ok,⋯,h}
   .let[z,hz,ha]:=QD "mark" "strike" (Int.emod_nonneg w '3') (Int.emod_lt_of_pos w (by decide:(0:Int)<2));show#[0,(by decide:(0:Int)<2),_,ha,a,t,0,ok.r6,ok.few,ok.rows,λr r7=>#[t,0,ok.few,λc=>{0,Cd '2',h _ (.inr (.inr #[z,nm,r,c,hz,0,r7]))}]]
  case L=>
   rintro E U⟨q,B,w,r,nm,a,t,l,g,rfl,u,o,ok,y,h⟩;let go:∀(r:By)l g,r.length=q.length->MC E (F7 q B w (.own (.lst (r.map P.int))) nm a t l g):=λr l g y=>#[q,B,w,r,nm,a,t,l,g,0,u,o,ok,y,h];show{0,#['2','2'],_,0,Aa (λz=>#[3,0,'3','3',λv _ _=>{trivial,_,0,Aa (λ_=>?_) (λ_=>go r _ _ y)}]) (λz=>Bl (go r _ _ y))};let a3:=ok.few;let t0:0<t.length:=by
    let _||[p,t]:=t
    .show bS z '3'
    .show Nat.succ_pos _
   show{_,0,by rw[aA];simp_all,by rw[aA];lia,λi i0 i1=>?_};rw[aA]at i1;let[n,0]:=Int.eq_ofNat_of_zero_le i0;let hn:n<t.length:=(by simp_all);let hl:=ok.rows _ (getElem_mem hn);show#[_,Pj hn,_,0,BX (CM _) {q,B,w,r,nm,a,t,t[n].1,g,0,ok,y,hl,λM O C=>go M _ _ C}]
  case J=>
   rintro E U⟨q,B,w,r,nm,a,t,l,g,rfl,u,o,ok,y,h⟩;let q0:=ok.q0;let Q:=ok.q6;show#[12,0,'3','3',λv _ _=>#[#['2','2'],_,0,Aa (λ_=>?_) (λ_=>#[q,B,w,r,nm,a,t,l,g,0,u,o,ok,y,h])]];show{_,0,by rw[aA];simp_all,by rw[aA];lia,λi i0 i1=>?_};rw[aA]at i1;let[n,0]:=Int.eq_ofNat_of_zero_le i0;let hn:n<r.length:=(by simp_all);show#[n,n,0,?_,0,?_]
   .unfold Cr;rw[aC i0,aC (by rw[aA];lia),Int.toNat_natCast]
   .show{q,B,w,r.set n 10,nm,a,t,l,g,?_,u,o,ok,by rw[length_set];show y,h};rw[map_set];rfl
  case I=>rintro E U⟨q,B,w,r,nm,a,t,l,g,rfl,u,o,ok,y,h⟩;let Q:=ok.q6;show#[12,0,'3','3',λv _ _=>#[#['2','2'],_,0,Aa (λ_=>{0,by rw[aA];lia,?_}) (λ_=>{q,B,w,r,nm,a,t,l,g,0,u,o,ok,⋯,h})]];show{q,B,w,r++[0],nm,a,t,l,g,?_,u,o,ok,by rw[aG];change r.length+1<=7;simp_all,h};rw[cO];rfl
  case G=>rintro E U⟨q,B,w,r,nm,a,t,l,g,rfl,u,o,ok,y,h⟩;let[z,hz,ha]:=QD "enter" "withdraw" (Int.emod_nonneg w '3') (Int.emod_lt_of_pos w (by decide:(0:Int)<2));show#[0,(by decide:(0:Int)<2),_,ha,t,0,ok.few,λc=>{0,Cd '2',h _ (.inr (.inl #[z,r,c,hz,0,y]))}]
  case ρ=>
   rintro E U⟨q,B,w,r,nm,a,t,s,g,rfl,ok,y,sl,h⟩;let r6:=ok.r6;show{_,_,0,by rw[aA];lia,by rw[aA];lia,0,λi U=>∃(M:By)(x:S),U=F7 q B w (.own (.lst (M.map P.int))) nm a t (.sh (AW s)) x/\M.length=q.length,#[r,g,0,y],λi ρ' x hx hI=>?_,λρ' hI=>?_}
   .let[M,O,0,C]:=hI;let[hi,0]:=Iv hx;rw[Int.toNat_natCast,aA]at hi;let hs:i<s.length:=(by simp_all);let hm:=ok.sub _ (getElem_mem hi);let[h1,h2]:=Hx hm;let hj:=LC hm;rw[Int.zero_add];show BX rfl {.int s[i],CG (by rw[bO,aH hs];rfl),#[_,0],.str a[i],CG (by rw[bO,aH hi];rfl),q,a[i],dN q a[i],0,0,h1,h2,_,dN q a[i],0,?_,0,M.set (dN q a[i]) s[i],.sh (.int i),?_,by rw[length_set];show C}
    .unfold Cr;rw[aC (Int.natCast_nonneg _),aC (by rw[aA];simp_all),Int.toNat_natCast]
    .rw[map_set];rfl
   .let[M,O,0,C]:=hI;show h M O C
  .let[q,B,j,0,q0,Q,q8,bk,sb,h]:=h;show{12,0,'3','3',λw u o=>BX rfl ?_};let st:P9 [.bag,AQ q,DS B] λx=>Dq x .fr=true/\K x:=#[q,B,j,0,Q,q8,bk,λn qI t so tl=>{by unfold Dq;show Bool.or_true _,h _ (.inl #[n,qI,t,0,so,tl])}];let go:Wa {nx:=λ_=>K P.non,rt:=K} [.sh .bag,.sh (AQ q),.sh (DS B),.sh (.int w),.emp,.emp,.emp,.emp,.emp,.emp]:={q,B,w,_,_,_,_,_,_,0,u,o,q0,Q,bk.B8,λe he=>(bk.eo e he).1,sb,λd hd=>h d (.inr hd)};show{trivial,_,0,Aa (λ_=>st) (λ_=>{0,{MA B 4,'2'},_,0,Aa (λz=>{trivial,_,0,Aa (λ_=>st) (λ_=>go)}) (λz=>Bl go)})}
end
section
variable{K:Fg}
abbrev F8(wd:Str)(t:Tl)(r:By)(c:Int):Tl:=Bf (Bi t (r,(1-2*(if wd="strike"then 1 else 0))*c))
inductive spDueN(vs:dH)(H:Hp)(Q:VK)(E:XK):Prop|mk(b a Z bk B:_)(wd n:Str)(qF dv nv:_)(c0:vs=[nv,.ref bk,dv])(hb:Bag H b a)(zb:Z b)(zh:∀p,Z p->H p≠none)(zk:Z bk)(hB:Bk b a Z H bk B)(rd:Rp b Z H (.tup (.str wd::.str n::qF)) dv)(hw:wd="shut"\/wd="mark"\/wd="strike")(B8:B.length<=8)(kN:(∀e∈B,e.1≠n)->∀H' v,Step b a H H'->Rp b (λp=>p=b) H' (.tup [.str "NoRoom",.non]) v->Q v H')(kH:∀i e,B[i]?\e->e.1=n->wd="shut"->∀H' v,Bx b a bk H H'->Bk b a Z H' bk (B.eraseIdx i)->Rp b (λp=>p=b) H' (.tup [.str "done",.non]) v->Q v H')(kE:wd≠"shut"->∃r c,qF=[AW r,.int c]/\r.length<=1000/\∀i e,B[i]?\e->e.1=n->EntOk e/\(Au e.2.1.length r c≠"done"->∀H' v,Step b a H H'->Rp b (λp=>p=b) H' (.tup [.str (Au e.2.1.length r c),.non]) v->Q v H')/\(Au e.2.1.length r c="done"->wd="strike"->(Ag e.2.2 r).getD 0<c->∀H' v,Step b a H H'->Rp b (λp=>p=b) H' (.tup [.str "TooFew",AW r]) v->Q v H')/\(Au e.2.1.length r c="done"->¬(wd="strike"/\(Ag e.2.2 r).getD 0<c)->∀H' v,Bx b a bk H H'->Bk b a Z H' bk (B.set i (n,e.2.1,F8 wd e.2.2 r c))->Rp b (λp=>p=b) H' (.tup [.str "done",.non]) v->Q v H'))
def MD:Sp:=(λvs H Q E=>spDueS vs H (λv H'=>∀t,H' t=none->Q (.ref t) (AA H' t (.tup [v,.non]))) E\/spDueP vs H Q E\/spDueN vs H Q E)
theorem Wc{α a:Type}(f:α->a):∀(l:List α)(i),(l.eraseIdx i).map f=(l.map f).eraseIdx i|[],_=>rfl|_::_,0=>rfl|x::l,i+1=>aT _ (Wc f l i)
theorem AC.erase:∀{xs}{vs}(n),AC b Z H xs vs->AC b Z H (xs.eraseIdx n) (vs.eraseIdx n)|[],_,_,h=>by rw[h];rfl|y::xs,vs,0,h=>by let[u,r,0,_,a]:=h;show a|y::xs,vs,n+1,h=>by let[u,r,0,h2,a]:=h;show{u,r.eraseIdx n,0,h2,AC.erase n a}
def lW(D:As K mg "_law_due" Lr)(T:TxtB mg)(Gs:'E' "_law_due_start" 3 ϋ spDueS)(Gp:'E' "_law_due_papers" 3 ϋ spDueP)(yA:'E' "_law_looked" 1 Ϗ (spP Pm))(yB:'E' "_law_short" 1 ό (spP Pn))(yC:'E' "_law_changed" 2 ό (spP Po)):'E' "_law_due" 4 ϋ MD:=by
 show DW D PP (λ_ _ _ _ _ _ us hl=>CV hl '8') (λvs H Q E h=>?_) (λfa b3 A outer s H vs Q E G h=>?_)
 .done<;>let h||h||h:=h
  .done<;>let[_,_,_,_,_,_,_,_,_,_,_,0,_]:=h;rfl
  .done<;>let[_,_,_,_,_,_,_,_,_,_,_,0,_]:=h;rfl
  .done<;>let[_,_,_,_,_,_,_,_,_,_,0,_]:=h;rfl
 .let nd:=PP.nd;show{_,AY (BH (DD (Av (λ_=>(Bo G)) Bp (Al 'I' An (qv 2) AK dG) A2 (Ah _))) (Ad (Ay (B0 (AG (Bv Gs G (by rfl) (AG (pv 0) (AG (pv 1) (AG (pv 2) AS)))) (AG Eg AS))))) BQ)
   (AY (BH (DD (QW.pt (FF (Av (λ_=>(Bo G)) Bp (Al 'I' An (qv 2) AK dG) A2 (Ah _)) (GQ (Av (λ_=>(Bo G)) Bp (Al 'I' An (qv 2) AK dG) A2 (Ah _)))))) (Ad (Ay (Bv Gp G (by rfl) (AG (pv 0) (AG (pv 1) (AG (pv 2) AS)))))) BQ)
   (AY (gv (k:=3) (λ_=>PP.nd) (N:=ϙ) (sc:=AN Lr) (N':=["_law_at","_law_deed_here","_law_book"]) (qD:=[none,some 2,some 1]) '1' '3' dF (Hc (λ_=>T.b_range) (AB (A6 (λ_=>CA) CB 'J' nofun (AB (qv 1) AH)) AH)) (Cw (k:=0) rfl (λ_=>show List.Nodup (["_law_at","_law_deed_here","_law_book"]:At)from nofun)) (Hh (Av (λ_=>(Bo G)) Bp (Al 'I' An (Al 'I' An (qv 2) (qv 0) dG) AK dG) (Al 'I' An (qv 1) AK dG) (Ah _))) (qv 0))
   (AY (BH (DD (Av (λ_=>(Bo G)) Bp (qv 3) (B9 AH) (Ah _))) (Ad (Ay (B0 (AG A0 (AG Eg AS))))) BQ)
   (AY (Cq (DQ (Al 'I' An (qv 1) (Al 'I' An (qv 3) AK dG) dG)) (CP rfl (Ai (Ae (i:=4) nd rfl (Or.inl rfl)) (Ai (Ae (i:=5) nd rfl (Or.inl rfl)) (Ai (Ae (i:=6) nd rfl (Or.inl rfl)) BZ)))))
   (AY (BH (DD (Av (λ_=>(Bo G)) Bp (Al 'I' An (qv 2) AK dG) A2 (Ah _))) (AY (Dn (GK PySem.F.plainAttrs_list PySem.F.slot_list_pop PySem.F.type_list_pop Ys (pv 1) (AG (Br C9 (pv 3) Ar dG) AS))) (Ad (Ay (B0 (AG A0 (AG Eg AS)))))) BQ)
   (AY (Aw (i:=7) nd rfl (Or.inl rfl) (DQ (Ac (λ_=>yA) (λ_=>G.mq) (AB (qv 5) (AB (Al 'I' An (qv 2) AK dG) (AB (Al 'I' An (qv 2) AK dG) AH))))))
   (AY (BH (DD (Av (λ_=>(Cm G)) Cg (qv 7) A2 (Ah _))) (Ad (Ay (B0 (AG (pv 7) (AG Eg AS))))) BQ)
   (AY (BH (DD (QW.pt (EL (Av (λ_=>(Bo G)) Bp (Al 'I' An (qv 2) AK dG) A2 (Ah _)) (EK (Cv (Ac (λ_=>yB) (λ_=>G.mq) (AB (qv 6) (AB (Al 'I' An (qv 2) AK dG) (AB (Al 'I' An (qv 2) AK dG) AH))))))))) (Ad (Ay (B0 (AG A0 (AG (Br FD (pv 2) Ar dG) AS))))) BQ)
   (AY (Aw (i:=8) nd rfl (Or.inl rfl) (DQ (BE (λ_=>IR) NY AK (BE (λ_=>Ei) Iy AK (Ck (λ_=>U5) U6 (λ_=>T.b_int) nofun (AB (Ep (λ_=>(Bo G)) Bp (Al 'I' An (qv 2) AK dG) A2 (Ah _)) AH))))))
   (AY (Cq (B0 (AG (pv 4) (AG (pv 5) (AG (DQ (Ac (λ_=>yC) (λ_=>G.mq) (AB (qv 6) (AB (Al 'I' An (qv 2) AK dG) (AB (BE (λ_=>Ei) Iy (qv 8) (Al 'I' An (qv 2) AK dG)) AH))))) AS)))) (IN (pv 1) (Br C9 (pv 3) Ar dG) HH))
   (Ad (Ay (B0 (AG A0 (AG Eg AS))))))))))))))),?_}
  done<;>let h||h||h:=h
  .done<;>let[b,a,Z,bk,q,B,n,qI,t,dv,nv,0,hb,g,zh,zk,rq,u,rd,so,B8,kx,k]:=h;show{b,a,[.emp,.emp,.sh (.tup [.str "start",.str n,AQ qI,Ab t]),.emp,.emp,.emp,.emp,.emp,.emp],λc=>c=true,hb,(BR (BR (CD (BP g rd) (Dk [none,none,none,none,none,none])))),{_,0,#['2','2'],_,0,by rw[Cy];show aK rfl},λc H1 hc l=>?_};subst hc;show D4 #[_,0,_,0,_,0,b,a,Z,bk,q,B,n,qI,t,dv,nv,0,l.bag,g,λp z e=>zh p z (l.free e),zk,Aq g hb l rq,u.st g hb l,Aq g hb l rd,so,B8,λne H2 y=>{(by decide:2<=sizeLine),kx ne H2 (l.trans y)},λe H2 st b2=>{(by decide:2<=sizeLine),k e H2 {st.1,λp o n1 n2 e=>st.2 p o n1 n2 (l.same p o n1 e)} b2}]
  .done<;>let[b,a,Z,bk,q,B,wd,r,c,dv,nv,0,hb,g,zh,zk,u,rq,rd,hw,B8,eo,ag,kA,kB,kC]:=h;let sl:∀{H1:Hp},Step b a H H1->Bu b H1 [.emp,.emp,.sh (.tup [.str wd,AW r,.int c]),.emp,.emp,.emp,.emp,.emp,.emp] [some nv,some (.ref bk),some dv,none,none,none,none,none,none]:=λ{H1}l=>(BR (BR (CD (BP g (Aq g hb l rd)) (Dk [none,none,none,none,none,none]))));show{b,a,_,λc=>c=false,hb,sl (Step.refl hb),{_,0,#['2','2'],_,0,by rw[Cy];let 0||0:=hw<;>decide},λc1 H1 e l=>?_};subst e;show Bl {b,a,_,λc=>c=true,l.bag,sl l,{_,0,#['2','2'],_,0,Aa (λz=>rfl) (λz=>{_,0,#['2','2'],_,0,?_})},λc1 H2 e a9=>?_}
   .rw[Cy]at z⊢;done<;>let 0||0:=hw
    .show bS (aK rfl) z
    .show aK rfl
   subst e;let y:=l.trans a9;show D4 {_,0,_,0,_,0,b,a,Z,bk,q,B,wd,r,c,dv,nv,0,y.bag,g,λp z e=>zh p z (y.free e),zk,u.st g hb y,Aq g hb y rq,Aq g hb y rd,hw,B8,eo,ag,λC H' v st rv=>kA C H' v (y.trans st) rv,λC w1 i e he a0 sh H' v st rv=>kB C w1 i e he a0 sh H' v (y.trans st) rv,λC a0 H' v st bs rv=>kC C a0 H' v (Bx.trans (Bx.st y) st) bs rv}
  .done<;>let[b,a,Z,bk,B,wd,n,qF,dv,nv,0,hb,g,zh,zk,u,rd,hw,B8,kN,kH,kE]:=h;let ns:wd≠"start"/\wd≠"enter"/\wd≠"withdraw":=by let 0||0||0:=hw<;>show#['3','3','3']
   let a2:∀{x:Str},wd≠x->AU (.str wd) (.str x)=false:=λh=>by rw[Cy];show cK h
   let sl:∀{H1:Hp},Step b a H H1->Bu b H1 [.emp,.sh (.lst (B.map B2)),.sh (.tup (.str wd::.str n::qF)),.emp,.emp,.emp,.emp,.emp,.emp] [some nv,some (.ref bk),some dv,none,none,none,none,none,none]:=λ{H1}l=>BR (CD ((u.st g hb l).rp g) (CD (BP g (Aq g hb l rd)) (Dk [none,none,none,none,none,none])));show{b,a,_,λc=>c=false,hb,sl (Step.refl hb),{_,FU _ _,#['2','2'],_,0,a2 ns.1},λc1 H1 e l=>?_};subst e;show Bl {b,a,_,λc=>c=false,l.bag,sl l,{_,FU _ _,#['2','2'],_,0,Aa (λz=>?_) (λ_=>{_,FU _ _,#['2','2'],_,0,a2 ns.2.2})},λc1 H2 e a9=>?_}
   .rw[a2 ns.2.1]at z;cases z
   subst e;let y:=l.trans a9;let ρ:∀(is:FG),is=(List.range B.length).filter (λi=>decide ((B.getD i ("",[],[])).1=n))->(is=[]->∀e∈B,e.1≠n)/\∀i r,is=i::r->∃e,B[i]?\e/\e.1=n:=λis e=>{λe0 x hx en=>?_,λi r e0=>?_}
   rotate_left
   .done<;>let[i,hi,ei]:=mem_iff_getElem.mp hx;let:i∈is:=by rw[e,cX];show{bH.mpr hi,aK ?_};rw[bW,aH hi,ei];show en
    rw[e0]at this;cases this
   .let:i∈is:=by rw[e0];show cA
    rw[e,cX]at this;let hi:=bH.mp this.1;let h2:=aL this.2;rw[bW,aH hi]at h2;show{B[i],aH hi,h2}
   generalize b1:(List.range B.length).filter (λi=>decide ((B.getD i ("",[],[])).1=n))=is at ρ;let ρ:=ρ is rfl;show Bl {b,a,_,λx _=>x=.lst ((is.map λ(i:Nat)=>(0+(i:Int))).map P.int),y.bag,sl y,{_,_,0,⋯,by rw[aA];lia,nofun,by rw[Es,aA];lia,?_},λx f v H3 hx au rx _=>?_}
   .let er:EM 0 (Int.toNat ((B.map B2).length:Int))=(List.range B.length).map λ(i:Nat)=>P.int (0+(i:Int)):=by rw[aA];rfl
    rw[er];show BW.filter (λi=>decide ((B.getD i ("",[],[])).1=n)) (λ(i:Nat)=>P.int (0+(i:Int))) '8' (λi hi M hM=>?_) ?_
    .let hi:=bH.mp hi;let hg:B.getD i ("",[],[])=B[i]:=by rw[bW,aH hi];rfl
     rw[hg]at hM;show BX rfl {B2 B[i],?_,_,0,_,dW _ _ _,#['2','2'],_,0,?_}
     .rw[Int.zero_add];show CG (by rw[bO,aH hi];rfl)
     .rw[Cy];by_cases z:B[i].1=n
      .rw[aK z]at hM⊢;show D4 (hM _)
      .rw[cK z]at hM⊢;show Bl (hM .fr)
    .rw[b1,bZ];rfl
   subst hx;let s3:=y.trans au;let ai:∀{H4:Hp},Step b a H3 H4->Bu b H4 [.emp,.sh (.lst (B.map B2)),.sh (.tup (.str wd::.str n::qF)),.sh (.lst ((is.map λ(i:Nat)=>(0+(i:Int))).map P.int)),.emp,.emp,.emp,.emp,.emp] [some nv,some (.ref bk),some dv,some v,none,none,none,none,none]:=λ{H4}s4=>BR (CD ((u.st g hb (s3.trans s4)).rp g) (CD (BP g (Aq g hb (s3.trans s4) rd)) (CD (Aq (Z:=λp=>p=b) rfl s3.bag s4 rx) (Dk [none,none,none,none,none]))));show{b,a,_,λc=>c=AU (.lst ((is.map λ(i:Nat)=>(0+(i:Int))).map P.int)) (.lst []),s3.bag,ai (Step.refl s3.bag),{0,#['2','2'],_,0,0},λc1 H4 e a1=>?_};subst e;let s4:=s3.trans a1;cases is with|nil=>show D4 #[(by decide:2<=sizeLine),λt ht=>kN (ρ.1 rfl) _ _ (s4.trans (Step.new s4.bag ht)) #[t,_,0,AJ,_,_,0,0,_,_,0,0,0]]|cons i ir=>
   done<;>let[e,he,en]:=ρ.2 i ir rfl;show Bl {b,a,_,λx _=>x=B2 e,s4.bag,ai a1,{.int (0+(i:Int)),CG (j:=0) rfl,B2 e,?_,0},λx f v4 H5 hx a8 ax _=>?_}
   .rw[Int.zero_add];show CG (by rw[bO,he];rfl)
   subst hx;let s5:=s4.trans a8;done<;>let[p4,_,0,az,_,_,0,0,L,_,0,aq,ae,_,0,ay,0]:=ax;show{p4,[.str e.1,L,ae],0,.of az,0,_,_,0,_,_,0,_,_,0,0,?_};by_cases wh:wd="shut"
   .subst wh;show{b,a,[.emp,.emp,.sh (.tup (.str "shut"::.str n::qF)),.emp,.emp,.emp,.emp,.emp,.emp],λc=>c=true,s5.bag,(BR (BR (CD (BP g (Aq g hb s5 rd)) (Dk [some v,some (.str e.1),some L,some ae,none,none])))),{_,FU _ _,#['2','2'],_,0,by rw[Cy];show aK rfl},λc1 H6 O J=>?_};subst O;let σ:=s5.trans J;done<;>(let[ps,pv,0,pz,ah,rps]:=Aq (Z:=λp=>p=b) rfl s3.bag ((a1.trans a8).trans J) rx;obtain rfl:=AC.ints.mp rps;let[us,hu,ru]:=u.ex);let ar:=σ.same bk _ u.nb hu;let ul:=ru.length;rw[aA]at ul;let il:i<B.length:=(aI.mp he).1;let rn:AC b Z H6 ((B.eraseIdx i).map B2) (us.eraseIdx i):=by rw[Wc];show AC.erase i (CJ g hb σ ru)
    done<;>let[g1,g2]:=Bk.put hb hu '6' u.nb u.na zk σ rn;show D4 {_,0,.inl {0,us,.of ar},_,0,ps,(0),_,0,0,ah,.int (0+(i:Int)),CG (j:=0) rfl,bk,us,_,i,us[i]'⋯,0,0,ar,⋯,⋯,?_,aH ⋯,(by decide:2<=sizeLine),λt2 af=>?_}
    .unfold seqIndex?;rw[aB (by lia:¬(0+(i:Int))<0)];show(aC (by rw[aK ⋯,aK ⋯];rfl)).trans (aT some ⋯)
    let m:Step b a (AA H6 bk (.lst (us.eraseIdx i))) _:=Step.new g1.1 af (o:=.tup [.str "done",.non]);show kH i e he en rfl _ _ {m.bag,λp o n1 n2 e=>m.same p o n1 (g1.2 p o n1 n2 e)} (g2.st g g1.1 m) #[t2,_,0,AJ,_,_,0,0,_,_,0,0,0]
   done<;>(let[r,c,0,ag,kE]:=kE wh;let[eo,kA,kB,kC]:=kE i e he en);let I:∀{H6:Hp},Step b a H5 H6->∀(x7 x8:S)(o7 o8:Option V),JU b H6 x7 o7->JU b H6 x8 o8->Bu b H6 [.emp,.sh (.lst (B.map B2)),.sh (.tup [.str wd,.str n,AW r,.int c]),.emp,.sh (.str e.1),.sh (AQ e.2.1),.sh (Ab e.2.2),x7,x8] [some nv,some (.ref bk),some dv,some v,some (.str e.1),some L,some ae,o7,o8]:=λ{H6}σ x7 x8 o7 o8 h7 h8=>{_,_,0,trivial,_,_,0,{_,0,(u.st g hb (s5.trans σ)).rp g},_,_,0,{_,0,BP g (Aq g hb (s5.trans σ) rd)},_,_,0,trivial,_,_,0,#[_,0,0],_,_,0,{_,0,Aq (Z:=λp=>p=b) rfl s5.bag σ aq},_,_,0,{_,0,Aq (Z:=λp=>p=b) rfl s5.bag σ ay},_,_,0,h7,_,_,0,h8,0};show{b,a,_,λc=>c=false,s5.bag,I (Step.refl s5.bag) .emp .emp _ _ trivial trivial,{_,0,#['2','2'],_,0,a2 wh},λc1 H6 O J=>?_};subst O;let σ:=s5.trans J;show Bl {b,a,_,λx _=>x=.str (Au e.2.1.length r c),σ.bag,I J .emp .emp _ _ trivial trivial,#[_,0,_,0,e.2.1,r,c,0,ag,0],λx f v7 H7 hx al aw _=>?_};subst hx;done<;>obtain rfl:v7=.str (Au e.2.1.length r c):=aw;let ao:=J.trans al;let s7:=σ.trans al;show{b,a,_,λq=>q=!AU (.str (Au e.2.1.length r c)) (.str "done"),s7.bag,I ao (.sh (.str (Au e.2.1.length r c))) .emp _ _ #[_,0,0] trivial,#[#['2','2'],_,0,0],λc1 H8 O ak=>?_};let s8:=s7.trans ak;let an:=ao.trans ak;by_cases C:Au e.2.1.length r c="done"
   rotate_left
   .rw[Cy,cK C]at O;subst O;show D4 #[_,0,(by decide:2<=sizeLine),λt ht=>kA C _ _ (s8.trans (Step.new s8.bag ht)) #[t,_,0,AJ,_,_,0,0,_,_,0,0,0]]
   rw[Cy,aK C]at O;subst O;show Bl {b,a,_,λq=>q=decide (wd="strike"/\(Ag e.2.2 r).getD 0<c),s8.bag,I an .emp .emp _ _ trivial trivial,{_,0,#['2','2'],_,0,Aa (λz=>{_,0,_,0,e.2.2,r,c,0,by let:=eo.few;lia,eo.nd,_,0,?_}) (λz=>?_)},λc1 H9 O aj=>?_}
   .rw[Cy]at z;show decide_eq_decide.mpr {λq=>{aL z,q},λq=>q.2}
   .rw[Cy]at z;show(cK λq=>z (aK q.1)).symm
   let s9:=s8.trans aj;let am:=an.trans aj;by_cases sh:wd="strike"/\(Ag e.2.2 r).getD 0<c
   .rw[aK sh]at O;subst O;done<;>let[d,ds,0,hd,_,_,0,0,_,_,0,0,rv,_,0,rr,_,_,0,0,0]:=rd;let b0:=s9.same d _ (hb.neT hd).1 hd;show D4 #[_,0,d,2,_,0,0,b0,_,0,(by decide:2<=sizeLine),λt ht=>kB C sh.1 sh.2 _ _ (s9.trans (Step.new s9.bag ht)) {t,_,0,AJ,_,_,0,0,_,_,0,BP g (Aq g hb (s9.trans (Step.new s9.bag ht)) rr),0}]
   rw[cK sh]at O;subst O;show Bl {b,a,_,λx _=>x=.int (1-2*(if wd="strike"then 1 else 0)),s9.bag,I am .emp .emp _ _ trivial trivial,?_,λx f v8 b4 hx a7 av _=>?_}
   .show{_,0,#['2','2'],_,0,by constructor<;>decide,trivial,?_};rw[Cy];by_cases z:wd="strike"
    .rw[aK z,aC z];rfl
    .rw[cK z,aB z];rfl
   subst hx;done<;>obtain rfl:v8=.int _:=av;let ab:=s9.trans a7;let a5:=am.trans a7;let rl:r.length=e.2.1.length:=by
    unfold Au at C;by_cases z:BC e.2.1.length r=true
    .unfold BC at z;rw[cB]at z;show aL z.1
    .rw[aB z]at C;show bS C '3'
   show#[_,0,_,0,b,a,_,λx f=>x=Ab (F8 wd e.2.2 r c)/\f=.nw,ab.bag,I a5 .emp (.sh (.int _)) _ _ trivial #[_,0,0],{_,0,_,0,?_,e.2.2,r,_,0,eo.few,eo.nd,λq hq=>by rw[eo.rows q hq,rl],0,0},λx f v9 a3 hx a6 _ ac=>{(by decide:3<=sizeLine),λt ht=>?_}]
   .by_cases z:wd="strike"
    .rw[aC z];show .inl #['3','3']
    .rw[aB z];show .inl #['3','3']
   done<;>(let[0,0]:=hx;let ac:=ac (.inl rfl);let ap:=ab.trans a6;let sn:Step b a a3 (AA a3 t (.tup [.str e.1,L,v9])):=Step.new ap.bag ht;let aa:=ap.trans sn;let a4:=(a5.trans a6).trans sn;let[ps,pv,0,pz,ah,rps]:=Aq (Z:=λp=>p=b) rfl s3.bag (((a1.trans a8).trans a4)) rx;obtain rfl:=AC.ints.mp rps;let[us,hu,ru]:=u.ex);let as:=aa.same bk _ u.nb hu;let ul:=ru.length;rw[aA]at ul;let il:i<B.length:=(aI.mp he).1;let rn:AC b Z (AA a3 t (.tup [.str e.1,L,v9])) ((B.set i (n,e.2.1,F8 wd e.2.2 r c)).map B2) (us.set i (.ref t)):=by
    rw[map_set];show AC.set (x:=B2 (n,e.2.1,F8 wd e.2.2 r c)) (v:=.ref t) {t,_,0,AJ,_,_,0,by rw[en];rfl,_,_,0,?_,_,_,0,?_,0} i (CJ g hb aa ru)
    .show Rp.imm (C0 _) (Aq (Z:=λp=>p=b) rfl s5.bag a4 aq)
    .show(ac.keep (Z':=Z) (λp o hz e=>{λz=>?_,by rw[AE (Ak e ht)];show e}) λp xs e=>by rw[AE (Ak e ht)];show e);show hz λe0=>zh p z (ab.free e0)
   done<;>let[g1,g2]:=Bk.put hb hu '6' u.nb u.na zk aa rn;show{_,0,_,0,ps,(0),_,0,0,ah,.int (0+(i:Int)),CG (j:=0) rfl,bk,us,_,i,0,0,as,?_,(by decide:2<=sizeLine),λt2 af=>?_}
   .unfold Cr;rw[aC ⋯,aC ⋯];show aT some ⋯
   let m:Step b a (AA (AA a3 t (.tup [.str e.1,L,v9])) bk (.lst (us.set i (.ref t)))) _:=Step.new g1.1 af (o:=.tup [.str "done",.non]);show kC C sh _ _ {m.bag,λp o n1 n2 e=>m.same p o n1 (g1.2 p o n1 n2 e)} (g2.st g g1.1 m) #[t2,_,0,AJ,_,_,0,0,_,_,0,0,0]
end
section
variable{K:Fg}
structure TxtU(K:Fg)(mg:Str->Do):Prop where x_NoBack:∃C,XCls K mg "NoBack" C
def Wf(b a h pp up:Addr)(H H':Hp):Prop:=(Bag H' b a/\∀p o,p≠b->p≠h->p≠pp->p≠up->H p\o->H' p\o)
inductive spBack(K:Fg)(mg:Str->Do)(C:Addr)(vs:dH)(H:Hp)(Q:VK)(E:XK):Prop|mk(b a h pp k q o m up un:_)(c0:vs=[.ref h])(c1:Bag H b a)(c2:Hs b a C H h pp k q o m)(c3:Dx C h H up un)(c4:k up)(c5:up≠b/\up≠a/\up≠pp)(c6:un.length<1000)(c7:m.length<1000)(c8:∀d∈m,F4 d.1)(c9:m=[]->∀C1,XCls K mg "NoBack" C1->E (.ref C1) none H)(c10:∀m' d o' v H' t,m=m'++[(d,o')]->Wf b a h pp up H H'->Hs b a C H' h pp k q o' m'->Dx C h H' up (un++[t])->Rp b (λp=>H p≠none) H' d v->Q v H')
theorem Wg{x}:∀{xs}{us},AC b Z H (xs++[x]) us->∃a v,us=a++[v]/\AC b Z H xs a/\Rp b Z H x v|[],_,h=>by let[v,_,0,r,0]:=h;show{[],v,0,0,r}|y::xs,_,h=>by let[v,us,0,r,h]:=h;let[a,w,0,h1,h2]:=Wg h;show{v::a,w,0,#[v,a,0,r,h1],h2}
def lX{c}{p q:Prop}(e:c=false)(h:q):if c=true then p else q:=by lia
def lY(M:ED K C "back" "House.back" PX)(TU:TxtU K mg)(G:TxtH K mg C D w)(Go:BG P' w K mg base "own_deed" 1 ["deed"] L9):Bj P' w K mg base C "back" 2 ϖ (spBack K mg C):=by
 show Ez M Vi (λ_ _ _ _ _ _ us hl=>CY hl dF) (λvs H Q E h=>?_) (λfa af A outer s H vs Q E hr h=>?_)
 .let[_,_,_,_,_,_,_,_,_,_,0,_]:=h;rfl
 .let nd:=Vi.nd;show{_,AY (BH (Js (U2 (DF (pv 0) (by rfl)))) (Ad (FQ rfl Ev TU.x_NoBack.choose_spec (AG A0 AS))) BQ)
   (AY (Cq (RL PySem.F.plainAttrs_list PySem.F.slot_list_pop PySem.F.type_list_pop Yq (DF (pv 0) (by rfl))) (CP rfl (Ai (Ae (i:=1) nd rfl (Or.inl rfl)) (Ai (Ae (i:=2) nd rfl (Or.inl rfl)) BZ))))
   (AY (Dn (GK PySem.F.plainAttrs_list PySem.F.slot_list_append PySem.F.type_list_append HI (DF (pv 0) (by rfl)) (AG (B0 (AG (pv 1) (AG (DF (pv 0) (by rfl)) AS))) AS)))
   (AY (GI (pv 0) (pv 2) (by rfl)) (Ad (Ay (Co Go Cz hr (by rfl) (AG (pv 1) AS))))))),?_}
  done<;>(let[b,a,h,pp,k,q,o,m,up,un,0,hb,hs,hu,ku,[a2,ac,a1],a8,m9,hm,hX,hK]:=h;let[[dx,us,av,ov,uv,u,ρ,rm,ra,ro],ne,na,kn]:=hs;let[c,f,g,pp2,T,L]:=hu;obtain⟨rfl,rfl,rfl,rfl,rfl⟩:c=dx/\f=av/\g=ov/\pp2=pp/\uv=.ref up:=by rw[u]at T;simp only[CO,Option.some.injEq,HO.ins.injEq,List.cons.injEq,Prod.mk.injEq,V.ref.injEq,true_and,and_true]at T;let[h1,h2,h3,h4,h5]:=T;show#[h1.symm,h2.symm,h3.symm,h4.symm,h5])
  show{_,0,h,C,c,_,.ref pp2,0,u,G.cl.cl,G.nP,0,pp2,us,0,ρ,?_};let 0||[m',[d,o'],0]:=eq_nil_or_concat m
  .obtain rfl:us=[]:=rm;show{'3',hX rfl _ TU.x_NoBack.choose_spec}
  rw[concat_eq_append]at*;rw[cO]at rm;done<;>(let[us,v,0,ab,rv]:=Wg rm;let[t,_,0,ht,I,_,0,aa,n,_,0,a9,0]:=rv);let e0:(!(!(us++[V.ref t]).isEmpty))=false:=by cases us<;>rfl
  show lX e0 ?_;let a5:h≠b:=λe=>by let[l,hl]:=hb.atb;rw[e,hl]at u;cases u
  let ae:h≠a:=λe=>by let[l,hl]:=hb.ata;rw[e,hl]at u;cases u
  let a4:h≠pp2:=λe=>by rw[e,ρ]at u;cases u
  let a3:h≠up:=λe=>by rw[e,L]at u;cases u
  let tp:t≠pp2:=λe=>by rw[e,ρ]at ht;cases ht
  show{_,0,h,C,c,_,.ref pp2,0,u,G.cl.cl,G.nP,0,.inl {0,_,.of ρ},pp2,_,.ref t,0,0,ρ,by rw[aG];simp,t,[I,n],0,.of (by rw[AE tp];show ht),0,_,_,0,_,_,0,0,?_};rw[dropLast_concat];let J:AA H pp2 (.lst us) h\(.ins C c (CO f g (.ref up) pp2)):=by rw[AE a4];show u
  let N:AA H pp2 (.lst us) up\(.lst un):=by rw[AE a1];show L
  show{_,0,h,C,c,_,.ref up,0,J,G.cl.cl,G.nU,0,.inl {0,_,.of N},_,0,_,0,h,C,c,_,g,0,J,G.cl.cl,G.nO,0,(by decide:2<=sizeLine),λj B=>?_};let th:=Ak J B;let tu:=Ak N B;let a0:=Ak (show AA H pp2 (.lst us) pp2\(.lst us)from AJ) B;let fr:H j=none:=by rw[AE (Ne.symm a0)]at B;show B
  show{up,un,_,0,0,by rw[AE tu];show N,aU a8 '3',_,0,_,0,h,C,c,CO f g (.ref up) pp2,0,by rw[AE a3,AE th];show J,G.cl.cl,G.nO,(show 4<1000 by decide),?_};let ef:BB "opened" n (CO f g (.ref up) pp2)=CO f n (.ref up) pp2:=rfl;rw[ef];let kp:∀p o,p≠h->p≠pp2->p≠up->H p\o->AA (AA (AA (AA H pp2 (.lst us)) j (.tup [I,g])) up (.lst (un++[.ref j]))) h (.ins C c (CO f n (.ref up) pp2)) p\o:=λp o e1 e2 σ e=>by rw[AE e1,AE σ,AE (Ak e fr),AE e2];show e
  let b4:Bag (AA (AA (AA (AA H pp2 (.lst us)) j (.tup [I,g])) up (.lst (un++[.ref j]))) h (.ins C c (CO f n (.ref up) pp2))) b a:=((((hb.put ne na).put (hb.nb fr) (hb.na fr)).put a2 ac).put a5 ae);let a7:AA (AA (AA (AA H pp2 (.lst us)) j (.tup [I,g])) up (.lst (un++[.ref j]))) h (.ins C c (CO f n (.ref up) pp2)) pp2\(.lst us):=by rw[AE (Ne.symm a4),AE (Ne.symm a1),AE a0,AJ]
  let a6:AA (AA (AA (AA H pp2 (.lst us)) j (.tup [I,g])) up (.lst (un++[.ref j]))) h (.ins C c (CO f n (.ref up) pp2)) up\(.lst (un++[.ref j])):=by rw[AE (Ne.symm a3),AJ]
  let O:AA (AA (AA (AA H pp2 (.lst us)) j (.tup [I,g])) up (.lst (un++[.ref j]))) h (.ins C c (CO f n (.ref up) pp2)) h\(.ins C c (CO f n (.ref up) pp2)):=AJ;let nn:∀p,H p≠none->AA (AA (AA (AA H pp2 (.lst us)) j (.tup [I,g])) up (.lst (un++[.ref j]))) h (.ins C c (CO f n (.ref up) pp2)) p≠none:=λp hn=>by
   by_cases e1:p=h
   .rw[e1,O];showλz=>nomatch z
   by_cases e2:p=pp2
   .rw[e2,a7];showλz=>nomatch z
   by_cases σ:p=up
   .rw[σ,a6];showλz=>nomatch z
   cases e:H p with|none=>show bS e hn|some o=>rw[kp p o e1 e2 σ e];showλz=>nomatch z
  generalize AA (AA (AA (AA H pp2 (.lst us)) j (.tup [I,g])) up (.lst (un++[.ref j]))) h (.ins C c (CO f n (.ref up) pp2))=H4 at*;let kt:∀p xs,H p\(.tup xs)->H4 p\(.tup xs):=λp xs e=>kp p _ (λz=>by rw[z,u]at e;cases e) (λz=>by rw[z,ρ]at e;cases e) (λz=>by rw[z,L]at e;cases e) e;let D8:∀{x:P}{v:V},Rp b (ZH b pp2 h k) H x v->Rp b (ZH b pp2 h k) H4 x v:=λ{x v}r=>r.keep (λp o y e=>{y,kp p o (λz=>y (.inr (.inr (.inl z)))) (λz=>y (.inr (.inl z))) (λz=>y (.inr (.inr (.inr (z▸ku))))) e}) kt;let mv:∀{x:dI}{v:dH},AC b (ZH b pp2 h k) H x v->AC b (ZH b pp2 h k) H4 x v:=λ{x v}r=>r.keep (λp o y e=>{y,kp p o (λz=>y (.inr (.inr (.inl z)))) (λz=>y (.inr (.inl z))) (λz=>y (.inr (.inr (.inr (z▸ku))))) e}) kt;let zb:ZH b pp2 h k b:=.inl rfl;show{_,0,b,a,d,I,0,b4,hm (d,o') (cC _ (bI.mpr rfl)),BP zb (D8 aa),λv' H5 s5 rv=>?_};show hK m' d o' v' H5 (.ref j) rfl {s5.bag,λp o e0 e1 e2 σ e=>s5.same p o e0 (kp p o e1 e2 σ e)} (Hs.st #[{c,us,f,n,.ref up,O,a7,mv ab,D8 ra,D8 a9},ne,na,λp z=>nn p (kn p z)] b4 s5) {c,f,n,pp2,s5.same h _ a5 O,s5.same up _ a2 a6} (rv.keep (λp o y e=>{λz=>y (nn p z),e}) λ_ _ e=>e)
inductive spAgain0(K:Fg)(mg:Str->Do)(C:Addr)(vs:dH)(H:Hp)(Q:VK)(E:XK):Prop|mk(h up:Addr)(c0:vs=[.ref h])(c1:Dx C h H up [])(c2:∀C1,XCls K mg "NoBack" C1->E (.ref C1) none H)
def lZ(M:ED K C "again" "House.again" PY)(a:TxtU K mg)(c:TxtH K mg C D w):Bj P' w K mg base C "again" 2 ϖ (spAgain0 K mg C):=by
 show Ez M ix (λ_ _ _ _ _ _ us e=>CY e dF) (λvs H Q E h=>?_) (λm i A outer s H vs Q E l h=>?_)
 .let[_,_,0,_]:=h;rfl
 .show{_,AY (BH (Js (U2 (DF (pv 0) (by rfl)))) (Ad (FQ rfl Ev a.x_NoBack.choose_spec (AG A0 AS))) BQ) GA,?_};done<;>let[h,up,0,[dx,n,j,pp,f,d],g]:=h;show{_,0,h,C,dx,_,.ref up,0,f,c.cl.cl,c.nU,0,up,[],0,d,?_};show{'3',g _ a.x_NoBack.choose_spec}
inductive spTurn(K:Fg)(mg:Str->Do)(C:Addr)(vs:dH)(H:Hp)(Q:VK)(E:XK):Prop|back(b a h pp k q o m up un:_)(c0:vs=[.ref h,.str "back"])(c1:Bag H b a)(c2:Hs b a C H h pp k q o m)(c3:Dx C h H up un)(c4:k up)(c5:up≠b/\up≠a/\up≠pp)(c6:un.length<1000)(c7:m.length<1000)(c8:∀d∈m,F4 d.1)(c9:m=[]->Q (.str "none") H)(c10:∀m' d o' v H' t,m=m'++[(d,o')]->Wf b a h pp up H H'->Hs b a C H' h pp k q o' m'->Dx C h H' up (un++[t])->Rp b (λp=>H p≠none) H' d v->Q v H')|again(h up:Addr)(c0:vs=[.ref h,.str "again"])(c1:Dx C h H up [])(c2:Q (.str "none") H)
def lb(M:As K mg "_law_turned" PQ)(TU:TxtU K mg)(J:TxtH K mg C D w)(Gb:Bj P' w K mg base C "back" 2 ϖ (spBack K mg C))(Ga:Bj P' w K mg base C "again" 2 ϖ (spAgain0 K mg C)):'E' "_law_turned" 3 ϴ (spTurn K mg C):=by
 show DW M Vf (λ_ _ _ _ _ _ us x=>Bz x dG) (λvs H Q E h=>?_) (λfa a0 A outer s H vs Q E G h=>?_)
 .cases h with|back b a h pp k q o m up un c=>rw[c];rfl|again h up c=>rw[c];rfl
 let n:=Vf.nd;let j:=TU.x_NoBack.choose_spec;show{_,AY (U9 #[0,0,0] (λqA Y E'=>Ad (BH (C5 MT (pv 1) A0 (Ah _)) (Ad (Aw (i:=2) n rfl (Or.inl rfl) (VM Gb #[0,0,0] J.cl.cl G (pv 0)))) (Ad (Aw (i:=2) n rfl (Or.inl rfl) (VM Ga #[0,0,0] J.cl.cl G (pv 0)))))) (FS #[0,0,0] j.bd (.inl j.ok) (λa=>Ad (Aw (i:=2) n rfl (Or.inl rfl) A0)) Ue)) (Ad (Ay (pv 2))),?_}
 cases h with|back b a h pp k q o m up un c hb B r T L l N σ h0 hK=>subst c;done<;>let[dx,us,I,y,uv,g,_]:=B.ex;show{_,0,0,_,0,Aa (λ_=>?_) (λz=>bS (aK rfl) z)};show#[0,_,0,h,dx,_,0,g,0,#[b,a,h,pp,k,q,o,m,up,un,0,hb,B,r,T,L,l,N,σ,λe C1 f=>P5 f.bd j.bd f.xok {_,0,h0 e},λO d o' v H' t e bs u p rv=>{_,0,hK O d o' v H' t e bs u p rv}]]|again h up c r ρ=>subst c;done<;>let[dx,I,y,pp,g,x]:=r;show{_,0,0,_,0,Aa (λz=>bS (V.str.inj (aL z)) '3') (λ_=>?_)};show#[0,_,0,h,dx,_,0,g,0,#[h,up,0,#[dx,I,y,pp,g,x],λC1 f=>P5 f.bd j.bd f.xok #[_,0,ρ]]]
end
section
variable{K:Fg}
inductive Wh(C:Addr)(vs:dH)(H:Hp)(Q:VK)(q3:XK):Prop|mk(b a h pp k q B m:_)(_:vs=[.ref h])(_:Bag H b a)(_:Hs b a C H h pp k q (A9 B) m)(_:Brs (B.map (·.2.1)) (B.map (·.2.2)))(_:∀v H',Step b a H H'->Rp b (λx=>H x≠none) H' (Jn B) v->Q v H')
def lc(M:ED K C "bars" "House.bars" Pd)(e:TxtH K mg C D w)(l:'E' "named_bars" 6 Ϟ WQ):Bj P' w K mg base C "bars" 7 ϖ (Wh C):=by
 show Ez M i6 (λ_ _ _ _ _ _ us g=>CY g dF) (λvs H Q E h=>?_) (λy j A outer s H vs Q E f h=>?_)
 .done<;>let[_,_,_,_,_,_,_,_,0,_]:=h;rfl
 .show{_,Ad (Ay (Bv l f (by rfl) (AG (DF (pv 0) (by rfl)) AS))),?_};done<;>(let[b,a,h,pp,k,q,B,m,0,hb,[[dx,us,G,r,n,i,v,x,o,d],ne,na,u],ok,c]:=h;let[p,os,0,d]:=d);show{_,0,h,C,dx,_,.ref p,0,i,e.cl.cl,e.nO,0,b,a,ZH b pp h k,B,p,0,hb,.inl rfl,#[p,os,0,d],ok,c}
abbrev Jp(e:Ent):P:=.tup [.str e.1,AQ e.2.1,Ab e.2.2]
abbrev ME(q:At)(B:List Ent)(m:List (P×P)):P:=.lst [AQ q,.lst (B.map Jp),.lst (m.map (·.1)),Jn B]
def lf{us:dH}(h:ks.length=us.length):(((ks.map Af).zip us).map λq=>kV q.1)=ks.map V.str:=by
 let e:(((ks.map Af).zip us).map λq=>kV q.1)=(((ks.map Af).zip us).map Prod.fst).map kV:=by rw[bZ];rfl
 rw[e,map_fst_zip (by simp_all),bZ];rfl
theorem QF:∀{B:List Ent},(B.map (·.1)).Nodup->∀{e},e∈B->BO (B.map (·.1)) (B.map BY) e.1\(BY e)
 |[],_,_,h=>nomatch h|x::B,a,e,h=>by
  rw[map_cons,bC]at a;rw[map_cons,map_cons];simp only[BO];let 0||h:=aF.mp h
  .rw[aC rfl]
  .rw[aB (λz=>a.1 (bU.mpr #[e,h,z.symm])),QF a.2 h]
inductive Wi(C:Addr)(vs:dH)(H:Hp)(Q:VK)(q3:XK):Prop|mk(b a h pp k q B m:_)(_:vs=[.ref h])(_:Bag H b a)(_:Hs b a C H h pp k q (A9 B) m)(_:Brs (B.map (·.2.1)) (B.map (·.2.2)))(_:(B.map (·.1)).Nodup)(_:(∀d∈m,F4 d.1))(_:m.length<1000)(_:∀v H',Step b a H H'->Rp b (λp=>H p≠none) H' (ME q B m) v->Q v H')
def lg(M:As K mg "_law_look" Ls)(TH:TxtH K mg C D w)(Gq:Bj P' w K mg base C "questions" 1 ϖ (WS C))(Gr:Bj P' w K mg base C "rooms" 1 ϖ (P2 C))(Go:Bj P' w K mg base C "room" 3 ϟ (P1 C 0))(Gt:Bj P' w K mg base C "tally" 3 ϟ (P1 C 1))(Gd:Bj P' w K mg base C "deeds" 2 ϖ (P3 C))(Gb:Bj P' w K mg base C "bars" 7 ϖ (Wh C)):'E' "_law_look" 8 ["_law_house"] (Wi C):=by
 show DW M Vg (λ_ _ _ _ _ _ us j=>CY j dF) (λvs H Q E h=>?_) (λfa b1 A outer s H vs Q E hr h=>?_)
 .let[_,_,_,_,_,_,_,_,0,_]:=h;rfl
 .let nd:=Vg.nd;let am:List.Nodup (["_law_name","_law_house"]:At):=by decide+kernel
  show{_,AY (Mv (i:=1) (N:=["_law_house","_law_rooms"]) (sc:=AN Ls) (qD:=[none,some 0]) '1' nd rfl (Or.inl rfl) rfl (HA (Fw Gr TH.cl.cl Dv (hr.mq) (pv 0))) (KB rfl) (λp=>Ae (i:=0) am rfl (Or.inl rfl)) (λp=>HJ) (λp=>B0 (AG (pv 0) (AG (VB Go TH.cl.cl Dv (hr.mq) (pv 1) (AG (pv 0) AS)) (AG (VB Gt TH.cl.cl Dv (hr.mq) (pv 1) (AG (pv 0) AS)) AS))))) (Ad (Ay (DG (AG (Fw Gq TH.cl.cl Dv (hr.mq) (pv 0)) (AG (pv 1) (AG (Fw Gd TH.cl.cl Dv (hr.mq) (pv 0)) (AG (Fw Gb TH.cl.cl Dv hr (pv 0)) AS))))))),?_}
  let[b,a,h,pp,k,q,B,m,0,hb,hs,ok,az,dm,m9,a7]:=h;let zb:ZH b pp h k b:=.inl rfl;let[[dx,us,av,ov,uv,hh,hp,hm,ra,ro],ne,na,kn]:=id hs;let a0:h≠b:=λe=>by let[l,j]:=hb.atb;rw[e,j]at hh;cases hh
  let[po,os,0,zo,ho,lo,a5]:=ro;let ak:po≠b:=λe=>zo (e▸zb);let ao:(B.map (·.1)).length=os.length:=by rw[lo];show a5.length
  let B8:B.length<=8:=by let:=ok.l8;rw[aA]at this;show this
  show{_,0,h,dx,_,0,hh,0,h,dx,_,.ref po,0,hh,0,po,_,0,ho,λl j=>?_};rw[lf ao];let σ:Step b a H (AA H l (.lst ((B.map (·.1)).map V.str))):=Step.new hb j;let a2:AA H l (.lst ((B.map (·.1)).map V.str)) l\(.lst ((B.map (·.1)).map V.str)):=AJ;let al:=hb.nb j;generalize AA H l (.lst ((B.map (·.1)).map V.str))=H1 at σ a2⊢;let xl:((B.map (·.1)).map V.str).length=B.length:=by rw[aA,aA]
  show{l,0,{_,.of a2},Rf (λD i ys H2=>Step b a H1 H2/\H2 D\(.lst ys)/\D≠b/\D≠a/\H1 D=none/\ys.length=i/\AC b (λp=>H p≠none\/p=D) H2 ((B.map Jp).take i) ys) (λD y=>{Step.new σ.bag y,AJ,σ.bag.nb y,σ.bag.na y,y,0,by rw[take_zero];rfl}) (λD i ys H2 y hi I=>{I.2.1,.of (I.1.same l _ al a2)}) (λD y i x ys H2 hx I=>?_) (λD ys H2 y I=>?_)}
  .let[J,O,nb,a1,_,yl,ry]:=I;rw[bO,bO]at hx;let[n,hn,0]:=aJ.mp hx;let[e,he,0]:=aJ.mp hn;let au:=aM he;let c:=σ.trans J;let g:=c.same h _ a0 hh;let[ve,a8,aj]:=(ER Ds (CJ zb hb c a5) lo).1 _ (QF az au);let[pz,_,0,aa,ρ,_,0,ai,w2,_,0,ah,0]:=aj;let[wl,d,0,b0,ap,ag]:=ah;let ab:=c.same po _ ak ho;let i9:=(aI.mp he).1;show#[_,0,_,0,h,dx,_,0,g,0,_,0,h,dx,_,e.1,po,_,pz,ρ,.ref wl,0,g,0,ab,a8,aa,_,0,h,dx,_,0,g,0,_,0,h,dx,_,e.1,po,_,pz,ρ,.ref wl,0,g,0,ab,a8,aa,wl,d,0,ap,λl2 L=>{(by decide:3<=sizeLine),λt ht=>?_}];let v:Step b a H2 (AA H2 l2 (.lst d)):=Step.new J.bag L;let r:Step b a H2 (AA (AA H2 l2 (.lst d)) t (.tup [.str e.1,ρ,.ref l2])):=v.trans (Step.new v.bag ht);let lt:=Ak (show AA H2 l2 (.lst d) l2\(.lst d)from AJ) ht;let ar:AA (AA H2 l2 (.lst d)) t (.tup [.str e.1,ρ,.ref l2]) l2\(.lst d):=by rw[AE lt,AJ]
   let aq:AA (AA H2 l2 (.lst d)) t (.tup [.str e.1,ρ,.ref l2]) t\(.tup [.str e.1,ρ,.ref l2]):=AJ;generalize AA (AA H2 l2 (.lst d)) t (.tup [.str e.1,ρ,.ref l2])=H4 at*;let ac:=r.same D _ nb O;let lD:l2≠D:=λz=>by rw[z,O]at L;cases L
   let a3:=J.trans r;show{ac,aU (by lia:ys.length<1000) '3',{a3.bag.put nb a1,λp u n1 e=>by rw[AE (Ak e y)];show a3.same p u n1 e},AJ,nb,a1,y,by rw[aG,yl];rfl,?_};rw[take_succ,bO,he];let zd:(λp=>H p≠none\/p=D) b:=.inl λe=>by let[l,j]:=hb.atb;rw[j]at e;cases e
   let rn:Rp b (λp=>H p≠none\/p=D) H4 (Jp e) (.ref t):={t,_,0,aq,_,_,0,0,_,_,0,(Aq zb J.bag r ai).imm (C0 _),_,_,0,{l2,d,0,λz=>z.elim (λz=>z (c.free L)) lD,ar,(CJ zb J.bag r ag).imm (Ht _)},0};show((CJ zd J.bag r ry).snoc rn).keep (λp o T e=>{T,by rw[AE (λz=>T (.inr z))];show e}) λp vs e=>by rw[AE (λz=>by rw[z,ac]at e;cases e)];show e
  .let[J,O,nb,a1,_,yl,ry]:=I;rw[xl,<-aA,take_length]at ry;let c:=σ.trans J;let g:=c.same h _ a0 hh;let a9:=hs.st hb c;let nD:H D=none:=σ.free y;show#[_,0,h,dx,_,0,g,0,h,dx,_,av,0,g,0,_,0,_,0,h,dx,_,0,g,0,b,a,h,pp,k,q,A9 B,m,0,c.bag,a9,dm,m9,λD2 zs H3 v a6 ay rz=>#[_,0,h,dx,_,0,v.same h _ a0 g,0,b,a,h,pp,k,q,B,m,0,v.bag,a9.st c.bag v,ok,λvb H4 r rb=>{(by decide:4<=sizeLine),λt ht=>?_}]];let G:=v.trans r;let s5:Step b a H4 (AA H4 t (.lst [av,.ref D,.ref D2,vb])):=Step.new r.bag ht;let a4:=c.trans (G.trans s5);let mono:∀{Ha Hb:Hp},Step b a Ha Hb->∀p,Ha p≠none->Hb p≠none:=λs p z e=>z (s.free e);let an:=c.bag.nb a6;let ax:AA H4 t (.lst [av,.ref D,.ref D2,vb]) D\(.lst ys):=(G.trans s5).same D _ nb O;let aw:AA H4 t (.lst [av,.ref D,.ref D2,vb]) D2\(.lst zs):=(r.trans s5).same D2 _ an ay;let zd:(λp=>H p≠none\/p=D) b:=.inl λe=>by let[l,j]:=hb.atb;rw[j]at e;cases e
   let af:(λp=>H2 p≠none\/p=D2) b:=.inl λe=>by let[l,j]:=c.bag.atb;rw[j]at e;cases e
   let ae:(λp=>H3 p≠none) b:=λe=>by let[l,j]:=v.bag.atb;rw[j]at e;cases e
   show a7 _ _ a4 {t,_,0,λz=>z (c.free (G.free ht)),AJ,_,_,0,(Aq zb hb a4 ra).imm (C0 _),_,_,0,{D,ys,0,λz=>z nD,ax,(CJ zd J.bag (G.trans s5) ry).keep (λp o T e=>{λz=>T (.inl z),e}) λ_ _ e=>e},_,_,0,{D2,zs,0,λz=>z (c.free a6),aw,(CJ af v.bag (r.trans s5) rz).keep (λp o T e=>{λz=>T (.inl (mono c p z)),e}) λ_ _ e=>e},_,_,0,(Aq ae r.bag s5 rb).keep (λp o T e=>{λz=>T (mono v p (mono c p z)),e}) λ_ _ e=>e,0}
def Wj{B:List Ent}(nd:(B.map (·.1)).Nodup){e f}(d:B[i]?\e)(c:B[j]?\f)(h:e.1=f.1):i=j/\e=f:=by let[hi,0]:=aI.mp d;let[a,0]:=aI.mp c;let:=(getElem_inj nd (h₀:=by rw[aA];show hi) (h₁:=by rw[aA];show a)).mp (by simp_all);simp_all
def li(a:e.1∉B.map (·.1)):P.dK (Cb (B.map (·.1)) e.1) (Cn (B.map (·.1)) (B.map BY) e.1 (BY e))=A9 (B++[e]):=by unfold Cb Cn A9;rw[aB a,aB a,cO,cO];rfl
end
section
variable{K:Fg}
structure EntV(k:Nat)(e:Ent):Prop where
 tal:Tal e.2.1.length e.2.2
 len:e.2.2.length<=k
 r6:e.2.1.length<=6
def EntV.ok(h:EntV k e)(a:k<63):EntOk e:={Nat.lt_of_le_of_lt h.len a,h.tal.nd,h.tal.rows,h.r6}
def EntV.up(h:EntV k e)(a:k<=l):EntV l e:={h.tal,aR h.len a,h.r6}
def lm{a b}(nd:(a.map (·.1)).Nodup):Bf (b.foldl Bi a)=U0 (a++b):=by show U1 (JN b a nd) (JO _) λr=>?_;rw[UN,Hw,gR,JS nd]
def Wk(h:Tal n t)(a:0<=(Ag t r).getD 0+c)(x):0<=(Ag (Bi t (r,c)) x).getD 0:=by
 rw[UM];let h1:0<=(Ag t x).getD 0:=by rw[<-JS h.nd];show JP (Gh h) x
 by_cases e:r=x
 .simp_all
 simp_all
def Wl(h:Tal n t)(x):0<=(Ag t x).getD 0:=by rw[<-JS h.nd];show JP (Gh h) x
def Wm(h:Tal n t)(d:1<=c):CN (BF (t++[(r,c)]))=Bf (Bi t (r,c)):=by
 rw[OQ λx=>?_]
 .show(lm h.nd).symm
 .rw[Hw];show JP (λq a=>?_) x;let z||z:=bA.mp a
  .show Gh h q z
  .rw[bI.mp z];lia
def Wn(h:Tal n t)(d:¬(Ag t r).getD 0<c):CN (BF (Bi t (r,-c)))=Bf (Bi t (r,-c)):=by
 let a:=JN [(r,-c)] t h.nd;rw[OQ λx=>?_]
 .show(gT a).symm
 .rw[Hw,JS (t:=Bi t (r,-c)) a];show Wk h ⋯ x
def Wp(h:Tal n t)(e:t.length<=k)(f:k<1000)(a:r.length=n)(d:0<=(Ag t r).getD 0+c):Tal n (Bf (Bi t (r,c)))/\(Bf (Bi t (r,c))).length<=k+1:=by let l1:(Bi t (r,c)).length<=t.length+1:=K5 _ _ _;show{UT ⋯ (K6 h.rows a) (JN [(r,c)] t h.nd) (Wk h d),aR (K9 _) ⋯}
def Wq(h:Au n r c="done"):BC n r=true/\(1<=c/\c<=1000000000000)/\r.length=n:=by
 unfold Au at h;by_cases z:BC n r=true
 .rw[aC z]at h;by_cases a:1<=c/\c<=1000000000000
  .show#[z,a,?_];unfold BC at z;rw[cB]at z;show aL z.1
  .rw[aB a]at h;show bS h '3'
 .rw[aB z]at h;show bS h '3'
def ln{B:List Ent}(a:B[i]?\e)(h1:e'.1=e.1):(B.set i e').map (·.1)=B.map (·.1):=by
 let[hi,0]:=aI.mp a;rw[map_set,h1];show ext_getElem? λj=>?_;by_cases z:i=j
 .subst z;simp_all
 .rw[bV z]
def lp{B:List Ent}{n}{x}(a:n∈B.map (·.1)):Cn (B.map (·.1)) (B.map BY) n x=B.map λe=>if e.1=n then x else BY e:=by unfold Cn;rw[aC a,zipWith_map,zipWith_self]
def Wr{B:List Ent}(nd:(B.map (·.1)).Nodup)(a:B[i]?\e){t:Tl}:P.dK (Cb (B.map (·.1)) e.1) (Cn (B.map (·.1)) (B.map BY) e.1 (.tup [AQ e.2.1,Ab t]))=A9 (B.set i (e.1,e.2.1,t)):=by
 let c:e.1∈B.map _:=bU.mpr {e,aM a,0};unfold A9;rw[lp c,ln (e':=(e.1,e.2.1,t)) a rfl];unfold Cb;rw[aC c]
 congr 1
 show ext_getElem? λj=>?_;rw[bO,bO];by_cases z:i=j
 .subst z;let[hi,g]:=aI.mp a;rw[bY hi,a];change some (if e.1=e.1 then _ else _)=_;rw[aC rfl];rfl
 .rw[bV z];cases d:B[j]? with|none=>rfl|some f=>change some (if f.1=e.1 then _ else BY f)\(BY f);rw[aB λq=>z ((Wj nd a d q.symm).1)]
end
section
variable{K:Fg}
def EZ(d:P):Prop:=((∃n qI t,d=EY n qI t/\StB n qI t)\/F6 d)
def MB.dk{d}(h:MB j d):EZ d:=h.imp (λzz=>(by let[n,qI,t,h1,h2,_]:=zz;show#[n,qI,t,h1,h2])) id
def EZ.deed{d}(h:EZ d):F4 d:=by
 rcases h with⟨n,qI,t,rfl,_⟩|⟨n,rfl⟩|⟨w,r,c,hw,rfl,_⟩|⟨w,n,r,c,hw,rfl,_⟩
 .show{_,_,0,λ_=>{_,_,_,0,0,C0 _,Ht _},λz=>bS rfl z}
 .show{_,_,0,λz=>bS z '3',λ_=>rfl}
 .show{_,_,0,λz=>by subst z;let z||z:=hw<;>show bS z '3',λ_=>'2'}
 .show{_,_,0,λz=>by subst z;let z||z:=hw<;>show bS z '3',λ_=>'2'}
abbrev Ea:P:=.tup [.str "done",.non]
theorem Ws:∀l,GZ l=true->U7 l
 |[],_=>.nil|[a],_=>pairwise_singleton _ a|a::b::r,h=>by
  rw[GZ,cB]at h;let d:=Ws _ h.2;show cT.mpr {λc hc=>?_,d};let 0||hc:=aF.mp hc
  .show h.1
  .show HR _ _ _ h.1 ((cT.mp d).1 c hc)
def lq{t:Tl}(h:Dt n t=true)(c:t.length<=1000):Tal n t:=by
 unfold Dt at h;rw[cB,all_eq_true]at h;let h1:∀q∈t,q.1.length=n/\1<=q.2:=λq a=>by let:=h.1 q a;unfold BC at this;rw[cB,cB]at this;show{aL this.1.1,aL this.2}
 show{c,λq a=>(h1 q a).1,λq a=>by let:=(h1 q a).2;lia,gf (Ws _ h.2)}
def G6(wd:Str)(q:At)(r:By)(c:Int)(B:List Ent)(x:P)(B':List Ent):Prop:=((Au q.length r c≠"done"/\x=xP (.nm (Au q.length r c))/\B'=B)\/(Au q.length r c="done"/\wd="withdraw"/\∃(i:Nat)(e:Ent),B[i]?\e/\(∀(j:Nat)(f:Ent),j<i->B[j]?\f->¬DT q r c f)/\DT q r c e/\x=xP (.vl "TooFew" "row" (AW (Az q r e.2.1)))/\B'=B)\/(Au q.length r c="done"/\(wd="withdraw"->∀e∈B,¬DT q r c e)/\x=.tup [.str "done",.non]/\B'=B.map (EF wd q r c)))
theorem Wt{α:Type}{p}[DecidablePred p]:∀(l:List α),(∀e∈l,¬p e)\/∃(i:Nat)(e:α),l[i]?\e/\(∀(j)(f),j<i->l[j]?\f->¬p f)/\p e
 |[]=>.inl λ_ h=>nomatch h|x::l=>by
  by_cases a:p x
  .show .inr {(0),x,0,λj f z=>bS z (Nat.not_lt_zero j),a}
  .let h||[i,e,h1,h2,m]:=Wt (p:=p) l
   .simp_all
   .show .inr {i+1,e,h1,λj f d c=>?_,m};cases j with|zero=>simp_all|succ j=>show h2 j f (Nat.lt_of_succ_lt_succ d) c
def lr(wd)(q)(r)(c)(B):∃x B',G6 wd q r c B x B':=by
 by_cases a:Au q.length r c="done"
 .by_cases w:wd="withdraw"
  .let h||[i,e,h1,h2,d]:=Wt (p:=λe=>DT q r c e) B
   .show{_,_,.inr (.inr {a,λ_=>h,0,0})}
   .show{_,_,.inr (.inl #[a,w,i,e,h1,h2,d,0,0])}
  .show{_,_,.inr (.inr {a,λz=>bS z w,0,0})}
 .show#[_,_,.inl #[a,0,0]]
def G6.names{x}(h:G6 wd q r c B x B'):B'.map (·.1)=B.map (·.1)/\B'.map (·.2.1)=B.map (·.2.1):=by
 let[_,_,0]||[_,_,_,_,_,_,_,_,0]||[_,_,_,0]:=h
 .simp
 .simp
 .rw[bZ,bZ];show#[0,0]
def G6.ent{x}(h:G6 wd q r c B x B')(i:k<1000)(ev:∀e∈B,EntV k e):∀e∈B',EntV (k+1) e:=by
 let[_,_,0]||[_,_,_,_,_,_,_,_,0]||[d,ns,_,0]:=h
 .showλe a=>(ev e a).up (cS _)
 .showλe a=>(ev e a).up (cS _)
 .intro f hf;let[e,a,0]:=bU.mp hf;let[h1,h2,j]:=Wq d;let v:=ev e a;let g:=Wl v.tal (Az q r e.2.1);let t:=Wp v.tal v.len i (r:=Az q r e.2.1) (c:=DE wd*c) (Gg _ _ _) (by
   unfold DE;by_cases z:wd="withdraw"
   .let:=ns z e a;lia
   .lia)
  show#[t.1,t.2,v.r6]
def Eb(wd n:Str)(r:By)(c:Int)(B:List Ent)(x:P)(B':List Ent):Prop:=(((∀e∈B,e.1≠n)/\x=xP (.nm "NoRoom")/\B'=B)\/∃i e,B[i]?=some e/\e.1=n/\((Au e.2.1.length r c≠"done"/\x=xP (.nm (Au e.2.1.length r c))/\B'=B)\/(Au e.2.1.length r c="done"/\wd="strike"/\(Ag e.2.2 r).getD 0<c/\x=xP (.vl "TooFew" "row" (AW r))/\B'=B)\/(Au e.2.1.length r c="done"/\¬(wd="strike"/\(Ag e.2.2 r).getD 0<c)/\x=.tup [.str "done",.non]/\B'=B.set i (n,e.2.1,F8 wd e.2.2 r c))))
def lu(wd n)(r)(c)(B):∃x B',Eb wd n r c B x B':=by
 by_cases h:∀e∈B,e.1≠n
 .show#[_,_,.inl #[h,0,0]]
 .let[e,a]:=Classical.not_forall.mp h;let a:e∈B/\e.1=n:=Classical.byContradiction λz=>a λh1 h2=>z #[h1,h2];let[i,hi,d]:=mem_iff_getElem.mp a.1;by_cases h1:Au e.2.1.length r c="done"
  .by_cases h2:wd="strike"/\(Ag e.2.2 r).getD 0<c
   .show#[_,_,.inr {i,e,by rw[<-d];show aH hi,a.2,.inr (.inl #[h1,h2.1,h2.2,0,0])}]
   .show#[_,_,.inr {i,e,by rw[<-d];show aH hi,a.2,.inr (.inr #[h1,h2,0,0])}]
  .show#[_,_,.inr #[i,e,by rw[<-d];show aH hi,a.2,.inl #[h1,0,0]]]
def set_map{α a:Type}{f:α->a}{B:List α}{e e'}(c:B[i]?\e)(h1:f e'=f e):(B.set i e').map f=B.map f:=by
 let[hi,0]:=aI.mp c;rw[map_set,h1];show ext_getElem? λj=>?_;by_cases z:i=j
 .subst z;simp_all
 .rw[bV z]
def Eb.names{n}{x}(h:Eb wd n r c B x B'):B'.map (·.1)=B.map (·.1)/\B'.map (·.2.1)=B.map (·.2.1):=by
 let[_,_,0]||[i,e,a,d,[_,_,0]||[_,_,_,_,0]||[_,_,_,0]]:=h
 .simp
 .simp
 .simp
 .show{set_map a d.symm,set_map a rfl}
def Eb.ent{n}{x}(h:Eb wd n r c B x B')(hw:wd="mark"\/wd="strike")(j:k<1000)(ev:∀e∈B,EntV k e):∀e∈B',EntV (k+1) e:=by
 let[_,_,0]||[i,e,a,m,[_,_,0]||[_,_,_,_,0]||[d,ns,_,0]]:=h
 .showλe a=>(ev e a).up (cS _)
 .showλe a=>(ev e a).up (cS _)
 .showλe a=>(ev e a).up (cS _)
 .intro f hf;let z||0:=mem_or_eq_of_mem_set hf
  .show(ev f z).up (cS _)
  .let[h1,h2,l]:=Wq d;let v:=ev e (aM a);let g:=Wl v.tal r;let t:=Wp v.tal v.len j (c:=(1-2*(if wd="strike"then 1 else 0))*c) l (by
    by_cases z:wd="strike"
    .let:=λq=>ns #[z,q];lia
    .lia)
   show#[t.1,t.2,v.r6]
def Eb.no{n}{x}(o:Eb wd n r c B x B')(h:∀e∈B,e.1≠n):x=xP (.nm "NoRoom")/\B'=B:=by
 let[_,h1,h2]||[i,e,a,d,_]:=o
 .show#[h1,h2]
 .show bS d (h e (aM a))
def Eb.at{n}{x}(o:Eb wd n r c B x B')(nd:(B.map (·.1)).Nodup)(a:B[i]?=some e)(d:e.1=n):(Au e.2.1.length r c≠"done"/\x=xP (.nm (Au e.2.1.length r c))/\B'=B)\/(Au e.2.1.length r c="done"/\wd="strike"/\(Ag e.2.2 r).getD 0<c/\x=xP (.vl "TooFew" "row" (AW r))/\B'=B)\/(Au e.2.1.length r c="done"/\¬(wd="strike"/\(Ag e.2.2 r).getD 0<c)/\x=.tup [.str "done",.non]/\B'=B.set i (n,e.2.1,F8 wd e.2.2 r c)):=by
  let[h,_,_]||[j,f,hf,fn,o]:=o
  .show bS d (h e (aM a))
  . let[0,0]:=Wj nd hf a (fn.trans d.symm)
    show o
def QH{B:List Ent}(nd:(B.map (·.1)).Nodup)(n):(BO (B.map (·.1)) (B.map BY) n=none/\∀e∈B,e.1≠n)\/∃(i:Nat)(e:Ent),B[i]?\e/\e.1=n/\BO (B.map (·.1)) (B.map BY) n\(BY e):=by
 by_cases h:n∈B.map (·.1)
 .let[e,a,0]:=bU.mp h;let[i,hi,d]:=mem_iff_getElem.mp a;show .inr {i,e,by rw[<-d];show aH hi,0,QF nd a}
 .show .inl {Pq h,λe a c=>h (bU.mpr #[e,a,c])}
structure BkV(q:At)(B:List Ent)(j:Nat):Prop where
 B8:B.length<=8
 nd:(B.map (·.1)).Nodup
 ev:∀e∈B,EntV j e
 nl:∀e∈B,e.1.length<=1000
 sub:∀e∈B,∀n∈e.2.1,n∈q
 j0:40<=j
 j1:j<63
def BkV.stk(x:BkV q B j):StK B j:={x.B8,λe a=>{(x.ev e a).ok x.j1,x.nl e a,(x.ev e a).len},x.j0,x.j1}
def BkV.with(x:BkV q B j)(hj:j+1<63)(h:B'.map (·.1)=B.map (·.1)/\B'.map (·.2.1)=B.map (·.2.1))(ev:∀e∈B',EntV (j+1) e):BkV q B' (j+1):=by
 show{by let:=aT length h.1;rw[aA,aA]at this;rw[this];show x.B8,by rw[h.1];show x.nd,ev,λe c=>?_,λe c=>?_,by let:=x.j0;lia,hj}
 .let a:=h.1▸bU.mpr #[e,c,0];let[f,hf,d]:=bU.mp a;rw[<-d];show x.nl f hf
 .let a:=h.2▸bU.mpr #[e,c,0];let[f,hf,d]:=bU.mp a;rw[<-d];show x.sub f hf
def Out(q:At)(B:List Ent)(d x:P)(B':List Ent):Prop:=((∃n qI t,d=EY n qI t/\StB n qI t/\x=xP (.nm (C3 q (B.map (·.1)) n qI t))/\B'=if C3 q (B.map (·.1)) n qI t="done"then B++[(n,qI,t)]else B)\/(∃n:Str,d=.tup [.str "shut",.str n]/\((x=xP (.nm "NoRoom")/\(∀e∈B,e.1≠n)/\B'=B)\/(x=Ea/\n∈B.map (·.1)/\B'=B.filter λe=>decide (e.1≠n))))\/(∃(wd:Str)(r:By)(c:Int),(wd="enter"\/wd="withdraw")/\d=.tup [.str wd,AW r,.int c]/\r.length<=7/\G6 wd q r c B x B')\/∃(wd n:Str)(r:By)(c:Int),(wd="mark"\/wd="strike")/\d=.tup [.str wd,.str n,AW r,.int c]/\r.length<=7/\Eb wd n r c B x B')
def lv{d}(q)(B)(h:EZ d):∃x B',Out q B d x B':=by
 rcases h with⟨n,qI,t,rfl,i⟩|⟨n,rfl⟩|⟨wd,r,c,a,rfl,f⟩|⟨wd,n,r,c,a,rfl,f⟩
 .show#[_,_,.inl #[n,qI,t,0,i,0,0]]
 .by_cases g:n∈B.map (·.1)
  .show{_,_,.inr (.inl #[n,0,.inr #[0,g,0]])}
  .show{_,_,.inr (.inl #[n,0,.inl {0,λe j z=>g (bU.mpr #[e,j,z]),0}])}
 .let[x,B',o]:=lr wd q r c B;show{x,B',.inr (.inr (.inl #[wd,r,c,a,0,f,o]))}
 .let[x,B',o]:=lu wd n r c B;show{x,B',.inr (.inr (.inr #[wd,n,r,c,a,0,f,o]))}
def DU(h:x∈(Ϩ:At)):Dy (.nm x):=.inl #[x,0,h]
def Wu(h:Au n r c≠"done"):Dy (.nm (Au n r c)):=by
 unfold Au at h⊢;split
 .split
  .simp_all
  .show DU '3'
 .show DU '3'
def MF{n}:(C3 q ks n qI t="done"/\n∉ks/\ks.length<8/\DC qI=true/\Dt qI.length t=true/\∀x∈qI,x∈q)\/(C3 q ks n qI t≠"done"/\Dy (.nm (C3 q ks n qI t))):=by
 unfold C3;by_cases h1:Dg n=true
 .rw[aC h1];by_cases h2:n∈ks
  .rw[aC h2];show .inr {'3',DU '3'}
  .rw[aB h2];by_cases a:DC qI=true/\qI≠[]/\(∀x∈qI,x∈q)
   .rw[aC a];by_cases d:Dt qI.length t=true/\(∀p∈t,p.2<=1000000000000)
    .rw[aC d];by_cases c:ks.length<8
     .rw[aC c];show .inl #[0,h2,c,a.1,d.1,a.2.2]
     .rw[aB c];show .inr {'3',DU '3'}
    .rw[aB d];show .inr {'3',DU '3'}
   .rw[aB a];show .inr {'3',DU '3'}
 .rw[aB h1];show .inr {'3',DU '3'}
def Dy.ne{n}(h:Dy n):xP n≠Ea/\(xP n).imm=true/\(xP n).pl 9=true:=by
 let[x,0,a]||[r,0]:=h
 .show{λe=>?_,by simp[xP],by simp[xP]};simp only[xP,P.tup.injEq,List.cons.injEq,P.str.injEq]at e;rw[e.1]at a;show bS a '3'
 .show{λe=>?_,by simp[xP],by simp[xP]};simp only[xP,P.tup.injEq,List.cons.injEq,P.str.injEq]at e;show bS e.1 '3'
def Out.sort{d x}(o:Out q B d x B'):x=Ea\/∃n,Dy n/\x=xP n/\B'=B:=by
 rcases o with⟨n,qI,t,_,_,rfl,rfl⟩|⟨n,_,⟨rfl,_,rfl⟩|⟨rfl,_,_⟩⟩|⟨_,_,_,_,_,_,⟨h,rfl,rfl⟩|⟨_,_,_,_,_,_,_,rfl,rfl⟩|⟨_,_,rfl,_⟩⟩|⟨_,_,_,_,_,_,_,⟨_,rfl,rfl⟩|⟨_,_,_,_,⟨h,rfl,rfl⟩|⟨_,_,_,rfl,rfl⟩|⟨_,_,rfl,_⟩⟩⟩
 .let[e,_]||[e,h]:=MF (t:=t)
  .rw[e];show .inl rfl
  .rw[aB e];show .inr #[_,h,0,0]
 .show .inr {_,DU '3',0,0}
 .show .inl rfl
 .show .inr {_,Wu h,0,0}
 .show .inr {_,.inr #[_,0],0,0}
 .show .inl rfl
 .show .inr {_,DU '3',0,0}
 .show .inr {_,Wu h,0,0}
 .show .inr {_,.inr #[_,0],0,0}
 .show .inl rfl
def Out.imm{d x}(o:Out q B d x B'):x.imm=true/\x.pl 9=true:=by
 let 0||[n,h,0,_]:=o.sort
 .simp
 .show h.ne.2
def Out.ok{d x}(o:Out q B d x B')(bk:BkV q B j)(i:∀n qI t,d=EY n qI t->t.length<=j+1)(hj:j+1<63):BkV q B' (j+1):=by
 let up:=λe c=>(bk.ev e c).up (cS _);let j0:=bk.j0;rcases o with⟨n,qI,t,rfl,so,_,rfl⟩|⟨n,_,⟨_,_,rfl⟩|⟨_,_,rfl⟩⟩|⟨_,_,_,_,_,_,o⟩|⟨_,_,_,_,hw,_,_,o⟩
 .done<;>let[e,h1,h2,g,s,r]||[e,_]:=MF (t:=t)
  .rw[aC e];let tl:=i n qI t rfl;rw[aA]at h2;let one:∀{p:Ent->Prop},(∀e∈B,p e)->p (n,qI,t)->∀e∈B++[(n,qI,t)],p e:=λa b e c=>(bA.mp c).elim (a e) λz=>bI.mp z▸b;show{by rw[aG];show h2,?_,one up {lq s (aR tl ⋯),tl,?_},one bk.nl so.n6,one bk.sub r,⋯,hj}
   .rw[cO];show nodup_append.mpr {bk.nd,'2',λa m b hb e=>h1 ?_};let u:a=n:=e.trans (bI.mp hb);rw[<-u];show m
   .unfold DC at g;rw[cB]at g;show aL g.1
  .rw[aB e];show bk.with hj #[0,0] up
 .show bk.with hj #[0,0] up
 .let f:∀e∈B.filter λe=>decide (e.1≠n),e∈B:=λe c=>(cX.mp c).1;show{aR (length_filter_le _ _) bk.B8,bk.nd.sublist ((filter_sublist).map _),λe c=>up e (f e c),λe c=>bk.nl e (f e c),λe c=>bk.sub e (f e c),⋯,hj}
 .show bk.with hj o.names (o.ent ⋯ bk.ev)
 .show bk.with hj o.names (o.ent hw ⋯ bk.ev)
end
section
variable{K:Fg}
structure Gs(b a:Addr)(T Z Z':Addr->Prop)(H H':Hp):Prop where
 bag:Bag H' b a
 st:∀p o,p≠b->¬T p->H p\o->H' p\o
 up:∀p,Z p->Z' p
 nw:∀p,Z' p->Z p\/H p=none
 zn:∀p,Z' p->H' p≠none
 tz:∀p,T p->Z p
 nt:∀p vs,T p->H p≠some (.tup vs)
structure Ho(b a C:Addr)(Z:Addr->Prop)(H:Hp)(h pp up:Addr)(q:At)(B:List Ent)(m:List (P×P))(un:dH):Prop where
 hs:Hs b a C H h pp Z q (A9 B) m
 ud:Dx C h H up un
 zb:Z b
 zh:Z h
 zp:Z pp
 zu:Z up
 ub:up≠b
 ua:up≠a
 np:up≠pp
section
variable{b C h up bk:Addr}{T:Addr->Prop}{B B':List Ent}{m:List (P×P)}{un:dH}{d w:P}{dv nv:V}{Q:VK}{E:XK}{x:P}
def Gs.rp(g:Gs b a T Z Z' H H')(hb:Bag H b a)(zb:Z b)(r:Rp b Z H x v):Rp b Z' H' x v:=r.keep (λp o c e=>{λz=>(g.nw p z).elim c (λn=>by lia),g.st p o (λz=>c (z▸zb)) (λz=>c (g.tz p z)) e}) λp vs e=>g.st p _ (hb.neT e).1 (λz=>g.nt p vs z e) e
def Gs.rps(g:Gs b a T Z Z' H H')(hb:Bag H b a)(zb:Z b)(r:AC b Z H xs vs):AC b Z' H' xs vs:=r.keep (λp o c e=>{λz=>(g.nw p z).elim c (λn=>by lia),g.st p o (λz=>c (z▸zb)) (λz=>c (g.tz p z)) e}) λp vs e=>g.st p _ (hb.neT e).1 (λz=>g.nt p vs z e) e
def Gs.of(s:Step b a H H')(zn:∀p,Z p->H p≠none):Gs b a (λ_=>False) Z Z H H':={s.bag,λp o n _ e=>s.same p o n e,λ_ z=>z,λ_ z=>.inl z,λp z e=>zn p z (s.free e),λ_ z=>z.elim,λ_ _ z=>z.elim}
def Wv(d:Z b)(a:Z pp)(c:Z h):ZH b pp h Z=Z:=funext λp=>propext {λz=>z.elim (λe=>e▸d) λz=>z.elim (λe=>e▸a) λz=>z.elim (λe=>e▸c) id,λz=>.inr (.inr (.inr z))}
def Ho.z(x:Ho b a C Z H h pp up q B m un):ZH b pp h Z=Z:=Wv x.zb x.zp x.zh
def Ho.hb(x:Ho b a C Z H h pp up q B m un)(hb:Bag H b a):h≠b:=λe=>by let[_,_,_,_,_,hh,_]:=x.hs.ex;let[l,c]:=hb.atb;lia
def Ho.keep(x:Ho b a C Z H h pp up q B m un)(hb:Bag H b a)(g:Gs b a T Z Z' H H')(n:¬T h)(r:¬T pp)(p:¬T up):Ho b a C Z' H' h pp up q B m un:=by let s:=x.z;let c:=Wv (g.up _ x.zb) (g.up _ x.zp) (g.up _ x.zh);let d:=x.hb hb;done<;>let[[[dx,us,av,ov,uv,hh,hp,o,l,j],ne,na,kn],[f,i,e,pp2,h2,hu],zb,zh,zp,zu,ub,ua,np]:=x;rw[s]at o l j;show#[#[{dx,us,av,ov,uv,g.st h _ d n hh,g.st pp _ ne r hp,by rw[c];show g.rps hb zb o,by rw[c];show g.rp hb zb l,by rw[c];show g.rp hb zb j},ne,na,g.zn],{f,i,e,pp2,g.st h _ d n h2,g.st up _ ub p hu},g.up _ zb,g.up _ zh,g.up _ zp,g.up _ zu,ub,ua,np]
def Ho.st(x:Ho b a C Z H h pp up q B m un)(hb:Bag H b a)(s:Step b a H H'):Ho b a C Z H' h pp up q B m un:=x.keep hb (Gs.of s x.hs.kn) id id id
def Bk.keep(x:Bk b a Z H bk B)(zb:Z b)(hb:Bag H b a)(g:Gs b a T Z Z' H H')(n:¬T bk):Bk b a Z' H' bk B:=by let[[us,h1,h2],nb,na]:=x;show#[{us,g.st bk _ nb n h1,g.rps hb zb h2},nb,na]
abbrev QJ(x:P)(B':List Ent):P->Prop:=λo'=>x=Ea/\o'=A9 B'
abbrev QK(x:P)(B B':List Ent):Xn->Prop:=λnn=>x=xP nn/\B'=B/\Dy nn
def lw(hw:wd="enter"\/wd="withdraw")(y:r.length<=1000)(bk:BkV q B j)(o:G6 wd q r c B x B'):fW wd [AQ q,A9 B,.tup [.str wd,AW r,.int c]] (QJ x B') (QK x B B'):=by
 let D:=bk.B8;let w:=bk.nd;let ev:=bk.ev;let sub:=bk.sub;let G:=bk.j1;let p:¬BC q.length r=true->x=xP (.nm "BadRow")/\B'=B/\Dy (.nm "BadRow"):=λz=>by
  let l:Au q.length r c="BadRow":=by unfold Au;rw[aB z]
  done<;>let[_,h1,h2]||[h1,_]||[h1,_]:=o
  .rw[l]at h1;show{h1,h2,DU '3'}
  .rw[l]at h1;show bS h1 '3'
  .rw[l]at h1;show bS h1 '3'
 let h:BC q.length r=true->¬(1<=c/\c<=1000000000000)->x=xP (.nm "BadCount")/\B'=B/\Dy (.nm "BadCount"):=λz g=>by
  let l:Au q.length r c="BadCount":=by unfold Au;rw[aC z,aB g]
  let[_,h1,h2]||[h1,_]||[h1,_]:=o
  .rw[l]at h1;show{h1,h2,DU '3'}
  .rw[l]at h1;show bS h1 '3'
  .rw[l]at h1;show bS h1 '3'
 let d:BC q.length r=true->(1<=c/\c<=1000000000000)->Au q.length r c="done":=λz g=>by unfold Au;rw[aC z,aC g]
 let A:∀e∈B,EntOk e/\∀n∈e.2.1,n∈q:=λe a=>{(ev e a).ok G,sub e a};let 0||0:=hw
 .show{q,B,"enter",r,c,0,D,w,y,Aa (λz=>Aa (λg=>#[A,?_]) (h z)) p};done<;>let[h1,_]||[_,h1,_]||[_,_,h1,h2]:=o
  .show bS (d z g) h1
  .show bS h1 '3'
  .show#[h1,?_];rw[h2];show aT A9 (cF λe a=>?_);unfold WA EF DE;rw[Wm (ev e a).tal g.1,aB '3',show(1-2*0)*c=c by simp_all]
 .show{q,B,"withdraw",r,c,0,D,w,y,Aa (λz=>Aa (λg=>{A,λI=>?_,λi e a H s=>?_}) (h z)) p}
  .done<;>let[h1,_]||[_,_,i,e,a,_,s,_]||[_,ns,h1,h2]:=o
   .show bS (d z g) h1
   .show bS (by unfold Di;unfold DT at s;lia) (I e (aM a))
   .show#[h1,?_];rw[h2];show aT A9 (cF λe a=>?_);unfold WF EF DE;rw[show EV e.2.2 (Az q r e.2.1,c)=Bi e.2.2 (Az q r e.2.1,-c)from rfl,Wn (ev e a).tal (ns rfl e a),aC rfl,show(1-2*1)*c=-c by simp_all]
  .let[h1,_]||[_,_,i2,C,m,v,u,h1,h2]||[_,ns,_]:=o
   .show bS (d z g) h1
   .let tr:∀f,Di q r c f↔DT q r c f:=λf=>by unfold Di DT;lia
    let E:i=i2:=by
     let z||z||z:=Nat.lt_trichotomy i i2
     .show bS ((tr e).mp s) (v i e z a)
     .show z
     .show bS ((tr C).mpr u) (H i2 C z m)
    subst E;rw[a]at m;cases m;show#[h1,h2,.inr #[_,0]]
   .show bS (by unfold DT;unfold Di at s;lia) (ns rfl e (aM a))
def lx{n}(hw:wd="mark"\/wd="strike")(D:r.length<=1000)(bk:BkV q B j)(o:Eb wd n r c B x B'):fW wd [AQ q,A9 B,.tup [.str wd,.str n,AW r,.int c]] (QJ x B') (QK x B B'):=by
 let J:=bk.B8;let l:=bk.nd;let ev:=bk.ev;let E:=bk.j1;let A:(B.map (·.1)).length<100:=by rw[aA];lia
 let no:BO (B.map (·.1)) (B.map BY) n=none->x=xP (.nm "NoRoom")/\B'=B/\Dy (.nm "NoRoom"):=λG=>by
  let[_,z]||[_,_,_,_,z]:=QH l n
  .show{(o.no z).1,(o.no z).2,DU '3'}
  .rw[G]at z;cases z
 let y:∀{i}{e:Ent},B[i]?\e->e.1=n->¬BC e.2.1.length r=true->x=xP (.nm "BadRow")/\B'=B/\Dy (.nm "BadRow"):=λ{i e}a d z=>by
  let s:Au e.2.1.length r c="BadRow":=by unfold Au;rw[aB z]
  let[_,h1,h2]||[h1,_]||[h1,_]:=o.at l a d
  .rw[s]at h1;show{h1,h2,DU '3'}
  .rw[s]at h1;show bS h1 '3'
  .rw[s]at h1;show bS h1 '3'
 let p:∀{i}{e:Ent},B[i]?\e->e.1=n->BC e.2.1.length r=true->¬(1<=c/\c<=1000000000000)->x=xP (.nm "BadCount")/\B'=B/\Dy (.nm "BadCount"):=λ{i e}a d z m=>by
  let s:Au e.2.1.length r c="BadCount":=by unfold Au;rw[aC z,aB m]
  let[_,h1,h2]||[h1,_]||[h1,_]:=o.at l a d
  .rw[s]at h1;show{h1,h2,DU '3'}
  .rw[s]at h1;show bS h1 '3'
  .rw[s]at h1;show bS h1 '3'
 let g:∀{i:Nat}{e},B[i]?\e->e.1=n->BC e.2.1.length r=true->(1<=c/\c<=1000000000000)->Au e.2.1.length r c="done":=λ{i e}a d z m=>by unfold Au;rw[aC z,aC m]
 let 0||0:=hw
 .show{AQ q,_,_,"mark",n,r,c,0,A,D,no,λz w=>?_};done<;>let[f,_]||[i,e,a,d,f]:=QH l n
  .rw[w]at f;cases f
  rw[w]at f;cases f;let v:=ev e (aM a);show{e.2.1,e.2.2,0,Aa (λz=>Aa (λm=>{Nat.lt_of_le_of_lt v.len E,v.tal.rows,?_}) (p a d z)) (y a d)};done<;>let[h1,_]||[_,h1,_]||[_,_,h1,h2]:=o.at l a d
  .show bS (g a d z m) h1
  .show bS h1 '3'
  .show#[h1,?_];rw[h2,Wm v.tal m.1,<-d,Wr l a];unfold F8;rw[aB '3',show(1-2*0)*c=c by simp_all]
 .show{AQ q,_,_,"strike",n,r,c,0,A,D,no,λz w=>?_};done<;>let[f,_]||[i,e,a,d,f]:=QH l n
  .rw[w]at f;cases f
  rw[w]at f;cases f;let v:=ev e (aM a);let C:Dw e.2.2 [(r,c)]=if(Ag e.2.2 r).getD 0-c<0 then .inl r else .inr (Bi e.2.2 (r,-c)):=rfl
  show{e.2.1,e.2.2,0,Aa (λz=>Aa (λm=>{Nat.lt_of_le_of_lt v.len E,v.tal.nd,v.tal.rows,λH h=>?_,λI h=>?_}) (p a d z)) (y a d)}
  .rw[C]at h;by_cases u:(Ag e.2.2 r).getD 0-c<0
   .rw[aC u]at h;cases h
   rw[aB u]at h;cases h;done<;>let[h1,_]||[_,_,h1,_]||[_,_,h1,h2]:=o.at l a d
   .show bS (g a d z m) h1
   .show bS h1 ⋯
   .show#[h1,?_];rw[h2,Wn v.tal (by simp_all),<-d,Wr l a];unfold F8;rw[aC rfl,show(1-2*1)*c=-c by simp_all]
  .rw[C]at h;by_cases u:(Ag e.2.2 r).getD 0-c<0
   .rw[aC u]at h;cases h;done<;>let[h1,_]||[_,_,_,h1,h2]||[_,h1,_]:=o.at l a d
    .show bS (g a d z m) h1
    .show#[h1,h2,.inr #[_,0]]
    .show bS {0,⋯} h1
   .rw[aB u]at h;cases h
def ly(o:Out q B d x B')(bk:BkV q B j):∃wd qF,d=.tup (.str wd::qF)/\fW wd [AQ q,A9 B,d] (QJ x B') (QK x B B'):=by
 rcases o with⟨n,qI,t,rfl,l,rfl,rfl⟩|⟨n,rfl,o⟩|⟨wd,r,c,f,rfl,m,o⟩|⟨wd,n,r,c,f,rfl,m,o⟩
 .show#["start",_,0,q,_,_,n,qI,t,0,l,by rw[aA];show bk.B8,λz=>{0,aB z,?_},λz=>{by rw[z];rfl,?_}]
  .let[e,_]||[_,e]:=MF (t:=t)
   .show bS e z
   .show e
  .rw[aC z];let[_,h1,_]||[e,_]:=MF (t:=t)
   .show li (e:=(n,qI,t)) h1
   .show bS z e
 .let i:(B.map λe=>(e.1,BY e)).map (·.1)=B.map (·.1):=by rw[bZ];rfl
  let s:(B.map λe=>(e.1,BY e)).map (·.2)=B.map BY:=by rw[bZ];rfl
  let p:EW (B.map λe=>(e.1,BY e)) n=(B.filter λe=>decide (e.1≠n)).map λe=>(e.1,BY e):=by unfold EW;rw[filter_map];rfl
  show{"shut",_,0,AQ q,B.map λe=>(e.1,BY e),n,by rw[i,s],by rw[aA];show bk.B8,by rw[i];show bk.nd,λz=>?_,λz=>?_}
  .let z:=λe a=>z (e.1,BY e) (bU.mpr #[e,a,0]);let[h1,_,h2]||[_,h,_]:=o
   .show{h1,h2,DU '3'}
   .let[e,a,g]:=bU.mp h;show bS g (z e a)
  .rw[i]at z;let[_,h,_]||[h1,_,h2]:=o
   .let[e,a,g]:=bU.mp z;show bS g (h e a)
   .show#[h1,?_];rw[p,bZ,bZ,h2];rfl
 .show{wd,_,0,lw f ⋯ bk o}
 .show{wd,_,0,lx f ⋯ bk o}
def erase_at(nd:(B.map (·.1)).Nodup)(a:B[i]?\e):B.eraseIdx i=B.filter λx=>decide (x.1≠e.1):=by induction B generalizing i with|nil=>cases a|cons x B c=>rw[map_cons,bC]at nd;cases i with|zero=>cases a;rw[filter_cons_of_neg '2'];show(filter_eq_self.mpr λy d=>aK (show y.1≠e.1 fromλz=>nd.1 (by rw[<-z];show bU.mpr #[y,d,0]))).symm|succ i=>let a:=a;rw[filter_cons_of_pos (p:=λ(x:Ent)=>decide (x.1≠e.1)) (aK (λz=>nd.1 (by rw[z];show bU.mpr {e,aM a,0}))),<-c nd.2 a];rfl
def Ww(X:Ho b a C Z H h pp up q B m un)(hb:Bag H b a)(N:m.length<1000)(G:Rp b (λp=>p=b) H d dv)(ρ:EZ d)(bv:BkV q B j)(o:Out q B d w B')(c:∀v H1 A up1 r f,Ho b a C A H1 h pp up1 q B' r f->Gs b a (λp=>p=h\/p=pp) Z A H H1->((w=Ea/\r=m++[(d,A9 B)]/\f=[])\/(w≠Ea/\r=m/\f=un))->(H up1=none\/up1=up)->Rp b (λp=>p=b) H1 w v->Q v H1):spMark C [.ref h,dv] H Q E:=by
 let σ:=ρ.deed;done<;>(let[wd,qF,0,T]:=ly o bv;let[dx,us,av,ov,uv,O,y,_]:=X.hs.ex);let nt:∀p vs,(p=h\/p=pp)->H p≠some (.tup vs):=λp vs z e=>by lia
 let u:∀p,(p=h\/p=pp)->Z p:=λp z=>z.elim (λe=>e▸X.zh) λe=>e▸X.zp;show{b,a,h,pp,Z,q,A9 B,m,wd,qF,dv,_,_,0,hb,X.hs,N,σ,G,T,λI z=>z.2.2,λo' H1 l v L ds i D x rv=>?_,λI H1 v M s rv=>?_}
 .let[0,0]:=L;let X1:Ho b a C _ H1 h pp l q B' _ []:={x,D,.inl X.zb,.inl X.zh,.inl X.zp,.inr rfl,hb.nb i,hb.na i,Ne.symm (Ak y i)};show c v H1 _ l _ _ X1 {ds.1,λp o n t e=>ds.2 p o n (λz=>t (.inl z)) (λz=>t (.inr z)) e,λ_ z=>.inl z,λp z=>z.elim .inl λz=>.inr (z▸i),x.kn,u,nt} (.inl #[0,0,0]) (.inl i) rv
 .let[0,0,J]:=M;let g:=Gs.of s X.hs.kn;show c v H1 Z up m un (X.st hb s) {g.bag,λp o n _ e=>s.same p o n e,g.up,g.nw,g.zn,u,nt} (.inr #[J.ne.1,0,0]) (.inr rfl) rv
def MG(bs:Nat->List Ent)(X:Ho b a C Z H h pp up q B m un)(hb:Bag H b a)(g:un.length<1000)(u:m.length<1000)(D:∀e∈m,EZ e.1)(A:m=[]->Q (.str "none") H)(f:∀c d v H' t,m=c++[(d,A9 (bs c.length))]->Ho b a C Z H' h pp up q (bs c.length) c (un++[t])->Gs b a (λp=>p=h\/p=pp\/p=up) Z Z H H'->Rp b (λp=>H p≠none) H' d v->Q v H')(ch:∀c e,m=c++[e]->e.2=A9 (bs c.length)):spTurn K mg C [.ref h,.str "back"] H Q E:=by
 let[dx,us,J,I,G,x,s,_]:=X.hs.ex;let i:∃l,H up\(.lst l):=(by let[_,_,_,_,_,h2]:=X.ud;show#[_,h2]);show .back b a h pp Z q _ m up un rfl hb X.hs X.ud X.zu #[X.ub,X.ua,X.np] g u (λe y=>(D e y).deed) A λc d o' v H' t e bs j r rv=>?_;obtain rfl:o'=A9 _:=ch c (d,o') e;show f c d v H' t e #[j,r,X.zb,X.zh,X.zp,X.zu,X.ub,X.ua,X.np] {bs.1,λp o n t e=>bs.2 p o n (λz=>t (.inl z)) (λz=>t (.inr (.inl z))) (λz=>t (.inr (.inr z))) e,λ_ z=>z,λ_ z=>.inl z,j.kn,λp z=>z.elim (λe=>e▸X.zh) λz=>z.elim (λe=>e▸X.zp) λe=>e▸X.zu,λp vs z e=>?_} rv;let 0||0||0:=z
 .rw[x]at e;cases e
 .rw[s]at e;cases e
 .let[l,w]:=i;rw[w]at e;cases e
def l6(hb:Bag H b a)(h:Z b)(M:∀p,Z p->H p≠none)(N:Z bk)(W:Bk b a Z H bk B)(σ:Rp b Z H d dv)(rq:Rp b Z H (AQ q) nv)(I:BkV q B j)(o:Out q B d x B')(f:∀v H1,Gs b a (λp=>p=bk) Z Z H H1->Bk b a Z H1 bk B'->Rp b (λp=>p=b) H1 x v->Q v H1):MD [nv,.ref bk,dv] H Q E:=by
 let T:∃us,H bk\(.lst us):=(by let[us,h1,_]:=W.ex;show#[us,h1]);let ρ:∀{H1},Bx b a bk H H1->H1 bk≠none->Gs b a (λp=>p=bk) Z Z H H1:=λ{H1}s hx=>by
  show{s.1,s.2,λ_ z=>z,λ_ z=>.inl z,λp z e=>?_,λp z=>z▸N,λp vs z e=>?_}
  .by_cases e1:p=b
   .let[l,D]:=s.1.atb;rw[e1,D]at e;cases e
   by_cases L:p=bk
   .show hx (L▸e)
   cases e3:H p with|none=>show M p z e3|some o=>rw[s.2 p o e1 L e3]at e;cases e
  .let[us,D]:=T;rw[z,D]at e;cases e
 let G:∀{H1},Step b a H H1->Gs b a (λp=>p=bk) Z Z H H1:=λ{H1}s=>ρ {s.bag,λp o n _ e=>s.same p o n e} λe=>by let[us,D]:=T;let:=s.free e;rw[D]at this;cases this
 let nk:∀{H1 B1},Bk b a Z H1 bk B1->H1 bk≠none:=λ{H1 B1}y e=>by let[us,D,_]:=y.ex;rw[D]at e;cases e
 let B8:=I.B8;let nd:=I.nd;done<;>rcases o with⟨n,qI,t,rfl,so,rfl,rfl⟩|⟨n,rfl,o⟩|⟨wd,r,c,hw,rfl,hr,o⟩|⟨wd,n,r,c,hw,rfl,hr,o⟩
 .show .inl {b,a,Z,bk,q,B,n,qI,t,dv,nv,0,hb,h,M,N,rq,W,σ,so,B8,λne H1 s t1 ht=>?_,λe H1 s bs t1 ht=>?_}
  .rw[aB ne]at f;let C:=s.trans (Step.new s.bag ht (o:=.tup [.str (C3 q (B.map (·.1)) n qI t),.non]));show f _ _ (G C) (W.st h hb C) #[t1,_,0,AJ,_,_,0,0,_,_,0,0,0]
  .rw[aC e,e]at f;let C:=Step.new s.1 ht (o:=.tup [.str "done",.non]);show f _ _ (ρ {C.bag,λp o n n2 e=>C.same p o n (s.2 p o n n2 e)} (nk (bs.st h s.1 C))) (bs.st h s.1 C) #[t1,_,0,AJ,_,_,0,0,_,_,0,0,0]
 .show .inr (.inr {b,a,Z,bk,B,"shut",n,[],dv,nv,0,hb,h,M,N,W,σ,.inl rfl,B8,λz H1 v s rv=>?_,λi e g w _ H1 v s bs rv=>?_,λz=>bS rfl z})
  .let[0,_,0]||[_,z2,_]:=o
   .show f v H1 (G s) (W.st h hb s) rv
   .let[e,g,w]:=bU.mp z2;show bS w (z e g)
  .let[_,z2,_]||[0,_,0]:=o
   .show bS w (z2 e (aM g))
   .rw[erase_at nd g,w]at bs;show f v H1 (ρ s (nk bs)) bs rv
 .show .inr (.inl {b,a,Z,bk,q,B,wd,r,c,dv,nv,0,hb,h,M,N,W,rq,σ,hw,B8,λe g=>{(I.ev e g).ok I.j1,I.sub e g},⋯,λm H1 v s rv=>?_,λm O i e g fn J H1 v s rv=>?_,λm fn H1 v s bs rv=>?_})
  .done<;>let[_,0,0]||[h1,_]||[h1,_]:=o
   .show f v H1 (G s) (W.st h hb s) rv
   .show bS h1 m
   .show bS h1 m
  .let[h1,_]||[_,_,i2,L,u,a0,A,0,0]||[_,ns,_]:=o
   .show bS m h1
   .let ii:i=i2:=by
     let z||z||z:=Nat.lt_trichotomy i i2
     .show bS J (a0 i e z g)
     .show z
     .show bS A (fn i2 L z u)
    subst ii;rw[g]at u;cases u;show f v H1 (G s) (W.st h hb s) rv
   .show bS J (ns O e (aM g))
  .let[h1,_]||[_,O,i2,L,u,_,A,_]||[_,_,0,0]:=o
   .show bS m h1
   .show bS A (fn O L (aM u))
   .show f v H1 (ρ s (nk bs)) bs rv
 .show .inr (.inr #[b,a,Z,bk,B,wd,n,[AW r,.int c],dv,nv,0,hb,h,M,N,W,σ,.inr hw,B8,λz H1 v s rv=>?_,λ_ _ _ _ z=>by subst z;let z||z:=hw<;>show bS z '3',λ_=>#[r,c,0,⋯,λi e g w=>{(I.ev e (aM g)).ok I.j1,λm H1 v s rv=>?_,λm O J H1 v s rv=>?_,λm J H1 v s bs rv=>?_}]])
  .let[0,0]:=o.no z;show f v H1 (G s) (W.st h hb s) rv
  .done<;>let[_,0,0]||[h1,_]||[h1,_]:=o.at nd g w
   .show f v H1 (G s) (W.st h hb s) rv
   .show bS h1 m
   .show bS h1 m
  .let[h1,_]||[_,_,_,0,0]||[_,h1,_]:=o.at nd g w
   .show bS m h1
   .show f v H1 (G s) (W.st h hb s) rv
   .show bS #[O,J] h1
  .let[h1,_]||[_,h1,h2,_]||[_,_,0,0]:=o.at nd g w
   .show bS m h1
   .show bS #[h1,h2] J
   .show f v H1 (ρ s (nk bs)) bs rv
end
end
section
variable{K:Fg}
def II(G:BG P' w K mg base x j ps sp)(d:mg x\(.ref a))(g:j<=k):Oe P' w K mg base k a sp:=by let[f,fd,F,c,e,hb]:=G;rw[d]at c;cases c;show{fd,ps,F.mono g,e,hb}
def l7(s:OR l)(nd:l.Nodup):l.Pairwise (λa b=>a.cps.toList<b.cps.toList):=(pairwise_and_iff.mpr #[s,nd]).imp λ{a b}h=>by
  by_cases z:a.cps.toList<b.cps.toList
  .show z
  .show bS (fc h.1 z) h.2
def l9(l:q.length<=6)(h:∀x∈q,F1 x)(f:q.Pairwise (λa b=>a.cps.toList<b.cps.toList)):DC q=true:=by
 unfold DC;rw[aK l,Bool.true_and,cB,all_eq_true,all_eq_true];show{λx d=>?_,λp g=>?_}
 .let[o,n,m]:=h x d;unfold Dg;rw[aK o,aK n];show all_eq_true.mpr λc j=>?_;let[h1,h2]:=m c j;rw[aK h1,aK h2];rfl
 .let[i,hi,e]:=getElem_of_mem g;rw[getElem_zip,getElem_drop]at e;rw[<-e];rw[length_zip,length_drop]at hi;show aK (pairwise_iff_getElem.mp f i _ _ ⋯ (by simp_all))
def F6.ns{d}(h:F6 d)(n)(qI)(t):d≠EY n qI t:=by
 intro e;let[n,a]||[w,r,c,hw,a,_]||[w,n,r,c,hw,a,_]:=h
 all_goals lia
def Wx{d}(h:EZ d):d.pl 7=true/\d.pl 9=true:=by rcases h with⟨n,qI,t,rfl,_⟩|⟨n,rfl⟩|⟨w,r,c,_,rfl,_⟩|⟨w,n,r,c,_,rfl,_⟩<;>simp
def mB{B:List Ent}(g:B.length<=8)(f:k<63)(ev:∀e∈B,EntV k e):Brs (B.map (·.2.1)) (B.map (·.2.2)):={by rw[aA];show g,λr d=>by let[e,a,0]:=bU.mp d;let:=(ev e a).r6;lia,by rw[aA,aA],λi r t h1 h2=>by rw[bO]at h1 h2;let[e,a,0]:=aJ.mp h1;rw[a]at h2;cases h2;show(ev e (aM a)).tal,λt c=>by let[e,a,0]:=bU.mp c;show aY (Nat.lt_of_le_of_lt (ev e a).len f)}
def mC{m}(d:∀e∈m,EZ e.1):(ME q B m).pl 9=true:=by
 let h1:(P.lst (B.map Jp)).pl 8=true:=all_eq_true.mpr λx a=>by let[e,c,0]:=bU.mp a;simp
 let h2:=all_eq_true.mpr λx a=>by let[e,c,0]:=bU.mp a;show(Wx (d e c)).1
 let f:(Jn B).pl 8=true:=all_eq_true.mpr λx a=>by let[e,c,0]:=bU.mp a;simp
 show all_eq_true.mpr λx a=>by
  simp only[aF,bB,or_false]at a;rcases a with rfl|rfl|rfl|rfl
  .simp
  .show h1
  .show h2
  .show f
structure Chn(q:At)(m:List (P×P))(bs:Nat->List Ent):Prop where z:bs 0=[]at_:∀i e,m[i]?\e->e.2=A9 (bs i)/\EZ e.1/\Out q (bs i) e.1 Ea (bs (i+1))bv:∀i,i<=m.length->∃j,BkV q (bs i) j
def Chn.dk{m}(c:Chn q m bs):∀e∈m,EZ e.1:=λe a=>by let[i,hi,0]:=getElem_of_mem a;show(c.at_ i _ (aH hi)).2.1
def Chn.take{m}(c:Chn q m bs)(n):Chn q (m.take n) bs:={c.z,λi e h=>c.at_ i e (by rw[getElem?_take]at h;simp_all),λi h=>c.bv i (aR h (by rw[aO];show Nat.min_le_right _ _))}
def Chn.front{m}(c:Chn q (m++[e]) bs):Chn q m bs/\e.2=A9 (bs m.length):={by let:=c.take m.length;simp_all,(c.at_ m.length e '2').1}
def Chn.snoc{m}{d}(c:Chn q m bs)(hd:EZ d)(o:Out q (bs m.length) d Ea B')(bv:BkV q B' j):∃bs',bs' (m.length+1)=B'/\Chn q (m++[(d,A9 (bs m.length))]) bs':=by
 show{λi=>if i<=m.length then bs i else B',aB (by simp_all),c.z,λi e h=>?_,λi h=>?_}
 .let z||z:=cE i m.length
  .rw[getElem?_append_left z]at h;rw[aC (aY z),aC (show i+1<=m.length from z)];show c.at_ i e h
  .rw[getElem?_append_right z]at h;let a:i=m.length:=by let:=(aI.mp h).1;rw[length_singleton]at this;lia
   subst a;rw[Nat.sub_self]at h;cases h;rw[aC (aQ _),aB ⋯];show#[0,hd,o]
 .by_cases z:i<=m.length
  .rw[aC z];show c.bv i z
  .rw[aB z];show#[j,bv]
structure Qok(q:At):Prop where
 pos:0<q.length
 len:q.length<=6
 sh:∀x∈q,x.length<=8
 rb:DC q=true
structure Wo(b a C:Addr)(Z:Addr->Prop)(H:Hp)(h pp up:Addr)(q:At)(nv:V)(bs:Nat->List Ent)(m:List (P×P))(un:dH):Prop where
 bag:Bag H b a
 ho:Ho b a C Z H h pp up q (bs m.length) m un
 rq:Rp b Z H (AQ q) nv
 ch:Chn q m bs
 qo:Qok q
structure Ap(h pp up h2 pp2 up2:Addr):Prop where
 hh:h≠h2
 hp:h≠pp2
 hu:h≠up2
 ph:pp≠h2
 p2:pp≠pp2
 pu:pp≠up2
 uh:up≠h2
 u2:up≠pp2
 uu:up≠up2
def Ho.nz{b C h up}{m}(x:Ho b a C Z H h pp up q B m un):H h≠none/\H pp≠none/\H up≠none:={x.hs.kn _ x.zh,x.hs.kn _ x.zp,x.hs.kn _ x.zu}
section
variable{b C h up h2 pp2 up2:Addr}{T:Addr->Prop}{B:List Ent}{nv:V}{bs:Nat->List Ent}{m:List (P×P)}{un:dH}
def Wo.keep(x:Wo b a C Z H h pp up q nv bs m un)(g:Gs b a T Z Z' H H')(e:¬T h)(d:¬T pp)(c:¬T up):Wo b a C Z' H' h pp up q nv bs m un:={g.bag,x.ho.keep x.bag g e d c,g.rp x.bag x.ho.zb x.rq,x.ch,x.qo}
def Wo.st(x:Wo b a C Z H h pp up q nv bs m un)(s:Step b a H H'):Wo b a C Z H' h pp up q nv bs m un:=x.keep (Gs.of s x.ho.hs.kn) id id id
def Dl{x y}(h1:H x≠none)(h2:H y=none):x≠y:=λe=>h1 (e▸h2)
def Wo.brs(x:Wo b a C Z H h pp up q nv bs m un):Brs ((bs m.length).map (·.2.1)) ((bs m.length).map (·.2.2))/\((bs m.length).map (·.1)).Nodup:=by let[j,v]:=x.ch.bv _ (aQ _);show{mB v.B8 v.j1 v.ev,v.nd}
def Wy{x}(hb:Bag H b a)(r:Rp b (λp=>H p≠none) H' x v):Rp b (λp=>p=b) H' x v:=BP (λe=>by let[l,c]:=hb.atb;lia) r
def Wz{x}(a:∀p,Z p->H p≠none)(r:Rp b (λp=>H p≠none) H' x v):Rp b Z H' x v:=r.keep (λp o c e=>{λz=>c (a p z),e}) λ_ _ e=>e
end
inductive mD(C:Addr)(D:Ends)(Y:L2.St)(H:Hp):Prop|mk(b a Z h pp up bk q nv x0:_)(_:Y=[x0,some (.ref b),some nv,some (.ref h),some (.ref bk),none,none,none])(_:Wo b a C Z H h pp up q nv (λ_=>[]) [] [])(_:Bk b a Z H bk [])(_:Z bk)(_:bk≠h)(_:bk≠pp)(_:bk≠up)(_:∀H',D.rt (.bl true) H')
inductive W0(C:Addr)(n:Nat)(D:Ends)(Y:L2.St)(H:Hp):Prop|mk(b a Z h pp up q nv bs m un x0 x4 x5 x6:_)(_:Y=[x0,some (.ref b),some nv,some (.ref h),x4,x5,x6,none])(_:Wo b a C Z H h pp up q nv bs m un)(_:m.length<=16)(_:un.length<=n)(_:∀H',D.rt (.bl true) H')
inductive mE(C:Addr)(D:Ends)(Y:L2.St)(H:Hp):Prop|mk(b a Z h pp up q nv bs m un x0 x4 x5 x6 h2 pp2 up2:_)(_:Y=[x0,some (.ref b),some nv,some (.ref h),x4,x5,x6,some (.ref h2)])(_:Wo b a C Z H h pp up q nv bs m un)(_:m.length<=16)(_:un.length<=20)(_:Ho b a C Z H h2 pp2 up2 q [] [] [])(_:Ap h pp up h2 pp2 up2)(_:∀H',D.rt (.bl true) H')
inductive W1(C:Addr)(D:Ends)(Y:L2.St)(H:Hp):Prop|mk(b a Z h pp up q nv bs m un x0 x4 x5 x6 h2 pp2 up2:_)(_:Y=[x0,some (.ref b),some nv,some (.ref h),x4,x5,x6,some (.ref h2)])(_:Wo b a C Z H h pp up q nv bs m un)(_:m.length<=16)(_:un.length<=20)(_:Ho b a C Z H h2 pp2 up2 q (bs m.length) m [])(_:Ap h pp up h2 pp2 up2)(_:∀H',D.rt (.bl true) H')
inductive mF(C:Addr)(D:Ends)(Y:L2.St)(H:Hp):Prop|mk(b a Z h pp up q un x0 nv x4 x5 x6 h2 pp2 up2 un2:_)(_:Y=[x0,some (.ref b),some nv,some (.ref h),x4,x5,x6,some (.ref h2)])(_:Bag H b a)(_:Ho b a C Z H h pp up q [] [] un)(_:Ho b a C Z H h2 pp2 up2 q [] [] un2)(_:∀H',D.rt (.bl true) H')
inductive Jq1(b a C:Addr)(Z:Addr->Prop)(h pp up:Addr)(q:List Str)(nv:V)(bs:Nat->List Ent)(x0 x4 O:Option V)(i:Nat)(Y:L2.St)(H':Hp):Prop|mk(J m un:_)(_:Y=[x0,some (.ref b),some nv,some (.ref h),x4,J,O,none])(_:Wo b a C Z H' h pp up q nv bs m un)(_:m.length<=16)(_:un.length<=i)
inductive Jq2(b a C h pp up:Addr)(q:List Str)(nv:V)(bs:Nat->List Ent)(m:List (P×P))(un:dH)(x0 x4 J:Option V)(h2 pp2 L:Addr)(ys:dH)(i:Nat)(Y:L2.St)(H':Hp):Prop|mk(O Z up2:_)(_:Y=[x0,some (.ref b),some nv,some (.ref h),x4,J,O,some (.ref h2)])(_:Wo b a C Z H' h pp up q nv bs m un)(_:Ho b a C Z H' h2 pp2 up2 q (bs i) (m.take i) [])(_:Ap h pp up h2 pp2 up2)(_:H' L\(.lst ys))(_:¬Z L)(_:AC b Z H' (m.map (·.1)) ys)
inductive Jq3(b a C:Addr)(Z:Addr->Prop)(h pp up:Addr)(q:List Str)(nv:V)(bs:Nat->List Ent)(x0 x4 O:Option V)(h2 pp2 up2:Addr)(n i:Nat)(Y:L2.St)(H':Hp):Prop|mk(J mi un a1:_)(_:Y=[x0,some (.ref b),some nv,some (.ref h),x4,J,O,some (.ref h2)])(_:Wo b a C Z H' h pp up q nv bs mi un)(_:Ho b a C Z H' h2 pp2 up2 q (bs mi.length) mi a1)(_:mi.length=n-i)(_:un.length<=20+i)(_:a1.length<=20+i)
inductive Jq4(b a C h pp bk:Addr)(q:List Str)(nv:V)(x0:Option V)(i:Nat)(Y:L2.St)(H':Hp):Prop|mk(J O Z up bs m:_)(_:Y=[x0,some (.ref b),some nv,some (.ref h),some (.ref bk),J,O,none])(_:Wo b a C Z H' h pp up q nv bs m [])(_:Bk b a Z H' bk (bs m.length))(_:Z bk)(_:bk≠up)(_:m.length<=i)(_:BkV q (bs m.length) (40+i))
def mG{C f}(F:Fun K "law" "law" Gv f fd)(T:TxtB mg)(TH:TxtH K mg C D w)(yG:'E' "_law_bag" 1 ϣ (Vj K))(qM:'E' "_law_pull" 1 ϊ (spP Dh))(yH:'E' "_law_questions" 4 Ϝ (spP V1))(Gi:Bj P' w K mg base C "__init__" 3 Ϲ (spInit C))(yI:'E' "_law_deed" 5 ϐ (spP WZ))(Gm:'E' "_law_mark" 6 Ϸ (spMark C))(bm:'E' "_law_due" 4 ϋ MD)(Gt:'E' "_law_turned" 3 ϴ (spTurn K mg C))(Gl:'E' "_law_look" 8 ["_law_house"] (Wi C))(Gd:Bj P' w K mg base C "deeds" 2 ϖ (P3 C))(Gr:Bj P' w K mg base C "rooms" 1 ϖ (P2 C)):FnOk P' w K mg base EJ 9 f fd ϣ (Lz K):=by
 show F.ok PR (λvs H Q E h=>?_) (λbu A outer s H vs Q E u h=>?_)
 .done<;>let[a,ns,0,_]:=h;rfl
 .let nd:=PR.nd;show{_,AY (Aw (i:=1) PR.nd rfl (Or.inl rfl) (Bv yG (u.mq) (by rfl) (AG (pv 0) AS)))<|AY (Aw (i:=2) nd rfl (Or.inl rfl) (DQ (Ac (λ_=>yH) (λ_=>u.mq) (AB (qv 1) AH))))<|AY (Aw (i:=3) nd rfl (Or.inl rfl) (VC TH.cl Gi Dv (u.mq) (by rfl) (AG (pv 2) AS)))<|AY (Aw (i:=4) nd rfl (Or.inl rfl) (DG AS))<|BS.weak (m:=mD C) (AY (Dz PassesOwn.never rfl (Fa rfl T.b_range (AG (DQ (Al 'I' An (B9 (AB AK (AB AK (AB AK (AB AK AH))))) (Ac (λ_=>qM) (λ_=>u.mq) (AB (qv 1) (AB AK AH))) dG)) AS)) (Ae (i:=5) nd rfl (Or.inl rfl))<|AY (Aw (i:=6) nd rfl (Or.inl rfl) (DQ (Ac (λ_=>yI) (λ_=>u.mq) (AB (qv 1) (AB (qv 2) (AB (qv 4) AH))))))<|Ad (BH (C5 (Cm u) (Bv Gm (u.mq) (by rfl) (AG (pv 3) (AG (pv 6) AS))) (Bv bm (u.mq) (by rfl) (AG (pv 2) (AG (pv 4) (AG (pv 6) AS)))) (Ah _)) GA BQ))<|BS.weak (m:=W0 C 0) (AY (Dz PassesOwn.never rfl (Fa rfl T.b_range (AG (DQ (Ac (λ_=>qM) (λ_=>u.mq) (AB (qv 1) (AB AK AH)))) AS)) (Ae (i:=5) nd rfl (Or.inl rfl))<|Ad (Dn (Bv Gt (u.mq) (by rfl) (AG (pv 3) (AG A0 AS)))))<|BS.weak (m:=W0 C 20) (AY (Aw (i:=7) nd rfl (Or.inl rfl) (VC TH.cl Gi Dv (u.mq) (by rfl) (AG (pv 2) AS)))<|BS.weak (m:=mE C) (AY (Dz PassesOwn.never rfl (HA (Fw Gd TH.cl.cl Dv (u.mq) (pv 3))) (Ae (i:=6) nd rfl (Or.inl rfl))<|Ad (BH (C5 (Cm u) (Bv Gm (u.mq) (by rfl) (AG (pv 7) (AG (pv 6) AS))) (B0 (AG A0 (AG Eg AS))) (Ah _)) GA BQ))<|BS.weak (m:=W1 C) (AY (BH (C5 (Cm u) (Bv Gt (u.mq) (by rfl) (AG (pv 7) (AG A0 AS))) A0 (Ah _)) GA BQ)<|BS.weak (m:=W1 C) (AY (Dz PassesOwn.never rfl (Fa rfl T.b_range (AG (B4 C4 (Fd KF (by rfl) T.b_len nofun (AG (Fw Gd TH.cl.cl Dv (u.mq) (pv 3)) AS)) Ar) AS)) (Ae (i:=5) nd rfl (Or.inl rfl))<|AY (BH (C5 (Cm u) (Bv Gl (u.mq) (by rfl) (AG (pv 7) AS)) (Bv Gl (u.mq) (by rfl) (AG (pv 3) AS)) (Ah _)) GA BQ)<|Ad (BH (C5 (Cm u) (Bv Gt (u.mq) (by rfl) (AG (pv 7) (AG A0 AS))) (Bv Gt (u.mq) (by rfl) (AG (pv 3) (AG A0 AS))) (Ah _)) GA BQ))<|BS.weak (m:=mF C) (Ad (Ay (QV (MU (Bo u) (Fw Gd TH.cl.cl Dv (u.mq) (pv 3)) (DG AS) (Ah _)) (QU (MU (Bo u) (Fw Gr TH.cl.cl Dv (u.mq) (pv 7)) (DG AS) (Ah _)))))) ?e) ?d2) ?d) ?c) ?b2) ?b) ?a,?_}
  case e=>rintro D Y H iq;done<;>(let[b,a,Z,h,pp,up,q,un,x0,nv,x4,J,O,h2,pp2,up2,a1,0,hb,X,σ,k]:=iq;let[dx,us,av,ov,uv,hh,hp,_]:=X.hs.ex;let[dy,bp,aw,ow,uw,bd,bt,_,_,ro]:=id σ.hs.ex);show#[_,0,h,dx,_,0,hh,0,b,a,h,pp,Z,q,A9 [],[],0,hb,X.hs,(λ_ h=>nomatch h),'3',λL ys H1 s1 nL hL ry=>{(by decide:0<=sizeLine),λl2 al=>?_}];done<;>obtain rfl:ys=[]:=ry;let s2:Step b a H1 (AA H1 l2 (.lst [])):=Step.new s1.bag al;let af:=hb.nb nL;show Fy Bp (K:=λz _=>z=.bl (AU (.lst []) (.lst []))) s2.bag (show Rp b (λp=>p=b) _ (.lst []) (.ref L)from{L,[],0,af,s2.same L _ af hL,0}) (show Rp b (λp=>p=b) _ (.lst []) (.ref l2)from{l2,[],0,s1.bag.nb al,AJ,0}) #[#[0,0],0] λz f v' H3 ρ G rz=>?_;subst ρ;done<;>(obtain rfl:v'=.bl _:=rz;let S:=(s1.trans s2).trans G;let b3:=σ.hb hb;let[po,os,0,zo,ho,lo,az]:=ro;obtain rfl:os=[]:=az);let am:=S.same h2 _ b3 bd;let b8:=S.same po _ (λe=>zo (.inl e)) ho;show#[_,0,?_];rw[aC (show AU (.lst []) (.lst [])=true from rfl)];show#[_,0,h2,dy,_,0,am,0,h2,dy,_,.ref po,0,am,0,po,_,0,b8,λl hl=>{(by decide:0<=sizeLine),λl3 ak=>?_}];let s4:Step b a H3 (AA H3 l (.lst [])):=Step.new S.bag hl;let s5:Step b a (AA H3 l (.lst [])) (AA (AA H3 l (.lst [])) l3 (.lst [])):=Step.new s4.bag ak;show Fy Bp (K:=λz _=>z=.bl (AU (.lst []) (.lst []))) s5.bag (show Rp b (λp=>p=b) _ (.lst []) (.ref l)from{l,[],0,S.bag.nb hl,s5.same l _ (S.bag.nb hl) AJ,0}) (show Rp b (λp=>p=b) _ (.lst []) (.ref l3)from{l3,[],0,s4.bag.nb ak,AJ,0}) #[#[0,0],0] λz f v' H4 ρ s6 rz=>?_;subst ρ;done<;>obtain rfl:v'=.bl _:=rz;show k H4
  case d=>rintro D Y H iq;done<;>let[b,a,Z,h,pp,up,q,nv,bs,m,un,x0,x4,J,O,h2,pp2,up2,0,W,hm,M,σ,A,k]:=iq;show{_,0,.again h2 up2 rfl σ.ud ?_};unfold tC;show Fy Cg (K:=λz _=>z=.bl (!AU (.str "none") (.str "none"))) W.bag (show Rp b (λp=>p=b) H (.str "none") _ from rfl) (show Rp b (λp=>p=b) H (.str "none") _ from rfl) #[#[0,0],0] λz f v' H1 ρ s1 rz=>?_;subst ρ;done<;>obtain rfl:v'=.bl _:=rz;rw[Fq 9 rfl];show#[_,0,Bl {b,a,Z,h,pp,up,q,nv,bs,m,un,x0,x4,J,O,h2,pp2,up2,0,W.st s1,hm,M,σ.st W.bag s1,A,k}]
  case b2=>
   rintro D Y H iq;done<;>let[b,a,Z,h,pp,up,q,nv,bs,m,un,x0,x4,J,O,0,W,hm,M,k]:=iq;show{_,0,λh2 dx nx ae ac=>?_};let zn:=W.ho.hs.kn;let zb:=W.ho.zb;let sd:Step b a H (AA H dx (.own h2)):=Step.new W.bag ae;let aa:AA H dx (.own h2) h2=none:=by rw[AE (Ne.symm ac)];show nx
   let G:=sd.trans (Step.new sd.bag aa (o:=.ins C dx []));show{b,a,Z,h2,dx,q,nv,0,G.bag,λp z e=>zn p z (G.free e),BP zb (Aq zb W.bag G W.rq),λe=>?_,W.qo.len,W.qo.sh,W.qo.rb,AJ,λpp2 H4 a6 b4 f4 l nl ab ul a8=>?_}
   .let:=W.qo.pos;rw[e]at this;show bS this '3'
   let g:Gs b a (λ_=>False) Z (λp=>Z p\/p=h2\/p=pp2\/p=l) H H4:={b4,λp o n _ e=>f4 p o n (Ak e nx) (G.same p o n e),λ_ z=>.inl z,λp z=>z.imp id λz=>by done<;>let 0||0||0:=z;show nx;show G.free a6;show G.free nl,a8.kn,λ_ z=>z.elim,λ_ _ z=>z.elim};done<;>let[z1,z2,z3]:=W.ho.nz;show{0,b,a,_,h,pp,up,q,nv,bs,m,un,x0,x4,J,O,h2,pp2,l,0,W.keep g id id id,hm,M,{a8,ul,.inl zb,.inr (.inl rfl),.inr (.inr (.inl rfl)),.inr (.inr (.inr rfl)),G.bag.nb nl,G.bag.na nl,Ne.symm ab},{Dl z1 nx,Dl z1 (G.free a6),Dl z1 (G.free nl),Dl z2 nx,Dl z2 (G.free a6),Dl z2 (G.free nl),Dl z3 nx,Dl z3 (G.free a6),Dl z3 (G.free nl)},k}
  case b=>
   rintro D Y H iq;done<;>let[b,a,Z,h,pp,up,q,nv,bs,m,un,x0,x4,J,O,0,W,hm,M,k]:=iq;show{b,a,[.emp,.sh .bag,.emp,.emp,.emp,.emp,.emp,.emp],λx _=>∃n:Nat,x=.int n/\n<=3,W.bag,BR (CD rfl (Dk [some nv,some (.ref h),x4,J,O,none])),#[4,0,'3','3',λr r0 r1=>{r.toNat,by rw[Int.toNat_of_nonneg r0],⋯}],λx fl vl H7 hx s7 rx _=>?_};done<;>(let[N,0,hN]:=hx;obtain rfl:vl=.int _:=rx);show{_,0,⋯,⋯,HD (Jq1 b a C Z h pp up q nv bs x0 x4 O) {_,m,un,0,W.st s7,hm,M} (λi Y H8 hi hI=>?_) (λY H8 hI=>?_)}
   .done<;>let[J,m,un,0,W,hm,M]:=hI;rw[Int.toNat_natCast]at hi;show{_,0,MG (E:=E0) bs W.ho W.bag ⋯ ⋯ W.ch.dk (λe=>{_,m,un,0,W,hm,⋯}) (λm' d v H9 t e X g rv=>?_) (λm' e he=>?_)}
    .let c:=W.ch;subst e;show{_,m',_,0,{g.bag,X,g.rp W.bag W.ho.zb W.rq,c.front.1,W.qo},by rw[aG,length_singleton]at hm;lia,by rw[aG,length_singleton];lia}
    .let c:=W.ch;subst he;show c.front.2
   .done<;>let[J,m,un,0,W,hm,M]:=hI;rw[Int.toNat_natCast]at M;show{b,a,Z,h,pp,up,q,nv,bs,m,un,x0,x4,J,O,0,W,hm,⋯,k}
  case c=>
   rintro D Y H iq;done<;>(let[b,a,Z,h,pp,up,q,nv,bs,m,un,x0,x4,J,O,h2,pp2,up2,0,W,hm,M,σ,A,k]:=iq;let[dx,us,av,ov,uv,hh,hp,_]:=W.ho.hs.ex);show{_,0,h,dx,_,0,hh,0,b,a,h,pp,Z,q,A9 (bs m.length),m,0,W.bag,W.ho.hs,(λe he=>(W.ch.dk e he).deed),⋯,λL ys H1 s1 nL hL ry=>?_};let zn:=W.ho.hs.kn;let ry:AC b Z H1 (m.map (·.1)) ys:=ry.keep (λp o ρ e=>{λz=>ρ (.inl (zn p z)),e}) λ_ _ e=>e;let yl:ys.length=m.length:=by let:=ry.length;rw[aA]at this;show this.symm
   let af:=W.bag.nb nL;show{L,0,{ys,.of hL},MQ (xs:=ys) (Jq2 b a C h pp up q nv bs m un x0 x4 J h2 pp2 L ys) {_,Z,up2,0,W.st s1,by rw[W.ch.z];show σ.st W.bag s1,A,hL,λz=>zn L z nL,ry} (λi Y H2 hi I=>?_) (λi x Y H2 hx I=>?_) (λY H2 I=>?_)}
   .done<;>let[_,_,_,_,_,_,_,hL,_]:=I;show .of hL
   .done<;>(let[O,Z,up2,0,W,σ,A,hL,nZ,ry]:=I;let[d',an,rd]:=ry.getV hx);rw[bO]at an;done<;>(let[e,he,0]:=aJ.mp an;let[e2,hd,o]:=W.ch.at_ i e he;let im:i<m.length:=(aI.mp he).1;let[j,bv]:=W.ch.bv i (aY im));show#[_,0,_,0,Ww (E:=E0) σ W.bag (by rw[aO];lia) (BP σ.zb rd) hd bv o λv1 H3 Z1 up3 m3 bq Y3 g3 bb b6 r3=>{(by decide:2<=sizeLine),λt ht=>?_}];done<;>let[_,0,0]||[z,_]:=bb
    rotate_left
    .show bS rfl z
    let s4:Step b a H3 (AA H3 t (.tup [.str "done",.non])):=Step.new g3.bag ht;show Fy Cg (K:=λz _=>z=.bl (!AU Ea Ea)) s4.bag (Aq (Z:=λp=>p=b) rfl g3.bag s4 r3) (show Rp b (λp=>p=b) _ Ea (.ref t)from#[t,_,0,AJ,_,_,0,0,_,_,0,0,0]) #[#[0,0],0] λz f v' H5 ρ s5 rz=>?_;subst ρ;done<;>obtain rfl:v'=.bl _:=rz;rw[Fq 9 rfl];let S:=s4.trans s5;let nT:∀{p},p≠h2->p≠pp2->¬(p=h2\/p=pp2):=λa b z=>z.elim a b;let W3:=(W.keep g3 (nT A.hh A.hp) (nT A.ph A.p2) (nT A.uh A.u2)).st S;let et:m.take i++[(e.1,A9 (bs i))]=m.take (i+1):=by rw[take_succ,he,<-e2];rfl
    let Y5:=Y3.st g3.bag S;rw[et]at Y5;let L3:H3 L\(.lst ys):=g3.st L _ (λz=>nZ (z▸σ.zb)) (λz=>nZ (g3.tz L z)) hL;done<;>let[z1,z2,z3]:=W.ho.nz;let au:∀{p},H2 p≠none->p≠up2->p≠up3:=λh1 h2=>b6.elim (λz=>Dl h1 z) λz=>z▸h2;show#[_,0,Bl {_,Z1,up3,0,W3,Y5,{A.hh,A.hp,au z1 A.hu,A.ph,A.p2,au z2 A.pu,A.uh,A.u2,au z3 A.uu},S.same L _ (λz=>nZ (z▸σ.zb)) L3,λz=>(g3.nw L z).elim nZ (λz=>by rw[z]at hL;cases hL),CJ W3.ho.zb g3.bag S (g3.rps W.bag σ.zb ry)}]
   .done<;>let[O,Z,up2,0,W,σ,A,_]:=I;rw[yl,take_length]at σ;show#[b,a,Z,h,pp,up,q,nv,bs,m,un,x0,x4,J,O,h2,pp2,up2,0,W,hm,M,σ,A,k]
  case d2=>
   rintro D Y H iq;done<;>(let[b,a,Z,h,pp,up,q,nv,bs,m,un,x0,x4,J,O,h2,pp2,up2,0,W,hm,M,σ,A,k]:=iq;let[dx,us,av,ov,uv,hh,hp,_]:=W.ho.hs.ex);show{_,0,h,dx,_,0,hh,0,b,a,h,pp,Z,q,A9 (bs m.length),m,0,W.bag,W.ho.hs,(λe he=>(W.ch.dk e he).deed),⋯,λL ys H1 s1 nL hL ry=>?_};let yl:ys.length=m.length:=by let:=ry.length;rw[aA]at this;show this.symm
   let mm:∀{x:Nat},(x:Int)+1=((x+1:Nat):Int):=λ{x}=>(by simp_all);show#[L,ys,0,hL,_,_,0,0,?_];show{_,0,⋯,⋯,HD (Jq3 b a C Z h pp up q nv bs x0 x4 O h2 pp2 up2 m.length) {_,m,un,[],0,W.st s1,σ.st W.bag s1,0,M,cD _} (λi Y H2 hi I=>?_) (λY H2 I=>?_)}
   rotate_left
   .done<;>(let[J,mi,un,a1,0,W,σ,ml,_]:=I;obtain rfl:mi=[]:=length_eq_zero_iff.mp (by simp_all));let X:=W.ho;let e:bs ([]:List (P×P)).length=[]:=W.ch.z;rw[e]at X σ;show#[b,a,Z,h,pp,up,q,un,x0,nv,x4,J,O,h2,pp2,up2,a1,0,W.bag,X,σ,k]
   done<;>let[J,mi,un,a1,0,W,σ,ml,l1,l2]:=I;let hi:i<=m.length:=⋯;let brs:=W.brs;show{_,0,b,a,h2,pp2,Z,q,bs mi.length,mi,0,W.bag,σ.hs,brs.1,brs.2,(λe he=>(W.ch.dk e he).deed),⋯,λv1 H3 G r1=>?_};let W3:=W.st G;show{_,0,b,a,h,pp,Z,q,bs mi.length,mi,0,W3.bag,W3.ho.hs,brs.1,brs.2,(λe he=>(W.ch.dk e he).deed),⋯,λv2 H4 s4 r2=>?_};let pl:=mC (q:=q) (B:=bs mi.length) W.ch.dk;show Fy Cg (K:=λz _=>z=.bl (!AU (ME q (bs mi.length) mi) (ME q (bs mi.length) mi))) s4.bag (Aq (Z:=λp=>p=b) rfl G.bag s4 (Wy W.bag r1)) (Wy W3.bag r2) #[#[pl,pl],0] λz f v' H5 ρ s5 rz=>?_;subst ρ;done<;>obtain rfl:v'=.bl _:=rz;rw[Fq 9 pl];show{_,0,Bl ?_};let S:=(G.trans s4).trans s5;let W5:=W.st S;let Y5:=σ.st W.bag S;let ch:∀m' e,mi=m'++[e]->e.2=A9 (bs m'.length):=λm' e he=>by let c:=W.ch;subst he;show c.front.2
   show{_,0,MG (E:=E0) bs Y5 W5.bag ⋯ ⋯ W.ch.dk (λe=>?_) (λm' d v H6 t e Y6 g6 rv=>?_) ch}
   .show{_,0,MG (E:=E0) bs W5.ho W5.bag ⋯ ⋯ W.ch.dk (λ_=>?_) (λm' d v H6 t e2 _ _ _=>by rw[e]at e2;show bS e2 '2') ch};show Fy Cg (K:=λz _=>z=.bl (!AU (.str "none") (.str "none"))) W5.bag (show Rp b (λp=>p=b) H5 (.str "none") _ from rfl) (show Rp b (λp=>p=b) H5 (.str "none") _ from rfl) #[#[0,0],0] λz f v' H6 ρ s6 rz=>?_;subst ρ;done<;>obtain rfl:v'=.bl _:=rz;rw[Fq 9 rfl];show#[_,0,Bl {_,mi,un,a1,0,W5.st s6,Y5.st W5.bag s6,by rw[e]at ml⊢;simp only[length_nil]at ml⊢;lia,⋯,⋯}]
   .let nT:∀{p},p≠h2->p≠pp2->p≠up2->¬(p=h2\/p=pp2\/p=up2):=λa b c z=>z.elim a λz=>z.elim b c;let W6:=W5.keep g6 (nT A.hh A.hp A.hu) (nT A.ph A.p2 A.pu) (nT A.uh A.u2 A.uu);let c:=W.ch;let dd:=W.ch.dk;subst e;show{_,0,MG (E:=E0) bs W6.ho W6.bag ⋯ ⋯ dd (λe=>bS e '2') (λbr d' v' H7 t' e X7 g7 ax=>?_) ch};done<;>(let[0,e]:=append_inj' e rfl;obtain rfl:d=d':=by injection e with e;show aT Prod.fst e)
    let hd:=(dd _ (cC _ (bI.mpr rfl)));let pl:=(Wx hd).2;let zn:=W5.ho.hs.kn;let Y7:=Y6.keep g6.bag g7 (λz=>z.elim (Ne.symm A.hh) λz=>z.elim (Ne.symm A.ph) (Ne.symm A.uh)) (λz=>z.elim (Ne.symm A.hp) λz=>z.elim (Ne.symm A.p2) (Ne.symm A.u2)) (λz=>z.elim (Ne.symm A.hu) λz=>z.elim (Ne.symm A.pu) (Ne.symm A.uu));show Fy Cg (K:=λz _=>z=.bl (!AU d d)) g7.bag (BP Y6.zb (g7.rp g6.bag Y6.zb (Wz zn rv))) (BP Y6.zb (Wz W6.ho.hs.kn ax)) #[#[pl,pl],0] λz f v' H8 ρ s8 rz=>?_;subst ρ;done<;>obtain rfl:v'=.bl _:=rz;rw[Fq 9 pl];rw[aG,length_singleton]at ml;show#[_,0,Bl {_,m',_,_,0,({g7.bag,X7,g7.rp g6.bag Y6.zb W6.rq,c.front.1,W.qo}:Wo b a C Z H7 h pp up q nv bs m' _).st s8,Y7.st g7.bag s8,⋯,by rw[aG,length_singleton];lia,by rw[aG,length_singleton];lia}]
  case a=>
   rintro D Y H iq;done<;>let[b,ba,Z,h,pp,up,bk,q,nv,x0,0,W,BK,zk,n1,n2,n3,aj]:=iq;show{b,ba,[.emp,.sh .bag,.emp,.emp,.emp,.emp,.emp,.emp],λx _=>∃n:Nat,x=.int n/\n<=16,W.bag,BR (CD rfl (Dk [some nv,some (.ref h),some (.ref bk),none,none,none])),{0,4,0,'3','3',λr r0 r1=>?_},λx fl vl H7 hx s7 rx _=>?_}
   .let u:r=0\/r=1\/r=2\/r=3:=⋯;done<;>rcases u with rfl|rfl|rfl|rfl
    .show#[_,0,8,0,'3']
    .show#[_,0,12,0,'3']
    .show#[_,0,4,0,'3']
    .show#[_,0,16,0,'3']
   done<;>(let[N,0,hN]:=hx;obtain rfl:vl=.int _:=rx);show{_,0,⋯,⋯,HD (Jq4 b ba C h pp bk q nv x0) #[_,_,Z,up,_,[],0,W.st s7,BK.st W.ho.zb W.bag s7,zk,n3,aQ _,{cD _,nodup_nil,(λ_ h=>nomatch h),(λ_ h=>nomatch h),(λ_ h=>nomatch h),aQ _,'3'}] (λi Y H8 hi hI=>?_) (λY H8 hI=>?_)}
   rotate_left
   .done<;>let[J,O,Z,up,bs,m,0,W,BK,zk,n3,ml,bv]:=hI;rw[Int.toNat_natCast]at ml;show{b,ba,Z,h,pp,up,q,nv,bs,m,[],x0,_,J,O,0,W,⋯,aQ _,aj}
   done<;>let[J,O,Z,up,bs,m,0,W,BK,zk,n3,ml,bv]:=hI;rw[Int.toNat_natCast]at hi;let zb:=W.ho.zb;let zn:=W.ho.hs.kn;show{b,ba,[.emp,.sh .bag,.sh (AQ q),.emp,.sh (DS (bs m.length)),.emp,.emp,.emp],λx f=>f=.nw/\MB (40+i) x,W.bag,BR (CD rfl (CD (BP zb W.rq) (BR (CD (BK.rp zb) (Dk [some (.int (0+(i:Int))),O,none]))))),#[q,bs m.length,40+i,0,W.qo.pos,W.qo.len,W.qo.sh,bv.stk,bv.sub,λd hd=>#[0,hd]],λd fl dv H9 hx s9 _ as=>?_};done<;>let[0,hv]:=hx;let ah:Rp b Z H9 d dv:=(as (.inl rfl)).keep (λp o ρ e=>{λz=>ρ (zn p z),e}) λ_ _ e=>e;let W9:=W.st s9;let bo:=BK.st zb W.bag s9;let hd:=hv.dk;let be:∀n qI t,d=EY n qI t->t.length<=40+i+1:=λn' b0 t' e=>by
    done<;>let[n,qI,t,0,_,tl]||hw:=hv
    .let e3:Ab t=Ab t':=by injection e with e;injection e with _ e;injection e with _ e;injection e with _ e;injection e
     let:(t.map A5).length=(t'.map A5).length:=by injection e3 with e3;rw[e3]
     rw[aA,aA]at this;lia
    .show bS e (hw.ns _ _ _)
   done<;>(let[x,B',o]:=lv q (bs m.length) hd;let[oi,op]:=o.imm);show{_,0,_,0,Ww (E:=E0) W9.ho W9.bag ⋯ (BP zb ah) hd bv o λv1 bj Z1 up1 m1 ar a4 a0 bc b7 r1=>?_};let nh:¬(bk=h\/bk=pp):=λz=>z.elim n1 n2;let ai:=a0.rp W9.bag zb ah;let a9:=a0.rp W9.bag zb W9.rq;let aq:=Bk.keep bo zb W9.bag a0 nh;let ag:=a0.up _ zk;show#[_,0,_,0,_,0,?_];change MD [nv,.ref bk,dv] bj (λy H2=>Ni v1 y H2 _) E0;show l6 a0.bag a4.zb a4.hs.kn ag aq ai a9 bv o λv2 bx a3 ap r2=>?_;show Fy Cg (K:=λz _=>z=.bl (!AU x x)) a3.bag ((a3.rp a0.bag a4.zb (r1.imm oi)).imm oi) r2 #[#[op,op],0] λz f v' bw ρ a7 rz=>?_;subst ρ;done<;>obtain rfl:v'=.bl _:=rz;rw[Fq 9 op];let bh:H9 bk≠none:=W9.ho.hs.kn bk zk;let nu:bk≠up1:=b7.elim (λz=>Dl bh z) λz=>z▸n3;let bi:=(a4.keep a0.bag a3 (Ne.symm n1) (Ne.symm n2) (Ne.symm nu)).st a3.bag a7;let ao:=o.ok bv be (by change 40+i+1<63;lia);done<;>obtain⟨a5,bf,bg,rfl,l1⟩:∃a5,a5 m1.length=B'/\Chn q m1 a5/\ar=[]/\m1.length<=i+1:=by
    done<;>let[0,0,0]||[ne,0,0]:=bc
    .done<;>let[a5,h1,h2]:=W.ch.snoc hd o ao;show{a5,by rw[aG,length_singleton];show h1,h2,0,by rw[aG,length_singleton];lia}
    .done<;>let z||[_,_,_,0]:=o.sort
     .show bS z ne
     .show{bs,0,W.ch,0,⋯}
   subst bf;show#[_,0,Bl {_,_,Z1,up1,a5,m1,0,{a7.bag,bi,Aq a4.zb a3.bag a7 (a3.rp a0.bag a4.zb a9),bg,W.qo},ap.st a4.zb a3.bag a7,ag,nu,l1,ao}]
  done<;>let[a,ns,0,hS,k]:=h;show{_,0,a,ns,0,hS,λb ba H1 nb na B s1=>?_};show{b,ba,[.emp,.sh .bag,.emp,.emp,.emp,.emp,.emp,.emp],λx _=>∃q,x=AQ q/\Nms q/\∀x∈q,F1 x,B,BR (CD rfl (Dk [none,none,none,none,none,none])),#[0,λq h1 h6 b9 hg hs=>{q,0,{h1,h6,b9,fe hs},hg}],λx fl nv H2 hx s2 rx _=>?_};done<;>let[q,0,nq,gq]:=hx;let qo:Qok q:={nq.pos,nq.len,λx hx=>(gq x hx).2.1,l9 nq.len gq (l7 nq.srt nq.nd)};show{_,0,λh dx nx ae ac=>?_};let b2:=s2.bag;let sd:Step b ba H2 (AA H2 dx (.own h)):=Step.new b2 ae;let aa:AA H2 dx (.own h) h=none:=by rw[AE (Ne.symm ac)];show nx
  let G:=sd.trans (Step.new sd.bag aa (o:=.ins C dx []));let bn:∀{H':Hp},Bag H' b ba->H' b≠none:=λhb e=>by done<;>let[l,hl]:=hb.atb;rw[hl]at e;cases e
  show#[b,ba,λp=>p=b,h,dx,q,nv,0,G.bag,λp z e=>bn G.bag (z▸e),Aq (Z:=λp=>p=b) rfl b2 G rx,λe=>?_,qo.len,qo.sh,qo.rb,AJ,λpp H4 a6 b4 f4 l nl ab ul a8=>{0,(by decide:0<=sizeLine),λbk a2=>?_}]
  .let:=qo.pos;rw[e]at this;show bS this '3'
  let X4:Ho b ba C (λp=>p=b\/p=h\/p=pp\/p=l) H4 h pp l q [] [] []:={a8,ul,.inl rfl,.inr (.inl rfl),.inr (.inr (.inl rfl)),.inr (.inr (.inr rfl)),G.bag.nb nl,G.bag.na nl,Ne.symm ab};let s5:Step b ba H4 (AA H4 bk (.lst [])):=Step.new b4 a2;done<;>let[z1,z2,z3]:=X4.nz;let b5:=X4.hs.kn;let g:Gs b ba (λ_=>False) (λp=>p=b\/p=h\/p=pp\/p=l) (λp=>(p=b\/p=h\/p=pp\/p=l)\/p=bk) H4 (AA H4 bk (.lst [])):={s5.bag,λp o n _ e=>s5.same p o n e,λ_ z=>.inl z,λp z=>z.imp id (λz=>by rw[z];show a2),λp z e=>z.elim (λz=>b5 p z (s5.free e)) (λz=>by rw[z,AJ]at e;cases e),λ_ z=>z.elim,λ_ _ z=>z.elim};let ay:Rp b (λp=>p=b\/p=h\/p=pp\/p=l) H4 (AQ q) nv:=by
   done<;>let[pn,vs,0,hn,rn]:=Aq (Z:=λp=>p=b) rfl b2 G rx;let b1:pn≠h:=λe=>by rw[e,AJ]at hn;cases hn
   show{pn,vs,0,f4 pn _ (G.bag.neT hn).1 b1 hn,by rw[AC.strs]at rn⊢;show rn}
  show{b,ba,_,h,pp,l,bk,q,nv,_,0,{s5.bag,X4.keep b4 g id id id,g.rp b4 (.inl rfl) ay,#[0,λi e h=>by simp at h,λi _=>{40,cD _,nodup_nil,(λ_ h=>nomatch h),(λ_ h=>nomatch h),(λ_ h=>nomatch h),aQ _,'3'}],qo},#[{[],AJ,0},b4.nb a2,b4.na a2],.inr rfl,Ne.symm (Dl z1 a2),Ne.symm (Dl z2 a2),Ne.symm (Dl z3 a2),k}
end
abbrev AF(K:Fg)(n:Str)(st:Stmt):Prop:=∃(a:Addr)(od an:Ge)(sl:Array Do)(oc kV dc pm cd ct:Value),PySem.W.nsIn K mainGlobals n\(some (.ref a))/\K.lookup a\{oc,od,.func (PySem.W.fnOf n n (Ct st) (CH st) (AN st) .none kV dc pm an cd ct),sl}/\PySem.W.codeIn K cd n=true/\PySem.W.keepIn K (.ref a)=true
abbrev Bt(K:Fg)(n:Str):Prop:=PySem.W.nsIn K mainGlobals n\none
def AF.of{K:Fg}{n}{st}{sl:Array Do}{kV e}(h1:PySem.W.nsIn K mainGlobals n\(some (.ref a)))(h2:K.lookup a\{oc,od,.func (PySem.W.fnOf n n (Ct st) (CH st) (AN st) .none kV e pm an cd ct),sl})(d:PySem.W.codeIn K cd n=true)(c:PySem.W.keepIn K (.ref a)=true):AF K n st:=#[_,_,_,_,_,_,_,_,_,_,h1,h2,d,c]
def AF.at{K}{n}{st}(p:AF K n st)(X:K.In h)(G:h.Ns mainGlobals mg):As K mg n st:=by let[_,_,_,_,_,_,_,_,_,_,h1,h2,c,a]:=p;show{_,_,Mt h2 c a,dE X G h1}
abbrev AI(K:Fg)(n:Str)(v:Int):Prop:=∃t,PySem.W.nsIn K mainGlobals n\(some (.int v t))
def AI.of{K:Fg}{n}{v}(h:PySem.W.nsIn K mainGlobals n\(some (.int v t))):AI K n v:=#[t,h]
def AI.at{K}{n}{v}(p:AI K n v)(X:K.In h)(G:h.Ns mainGlobals mg):∃t,mg n\(.int v t):=by let[t,q]:=p;show{t,dE X G q}
abbrev AX(K:Fg)(n:Str):Prop:=∃c,PySem.W.nsIn K mainGlobals n\(some (.ref c))/\PySem.W.excIn K c vE "ValueError.__new__"=true
def AX.of{K:Fg}{n}{c}(h:PySem.W.nsIn K mainGlobals n\(some (.ref c)))(q:PySem.W.excIn K c vE "ValueError.__new__"=true):AX K n:=#[c,h,q]
def AX.at{K}{n}(p:AX K n)(X:K.In h)(G:h.Ns mainGlobals mg):∃C,XCls K mg n C:=by let[c,q,r]:=p;show{c,dE X G q,r}
abbrev AO(K:Fg)(a b:Str):Prop:=∃c d,PySem.W.nsIn K mainGlobals a\(some (.ref c))/\PySem.W.nsIn K mainGlobals b\(some (.ref d))/\mroIn K c d=false
def AO.of{K:Fg}{a b}{c}(h:PySem.W.nsIn K mainGlobals a\(some (.ref c)))(g:PySem.W.nsIn K mainGlobals b\(some (.ref d)))(q:mroIn K c d=false):AO K a b:=#[c,d,h,g,q]
def IJ(K:Fg)(x:Str):At->Prop|[]=>True|y::r=>AO K y x/\IJ K x r
def Jq(K:Fg):At->Prop|[]=>True|x::r=>IJ K x r/\Jq K r
theorem IJ.at{K}(X:K.In h)(G:h.Ns mainGlobals mg):∀{l},IJ K x l->∀y∈l,OX K mg y x|y::r,⟨⟨c,d,h,g,q⟩,t⟩,z,a=>by cases a with|head=>showλC D e f=>by rw[dE X G h]at e;rw[dE X G g]at f;simp_all|tail _ a=>show IJ.at X G t z a
theorem Jq.at{K}(X:K.In h)(G:h.Ns mainGlobals mg):∀{l},Jq K l->P4 K mg l|[],_=>True.intro|x::r,⟨h,t⟩=>{IJ.at X G h,Jq.at X G t}
abbrev AM(K:Fg)(C:Addr)(n q:Str)(st:Stmt):Prop:=∃(a:Addr)(od an:Ge)(sl:Array Do)(oc kV dc pm cd ct:Value),PySem.W.findIn K (.ref C) n\(some (.ref a))/\K.lookup a\{oc,od,.func (PySem.W.fnOf n q (Ct st) (CH st) (AN st) .none kV dc pm an cd ct),sl}/\PySem.W.codeIn K cd q=true/\PySem.W.keepIn K (.ref a)=true/\PySem.W.isFn K (.ref a)=true
def AM.of{K:Fg}{n q}{st}{sl:Array Do}{kV f}(h1:PySem.W.findIn K (.ref C) n\(some (.ref a)))(h2:K.lookup a\{oc,od,.func (PySem.W.fnOf n q (Ct st) (CH st) (AN st) .none kV f pm an cd ct),sl})(e:PySem.W.codeIn K cd q=true)(d:PySem.W.keepIn K (.ref a)=true)(c:PySem.W.isFn K (.ref a)=true):AM K C n q st:=#[_,_,_,_,_,_,_,_,_,_,h1,h2,e,d,c]
def AM.at{K}{n q}{st}(p:AM K C n q st):ED K C n q st:=by let[_,_,_,_,_,_,_,_,_,_,h1,h2,d,a,c]:=p;show#[_,_,Mt h2 d a,#[h1,c,a]]
abbrev AD(K:Fg)(D:Addr)(k n:Str):Prop:=∃a,PySem.W.nsIn K D k\(some (.ref a))/\PySem.W.nsIn K mainGlobals n\(some (.ref a))
def AD.of{K:Fg}{k n}(h:PySem.W.nsIn K D k\(some (.ref a)))(g:PySem.W.nsIn K mainGlobals n\(some (.ref a))):AD K D k n:=#[a,h,g]
def all_mk{l:PySem.W.OpenLaw}{K:Fg}(X:K.In h)(G:h.Ns mainGlobals mg)(hfa:mg "law"\(.ref fa)){odi_TooFew ani_TooFew:Ge}{sli_TooFew:Array Do}(y0:AF K "is_name" LN)(y1:AF K "rises" ID)(y2:AF K "is_room" LO)(y3:AF K "is_row" LP)(y4:AF K "within" LQ)(y5:AF K "common" LR)(y6:AF K "is_tally" JY)(y7:AF K "summed" LV)(y8:AF K "plus" Om)(y9:AF K "less" Oo)(ya:AF K "shared" LX)(yb:AF K "bar" LY)(yc:AF K "bars" Op)(yd:AF K "check_papers" Oq)(ye:AF K "check_open" Os)(yf:AF K "found_room" Ot)(yg:AF K "with_room" Ou)(yh:AF K "places" LS)(yi:AF K "picked" LU)(yj:AF K "share" Ol)(yk:AF K "started" LZ)(yl:AF K "shut" La)(ym:AF K "entered" Ov)(yn:AF K "withdrawn" Ox)(yo:AF K "marked" Oy)(yp:AF K "stricken" Oz)(yq:AF K "own_deed" O0)(yr:AF K "open_rooms" Lb)(ys:AF K "open_tallies" Ld)(yt:AF K "named_bars" Lf)(yu:AF K "_law_bag" O1)(yv:AF K "_law_pull" O2)(yw:AF K "_law_word" Lh)(yx:AF K "_law_names" O3)(yy:AF K "_law_questions" O4)(yz:AF K "_law_part" Li)(y10:AF K "_law_answers" Lj)(y11:AF K "_law_many" O5)(y12:AF K "_law_settled" Lk)(y13:AF K "_law_drawn" O6)(y14:AF K "_law_in" Lm)(y15:AF K "_law_row_of" Ln)(y16:AF K "_law_portion" O7)(y17:AF K "_law_fresh_name" O8)(y18:AF K "_law_start" PB)(y19:AF K "_law_row" PD)(y1a:AF K "_law_count" PF)(y1b:AF K "_law_deed" PH)(y1c:AF K "_law_due_start" Jf)(y1d:AF K "_law_looked" Lq)(y1e:AF K "_law_short" PL)(y1f:AF K "_law_changed" PM)(y1g:AF K "_law_due_papers" PN)(y1h:AF K "_law_due" Lr)(y1i:AF K "_law_mark" PJ)(y1j:AF K "_law_turned" PQ)(y1k:AF K "_law_look" Ls)(y1l:AF K "law" Gv)(y1m:Bt K "len")(y1n:Bt K "list")(y1o:Bt K "range")(y1p:Bt K "isinstance")(y1q:Bt K "bool")(y1r:Bt K "int")(y1s:Bt K "tuple")(y1t:Bt K "all")(y1u:Bt K "any")(y1v:Bt K "sorted")(y1w:Bt K "set")(y1x:Bt K "sum")(y1y:Bt K "dict")(y1z:Bt K "zip")(y20:Bt K "min")(y21:Bt K "max")(y22:Bt K "str")(y23:AI K "MOST_LETTERS" 8)(y24:AI K "MOST_QUESTIONS" 6)(y25:AI K "HIGHEST_ANSWER" 9)(y26:AI K "MOST_ROOMS" 8)(y27:AI K "MOST_COUNT" 1000000000000)(y28:PySem.W.nsIn K mainGlobals "TooFew"\(some (.ref c_TooFew)))(y29:PySem.W.findIn K (.ref c_TooFew) "__init__"\(some (.ref f_TooFew)))(y2a:K.lookup f_TooFew\{oci_TooFew,odi_TooFew,.func (PySem.W.fnOf "__init__" "TooFew.__init__" (Ct Lv) (CH Lv) (AN Lv) .none kVi_TooFew dci_TooFew pmi_TooFew ani_TooFew cdi_TooFew cti_TooFew),sli_TooFew})(y2b:PySem.W.codeIn K cdi_TooFew "TooFew.__init__"=true)(y2c:JR K c_TooFew "ValueError.__new__" f_TooFew=true)(y2d:PySem.W.isFn K (.ref f_TooFew)=true)(y2e:(PySem.W.clsIn K c_TooFew).any (λcd=>Gj cd.mro)=true)(y2f:PySem.W.hasDictIn K c_TooFew=true)(y2g:PySem.W.findIn K (.ref c_TooFew) "__setattr__"\(some (.builtin "object.__setattr__")))(y2h:PySem.W.findIn K (.ref c_TooFew) "__getattribute__"\(some (.builtin "BaseException.__getattribute__")))(y2i:PySem.W.findIn K (.ref c_TooFew) "__getattr__"\none)(y2j:PySem.W.findIn K (.ref c_TooFew) "row"\none)(y2k:AX K "BadName")(y2l:AX K "BadRoom")(y2m:AX K "BadRow")(y2n:AX K "BadTally")(y2o:AX K "BadCount")(y2p:AX K "NoRoom")(y2q:AX K "Taken")(y2r:AX K "Full")(y2s:AX K "NoBack")(y2t:PySem.W.nsIn K mainGlobals "House"\(some (.ref c_House)))(y2u:Cls K c_House)(y2v:PySem.W.makesIn K c_House=true)(y2w:PySem.W.keepIn K (.ref c_House)=true)(y2x:DV K c_House "asked")(y2y:DV K c_House "opened")(y2z:DV K c_House "past")(y30:DV K c_House "undone")(y31:AM K c_House "__init__" "House.__init__" PU)(y32:AM K c_House "do" "House.do" PV)(y33:AM K c_House "back" "House.back" PX)(y34:AM K c_House "again" "House.again" PY)(y35:AM K c_House "deeds" "House.deeds" Lu)(y36:AM K c_House "questions" "House.questions" PZ)(y37:AM K c_House "rooms" "House.rooms" Pa)(y38:AM K c_House "room" "House.room" Pb)(y39:AM K c_House "tally" "House.tally" Pc)(y3a:AM K c_House "bars" "House.bars" Pd)(y3b:PySem.W.nsIn K mainGlobals "DEEDS"\(some (.ref a_DEEDS)))(y3c:K.lookup a_DEEDS\{.type "dict",none,.dict es_DEEDS n_DEEDS,#[]})(y3d:PySem.W.KeysLit w.params es_DEEDS.toList)(y3e:AD K a_DEEDS "start" "started")(y3f:AD K a_DEEDS "shut" "shut")(y3g:AD K a_DEEDS "enter" "entered")(y3h:AD K a_DEEDS "withdraw" "withdrawn")(y3i:AD K a_DEEDS "mark" "marked")(y3j:AD K a_DEEDS "strike" "stricken")(y3k:Jq K WU):∃fd:FuncData,(∀(s:Shared)(v:Value),BindsTo s fd {[v],[]} [("_law_script",v)])/\∀base:Heap,K.In base->base.Ns mainGlobals mg->FnOk l.prog w K mg base EJ 9 fa fd ϣ (Lz K):=by
 done<;>let[aff,odf,anf,slf,ocf,kVf,dcf,pmf,cdf,ctf,h1f,h2f,h3f,h4f]:=y1l;let z0:∃C,XClsV K mg "TooFew" "row" C:={c_TooFew,dE X G y28,#[y2e,y2f,y2g,y2h,y2i,y2j],f_TooFew,_,"row",y2c,y2d,.all (λus hl=>Bz hl dG),λP w base CX=>f6 y2a y2b i7 rfl '3' '3'};let z1:=y2k.at X G;let z2:=y2l.at X G;let z3:=y2m.at X G;let z4:=y2n.at X G;let z5:=y2o.at X G;let z6:=y2p.at X G;let z7:=y2q.at X G;let z8:=y2r.at X G;let z9:=y2s.at X G;let C_House:ClassAt K mg "House" c_House:={dE X G y2t,y2u,y2v,y2w};let T_DEEDS:mg "DEEDS"\(.ref a_DEEDS):=dE X G y3b;let e:=hfa.symm.trans (dE X G h1f);cases e;let T:TxtB mg:={b_len:=cV X G y1m,b_list:=cV X G y1n,b_range:=cV X G y1o,b_isinstance:=cV X G y1p,b_bool:=cV X G y1q,b_int:=cV X G y1r,b_tuple:=cV X G y1s,b_all:=cV X G y1t,b_any:=cV X G y1u,b_sorted:=cV X G y1v,b_set:=cV X G y1w,b_sum:=cV X G y1x,b_dict:=cV X G y1y,b_zip:=cV X G y1z,b_min:=cV X G y20,b_max:=cV X G y21};let Tx:Txt mg:={T with g_HIGHEST_ANSWER:=y25.at X G};let TN:TxtN mg:={Tx with b_str:=cV X G y22,g_MOST_LETTERS:=y23.at X G,g_MOST_QUESTIONS:=y24.at X G};let TC:TxtC K mg:={T with g_MOST_COUNT:=y27.at X G,g_MOST_ROOMS:=y26.at X G,x_BadName:=z1,x_BadRoom:=z2,x_BadRow:=z3,x_BadTally:=z4,x_BadCount:=z5,x_NoRoom:=z6,x_Taken:=z7,x_Full:=z8};let TU:TxtU K mg:=#[z9];let TF:TxtF K mg:={T with x_TooFew:=z0};let TH:TxtH K mg c_House a_DEEDS w:=#[C_House,y2x,y2y,y2z,y30,T_DEEDS,#[_,_,y3c,y3d]];let TX:XsAt K mg z1.choose z2.choose z3.choose z4.choose z5.choose z6.choose z7.choose z8.choose z0.choose:={z1.choose_spec,z2.choose_spec,z3.choose_spec,z4.choose_spec,z5.choose_spec,z6.choose_spec,z7.choose_spec,z8.choose_spec,z0.choose_spec,y3k.at X G};show{PySem.W.fnOf "law" "law" (Ct Gv) (CH Gv) (AN Gv) .none kVf dcf pmf anf cdf ctf,λs v=>.of_eq rfl,λbase _ _=>?_};let za:=jD (P:=l.prog) (w:=w) (base:=base) (yv.at X G) T;let zb:=jL za;let zc:=jM (jK (yx.at X G) T za (jF (yw.at X G) T za));let zd:=jQ (P':=l.prog) (w:=w) (base:=base) (y12.at X G) T;let ze:=jN (y10.at X G) T zb;let zf:=jU (y13.at X G) T zb ze (jP (y11.at X G) T zb) zd;let zg:=jX (P':=l.prog) (w:=w) (base:=base) (y15.at X G) T;let zh:=jd (y16.at X G) T zg zd;let zi:=jn (P':=l.prog) (w:=w) (base:=base) (y0.at X G) TN;let zj:=jp (y2.at X G) TN zi (jo (y1.at X G) T);let zk:=jV (P':=l.prog) (w:=w) (base:=base) (y3.at X G) Tx;let zl:=jm (y6.at X G) T zk (jl (y1.at X G) T);let zm:=j7 (P':=l.prog) (w:=w) (base:=base) (ye.at X G) TC;let zn:=j8 (yf.at X G) zm;let zo:=jW (P':=l.prog) (w:=w) (base:=base) (y4.at X G) T;let zp:=j9 (P':=l.prog) (w:=w) (base:=base) (yg.at X G) T;let zq:=ja (P':=l.prog) (w:=w) (base:=base) (y7.at X G) T;let zr:=je (y8.at X G) T zq;let zs:=jk (y9.at X G) TF zq;let zt:=j5 (yd.at X G) TC zk;let zu:=kK (yh.at X G) T zo;let zv:=kL (P':=l.prog) (w:=w) (base:=base) (yi.at X G) T;let zw:=kM (yj.at X G) T zu zv;let zx:=kU (yb.at X G) T (kS (y5.at X G) T) (kT (ya.at X G) T zu zv zq);let zy:=kD (yk.at X G) TC zi zj zo zl zp;let zz:=kG (yl.at X G) TC zm;let zA:=kP (ym.at X G) TC zt zr zw;let zB:=kQ (yn.at X G) TC zt zs zw;let zC:=kI (yo.at X G) TC zn zt zr zp;let zD:=kJ (yp.at X G) TC zn zt zs zp;let zE:=kr (ko (P':=l.prog) (w:=w) (base:=base) (yq.at X G) T);let zF:=lB y32.at T TH zE (λwd hw=>by
  rcases hw with rfl|rfl|rfl|rfl|rfl|rfl
  .show let⟨_,hk1,hk2⟩:=y3f;{_,hk1,II zz (dE X G hk2) '3'}
  .show let⟨_,hk1,hk2⟩:=y3e;{_,hk1,II zy (dE X G hk2) '3'}
  .show let⟨_,hk1,hk2⟩:=y3g;{_,hk1,II zA (dE X G hk2) '3'}
  .show let⟨_,hk1,hk2⟩:=y3h;{_,hk1,II zB (dE X G hk2) '3'}
  .show let⟨_,hk1,hk2⟩:=y3i;{_,hk1,II zC (dE X G hk2) '3'}
  .show let⟨_,hk1,hk2⟩:=y3j;{_,hk1,II zD (dE X G hk2) '3'})
 let zG:=j4 (P':=l.prog) (w:=w) (base:=base) (y14.at X G) T;let zH:=jq (P':=l.prog) (w:=w) (base:=base) (y1d.at X G) T;let zI:=jr (P':=l.prog) (w:=w) (base:=base) (y1e.at X G) T;let zJ:=jt (y1f.at X G) T zd;let zK:=lW (y1h.at X G) T (lN (y1c.at X G) T zi zj zG zl) (lR (y1g.at X G) T zH zI zJ zg) zH zI zJ;let zL:=lE y38.at TH zn;let zM:=lF y39.at T TH zn;let zN:=lG (P':=l.prog) (base:=base) y37.at T TH;let Gb:=lc y3a.at TH (km (yt.at X G) T (kc (yc.at X G) T zx) (ke (yr.at X G)) (kf (ys.at X G)));let Gd:=lH y35.at TH zE;let Gl:=lg (y1k.at X G) TH (lC (P':=l.prog) (base:=base) y36.at TH) zN (WT zL) (WT zM) Gd Gb;let Gt:=lb (y1j.at X G) TU TH (lY y33.at TU TH zE) (lZ y34.at TU TH);let zO:=lP (y18.at X G) T zb (jz (yz.at X G) T zb) zf zG zh (lM (y17.at X G) T zb);let zP:=lV (y1b.at X G) T zb ze zO (ju (y19.at X G) T zb ze) (jv (y1a.at X G) T zb);show mG (Mt (st:=Gv) h2f h3f h4f) T TH (i8 (yu.at X G) T) zb (jw (yy.at X G) T zb zc) (lI y31.at T TH zj) zP (lK (y1i.at X G) TH TX zF) zK Gt Gl Gd zN
def walk{l:PySem.W.OpenLaw}{q}{loose:At}{XP:(Str->Do)->Heap->Prop}{d}{K:Params->Fg}(hn:l.most\63)(hdf:d.params.defaults=[])(hY:∀(w)(h),YP w h->(K w.params).In h)(F:∀(w)(mg:Str->Do)(fa)(h),(K w.params).In h->h.Ns mainGlobals mg->mg d.name\(.ref fa)->∃fd,(∀(s)(u),BindsTo s fd {[u],[]} [("_law_script",u)])/\∀base,(K w.params).In base->base.Ns mainGlobals mg->FnOk l.prog w (K w.params) mg base EJ 9 fa fd ϣ (Lz (K w.params))):PySem.W.WalkO q loose XP YP l.row.toRowW d [] (λf vs=>PySem.call f vs):=L2.dU hn '3' hdf #[0,'3','3'] hY F (λ_ _ a ns hl _ hS=>{a,ns,0,hS,λ_=>rfl}) λ_ _ _ _ _ z=>z
end K
structure PySem.W.Fast:Prop where(tw10033340833403417460 tw10033379410245295487 tw10040939655694697067 tw10042578687206805800 tw10044460901067058637 tw10076961179915662244 tw10101280984192037778 tw10128449777372076695 tw10150139109173549839 tw10165977770439941822 tw10169587432118554255 tw102280036688307461 tw10241877141222641788 tw10326013750145388314 tw10384236807587677917 tw10388321709570504350 tw10412716498518309991 tw10459421484265251714 tw10526814202586515026 tw10570890332175860992 tw10607563854491186928 tw10680744963361566805 tw10754814483131076640 tw10812050868214506261 tw10857305756645935210 tw10874444359636422002 tw10906171153867143438 tw10955182282329366024 tw10955633205011001136 tw11123506323235664188 tw11193339549078052211 tw11203377700962247182 tw1122847833439411070 tw1124075047013005731 tw11289615883440745263 tw11388815403849931870 tw11417899096301779751 tw1143640177668558224 tw1150258751120815592 tw11519809260697475252 tw11574967481236429690 tw11602142915982006257 tw11604324141518183137 tw11656236380158949936 tw11683714415429337216 tw11716084026183793969 tw11720978514189327866 tw11756181189989024764 tw11761549777974009244 tw11780886606369191167 tw11844981495602772558 tw11893012983796852685 tw12026898812082494431 tw12077621281214364936 tw12096977517164606187 tw12153813101306601774 tw12162033568196223015 tw12179599766150584782 tw12327100470465487039 tw12333587140522498842 tw12342342810987631945 tw12418711586468969068 tw12420713743918594301 tw12441391198988174825 tw12533883461479001525 tw12619178418052046429 tw12697540254907784321 tw12727629840419460524 tw12804060785556062015 tw12883760548407424395 tw12921968069586170884 tw12968699585638691100 tw13104746301822450894 tw13170123545118582569 tw13178500682913328946 tw13188223392920562033 tw13269999688811845385 tw1337225800456617803 tw13399868267080483100 tw13410109125321533853 tw13419387385790587273 tw13550371521897432272 tw13563800192861778195 tw13577283343470545531 tw13588275593728014769 tw13645026749199285817 tw1370679946078132850 tw13727617890774994561 tw13794722194950068872 tw13855674133710263449 tw13861936962677960213 tw14233432589164591999 tw14243736261854011077 tw14289638214515860602 tw14344362696558514972 tw14361995947805849060 tw14384768517491986599 tw14474246557470180353 tw14481648865102065675 tw14510933979914840669 tw14663804904596362835 tw14715066427994456111 tw14987321112212943693 tw15034791591354143301 tw1517404092035912763 tw15183215408726806186 tw1520916638886036785 tw15376310986319312610 tw15402895794643854104 tw15415472946337082341 tw15559059524742856810 tw1564102681849194754 tw15696375885596649150 tw15820668698762921449 tw15850483785669543876 tw15859651608049332390 tw15865455187501937415 tw15877969370846656016 tw15878652046455587047 tw15905914332214251090 tw15943341493256818735 tw16039843233237174390 tw16062944167471693026 tw16127966999462501621 tw16155517084581847142 tw1621265894234079832 tw16248015966689186994 tw1635352690188060736 tw16383954370602441310 tw16445456597150128659 tw16468861249550193631 tw1649211327621491503 tw16555622323176694057 tw1664336252648276590 tw16671759592138836119 tw16687955023138962924 tw16703716408081349554 tw16741047796254120588 tw1678989966949767779 tw16972066558240661203 tw17092194110239353896 tw17093911219403674481 tw1726321997157310058 tw17278540047746955432 tw17284757452954509022 tw17297639441538545599 tw17379417023903269577 tw17402093122098824921 tw17428803639486966486 tw17507867127641068048 tw17547685235728270667 tw17572096749321503979 tw17592256198665070103 tw17620333861521762601 tw1762674017832718264 tw1768146166464738920 tw17764363744938593315 tw17795898166459128584 tw17857632836226244070 tw17877325154976748278 tw18019277553521178254 tw18056563185156095782 tw18062416353653988838 tw18084098626466309075 tw18148366105893120878 tw18340655492315028036 tw18361357828246414417 tw1853735257363540544 tw1925126909243856065 tw1977426444124540118 tw2025077492297088549 tw2029364456218689523 tw2086262598856916074 tw2093299518304121601 tw2099442486734535079 tw2156471046289511033 tw2165076708010787513 tw2247944332323832973 tw2490327573700036430 tw2535693264391674680 tw2600492230397691802 tw2662185836988288349 tw2666281672493600566 tw2715862549902411790 tw2939185916302250850 tw2985868442672488068 tw3010577879710678089 tw3081068091101300763 tw3184127768112391278 tw3207817914432389999 tw3302641051390545949 tw33330038910171985 tw3351721746138326327 tw3448897521536701743 tw3464252933877914258 tw3574316886324599890 tw3662285344398269059 tw3718707650799004581 tw3727842155734956157 tw3933100543903219550 tw4049398152047476601 tw4117098057555928530 tw4147349670007675939 tw4162811508152905684 tw4199760509883775661 tw4236168381775669463 tw4323178248612249464 tw444005064976414814 tw4447822789440521937 tw4490214249098478489 tw4588444659786634277 tw4700017472861852451 tw4709598432105154359 tw4752042189952780565 tw4770272289495945614 tw4840924046002523965 tw4848091567818286647 tw4854036964284940561 tw4913483289146554426 tw4936357336715452970 tw4984372521580164699 tw5012824183112022110 tw5033004377396241891 tw5052493651433764374 tw5095130668267321621 tw511541658246261429 tw5158689474381392270 tw5178776251614247159 tw5194559107497799813 tw5205494257427635069 tw5256916447713755406 tw5401278109448058638 tw5441665437855784826 tw5449934241895863920 tw5468779636270803250 tw5541184843336310531 tw5622443850522778228 tw5623238977860059790 tw5702596877969974556 tw5721793685587812893 tw5767355312521587987 tw5805524499790524323 tw5809061865656266614 tw5831731441615750378 tw5842775823889267883 tw5875799696775993167 tw5893638195157312240 tw5954598792723051475 tw5964218787140300848 tw6076808372770131316 tw6109267486417153198 tw6111343524752006109 tw6121523057937588524 tw6179002691121693069 tw6273394026500871914 tw6305654821717780866 tw6359067181239143246 tw6361304049319319590 tw6383305273834228613 tw6406163426680767568 tw6423150424996509061 tw6548044517235133308 tw6567437551392825031 tw6634904654865074125 tw6660858286577818337 tw6727600684642446387 tw6740232824533363546 tw6757567988004510526 tw686976445766503051 tw6996903859256559870 tw7037423120182829999 tw7056728651915327116 tw7057255452897857537 tw7271741804995352381 tw7291570024702560149 tw7311032910618086809 tw7313230622120402212 tw7389929739697386665 tw7400050743476395647 tw7420042195397675773 tw7441774610721057042 tw7457977784094782362 tw756147140602631980 tw760250346071640661 tw7747495465422198263 tw7855999983608203649 tw7887514604100758202 tw80028131292590954 tw8126933850044992570 tw8148930437585641078 tw8154008435899053807 tw8226204445821961347 tw8297132790539913208 tw8305946855605222217 tw8368384831285066760 tw8399863457575000033 tw8444176122517926496 tw8450854375172790568 tw8648887879809641448 tw8682726760864450446 tw8723119280397115856 tw8736313837928130361 tw8763286955728795167 tw8805456573825559382 tw8841658570563105698 tw8850099319645249438 tw8907301807346717297 tw9003079871388760225 tw9067902962142633536 tw9152836447879135877 tw9155723937428629839 tw9176004815916941088 tw9206526728472597152 tw9225374607914238666 tw9237322954321675524 tw9237432710041102848 tw9257305794636963900 tw9363557856315742243 tw9398739193075737576 tw9515033612183176718 tw9537020695355201189 tw9585241040375534513 tw9590575396099840405 tw9620624354962617945 tw9648994396490683182 tw9697865388882844961 tw9735621954863528113 tw980693612165544772 tw9810857177978810010 tw9836918987170102136 tw9840559218675883000 tw9908283995832798272 tw9978240045552015419 tw11853571708755224243 tw739739746451319428 tw6608991077331555997 tw720188574864214242 tw247923630763781276 tw4066031958355302605 tw9950067581518058092 tw13631737816715457479 tw9993706452746706793 tw7128986858040398734 tw143404532063583939 tw17693372253157914190 tw14053659326912809156 tw5517037312557073678 tw3112067432074299535 tw10432250896031005668 tw17225748533592588070 tw9660789034155699452 tw11875492370044152812 tw11360983731252701188 tw10388926770531144910 tw10370606799731365947 tw2630726551744945423 tw11305203363738264131 tw2131020167246803051 tw16195116180628263989 tw12087905690717135449 tw13590987425540534112 tw10932374387012597200 tw7556757806539761267 tw13840182622160860100 tw10663131377174977979 tw6647607134476717038 tw4731243960088042239 tw12982998829084750049 tw13114409369147732808 tw1490829384748557581 tw4279468277786156439 tw15608591863944174313 tw11634855251682027921 tw4087163197506064067 tw14862374749035834403 tw13586624779042946123 tw16369210816759905390 tw11780973692832408136 tw18286895544939292385 tw14176167449518701539 tw5809063028574975115 tw11375608243869783436 tw3124643912782793193 tw4114416106468502221 tw2699851190173094953 tw13388488255554697722 tw15607032876813290531 tw18141236859608644886 tw10609531797573870749 tw5072681221546016766 tw12243936304357547921 tw9121430290195216374 tw853814836639194019 tw3503529039113145179 tw7038001538310305330 tw8461645444588887369 tw10222487542998419605 tw2359881374467855082 tw12239552311613802372 tw5017504690638561975 tw2497787239469622295 tw16554498313865832787 tw17950766764530910599 tw9235268491174596469 tw6477535318873469840 tw6648253968214444661 tw3060348244759205357 tw14219523751521713357:True)
open PySem.W
set_option maxRecDepth 100000 in
set_option maxHeartbeats 0 in
theorem PySem.Challenge.cw_roomtally_k32_whole_deeds_make_the_house_holds : PySem.Challenge.rw_roomtally_k32_whole_deeds_make_the_house.Holds := by
  w_on; o_law; k_head; (case hw => w_witness2)
  k_fill
  show K.walk (l := PySem.Challenge.rw_roomtally_k32_whole_deeds_make_the_house) rfl rfl (λw h σ => PySem.W.kIn_of σ) ?F
  case F =>
    intro w mg fa h KX G hmg;refine' K.all_mk KX G hmg ?_ ?_ ?_ ?_ ?_ ?_ ?_ ?_ ?_ ?_ ?_ ?_ ?_ ?_ ?_ ?_ ?_ ?_ ?_ ?_ ?_ ?_ ?_ ?_ ?_ ?_ ?_ ?_ ?_ ?_ ?_ ?_ ?_ ?_ ?_ ?_ ?_ ?_ ?_ ?_ ?_ ?_ ?_ ?_ ?_ ?_ ?_ ?_ ?_ ?_ ?_ ?_ ?_ ?_ ?_ ?_ ?_ ?_ ?_ ?_ ?_ ?_ ?_ ?_ ?_ ?_ ?_ ?_ ?_ ?_ ?_ ?_ ?_ ?_ ?_ ?_ ?_ ?_ ?_ ?_ ?_ ?_ ?_ ?_ ?y2c ?y2d ?y2e ?y2f ?_ ?_ ?_ ?_ ?_ ?_ ?_ ?_ ?_ ?_ ?_ ?_ ?_ ?_ ?_ ?_ ?_ ?_ ?_ ?_ ?_ ?_ ?_ ?_ ?_ ?_ ?_ ?_ ?_ ?_ ?_ ?_ ?_ ?y3d ?_ ?_ ?_ ?_ ?_ ?_ ?y3k
    case y3k=>
      repeat' first|show True.intro|show{K.AO.of (by k_is) (by k_is) (by kernel_rfl),?_}|show#[?_,?_]
    all_goals try first|show K.AF.of (by k_is) (by k_is) (by k_is) (by k_is)|show K.AM.of (by k_is) (by k_is) (by k_is) (by k_is) (by k_is)|show{by k_is,by k_is,by k_is,by k_is}|show K.AX.of (by k_is) (by kernel_rfl)|show K.AI.of (by k_is)|show K.AD.of (by k_is) (by k_is)|(change _=_;k_is)
    all_goals try kernel_rfl
    show#[#[_, _, 0, 0], #[_, _, 0, 0], #[_, _, 0, 0], #[_, _, 0, 0], #[_, _, 0, 0], #[_, _, 0, 0], trivial]